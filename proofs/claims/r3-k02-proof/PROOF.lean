import PyProof.Rows.All
import Wide.All
import OpenK.AllK
import Wide.FinOn
import HandS.ForMost
import HandS.WordsExc
import HandS.Deep
import HandS.CallSlots
import HandS.TryMany
import HandS.Gcd
import HandS.Flow
import HandS.Lambda
import HandS.Star
import HandS.FStr
import HandS.HeadHook2
import HandS.HeadHook4
import HandS.HeadWalk
import HandS.TupAny
import HandS.Head2
import KE.KMathGC
import HandS.SetFor
import HandS.Conv
import HandS.SortKw
import KE.KTupSum
import HandS.Head3
import PySem.Challenge.RW_luckwright_k02_how_many_ways
set_option Elab.async false
set_option linter.all false
set_option maxRecDepth 100000
set_option maxHeartbeats 0
/-! LwA: a program's pure parts by what they reckon: plain functions over data (PyData), and that readings of HandS follow them. -/
namespace LW
open PySem PySem.Spec PyProof.Rows L2

/-! ### values known as data -/
/-- a tuple whose object has no dict of its own -/
def TyT (K : PySem.W.Frag) (G : Hp) (a : Addr) : Prop := (∃ o, K.lookup a = some o ∧ o.cls = .type "tuple" ∧ o.dict = none) ∨ ∃ o u, G a = some (.frz o u) ∧ o.cls = .type "tuple" ∧ o.dict = none
def TpT (K : PySem.W.Frag) (G : Hp) (a : Addr) (xs : List V) : Prop := SqT K G a xs ∧ TyT K G a
def keyD : Key → PyData
  | .inl i => .int i
  | .inr s => .str s
mutual
inductive Rp (K : PySem.W.Frag) (G : Hp) : V → PyData → Prop
  | non : Rp K G .non .none
  | bl (b : Bool) : Rp K G (.bl b) (.bool b)
  | int (i : Int) : Rp K G (.int i) (.int i)
  | str (x : Str) : Rp K G (.str x) (.str x)
  | lst {a : Addr} {xs : List V} {ds : List PyData} : G a = some (.lst xs) → RpA K G xs ds → Rp K G (.ref a) (.list ds)
  | tup {a : Addr} {xs : List V} {ds : List PyData} : TpT K G a xs → RpA K G xs ds → Rp K G (.ref a) (.tuple ds)
  | dct {a : Addr} {kvs : List (Key × V)} {ds : List (PyData × PyData)} : G a = some (.dK kvs) → RpK K G kvs ds → Rp K G (.ref a) (.dict ds)
inductive RpA (K : PySem.W.Frag) (G : Hp) : List V → List PyData → Prop
  | nil : RpA K G [] []
  | cons {v : V} {vs : List V} {d : PyData} {ds : List PyData} : Rp K G v d → RpA K G vs ds → RpA K G (v :: vs) (d :: ds)
inductive RpK (K : PySem.W.Frag) (G : Hp) : List (Key × V) → List (PyData × PyData) → Prop
  | nil : RpK K G [] []
  | cons {k : Key} {v : V} {kvs : List (Key × V)} {d : PyData} {ds : List (PyData × PyData)} : Rp K G v d → RpK K G kvs ds → RpK K G ((k, v) :: kvs) ((keyD k, d) :: ds)
end
section
variable {K : PySem.W.Frag} {G G' : Hp}
theorem sqt_same {a : Addr} {xs : List V} (s : Same G G') (h : TpT K G a xs) : SqT K G' a xs := by
  rcases h.1 with (h | ⟨o, h⟩) | h
  · exact .inl (.inl (s _ _ h))
  · exact .inl (.inr ⟨o, s _ _ h⟩)
  · exact .inr h
theorem tpt_same {a : Addr} {xs : List V} (s : Same G G') (h : TpT K G a xs) : TpT K G' a xs := by
  refine ⟨sqt_same s h, ?_⟩
  rcases h.2 with h | ⟨o, u, h1, h2⟩
  · exact .inl h
  · exact .inr ⟨o, u, s _ _ h1, h2⟩
theorem tpt_new {p : Addr} {o : Obj} {xs : List V} (h1 : o.cls = .type "tuple") (h2 : o.dict = none) : TpT K (upd G p (.frz o (.tup xs))) p xs := ⟨.inl (.inr ⟨o, upd_same⟩), .inr ⟨o, _, upd_same, h1, h2⟩⟩
mutual
theorem Rp.mono (s : Same G G') : ∀ (d : PyData) (v : V), Rp K G v d → Rp K G' v d
  | .none, _, h => by cases h; exact .non
  | .bool b, _, h => by cases h; exact .bl b
  | .int i, _, h => by cases h; exact .int i
  | .str x, _, h => by cases h; exact .str x
  | .list ds, _, h => by
    cases h with
    | lst h1 h2 => exact .lst (s _ _ h1) (RpA.mono s ds _ h2)
  | .tuple ds, _, h => by
    cases h with
    | tup h1 h2 => exact .tup (tpt_same s h1) (RpA.mono s ds _ h2)
  | .dict ds, _, h => by
    cases h with
    | dct h1 h2 => exact .dct (s _ _ h1) (RpK.mono s ds _ h2)
theorem RpA.mono (s : Same G G') : ∀ (ds : List PyData) (vs : List V), RpA K G vs ds → RpA K G' vs ds
  | [], _, h => by cases h; exact .nil
  | d :: ds, _, h => by
    cases h with
    | cons h1 h2 => exact .cons (Rp.mono s d _ h1) (RpA.mono s ds _ h2)
theorem RpK.mono (s : Same G G') : ∀ (ds : List (PyData × PyData)) (vs : List (Key × V)), RpK K G vs ds → RpK K G' vs ds
  | [], _, h => by cases h; exact .nil
  | (e, d) :: ds, _, h => by
    cases h with
    | cons h1 h2 => exact .cons (Rp.mono s d _ h1) (RpK.mono s ds _ h2)
end
mutual
theorem Rp.dp : ∀ (d : PyData) (v : V), d.canLay0 = true → Rp K G v d → Dp K G v d
  | .none, _, _, h => by cases h; exact .non
  | .bool b, _, _, h => by cases h; exact .bl b
  | .int i, _, _, h => by cases h; exact .int i
  | .str x, _, _, h => by cases h; exact .str x
  | .list ds, _, c, h => by
    cases h with
    | lst h1 h2 => exact .lst (SqL.of h1) (RpA.dp ds _ (by simpa [PyData.canLay0] using c) h2)
  | .tuple ds, _, c, h => by
    cases h with
    | tup h1 h2 => exact .tup h1.1 (RpA.dp ds _ (by simpa [PyData.canLay0] using c) h2)
  | .dict _, _, c, h => by simp [PyData.canLay0] at c
theorem RpA.dp : ∀ (ds : List PyData) (vs : List V), PyData.canLayAll0 ds = true → RpA K G vs ds → DpAll K G vs ds
  | [], _, _, h => by cases h; exact .nil
  | d :: ds, _, c, h => by
    have c' : d.canLay0 = true ∧ PyData.canLayAll0 ds = true := by simpa [PyData.canLayAll0] using c
    cases h with
    | cons h1 h2 => exact .cons (Rp.dp d _ c'.1 h1) (RpA.dp ds _ c'.2 h2)
end
theorem RpA.length {vs : List V} {ds : List PyData} (h : RpA K G vs ds) : vs.length = ds.length := by
  induction ds generalizing vs with
  | nil => cases h; rfl
  | cons d ds ih =>
    cases h with
    | cons h1 h2 => simp [ih h2]
theorem RpA.get {vs : List V} {ds : List PyData} (h : RpA K G vs ds) {i : Nat} {d : PyData} (e : ds[i]? = some d) : ∃ v, vs[i]? = some v ∧ Rp K G v d := by
  induction ds generalizing vs i with
  | nil => cases e
  | cons d0 ds ih =>
    cases h with
    | cons h1 h2 =>
      cases i with
      | zero => cases e; exact ⟨_, rfl, h1⟩
      | succ i => exact ih h2 e
theorem RpA.getV {vs : List V} {ds : List PyData} (h : RpA K G vs ds) {i : Nat} {v : V} (e : vs[i]? = some v) : ∃ d, ds[i]? = some d ∧ Rp K G v d := by
  induction ds generalizing vs i with
  | nil => cases h; cases e
  | cons d0 ds ih =>
    cases h with
    | cons h1 h2 =>
      cases i with
      | zero => cases e; exact ⟨_, rfl, h1⟩
      | succ i => exact ih h2 e
theorem RpA.append {vs ws : List V} {ds es : List PyData} (h : RpA K G vs ds) (h' : RpA K G ws es) : RpA K G (vs ++ ws) (ds ++ es) := by
  induction ds generalizing vs with
  | nil => cases h; exact h'
  | cons d ds ih =>
    cases h with
    | cons h1 h2 => exact .cons h1 (ih h2)
theorem RpA.set {vs : List V} {ds : List PyData} (h : RpA K G vs ds) (i : Nat) {v : V} {d : PyData} (hv : Rp K G v d) : RpA K G (vs.set i v) (ds.set i d) := by
  induction ds generalizing vs i with
  | nil => cases h; exact .nil
  | cons d0 ds ih =>
    cases h with
    | cons h1 h2 =>
      cases i with
      | zero => exact .cons hv h2
      | succ i => exact .cons h1 (ih h2 i)
theorem RpA.drop {vs : List V} {ds : List PyData} (h : RpA K G vs ds) (n : Nat) : RpA K G (vs.drop n) (ds.drop n) := by
  induction ds generalizing vs n with
  | nil => cases h; simp; exact .nil
  | cons d0 ds ih =>
    cases n with
    | zero => exact h
    | succ n =>
      cases h with
      | cons h1 h2 => exact ih h2 n
theorem RpA.take {vs : List V} {ds : List PyData} (h : RpA K G vs ds) (n : Nat) : RpA K G (vs.take n) (ds.take n) := by
  induction ds generalizing vs n with
  | nil => cases h; simp; exact .nil
  | cons d0 ds ih =>
    cases n with
    | zero => exact .nil
    | succ n =>
      cases h with
      | cons h1 h2 => exact .cons h1 (ih h2 n)
end

/-! ### answers -/
inductive R (α : Type) where
  | ok (a : α)
  | rai (c : Nat)
  | stuck
def R.bind {α β : Type} (r : R α) (f : α → R β) : R β := match r with
  | .ok a => f a
  | .rai c => .rai c
  | .stuck => .stuck
/-- what a slot holds: data, or a list of the def's own (m: handed in to be changed) -/
inductive Sl where
  | sh (d : PyData)
  | ow (m : Bool) (ds : List PyData)
abbrev LEnv := List (Option Sl)
abbrev RE (α : Type) := R (LEnv × α)
abbrev M := LEnv → RE PyData
abbrev MA := LEnv → RE (List PyData)
abbrev MT := LEnv → RE Bool
inductive RS where
  | nx (e : LEnv)
  | rt (e : LEnv) (d : PyData)
  | bk (e : LEnv)
  | ct (e : LEnv)
  | rai (c : Nat)
  | stuck
abbrev MS := LEnv → RS
def nth {α : Type} : List α → Nat → Option α
  | [], _ => none
  | a :: _, 0 => some a
  | _ :: l, n + 1 => nth l n
theorem nth_eq {α : Type} : ∀ (l : List α) (n : Nat), nth l n = l[n]?
  | [], n => by simp [nth]
  | a :: l, 0 => by simp [nth]
  | a :: l, n + 1 => by simp [nth, nth_eq l n]

/-- no table of code objects -/
def nt (o : HO) : Prop := ∀ ps, o ≠ .tbl ps
theorem nt_lst {xs : List V} : nt (.lst xs) := fun _ h => nomatch h
theorem nt_tup {xs : List V} : nt (.tup xs) := fun _ h => nomatch h
theorem nt_frz {o : Obj} {u : HO} : nt (.frz o u) := fun _ h => nomatch h
def Own (env : LEnv) (i : Nat) : Prop := ∃ m ds, env[i]? = some (some (.ow m ds))
/-- the errors' classes by number; the tables of the defs that hold lambdas -/
structure Cl where
  cl : Nat → Value
  T : List (Addr × Str)
/-- all but the lists that may change, and the tables, stand as at the start -/
structure Fz (T : List (Addr × Str)) (ch : Addr → Prop) (H0 H : Hp) : Prop where
  k : ∀ b o, ¬ ch b → nt o → H0 b = some o → H b = some o
  tb : LamX.Tabs T H
/-- nothing but a table stands there -/
def Nw (H : Hp) (a : Addr) : Prop := ∀ u, nt u → H a ≠ some u
theorem nw_of {H : Hp} {a : Addr} (e : H a = none) : Nw H a := fun u _ z => by rw [e] at z; cases z
theorem Fz.nw {T : List (Addr × Str)} {ch : Addr → Prop} {H0 H : Hp} (f : Fz T ch H0 H) {a : Addr} (hc : ¬ ch a) (e : Nw H a) : Nw H0 a := fun u n z => e u n (f.k a u hc n z)
theorem Fz.refl {T : List (Addr × Str)} {ch : Addr → Prop} {H : Hp} (t : LamX.Tabs T H) : Fz T ch H H := ⟨fun _ _ _ _ e => e, t⟩
theorem Fz.same {T : List (Addr × Str)} {ch : Addr → Prop} {H0 H H' : Hp} (f : Fz T ch H0 H) (s : Same H H') : Fz T ch H0 H' := ⟨fun b o m n e => s _ _ (f.k b o m n e), f.tb.ext s⟩
theorem Fz.trans {T : List (Addr × Str)} {ch : Addr → Prop} {H0 H H' : Hp} (f : Fz T ch H0 H) (s : Fz T (fun _ => False) H H') : Fz T ch H0 H' :=
  ⟨fun b o m n e => s.k b o (fun z => z) n (f.k b o m n e), s.tb⟩
/-- the tables ask nothing of lists -/
theorem tabs_but {T : List (Addr × Str)} {H H' : Hp} (t : LamX.Tabs T H) (k : ∀ b o, H b = some o → (∀ xs, o ≠ .lst xs) → H' b = some o) : LamX.Tabs T H' := fun p hp => by
  obtain ⟨ps, a1, a2, a3⟩ := t p hp
  refine ⟨ps, k _ _ a1 (fun _ z => by cases z), a2, fun pos cv hcv => ?_⟩
  obtain ⟨c, e, hc⟩ := a3 pos cv hcv
  exact ⟨c, e, k _ _ hc fun xs z => by unfold LamX.CodeO at z; cases z⟩
/-- the lists that may be changed; those among them that were handed in -/
structure Mu where
  ch : Addr → Prop
  fl : Addr → Prop
  sub : ∀ a, fl a → ch a
def mu0 : Mu := ⟨fun _ => False, fun _ => False, fun _ h => h⟩
/-- the state: G what may be read as data, H all; σ the slots; G0, H0 those of the def's start; mu the lists handed in to be changed -/
structure StR (K : PySem.W.Frag) (C : Cl) (mu : Mu) (G0 H0 : Hp) (env : LEnv) (σ : L2.St) (G H : Hp) : Prop where
  sub : Same G H
  ng : ∀ a o, G a = some o → nt o
  g0 : Same G0 G
  fz : Fz C.T mu.ch H0 H
  new : ∀ a o, G a = some o → G0 a = some o ∨ (Nw H0 a ∧ nt o)
  mh : ∀ a, mu.ch a → ∃ xs, H a = some (.lst xs)
  len : env.length = σ.length
  sh : ∀ (i : Nat) d, env[i]? = some (some (.sh d)) → ∃ v, σ[i]? = some (some v) ∧ Rp K G v d
  ol : ∀ (i : Nat) m ds, env[i]? = some (some (.ow m ds)) → ∃ p vs, σ[i]? = some (some (.ref p)) ∧ H p = some (.lst vs) ∧ RpA K G vs ds ∧ G p = none ∧ (if m = true then mu.fl p else mu.ch p ∨ Nw H0 p)
  ow : ∀ (i j : Nat) p, Own env i → Own env j → σ[i]? = some (some (.ref p)) → σ[j]? = some (some (.ref p)) → i = j
/-- more objects; those that may be read among them are new -/
structure Xt (T : List (Addr × Str)) (G H G' H' : Hp) : Prop where
  g : Same G G'
  s : Same G' H'
  h : Fz T (fun _ => False) H H'
  n : ∀ a o, G' a = some o → G a = some o ∨ (Nw H a ∧ nt o)
theorem Xt.trans {T : List (Addr × Str)} {G H G1 H1 G2 H2 : Hp} (a : Xt T G H G1 H1) (b : Xt T G1 H1 G2 H2) : Xt T G H G2 H2 := ⟨a.g.trans b.g, b.s, a.h.trans b.h, fun p o e => by
  rcases b.n p o e with e | e
  · exact a.n p o e
  · exact .inr ⟨a.h.nw (fun z => z) e.1, e.2⟩⟩
theorem same_new {H : Hp} {p : Addr} {o : HO} (hp : H p = none) : Same H (upd H p o) := fun a u e => by rw [upd_ne (ne_of_none e hp)]; exact e
/-- a new object that may be read -/
theorem Xt.new {T : List (Addr × Str)} {G H : Hp} {p : Addr} {o : HO} (s : Same G H) (t : LamX.Tabs T H) (hp : H p = none) (ho : nt o) : Xt T G H (upd G p o) (upd H p o) := by
  have gp : G p = none := s.free hp
  refine ⟨same_new gp, fun a u e => ?_, (Fz.refl t).same (same_new hp), fun a u e => ?_⟩
  · by_cases h : a = p
    · subst h; rw [upd_same] at e ⊢; exact e
    · rw [upd_ne h] at e ⊢; exact s _ _ e
  · by_cases h : a = p
    · subst h; rw [upd_same] at e; cases e; exact .inr ⟨nw_of hp, ho⟩
    · rw [upd_ne h] at e; exact .inl e
/-- a new object that may not be read -/
theorem Xt.hid {T : List (Addr × Str)} {G H : Hp} {p : Addr} {o : HO} (s : Same G H) (t : LamX.Tabs T H) (hp : H p = none) : Xt T G H G (upd H p o) :=
  ⟨.refl _, fun a u e => by rw [upd_ne (ne_of_none (s _ _ e) hp)]; exact s _ _ e, (Fz.refl t).same (same_new hp), fun _ _ h => .inl h⟩
section
variable {K : PySem.W.Frag} {C : Cl} {mu : Mu} {G0 H0 G H G' H' : Hp} {env : LEnv} {σ : L2.St}
theorem StR.noch (S : StR K C mu G0 H0 env σ G H) {a : Addr} (e : Nw H a) : ¬ mu.ch a := fun z => by
  obtain ⟨xs, h⟩ := S.mh a z
  exact e _ nt_lst h
theorem StR.none0 (S : StR K C mu G0 H0 env σ G H) {a : Addr} (e : Nw H a) : Nw H0 a := S.fz.nw (S.noch e) e
theorem StR.ext (S : StR K C mu G0 H0 env σ G H) (x : Xt C.T G H G' H') : StR K C mu G0 H0 env σ G' H' where
  sub := x.s
  ng := fun a o e => by
    rcases x.n a o e with e | e
    · exact S.ng a o e
    · exact e.2
  g0 := S.g0.trans x.g
  fz := S.fz.trans x.h
  new := fun a o e => by
    rcases x.n a o e with e | e
    · exact S.new a o e
    · exact .inr ⟨S.none0 e.1, e.2⟩
  mh := fun a m => let ⟨xs, e⟩ := S.mh a m; ⟨xs, x.h.k a _ (fun z => z) nt_lst e⟩
  len := S.len
  sh := fun i d e => let ⟨v, h1, h2⟩ := S.sh i d e; ⟨v, h1, Rp.mono x.g d v h2⟩
  ol := fun i m ds e => by
    obtain ⟨p, vs, h1, h2, h3, h4, h5⟩ := S.ol i m ds e
    refine ⟨p, vs, h1, x.h.k p _ (fun z => z) nt_lst h2, RpA.mono x.g _ _ h3, ?_, h5⟩
    cases q : G' p with
    | none => rfl
    | some o =>
      rcases x.n p o q with z | z
      · rw [h4] at z; cases z
      · exact (z.1 _ nt_lst h2).elim
  ow := S.ow
end
end LW

namespace LW
open PySem PySem.Spec PyProof.Rows L2
section
variable {K : PySem.W.Frag} {mu : Mu} {G0 H0 G H G' H' : Hp} {env : LEnv} {σ : L2.St} {C : Cl} {E : XK} {α β γ δ : Type}
/-- what an answer owes to what is wished -/
def Post (Rl : Hp → β → α → Prop) (K : PySem.W.Frag) (C : Cl) (E : XK) (mu : Mu) (G0 H0 : Hp) (σ : L2.St) (G : Hp) : RE α → (β → Hp → Prop) → Prop
  | .ok p, Q => ∀ v G' H', StR K C mu G0 H0 p.1 σ G' H' → Same G G' → Rl G' v p.2 → Q v H'
  | .rai c, _ => ∀ H', Fz C.T mu.ch H0 H' → E (C.cl c) none H'
  | .stuck, _ => False
theorem Post.mono {Rl : Hp → β → α → Prop} {r : RE α} {Q : β → Hp → Prop} (s : Same G G') (h : Post Rl K C E mu G0 H0 σ G r Q) : Post Rl K C E mu G0 H0 σ G' r Q := by
  cases r with
  | ok p => exact fun v G2 H2 S s2 r => h v G2 H2 S (s.trans s2) r
  | rai c => exact h
  | stuck => exact h
theorem Post.bind {Rl1 : Hp → β → α → Prop} {Rl2 : Hp → δ → γ → Prop} {r : RE α} {f : LEnv × α → RE γ} {Q : δ → Hp → Prop} {Q1 : β → Hp → Prop} (h : Post Rl2 K C E mu G0 H0 σ G (r.bind f) Q)
    (k : ∀ p v G' H', StR K C mu G0 H0 p.1 σ G' H' → Same G G' → Rl1 G' v p.2 → Post Rl2 K C E mu G0 H0 σ G' (f p) Q → Q1 v H') : Post Rl1 K C E mu G0 H0 σ G r Q1 := by
  cases r with
  | ok p =>
    intro v G' H' S s r
    refine k p v G' H' S s r ?_
    have h : Post Rl2 K C E mu G0 H0 σ G (f p) Q := h
    cases e : f p with
    | ok q => rw [e] at h; exact fun v2 G2 H2 S2 s2 r2 => h v2 G2 H2 S2 (s.trans s2) r2
    | rai c => rw [e] at h; exact h
    | stuck => rw [e] at h; exact h
  | rai c => exact h
  | stuck => exact h
/-- only where a check holds -/
def gd {α : Type} (c : Bool) (r : R α) : R α := match c with
  | true => r
  | false => .stuck
theorem Post.gd {Rl : Hp → β → α → Prop} {c : Bool} {r : RE α} {Q : β → Hp → Prop} (h : Post Rl K C E mu G0 H0 σ G (gd c r) Q) : c = true ∧ Post Rl K C E mu G0 H0 σ G r Q := by
  cases c with
  | true => exact ⟨rfl, h⟩
  | false => exact h.elim
def lif {α : Type} (env : LEnv) (r : R α) : RE α := r.bind fun a => .ok (env, a)
theorem Post.gdL {Rl : Hp → β → α → Prop} {c : Bool} {r : R α} {Q : β → Hp → Prop} (h : Post Rl K C E mu G0 H0 σ G (lif env (LW.gd c r)) Q) : c = true ∧ Post Rl K C E mu G0 H0 σ G (lif env r) Q := by
  cases c with
  | true => exact ⟨rfl, h⟩
  | false => exact h.elim
abbrev RlE (K : PySem.W.Frag) : Hp → V → PyData → Prop := fun G v d => Rp K G v d
abbrev RlA (K : PySem.W.Frag) : Hp → List V → List PyData → Prop := fun G v d => RpA K G v d
abbrev RlT : Hp → Bool → Bool → Prop := fun _ b c => b = c
abbrev PostE (K : PySem.W.Frag) := Post (RlE K) K
def Snd (K : PySem.W.Frag) (C : Cl) (E : XK) (te : TE) (m : M) : Prop := ∀ mu G0 H0 env σ G H Q, StR K C mu G0 H0 env σ G H → Post (RlE K) K C E mu G0 H0 σ G (m env) Q → te σ H Q
def SndA (K : PySem.W.Frag) (C : Cl) (E : XK) (ta : TA) (m : MA) : Prop := ∀ mu G0 H0 env σ G H Q, StR K C mu G0 H0 env σ G H → Post (RlA K) K C E mu G0 H0 σ G (m env) Q → ta σ H Q
def SndT (K : PySem.W.Frag) (C : Cl) (E : XK) (tt : TT) (m : MT) : Prop := ∀ mu G0 H0 env σ G H Q, StR K C mu G0 H0 env σ G H → Post RlT K C E mu G0 H0 σ G (m env) Q → tt σ H Q
/-- an operation of two values -/
def OpS (K : PySem.W.Frag) (C : Cl) (E : XK) (r : R2) (op : PyData → PyData → R PyData) : Prop := ∀ mu G0 H0 env σ G H x y dx dy Q, StR K C mu G0 H0 env σ G H → Rp K G x dx → Rp K G y dy → Post (RlE K) K C E mu G0 H0 σ G (lif env (op dx dy)) Q → r x y H Q
def UnS (K : PySem.W.Frag) (C : Cl) (E : XK) (r : V → Hp → VK → Prop) (op : PyData → R PyData) : Prop := ∀ mu G0 H0 env σ G H x dx Q, StR K C mu G0 H0 env σ G H → Rp K G x dx → Post (RlE K) K C E mu G0 H0 σ G (lif env (op dx)) Q → r x H Q
def CaS (K : PySem.W.Frag) (C : Cl) (E : XK) (r : List V → Hp → VK → Prop) (op : List PyData → R PyData) : Prop := ∀ mu G0 H0 env σ G H xs ds Q, StR K C mu G0 H0 env σ G H → RpA K G xs ds → Post (RlE K) K C E mu G0 H0 σ G (lif env (op ds)) Q → r xs H Q
/-- an answer by the same heap -/
theorem post_here {Rl : Hp → β → α → Prop} {env : LEnv} {a : α} {Q : β → Hp → Prop} (S : StR K C mu G0 H0 env σ G H) (h : Post Rl K C E mu G0 H0 σ G (.ok (env, a)) Q) {v : β} (r : Rl G v a) : Q v H := h v G H S (.refl _) r
/-- an answer by a new object -/
theorem post_new {Rl : Hp → β → α → Prop} {env : LEnv} {a : α} {Q : β → Hp → Prop} (S : StR K C mu G0 H0 env σ G H) (h : Post Rl K C E mu G0 H0 σ G (.ok (env, a)) Q) {p : Addr} (hp : H p = none) (o : HO) (ho : nt o) {v : β} (r : Rl (upd G p o) v a) : Q v (upd H p o) := 
  let x := Xt.new (o := o) S.sub S.fz.tb hp ho
  h v _ _ (S.ext x) x.g r

/-! ### names, constants, operations -/
def mVar (i : Nat) : M := fun env => match nth env i with
  | some (some (.sh d)) => .ok (env, d)
  | _ => .stuck
theorem snd_var {i : Nat} : Snd K C E (tVar i) (mVar i) := by
  intro mu G0 H0 env σ G H Q S h
  unfold mVar at h
  rw [nth_eq] at h
  split at h
  · rename_i d e
    obtain ⟨v, h1, h2⟩ := S.sh i d e
    exact ⟨v, h1, post_here S h h2⟩
  · exact h.elim
def mC (d : PyData) : M := fun env => .ok (env, d)
theorem snd_c {v : V} {d : PyData} (r : ∀ G : Hp, Rp K G v d) : Snd K C E (tC v) (mC d) := fun mu G0 H0 env σ G H Q S h => post_here S h (r G)
def mOp (op : PyData → PyData → R PyData) (f g : M) : M := fun env => (f env).bind fun p => (g p.1).bind fun q => lif q.1 (op p.2 q.2)
theorem snd_op {r : R2} {op : PyData → PyData → R PyData} {ta tb : TE} {f g : M} (hr : OpS K C E r op) (ha : Snd K C E ta f) (hb : Snd K C E tb g) : Snd K C E (tOp r ta tb) (mOp op f g) := by
  intro mu G0 H0 env σ G H Q S h
  refine ha _ _ _ _ _ _ _ _ S (h.bind fun p x G1 H1 S1 s1 r1 h1 => ?_)
  refine hb _ _ _ _ _ _ _ _ S1 (h1.bind fun q y G2 H2 S2 s2 r2 h2 => ?_)
  exact hr _ _ _ _ _ _ _ _ _ _ _ _ S2 (Rp.mono s2 _ _ r1) r2 h2
def mUn (op : PyData → R PyData) (f : M) : M := fun env => (f env).bind fun p => lif p.1 (op p.2)
theorem snd_un {r : V → Hp → VK → Prop} {op : PyData → R PyData} {ta : TE} {f : M} (hr : UnS K C E r op) (ha : Snd K C E ta f) : Snd K C E (tUn r ta) (mUn op f) := by
  intro mu G0 H0 env σ G H Q S h
  refine ha _ _ _ _ _ _ _ _ S (h.bind fun p x G1 H1 S1 s1 r1 h1 => ?_)
  exact hr _ _ _ _ _ _ _ _ _ _ S1 r1 h1
theorem OpS.or {r r' : R2} {op op' : PyData → PyData → R PyData} {sel : PyData → PyData → Bool} (h : OpS K C E r op) (h' : OpS K C E r' op') :
    OpS K C E (fun x y H Q => r x y H Q ∨ r' x y H Q) (fun a b => bif sel a b then op a b else op' a b) := by
  intro mu G0 H0 env σ G H x y dx dy Q S rx ry q
  have q : Post (RlE K) K C E mu G0 H0 σ G (lif env (bif sel dx dy then op dx dy else op' dx dy)) Q := q
  cases e : sel dx dy with
  | true => rw [e] at q; exact .inl (h _ _ _ _ _ _ _ _ _ _ _ _ S rx ry q)
  | false => rw [e] at q; exact .inr (h' _ _ _ _ _ _ _ _ _ _ _ _ S rx ry q)

/-! ### lists of arguments, displays -/
def maNil : MA := fun env => .ok (env, [])
def maCons (f : M) (g : MA) : MA := fun env => (f env).bind fun p => (g p.1).bind fun q => .ok (q.1, p.2 :: q.2)
theorem snda_nil : SndA K C E tNil maNil := fun mu G0 H0 env σ G H Q S h => post_here S h .nil
theorem snda_cons {te : TE} {ta : TA} {f : M} {g : MA} (h1 : Snd K C E te f) (h2 : SndA K C E ta g) : SndA K C E (tCons te ta) (maCons f g) := by
  intro mu G0 H0 env σ G H Q S h
  refine h1 _ _ _ _ _ _ _ _ S (h.bind fun p x G1 H1 S1 s1 r1 h1' => ?_)
  refine h2 _ _ _ _ _ _ _ _ S1 (h1'.bind fun q y G2 H2 S2 s2 r2 h2' => ?_)
  exact post_here S2 h2' (RpA.cons (Rp.mono s2 _ _ r1) r2)
def small : Nat := 1000000
theorem small_le : small ≤ sizeLine := by rw [sizeLine_eq]; decide
def mTup (g : MA) : M := fun env => (g env).bind fun q => gd (Nat.ble q.2.length small) (.ok (q.1, .tuple q.2))
/-- a tuple, by its very object -/
def tTupF (t : TA) : TE := fun σ H Q => t σ H fun xs H1 => xs.length ≤ sizeLine ∧ ∀ p o, H1 p = none → o.cls = .type "tuple" → o.dict = none → Q (.ref p) (upd H1 p (.frz o (.tup xs)))
theorem pe_tupF {X : Cx} {es : List Expr} {t : TA} {pos : Pos} {x1} (h : PA X es t) : PE X (.Tuple es x1 pos) (tTupF t) := by
  refine ⟨fun pn s σ H Q I hw => ?_⟩
  refine wpAny_Tuple_spliced (thn (h.run pos pn s σ H _ I hw) fun ws sa ⟨xs, Ha, Ia, r, z, q⟩ => ⟨by rw [← r.length]; exact z, ?_⟩)
  have hn : Ha sa.heap.objs.size = none := Ia.hok.fresh (Nat.le_refl _)
  refine ⟨.ref sa.heap.objs.size, upd Ha sa.heap.objs.size (.frz { cls := .type "tuple", data := .seq ws.toArray } (.tup xs)), Ia.laid (t' := sa.toks) (fun b u e => Heap.get?_push_of_some _ e) (Nat.le_refl _) ?_, rfl, q _ _ hn rfl rfl⟩
  exact ⟨Heap.get?_push_size _ rfl, z, ws, r, ⟨_, Heap.get?_push_size _ rfl, rfl, _, rfl⟩⟩
theorem snd_tup {ta : TA} {g : MA} (h : SndA K C E ta g) : Snd K C E (tTupF ta) (mTup g) := by
  intro mu G0 H0 env σ G H Q S hh
  refine h _ _ _ _ _ _ _ _ S (hh.bind fun q xs G1 H1 S1 s1 r1 h1 => ?_)
  obtain ⟨l, h1⟩ := Post.gd h1
  · refine ⟨by rw [r1.length]; exact Nat.le_trans (Nat.le_of_ble_eq_true l) small_le, fun p o hp hc hd => ?_⟩
    exact post_new S1 h1 hp _ nt_frz (.tup (tpt_new hc hd) (RpA.mono (Xt.new (o := .frz o (.tup xs)) S1.sub S1.fz.tb hp nt_frz).g _ _ r1))
def mLst (g : MA) : M := fun env => (g env).bind fun q => gd (Nat.ble q.2.length small) (.ok (q.1, .list q.2))
theorem snd_lst {ta : TA} {g : MA} (h : SndA K C E ta g) : Snd K C E (tLst ta) (mLst g) := by
  intro mu G0 H0 env σ G H Q S hh
  refine h _ _ _ _ _ _ _ _ S (hh.bind fun q xs G1 H1 S1 s1 r1 h1 => ?_)
  obtain ⟨l, h1⟩ := Post.gd h1
  · refine ⟨by rw [r1.length]; exact Nat.le_trans (Nat.le_of_ble_eq_true l) small_le, fun p hp => ?_⟩
    exact post_new S1 h1 hp _ nt_lst (.lst upd_same (RpA.mono (Xt.new (o := .lst xs) S1.sub S1.fz.tb hp nt_lst).g _ _ r1))

/-! ### operators of values -/
def iAdd : PyData → PyData → R PyData
  | .int a, .int b => .ok (.int (a + b))
  | _, _ => .stuck
theorem ops_addI : OpS K C E (rI0 fun i j => .int (i + j)) iAdd := by
  intro mu G0 H0 env σ G H x y dx dy Q S rx ry h
  cases rx <;> cases ry <;> first | exact h.elim | exact ⟨_, _, rfl, rfl, post_here S h (.int _)⟩
def iSub : PyData → PyData → R PyData
  | .int a, .int b => .ok (.int (a - b))
  | _, _ => .stuck
theorem ops_subI : OpS K C E (rI0 fun i j => .int (i - j)) iSub := by
  intro mu G0 H0 env σ G H x y dx dy Q S rx ry h
  cases rx <;> cases ry <;> first | exact h.elim | exact ⟨_, _, rfl, rfl, post_here S h (.int _)⟩
/-- below 2 ^ 64 on either side -/
def lowI (a : Int) : Bool := Nat.blt a.natAbs 18446744073709551616
theorem lowI_is {a : Int} (h : lowI a = true) : -(2 ^ 64) < a ∧ a < 2 ^ 64 := by
  have h : a.natAbs < 18446744073709551616 := by
    have := Nat.le_of_ble_eq_true h
    omega
  omega
def iMul : PyData → PyData → R PyData
  | .int a, .int b => gd (lowI a || lowI b) (.ok (.int (a * b)))
  | _, _ => .stuck
theorem ops_mulI : OpS K C E (rI CMul fun i j => .int (i * j)) iMul := by
  intro mu G0 H0 env σ G H x y dx dy Q S rx ry h
  cases rx <;> cases ry <;> first | exact h.elim | skip
  rename_i a b
  obtain ⟨c, h⟩ := Post.gdL h
  · skip
    refine ⟨_, _, rfl, rfl, ?_, post_here S h (.int _)⟩
    rcases Bool.or_eq_true_iff.mp c with c | c
    · exact .inl (lowI_is c)
    · exact .inr (lowI_is c)
def divOk (b : Int) : Bool := (match b with | .ofNat 0 => false | _ => true) && Nat.blt b.natAbs 1073741824
theorem divOk_is {b : Int} (h : divOk b = true) : b ≠ 0 ∧ b.natAbs < 1073741824 := by
  unfold divOk at h
  rw [Bool.and_eq_true] at h
  refine ⟨fun z => by subst z; exact absurd h.1 (by decide), ?_⟩
  have := Nat.le_of_ble_eq_true h.2
  omega
def iDiv : PyData → PyData → R PyData
  | .int a, .int b => gd (divOk b) (.ok (.int (a.fdiv b)))
  | _, _ => .stuck
theorem ops_divI : OpS K C E (rI CDivN fun i j => .int (i.fdiv j)) iDiv := by
  intro mu G0 H0 env σ G H x y dx dy Q S rx ry h
  cases rx <;> cases ry <;> first | exact h.elim | skip
  rename_i a b
  obtain ⟨c, h⟩ := Post.gdL h
  · skip
    exact ⟨_, _, rfl, rfl, divOk_is c, post_here S h (.int _)⟩
def notZ (b : Int) : Bool := match b with | .ofNat 0 => false | _ => true
theorem notZ_is {b : Int} (h : notZ b = true) : b ≠ 0 := fun z => by subst z; exact absurd h (by decide)
def iMod : PyData → PyData → R PyData
  | .int a, .int b => gd (notZ b) (.ok (.int (a.fmod b)))
  | _, _ => .stuck
theorem ops_modI : OpS K C E (rI (fun _ j => j ≠ 0) fun i j => .int (i.fmod j)) iMod := by
  intro mu G0 H0 env σ G H x y dx dy Q S rx ry h
  cases rx <;> cases ry <;> first | exact h.elim | skip
  rename_i a b
  obtain ⟨c, h⟩ := Post.gdL h
  · skip
    exact ⟨_, _, rfl, rfl, notZ_is c, post_here S h (.int _)⟩
def iAnd : PyData → PyData → R PyData
  | .int a, .int b => .ok (.int (Builtin.bitAnd a b))
  | _, _ => .stuck
theorem ops_andI : OpS K C E (rI0 fun i j => .int (Builtin.bitAnd i j)) iAnd := by
  intro mu G0 H0 env σ G H x y dx dy Q S rx ry h
  cases rx <;> cases ry <;> first | exact h.elim | exact ⟨_, _, rfl, rfl, post_here S h (.int _)⟩
def uNeg : PyData → R PyData
  | .int a => .ok (.int (-a))
  | _ => .stuck
theorem uns_neg : UnS K C E (rU fun i => .int (-i)) uNeg := by
  intro mu G0 H0 env σ G H x dx Q S rx h
  cases rx <;> first | exact h.elim | exact ⟨_, rfl, post_here S h (.int _)⟩
/-- comparisons of ints -/
def iCmp (p : Int → Int → Bool) : PyData → PyData → R PyData
  | .int a, .int b => .ok (.bool (p a b))
  | _, _ => .stuck
theorem ops_cmp {p : Int → Int → Bool} : OpS K C E (rI0 fun i j => .bl (p i j)) (iCmp p) := by
  intro mu G0 H0 env σ G H x y dx dy Q S rx ry h
  cases rx <;> cases ry <;> first | exact h.elim | exact ⟨_, _, rfl, rfl, post_here S h (.bl _)⟩
/-! == of data -/
def eqA (eq : PyData → PyData → Bool) : List PyData → List PyData → Bool
  | [], [] => true
  | x :: xs, y :: ys => eq x y && eqA eq xs ys
  | _, _ => false
def eqF : Nat → PyData → PyData → Bool
  | _, .int a, .int b => a == b
  | _, .str a, .str b => a == b
  | n + 1, .tuple xs, .tuple ys => eqA (eqF n) xs ys
  | n + 1, .list xs, .list ys => eqA (eqF n) xs ys
  | _, .bool a, .bool b => a == b
  | _, .none, .none => true
  | _, a, b => PyData.eqv a b
def shA (sh : PyData → Bool) : List PyData → Bool
  | [] => true
  | x :: xs => sh x && shA sh xs
def shF : Nat → PyData → Bool
  | _, .int _ => true
  | _, .str x => PyData.strOk x
  | n + 1, .tuple xs => shA (shF n) xs
  | n + 1, .list xs => shA (shF n) xs
  | _, .bool _ => true
  | _, .none => true
  | _, _ => false
theorem eqv_list (xs ys : List PyData) : PyData.eqv (.list xs) (.list ys) = PyData.eqvAll xs ys := by simp [PyData.eqv]
theorem eqA_all {n : Nat} (ih : ∀ d e, shF n d = true → eqF n d e = PyData.eqv d e) : ∀ xs ys, shA (shF n) xs = true → eqA (eqF n) xs ys = PyData.eqvAll xs ys
  | [], [], _ => by simp [eqA, PyData.eqvAll]
  | [], _ :: _, _ => by simp [eqA, PyData.eqvAll]
  | _ :: _, [], _ => by simp [eqA, PyData.eqvAll]
  | x :: xs, y :: ys, h => by
    have h : (shF n x && shA (shF n) xs) = true := h
    rw [Bool.and_eq_true] at h
    simp only [eqA, PyData.eqvAll, ih x y h.1, eqA_all ih xs ys h.2]
theorem eqF_eqv : ∀ (n : Nat) (d e : PyData), shF n d = true → eqF n d e = PyData.eqv d e
  | 0, d, e, h => by
    cases d <;> cases e <;> first | rfl | (exfalso; exact absurd h (by simp [shF])) | simp [eqF, PyData.eqv]
  | n + 1, d, e, h => by
    cases d <;> cases e <;> first
      | (simp only [eqF, PyData.eqv]; exact eqA_all (eqF_eqv n) _ _ h)
      | rfl
      | (simp [eqF, PyData.eqv])
theorem shA_lay {n : Nat} (ih : ∀ d, shF n d = true → d.canLay0 = true ∧ d.depth ≤ n) : ∀ xs, shA (shF n) xs = true → PyData.canLayAll0 xs = true ∧ PyData.depthAll xs ≤ n
  | [], _ => by simp [PyData.canLayAll0, PyData.depthAll]
  | x :: xs, h => by
    have h : (shF n x && shA (shF n) xs) = true := h
    rw [Bool.and_eq_true] at h
    have h1 := ih x h.1
    have h2 := shA_lay ih xs h.2
    simp only [PyData.canLayAll0, PyData.depthAll]
    exact ⟨by rw [h1.1, h2.1]; rfl, by omega⟩
theorem shF_lay : ∀ (n : Nat) (d : PyData), shF n d = true → d.canLay0 = true ∧ d.depth ≤ n
  | 0, d, h => by cases d <;> simp_all [shF, PyData.canLay0, PyData.depth]
  | n + 1, d, h => by
    cases d with
    | list xs =>
      have := shA_lay (shF_lay n) xs h
      simp only [PyData.canLay0, PyData.depth]
      exact ⟨this.1, by omega⟩
    | tuple xs =>
      have := shA_lay (shF_lay n) xs h
      simp only [PyData.canLay0, PyData.depth]
      exact ⟨this.1, by omega⟩
    | _ => simp_all [shF, PyData.canLay0, PyData.depth]
theorem shF_shaped {n : Nat} (hn : n ≤ 64) {d : PyData} (h : shF n d = true) : SeqAt.shaped d = true := by
  have := shF_lay n d h
  unfold SeqAt.shaped
  rw [this.1, Bool.true_and, decide_eq_true_eq]
  omega
def deep : Nat := 12
def iEq : PyData → PyData → R PyData := fun a b => gd (shF deep a && shF deep b) (.ok (.bool (eqF deep a b)))
def iNe : PyData → PyData → R PyData := fun a b => gd (shF deep a && shF deep b) (.ok (.bool (!eqF deep a b)))
theorem ops_eq : OpS K C E (rEqD K) iEq := by
  intro mu G0 H0 env σ G H x y dx dy Q S rx ry h
  obtain ⟨c, h⟩ := Post.gdL h
  · skip
    rw [Bool.and_eq_true] at c
    rw [eqF_eqv deep dx dy c.1] at h
    exact ⟨dx, dy, (Rp.mono S.sub _ _ rx).dp _ _ (shF_lay _ _ c.1).1, (Rp.mono S.sub _ _ ry).dp _ _ (shF_lay _ _ c.2).1, shF_shaped (by decide) c.1, shF_shaped (by decide) c.2, post_here S h (.bl _)⟩
theorem ops_ne : OpS K C E (rNeD K) iNe := by
  intro mu G0 H0 env σ G H x y dx dy Q S rx ry h
  obtain ⟨c, h⟩ := Post.gdL h
  · skip
    rw [Bool.and_eq_true] at c
    rw [eqF_eqv deep dx dy c.1] at h
    exact ⟨dx, dy, (Rp.mono S.sub _ _ rx).dp _ _ (shF_lay _ _ c.1).1, (Rp.mono S.sub _ _ ry).dp _ _ (shF_lay _ _ c.2).1, shF_shaped (by decide) c.1, shF_shaped (by decide) c.2, post_here S h (.bl _)⟩
end
end LW

namespace LW
open PySem PySem.Spec PyProof.Rows L2
section
variable {K : PySem.W.Frag} {mu : Mu} {G0 H0 G H G' H' : Hp} {env : LEnv} {σ : L2.St} {C : Cl} {E : XK} {α β γ δ : Type}
/-! ### tests -/
/-- a value that is True or False, as a test (pt_cmpR) -/
def mtB (f : M) : MT := fun env => (f env).bind fun p => match p.2 with
  | .bool b => .ok (p.1, b)
  | _ => .stuck
theorem sndt_test {te : TE} {f : M} (h : Snd K C E te f) : SndT K C E (tTest te) (mtB f) := by
  intro mu G0 H0 env σ G H Q S hh
  refine h _ _ _ _ _ _ _ _ S (hh.bind fun p x G1 H1 S1 s1 r1 h1 => ?_)
  obtain ⟨e, d⟩ := p
  cases r1 <;> first | exact h1.elim | exact ⟨_, rfl, post_here S1 h1 rfl⟩
theorem sndt_B {te : TE} {f : M} (h : Snd K C E te f) : SndT K C E (tB te) (mtB f) := by
  intro mu G0 H0 env σ G H Q S hh
  refine h _ _ _ _ _ _ _ _ S (hh.bind fun p x G1 H1 S1 s1 r1 h1 => ?_)
  obtain ⟨e, d⟩ := p
  cases r1 <;> first | exact h1.elim | exact ⟨_, rfl, post_here S1 h1 rfl⟩
/-- truth of an int, a bool, a list, a tuple -/
def truD : PyData → R Bool
  | .bool b => .ok b
  | .int i => .ok (i != 0)
  | .list xs => .ok (!xs.isEmpty)
  | .tuple xs => .ok (!xs.isEmpty)
  | .none => .ok false
  | _ => .stuck
def mtTru (f : M) : MT := fun env => (f env).bind fun p => lif p.1 (truD p.2)
theorem RpA.isEmpty {vs : List V} {ds : List PyData} (h : RpA K G vs ds) : vs.isEmpty = ds.isEmpty := by cases h <;> rfl
theorem sndt_tru {te : TE} {f : M} (h : Snd K C E te f) : SndT K C E (fun σ H Q => te σ H fun x H' => ∃ k, TruV K x H' k ∧ Q k H') (mtTru f) := by
  intro mu G0 H0 env σ G H Q S hh
  refine h _ _ _ _ _ _ _ _ S (hh.bind fun p x G1 H1 S1 s1 r1 h1 => ?_)
  obtain ⟨e, d⟩ := p
  cases r1 with
  | non => exact ⟨_, rfl, post_here S1 h1 rfl⟩
  | bl b => exact ⟨_, rfl, post_here S1 h1 rfl⟩
  | int i => exact ⟨_, rfl, post_here S1 h1 rfl⟩
  | str x => exact h1.elim
  | lst a b => exact ⟨_, .inl ⟨_, SqL.of (S1.sub _ _ a), rfl⟩, post_here S1 h1 (by rw [b.isEmpty])⟩
  | tup a b => exact ⟨_, .inr (.inl ⟨_, sqt_same S1.sub a, rfl⟩), post_here S1 h1 (by rw [b.isEmpty])⟩
  | dct a b => exact h1.elim
def mtAnd (f g : MT) : MT := fun env => (f env).bind fun p => bif p.2 then g p.1 else .ok (p.1, false)
theorem sndt_and {t u : TT} {f g : MT} (h1 : SndT K C E t f) (h2 : SndT K C E u g) : SndT K C E (tAnd t u) (mtAnd f g) := by
  intro mu G0 H0 env σ G H Q S hh
  refine h1 _ _ _ _ _ _ _ _ S (hh.bind fun p x G1 H1 S1 s1 r1 h1' => ?_)
  obtain ⟨e, b⟩ := p
  obtain rfl : x = b := r1
  cases x with
  | true => exact iteT (h2 _ _ _ _ _ _ _ _ S1 h1')
  | false => exact iteF (post_here S1 h1' rfl)
def mtOr (f g : MT) : MT := fun env => (f env).bind fun p => bif p.2 then .ok (p.1, true) else g p.1
theorem sndt_or {t u : TT} {f g : MT} (h1 : SndT K C E t f) (h2 : SndT K C E u g) : SndT K C E (tOr t u) (mtOr f g) := by
  intro mu G0 H0 env σ G H Q S hh
  refine h1 _ _ _ _ _ _ _ _ S (hh.bind fun p x G1 H1 S1 s1 r1 h1' => ?_)
  obtain ⟨e, b⟩ := p
  obtain rfl : x = b := r1
  cases x with
  | true => exact iteT (post_here S1 h1' rfl)
  | false => exact iteF (h2 _ _ _ _ _ _ _ _ S1 h1')
def mtNot (f : MT) : MT := fun env => (f env).bind fun p => .ok (p.1, !p.2)
theorem sndt_not {t : TT} {f : MT} (h1 : SndT K C E t f) : SndT K C E (tNot t) (mtNot f) := by
  intro mu G0 H0 env σ G H Q S hh
  refine h1 _ _ _ _ _ _ _ _ S (hh.bind fun p x G1 H1 S1 s1 r1 h1' => ?_)
  obtain ⟨e, b⟩ := p
  obtain rfl : x = b := r1
  exact post_here S1 h1' rfl
/-- and, or as values -/
def mAndV (f g : M) : M := fun env => (f env).bind fun p => match p.2 with
  | .bool true => g p.1
  | .bool false => .ok (p.1, .bool false)
  | _ => .stuck
theorem snd_andV {ta tb : TE} {f g : M} (h1 : Snd K C E ta f) (h2 : Snd K C E tb g) : Snd K C E (tAndV ta tb) (mAndV f g) := by
  intro mu G0 H0 env σ G H Q S hh
  refine h1 _ _ _ _ _ _ _ _ S (hh.bind fun p x G1 H1 S1 s1 r1 h1' => ?_)
  obtain ⟨e, d⟩ := p
  cases r1 with
  | bl b =>
    refine ⟨b, rfl, ?_⟩
    cases b with
    | true => exact iteT (h2 _ _ _ _ _ _ _ _ S1 h1')
    | false => exact iteF (post_here S1 h1' (.bl _))
  | _ => exact h1'.elim
def mIf (c : MT) (f g : M) : M := fun env => (c env).bind fun p => bif p.2 then f p.1 else g p.1
theorem snd_if {t : TT} {ta tb : TE} {c : MT} {f g : M} (h0 : SndT K C E t c) (h1 : Snd K C E ta f) (h2 : Snd K C E tb g) : Snd K C E (tIf t ta tb) (mIf c f g) := by
  intro mu G0 H0 env σ G H Q S hh
  refine h0 _ _ _ _ _ _ _ _ S (hh.bind fun p x G1 H1 S1 s1 r1 h1' => ?_)
  obtain ⟨e, b⟩ := p
  obtain rfl : x = b := r1
  cases x with
  | true => exact iteT (h1 _ _ _ _ _ _ _ _ S1 h1')
  | false => exact iteF (h2 _ _ _ _ _ _ _ _ S1 h1')

/-! ### items, lengths -/
def ixD (i : Int) (ds : List PyData) : R PyData := match i with
  | .ofNat n => match nth ds n with | some d => .ok d | none => .stuck
  | .negSucc n => bif Nat.blt n ds.length then (match nth ds (ds.length - (n + 1)) with | some d => .ok d | none => .stuck) else .stuck
theorem ixD_at {i : Int} {vs : List V} {ds : List PyData} (h : RpA K G vs ds) {d : PyData} (e : ixD i ds = .ok d) : ∃ v, atI vs i = some v ∧ Rp K G v d := by
  have hl := h.length
  cases i with
  | ofNat n =>
    unfold ixD at e
    dsimp only at e
    rw [nth_eq] at e
    cases q : ds[n]? with
    | none => rw [q] at e; cases e
    | some d' =>
      rw [q] at e
      cases e
      obtain ⟨v, h1, h2⟩ := h.get q
      have hlt : n < vs.length := (List.getElem?_eq_some_iff.mp h1).1
      refine ⟨v, ?_, h2⟩
      show (ixN vs.length (n : Int)).bind _ = _
      unfold ixN
      rw [if_pos (Int.natCast_nonneg n), if_pos (by omega)]
      exact h1
  | negSucc n =>
    unfold ixD at e
    dsimp only at e
    cases c : Nat.blt n ds.length with
    | false => rw [c] at e; cases e
    | true =>
      rw [c] at e
      have c' := Nat.le_of_ble_eq_true c
      have e : (match nth ds (ds.length - (n + 1)) with | some d => R.ok d | none => R.stuck) = R.ok d := e
      rw [nth_eq] at e
      cases q : ds[ds.length - (n + 1)]? with
      | none => rw [q] at e; cases e
      | some d' =>
        rw [q] at e
        cases e
        obtain ⟨v, h1, h2⟩ := h.get q
        refine ⟨v, ?_, h2⟩
        show (ixN vs.length (Int.negSucc n)).bind _ = _
        unfold ixN
        rw [if_neg (by omega), if_pos (by omega), show (Int.negSucc n + (vs.length : Int)).toNat = ds.length - (n + 1) from by omega]
        exact h1
def iIx : PyData → PyData → R PyData
  | .list ds, .int i => ixD i ds
  | .tuple ds, .int i => ixD i ds
  | _, _ => .stuck
theorem ops_ix : OpS K C E (rIx K) iIx := by
  intro mu G0 H0 env σ G H x y dx dy Q S rx ry h
  cases rx with
  | lst a b =>
    cases ry with
    | int i =>
      rename_i xs ds
      have h : Post (RlE K) K C E mu G0 H0 σ G (lif env (ixD i ds)) Q := h
      cases e : ixD i ds with
      | ok d =>
        rw [e] at h
        obtain ⟨v, h1, h2⟩ := ixD_at b e
        exact .inl ⟨_, _, _, v, rfl, rfl, SqL.of (S.sub _ _ a), h1, post_here S h h2⟩
      | rai c =>
        exfalso
        unfold ixD at e
        split at e
        · split at e <;> cases e
        · cases hb : Nat.blt _ ds.length <;> rw [hb] at e
          · cases e
          · simp only [cond_true] at e
            split at e <;> cases e
      | stuck => rw [e] at h; exact h.elim
    | _ => exact h.elim
  | tup a b =>
    cases ry with
    | int i =>
      rename_i xs ds
      have h : Post (RlE K) K C E mu G0 H0 σ G (lif env (ixD i ds)) Q := h
      cases e : ixD i ds with
      | ok d =>
        rw [e] at h
        obtain ⟨v, h1, h2⟩ := ixD_at b e
        exact .inr (.inl ⟨_, _, _, v, rfl, rfl, sqt_same S.sub a, h1, post_here S h h2⟩)
      | rai c =>
        exfalso
        unfold ixD at e
        split at e
        · split at e <;> cases e
        · cases hb : Nat.blt _ ds.length <;> rw [hb] at e
          · cases e
          · simp only [cond_true] at e
            split at e <;> cases e
      | stuck => rw [e] at h; exact h.elim
    | _ => exact h.elim
  | _ => exact h.elim
/-! ### calls of built-ins -/
def mCa (op : List PyData → R PyData) (g : MA) : M := fun env => (g env).bind fun q => lif q.1 (op q.2)
theorem snd_cb {r : List V → Hp → VK → Prop} {op : List PyData → R PyData} {ta : TA} {g : MA} (hr : CaS K C E r op) (ha : SndA K C E ta g) : Snd K C E (tCB r ta) (mCa op g) := by
  intro mu G0 H0 env σ G H Q S h
  refine ha _ _ _ _ _ _ _ _ S (h.bind fun p xs G1 H1 S1 s1 r1 h1 => ?_)
  exact hr _ _ _ _ _ _ _ _ _ _ S1 r1 h1
def cLen : List PyData → R PyData
  | [.list ds] => .ok (.int (ds.length : Nat))
  | [.tuple ds] => .ok (.int (ds.length : Nat))
  | _ => .stuck
theorem cas_len : CaS K C E (fun xs H Q => ∃ p ys, xs = [.ref p] ∧ (SqL K H p ys ∨ SqT K H p ys) ∧ Q (.int ys.length) H) cLen := by
  intro mu G0 H0 env σ G H xs ds Q S r h
  cases r with
  | nil => exact h.elim
  | cons r1 r2 =>
    cases r2 with
    | cons _ _ => cases r1 <;> exact h.elim
    | nil =>
      cases r1 with
      | lst a b => exact ⟨_, _, rfl, .inl (SqL.of (S.sub _ _ a)), post_here S h (by rw [b.length]; exact .int _)⟩
      | tup a b => exact ⟨_, _, rfl, .inr (sqt_same S.sub a), post_here S h (by rw [b.length]; exact .int _)⟩
      | _ => exact h.elim
def cAbs : List PyData → R PyData
  | [.int i] => .ok (.int (if i < 0 then -i else i))
  | _ => .stuck
theorem cas_abs : CaS K C E (fun xs H Q => ∃ i, xs = [.int i] ∧ Q (.int (if i < 0 then -i else i)) H) cAbs := by
  intro mu G0 H0 env σ G H xs ds Q S r h
  cases r with
  | nil => exact h.elim
  | cons r1 r2 =>
    cases r2 with
    | cons _ _ => cases r1 <;> exact h.elim
    | nil => cases r1 <;> first | exact h.elim | exact ⟨_, rfl, post_here S h (.int _)⟩
def cInt : List PyData → R PyData
  | [.int i] => .ok (.int i)
  | [.bool b] => .ok (.int (if b then 1 else 0))
  | _ => .stuck
theorem cas_int : CaS K C E (fun xs H Q => (∃ i, xs = [.int i] ∧ Q (.int i) H) ∨ ∃ k, xs = [.bl k] ∧ Q (.int (if k then 1 else 0)) H) cInt := by
  intro mu G0 H0 env σ G H xs ds Q S r h
  cases r with
  | nil => exact h.elim
  | cons r1 r2 =>
    cases r2 with
    | cons _ _ => cases r1 <;> exact h.elim
    | nil => cases r1 <;> first | exact h.elim | exact .inl ⟨_, rfl, post_here S h (.int _)⟩ | exact .inr ⟨_, rfl, post_here S h (.int _)⟩
def cGcd : List PyData → R PyData
  | [.int a, .int b] => .ok (.int ((Nat.gcd a.natAbs b.natAbs : Nat) : Int))
  | _ => .stuck
theorem cas_gcd : CaS K C E rGcd cGcd := by
  intro mu G0 H0 env σ G H xs ds Q S r h
  cases r with
  | nil => exact h.elim
  | cons r1 r2 =>
    cases r2 with
    | nil => cases r1 <;> exact h.elim
    | cons r2 r3 =>
      cases r3 with
      | cons _ _ => cases r1 <;> cases r2 <;> exact h.elim
      | nil => cases r1 <;> cases r2 <;> first | exact h.elim | exact ⟨_, _, rfl, post_here S h (.int _)⟩
end
end LW

namespace LW
open PySem PySem.Spec PyProof.Rows L2
section
variable {K : PySem.W.Frag} {mu : Mu} {G0 H0 G H G' H' : Hp} {env env' : LEnv} {σ σ' : L2.St} {C : Cl} {E : XK} {α β γ δ : Type}
/-! ### slots -/
theorem StR.of (S : StR K C mu G0 H0 env σ G H) (hl : env'.length = σ'.length)
    (h : ∀ (i : Nat) s, env'[i]? = some (some s) → (env[i]? = some (some s) ∧ σ'[i]? = σ[i]?) ∨ (∃ d v, s = .sh d ∧ σ'[i]? = some (some v) ∧ Rp K G v d)) : StR K C mu G0 H0 env' σ' G H where
  sub := S.sub
  ng := S.ng
  g0 := S.g0
  fz := S.fz
  new := S.new
  mh := S.mh
  len := hl
  sh := fun i d e => by
    rcases h i _ e with ⟨e1, e2⟩ | ⟨d', v, e1, e2, e3⟩
    · rw [e2]; exact S.sh i d e1
    · cases e1; exact ⟨v, e2, e3⟩
  ol := fun i m ds e => by
    rcases h i _ e with ⟨e1, e2⟩ | ⟨d', v, e1, e2, e3⟩
    · rw [e2]; exact S.ol i m ds e1
    · cases e1
  ow := fun i j p ⟨m1, d1, o1⟩ ⟨m2, d2, o2⟩ a b => by
    rcases h i _ o1 with ⟨e1, e2⟩ | ⟨d', v, e1, e2, e3⟩
    · rcases h j _ o2 with ⟨f1, f2⟩ | ⟨d', v, f1, f2, f3⟩
      · rw [e2] at a; rw [f2] at b
        exact S.ow i j p ⟨m1, d1, e1⟩ ⟨m2, d2, f1⟩ a b
      · cases f1
    · cases e1
theorem get_set {α : Type} {l : List α} {i j : Nat} {x : α} : (l.set i x)[j]? = if i = j then (if i < l.length then some x else none) else l[j]? := by
  by_cases h : i = j
  · subst h
    rw [if_pos rfl]
    by_cases hl : i < l.length
    · rw [if_pos hl, List.getElem?_set_self hl]
    · rw [if_neg hl, List.getElem?_eq_none (by rw [List.length_set]; omega)]
  · rw [if_neg h, List.getElem?_set_ne h]
theorem StR.set_sh (S : StR K C mu G0 H0 env σ G H) (i : Nat) {v : V} {d : PyData} (r : Rp K G v d) : StR K C mu G0 H0 (env.set i (some (.sh d))) (σ.set i (some v)) G H := by
  refine S.of (by rw [List.length_set, List.length_set]; exact S.len) fun j s e => ?_
  rw [get_set] at e
  by_cases h : i = j
  · subst h
    rw [if_pos rfl] at e
    by_cases hl : i < env.length
    · rw [if_pos hl] at e
      cases e
      exact .inr ⟨d, v, rfl, by rw [get_set, if_pos rfl, if_pos (by rw [← S.len]; exact hl)], r⟩
    · rw [if_neg hl] at e; cases e
  · rw [if_neg h] at e
    exact .inl ⟨e, by rw [get_set, if_neg h]⟩
theorem StR.drop_at (S : StR K C mu G0 H0 env σ G H) (i : Nat) (x : Option V) : StR K C mu G0 H0 (env.set i none) (σ.set i x) G H := by
  refine S.of (by rw [List.length_set, List.length_set]; exact S.len) fun j s e => ?_
  rw [get_set] at e
  by_cases h : i = j
  · subst h
    rw [if_pos rfl] at e
    split at e <;> cases e
  · rw [if_neg h] at e
    exact .inl ⟨e, by rw [get_set, if_neg h]⟩
/-- less known -/
theorem StR.forget (S : StR K C mu G0 H0 env σ G H) (i : Nat) : StR K C mu G0 H0 (env.set i none) σ G H := by
  refine S.of (by rw [List.length_set]; exact S.len) fun j s e => ?_
  rw [get_set] at e
  by_cases h : i = j
  · subst h
    rw [if_pos rfl] at e
    split at e <;> cases e
  · rw [if_neg h] at e
    exact .inl ⟨e, rfl⟩
def wipeE : LEnv → List Nat → LEnv
  | e, [] => e
  | e, v :: vs => (wipeE e vs).set v none
theorem StR.wipe (S : StR K C mu G0 H0 env σ G H) : ∀ vs : List Nat, StR K C mu G0 H0 (wipeE env vs) (L2.wipe σ vs) G H
  | [] => S
  | v :: vs => (StR.wipe S vs).drop_at v none
theorem wipe_get (σ : L2.St) (vs : List Nat) (j : Nat) : (L2.wipe σ vs)[j]? = if j ∈ vs then (if j < σ.length then some none else none) else σ[j]? := by
  induction vs with
  | nil => simp [L2.wipe]
  | cons v vs ih =>
    unfold L2.wipe
    rw [get_set, ih, wipe_length]
    by_cases h : v = j
    · subst h; simp
    · have h' : ¬ j = v := fun q => h q.symm
      simp only [List.mem_cons, h, h', if_false, false_or]
theorem wipe_same {σ σ' : L2.St} {vs : List Nat} (hl : σ'.length = σ.length) (h : ∀ (j : Nat), j ∉ vs → σ'[j]? = σ[j]?) : L2.wipe σ' vs = L2.wipe σ vs := by
  apply List.ext_getElem?
  intro j
  rw [wipe_get, wipe_get, hl]
  by_cases hj : j ∈ vs
  · rw [if_pos hj, if_pos hj]
  · rw [if_neg hj, if_neg hj]; exact h j hj

/-! ### statements -/
def PostS (K : PySem.W.Frag) (C : Cl) (E : XK) (mu : Mu) (G0 H0 : Hp) (G : Hp) : RS → Ends → Prop
  | .nx e, D => ∀ σ' G' H', StR K C mu G0 H0 e σ' G' H' → Same G G' → D.nx σ' H'
  | .ct e, D => ∀ σ' G' H', StR K C mu G0 H0 e σ' G' H' → Same G G' → D.ct σ' H'
  | .bk e, D => ∀ σ' G' H', StR K C mu G0 H0 e σ' G' H' → Same G G' → D.bk σ' H'
  | .rt e d, D => ∀ v σ' G' H', StR K C mu G0 H0 e σ' G' H' → Same G G' → Rp K G' v d → D.rt v H'
  | .rai c, _ => ∀ H', Fz C.T mu.ch H0 H' → E (C.cl c) none H'
  | .stuck, _ => False
theorem PostS.mono {r : RS} {D : Ends} (s : Same G G') (h : PostS K C E mu G0 H0 G r D) : PostS K C E mu G0 H0 G' r D := by
  cases r with
  | nx e => exact fun σ' G2 H2 S s2 => h σ' G2 H2 S (s.trans s2)
  | ct e => exact fun σ' G2 H2 S s2 => h σ' G2 H2 S (s.trans s2)
  | bk e => exact fun σ' G2 H2 S s2 => h σ' G2 H2 S (s.trans s2)
  | rt e d => exact fun v σ' G2 H2 S s2 r => h v σ' G2 H2 S (s.trans s2) r
  | rai c => exact h
  | stuck => exact h
def SndS (K : PySem.W.Frag) (C : Cl) (E : XK) (ts : TS) (ms : MS) : Prop := ∀ mu G0 H0 env σ G H D, StR K C mu G0 H0 env σ G H → PostS K C E mu G0 H0 G (ms env) D → ts D σ H
def bindS {α : Type} (r : RE α) (f : LEnv × α → RS) : RS := match r with
  | .ok p => f p
  | .rai c => .rai c
  | .stuck => .stuck
theorem PostS.bind {Rl : Hp → β → α → Prop} {r : RE α} {f : LEnv × α → RS} {D : Ends} {Q1 : β → Hp → Prop} (h : PostS K C E mu G0 H0 G (bindS r f) D)
    (k : ∀ p v G' H', StR K C mu G0 H0 p.1 σ G' H' → Same G G' → Rl G' v p.2 → PostS K C E mu G0 H0 G' (f p) D → Q1 v H') : Post Rl K C E mu G0 H0 σ G r Q1 := by
  cases r with
  | ok p => exact fun v G' H' S s r => k p v G' H' S s r (PostS.mono s h)
  | rai c => exact h
  | stuck => exact h
def mNext : MS := fun env => .nx env
theorem snds_next : SndS K C E tNext mNext := fun mu G0 H0 env σ G H D S h => h σ G H S (.refl _)
def mSeq (a b : MS) : MS := fun env => match a env with
  | .nx e => b e
  | x => x
theorem snds_seq {t u : TS} {a b : MS} (h1 : SndS K C E t a) (h2 : SndS K C E u b) : SndS K C E (tSeq t u) (mSeq a b) := by
  intro mu G0 H0 env σ G H D S h
  refine h1 _ _ _ _ _ _ _ _ S ?_
  have h : PostS K C E mu G0 H0 G (match a env with | .nx e => b e | x => x) D := h
  cases e : a env with
  | nx e' =>
    rw [e] at h
    exact fun σ' G' H' S' s' => h2 _ _ _ _ _ _ _ _ S' (PostS.mono s' h)
  | ct e' => rw [e] at h; exact h
  | bk e' => rw [e] at h; exact h
  | rt e' d => rw [e] at h; exact h
  | rai c => rw [e] at h; exact h
  | stuck => rw [e] at h; exact h
def mIfS (c : MT) (a b : MS) : MS := fun env => bindS (c env) fun p => bif p.2 then a p.1 else b p.1
theorem snds_if {tc : TT} {t u : TS} {c : MT} {a b : MS} (h0 : SndT K C E tc c) (h1 : SndS K C E t a) (h2 : SndS K C E u b) : SndS K C E (tIfS tc t u) (mIfS c a b) := by
  intro mu G0 H0 env σ G H D S h
  refine h0 _ _ _ _ _ _ _ _ S (h.bind fun p x G1 H1 S1 s1 r1 h1' => ?_)
  obtain ⟨e, bb⟩ := p
  obtain rfl : x = bb := r1
  cases x with
  | true => exact iteT (h1 _ _ _ _ _ _ _ _ S1 h1')
  | false => exact iteF (h2 _ _ _ _ _ _ _ _ S1 h1')
def mRet (f : M) : MS := fun env => bindS (f env) fun p => .rt p.1 p.2
theorem snds_ret {te : TE} {f : M} (h1 : Snd K C E te f) : SndS K C E (tRet te) (mRet f) := by
  intro mu G0 H0 env σ G H D S h
  refine h1 _ _ _ _ _ _ _ _ S (h.bind fun p x G1 H1 S1 s1 r1 h1' => ?_)
  exact h1' x σ G1 H1 S1 (.refl _) r1
def mDrop (f : M) : MS := fun env => bindS (f env) fun p => .nx p.1
theorem snds_drop {te : TE} {f : M} (h1 : Snd K C E te f) : SndS K C E (tDrop te) (mDrop f) := by
  intro mu G0 H0 env σ G H D S h
  refine h1 _ _ _ _ _ _ _ _ S (h.bind fun p x G1 H1 S1 s1 r1 h1' => ?_)
  exact h1' σ G1 H1 S1 (.refl _)
def mRai (c : Nat) : MS := fun _ => .rai c
theorem snds_rai {c : Nat} {cv : Value} (hc : C.cl c = cv) : SndS K C E (fun _ σ H => (fun _ H Q => Q cv none H : L2.St → Hp → XK → Prop) σ H fun cls d H' => E cls d H') (mRai c) := by
  subst hc
  exact fun mu G0 H0 env σ G H D S h => h H S.fz
def mBreak : MS := fun env => .bk env
theorem snds_break : SndS K C E tBreak mBreak := fun mu G0 H0 env σ G H D S h => h σ G H S (.refl _)
def mCont : MS := fun env => .ct env
theorem snds_cont : SndS K C E tCont mCont := fun mu G0 H0 env σ G H D S h => h σ G H S (.refl _)

/-! ### targets -/
abbrev Bi := PyData → LEnv → R LEnv
def PostG (K : PySem.W.Frag) (C : Cl) (mu : Mu) (G0 H0 : Hp) (σ : L2.St) (G H : Hp) (is : List Nat) : R LEnv → (L2.St → Hp → Prop) → Prop
  | .ok e, Q => ∀ σ', StR K C mu G0 H0 e σ' G H → σ'.length = σ.length → (∀ (j : Nat), j ∉ is → σ'[j]? = σ[j]?) → Q σ' H
  | _, _ => False
def SndG (K : PySem.W.Frag) (C : Cl) (g : TG) (b : Bi) (is : List Nat) : Prop := ∀ mu G0 H0 env σ G H v d Q, StR K C mu G0 H0 env σ G H → Rp K G v d → PostG K C mu G0 H0 σ G H is (b d env) Q → g v σ H Q
def bName (i : Nat) : Bi := fun d env => .ok (env.set i (some (.sh d)))
theorem sndg_name {i : Nat} : SndG K C (gName i) (bName i) [i] := by
  intro mu G0 H0 env σ G H v d Q S r h
  exact h _ (S.set_sh i r) (List.length_set ..) fun j hj => by rw [List.getElem?_set_ne]; intro q; exact hj (by rw [q]; exact List.mem_singleton.mpr rfl)
abbrev BiA := List PyData → LEnv → R LEnv
def SndGs (K : PySem.W.Frag) (C : Cl) (g : TGs) (b : BiA) (is : List Nat) : Prop := ∀ mu G0 H0 env σ G H vs ds Q, StR K C mu G0 H0 env σ G H → RpA K G vs ds → PostG K C mu G0 H0 σ G H is (b ds env) Q → g vs σ H Q
def bNil : BiA := fun ds env => match ds with
  | [] => .ok env
  | _ => .stuck
def bCons (b : Bi) (r : BiA) : BiA := fun ds env => match ds with
  | d :: ds => (b d env).bind fun e => r ds e
  | [] => .stuck
theorem sndgs_nil : SndGs K C gNil bNil [] := by
  intro mu G0 H0 env σ G H vs ds Q S r h
  cases r with
  | nil => exact ⟨rfl, h σ S rfl fun _ _ => rfl⟩
  | cons _ _ => exact h.elim
theorem sndgs_cons {g : TG} {gs : TGs} {b : Bi} {bs : BiA} {is js : List Nat} (h1 : SndG K C g b is) (h2 : SndGs K C gs bs js) : SndGs K C (gCons g gs) (bCons b bs) (is ++ js) := by
  intro mu G0 H0 env σ G H vs ds Q S r h
  cases r with
  | nil => exact h.elim
  | @cons v vs d ds r1 r2 =>
    refine ⟨v, vs, rfl, h1 _ _ _ _ _ _ _ _ _ _ S r1 ?_⟩
    have h : PostG K C mu G0 H0 σ G H (is ++ js) ((b d env).bind fun e => bs ds e) Q := h
    cases e : b d env with
    | ok e1 =>
      rw [e] at h
      intro σ1 S1 l1 k1
      refine h2 _ _ _ _ _ _ _ _ _ _ S1 r2 ?_
      have h : PostG K C mu G0 H0 σ G H (is ++ js) (bs ds e1) Q := h
      cases e2 : bs ds e1 with
      | ok e3 =>
        rw [e2] at h
        exact fun σ2 S2 l2 k2 => h σ2 S2 (l2.trans l1) fun j hj => by
          rw [List.mem_append, not_or] at hj
          rw [k2 j hj.2, k1 j hj.1]
      | rai c => rw [e2] at h; exact h
      | stuck => rw [e2] at h; exact h
    | rai c => rw [e] at h; exact h
    | stuck => rw [e] at h; exact h
def bTup (n : Nat) (bs : BiA) : Bi := fun d env => match d with
  | .tuple ds => gd (Nat.beq ds.length n) (bs ds env)
  | _ => .stuck
theorem sndg_tup {n : Nat} {gs : TGs} {bs : BiA} {is : List Nat} (h : SndGs K C gs bs is) : SndG K C (gTup K n gs) (bTup n bs) is := by
  intro mu G0 H0 env σ G H v d Q S r hh
  cases r with
  | tup a b =>
    rename_i xs ds
    have hh : PostG K C mu G0 H0 σ G H is (gd (Nat.beq ds.length n) (bs ds env)) Q := hh
    cases c : Nat.beq ds.length n with
    | true =>
      rw [c] at hh
      exact ⟨_, _, rfl, sqt_same S.sub a, by rw [b.length]; exact Nat.eq_of_beq_eq_true c, h _ _ _ _ _ _ _ _ _ _ S b hh⟩
    | false => rw [c] at hh; exact hh.elim
  | _ => exact hh.elim
def mAsg (b : Bi) (f : M) : MS := fun env => bindS (f env) fun p => match b p.2 p.1 with
  | .ok e => .nx e
  | _ => .stuck
theorem snds_asg {te : TE} {g : TG} {f : M} {b : Bi} {is : List Nat} (h1 : Snd K C E te f) (h2 : SndG K C g b is) : SndS K C E (tAsg te g) (mAsg b f) := by
  intro mu G0 H0 env σ G H D S h
  refine h1 _ _ _ _ _ _ _ _ S (h.bind fun p x G1 H1 S1 s1 r1 h1' => ?_)
  refine h2 _ _ _ _ _ _ _ _ _ _ S1 r1 ?_
  have h1' : PostS K C E mu G0 H0 G1 (match b p.2 p.1 with | .ok e => .nx e | _ => .stuck) D := h1'
  cases e : b p.2 p.1 with
  | ok e1 => rw [e] at h1'; exact fun σ' S' _ _ => h1' σ' G1 H1 S' (.refl _)
  | rai c => rw [e] at h1'; exact h1'
  | stuck => rw [e] at h1'; exact h1'
def mPar (i j : Nat) (g : MA) : MS := fun env => bindS (g env) fun p => match p.2 with
  | [a, b] => .nx ((p.1.set i (some (.sh a))).set j (some (.sh b)))
  | _ => .stuck
theorem snds_par {i j : Nat} {ta : TA} {g : MA} (h1 : SndA K C E ta g) : SndS K C E (tPar i j ta) (mPar i j g) := by
  intro mu G0 H0 env σ G H D S h
  refine h1 _ _ _ _ _ _ _ _ S (h.bind fun p x G1 H1 S1 s1 r1 h1' => ?_)
  obtain ⟨e, ds⟩ := p
  cases r1 with
  | nil => exact h1'.elim
  | cons ra r2 =>
    cases r2 with
    | nil => exact h1'.elim
    | cons rb r3 =>
      cases r3 with
      | nil => exact ⟨_, _, rfl, h1' _ G1 H1 ((S1.set_sh i ra).set_sh j rb) (.refl _)⟩
      | cons _ _ => exact h1'.elim

/-! ### what is walked -/
structure ItOk (K : PySem.W.Frag) (J : It) (G : Hp) (ds : List PyData) : Prop where
  ex : ∃ vs : List V, RpA K G vs ds ∧ (∀ i H, Same G H → i < vs.length → J.go i H) ∧ (∀ i H, Same G H → vs.length ≤ i → J.stop i H) ∧ ∀ i H x H', Same G H → J.yld i H x H' → i < vs.length → H' = H ∧ vs[i]? = some x
abbrev RlI (K : PySem.W.Frag) : Hp → It → List PyData → Prop := fun G J ds => ItOk K J G ds
def SndI (K : PySem.W.Frag) (C : Cl) (E : XK) (wi : TI) (mi : MA) : Prop := ∀ mu G0 H0 env σ G H R, StR K C mu G0 H0 env σ G H → Post (RlI K) K C E mu G0 H0 σ G (mi env) R → wi σ H R
def seqOf : PyData → R (List PyData)
  | .list ds => .ok ds
  | .tuple ds => .ok ds
  | _ => .stuck
def miSeq (f : M) : MA := fun env => (f env).bind fun p => lif p.1 (seqOf p.2)
def iSeq (K : PySem.W.Frag) (te : TE) : TI := fun σ H R => iList K te σ H R ∨ iTup K te σ H R
theorem pi_seq {X : Cx} {tg l : Expr} {tl : TE} (hl : PE X l tl) : PI X tg l (iSeq X.K tl) := ⟨fun pins s σ H R I h => by
  rcases h with h | h
  · exact (pi_list hl).run pins s σ H R I h
  · exact (pi_tup hl).run pins s σ H R I h⟩
theorem itok_list {a : Addr} {xs : List V} {ds : List PyData} (h : G a = some (.lst xs)) (r : RpA K G xs ds) : ItOk K (Itl K a) G ds :=
  ⟨xs, r, fun i H s hi => ⟨xs, xs[i], SqL.of (s _ _ h), List.getElem?_eq_getElem hi⟩, fun i H s hi => ⟨xs, SqL.of (s _ _ h), hi⟩, fun i H x H' s y _ => ⟨y.1, y.2 xs (SqL.of (s _ _ h))⟩⟩
theorem itok_tup {a : Addr} {xs : List V} {ds : List PyData} (h : TpT K G a xs) (r : RpA K G xs ds) : ItOk K (Itt K a) G ds :=
  ⟨xs, r, fun i H s hi => ⟨xs, xs[i], sqt_same s h, List.getElem?_eq_getElem hi⟩, fun i H s hi => ⟨xs, sqt_same s h, hi⟩, fun i H x H' s y _ => ⟨y.1, y.2 xs (sqt_same s h)⟩⟩
theorem sndi_seq {te : TE} {f : M} (h : Snd K C E te f) : SndI K C E (iSeq K te) (miSeq f) := by
  intro mu G0 H0 env σ G H R S hh
  have go : ∀ e d, f env = .ok (e, d) → Post (RlI K) K C E mu G0 H0 σ G (lif e (seqOf d)) R → iSeq K te σ H R := by
    intro e d ef h1
    cases d with
    | list ds =>
      refine .inl (h _ _ _ _ _ _ _ _ S ?_)
      rw [ef]
      intro v G' H' S' s' r
      cases r with
      | lst a b => exact ⟨_, rfl, ⟨_, SqL.of (S'.sub _ _ a)⟩, h1 _ G' H' S' s' (itok_list a b)⟩
    | tuple ds =>
      refine .inr (h _ _ _ _ _ _ _ _ S ?_)
      rw [ef]
      intro v G' H' S' s' r
      cases r with
      | tup a b => exact ⟨_, rfl, ⟨_, sqt_same S'.sub a⟩, h1 _ G' H' S' s' (itok_tup a b)⟩
    | _ => exact h1.elim
  have hh : Post (RlI K) K C E mu G0 H0 σ G ((f env).bind fun p => lif p.1 (seqOf p.2)) R := hh
  cases e : f env with
  | ok p => rw [e] at hh; exact go p.1 p.2 e hh
  | rai c => 
    refine .inl (h _ _ _ _ _ _ _ _ S ?_)
    rw [e] at hh ⊢
    exact hh
  | stuck => rw [e] at hh; exact hh.elim
/-- lo, lo + 1, .. -/
def upFrom : Int → Nat → List PyData
  | _, 0 => []
  | lo, n + 1 => .int lo :: upFrom (lo + 1) n
theorem upFrom_length : ∀ (lo : Int) (n : Nat), (upFrom lo n).length = n
  | _, 0 => rfl
  | lo, n + 1 => by simp [upFrom, upFrom_length (lo + 1) n]
def upV : Int → Nat → List V
  | _, 0 => []
  | lo, n + 1 => .int lo :: upV (lo + 1) n
theorem upV_length : ∀ (lo : Int) (n : Nat), (upV lo n).length = n
  | _, 0 => rfl
  | lo, n + 1 => by simp [upV, upV_length (lo + 1) n]
theorem upV_get : ∀ (lo : Int) (n i : Nat), i < n → (upV lo n)[i]? = some (V.int (lo + i))
  | lo, n + 1, 0, _ => by simp [upV]
  | lo, n + 1, i + 1, h => by
    have := upV_get (lo + 1) n i (by omega)
    show (upV (lo + 1) n)[i]? = _
    rw [this]
    congr 2
    omega
theorem rpa_up : ∀ (lo : Int) (n : Nat), RpA K G (upV lo n) (upFrom lo n)
  | _, 0 => .nil
  | lo, n + 1 => .cons (.int _) (rpa_up (lo + 1) n)
theorem itok_range {lo : Int} {n : Nat} : ItOk K (Itr lo n) G (upFrom lo n) :=
  ⟨upV lo n, rpa_up lo n, fun i H _ hi => by rw [upV_length] at hi; exact hi, fun i H _ hi => by rw [upV_length] at hi; exact hi, fun i H x H' _ y hi => ⟨y.1, by rw [upV_length] at hi; rw [upV_get lo n i hi, y.2]⟩⟩
/-- within a million either way -/
def near (i : Int) : Bool := Nat.ble i.natAbs small
theorem near_is {i : Int} (h : near i = true) : -(1000000 : Int) ≤ i ∧ i ≤ 1000000 := by
  have := Nat.le_of_ble_eq_true h
  unfold small at this
  omega
def rg1 : List PyData → R (List PyData)
  | [.int j] => gd (near j) (.ok (upFrom 0 j.toNat))
  | _ => .stuck
def rg2 : List PyData → R (List PyData)
  | [.int i, .int j] => gd (near i && near j) (.ok (upFrom i (j - i).toNat))
  | _ => .stuck
def miR (rg : List PyData → R (List PyData)) (g : MA) : MA := fun env => (g env).bind fun p => lif p.1 (rg p.2)
theorem sndi_rg1 {ta : TA} {g : MA} (h : SndA K C E ta g) : SndI K C E (iRng1 ta) (miR rg1 g) := by
  intro mu G0 H0 env σ G H R S hh
  refine h _ _ _ _ _ _ _ _ S (hh.bind fun p xs G1 H1 S1 s1 r1 h1 => ?_)
  obtain ⟨e, ds⟩ := p
  cases r1 with
  | nil => exact h1.elim
  | cons ra r2 =>
    cases r2 with
    | cons _ _ => cases ra <;> exact h1.elim
    | nil =>
      cases ra with
      | int j =>
        obtain ⟨c, h1⟩ := Post.gdL h1
        have := near_is c
        exact ⟨j, rfl, by omega, by omega, post_here S1 h1 itok_range⟩
      | _ => exact h1.elim
theorem sndi_rg2 {ta : TA} {g : MA} (h : SndA K C E ta g) : SndI K C E (iRng2 ta) (miR rg2 g) := by
  intro mu G0 H0 env σ G H R S hh
  refine h _ _ _ _ _ _ _ _ S (hh.bind fun p xs G1 H1 S1 s1 r1 h1 => ?_)
  obtain ⟨e, ds⟩ := p
  cases r1 with
  | nil => exact h1.elim
  | cons ra r2 =>
    cases r2 with
    | nil => cases ra <;> exact h1.elim
    | cons rb r3 =>
      cases r3 with
      | cons _ _ => cases ra <;> cases rb <;> exact h1.elim
      | nil =>
        cases ra with
        | int i =>
          cases rb with
          | int j =>
            obtain ⟨c, h1⟩ := Post.gdL h1
            rw [Bool.and_eq_true] at c
            have := near_is c.1
            have := near_is c.2
            exact ⟨i, j, rfl, ⟨by omega, by omega, by omega, by omega⟩, post_here S1 h1 itok_range⟩
          | _ => exact h1.elim
        | _ => cases rb <;> exact h1.elim

/-! ### loops -/
def forL (b : Bi) (body : MS) : List PyData → LEnv → RS
  | [], e => .nx e
  | d :: r, e => match b d e with
    | .ok e1 => match body e1 with
      | .nx e2 => forL b body r e2
      | .ct e2 => forL b body r e2
      | .bk e2 => .nx e2
      | .rt e2 d2 => .rt e2 d2
      | .rai c => .rai c
      | .stuck => .stuck
    | _ => .stuck
def mFor (mi : MA) (b : Bi) (body : MS) : MS := fun env => bindS (mi env) fun p => forL b body p.2 p.1
theorem snds_for {wi : TI} {g : TG} {tb : TS} {mi : MA} {b : Bi} {is : List Nat} {body : MS} (hi : SndI K C E wi mi) (hg : SndG K C g b is) (hb : SndS K C E tb body) : SndS K C E (tFor wi g tb) (mFor mi b body) := by
  intro mu G0 H0 env σ G H D S h
  refine hi _ _ _ _ _ _ _ _ S (h.bind fun p J G1 H1 S1 s1 r1 h1 => ?_)
  obtain ⟨e, ds⟩ := p
  obtain ⟨vs, rv, hgo, hst, hy⟩ := r1.ex
  have hl : vs.length = ds.length := rv.length
  refine ⟨fun i m σ H => m = vs.length - i ∧ i ≤ vs.length ∧ ∃ e G, StR K C mu G0 H0 e σ G H ∧ Same G1 G ∧ PostS K C E mu G0 H0 G (forL b body (ds.drop i) e) D, ⟨_, rfl, Nat.zero_le _, e, G1, S1, .refl _, h1⟩, ?_⟩
  rintro i m σ2 H2 ⟨rfl, hle, e2, G2, S2, s2, p2⟩
  by_cases hlt : i < vs.length
  · refine .inr ⟨hgo i H2 (s2.trans S2.sub) hlt, fun σ' H' => i + 1 ≤ vs.length ∧ ∃ e G, StR K C mu G0 H0 e σ' G H' ∧ Same G1 G ∧ PostS K C E mu G0 H0 G (forL b body (ds.drop (i + 1)) e) D, fun σ' H' n => ⟨vs.length - (i + 1), by omega, rfl, n.1, n.2⟩, fun x H' y => ?_⟩
    obtain ⟨rfl, hx⟩ := hy i H2 x H' (s2.trans S2.sub) y hlt
    obtain ⟨d, hd, rd⟩ := rv.getV hx
    have ed : ds.drop i = d :: ds.drop (i + 1) := by
      obtain ⟨hlt', e'⟩ := List.getElem?_eq_some_iff.mp hd
      rw [List.drop_eq_getElem_cons hlt', e']
    rw [ed] at p2
    refine hg _ _ _ _ _ _ _ _ _ _ S2 (Rp.mono s2 _ _ rd) ?_
    have p2 : PostS K C E mu G0 H0 G2 (match b d e2 with
      | .ok e1 => match body e1 with
        | .nx e2 => forL b body (ds.drop (i + 1)) e2
        | .ct e2 => forL b body (ds.drop (i + 1)) e2
        | .bk e2 => .nx e2
        | .rt e2 d2 => .rt e2 d2
        | .rai c => .rai c
        | .stuck => .stuck
      | _ => .stuck) D := p2
    cases eb : b d e2 with
    | ok e3 =>
      rw [eb] at p2
      intro σ3 S3 _ _
      refine hb _ _ _ _ _ _ _ _ S3 ?_
      dsimp only at p2
      cases em : body e3 with
      | nx e4 => rw [em] at p2; exact fun σ4 G4 H4 S4 s4 => ⟨hlt, e4, G4, S4, s2.trans s4, PostS.mono s4 p2⟩
      | ct e4 => rw [em] at p2; exact fun σ4 G4 H4 S4 s4 => ⟨hlt, e4, G4, S4, s2.trans s4, PostS.mono s4 p2⟩
      | bk e4 => rw [em] at p2; exact p2
      | rt e4 d4 => rw [em] at p2; exact p2
      | rai c => rw [em] at p2; exact p2
      | stuck => rw [em] at p2; exact p2
    | rai c => rw [eb] at p2; exact p2
    | stuck => rw [eb] at p2; exact p2
  · refine .inl ⟨hst i H2 (s2.trans S2.sub) (by omega), ?_⟩
    rw [List.drop_eq_nil_of_le (by omega)] at p2
    exact p2 σ2 G2 H2 S2 (.refl _)
def whileL (c : MT) (body : MS) : Nat → LEnv → RS
  | 0, _ => .stuck
  | n + 1, e => bindS (c e) fun p => bif p.2 then (match body p.1 with
      | .nx e2 => whileL c body n e2
      | .ct e2 => whileL c body n e2
      | .bk e2 => .nx e2
      | .rt e2 d2 => .rt e2 d2
      | .rai c => .rai c
      | .stuck => .stuck) else .nx p.1
def mWhile (n : Nat) (c : MT) (body : MS) : MS := fun env => whileL c body n env
theorem snds_while {tc : TT} {tb : TS} {c : MT} {body : MS} {n : Nat} (hc : SndT K C E tc c) (hb : SndS K C E tb body) : SndS K C E (tWhile tc tb) (mWhile n c body) := by
  intro mu G0 H0 env σ G H D S h
  refine ⟨fun m σ H => ∃ e G, StR K C mu G0 H0 e σ G H ∧ PostS K C E mu G0 H0 G (whileL c body m e) D, ⟨n, env, G, S, h⟩, ?_⟩
  rintro m σ2 H2 ⟨e2, G2, S2, p2⟩
  cases m with
  | zero => exact p2.elim
  | succ m =>
    have p2 : PostS K C E mu G0 H0 G2 (bindS (c e2) fun p => bif p.2 then (match body p.1 with
      | .nx e2 => whileL c body m e2
      | .ct e2 => whileL c body m e2
      | .bk e2 => .nx e2
      | .rt e2 d2 => .rt e2 d2
      | .rai c => .rai c
      | .stuck => .stuck) else .nx p.1) D := p2
    refine hc _ _ _ _ _ _ _ _ S2 (p2.bind fun p x G3 H3 S3 s3 r3 p3 => ?_)
    obtain ⟨e3, bb⟩ := p
    obtain rfl : x = bb := r3
    cases x with
    | false => exact iteF (p3 σ2 G3 H3 S3 (.refl _))
    | true =>
      refine iteT ⟨fun σ' H' => ∃ e G, StR K C mu G0 H0 e σ' G H' ∧ PostS K C E mu G0 H0 G (whileL c body m e) D, fun σ' H' n => ⟨m, Nat.lt_succ_self m, n⟩, ?_⟩
      refine hb _ _ _ _ _ _ _ _ S3 ?_
      simp only [cond_true] at p3
      cases em : body e3 with
      | nx e4 => rw [em] at p3; exact fun σ4 G4 H4 S4 s4 => ⟨e4, G4, S4, PostS.mono s4 p3⟩
      | ct e4 => rw [em] at p3; exact fun σ4 G4 H4 S4 s4 => ⟨e4, G4, S4, PostS.mono s4 p3⟩
      | bk e4 => rw [em] at p3; exact p3
      | rt e4 d4 => rw [em] at p3; exact p3
      | rai c => rw [em] at p3; exact p3
      | stuck => rw [em] at p3; exact p3
end
end LW

namespace LW
open PySem PySem.Spec PyProof.Rows L2
section
variable {K : PySem.W.Frag} {mu : Mu} {G0 H0 G H G' H' : Hp} {env env' : LEnv} {σ σ' : L2.St} {C : Cl} {E : XK} {α β γ δ : Type}
/-! ### a state as another's start -/
def Mu.plus (mu : Mu) (e : LEnv) (σ : L2.St) : Mu := ⟨fun a => mu.ch a ∨ ∃ j : Nat, Own e j ∧ σ[j]? = some (some (.ref a)), mu.fl, fun a h => .inl (mu.sub a h)⟩
theorem StR.rebase (S : StR K C mu G0 H0 env σ G H) : StR K C (mu.plus env σ) G H env σ G H where
  sub := S.sub
  ng := S.ng
  g0 := .refl _
  fz := .refl S.fz.tb
  new := fun _ _ e => .inl e
  mh := fun a m => by
    rcases m with m | ⟨j, ⟨m, ds, oj⟩, hj⟩
    · exact S.mh a m
    · obtain ⟨p, vs, e1, e2, _⟩ := S.ol j m ds oj
      rw [e1] at hj; cases hj
      exact ⟨_, e2⟩
  len := S.len
  sh := S.sh
  ol := fun i m ds e => by
    obtain ⟨p, vs, h1, h2, h3, h4, h5⟩ := S.ol i m ds e
    refine ⟨p, vs, h1, h2, h3, h4, ?_⟩
    cases m with
    | true => exact h5
    | false => exact .inl (.inr ⟨i, ⟨_, _, e⟩, h1⟩)
  ow := S.ow
theorem StR.unbase {G1 H1 : Hp} (S : StR K C mu G0 H0 env σ G H) (T : StR K C (mu.plus env σ) G H env' σ' G1 H1) : StR K C mu G0 H0 env' σ' G1 H1 := by
  have own : ∀ b o, ¬ mu.ch b → nt o → H0 b = some o → ¬ (mu.plus env σ).ch b := fun b o m n e z => by
    rcases z with z | ⟨j, ⟨m', ds, oj⟩, hj⟩
    · exact m z
    · obtain ⟨p, vs, e1, e2, e3, e4, e5⟩ := S.ol j m' ds oj
      rw [e1] at hj; cases hj
      cases m' with
      | true => exact m (mu.sub _ e5)
      | false =>
        rcases e5 with e5 | e5
        · exact m e5
        · exact e5 _ n e
  exact {
    sub := T.sub
    ng := T.ng
    g0 := S.g0.trans T.g0
    fz := ⟨fun b o m n e => T.fz.k b o (own b o m n e) n (S.fz.k b o m n e), T.fz.tb⟩
    new := fun a o e => by
      rcases T.new a o e with e | e
      · exact S.new a o e
      · exact .inr ⟨S.none0 e.1, e.2⟩
    mh := fun a m => T.mh a (.inl m)
    len := T.len
    sh := T.sh
    ol := fun i m ds e => by
      obtain ⟨p, vs, h1, h2, h3, h4, h5⟩ := T.ol i m ds e
      refine ⟨p, vs, h1, h2, h3, h4, ?_⟩
      cases m with
      | true => exact h5
      | false =>
        rcases h5 with (h5 | ⟨j, ⟨m', ds', oj⟩, hj⟩) | h5
        · exact .inl h5
        · obtain ⟨p', vs', e1, e2, e3, e4, e5⟩ := S.ol j m' ds' oj
          rw [e1] at hj; cases hj
          cases m' with
          | true => exact .inl (mu.sub _ e5)
          | false => exact e5
        · exact .inr (S.none0 h5)
    ow := T.ow }
/-- an object of no slot, that may not be read, changes -/
theorem StR.upd_hid {D : Addr} {xs ys : List V} (S : StR K C mu G0 H0 env σ G H) (hD : H D = some (.lst xs)) (hG : G D = none) (h0 : Nw H0 D) (hw : ∀ j : Nat, Own env j → σ[j]? ≠ some (some (.ref D))) : StR K C mu G0 H0 env σ G (upd H D (.lst ys)) where
  sub := fun a u e => by rw [upd_ne (ne_of_none e hG)]; exact S.sub _ _ e
  ng := S.ng
  g0 := S.g0
  fz := ⟨fun b u m n e => by
      rw [upd_ne (fun z => h0 u n (by rw [← z]; exact e))]; exact S.fz.k b u m n e, tabs_but S.fz.tb fun b o e n => by
      rw [upd_ne (fun z => by subst z; rw [hD] at e; cases e; exact n _ rfl)]; exact e⟩
  new := S.new
  mh := fun a m => by
    by_cases h : a = D
    · subst h; exact ⟨_, upd_same⟩
    · obtain ⟨u, e⟩ := S.mh a m; exact ⟨u, by rw [upd_ne h]; exact e⟩
  len := S.len
  sh := S.sh
  ol := fun i m ds e => by
    obtain ⟨p, vs, h1, h2, h3⟩ := S.ol i m ds e
    have : p ≠ D := fun q => hw i ⟨m, ds, e⟩ (by rw [h1, q])
    exact ⟨p, vs, h1, by rw [upd_ne this]; exact h2, h3⟩
  ow := S.ow
/-- .. and may be read from now on -/
theorem StR.show {D : Addr} {o : HO} (ho : nt o) (S : StR K C mu G0 H0 env σ G H) (hD : H D = some o) (hG : G D = none) (h0 : Nw H0 D) (hw : ∀ j : Nat, Own env j → σ[j]? ≠ some (some (.ref D))) : StR K C mu G0 H0 env σ (upd G D o) H := by
  have s : Same G (upd G D o) := fun a u e => by rw [upd_ne (ne_of_none e hG)]; exact e
  exact {
    sub := fun a u e => by
      by_cases h : a = D
      · subst h; rw [upd_same] at e; cases e; exact hD
      · rw [upd_ne h] at e; exact S.sub _ _ e
    ng := fun a u e => by
      by_cases h : a = D
      · subst h; rw [upd_same] at e; cases e; exact ho
      · rw [upd_ne h] at e; exact S.ng _ _ e
    g0 := S.g0.trans s
    fz := S.fz
    new := fun a u e => by
      by_cases h : a = D
      · subst h; rw [upd_same] at e; cases e; exact .inr ⟨h0, ho⟩
      · rw [upd_ne h] at e; exact S.new _ _ e
    mh := S.mh
    len := S.len
    sh := fun i d e => let ⟨v, h1, h2⟩ := S.sh i d e; ⟨v, h1, Rp.mono s _ _ h2⟩
    ol := fun i m ds e => by
      obtain ⟨p, vs, h1, h2, h3, h4, h5⟩ := S.ol i m ds e
      have : p ≠ D := fun q => hw i ⟨m, ds, e⟩ (by rw [h1, q])
      exact ⟨p, vs, h1, h2, RpA.mono s _ _ h3, by rw [upd_ne this]; exact h4, h5⟩
    ow := S.ow }
/-! ### comprehensions -/
/-- what raises within a comprehension has no rule -/
def noRai {α : Type} (r : R α) : R α := match r with
  | .ok a => .ok a
  | _ => .stuck
theorem post_noRai {Rl : Hp → β → α → Prop} {Q : β → Hp → Prop} {r : RE α} (h : Post Rl K C E mu G0 H0 σ G (noRai r) Q) : Post Rl K C (fun _ _ _ => False) mu G0 H0 σ G r Q := by
  cases r with
  | ok p => exact h
  | rai c => exact h.elim
  | stuck => exact h
def compL (vs : List Nat) (b : Bi) (tt : MT) (f : M) : List PyData → LEnv → RE (List PyData)
  | [], e => .ok (e, [])
  | d :: r, e => match b d e with
    | .ok e1 => (noRai (tt e1)).bind fun t => bif t.2 then (noRai (f t.1)).bind fun y => (compL vs b tt f r (wipeE y.1 vs)).bind fun z => .ok (z.1, y.2 :: z.2) else compL vs b tt f r (wipeE t.1 vs)
    | _ => .stuck
def keepSh (s : Option (Option Sl)) : Option Sl := match s with
  | some (some (.sh d)) => some (.sh d)
  | _ => none
def restore (env : LEnv) (e : LEnv) : List Nat → LEnv
  | [] => e
  | v :: vs => (restore env e vs).set v (keepSh (nth env v))
theorem restore_length (env e : LEnv) : ∀ vs, (restore env e vs).length = e.length
  | [] => rfl
  | v :: vs => by unfold restore; rw [List.length_set, restore_length env e vs]
theorem restore_get (env e : LEnv) (vs : List Nat) (j : Nat) : (restore env e vs)[j]? = if j ∈ vs then (if j < e.length then some (keepSh env[j]?) else none) else e[j]? := by
  induction vs with
  | nil => simp [restore]
  | cons v vs ih =>
    unfold restore
    rw [get_set, ih, restore_length, nth_eq]
    by_cases h : v = j
    · subst h; simp
    · have h' : ¬ j = v := fun q => h q.symm
      simp only [List.mem_cons, h, h', if_false, false_or]
theorem StR.restore {e : LEnv} {vs : List Nat} {G1 H1 : Hp} (S1 : StR K C mu G0 H0 env σ G1 H1) (S : StR K C mu G0 H0 e (L2.wipe σ vs) G H) (s : Same G1 G) : StR K C mu G0 H0 (restore env e vs) σ G H := by
  have hl : e.length = σ.length := by rw [S.len, wipe_length]
  refine StR.of S (by rw [restore_length]; exact hl) fun i sl q => ?_
  rw [restore_get] at q
  by_cases h : i ∈ vs
  · rw [if_pos h] at q
    split at q
    · cases hk : env[i]? with
      | none => rw [hk] at q; cases q
      | some o =>
        cases o with
        | none => rw [hk] at q; cases q
        | some s0 =>
          cases s0 with
          | ow m ds => rw [hk] at q; cases q
          | sh d =>
            rw [hk] at q
            cases q
            obtain ⟨v, h1, h2⟩ := S1.sh i d hk
            exact .inr ⟨d, v, rfl, h1, Rp.mono s _ _ h2⟩
    · cases q
  · rw [if_neg h] at q
    exact .inl ⟨q, by rw [wipe_get, if_neg h]⟩
def mtYes : MT := fun env => .ok (env, true)
theorem sndt_yes : SndT K C E tYes mtYes := fun mu G0 H0 env σ G H Q S h => post_here S h rfl
def mComp (vs : List Nat) (mi : MA) (b : Bi) (tt : MT) (f : M) : M := fun env => (mi env).bind fun p => gd (Nat.blt p.2.length small) ((compL vs b tt f p.2 (wipeE p.1 vs)).bind fun z => .ok (restore p.1 z.1 vs, .list z.2))
theorem compL_rai {vs : List Nat} {b : Bi} {tt : MT} {f : M} {c : Nat} : ∀ (ds : List PyData) (e : LEnv), compL vs b tt f ds e ≠ .rai c
  | [], e => by simp [compL]
  | d :: r, e => by
    intro q
    unfold compL at q
    cases eb : b d e with
    | ok e1 =>
      rw [eb] at q
      dsimp only at q
      cases et : tt e1 with
      | ok t =>
        rw [et] at q
        have q : (bif t.2 then (noRai (f t.1)).bind fun y => (compL vs b tt f r (wipeE y.1 vs)).bind fun z => R.ok (z.1, y.2 :: z.2) else compL vs b tt f r (wipeE t.1 vs)) = R.rai c := q
        cases ht : t.2 with
        | true =>
          rw [ht] at q
          have q : ((noRai (f t.1)).bind fun y => (compL vs b tt f r (wipeE y.1 vs)).bind fun z => R.ok (z.1, y.2 :: z.2)) = R.rai c := q
          cases ef : f t.1 with
          | ok y =>
            rw [ef] at q
            have q : ((compL vs b tt f r (wipeE y.1 vs)).bind fun z => R.ok (z.1, y.2 :: z.2)) = R.rai c := q
            cases ec : compL vs b tt f r (wipeE y.1 vs) with
            | ok z => rw [ec] at q; cases q
            | rai c' => exact compL_rai r _ ec
            | stuck => rw [ec] at q; cases q
          | rai c' => rw [ef] at q; cases q
          | stuck => rw [ef] at q; cases q
        | false => rw [ht] at q; exact compL_rai r _ q
      | rai c' => rw [et] at q; cases q
      | stuck => rw [et] at q; cases q
    | rai c' => rw [eb] at q; cases q
    | stuck => rw [eb] at q; cases q
theorem snd_comp {wi : TI} {g : TG} {tt : TT} {te : TE} {vs : List Nat} {mi : MA} {b : Bi} {is : List Nat} {mt : MT} {f : M} (hi : SndI K C E wi mi) (hg : SndG K C g b is) (his : ∀ i ∈ is, i ∈ vs) (ht : SndT K C (fun _ _ _ => False) tt mt)
    (he : Snd K C (fun _ _ _ => False) te f) : Snd K C E (tLc wi g tt te vs) (mComp vs mi b mt f) := by
  intro mu G0 H0 env σ G H Q S h
  refine hi _ _ _ _ _ _ _ _ S (h.bind fun p J G1 H1 S1 s1 r1 h1 => ?_)
  obtain ⟨e0, ds⟩ := p
  obtain ⟨hlen, h1⟩ := Post.gd h1
  obtain ⟨xs, rv, hgo, hst, hy⟩ := r1.ex
  have hl : xs.length = ds.length := rv.length
  have hsm : ds.length < sizeLine := Nat.lt_of_lt_of_le (Nat.le_of_ble_eq_true hlen) small_le
  intro D hD
  have gD : G1 D = none := S1.sub.free hD
  have h0D : Nw H0 D := S1.none0 (nw_of hD)
  refine ⟨fun i m H => m = xs.length - i ∧ i ≤ xs.length ∧ ∃ e G acc ad, StR K C mu G0 H0 e (L2.wipe σ vs) G H ∧ Same G1 G ∧ H D = some (.lst acc) ∧ G D = none ∧ RpA K G acc ad ∧ acc.length ≤ i ∧ (∀ j, Own e j → (L2.wipe σ vs)[j]? ≠ some (some (.ref D))) ∧
      Post (RlE K) K C E mu G0 H0 σ G ((compL vs b mt f (ds.drop i) e).bind fun z => .ok (restore e0 z.1 vs, .list (ad ++ z.2))) Q, ⟨_, rfl, Nat.zero_le _, wipeE e0 vs, G1, [], [], ?_, .refl _, upd_same, gD, .nil, Nat.le_refl _, ?_, h1⟩, ?_⟩
  · exact (S1.wipe vs).ext (Xt.hid S1.sub S1.fz.tb hD)
  · intro j ⟨m, dd, hj⟩ q
    obtain ⟨p, ws, e1, e2, _⟩ := (S1.wipe vs).ol j m dd hj
    rw [e1] at q
    cases q
    rw [hD] at e2; cases e2
  rintro i m H2 ⟨rfl, hle, e2, G2, acc, ad, S2, s2, hacc, hG2, racc, hil, hown, p2⟩
  by_cases hlt : i < xs.length
  · refine .inr ⟨hgo i H2 (s2.trans S2.sub) hlt, fun H' => i + 1 ≤ xs.length ∧ ∃ e G acc ad, StR K C mu G0 H0 e (L2.wipe σ vs) G H' ∧ Same G1 G ∧ H' D = some (.lst acc) ∧ G D = none ∧ RpA K G acc ad ∧ acc.length ≤ i + 1 ∧ (∀ j, Own e j → (L2.wipe σ vs)[j]? ≠ some (some (.ref D))) ∧
      Post (RlE K) K C E mu G0 H0 σ G ((compL vs b mt f (ds.drop (i + 1)) e).bind fun z => .ok (restore e0 z.1 vs, .list (ad ++ z.2))) Q, fun H' n => ⟨xs.length - (i + 1), by omega, rfl, n.1, n.2⟩, fun x H' y => ?_⟩
    obtain ⟨eH, hx⟩ := hy i H2 x H' (s2.trans S2.sub) y hlt
    rw [eH]
    obtain ⟨d, hd, rd⟩ := rv.getV hx
    have ed : ds.drop i = d :: ds.drop (i + 1) := by
      obtain ⟨hlt', e'⟩ := List.getElem?_eq_some_iff.mp hd
      rw [List.drop_eq_getElem_cons hlt', e']
    rw [ed] at p2
    refine hg _ _ _ _ _ _ _ _ _ _ S2.rebase (Rp.mono s2 _ _ rd) ?_
    have p2 : Post (RlE K) K C E mu G0 H0 σ G2 ((match b d e2 with
      | .ok e1 => (noRai (mt e1)).bind fun t => bif t.2 then (noRai (f t.1)).bind fun y => (compL vs b mt f (ds.drop (i + 1)) (wipeE y.1 vs)).bind fun z => .ok (z.1, y.2 :: z.2) else compL vs b mt f (ds.drop (i + 1)) (wipeE t.1 vs)
      | _ => .stuck).bind fun z => .ok (restore e0 z.1 vs, .list (ad ++ z.2))) Q := p2
    cases eb : b d e2 with
    | rai c => rw [eb] at p2; exact p2
    | stuck => rw [eb] at p2; exact p2
    | ok e3 =>
      rw [eb] at p2
      intro σ3 S3 l3 k3
      have hw : L2.wipe σ3 vs = L2.wipe (L2.wipe σ vs) vs := wipe_same l3 fun j hj => k3 j fun q => hj (his j q)
      have hww : L2.wipe (L2.wipe σ vs) vs = L2.wipe σ vs := wipe_same (wipe_length _ _) fun j hj => by rw [wipe_get, if_neg hj]
      refine ⟨hw.trans hww, ?_⟩
      have noch : ¬ (mu.plus e2 (L2.wipe σ vs)).ch D := fun z => by
        rcases z with z | ⟨j, oj, hj⟩
        · exact S1.noch (nw_of hD) z
        · exact hown j oj hj
      -- D's list stands through the turn, hidden, and no slot has it
      have stands : ∀ {e G H}, StR K C (mu.plus e2 (L2.wipe σ vs)) G2 H2 e σ3 G H → H D = some (.lst acc) ∧ G D = none ∧ ∀ j : Nat, Own e j → σ3[j]? ≠ some (some (.ref D)) := fun {e G H} S => by
        refine ⟨S.fz.k D _ noch nt_lst hacc, ?_, fun j ⟨m, dd, oj⟩ q => ?_⟩
        · cases q : G D with
          | none => rfl
          | some u =>
            rcases S.new D u q with z | z
            · rw [hG2] at z; cases z
            · exact (z.1 _ nt_lst hacc).elim
        · obtain ⟨p, ws, e1, e2', e3', e4', e5'⟩ := S.ol j m dd oj
          rw [e1] at q
          cases q
          cases m with
          | true => exact noch (.inl (mu.sub _ e5'))
          | false =>
            rcases e5' with z | z
            · exact noch z
            · exact z _ nt_lst hacc
      -- the next turn's state
      have wiped : ∀ {e G H}, StR K C mu G0 H0 e σ3 G H → StR K C mu G0 H0 (wipeE e vs) (L2.wipe σ vs) G H := fun {e G H} S => by
        have := S.wipe vs
        rw [hw, hww] at this
        exact this
      have wipedOwn : ∀ {e}, (∀ j : Nat, Own e j → σ3[j]? ≠ some (some (.ref D))) → ∀ j : Nat, Own (wipeE e vs) j → (L2.wipe σ vs)[j]? ≠ some (some (.ref D)) := fun {e} h j oj q => by
        have wg : ∀ (e : LEnv) (vs : List Nat) (j : Nat) (s : Sl), (wipeE e vs)[j]? = some (some s) → e[j]? = some (some s) ∧ j ∉ vs := by
          intro e vs
          induction vs with
          | nil => intro j s h; exact ⟨h, by simp⟩
          | cons v vs ih =>
            intro j s h
            unfold wipeE at h
            rw [get_set] at h
            by_cases hv : v = j
            · subst hv; rw [if_pos rfl] at h; split at h <;> cases h
            · rw [if_neg hv] at h
              obtain ⟨h1, h2⟩ := ih j s h
              exact ⟨h1, by simp only [List.mem_cons, not_or]; exact ⟨fun z => hv z.symm, h2⟩⟩
        obtain ⟨m, dd, oj⟩ := oj
        obtain ⟨o1, o2⟩ := wg e vs j _ oj
        refine h j ⟨m, dd, o1⟩ ?_
        rw [← hww, ← hw, wipe_get, if_neg o2] at q
        exact q
      have p2 : Post (RlE K) K C E mu G0 H0 σ G2 (((noRai (mt e3)).bind fun t => bif t.2 then (noRai (f t.1)).bind fun y => (compL vs b mt f (ds.drop (i + 1)) (wipeE y.1 vs)).bind fun z => .ok (z.1, y.2 :: z.2) else compL vs b mt f (ds.drop (i + 1)) (wipeE t.1 vs)).bind fun z => .ok (restore e0 z.1 vs, .list (ad ++ z.2))) Q := p2
      refine ht _ _ _ _ _ _ _ _ S3 ?_
      cases et : mt e3 with
      | rai c => rw [et] at p2; exact p2.elim
      | stuck => rw [et] at p2; exact p2
      | ok t =>
        rw [et] at p2
        obtain ⟨e4, tb⟩ := t
        intro bv G4 H4 S4 s4 rb
        have S4 : StR K C (mu.plus e2 (L2.wipe σ vs)) G2 H2 e4 σ3 G4 H4 := S4
        obtain rfl : bv = tb := rb
        have p2 : Post (RlE K) K C E mu G0 H0 σ G2 ((bif bv then (noRai (f e4)).bind fun y => (compL vs b mt f (ds.drop (i + 1)) (wipeE y.1 vs)).bind fun z => .ok (z.1, y.2 :: z.2) else compL vs b mt f (ds.drop (i + 1)) (wipeE e4 vs)).bind fun z => .ok (restore e0 z.1 vs, .list (ad ++ z.2))) Q := p2
        cases bv with
        | false =>
          refine iteF ⟨hlt, wipeE e4 vs, G4, acc, ad, wiped (StR.unbase S2 S4), s2.trans s4, (stands S4).1, (stands S4).2.1, RpA.mono s4 _ _ racc, by omega, wipedOwn (stands S4).2.2, ?_⟩
          exact p2.mono s4
        | true =>
          refine iteT ?_
          have p2 : Post (RlE K) K C E mu G0 H0 σ G2 (((noRai (f e4)).bind fun y => (compL vs b mt f (ds.drop (i + 1)) (wipeE y.1 vs)).bind fun z => .ok (z.1, y.2 :: z.2)).bind fun z => .ok (restore e0 z.1 vs, .list (ad ++ z.2))) Q := p2
          refine he _ _ _ _ _ _ _ _ S4 ?_
          cases ef : f e4 with
          | rai c => rw [ef] at p2; exact p2.elim
          | stuck => rw [ef] at p2; exact p2
          | ok y =>
            rw [ef] at p2
            obtain ⟨e5, dy⟩ := y
            intro yv G5 H5 S5 s5 ry
            have S5 : StR K C (mu.plus e2 (L2.wipe σ vs)) G2 H2 e5 σ3 G5 H5 := S5
            have ry : Rp K G5 yv dy := ry
            obtain ⟨st1, st2, st3⟩ := stands S5
            have U := StR.unbase S2 S5
            refine ⟨acc, st1, by omega, hlt, wipeE e5 vs, G5, acc ++ [yv], ad ++ [dy], wiped (U.upd_hid st1 st2 h0D st3), (s2.trans s4).trans s5, upd_same, st2, (RpA.mono (s4.trans s5) _ _ racc).append (.cons ry .nil), by rw [List.length_append]; show acc.length + 1 ≤ i + 1; omega, wipedOwn st3, ?_⟩
            have p2 : Post (RlE K) K C E mu G0 H0 σ G2 (((compL vs b mt f (ds.drop (i + 1)) (wipeE e5 vs)).bind fun z => .ok (z.1, dy :: z.2)).bind fun z => .ok (restore e0 z.1 vs, .list (ad ++ z.2))) Q := p2
            cases ec : compL vs b mt f (ds.drop (i + 1)) (wipeE e5 vs) with
            | rai c => exact absurd ec (compL_rai _ _)
            | stuck => rw [ec] at p2; exact p2
            | ok z =>
              rw [ec] at p2
              have p2 : Post (RlE K) K C E mu G0 H0 σ G2 (.ok (restore e0 z.1 vs, .list (ad ++ dy :: z.2))) Q := p2
              have p3 : Post (RlE K) K C E mu G0 H0 σ G2 (.ok (restore e0 z.1 vs, .list ((ad ++ [dy]) ++ z.2))) Q := by
                rw [List.append_assoc]
                exact p2
              exact p3.mono (s4.trans s5)
  · refine .inl ⟨hst i H2 (s2.trans S2.sub) (by omega), ?_⟩
    rw [List.drop_eq_nil_of_le (by omega)] at p2
    have p2 : Post (RlE K) K C E mu G0 H0 σ G2 (.ok (restore e0 e2 vs, .list (ad ++ []))) Q := p2
    rw [List.append_nil] at p2
    have S4 := StR.restore (vs := vs) S1 S2 s2
    have hw4 : ∀ j : Nat, Own (restore e0 e2 vs) j → σ[j]? ≠ some (some (.ref D)) := fun j ⟨m, dd, oj⟩ q => by
      rw [restore_get] at oj
      by_cases hj : j ∈ vs
      · rw [if_pos hj] at oj
        split at oj
        · cases hk : e0[j]? with
          | none => rw [hk] at oj; cases oj
          | some o =>
            cases o with
            | none => rw [hk] at oj; cases oj
            | some s0 => cases s0 <;> (rw [hk] at oj; cases oj)
        · cases oj
      · rw [if_neg hj] at oj
        exact hown j ⟨m, dd, oj⟩ (by rw [wipe_get, if_neg hj]; exact q)
    have sG : Same G2 (upd G2 D (.lst acc)) := fun a u e => by rw [upd_ne (ne_of_none e hG2)]; exact e
    exact p2 (.ref D) (upd G2 D (.lst acc)) H2 (StR.show nt_lst S4 hacc hG2 h0D hw4) sG (.lst upd_same (RpA.mono sG _ _ racc))
end
end LW

namespace LW
open PySem PySem.Spec PyProof.Rows L2
section
variable {K : PySem.W.Frag} {mu : Mu} {G0 H0 G H G' H' : Hp} {env env' : LEnv} {σ σ' : L2.St} {C : Cl} {E : XK} {α β γ δ : Type}
/-! ### defs -/
def PostR (K : PySem.W.Frag) (C : Cl) (E : XK) (G H : Hp) : R PyData → VK → Prop
  | .ok d, Q => ∀ v G' H', Xt C.T G H G' H' → Rp K G' v d → Q v H'
  | .rai c, _ => ∀ H', Fz C.T (fun _ => False) H H' → E (C.cl c) none H'
  | .stuck, _ => False
/-- what a def of data promises: its answer by run -/
def spP (K : PySem.W.Frag) (C : Cl) (n : Nat) (run : List PyData → R PyData) : Sp := fun vs H Q E => vs.length = n ∧ LamX.Tabs C.T H ∧ ∃ G ds, Same G H ∧ (∀ a o, G a = some o → nt o) ∧ RpA K G vs ds ∧ PostR K C E G H (run ds) Q
def startE (n : Nat) (ds : List PyData) : LEnv := ds.map (fun d => some (.sh d)) ++ List.replicate (n - ds.length) none
def outS : RS → R PyData
  | .rt _ d => .ok d
  | .nx _ => .ok .none
  | .rai c => .rai c
  | _ => .stuck
def runS (n : Nat) (ms : MS) : List PyData → R PyData := fun ds => outS (ms (startE n ds))
theorem start_get {N : List Str} {vs : List V} (i : Nat) : (L2.start N vs)[i]? = if i < vs.length then (vs[i]?).map some else if i < N.length then some none else none := by
  unfold L2.start
  by_cases h : i < vs.length
  · rw [if_pos h, List.getElem?_append_left (by rw [List.length_map]; exact h), List.getElem?_map]
  · rw [if_neg h, List.getElem?_append_right (by rw [List.length_map]; omega), List.length_map, List.getElem?_replicate]
    by_cases h2 : i < N.length
    · rw [if_pos h2, if_pos (by omega)]
    · rw [if_neg h2, if_neg (by omega)]
theorem startE_get {n : Nat} {ds : List PyData} (i : Nat) : (startE n ds)[i]? = if i < ds.length then (ds[i]?).map (fun d => some (.sh d)) else if i < n then some none else none := by
  unfold startE
  by_cases h : i < ds.length
  · rw [if_pos h, List.getElem?_append_left (by rw [List.length_map]; exact h), List.getElem?_map]
  · rw [if_neg h, List.getElem?_append_right (by rw [List.length_map]; omega), List.length_map, List.getElem?_replicate]
    by_cases h2 : i < n
    · rw [if_pos h2, if_pos (by omega)]
    · rw [if_neg h2, if_neg (by omega)]
theorem StR.begin {N : List Str} {vs : List V} {ds : List PyData} (s : Same G H) (gn : ∀ a o, G a = some o → nt o) (tb : LamX.Tabs C.T H) (r : RpA K G vs ds) (hn : vs.length ≤ N.length) : StR K C mu0 G H (startE N.length ds) (L2.start N vs) G H where
  sub := s
  ng := gn
  g0 := .refl _
  fz := .refl tb
  new := fun _ _ e => .inl e
  mh := fun _ m => m.elim
  len := by
    unfold startE L2.start
    rw [List.length_append, List.length_append, List.length_map, List.length_map, List.length_replicate, List.length_replicate, r.length]
  sh := fun i d e => by
    have hl := r.length
    rw [startE_get] at e
    by_cases h : i < ds.length
    · rw [if_pos h] at e
      cases q : ds[i]? with
      | none => rw [q] at e; cases e
      | some d' =>
        rw [q] at e
        cases e
        obtain ⟨v, h1, h2⟩ := r.get q
        exact ⟨v, by rw [start_get, if_pos (by omega), h1]; rfl, h2⟩
    · rw [if_neg h] at e; split at e <;> cases e
  ol := fun i m ds' e => by
    rw [startE_get] at e
    split at e
    · cases q : ds[i]? with
      | none => rw [q] at e; cases e
      | some d' => rw [q] at e; cases e
    · split at e <;> cases e
  ow := fun i j p ⟨m, dd, e⟩ _ _ _ => by
    rw [startE_get] at e
    split at e
    · cases q : ds[i]? with
      | none => rw [q] at e; cases e
      | some d' => rw [q] at e; cases e
    · split at e <;> cases e
theorem StR.xt (S : StR K C mu0 G0 H0 env σ G H) : Xt C.T G0 H0 G H := ⟨S.g0, S.sub, S.fz, S.new⟩
section
variable {P : Program} {w : World} {mg : Str → Option Value} {base : Heap}
theorem fn_ok {x qual : Str} {st : Stmt} {f : Addr} {fd : FuncData} {N ps : List Str} {k : Nat} {ms : MS} (F : Fun K x qual st f fd) (S : FnScope N ps (defScope st)) (hn : ps.length ≤ N.length)
    (hb : ∀ (cdv : Value) (A : Around) (outer : List PySem.Env) (s : Shared) (H : Hp) (E : XK), Room k (A.deeper (envOfC qual (defScope st) s.heap.objs.size f cdv)) →
      ∃ t, PSs (cxOf (L2.CX P w) P w K mg base N qual (defScope st) f cdv A outer s H E) (defBody st) t ∧ SndS K C E t ms) : FnOk P w K mg base (L2.CX P w) (k + 1) f fd ps (spP K C ps.length (runS N.length ms)) := by
  refine F.okX S (fun vs H Q E h => h.1) fun cdv A outer s H vs Q E hr h => ?_
  obtain ⟨hl, tb, G, ds, sG, gn, r, p⟩ := h
  obtain ⟨t, ht, hs⟩ := hb cdv A outer s H E hr
  refine ⟨t, ht, hs _ _ _ _ _ _ _ _ (StR.begin sG gn tb r (by omega)) ?_⟩
  have p : PostR K C E G H (outS (ms (startE N.length ds))) Q := p
  cases e : ms (startE N.length ds) with
  | nx e' => rw [e] at p; exact fun σ' G' H' S' _ => p .non G' H' S'.xt .non
  | rt e' d => rw [e] at p; exact fun v σ' G' H' S' _ r' => p v G' H' S'.xt r'
  | rai c => rw [e] at p; exact fun H' fz => p H' fz
  | bk e' => rw [e] at p; exact p.elim
  | ct e' => rw [e] at p; exact p.elim
  | stuck => rw [e] at p; exact p
/-- a def as its callers know it -/
structure FnI (P : Program) (w : World) (K : PySem.W.Frag) (mg : Str → Option Value) (base : Heap) (C : Cl) (k : Nat) (x : Str) (n : Nat) (run : List PyData → R PyData) : Prop where
  ex : ∃ (f : Addr) (fd : FuncData) (ps : List Str), FnOk P w K mg base (L2.CX P w) k f fd ps (spP K C n run) ∧ mg x = some (.ref f) ∧ PySem.W.keepIn K (.ref f) = true ∧ Binds K fd ps []
theorem spP.imp {n : Nat} {run run' : List PyData → R PyData} (h : ∀ ds, run' ds ≠ .stuck → run ds = run' ds) {vs : List V} {H : Hp} {Q : VK} {E : XK} (q : spP K C n run' vs H Q E) : spP K C n run vs H Q E := by
  obtain ⟨hl, tb, G, ds, s, gn, r, p⟩ := q
  refine ⟨hl, tb, G, ds, s, gn, r, ?_⟩
  rw [h ds fun z => by rw [z] at p; exact p]
  exact p
/-- a swifter account of the same answers -/
theorem FnI.imp {k n : Nat} {x : Str} {run run' : List PyData → R PyData} (F : FnI P w K mg base C k x n run) (h : ∀ ds, run' ds ≠ .stuck → run ds = run' ds) : FnI P w K mg base C k x n run' := by
  obtain ⟨f, fd, ps, G, a, b, c⟩ := F.ex
  exact ⟨f, fd, ps, G.imp fun vs H Q E q => spP.imp h q, a, b, c⟩
end
def mCall (n : Nat) (run : List PyData → R PyData) (g : MA) : M := fun env => (g env).bind fun q => gd (Nat.beq q.2.length n) (lif q.1 (run q.2))
theorem snd_call {n : Nat} {run : List PyData → R PyData} {ta : TA} {g : MA} (h : SndA K C E ta g) : Snd K C E (tCallS (spP K C n run) (fun _ => E) ta) (mCall n run g) := by
  intro mu G0 H0 env σ G H Q S hh
  refine h _ _ _ _ _ _ _ _ S (hh.bind fun p xs G1 H1 S1 s1 r1 h1 => ?_)
  obtain ⟨e, ds⟩ := p
  obtain ⟨c, h1⟩ := Post.gd h1
  refine ⟨r1.length.trans (Nat.eq_of_beq_eq_true c), S1.fz.tb, G1, ds, S1.sub, S1.ng, r1, ?_⟩
  have h1 : Post (RlE K) K C E mu G0 H0 σ G1 (lif e (run ds)) Q := h1
  cases er : run ds with
  | ok d => rw [er] at h1; exact fun v G' H' x r => h1 v G' H' (S1.ext x) x.g r
  | rai c' => rw [er] at h1; exact fun H' s => h1 H' (S1.fz.trans s)
  | stuck => rw [er] at h1; exact h1.elim
/-- f(*e) -/
def mCallStar (n : Nat) (run : List PyData → R PyData) (f : M) : M := fun env => (f env).bind fun q => (seqOf q.2).bind fun ds => gd (Nat.beq ds.length n) (lif q.1 (run ds))
theorem snd_callStar {n : Nat} {run : List PyData → R PyData} {te : TE} {f : M} (h : Snd K C E te f) :
    Snd K C E (fun σ H Q => te σ H fun y H1 => ∃ a xs, y = V.ref a ∧ (SqT K H1 a xs ∨ SqL K H1 a xs) ∧ spP K C n run xs H1 Q E) (mCallStar n run f) := by
  intro mu G0 H0 env σ G H Q S hh
  refine h _ _ _ _ _ _ _ _ S (hh.bind fun p x G1 H1 S1 s1 r1 h1 => ?_)
  obtain ⟨e, d⟩ := p
  have go : ∀ (xs : List V) (ds : List PyData), RpA K G1 xs ds → Post (RlE K) K C E mu G0 H0 σ G1 (gd (Nat.beq ds.length n) (lif e (run ds))) Q → spP K C n run xs H1 Q E := fun xs ds r h1 => by
    obtain ⟨c, h1⟩ := Post.gd h1
    refine ⟨r.length.trans (Nat.eq_of_beq_eq_true c), S1.fz.tb, G1, ds, S1.sub, S1.ng, r, ?_⟩
    cases er : run ds with
    | ok d => rw [er] at h1; exact fun v G' H' x r => h1 v G' H' (S1.ext x) x.g r
    | rai c' => rw [er] at h1; exact fun H' s => h1 H' (S1.fz.trans s)
    | stuck => rw [er] at h1; exact h1.elim
  cases r1 with
  | lst a b => exact ⟨_, _, rfl, .inr (SqL.of (S1.sub _ _ a)), go _ _ b h1⟩
  | tup a b => exact ⟨_, _, rfl, .inl (sqt_same S1.sub a), go _ _ b h1⟩
  | _ => exact h1.elim
end
end LW

namespace LW
open PySem PySem.Spec PyProof.Rows L2
abbrev rAddI : R2 := rI0 fun i j => .int (i + j)
abbrev rSubI : R2 := rI0 fun i j => .int (i - j)
abbrev rMulI : R2 := rI CMul fun i j => .int (i * j)
abbrev rDivI : R2 := rI CDivN fun i j => .int (i.fdiv j)
abbrev rModI : R2 := rI (fun _ j => j ≠ 0) fun i j => .int (i.fmod j)
abbrev rAndI : R2 := rI0 fun i j => .int (Builtin.bitAnd i j)
abbrev rNegI : V → Hp → VK → Prop := rU fun i => .int (-i)
abbrev rLtI : R2 := rI0 fun i j => .bl (decide (i < j))
abbrev rLeI : R2 := rI0 fun i j => .bl (decide (i ≤ j))
abbrev rGtI : R2 := rI0 fun i j => .bl (decide (j < i))
abbrev rGeI : R2 := rI0 fun i j => .bl (decide (j ≤ i))
/-- what may leave, wherever one stands -/
abbrev WW (E : XK) : WX := fun cls d _ H => E cls d H
abbrev EX0 : XK := fun _ _ _ => False
structure ED (X : Cx) (C : Cl) (E : XK) (e : Expr) (te : TE) (m : M) : Prop where
  pe : PE X e te
  sd : Snd X.K C E te m
structure AD (X : Cx) (C : Cl) (E : XK) (es : List Expr) (ta : TA) (m : MA) : Prop where
  pe : PA X es ta
  sd : SndA X.K C E ta m
structure TD (X : Cx) (C : Cl) (E : XK) (e : Expr) (tt : TT) (m : MT) : Prop where
  pe : PT X e tt
  sd : SndT X.K C E tt m
structure WD (X : Cx) (C : Cl) (E : XK) (e : Expr) (tt : TT) (m : MT) : Prop where
  pe : PW X e tt
  sd : SndT X.K C E tt m
structure ID (X : Cx) (C : Cl) (E : XK) (tg e : Expr) (wi : TI) (m : MA) : Prop where
  pe : PI X tg e wi
  sd : SndI X.K C E wi m
structure GD (X : Cx) (C : Cl) (tg : Expr) (g : TG) (b : Bi) (is : List Nat) : Prop where
  pe : PG X tg g
  sd : SndG X.K C g b is
structure GDs (X : Cx) (C : Cl) (tg : List Expr) (g : TGs) (b : BiA) (is : List Nat) : Prop where
  pe : PGs X tg g
  sd : SndGs X.K C g b is
structure SD (X : Cx) (C : Cl) (E : XK) (s : Stmt) (ts : TS) (m : MS) : Prop where
  pe : PS X s ts
  sd : SndS X.K C E ts m
structure BD (X : Cx) (C : Cl) (E : XK) (s : List Stmt) (ts : TS) (m : MS) : Prop where
  pe : PSs X s ts
  sd : SndS X.K C E ts m
section
variable {X : Cx} {C : Cl} {E : XK} {a b c e : Expr} {es : List Expr} {ta tb tc te : TE} {taa : TA} {tt tu : TT} {f g h : M} {ma : MA} {mt mu' : MT} {pos p : Pos}
/-! ### expressions -/
theorem d_var (i : Nat) {x : Str} (hN : X.N[i]? = some x := by rfl) (hv : Vis X.env.scope x := by first | exact Or.inl rfl | exact Or.inr (Or.inl rfl) | exact Or.inr (Or.inr rfl)) (hd : (x == ("__debug__" : Str)) = false := by decide)
    (hcd : (x == ("__classdict__" : Str)) = false := by decide) : ED X C E (.Name x pos) (tVar i) (mVar i) := ⟨pe_var hN hv hd hcd, snd_var⟩
theorem d_int {i j} : ED X C E (.Constant (.int i) j pos) (tC (.int i)) (mC (.int i)) := ⟨pe_int, snd_c fun _ => .int _⟩
theorem d_bl {i j} : ED X C E (.Constant (.bool i) j pos) (tC (.bl i)) (mC (.bool i)) := ⟨pe_bl, snd_c fun _ => .bl _⟩
theorem d_str {i j} : ED X C E (.Constant (.str i) j pos) (tC (.str i)) (mC (.str i)) := ⟨pe_str, snd_c fun _ => .str _⟩
theorem d_non {j} : ED X C E (.Constant .none j pos) (tC .non) (mC .none) := ⟨pe_non, snd_c fun _ => .non⟩
theorem d_op {op : Operator} {r : R2} {o : PyData → PyData → R PyData} (ho : OpR X (binaryOp op) r) (hs : OpS X.K C E r o) (ha : ED X C E a ta f) (hb : ED X C E b tb g) : ED X C E (.BinOp a op b pos) (tOp r ta tb) (mOp o f g) := ⟨pe_op ho ha.pe hb.pe, snd_op hs ha.sd hb.sd⟩
theorem d_add (ha : ED X C E a ta f) (hb : ED X C E b tb g) : ED X C E (.BinOp a .Add b pos) (tOp rAddI ta tb) (mOp iAdd f g) := d_op op_add ops_addI ha hb
theorem d_sub (ha : ED X C E a ta f) (hb : ED X C E b tb g) : ED X C E (.BinOp a .Sub b pos) (tOp rSubI ta tb) (mOp iSub f g) := d_op op_sub ops_subI ha hb
theorem d_mul (ha : ED X C E a ta f) (hb : ED X C E b tb g) : ED X C E (.BinOp a .Mult b pos) (tOp rMulI ta tb) (mOp iMul f g) := d_op op_mul ops_mulI ha hb
theorem d_div (ha : ED X C E a ta f) (hb : ED X C E b tb g) : ED X C E (.BinOp a .FloorDiv b pos) (tOp rDivI ta tb) (mOp iDiv f g) := d_op op_fdivN ops_divI ha hb
theorem d_mod (ha : ED X C E a ta f) (hb : ED X C E b tb g) : ED X C E (.BinOp a .Mod b pos) (tOp rModI ta tb) (mOp iMod f g) := d_op op_modN ops_modI ha hb
theorem d_and (ha : ED X C E a ta f) (hb : ED X C E b tb g) : ED X C E (.BinOp a .BitAnd b pos) (tOp rAndI ta tb) (mOp iAnd f g) := d_op op_and ops_andI ha hb
theorem d_neg (ha : ED X C E a ta f) : ED X C E (.UnaryOp .USub a pos) (tUn rNegI ta) (mUn uNeg f) := ⟨pe_un un_neg ha.pe, snd_un uns_neg ha.sd⟩
theorem d_tup {x1} (h : AD X C E es taa ma) : ED X C E (.Tuple es x1 pos) (tTupF taa) (mTup ma) := ⟨pe_tupF h.pe, snd_tup h.sd⟩
theorem d_lst (h : AD X C E es taa ma) : ED X C E (.List es pos) (tLst taa) (mLst ma) := ⟨pe_lst h.pe, snd_lst h.sd⟩
theorem d_nil : AD X C E [] tNil maNil := ⟨pa_nil, snda_nil⟩
theorem d_cons (ha : ED X C E e te f) (hr : AD X C E es taa ma) (hs : starEach (e :: es) X.env = (false, eval e X.env) :: starEach es X.env := by rfl) : AD X C E (e :: es) (tCons te taa) (maCons f ma) := ⟨pa_cons ha.pe hr.pe hs, snda_cons ha.sd hr.sd⟩
theorem d_ix (ha : ED X C E a ta f) (hb : ED X C E b tb g) (hs : PlainIx b := by exact fun _ _ => rfl) : ED X C E (.Subscript a b pos) (tOp (rIx X.K) ta tb) (mOp iIx f g) := ⟨pe_ix ix_seq ha.pe hb.pe hs, snd_op ops_ix ha.sd hb.sd⟩
theorem d_cmpR {op : CmpOp} {r : R2} {o : PyData → PyData → R PyData} (ho : OpR X (compareOp op) r) (hs : OpS X.K C E r o) (hm : behindInMarks op b = false) (ha : ED X C E a ta f) (hb : ED X C E b tb g) : ED X C E (.Compare a [op] [b] pos) (tOp r ta tb) (mOp o f g) := ⟨pe_cmpR ho ha.pe hb.pe hm, snd_op hs ha.sd hb.sd⟩
theorem d_lt (ha : ED X C E a ta f) (hb : ED X C E b tb g) : ED X C E (.Compare a [.Lt] [b] pos) (tOp rLtI ta tb) (mOp (iCmp fun i j => decide (i < j)) f g) := d_cmpR op_lt ops_cmp (nomark _) ha hb
theorem d_le (ha : ED X C E a ta f) (hb : ED X C E b tb g) : ED X C E (.Compare a [.LtE] [b] pos) (tOp rLeI ta tb) (mOp (iCmp fun i j => decide (i ≤ j)) f g) := d_cmpR op_le ops_cmp (nomark _) ha hb
theorem d_gt (ha : ED X C E a ta f) (hb : ED X C E b tb g) : ED X C E (.Compare a [.Gt] [b] pos) (tOp rGtI ta tb) (mOp (iCmp fun i j => decide (j < i)) f g) := d_cmpR op_gt ops_cmp (nomark _) ha hb
theorem d_ge (ha : ED X C E a ta f) (hb : ED X C E b tb g) : ED X C E (.Compare a [.GtE] [b] pos) (tOp rGeI ta tb) (mOp (iCmp fun i j => decide (j ≤ i)) f g) := d_cmpR op_ge ops_cmp (nomark _) ha hb
theorem d_eq (hu : X.A.units + 64 < cLine) (ha : ED X C E a ta f) (hb : ED X C E b tb g) : ED X C E (.Compare a [.Eq] [b] pos) (tOp (rEqD X.K) ta tb) (mOp iEq f g) := d_cmpR (op_eqD hu) ops_eq (nomark _) ha hb
theorem d_ne (hu : X.A.units + 64 < cLine) (ha : ED X C E a ta f) (hb : ED X C E b tb g) : ED X C E (.Compare a [.NotEq] [b] pos) (tOp (rNeD X.K) ta tb) (mOp iNe f g) := d_cmpR (op_neD hu) ops_ne (nomark _) ha hb
theorem d_ifExp (hc : TD X C E c tt mt) (ha : ED X C E a ta f) (hb : ED X C E b tb g) : ED X C E (.IfExp c a b pos) (tIf tt ta tb) (mIf mt f g) := ⟨pe_ifExp hc.pe ha.pe hb.pe, snd_if hc.sd ha.sd hb.sd⟩
theorem d_andV (ha : ED X C E a ta f) (hb : ED X C E (.BoolOp .And (b :: es) pos) tb g) : ED X C E (.BoolOp .And (a :: b :: es) pos) (tAndV ta tb) (mAndV f g) := ⟨pe_and ha.pe hb.pe, snd_andV ha.sd hb.sd⟩
theorem d_one {op} (ha : ED X C E a ta f) : ED X C E (.BoolOp op [a] pos) ta f := ⟨pe_one ha.pe, ha.sd⟩
/-! ### tests -/
theorem t_cmp (h : ED X C E e te f) (he : ∀ whole, isTrue e X.env whole = (do let v ← whole; standAt e.pos; holding [v] (truthy v)) := by intro _; rfl) : TD X C E e (tB te) (mtB f) := ⟨pt_val h.pe he, sndt_B h.sd⟩
theorem t_cmpR {op : CmpOp} {r : R2} {o : PyData → PyData → R PyData} (ho : OpR X (compareOp op) r) (hs : OpS X.K C E r o) (hm : behindInMarks op b = false) (ha : ED X C E a ta f) (hb : ED X C E b tb g) : TD X C E (.Compare a [op] [b] pos) (tTest (tOp r ta tb)) (mtB (mOp o f g)) := ⟨pt_cmpR ho ha.pe hb.pe hm, sndt_test (snd_op hs ha.sd hb.sd)⟩
theorem t_lt (ha : ED X C E a ta f) (hb : ED X C E b tb g) : TD X C E (.Compare a [.Lt] [b] pos) (tTest (tOp rLtI ta tb)) (mtB (mOp (iCmp fun i j => decide (i < j)) f g)) := t_cmpR op_lt ops_cmp (nomark _) ha hb
theorem t_le (ha : ED X C E a ta f) (hb : ED X C E b tb g) : TD X C E (.Compare a [.LtE] [b] pos) (tTest (tOp rLeI ta tb)) (mtB (mOp (iCmp fun i j => decide (i ≤ j)) f g)) := t_cmpR op_le ops_cmp (nomark _) ha hb
theorem t_gt (ha : ED X C E a ta f) (hb : ED X C E b tb g) : TD X C E (.Compare a [.Gt] [b] pos) (tTest (tOp rGtI ta tb)) (mtB (mOp (iCmp fun i j => decide (j < i)) f g)) := t_cmpR op_gt ops_cmp (nomark _) ha hb
theorem t_ge (ha : ED X C E a ta f) (hb : ED X C E b tb g) : TD X C E (.Compare a [.GtE] [b] pos) (tTest (tOp rGeI ta tb)) (mtB (mOp (iCmp fun i j => decide (j ≤ i)) f g)) := t_cmpR op_ge ops_cmp (nomark _) ha hb
theorem t_eq (hu : X.A.units + 64 < cLine) (ha : ED X C E a ta f) (hb : ED X C E b tb g) : TD X C E (.Compare a [.Eq] [b] pos) (tTest (tOp (rEqD X.K) ta tb)) (mtB (mOp iEq f g)) := t_cmpR (op_eqD hu) ops_eq (nomark _) ha hb
theorem t_ne (hu : X.A.units + 64 < cLine) (ha : ED X C E a ta f) (hb : ED X C E b tb g) : TD X C E (.Compare a [.NotEq] [b] pos) (tTest (tOp (rNeD X.K) ta tb)) (mtB (mOp iNe f g)) := t_cmpR (op_neD hu) ops_ne (nomark _) ha hb
theorem t_tru (h : ED X C E e te f) (he : ∀ whole, isTrue e X.env whole = (do let v ← whole; standAt e.pos; holding [v] (truthy v)) := by intro _; rfl) : TD X C E e (fun σ H Q => te σ H fun x H' => ∃ k, TruV X.K x H' k ∧ Q k H') (mtTru f) := ⟨pt_truth h.pe he, sndt_tru h.sd⟩
theorem t_not (h : TD X C E a tt mt) : TD X C E (.UnaryOp .Not a pos) (tNot tt) (mtNot mt) := ⟨pt_not h.pe, sndt_not h.sd⟩
theorem w_and (ha : TD X C E a tt mt) (hb : WD X C E (.BoolOp .And (b :: es) pos) tu mu') : WD X C E (.BoolOp .And (a :: b :: es) pos) (tAnd tt tu) (mtAnd mt mu') := ⟨pw_and ha.pe hb.pe, sndt_and ha.sd hb.sd⟩
theorem w_or (ha : TD X C E a tt mt) (hb : WD X C E (.BoolOp .Or (b :: es) pos) tu mu') : WD X C E (.BoolOp .Or (a :: b :: es) pos) (tOr tt tu) (mtOr mt mu') := ⟨pw_or ha.pe hb.pe, sndt_or ha.sd hb.sd⟩
theorem w_and1 (ha : TD X C E a tt mt) : WD X C E (.BoolOp .And [a] pos) tt mt := ⟨pw_and1 ha.pe, ha.sd⟩
theorem w_or1 (ha : TD X C E a tt mt) : WD X C E (.BoolOp .Or [a] pos) tt mt := ⟨pw_or1 ha.pe, ha.sd⟩
theorem t_w (h : WD X C E e tt mt) : TD X C E e tt mt := ⟨h.pe.pt, h.sd⟩
/-! ### calls -/
theorem d_call {x : Str} {k n : Nat} {run : List PyData → R PyData} (F : FnI X.prog X.w X.K X.mg X.base C k x n run) (hr : Room k X.A) (tk : Takes X (WW E)) (hg : Gl X x) (ha : AD X C E (e :: es) taa ma)
    (hdb : (x == ("__debug__" : Str)) = false := by decide) (he : starEach (e :: es) X.env = (false, eval e X.env) :: starEach es X.env := by rfl) (hpl : (backTo pos (starEach es X.env)).any (·.1) = false := by rfl) :
    ED X C E (.Call (.Name x p) (e :: es) [] pos) (tCallS (spP X.K C n run) (fun _ => E) taa) (mCall n run ma) := by
  obtain ⟨f, fd, ps, G, hm, hk, hb⟩ := F.ex
  exact ⟨pe_callS G hr hg hm hk hb (fun σ => passAt tk σ) ha.pe hdb he hpl, snd_call ha.sd⟩
theorem d_cb {x : Str} {id : String} {r : List V → Hp → VK → Prop} {op : List PyData → R PyData} (hc : CallR X (.builtin id) r) (hs : CaS X.K C E r op) (hg : Gl X x) (hm : X.mg x = none) (hv : bootBuiltins x = some (.builtin id)) (ha : AD X C E (e :: es) taa ma) (hn : x ≠ "__name__" := by decide) (hdb : (x == ("__debug__" : Str)) = false := by decide)
    (he : starEach (e :: es) X.env = (false, eval e X.env) :: starEach es X.env := by rfl) (hpl : (backTo pos (starEach es X.env)).any (·.1) = false := by rfl) : ED X C E (.Call (.Name x p) (e :: es) [] pos) (tCB r taa) (mCa op ma) := ⟨pe_callB hc hg hm hv ha.pe hn hdb he hpl, snd_cb hs ha.sd⟩
theorem d_ct {x : Str} {id : String} {r : List V → Hp → VK → Prop} {op : List PyData → R PyData} (hc : CallR X (.type id) r) (hs : CaS X.K C E r op) (hg : Gl X x) (hm : X.mg x = none) (hv : bootBuiltins x = some (.type id)) (ha : AD X C E (e :: es) taa ma) (hn : x ≠ "__name__" := by decide) (hdb : (x == ("__debug__" : Str)) = false := by decide)
    (he : starEach (e :: es) X.env = (false, eval e X.env) :: starEach es X.env := by rfl) (hpl : (backTo pos (starEach es X.env)).any (·.1) = false := by rfl) : ED X C E (.Call (.Name x p) (e :: es) [] pos) (tCB r taa) (mCa op ma) := ⟨pe_callTy hc hg hm hv ha.pe hn hdb he hpl, snd_cb hs ha.sd⟩
theorem d_cf {x : Str} {id : String} {r : List V → Hp → VK → Prop} {op : List PyData → R PyData} (hc : CallR X (.builtin id) r) (hs : CaS X.K C E r op) (hg : Gl X x) (hm : X.mg x = some (.builtin id)) (ha : AD X C E (e :: es) taa ma) (hdb : (x == ("__debug__" : Str)) = false := by decide)
    (he : starEach (e :: es) X.env = (false, eval e X.env) :: starEach es X.env := by rfl) (hpl : (backTo pos (starEach es X.env)).any (·.1) = false := by rfl) : ED X C E (.Call (.Name x p) (e :: es) [] pos) (tCB r taa) (mCa op ma) := ⟨pe_callBfun hc hg hm ha.pe hdb he hpl, snd_cb hs ha.sd⟩
/-! ### statements -/
variable {st : Stmt} {sts sts' : List Stmt} {ts tsu : TS} {ms mv : MS}
theorem b_nil : BD X C E [] tNext mNext := ⟨pss_nil, snds_next⟩
theorem b_cons (h1 : SD X C E st ts ms) (h2 : BD X C E sts tsu mv) : BD X C E (st :: sts) (tSeq ts tsu) (mSeq ms mv) := ⟨pss_cons h1.pe h2.pe, snds_seq h1.sd h2.sd⟩
theorem b_one (h1 : SD X C E st ts ms) : BD X C E [st] ts ms := ⟨pss_one h1.pe, h1.sd⟩
theorem s_if (hc : TD X C E c tt mt) (ha : BD X C E sts ts ms) (hb : BD X C E sts' tsu mv) : SD X C E (.If c sts sts' pos) (tIfS tt ts tsu) (mIfS mt ms mv) := ⟨ps_if hc.pe ha.pe hb.pe, snds_if hc.sd ha.sd hb.sd⟩
theorem s_ret (h : ED X C E e te f) : SD X C E (.Return (some e) pos) (tRet te) (mRet f) := ⟨ps_ret h.pe, snds_ret h.sd⟩
theorem s_expr (h : ED X C E e te f) (hs : swapsWith e none pos.line X.env = pure false := by rfl) : SD X C E (.Expr e pos) (tDrop te) (mDrop f) := ⟨ps_expr h.pe hs, snds_drop h.sd⟩
theorem s_pass : SD X C E (.Pass pos) tNext mNext := ⟨ps_pass, snds_next⟩
theorem s_break : SD X C E (.Break pos) tBreak mBreak := ⟨ps_break, snds_break⟩
theorem s_continue : SD X C E (.Continue pos) tCont mCont := ⟨ps_continue, snds_cont⟩
theorem g_name (i : Nat) {x : Str} (hN : X.N.Nodup) (hi : X.N[i]? = some x := by rfl) (hx : Loc X.env.scope x := by first | exact Or.inl rfl | exact Or.inr rfl) (hf : X.fn x = true ∨ X.env.scope.names.lookup x = some .local := by first | exact .inl rfl | exact .inr rfl | assumption) : GD X C (.Name x pos) (gName i) (bName i) [i] := ⟨pg_name hN hi hx hf, sndg_name⟩
theorem g_nil : GDs X C [] gNil bNil [] := ⟨pgs_nil, sndgs_nil⟩
theorem g_cons {gg : TG} {gs : TGs} {bb : Bi} {bs : BiA} {is js : List Nat} (h1 : GD X C e gg bb is) (h2 : GDs X C es gs bs js)
    (hs : (assignEach (e :: es) X.env).map (·.2) = assign e X.env :: (assignEach es X.env).map (·.2) := by rfl) : GDs X C (e :: es) (gCons gg gs) (bCons bb bs) (is ++ js) := ⟨pgs_cons h1.pe h2.pe hs, sndgs_cons h1.sd h2.sd⟩
theorem g_tup {k n : Nat} {gs : TGs} {bs : BiA} {is : List Nat} (hc : X.calm = true) (h : GDs X C es gs bs is)
    (hn : (assignEach es X.env).length = n := by rfl) (hst : (assignEach es X.env).findIdx? (·.1) = none := by rfl) : GD X C (.Tuple es k pos) (gTup X.K n gs) (bTup n bs) is := ⟨pg_tup hc h.pe hn hst, sndg_tup h.sd⟩
theorem s_asg {tg : Expr} {gg : TG} {bb : Bi} {is : List Nat} (he : ED X C E e te f) (hg : GD X C tg gg bb is) (hs : swapsWithSole [tg] e pos.line X.env = pure false := by rfl) (hw : swappedStores [tg] e X.env = pure none := by rfl)
    (h1 : (assignEach [tg] X.env).map (·.2) = [assign tg X.env] := by rfl) : SD X C E (.Assign [tg] e pos) (tAsg te gg) (mAsg bb f) := ⟨ps_asg he.pe hg.pe hs hw h1, snds_asg he.sd hg.sd⟩
theorem s_par (i j : Nat) {x y : Str} {px py pt : Pos} {kt k2 pt2} (hc : X.calm = true) (hN : X.N.Nodup) (ha : AD X C E [a, b] taa ma) (hi : X.N[i]? = some x := by rfl) (hj : X.N[j]? = some y := by rfl) (hij : i ≠ j := by decide)
    (hx : X.env.scope.names.lookup x = some .local := by rfl) (hy : X.env.scope.names.lookup y = some .local := by rfl)
    (hw : swappedStores [.Tuple [.Name x px, .Name y py] kt pt] (.Tuple [a, b] k2 pt2) X.env = pure (some [x, y]) := by rfl)
    (hs : swapsWithSole [.Tuple [.Name x px, .Name y py] kt pt] (.Tuple [a, b] k2 pt2) pos.line X.env = pure false := by rfl) :
    SD X C E (.Assign [.Tuple [.Name x px, .Name y py] kt pt] (.Tuple [a, b] k2 pt2) pos) (tPar i j taa) (mPar i j ma) := ⟨ps_par hc hN hi hj hij hx hy ha.pe hw hs, snds_par ha.sd⟩
theorem i_seq {tg : Expr} (h : ED X C E e te f) : ID X C E tg e (iSeq X.K te) (miSeq f) := ⟨pi_seq h.pe, sndi_seq h.sd⟩
theorem i_rg1 {tg : Expr} (hg : Gl X "range") (hm : X.mg "range" = none) (ha : AD X C E [a] taa ma) (hs : starEach [a] X.env = [(false, eval a X.env)] := by rfl) : ID X C E tg (.Call (.Name "range" p) [a] [] pos) (iRng1 taa) (miR rg1 ma) := ⟨pi_range1 hg hm ha.pe hs, sndi_rg1 ha.sd⟩
theorem i_rg2 {tg : Expr} (hg : Gl X "range") (hm : X.mg "range" = none) (ha : AD X C E [a, b] taa ma) (hs : starEach [a, b] X.env = [(false, eval a X.env), (false, eval b X.env)] := by rfl) (hs2 : starEach [b] X.env = [(false, eval b X.env)] := by rfl) :
    ID X C E tg (.Call (.Name "range" p) [a, b] [] pos) (iRng2 taa) (miR rg2 ma) := ⟨pi_range2 hg hm ha.pe hs hs2, sndi_rg2 ha.sd⟩
theorem s_for {tg iter : Expr} {wi : TI} {gg : TG} {bb : Bi} {is : List Nat} (hp : PassesOwn (model X.prog X.w) X.A X.env X.xe) (hc : X.calm = true) (hi : ID X C E tg iter wi ma) (hg : GD X C tg gg bb is) (hb : BD X C E sts ts ms)
    (hs : ∀ x, foldedSetIterable iter X.env x = pure x := by intro _; rfl) : SD X C E (.For tg iter sts [] pos) (tFor wi gg ts) (mFor ma bb ms) := ⟨ps_for hp hc hi.pe hg.pe hb.pe hs, snds_for hi.sd hg.sd hb.sd⟩
theorem s_while (n : Nat) (hp : PassesOwn (model X.prog X.w) X.A X.env X.xe) (hc : TD X C E c tt mt) (hb : BD X C E sts ts ms) : SD X C E (.While c sts [] pos) (tWhile tt ts) (mWhile n mt ms) := ⟨ps_while hp hc.pe hb.pe, snds_while hc.sd hb.sd⟩
theorem s_rai {c : Nat} {a : Addr} {x m : Str} {j : Nat} {p2 pos' : Pos} {bm : List Value} (hc : X.calm = true) (tk : Takes X (WW E)) (q : PySem.W.excIn X.K a bm "ValueError.__new__" = true) (F : ExcBaseFacts "ValueError" "ValueError.__new__" "ValueError.__init__" bm) (gC : X.mg x = some (.ref a)) (kC : PySem.W.keepIn X.K (.ref a) = true) (r : Raises X (.ref a)) (hg : Gl X x) (eC : C.cl c = .ref a)
    (hdb : (x == ("__debug__" : Str)) = false := by decide) : SD X C E (.Raise (some (.Call (.Name x p) [.Constant (.str m) j p2] [] pos)) none pos') (fun _ σ H => (fun _ H Q => Q (.ref a) none H : L2.St → Hp → XK → Prop) σ H fun cls d H' => E cls d H') (mRai c) := ⟨ps_raise hc tk (pmk_own F q gC kC r hg hdb), snds_rai eC⟩
/-! ### comprehensions -/
theorem d_lc {tg iter elt : Expr} {scope : Scope} {own : List (Str × Nat)} {vs : List Nat} {wi : TI} {gg : TG} {bb : Bi} {is : List Nat} (hc : X.calm = true) (hN : X.N.Nodup) (ok : BlkOk X.N X.env.scope scope own) (hi : ID X C E tg iter wi ma)
    (hg : ∀ (s : Shared) (H : Hp) (B : Addr) (cl : List (Str × Addr)) (fp : List Addr), GD (X.blk s H scope (compEnvC scope cl B X.env) fp) C tg gg bb is)
    (he : ∀ (s : Shared) (H : Hp) (B : Addr) (cl : List (Str × Addr)) (fp : List Addr), ED (X.blk s H scope (compEnvC scope cl B X.env) fp) C EX0 elt te f) (hvs : own.map (·.2) = vs := by rfl) (his : ∀ i ∈ is, i ∈ vs := by decide) (hs : ∀ x, foldedSetIterable iter X.env x = pure x := by intro _; rfl) :
    ED X C E (.ListComp elt [⟨tg, iter, [], 0⟩] scope pos) (tLc wi gg tYes te vs) (mComp vs ma bb mtYes f) := by
  subst hvs
  exact ⟨pe_lc hc hN hi.pe ok (fun s H B cl fp => (hg s H B cl fp).pe) (fun _ _ _ _ _ => pts_nil) (fun s H B cl fp => (he s H B cl fp).pe) hs, snd_comp hi.sd (hg X.s_0 X.H_0 0 [] []).sd his sndt_yes (he X.s_0 X.H_0 0 [] []).sd⟩
theorem d_lcif {tg iter elt : Expr} {scope : Scope} {own : List (Str × Nat)} {vs : List Nat} {wi : TI} {gg : TG} {bb : Bi} {is : List Nat} (hc : X.calm = true) (hN : X.N.Nodup) (ok : BlkOk X.N X.env.scope scope own) (hi : ID X C E tg iter wi ma)
    (hg : ∀ (s : Shared) (H : Hp) (B : Addr) (cl : List (Str × Addr)) (fp : List Addr), GD (X.blk s H scope (compEnvC scope cl B X.env) fp) C tg gg bb is)
    (ht : ∀ (s : Shared) (H : Hp) (B : Addr) (cl : List (Str × Addr)) (fp : List Addr), TD (X.blk s H scope (compEnvC scope cl B X.env) fp) C EX0 c tt mt)
    (he : ∀ (s : Shared) (H : Hp) (B : Addr) (cl : List (Str × Addr)) (fp : List Addr), ED (X.blk s H scope (compEnvC scope cl B X.env) fp) C EX0 elt te f) (hvs : own.map (·.2) = vs := by rfl) (his : ∀ i ∈ is, i ∈ vs := by decide) (hs : ∀ x, foldedSetIterable iter X.env x = pure x := by intro _; rfl) :
    ED X C E (.ListComp elt [⟨tg, iter, [c], 0⟩] scope pos) (tLc wi gg tt te vs) (mComp vs ma bb mt f) := by
  subst hvs
  exact ⟨pe_lc hc hN hi.pe ok (fun s H B cl fp => (hg s H B cl fp).pe) (fun s H B cl fp => pts_one (ht s H B cl fp).pe) (fun s H B cl fp => (he s H B cl fp).pe) hs, snd_comp hi.sd (hg X.s_0 X.H_0 0 [] []).sd his (ht X.s_0 X.H_0 0 [] []).sd (he X.s_0 X.H_0 0 [] []).sd⟩
end
end LW

namespace LW
open PySem PySem.Spec PyProof.Rows L2
section
variable {K : PySem.W.Frag} {mu : Mu} {G0 H0 G H G' H' : Hp} {env env' : LEnv} {σ σ' : L2.St} {C : Cl} {E : XK} {α β γ δ : Type} {X : Cx}
theorem fn_okD {P : Program} {w : World} {mg : Str → Option Value} {base : Heap} {x qual : Str} {params : Arguments} {body : List Stmt} {scope : Scope} {dvs : List V} {f : Addr} {fd : FuncData} {N ps : List Str} {k : Nat} {ms : MS} (F : FunD K x qual params body scope dvs [] f fd) (S : FnScope N ps scope) (hn : ps.length ≤ N.length)
    (hb : ∀ (cdv : Value) (A : Around) (outer : List PySem.Env) (s : Shared) (H : Hp) (E : XK), Room k (A.deeper (envOfC qual scope s.heap.objs.size f cdv)) →
      ∃ t, BD (cxOf (L2.CX P w) P w K mg base N qual scope f cdv A outer s H E) C E body t ms) : FnOk P w K mg base (L2.CX P w) (k + 1) f fd ps (spP K C ps.length (runS N.length ms)) := by
  refine F.ok S (fun vs H Q E h => h.1) fun cdv A outer s H vs Q E hr h => ?_
  obtain ⟨hl, tb, G, ds, sG, gn, r, p⟩ := h
  obtain ⟨t, ht⟩ := hb cdv A outer s H E hr
  refine ⟨t, ht.pe, ht.sd _ _ _ _ _ _ _ _ (StR.begin sG gn tb r (by omega)) ?_⟩
  have p : PostR K C E G H (outS (ms (startE N.length ds))) Q := p
  cases e : ms (startE N.length ds) with
  | nx e' => rw [e] at p; exact fun σ' G' H' S' _ => p .non G' H' S'.xt .non
  | rt e' d => rw [e] at p; exact fun v σ' G' H' S' _ r' => p v G' H' S'.xt r'
  | rai c => rw [e] at p; exact fun H' fz => p H' fz
  | bk e' => rw [e] at p; exact p.elim
  | ct e' => rw [e] at p; exact p.elim
  | stuck => rw [e] at p; exact p
/-- an own error's class, as the defs that raise it know it -/
structure ExA (K : PySem.W.Frag) (mg : Str → Option Value) (C : Cl) (x : Str) (c : Nat) (a : Addr) : Prop where
  c : C.cl c = .ref a
  g : mg x = some (.ref a)
  k : PySem.W.keepIn K (.ref a) = true
  q : PySem.W.excIn K a He.veBase "ValueError.__new__" = true
  sb : PySem.W.subIn K (.ref a) (.type "BaseException") = some true
  ty : PySem.W.typeIn K (.ref a) = some (.type "type")
theorem ExA.r {X : Cx} {mg : Str → Option Value} {x : Str} {c : Nat} {a : Addr} (e : ExA X.K mg C x c a) : Raises X (.ref a) := raises_own e.sb e.ty
structure ExI (K : PySem.W.Frag) (mg : Str → Option Value) (C : Cl) (x : Str) (c : Nat) : Prop where
  ex : ∃ a, ExA K mg C x c a
/-- a tuple of the module's top -/
structure TupK (K : PySem.W.Frag) (a : Addr) (ds : List PyData) : Prop where
  ex : ∃ vs, (∀ H, TpT K H a vs) ∧ ∀ G, RpA K G vs ds
theorem d_glob {x : Str} {a : Addr} {ds : List PyData} {pos : Pos} (hm : X.mg x = some (.ref a)) (t : TupK X.K a ds) (hg : Gl X x) (hd : (x == ("__debug__" : Str)) = false := by decide) : ED X C E (.Name x pos) (tC (.ref a)) (mC (.tuple ds)) := by
  obtain ⟨vs, h1, h2⟩ := t.ex
  exact ⟨pe_glob hg hm rfl hd, snd_c fun G => .tup (h1 G) (h2 G)⟩
/-! ### a < b < c -/
def mChain (o o' : PyData → PyData → R PyData) (f g h : M) : M := fun env => (f env).bind fun p => (g p.1).bind fun q => (lif q.1 (o p.2 q.2)).bind fun z => match z.2 with
  | .bool true => (h z.1).bind fun u => lif u.1 (o' q.2 u.2)
  | .bool false => .ok (z.1, .bool false)
  | _ => .stuck
theorem snd_chain {r r' : R2} {o o' : PyData → PyData → R PyData} {ta tb tc : TE} {f g h : M} (hr : OpS K C E r o) (hr' : OpS K C E r' o') (ha : Snd K C E ta f) (hb : Snd K C E tb g) (hc : Snd K C E tc h) : Snd K C E (tChain r r' ta tb tc) (mChain o o' f g h) := by
  intro mu G0 H0 env σ G H Q S hh
  refine ha _ _ _ _ _ _ _ _ S (hh.bind fun p x G1 H1 S1 s1 r1 h1 => ?_)
  refine hb _ _ _ _ _ _ _ _ S1 (h1.bind fun q y G2 H2 S2 s2 r2 h2 => ?_)
  refine hr _ _ _ _ _ _ _ _ _ _ _ _ S2 (Rp.mono s2 _ _ r1) r2 (h2.bind fun z v G3 H3 S3 s3 r3 h3 => ?_)
  obtain ⟨e, d⟩ := z
  cases r3 with
  | bl b =>
    refine ⟨b, rfl, ?_⟩
    cases b with
    | false => exact iteF (post_here S3 h3 (.bl _))
    | true =>
      refine iteT (hc _ _ _ _ _ _ _ _ S3 (Post.bind (f := fun u => lif u.1 (o' q.2 u.2)) h3 fun u w G4 H4 S4 s4 r4 h4 => ?_))
      exact hr' _ _ _ _ _ _ _ _ _ _ _ _ S4 (Rp.mono (s3.trans s4) _ _ r2) r4 h4
  | _ => exact h3.elim
theorem d_chain {op op' : CmpOp} {r r' : R2} {o o' : PyData → PyData → R PyData} {a b c : Expr} {ta tb tc : TE} {f g h : M} {pos : Pos} (ho : OpR X (compareOp op) r) (hs : OpS X.K C E r o) (ho' : OpR X (compareOp op') r') (hs' : OpS X.K C E r' o') (ha : ED X C E a ta f) (hb : ED X C E b tb g) (hc : ED X C E c tc h)
    (hm : lastMarks [op, op'] [b, c] = false := by with_unfolding_all rfl) : ED X C E (.Compare a [op, op'] [b, c] pos) (tChain r r' ta tb tc) (mChain o o' f g h) := ⟨pe_chain ho ho' ha.pe hb.pe hc.pe hm, snd_chain hs hs' ha.sd hb.sd hc.sd⟩
theorem t_chain {op op' : CmpOp} {r r' : R2} {o o' : PyData → PyData → R PyData} {a b c : Expr} {ta tb tc : TE} {f g h : M} {pos : Pos} (ho : OpR X (compareOp op) r) (hs : OpS X.K C E r o) (ho' : OpR X (compareOp op') r') (hs' : OpS X.K C E r' o') (ha : ED X C E a ta f) (hb : ED X C E b tb g) (hc : ED X C E c tc h)
    (hm : lastMarks [op, op'] [b, c] = false := by with_unfolding_all rfl) : TD X C E (.Compare a [op, op'] [b, c] pos) (tTest (tChain r r' ta tb tc)) (mtB (mChain o o' f g h)) := ⟨pt_chain ho ho' ha.pe hb.pe hc.pe hm, sndt_test (snd_chain hs hs' ha.sd hb.sd hc.sd)⟩
/-! ### f(*e) -/
theorem d_callStar {x : Str} {k n : Nat} {run : List PyData → R PyData} {e : Expr} {te : TE} {f : M} {p sp_ pos : Pos} (F : FnI X.prog X.w X.K X.mg X.base C k x n run) (hr : Room k X.A) (tk : Takes X (WW E)) (hg : Gl X x) (he : ED X C E e te f) (hd : (x == ("__debug__" : Str)) = false := by decide)
    (hst : starEach [.Starred e sp_] X.env = [(true, eval e X.env)] := by rfl) : ED X C E (.Call (.Name x p) [.Starred e sp_] [] pos) (fun σ H Q => te σ H fun y H1 => ∃ a xs, y = V.ref a ∧ (SqT X.K H1 a xs ∨ SqL X.K H1 a xs) ∧ spP X.K C n run xs H1 Q E) (mCallStar n run f) := by
  obtain ⟨g, fd, ps, G, hm, hk, hb⟩ := F.ex
  have R1 := G.raw hb .nil
  have R2 : FnR X.prog X.w X.K X.mg X.base (L2.CX X.prog X.w) k g (spP X.K C n run) := R1.imp fun vs H Q E q => by rw [List.append_nil]; exact q
  exact ⟨StX.pe_callS1 R2 hr hk hg hm (passes_call tk fun _ _ _ _ h => h) he.pe hd hst, snd_callStar he.sd⟩
/-! ### texts -/
def cStr : List PyData → R PyData
  | [.int i] => gd (Nat.blt i.natAbs.log2 1920) (.ok (.str (toString i)))
  | _ => .stuck
theorem cas_str : CaS K C E (fun xs H Q => ∃ i : Int, xs = [.int i] ∧ i.natAbs.log2 < 1920 ∧ Q (.str (toString i)) H) cStr := by
  intro mu G0 H0 env σ G H xs ds Q S r h
  cases r with
  | nil => exact h.elim
  | cons r1 r2 =>
    cases r2 with
    | cons _ _ => cases r1 <;> exact h.elim
    | nil =>
      cases r1 <;> first | exact h.elim | skip
      obtain ⟨c, h⟩ := Post.gdL h
      exact ⟨_, rfl, Nat.le_of_ble_eq_true c, post_here S h (.str _)⟩
def mFmt (f : M) : M := fun env => (f env).bind fun p => match p.2 with
  | .int i => gd (Nat.blt i.natAbs.log2 1920) (.ok (p.1, .str (toString i)))
  | .str y => gd (Nat.ble y.length small) (.ok (p.1, .str y))
  | _ => .stuck
theorem snd_fmt {te : TE} {f : M} (h : Snd K C E te f) : Snd K C E (tFmt te) (mFmt f) := by
  intro mu G0 H0 env σ G H Q S hh
  refine h _ _ _ _ _ _ _ _ S (hh.bind fun p x G1 H1 S1 s1 r1 h1 => ?_)
  obtain ⟨e, d⟩ := p
  cases r1 with
  | int i =>
    obtain ⟨c, h1⟩ := Post.gd h1
    exact .inr ⟨i, rfl, Nat.le_of_ble_eq_true c, post_here S1 h1 (.str _)⟩
  | str y =>
    obtain ⟨c, h1⟩ := Post.gd h1
    exact .inl ⟨y, rfl, Nat.le_trans (Nat.le_of_ble_eq_true c) small_le, post_here S1 h1 (.str _)⟩
  | _ => exact h1.elim
theorem d_fmt {e : Expr} {te : TE} {f : M} {pos : Pos} (h : ED X C E e te f) : ED X C E (.FormattedValue e (-1) none pos) (tFmt te) (mFmt f) := ⟨pe_fmt h.pe, snd_fmt h.sd⟩
def joinL : List M → Str → LEnv → RE PyData
  | [], acc, env => .ok (env, .str acc)
  | f :: fs, acc, env => (f env).bind fun p => match p.2 with
    | .str y => gd (Nat.ble (acc ++ y).length small) (joinL fs (acc ++ y) p.1)
    | _ => .stuck
def mJoin (fs : List M) : M := fun env => joinL fs Str.empty env
inductive JD (X : Cx) (C : Cl) (E : XK) : List Expr → List TE → List M → Prop
  | nil : JD X C E [] [] []
  | cons {e : Expr} {t : TE} {f : M} {es : List Expr} {ts : List TE} {fs : List M} (h : ED X C E e t f) (r : JD X C E es ts fs) : JD X C E (e :: es) (t :: ts) (f :: fs)
theorem JD.pj {es : List Expr} {ts : List TE} {fs : List M} (h : JD X C E es ts fs) : PJ X es ts := by
  induction h with
  | nil => exact .nil
  | cons h _ ih => exact .cons h.pe ih
theorem JD.sd {es : List Expr} {ts : List TE} {fs : List M} (h : JD X C E es ts fs) : ∀ (acc : Str) mu G0 H0 env σ G H (Q : Str → Hp → Prop), StR X.K C mu G0 H0 env σ G H → Post (fun G v d => Rp X.K G v d) X.K C E mu G0 H0 σ G (joinL fs acc env) (fun v H => ∃ z, v = .str z ∧ Q z H) → tJs ts acc σ H Q := by
  induction h with
  | nil =>
    intro acc mu G0 H0 env σ G H Q S h
    obtain ⟨z, e, q⟩ := h (.str acc) G H S (.refl _) (.str _)
    cases e
    exact q
  | @cons e t f es ts fs he _ ih =>
    intro acc mu G0 H0 env σ G H Q S h
    refine he.sd _ _ _ _ _ _ _ _ S (Post.bind (Rl1 := RlE X.K) h fun p x G1 H1 S1 s1 r1 h1 => ?_)
    obtain ⟨e1, d⟩ := p
    cases r1 with
    | str y =>
      obtain ⟨c, h1⟩ := Post.gd h1
      exact ⟨y, rfl, Nat.le_trans (Nat.le_of_ble_eq_true c) small_le, ih _ _ _ _ _ _ _ _ _ S1 h1⟩
    | _ => exact h1.elim
theorem d_joined {v1 v2 : Expr} {rest : List Expr} {ts : List TE} {fs : List M} {pos : Pos} (h : JD X C E (v1 :: v2 :: rest) ts fs) : ED X C E (.JoinedStr (v1 :: v2 :: rest) pos) (fun σ H Q => tJs ts Str.empty σ H fun out H1 => Q (.str out) H1) (mJoin fs) :=
  ⟨pe_joined h.pj, fun mu G0 H0 env σ G H Q S q => h.sd _ _ _ _ _ _ _ _ _ S (by
    have q : Post (RlE X.K) X.K C E mu G0 H0 σ G (joinL fs Str.empty env) Q := q
    cases e : joinL fs Str.empty env with
    | rai c => rw [e] at q; exact q
    | stuck => rw [e] at q; exact q
    | ok p =>
      rw [e] at q
      intro v G' H' S' s' r
      have q1 := q v G' H' S' s' r
      -- the answer is a text
      have txt : ∀ (fs : List M) (acc : Str) (env : LEnv) p, joinL fs acc env = .ok p → ∃ z, p.2 = PyData.str z := by
        intro fs
        induction fs with
        | nil => intro acc env p h; cases h; exact ⟨_, rfl⟩
        | cons f fs ih =>
          intro acc env p h
          have h : ((f env).bind fun p => match p.2 with
            | .str y => gd (Nat.ble (acc ++ y).length small) (joinL fs (acc ++ y) p.1)
            | _ => .stuck) = R.ok p := h
          cases ef : f env with
          | rai c => rw [ef] at h; cases h
          | stuck => rw [ef] at h; cases h
          | ok u =>
            rw [ef] at h
            obtain ⟨u1, u2⟩ := u
            cases u2 with
            | str y =>
              have h : gd (Nat.ble (acc ++ y).length small) (joinL fs (acc ++ y) u1) = R.ok p := h
              cases c : Nat.ble (acc ++ y).length small with
              | true => rw [c] at h; exact ih _ _ _ h
              | false => rw [c] at h; cases h
            | _ => cases h
      obtain ⟨z, ez⟩ := txt fs _ _ p e
      have r : Rp X.K G' v p.2 := r
      rw [ez] at r
      cases r
      exact ⟨z, rfl, q1⟩)⟩
abbrev j_nil : JD X C E [] [] [] := .nil
end
theorem j_cons {X : Cx} {C : Cl} {E : XK} {e : Expr} {t : TE} {f : M} {es : List Expr} {ts : List TE} {fs : List M} (h : ED X C E e t f) (r : JD X C E es ts fs) : JD X C E (e :: es) (t :: ts) (f :: fs) := .cons h r
end LW

namespace LW
open PySem PySem.Spec PyProof.Rows L2
section
variable {K : PySem.W.Frag} {mu : Mu} {G0 H0 G H G' H' : Hp} {env env' : LEnv} {σ σ' : L2.St} {C : Cl} {E : XK} {α β γ δ : Type} {X : Cx}
/-! ### lists of the def's own, by slots -/
/-- the list of slot i has changed, more objects have come -/
theorem StR.own_to (S : StR K C mu G0 H0 env σ G H) {i : Nat} {m : Bool} {cs cs' : List PyData} {p : Addr} {ws' : List V} (hi : env[i]? = some (some (.ow m cs))) (hs : σ[i]? = some (some (.ref p)))
    (hg : Same G G') (hG : Same G' H') (hk : Fz C.T (fun a => a = p) H H') (hn : ∀ a o, G' a = some o → G a = some o ∨ (Nw H a ∧ nt o)) (hp : H' p = some (.lst ws')) (hr : RpA K G' ws' cs') : StR K C mu G0 H0 (env.set i (some (.ow m cs'))) σ G' H' := by
  obtain ⟨p', vs, h1, h2, h3, h4, h5⟩ := S.ol i m cs hi
  rw [hs] at h1
  cases h1
  have hil : i < env.length := (List.getElem?_eq_some_iff.mp hi).1
  have noG : ∀ b o, nt o → H b = some o → G b = none → G' b = none := fun b o n e g => by
    cases q : G' b with
    | none => rfl
    | some u =>
      rcases hn b u q with z | z
      · rw [g] at z; cases z
      · exact (z.1 _ n e).elim
  exact {
    sub := hG
    ng := fun a o e => by
      rcases hn a o e with z | z
      · exact S.ng a o z
      · exact z.2
    g0 := S.g0.trans hg
    fz := ⟨fun b o mb n e => hk.k b o (fun z => by
      subst z
      cases m with
      | true => exact mb (mu.sub _ h5)
      | false =>
        rcases h5 with h5 | h5
        · exact mb h5
        · exact h5 _ n e) n (S.fz.k b o mb n e), hk.tb⟩
    new := fun a o e => by
      rcases hn a o e with z | z
      · exact S.new a o z
      · exact .inr ⟨S.none0 z.1, z.2⟩
    mh := fun a ma => by
      by_cases z : a = p
      · subst z; exact ⟨_, hp⟩
      · obtain ⟨o, e⟩ := S.mh a ma; exact ⟨o, hk.k a _ z nt_lst e⟩
    len := by rw [List.length_set]; exact S.len
    sh := fun j d e => by
      rw [get_set] at e
      by_cases z : i = j
      · subst z; rw [if_pos rfl, if_pos hil] at e; cases e
      · rw [if_neg z] at e
        obtain ⟨v, e1, e2⟩ := S.sh j d e
        exact ⟨v, e1, Rp.mono hg _ _ e2⟩
    ol := fun j m' ds e => by
      rw [get_set] at e
      by_cases z : i = j
      · subst z
        rw [if_pos rfl, if_pos hil] at e
        cases e
        exact ⟨p, ws', hs, hp, hr, noG p _ nt_lst h2 h4, h5⟩
      · rw [if_neg z] at e
        obtain ⟨q, us, e1, e2, e3, e4, e5⟩ := S.ol j m' ds e
        have nq : q ≠ p := fun y => z (S.ow i j p ⟨_, _, hi⟩ ⟨_, _, e⟩ hs (by rw [e1, y]))
        exact ⟨q, us, e1, hk.k q _ nq nt_lst e2, RpA.mono hg _ _ e3, noG q _ nt_lst e2 e4, e5⟩
    ow := fun j k q oj ok a b => by
      have up : ∀ j, Own (env.set i (some (.ow m cs'))) j → Own env j := fun j ⟨m', ds, e⟩ => by
        rw [get_set] at e
        by_cases z : i = j
        · subst z; exact ⟨_, _, hi⟩
        · rw [if_neg z] at e; exact ⟨_, _, e⟩
      exact S.ow j k q (up j oj) (up k ok) a b }
def mIxV (i : Nat) (g : M) : M := fun env => match nth env i with
  | some (some _) => (g env).bind fun q => match nth q.1 i with
    | some (some (.sh d)) => lif q.1 (iIx d q.2)
    | some (some (.ow _ ds)) => (match q.2 with
      | .int k => lif q.1 (ixD k ds)
      | _ => .stuck)
    | _ => .stuck
  | _ => .stuck
theorem StR.some_at (S : StR K C mu G0 H0 env σ G H) {i : Nat} {s : Sl} (h : env[i]? = some (some s)) : ∃ v, σ[i]? = some (some v) := by
  cases s with
  | sh d => obtain ⟨v, e, _⟩ := S.sh i d h; exact ⟨v, e⟩
  | ow m ds => obtain ⟨p, vs, e, _⟩ := S.ol i m ds h; exact ⟨_, e⟩
theorem ixD_rai {i : Int} {ds : List PyData} {c : Nat} : ixD i ds ≠ .rai c := by
  intro e
  unfold ixD at e
  split at e
  · split at e <;> cases e
  · cases hb : Nat.blt _ ds.length <;> rw [hb] at e
    · cases e
    · simp only [cond_true] at e
      split at e <;> cases e
theorem snd_ixV {i : Nat} {tb : TE} {g : M} (hb : Snd K C E tb g) : Snd K C E (tOp (rIx K) (tVar i) tb) (mIxV i g) := by
  intro mu G0 H0 env σ G H Q S h
  unfold mIxV at h
  rw [nth_eq] at h
  cases e0 : env[i]? with
  | none => rw [e0] at h; exact h.elim
  | some o =>
    cases o with
    | none => rw [e0] at h; exact h.elim
    | some s =>
      rw [e0] at h
      obtain ⟨v, hv⟩ := S.some_at e0
      refine ⟨v, hv, hb _ _ _ _ _ _ _ _ S (Post.bind (Rl1 := RlE K) h fun q y G2 H2 S2 s2 r2 h2 => ?_)⟩
      have h2 : Post (RlE K) K C E mu G0 H0 σ G2 (match nth q.1 i with
        | some (some (.sh d)) => lif q.1 (iIx d q.2)
        | some (some (.ow _ ds)) => (match q.2 with
          | .int k => lif q.1 (ixD k ds)
          | _ => .stuck)
        | _ => .stuck) Q := h2
      rw [nth_eq] at h2
      cases e1 : q.1[i]? with
      | none => rw [e1] at h2; exact h2.elim
      | some o =>
        cases o with
        | none => rw [e1] at h2; exact h2.elim
        | some s1 =>
          rw [e1] at h2
          cases s1 with
          | sh d =>
            obtain ⟨v', hv', rv⟩ := S2.sh i d e1
            rw [hv] at hv'
            cases hv'
            exact ops_ix _ _ _ _ _ _ _ _ _ _ _ _ S2 rv r2 h2
          | ow m ds =>
            obtain ⟨p, ws, e2, e3, e4, _⟩ := S2.ol i m ds e1
            rw [hv] at e2
            cases e2
            obtain ⟨e', dq⟩ := q
            cases r2 with
            | int k =>
              have h2 : Post (RlE K) K C E mu G0 H0 σ G2 (lif e' (ixD k ds)) Q := h2
              cases e : ixD k ds with
              | ok d =>
                rw [e] at h2
                obtain ⟨v, a1, a2⟩ := ixD_at e4 e
                exact .inl ⟨_, _, _, v, rfl, rfl, SqL.of e3, a1, post_here S2 h2 a2⟩
              | rai c => exact (ixD_rai e).elim
              | stuck => rw [e] at h2; exact h2.elim
            | _ => exact h2.elim
theorem d_ixV (i : Nat) {x : Str} {b : Expr} {tb : TE} {g : M} {p pos : Pos} (hb : ED X C E b tb g) (hN : X.N[i]? = some x := by rfl) (hv : Vis X.env.scope x := by first | exact Or.inl rfl | exact Or.inr (Or.inl rfl) | exact Or.inr (Or.inr rfl)) (hd : (x == ("__debug__" : Str)) = false := by decide)
    (hcd : (x == ("__classdict__" : Str)) = false := by decide) (hs : PlainIx b := by exact fun _ _ => rfl) : ED X C E (.Subscript (.Name x p) b pos) (tOp (rIx X.K) (tVar i) tb) (mIxV i g) := ⟨pe_ix ix_seq (pe_var hN hv hd hcd) hb.pe hs, snd_ixV hb.sd⟩
/-- xs[k] = e, xs a list of the def's own in slot i -/
def setAt (i : Nat) (e : LEnv) (k : PyData) (v : PyData) : RS := match nth e i, k with
  | some (some (.ow m ds)), .int (.ofNat k) => (match Nat.blt k ds.length with
    | true => .nx (e.set i (some (.ow m (ds.set k v))))
    | false => .stuck)
  | _, _ => .stuck
def mSetV (i : Nat) (fi fe : M) : MS := fun env => bindS (fe env) fun p => bindS (match nth p.1 i with
  | some (some (.ow _ _)) => fi p.1
  | _ => .stuck) fun q => setAt i q.1 q.2 p.2
theorem snds_setV {i : Nat} {te ti : TE} {fe fi : M} (he : Snd K C E te fe) (hi : Snd K C E ti fi) : SndS K C E (tAsg te (gSub (tVar i) ti rSetL)) (mSetV i fi fe) := by
  intro mu G0 H0 env σ G H D S h
  refine he _ _ _ _ _ _ _ _ S (PostS.bind (Rl := RlE K) h fun p x G1 H1 S1 s1 r1 h1 => ?_)
  cases e1 : p.1[i]? with
  | none =>
    have h1 : PostS K C E mu G0 H0 G1 (bindS (match nth p.1 i with | some (some (.ow _ _)) => fi p.1 | _ => .stuck) _) D := h1
    rw [nth_eq, e1] at h1; exact h1.elim
  | some o =>
    cases o with
    | none =>
      have h1 : PostS K C E mu G0 H0 G1 (bindS (match nth p.1 i with | some (some (.ow _ _)) => fi p.1 | _ => .stuck) _) D := h1
      rw [nth_eq, e1] at h1; exact h1.elim
    | some s =>
      cases s with
      | sh d =>
        have h1 : PostS K C E mu G0 H0 G1 (bindS (match nth p.1 i with | some (some (.ow _ _)) => fi p.1 | _ => .stuck) _) D := h1
        rw [nth_eq, e1] at h1; exact h1.elim
      | ow m ds =>
        obtain ⟨a, ws, f1, f2, f3, f4, f5⟩ := S1.ol i m ds e1
        have h1 : PostS K C E mu G0 H0 G1 (bindS (fi p.1) fun q => setAt i q.1 q.2 p.2) D := by
          have h1 : PostS K C E mu G0 H0 G1 (bindS (match nth p.1 i with | some (some (.ow _ _)) => fi p.1 | _ => .stuck) _) D := h1
          rw [nth_eq, e1] at h1
          exact h1
        refine ⟨.ref a, f1, hi _ _ _ _ _ _ _ _ S1 (PostS.bind (Rl := RlE K) h1 fun q y G2 H2 S2 s2 r2 h2 => ?_)⟩
        obtain ⟨eq, dq⟩ := q
        have h2 : PostS K C E mu G0 H0 G2 (setAt i eq dq p.2) D := h2
        unfold setAt at h2
        rw [nth_eq] at h2
        cases g1 : eq[i]? with
        | none => rw [g1] at h2; exact h2.elim
        | some o =>
          cases o with
          | none => rw [g1] at h2; exact h2.elim
          | some s =>
            cases s with
            | sh d => rw [g1] at h2; exact h2.elim
            | ow m2 ds2 =>
              rw [g1] at h2
              obtain ⟨a2, ws2, k1, k2, k3, k4, k5⟩ := S2.ol i m2 ds2 g1
              rw [f1] at k1
              cases k1
              cases r2 with
              | int kk =>
                cases kk with
                | negSucc _ => exact h2.elim
                | ofNat k =>
                  have h2 : PostS K C E mu G0 H0 G2 (match Nat.blt k ds2.length with
                    | true => .nx (eq.set i (some (.ow m2 (ds2.set k p.2))))
                    | false => .stuck) D := h2
                  cases c : Nat.blt k ds2.length with
                  | false => rw [c] at h2; exact h2.elim
                  | true =>
                    rw [c] at h2
                    have hk : k < ws2.length := by
                      have := Nat.le_of_ble_eq_true c
                      rw [k3.length]
                      omega
                    refine ⟨a, ws2, (k : Int), k, rfl, rfl, k2, ?_, ?_⟩
                    · unfold ixN
                      rw [if_pos (Int.natCast_nonneg k), if_pos (by omega)]
                      rfl
                    · refine h2 σ G2 _ (StR.own_to (ws' := ws2.set k x) S2 g1 f1 (.refl _) (fun b u e => ?_) ⟨fun b o nb _ e => by rw [upd_ne nb]; exact e, tabs_but S2.fz.tb fun b o e n => ?_⟩ (fun _ _ e => .inl e) upd_same (k3.set k (Rp.mono s2 _ _ r1))) (.refl _)
                      · rw [upd_ne (fun z => by rw [z, k4] at e; cases e)]; exact S2.sub _ _ e
                      · rw [upd_ne (fun z => by subst z; rw [k2] at e; cases e; exact n _ rfl)]; exact e
              | _ => exact h2.elim
theorem s_setV (i : Nat) {x : Str} {e b : Expr} {te tb : TE} {fe fb : M} {p p2 pos : Pos} (he : ED X C E e te fe) (hb : ED X C E b tb fb) (hN : X.N[i]? = some x := by rfl) (hv : Vis X.env.scope x := by first | exact Or.inl rfl | exact Or.inr (Or.inl rfl) | exact Or.inr (Or.inr rfl)) (hd : (x == ("__debug__" : Str)) = false := by decide)
    (hcd : (x == ("__classdict__" : Str)) = false := by decide)
    (ha : ∀ v, assign (.Subscript (.Name x p) b p2) X.env v = (do
      let ov ← holding [v] (eval (.Name x p) X.env)
      let iv ← holding [v, ov] (eval b X.env)
      standAt p2
      holding [v, ov, iv] (setItem ov iv v)
      release [v, ov, iv] []) := by intro _; rfl) (hs : swapsWithSole [.Subscript (.Name x p) b p2] e pos.line X.env = pure false := by rfl) (hw : swappedStores [.Subscript (.Name x p) b p2] e X.env = pure none := by rfl)
    (h1 : (assignEach [.Subscript (.Name x p) b p2] X.env).map (·.2) = [assign (.Subscript (.Name x p) b p2) X.env] := by rfl) :
    SD X C E (.Assign [.Subscript (.Name x p) b p2] e pos) (tAsg te (gSub (tVar i) tb rSetL)) (mSetV i fb fe) := ⟨ps_asg he.pe (pg_sub (pe_var hN hv hd hcd) hb.pe set_list ha) hs hw h1, snds_setV he.sd hb.sd⟩
/-! ### defs that change the list handed in first -/
abbrev RunM := List PyData → List PyData → R (List PyData × PyData)
def PostM (K : PySem.W.Frag) (C : Cl) (E : XK) (p : Addr) (G H : Hp) : R (List PyData × PyData) → VK → Prop
  | .ok z, Q => ∀ v G' H' ws', Same G G' → Same G' H' → Fz C.T (fun a => a = p) H H' → (∀ a o, G' a = some o → G a = some o ∨ (Nw H a ∧ nt o)) → H' p = some (.lst ws') → RpA K G' ws' z.1 → Rp K G' v z.2 → Q v H'
  | .rai c, _ => ∀ H', Fz C.T (fun a => a = p) H H' → E (C.cl c) none H'
  | .stuck, _ => False
def spM (K : PySem.W.Frag) (C : Cl) (n : Nat) (run : RunM) : Sp := fun vs H Q E => vs.length = n + 1 ∧ LamX.Tabs C.T H ∧ ∃ G p ws cs vs' ds, vs = .ref p :: vs' ∧ Same G H ∧ (∀ a o, G a = some o → nt o) ∧ G p = none ∧ H p = some (.lst ws) ∧ RpA K G ws cs ∧ RpA K G vs' ds ∧ PostM K C E p G H (run cs ds) Q
def startM (n : Nat) (cs ds : List PyData) : LEnv := some (.ow true cs) :: startE (n - 1) ds
def outT (e : LEnv) (d : PyData) : R (List PyData × PyData) := match e with
  | some (.ow true cs) :: _ => .ok (cs, d)
  | _ => .stuck
def outM : RS → R (List PyData × PyData)
  | .rt e d => outT e d
  | .nx e => outT e .none
  | .rai c => .rai c
  | _ => .stuck
def runM (n : Nat) (ms : MS) : RunM := fun cs ds => outM (ms (startM n cs ds))
def muP (p : Addr) : Mu := ⟨fun a => a = p, fun a => a = p, fun _ h => h⟩
theorem StR.beginM {N : List Str} {x : Str} {p : Addr} {ws vs : List V} {cs ds : List PyData} (s : Same G H) (gn : ∀ a o, G a = some o → nt o) (tb : LamX.Tabs C.T H) (gp : G p = none) (hp : H p = some (.lst ws)) (r : RpA K G vs ds) (rc : RpA K G ws cs) (hn : vs.length ≤ N.length) : StR K C (muP p) G H (startM (x :: N).length cs ds) (L2.start (x :: N) (.ref p :: vs)) G H := by
  have es : L2.start (x :: N) (.ref p :: vs) = some (.ref p) :: L2.start N vs := by
    unfold L2.start
    simp
  rw [es]
  have B := StR.begin (K := K) (C := C) (N := N) s gn tb r hn
  exact {
    sub := s
    ng := gn
    g0 := .refl _
    fz := .refl tb
    new := fun _ _ e => .inl e
    mh := fun a m => by
      have m : a = p := m
      subst m; exact ⟨_, hp⟩
    len := by
      show (startE N.length ds).length + 1 = (L2.start N vs).length + 1
      rw [B.len]
    sh := fun i d e => by
      cases i with
      | zero => cases e
      | succ i => exact B.sh i d e
    ol := fun i m ds' e => by
      cases i with
      | zero => cases e; exact ⟨p, ws, rfl, hp, rc, gp, rfl⟩
      | succ i =>
        obtain ⟨q, us, e1, e2, e3, e4, e5⟩ := B.ol i m ds' e
        exfalso
        have e : (startE N.length ds)[i]? = some (some (.ow m ds')) := e
        rw [startE_get] at e
        split at e
        · cases q : ds[i]? with
          | none => rw [q] at e; cases e
          | some d' => rw [q] at e; cases e
        · split at e <;> cases e
    ow := fun i j q oi oj _ _ => by
      have z : ∀ i, Own (startM (x :: N).length cs ds) i → i = 0 := fun i ⟨m, dd, e⟩ => by
        cases i with
        | zero => rfl
        | succ i =>
          exfalso
          have e : (startE N.length ds)[i]? = some (some (.ow m dd)) := e
          rw [startE_get] at e
          split at e
          · cases q : ds[i]? with
            | none => rw [q] at e; cases e
            | some d' => rw [q] at e; cases e
          · split at e <;> cases e
      rw [z i oi, z j oj] }
theorem fn_okM {P : Program} {w : World} {mg : Str → Option Value} {base : Heap} {x qual y : Str} {params : Arguments} {body : List Stmt} {scope : Scope} {dvs : List V} {f : Addr} {fd : FuncData} {N ps : List Str} {k n : Nat} {ms : MS} (F : FunD K x qual params body scope dvs [] f fd) (S : FnScope (y :: N) ps scope) (hn : n ≤ N.length) (hps : ps.length = n + 1)
    (hb : ∀ (cdv : Value) (A : Around) (outer : List PySem.Env) (s : Shared) (H : Hp) (E : XK), Room k (A.deeper (envOfC qual scope s.heap.objs.size f cdv)) →
      ∃ t, BD (cxOf (L2.CX P w) P w K mg base (y :: N) qual scope f cdv A outer s H E) C E body t ms) : FnOk P w K mg base (L2.CX P w) (k + 1) f fd ps (spM K C n (runM (y :: N).length ms)) := by
  refine F.ok S (fun vs H Q E h => by rw [h.1, hps]) fun cdv A outer s H vs Q E hr h => ?_
  obtain ⟨hl, tb, G, p, ws, cs, vs', ds, rfl, sG, gn, gp, hp, rc, rd, q⟩ := h
  obtain ⟨t, ht⟩ := hb cdv A outer s H E hr
  have hl' : vs'.length = n := by simpa using hl
  refine ⟨t, ht.pe, ht.sd _ _ _ _ _ _ _ _ (StR.beginM (N := N) (x := y) sG gn tb gp hp rd rc (by omega)) ?_⟩
  have q : PostM K C E p G H (outM (ms (startM (y :: N).length cs ds))) Q := q
  have fin : ∀ {e : LEnv} {σ' : L2.St} {G' H' : Hp} {cs' : List PyData} {r : LEnv} {v : V} {d : PyData}, e = some (.ow true cs') :: r → StR K C (muP p) G H e σ' G' H' → PostM K C E p G H (.ok (cs', d)) Q → Rp K G' v d → Q v H' := fun {e σ' G' H' cs' r v d} he S' q r => by
    subst he
    obtain ⟨p', us, e1, e2, e3, e4, e5⟩ := S'.ol 0 true cs' rfl
    have e5 : p' = p := e5
    subst e5
    exact q v G' H' us S'.g0 S'.sub S'.fz S'.new e2 e3 r
  cases e : ms (startM (y :: N).length cs ds) with
  | nx e' =>
    rw [e] at q
    intro σ' G' H' S' _
    have q : PostM K C E p G H (outT e' .none) Q := q
    unfold outT at q
    split at q
    · exact fin rfl S' q .non
    · exact q.elim
  | rt e' d =>
    rw [e] at q
    intro v σ' G' H' S' _ r'
    have q : PostM K C E p G H (outT e' d) Q := q
    unfold outT at q
    split at q
    · exact fin rfl S' q r'
    · exact q.elim
  | rai c => rw [e] at q; exact fun H' fz => q H' fz
  | bk e' => rw [e] at q; exact q.elim
  | ct e' => rw [e] at q; exact q.elim
  | stuck => rw [e] at q; exact q
structure FnM (P : Program) (w : World) (K : PySem.W.Frag) (mg : Str → Option Value) (base : Heap) (C : Cl) (k : Nat) (x : Str) (n : Nat) (run : RunM) : Prop where
  ex : ∃ (f : Addr) (fd : FuncData) (ps : List Str), FnOk P w K mg base (L2.CX P w) k f fd ps (spM K C n run) ∧ mg x = some (.ref f) ∧ PySem.W.keepIn K (.ref f) = true ∧ Binds K fd ps []
theorem spM.imp {n : Nat} {run run' : RunM} (h : ∀ cs ds, run' cs ds ≠ .stuck → run cs ds = run' cs ds) {vs : List V} {H : Hp} {Q : VK} {E : XK} (q : spM K C n run' vs H Q E) : spM K C n run vs H Q E := by
  obtain ⟨hl, tb, G, p, ws, cs, vs', ds, e, s, gn, gp, hp, rc, rd, q⟩ := q
  refine ⟨hl, tb, G, p, ws, cs, vs', ds, e, s, gn, gp, hp, rc, rd, ?_⟩
  rw [h cs ds fun z => by rw [z] at q; exact q]
  exact q
theorem FnM.imp {P : Program} {w : World} {mg : Str → Option Value} {base : Heap} {k n : Nat} {x : Str} {run run' : RunM} (F : FnM P w K mg base C k x n run) (h : ∀ cs ds, run' cs ds ≠ .stuck → run cs ds = run' cs ds) : FnM P w K mg base C k x n run' := by
  obtain ⟨f, fd, ps, G, a, b, c⟩ := F.ex
  exact ⟨f, fd, ps, G.imp fun vs H Q E q => spM.imp h q, a, b, c⟩
def mCallM (n : Nat) (run : RunM) (i : Nat) (g : MA) : M := fun env => match nth env i with
  | some (some (.ow _ _)) => (g env).bind fun q => match nth q.1 i with
    | some (some (.ow m cs)) => gd (Nat.beq q.2.length n) ((run cs q.2).bind fun z => .ok (q.1.set i (some (.ow m z.1)), z.2))
    | _ => .stuck
  | _ => .stuck
theorem snd_callM {n i : Nat} {run : RunM} {ta : TA} {g : MA} (h : SndA K C E ta g) : Snd K C E (tCallS (spM K C n run) (fun _ => E) (tCons (tVar i) ta)) (mCallM n run i g) := by
  intro mu G0 H0 env σ G H Q S hh
  unfold mCallM at hh
  rw [nth_eq] at hh
  cases e0 : env[i]? with
  | none => rw [e0] at hh; exact hh.elim
  | some o =>
    cases o with
    | none => rw [e0] at hh; exact hh.elim
    | some s =>
      cases s with
      | sh d => rw [e0] at hh; exact hh.elim
      | ow m0 cs0 =>
        rw [e0] at hh
        obtain ⟨p, ws0, f1, _⟩ := S.ol i m0 cs0 e0
        refine ⟨.ref p, f1, h _ _ _ _ _ _ _ _ S (Post.bind (Rl1 := RlA K) hh fun q xs G1 H1 S1 s1 r1 h1 => ?_)⟩
        obtain ⟨e, ds⟩ := q
        have h1 : Post (RlE K) K C E mu G0 H0 σ G1 (match nth e i with
          | some (some (.ow m cs)) => gd (Nat.beq ds.length n) ((run cs ds).bind fun z => .ok (e.set i (some (.ow m z.1)), z.2))
          | _ => .stuck) Q := h1
        rw [nth_eq] at h1
        cases e1 : e[i]? with
        | none => rw [e1] at h1; exact h1.elim
        | some o =>
          cases o with
          | none => rw [e1] at h1; exact h1.elim
          | some s =>
            cases s with
            | sh d => rw [e1] at h1; exact h1.elim
            | ow m cs =>
              rw [e1] at h1
              obtain ⟨c, h1⟩ := Post.gd h1
              obtain ⟨p', ws, k1, k2, k3, k4, k5⟩ := S1.ol i m cs e1
              rw [f1] at k1
              cases k1
              have r1 : RpA K G1 xs ds := r1
              refine ⟨by rw [List.length_cons, r1.length, Nat.eq_of_beq_eq_true c], S1.fz.tb, G1, p, ws, cs, xs, ds, rfl, S1.sub, S1.ng, k4, k2, k3, r1, ?_⟩
              cases er : run cs ds with
              | ok z =>
                rw [er] at h1
                exact fun v G' H' ws' a1 a2 a3 a4 a5 a6 a7 => h1 v G' H' (S1.own_to e1 f1 a1 a2 a3 a4 a5 a6) a1 a7
              | rai c' =>
                rw [er] at h1
                exact fun H' a => h1 H' ⟨fun b o mb n e => a.k b o (fun z => by
                  subst z
                  cases m with
                  | true => exact mb (mu.sub _ k5)
                  | false =>
                    rcases k5 with k5 | k5
                    · exact mb k5
                    · exact k5 _ n e) n (S1.fz.k b o mb n e), a.tb⟩
              | stuck => rw [er] at h1; exact h1.elim
theorem d_callM {x y : Str} {k n : Nat} {run : RunM} {es : List Expr} {taa : TA} {ma : MA} {p q pos : Pos} (i : Nat) (F : FnM X.prog X.w X.K X.mg X.base C k x n run) (hr : Room k X.A) (tk : Takes X (WW E)) (hg : Gl X x) (ha : AD X C E es taa ma)
    (hN : X.N[i]? = some y := by rfl) (hv : Vis X.env.scope y := by first | exact Or.inl rfl | exact Or.inr (Or.inl rfl) | exact Or.inr (Or.inr rfl)) (hd : (y == ("__debug__" : Str)) = false := by decide) (hcd : (y == ("__classdict__" : Str)) = false := by decide)
    (hdb : (x == ("__debug__" : Str)) = false := by decide) (hs : starEach (.Name y q :: es) X.env = (false, eval (.Name y q) X.env) :: starEach es X.env := by rfl) (hpl : (backTo pos (starEach es X.env)).any (·.1) = false := by rfl) :
    ED X C E (.Call (.Name x p) (.Name y q :: es) [] pos) (tCallS (spM X.K C n run) (fun _ => E) (tCons (tVar i) taa)) (mCallM n run i ma) := by
  obtain ⟨f, fd, ps, G, hm, hk, hb⟩ := F.ex
  exact ⟨pe_callS G hr hg hm hk hb (fun σ => passAt tk σ) (pa_cons (pe_var hN hv hd hcd) ha.pe hs) hdb hs hpl, snd_callM ha.sd⟩
/-! ### powers -/
def powOk (i j : Int) : Bool := match j with
  | .ofNat n => Nat.ble n 1000 && lowI i
  | _ => false
def iPow : PyData → PyData → R PyData
  | .int a, .int b => gd (powOk a b) (.ok (.int (a ^ b.toNat)))
  | _, _ => .stuck
abbrev rPowI : R2 := rI CPow fun i j => .int (i ^ j.toNat)
theorem ops_powI : OpS K C E rPowI iPow := by
  intro mu G0 H0 env σ G H x y dx dy Q S rx ry h
  cases rx <;> cases ry <;> first | exact h.elim | skip
  rename_i a b
  obtain ⟨c, h⟩ := Post.gdL h
  refine ⟨_, _, rfl, rfl, ?_, post_here S h (.int _)⟩
  cases b with
  | negSucc n => cases c
  | ofNat n =>
    have c : (Nat.ble n 1000 && lowI a) = true := c
    rw [Bool.and_eq_true] at c
    have h1 := Nat.le_of_ble_eq_true c.1
    have h2 := lowI_is c.2
    exact ⟨Int.natCast_nonneg n, by show (n : Int) ≤ 1000000; omega, by omega⟩
theorem d_pow {a b : Expr} {ta tb : TE} {f g : M} {pos : Pos} (ha : ED X C E a ta f) (hb : ED X C E b tb g) : ED X C E (.BinOp a .Pow b pos) (tOp rPowI ta tb) (mOp iPow f g) := d_op op_pow ops_powI ha hb
end
end LW

namespace LW
open PySem PySem.Spec PyProof.Rows L2 LamX
/-! ### lambdas that take nothing and capture nothing, kept and called later -/
def LamO (f c' : Addr) (q : Str) (params : Arguments) (body : Expr) (scope : Scope) : HO := .ext fun h => ∃ pm ctv, h.get? f = some (PySem.W.kla_obj "<lambda>" q params body scope [] pm c' ctv)
theorem lamO_ne {f c' : Addr} {q : Str} {params : Arguments} {body : Expr} {scope : Scope} (ps : Array Value) : LamO f c' q params body scope ≠ .tbl ps := fun z => by
  unfold LamO at z; cases z
theorem cloFrom_nil {cells : List (Str × Addr)} : ∀ {l : List (Str × NameKind)}, (∀ y ∈ l, y.2 ≠ .free) → cloFrom cells l [] = []
  | [], _ => rfl
  | (n, k) :: r, h => by
    have hk : (k == NameKind.free) = false := by
      have := h (n, k) List.mem_cons_self
      cases k <;> first | rfl | exact absurd rfl this
    unfold cloFrom
    rw [hk]
    exact cloFrom_nil fun y hy => h y (List.mem_cons_of_mem _ hy)
def tLamV (T : List (Addr × Str)) (q : Str) (params : Arguments) (body : Expr) (scope : Scope) : TE := fun σ H Q => Tabs T H ∧ ∀ f c' H1, ExtN H H1 → Tabs T H1 → H1 f = some (LamO f c' q params body scope) → H1 c' = some (CodeO c' q) → Q (.ref f) H1
section
variable {X : Cx}
theorem pe_lamV {T : List (Addr × Str)} {c P : Addr} {params : Arguments} {body : Expr} {scope : Scope} {pos : Pos} (TB : TabB X.base X.mg c P) (hcode : X.env.code = .ref c) (hm : (P, X.env.qual ++ "<lambda>") ∈ T) (hu : ∀ p ∈ T, p.1 = P → p.2 = X.env.qual ++ "<lambda>")
    (hdef : defaultsOf params X.env = ([], [])) (hfree : ∀ y ∈ scope.names, y.2 ≠ .free) : PE X (.Lambda params body scope pos) (tLamV T (X.env.qual ++ "<lambda>") params body scope) := by
  refine ⟨fun pins s σ H Q I hh => ?_⟩
  obtain ⟨hT, h⟩ := hh
  obtain ⟨ps, hP, ht, ha⟩ := hT _ hm
  have hP : H P = some (.tbl ps) := hP
  refine PySem.W.kla_eval hdef ?_
  have bP : s.heap.BuiltinsAt X.mg P := TB.bm.keeps I.bk
  have hP' := I.hok P _ hP
  have cl := closure_ok (scope := scope) (env := X.env) fun y hy e => absurd e (hfree y hy)
  rw [cloFrom_nil hfree] at cl
  -- the function's object, laid behind all that stands
  have fin : ∀ (h' : Heap) (tk : Tok) (c' : Addr) (ctv : Value) (H1 : Hp), Inv X pins σ H1 { s with heap := h', toks := tk } → ExtN H H1 → Tabs T H1 → H1 c' = some (CodeO c' (X.env.qual ++ "<lambda>")) →
      EP X pins σ Q (.ref h'.objs.size) { s with heap := h'.push (PySem.W.kla_obj "<lambda>" (X.env.qual ++ "<lambda>") params body scope [] ((X.mg "__name__").getD .none) c' ctv), toks := tk } := by
    intro h' tk c' ctv H1 I1 e1 t1 hc
    have nf : H1 h'.objs.size = none := I1.hok.fresh (Nat.le_refl _)
    have I2 := I1.laid (t' := tk) (h' := h'.push (PySem.W.kla_obj "<lambda>" (X.env.qual ++ "<lambda>") params body scope [] ((X.mg "__name__").getD .none) c' ctv)) (a := h'.objs.size) (o := LamO h'.objs.size c' (X.env.qual ++ "<lambda>") params body scope)
      (fun b u e => Heap.get?_push_of_some _ e) (Nat.le_refl _) ⟨⟨_, ctv, Heap.get?_push_size _ rfl⟩, ⟨_, Heap.get?_push_size _ rfl⟩, fun h1 h2 ⟨pm, ct, e⟩ k => ⟨pm, ct, k _ e⟩⟩
    have up : ∀ b o, H1 b = some o → upd H1 h'.objs.size (LamO h'.objs.size c' (X.env.qual ++ "<lambda>") params body scope) b = some o := fun b o e => by rw [upd_ne (ne_of_none e nf)]; exact e
    exact ⟨.ref _, _, I2, rfl, h _ c' _ (e1.trans (.of up)) (t1.ext up) upd_same (up _ _ hc)⟩
  cases hc : codeAmong pos ps.toList with
  | none =>
    refine PySem.W.kla_makeFunction (mg := X.mg) (c := c) (P := P) (ps := ps) cl I.ok.glob (I.mod.glob.keeps I.bk) hcode (TB.code.keeps I.bk) hP' ht hc TB.gP bP fun c' ctv h' tk hx hge _ hrec htb => ?_
    obtain ⟨c2, oc, vs, t, e2, hoc, hd, hv⟩ := hrec
    cases e2
    have nC : H c' = none := I.hok.fresh hge
    have I1 := inv_table (t' := tk) (more := #[rawInt pos.line, rawInt pos.col, .ref c']) I hP (fun b o hb e => hx b o hb e) htb hge ⟨oc, vs, t, hoc, hd, hv⟩
    have hE : ExtN H (upd (upd H P (.tbl (ps ++ #[rawInt pos.line, rawInt pos.col, .ref c']))) c' (CodeO c' (X.env.qual ++ "<lambda>"))) := fun b o e n => by
      rw [upd_ne (ne_of_none e nC)]
      have nb : b ≠ P := fun z => n ps (by rw [z] at e; exact Option.some.inj (e.symm.trans hP))
      rw [upd_ne nb]
      exact e
    have eL : (ps ++ #[rawInt pos.line, rawInt pos.col, .ref c']).toList = ps.toList ++ [rawInt pos.line, rawInt pos.col, .ref c'] := Array.toList_append ..
    refine fin h' tk c' ctv _ I1 hE (fun p hp => ?_) upd_same
    by_cases hb : p.1 = P
    · rw [hu p hp hb, hb]
      refine ⟨_, (upd_ne (ne_of_none hP nC)).trans upd_same, eL ▸ PySem.TriplesOk_snoc _ _ _ _ ht, fun p' cv hcv => ?_⟩
      rw [eL] at hcv
      rcases among_app _ ht hcv with z | z
      · obtain ⟨c0, q1, q2⟩ := ha p' cv z
        exact ⟨c0, q1, hE _ _ q2 codeO_ne⟩
      · exact ⟨c', z, upd_same⟩
    · obtain ⟨ps', a1, a2, a3⟩ := hT p hp
      refine ⟨ps', (upd_ne (ne_of_none a1 nC)).trans ((upd_ne hb).trans a1), a2, fun p' cv hcv => ?_⟩
      obtain ⟨c0, q1, q2⟩ := a3 p' cv hcv
      exact ⟨c0, q1, hE _ _ q2 codeO_ne⟩
  | some cv =>
    obtain ⟨c', e, hco⟩ := ha pos cv hc
    subst e
    exact PySem.W.kla_makeFunctionHit (mg := X.mg) (c := c) (P := P) (ps := ps) cl I.ok.glob (I.mod.glob.keeps I.bk) hcode (TB.code.keeps I.bk) hP' ht hc bP fun ctv h' tk hx _ =>
      fin h' tk c' ctv H (I.kept hx) (.refl H) hT hco
/-- x() of such a lambda in slot i -/
theorem pe_act0 {params : Arguments} {body : Expr} {scope : Scope} {q : Str} {k i : Nat} {a : Str} {E : XK} {t : XK → TE} {p1 p2 : Pos} (S : FnScope [] [] scope)
    (hbind : ∀ pm cv ctv, bindArgs (PySem.W.kla_fn "<lambda>" q params body scope [] pm cv ctv) ⟨[], []⟩ = pure []) (hx : Passes (L2.CX X.prog X.w) X E) (hr : Room (k + 1) X.A)
    (hbody : ∀ (A : Around) (outer : List PySem.Env) (s : Shared) (H : Hp) (E : XK) (f c' : Addr), Room k (A.deeper (envOfC q scope s.heap.objs.size f (.ref c'))) → PE (cxOf (L2.CX X.prog X.w) X.prog X.w X.K X.mg X.base [] q scope f (.ref c') A outer s H E) body (t E))
    (hN : X.N[i]? = some a) (hv : Vis X.env.scope a) (hd : (a == ("__debug__" : Str)) = false := by decide) (hcd : (a == ("__classdict__" : Str)) = false := by decide) :
    PE X (.Call (.Name a p1) [] [] p2) (fun σ H Q => ∃ f c', σ[i]? = some (some (.ref f)) ∧ H f = some (LamO f c' q params body scope) ∧ H c' = some (CodeO c' q) ∧ t E [] H Q) := by
  refine ⟨fun pins s σ H Q I hh => ?_⟩
  obtain ⟨f, c', hs, hf, hc, ht⟩ := hh
  refine wpAny_Call_Name_kw (thn ((pe_var (pos := p1) hN hv hd hcd).run pins s σ H (fun v H1 => v = .ref f ∧ H1 = H) I ⟨_, hs, rfl, rfl⟩) fun u s1 ⟨v, H1, I1, r1, q1⟩ => ?_)
  obtain ⟨ev, eH⟩ := q1
  subst ev
  rw [eH] at I1
  obtain rfl : u = Value.ref f := r1
  obtain ⟨⟨pm, ctv, of1⟩, _, _⟩ := I1.hok f _ hf
  obtain ⟨⟨oc, vs, tk, hoc, hdc, hvc⟩, _, _⟩ := I1.hok c' _ hc
  refine PySem.W.callWith_F0 ⟨_, _, _, _, of1⟩ ?_
  have rc : codeAny (model X.prog X.w) X.A (.call (.ref f) ⟨[], []⟩) (CR (L2.CX X.prog X.w) X.stack X.prog X.w H s1 Q E) s1 := by
    refine PySem.W.kla_callFunE hr.depth of1 rfl S.co S.gen rfl ⟨c', oc, vs, tk, rfl, hoc, hdc, hvc⟩ ?_
    rw [hbind]
    refine wpAny_pure (wpAny_newFunctionEnv_cells S.kind (fun y hy => absurd hy (by simp)) fun env he s2 x => ?_)
    subst he
    refine ⟨I1.nolimit.keeps x.toInCall.keep, ?_⟩
    have J : Inv (cxOf (L2.CX X.prog X.w) X.prog X.w X.K X.mg X.base [] q scope f (.ref c') X.A X.stack s1 H E) [] (L2.start [] []) H s2 := inv_start (ps := []) (us := []) S hr.hd I1.env0 rfl .nil x
    refine PySem.W.kla_codeExpr (wpAny_mono ((hbody X.A X.stack s1 H E f c' (hr.deeper _)).run [] s2 [] H Q J ht) (fun v s' hq => ?_) fun e s' hq => hq)
    obtain ⟨w', H', J', rv, qq⟩ := hq
    exact ⟨w', H', J'.os, J'.bare, J'.base, J'.hok, rv, qq⟩
  refine wpAny_call (codeAny_mono rc fun r s' hq => ?_)
  cases r with
  | error e => exact hx pins σ H s1 e s' I1 hq
  | ok fl =>
    cases fl with
    | ret u => exact I1.after hq
    | next => exact hq.elim
    | brk => exact hq.elim
    | cont => exact hq.elim
end
end LW

namespace LW
open PySem PySem.Spec PyProof.Rows L2 LamX
/-! ### try: return what() / except .. : return '..' -/
def wTold (K : PySem.W.Frag) (Q : VK) : List (Addr × Str) → XK
  | [] => fun _ _ _ => False
  | (a, s) :: r => fun cls d H => ∃ b, PySem.W.exmOne K cls (.ref a) = some b ∧ (b = true → Q (.str s) H) ∧ (b = false → wTold K Q r cls d H)
abbrev hdL (l : List (Addr × Str)) : List (Value × (Addr → Value → Option Addr → TS)) := l.map fun p => (.ref p.1, fun _ _ _ => tRet (tC (.str p.2)))
theorem wTold_many {K : PySem.W.Frag} {D : Ends} {σ : L2.St} {H : Hp} {cls : Value} {d : Option Addr} : ∀ {l : List (Addr × Str)}, wTold K D.rt l cls d H → wMany K (fun _ _ _ _ => False) D (hdL l) cls d σ H
  | [], h => h
  | (a, s) :: r, h => by
    obtain ⟨b, e, y, n⟩ := h
    exact ⟨b, e, fun hb _ _ => y hb, fun hb => wTold_many (n hb)⟩
section
variable {X : Cx}
theorem told_pss {hds : List ExceptHandler} {h₀ : ExceptHandler} {l : List (Addr × Str)} {a : Str} {p1 p2 p3 p8 : Pos} {tact : XK → TE} (hs : X.stack = X.env :: X.outer) (hf : X.env.frame = some X.env.locals) (hh : HdsOk X (h₀ :: hds) (hdL l))
    (act : ∀ (W : WX) (pn : List (Addr × Obj)) (xe : Value → Shared → Prop) (E : XK), Takes (X.tr pn xe) W → (∀ cls d σ' H', E cls d H' → W cls d σ' H') → PE (X.tr pn xe) (.Call (.Name a p1) [] [] p2) (tact E)) :
    PSs X [.Try [.Return (some (.Call (.Name a p1) [] [] p2)) p3] (h₀ :: hds) [] [] p8] (fun D σ H => tact (wTold X.K D.rt l) σ H D.rt) := by
  have h := ps_try_many (X := X) (pos := p8) (Wout := fun _ _ _ _ => False) (tb := fun W D σ H => ∃ E : XK, (∀ cls d σ' H', E cls d H' → W cls d σ' H') ∧ tact E σ H D.rt) hs hf L2.takes0 (fun W pn xe tk _ => (?_ : PSs (X.tr pn xe) [.Return (some (.Call (.Name a p1) [] [] p2)) p3] _)) hh
  · refine pss_one ⟨fun pins s σ H D I q => h.run pins s σ H D I ?_⟩
    exact ⟨_, fun cls d σ' H' w => wTold_many w, q⟩
  · refine ⟨fun pins s σ H D I q => ?_⟩
    obtain ⟨E, hE, q⟩ := q
    exact (pss_one (ps_ret (pos := p3) (act W pn xe E tk hE))).run pins s σ H D I q
/-- .. as the lambda's maker's caller sees it -/
theorem told_gives9 {Ng : List Str} {x a q : Str} {sg : Scope} {g : Addr} {cdg : Value} {l : List (Addr × Str)} {hds : List ExceptHandler} {h₀ : ExceptHandler} {p1 p2 p3 p8 : Pos}
    (hh : ∀ (A : Around) (outer : List PySem.Env) (s : Shared) (H : Hp), HdsOk (cxOf C8.CX0 X.prog X.w X.K X.mg X.base Ng x sg g cdg A outer s H C8.E0).nox (h₀ :: hds) (hdL l)) (h0 : ∀ f : Addr, (L2.start Ng [V.ref f])[0]? = some (some (V.ref f))) :
    GivesTo X Ng x sg g cdg [.Try [.Return (some (.Call (.Name a p1) [] [] p2)) p3] (h₀ :: hds) [] [] p8] a q (fun tl H Q => tl (wTold X.K Q l) H Q) := by
  intro f c' s H Q tl act hc h
  exact ⟨_, told_pss (X := (cxOf C8.CX0 X.prog X.w X.K X.mg X.base Ng x sg g cdg X.A X.stack s H C8.E0).nox) rfl rfl (hh _ _ _ _) (fun W pn xe E tk hW => act W pn xe E p1 p2 tk hW), h0 f, hc, h⟩
/-! ### the def that is told a lambda: its promise for lambdas kept -/
structure LamRun (P : Program) (w : World) (K : PySem.W.Frag) (mg : Str → Option Value) (base : Heap) (k : Nat) (q : Str) (params : Arguments) (body : Expr) (scope : Scope) (t : XK → TE) : Prop where
  sc : FnScope [] [] scope
  bind : ∀ pm cv ctv, bindArgs (PySem.W.kla_fn "<lambda>" q params body scope [] pm cv ctv) ⟨[], []⟩ = pure []
  run : ∀ (A : Around) (outer : List PySem.Env) (s : Shared) (H : Hp) (E : XK) (f c' : Addr), Room k (A.deeper (envOfC q scope s.heap.objs.size f (.ref c'))) → PE (cxOf (L2.CX P w) P w K mg base [] q scope f (.ref c') A outer s H E) body (t E)
def spTold (P : Program) (w : World) (K : PySem.W.Frag) (mg : Str → Option Value) (base : Heap) (k : Nat) (l : List (Addr × Str)) : Sp := fun vs H Q _ => ∃ f c' q params body scope t, vs = [.ref f] ∧ H f = some (LamO f c' q params body scope) ∧ H c' = some (CodeO c' q) ∧ LamRun P w K mg base k q params body scope t ∧ t (wTold K Q l) [] H Q
end
theorem told_ok {P : Program} {w : World} {K : PySem.W.Frag} {mg : Str → Option Value} {base : Heap} {x qual a : Str} {params : Arguments} {scope : Scope} {f : Addr} {fd : FuncData} {k : Nat} {l : List (Addr × Str)} {hds : List ExceptHandler} {h₀ : ExceptHandler} {p1 p2 p3 p8 : Pos} {N : List Str}
    (F : FunD K x qual params [.Try [.Return (some (.Call (.Name a p1) [] [] p2)) p3] (h₀ :: hds) [] [] p8] scope [] [] f fd) (S : FnScope N [a] scope) (hN : N[0]? = some a) (hv : Vis scope a) (hd : (a == ("__debug__" : Str)) = false) (hcd : (a == ("__classdict__" : Str)) = false)
    (hh : ∀ (cdv : Value) (A : Around) (outer : List PySem.Env) (s : Shared) (H : Hp), HdsOk (cxOf L2.CX0 P w K mg base N qual scope f cdv A outer s H L2.E0).nox (h₀ :: hds) (hdL l)) (h0 : ∀ f : Addr, (L2.start N [V.ref f])[0]? = some (some (V.ref f))) :
    FnOk P w K mg base L2.CX0 (k + 2) f fd [a] (spTold P w K mg base k l) := by
  refine F.ok S (fun vs H Q E h => ?_) fun cdv A outer s H vs Q E hr h => ?_
  · obtain ⟨f, c', q, params, body, scope, t, rfl, _⟩ := h
    rfl
  · obtain ⟨g, c', q, params', body, scope', t, rfl, hf, hc, L, ht⟩ := h
    refine ⟨_, PSs.nox (told_pss (X := (cxOf L2.CX0 P w K mg base N qual scope f cdv A outer s H E).nox) rfl rfl (hh cdv A outer s H) fun W pn xe E tk hW =>
      pe_act0 (i := 0) (t := t) L.sc L.bind (passes_call tk hW) hr L.run hN hv hd hcd), ?_⟩
    exact ⟨g, c', h0 g, hf, hc, ht⟩
end LW

namespace LW
open PySem PySem.Spec PyProof.Rows L2 LamX
section
variable {K : PySem.W.Frag} {mu : Mu} {G0 H0 G H G' H' H1 : Hp} {env env' : LEnv} {σ σ' : L2.St} {C : Cl} {E : XK} {X : Cx}
/-! ### a lambda handed on at once: what it answers, or the word for what it raises -/
theorem same_nt (ng : ∀ a o, G a = some o → nt o) (s : Same G H) (k : ∀ b o, nt o → H b = some o → H1 b = some o) : Same G H1 := fun a o e => k a o (ng a o e) (s a o e)
theorem StR.extN (S : StR K C mu G0 H0 env σ G H) (e : ExtN H H1) (t : Tabs C.T H1) : StR K C mu G0 H0 env σ G H1 :=
  S.ext ⟨.refl _, same_nt S.ng S.sub fun b o n h => e b o h n, ⟨fun b o _ n h => e b o h n, t⟩, fun _ _ h => .inl h⟩
def forget1 : Option Sl → Option Sl
  | some (.sh d) => some (.sh d)
  | _ => none
def forgetOwn (env : LEnv) : LEnv := env.map forget1
theorem forgetOwn_get {i : Nat} {s : Sl} (h : (forgetOwn env)[i]? = some (some s)) : ∃ d, s = .sh d ∧ env[i]? = some (some (.sh d)) := by
  unfold forgetOwn at h
  rw [List.getElem?_map] at h
  cases e : env[i]? with
  | none => rw [e] at h; cases h
  | some o =>
    rw [e] at h
    cases o with
    | none => cases h
    | some s0 =>
      cases s0 with
      | sh d => cases h; exact ⟨d, rfl, rfl⟩
      | ow m ds => cases h
theorem StR.fresh (S : StR K C mu G0 H0 env σ G H) : StR K C mu0 G H (forgetOwn env) σ G H where
  sub := S.sub
  ng := S.ng
  g0 := .refl _
  fz := .refl S.fz.tb
  new := fun _ _ e => .inl e
  mh := fun _ m => m.elim
  len := by unfold forgetOwn; rw [List.length_map]; exact S.len
  sh := fun i d e => by
    obtain ⟨d', e1, e2⟩ := forgetOwn_get e
    cases e1
    exact S.sh i d e2
  ol := fun i m ds e => by
    obtain ⟨d', e1, _⟩ := forgetOwn_get e
    cases e1
  ow := fun i j p ⟨m, ds, e⟩ _ _ _ => by
    obtain ⟨d', e1, _⟩ := forgetOwn_get e
    cases e1
def mTold (nm : Nat → Option Str) (m : M) : M := fun env => match m (forgetOwn env) with
  | .ok p => .ok (env, p.2)
  | .rai c => (match nm c with
    | some s => .ok (env, .str s)
    | none => .stuck)
  | .stuck => .stuck
def ToldL (K : PySem.W.Frag) (C : Cl) (nm : Nat → Option Str) (l : List (Addr × Str)) : Prop := ∀ c s, nm c = some s → ∀ (Q : VK) d H, Q (.str s) H → wTold K Q l (C.cl c) d H
theorem snd_told {t : XK → TE} {m : M} {l : List (Addr × Str)} {nm : Nat → Option Str} (hl : ToldL K C nm l) (h : ∀ E, Snd K C E (t E) m) : Snd K C E (tLam C.T (fun tl H Q => tl (wTold K Q l) H Q) t) (mTold nm m) := by
  intro mu G0 H0 env σ G H Q S hh
  refine ⟨S.fz.tb, fun H1 eN T1 => ?_⟩
  have S1 := S.extN eN T1
  show t (wTold K Q l) σ H1 Q
  refine h _ _ _ _ _ _ _ _ _ S1.fresh ?_
  unfold mTold at hh
  cases em : m (forgetOwn env) with
  | ok p =>
    rw [em] at hh
    exact fun v G' H' S' s r => hh v G' H' (S1.ext S'.xt) s r
  | rai c =>
    rw [em] at hh
    intro H' fz
    cases en : nm c with
    | none => simp only [en] at hh; exact hh.elim
    | some s =>
      simp only [en] at hh
      exact hl c s en _ _ _ (hh (.str s) G H' (S1.ext ⟨.refl _, same_nt S1.ng S1.sub fun b o n e => fz.k b o (fun z => z) n e, fz, fun _ _ h => .inl h⟩) (.refl _) (.str s))
  | stuck => rw [em] at hh; exact hh.elim
theorem d_told {t : XK → TE} {m : M} {l : List (Addr × Str)} {nm : Nat → Option Str} {x a : Str} {g c P : Addr} {k : Nat} {pg : Arguments} {hds : List ExceptHandler} {h₀ : ExceptHandler} {p1 p2 p3 p8 p lpos pos : Pos} {sg : Scope} {fd : FuncData} {Ng : List Str} {params : Arguments} {body : Expr} {scope : Scope}
    (hl : ToldL X.K C nm l) (hg : Gl X x) (hm : X.mg x = some (.ref g)) (F : FunD X.K x x pg [.Try [.Return (some (.Call (.Name a p1) [] [] p2)) p3] (h₀ :: hds) [] [] p8] sg [] [] g fd)
    (hb : ∀ (kV doc pm : Value) (an : Option Addr) (cdv ct : Value) (us : List Value), us.length = [a].length → bindArgs (PySem.W.fnOf x x pg [.Try [.Return (some (.Call (.Name a p1) [] [] p2)) p3] (h₀ :: hds) [] [] p8] sg .none kV doc pm an cdv ct) ⟨us, []⟩ = pure ([a].zip us))
    (Sg : FnScope Ng [a] sg) (hNg : Ng[0]? = some a) (hva : Vis sg a) (h0 : ∀ f : Addr, (L2.start Ng [V.ref f])[0]? = some (some (V.ref f)))
    (hh : ∀ (cdg : Value) (A : Around) (outer : List PySem.Env) (s : Shared) (H : Hp), HdsOk (cxOf C8.CX0 X.prog X.w X.K X.mg X.base Ng x sg g cdg A outer s H C8.E0).nox (h₀ :: hds) (hdL l))
    (TB : TabB X.base X.mg c P) (hcode : X.env.code = .ref c) (hmT : (P, X.env.qual ++ "<lambda>") ∈ C.T) (hu : ∀ p ∈ C.T, p.1 = P → p.2 = X.env.qual ++ "<lambda>") (hr : Room (k + 2) X.A) (L : LamS X.env.scope scope) (hdef : defaultsOf params X.env = ([], []))
    (hbind : ∀ (q : Str) (cl : List (Str × Addr)) (pm cv ctv : Value), bindArgs (PySem.W.kla_fn "<lambda>" q params body scope cl pm cv ctv) ⟨[], []⟩ = pure [])
    (hbody : ∀ (A : Around) (outer : List PySem.Env) (s : Shared) (H : Hp) (E : XK) (f c' : Addr), Room k (A.deeper (lamEnv X scope s.heap.objs.size f c')) → ED (lamCx X A outer s H E scope f c') C E body (t E) m)
    (hro : ∃ A : Around, ∀ (s : Shared) (f c' : Addr), Room k (A.deeper (lamEnv X scope s.heap.objs.size f c')))
    (hdb : (x == ("__debug__" : Str)) = false := by decide) (hd : (a == ("__debug__" : Str)) = false := by decide) (hcd : (a == ("__classdict__" : Str)) = false := by decide) :
    ED X C E (.Call (.Name x p) [.Lambda params body scope lpos] [] pos) (tLam C.T (fun tl H Q => tl (wTold X.K Q l) H Q) t) (mTold nm m) := by
  have b : Binds X.K fd [a] [] := FunD.bindsN F hb
  obtain ⟨oc, od, dV, kV, doc, pm, an, cdv, ct, osl, e, lk, hcd', hD, _⟩ := F.ex
  subst e
  obtain ⟨A, hA⟩ := hro
  refine ⟨pe_lamcall (T := C.T) (TT := fun tl H Q => tl (wTold X.K Q l) H Q) hg hm F.kp lk hcd' b Sg hNg hva (told_gives9 (hh cdv) h0) TB hcode hmT hu hr L hdef hbind (fun A outer s H E f c' r => (hbody A outer s H E f c' r).pe) hdb hd hcd, snd_told hl fun E => ?_⟩
  exact (hbody A [] X.s_0 X.H_0 E 0 0 (hA _ _ _)).sd
end
end LW

namespace LW
open PySem PySem.Spec PyProof.Rows L2 LamX
section
variable {K : PySem.W.Frag} {mu : Mu} {G0 H0 G H G' H' H1 : Hp} {env env' : LEnv} {σ σ' : L2.St} {C : Cl} {E : XK} {X : Cx}
/-! ### + and * of ints, texts, tuples, lists -/
def rAddS : R2 := fun x y H Q => ∃ i j, x = .str i ∧ y = .str j ∧ i.length + j.length ≤ sizeLine ∧ Q (.str (i ++ j)) H
/-- t + u, the new one by its very object -/
def rCatF (K : PySem.W.Frag) : R2 := fun x y H Q => ∃ a b xs ys, x = .ref a ∧ y = .ref b ∧ SqT K H a xs ∧ SqT K H b ys ∧ xs.length + ys.length ≤ sizeLine ∧
  (xs = [] → Q (.ref b) H) ∧ (xs ≠ [] → ys = [] → Q (.ref a) H) ∧ (xs ≠ [] → ys ≠ [] → ∀ p o, H p = none → o.cls = .type "tuple" → o.dict = none → Q (.ref p) (upd H p (.frz o (.tup (xs ++ ys)))))
theorem op_catF : OpR X (binaryOp .Add) (rCatF X.K) := by
  intro pn st σ H x y v u Q I rx ry h
  obtain ⟨a, b, xs, ys, rfl, rfl, ha, hb, hl, k0, k1, k2⟩ := h
  by_cases hn : xs = []
  · subst hn
    cases rx
    cases ry
    obtain ⟨is1, ra, pa, _⟩ := I.tuple ha
    obtain ⟨is2, rb, pb, _⟩ := I.tuple hb
    cases ra
    exact cat_tup0 pa pb ⟨.ref b, H, I, rfl, k0 rfl⟩
  · cases rx
    cases ry
    obtain ⟨is1, ra, pa, _⟩ := I.tuple ha
    obtain ⟨is2, rb, pb, _⟩ := I.tuple hb
    refine HT.cat_tup pa pb (fun z => hn (ra.nil_iff.mp z)) (fun z => ⟨.ref a, H, I, rfl, k1 hn (rb.nil_iff.mp z)⟩) (fun z => ?_) (by rw [← ra.length, ← rb.length]; exact hl)
    refine ⟨.ref st.heap.objs.size, _, I.laid (t' := st.toks) (o := .frz { cls := .type "tuple", data := .seq (is1 ++ is2).toArray } (.tup (xs ++ ys))) (fun b ob q => Heap.get?_push_of_some _ q) (Nat.le_refl _) ?_, rfl, k2 hn (fun w => z (rb.nil_iff.mpr w)) _ _ (I.hok.fresh (Nat.le_refl _)) rfl rfl⟩
    exact ⟨Heap.get?_push_size _ rfl, by rw [List.length_append]; exact hl, _, ra.append rb, IsTup.new _ _⟩
def rAddA (K : PySem.W.Frag) : R2 := fun x y H Q => (rI0 fun i j => .int (i + j)) x y H Q ∨ rAddS x y H Q ∨ rCatF K x y H Q ∨ rCat x y H Q
theorem op_addA : OpR X (binaryOp .Add) (rAddA X.K) := op_add.or (OpR.or (r := rAddS) op_add_str (op_catF.or op_cat))
def iAddA : PyData → PyData → R PyData
  | .int a, .int b => .ok (.int (a + b))
  | .str a, .str b => gd (Nat.ble (a.length + b.length) small) (.ok (.str (a ++ b)))
  | .list a, .list b => gd (Nat.ble (a.length + b.length) small) (.ok (.list (a ++ b)))
  | .tuple a, .tuple b => gd (Nat.ble (a.length + b.length) small) (.ok (.tuple (a ++ b)))
  | _, _ => .stuck
theorem ops_addA : OpS K C E (rAddA K) iAddA := by
  intro mu G0 H0 env σ G H x y dx dy Q S rx ry h
  cases rx with
  | int i => cases ry <;> first | exact h.elim | exact .inl ⟨_, _, rfl, rfl, post_here S h (.int _)⟩
  | str i =>
    cases ry <;> first | exact h.elim | skip
    obtain ⟨c, h⟩ := Post.gdL h
    exact .inr (.inl ⟨_, _, rfl, rfl, Nat.le_trans (Nat.le_of_ble_eq_true c) small_le, post_here S h (.str _)⟩)
  | lst a1 b1 =>
    cases ry <;> first | exact h.elim | skip
    rename_i a2 b2
    obtain ⟨c, h⟩ := Post.gdL h
    refine .inr (.inr (.inr ⟨_, _, _, _, rfl, rfl, S.sub _ _ a1, S.sub _ _ a2, ?_, fun p hp => ?_⟩))
    · rw [b1.length, b2.length]; exact Nat.le_trans (Nat.le_of_ble_eq_true c) small_le
    · exact post_new S h hp _ nt_lst (.lst upd_same (RpA.mono (same_new (S.sub.free hp)) _ _ (b1.append b2)))
  | tup a1 b1 =>
    cases ry <;> first | exact h.elim | skip
    rename_i a2 b2
    obtain ⟨c, h⟩ := Post.gdL h
    refine .inr (.inr (.inl ⟨_, _, _, _, rfl, rfl, sqt_same S.sub a1, sqt_same S.sub a2, ?_, ?_, ?_, fun _ _ p o hp hc hd => ?_⟩))
    · rw [b1.length, b2.length]; exact Nat.le_trans (Nat.le_of_ble_eq_true c) small_le
    · intro z
      subst z
      cases b1
      exact post_here S h (.tup a2 b2)
    · intro _ z
      subst z
      cases b2
      refine post_here S h (.tup a1 ?_)
      rw [List.append_nil]
      exact b1
    · exact post_new S h hp _ nt_frz (.tup (tpt_new hc hd) (RpA.mono (same_new (S.sub.free hp)) _ _ (b1.append b2)))
  | _ => cases ry <;> exact h.elim
theorem d_addA {a b : Expr} {ta tb : TE} {f g : M} {pos : Pos} (ha : ED X C E a ta f) (hb : ED X C E b tb g) : ED X C E (.BinOp a .Add b pos) (tOp (rAddA X.K) ta tb) (mOp iAddA f g) := d_op op_addA ops_addA ha hb
def rMulA : R2 := fun x y H Q => (rI CMul fun i j => .int (i * j)) x y H Q ∨ rRep x y H Q
theorem op_mulA : OpR X (binaryOp .Mult) rMulA := op_mul.or op_rep
def repD (n : Nat) (ds : List PyData) : List PyData := match n with
  | 0 => []
  | n + 1 => ds ++ repD n ds
theorem repD_eq (n : Nat) (ds : List PyData) : repD n ds = (List.replicate n ds).flatten := by
  induction n with
  | zero => rfl
  | succ n ih => rw [repD, ih, List.replicate_succ, List.flatten_cons]
theorem RpA.rep {vs : List V} {ds : List PyData} (h : RpA K G vs ds) : ∀ n, RpA K G (List.replicate n vs).flatten (repD n ds)
  | 0 => .nil
  | n + 1 => by
    rw [List.replicate_succ, List.flatten_cons]
    exact h.append (RpA.rep h n)
def iMulA : PyData → PyData → R PyData
  | .int a, .int b => gd (lowI a || lowI b) (.ok (.int (a * b)))
  | .list a, .int b => gd (near b && Nat.ble (a.length * b.toNat) small) (.ok (.list (repD b.toNat a)))
  | _, _ => .stuck
theorem ops_mulA : OpS K C E rMulA iMulA := by
  intro mu G0 H0 env σ G H x y dx dy Q S rx ry h
  cases rx with
  | int i =>
    cases ry <;> first | exact h.elim | skip
    rename_i j
    obtain ⟨c, h⟩ := Post.gdL h
    refine .inl ⟨_, _, rfl, rfl, ?_, post_here S h (.int _)⟩
    rcases Bool.or_eq_true_iff.mp c with c | c
    · exact .inl (lowI_is c)
    · exact .inr (lowI_is c)
  | lst a1 b1 =>
    cases ry <;> first | exact h.elim | skip
    rename_i k
    obtain ⟨c, h⟩ := Post.gdL h
    rw [Bool.and_eq_true] at c
    have := near_is c.1
    refine .inr ⟨_, _, _, rfl, rfl, S.sub _ _ a1, by omega, by omega, ?_, fun p hp => ?_⟩
    · rw [b1.length]; exact Nat.le_trans (Nat.le_of_ble_eq_true c.2) small_le
    · exact post_new S h hp _ nt_lst (.lst upd_same (RpA.mono (same_new (S.sub.free hp)) _ _ (b1.rep _)))
  | _ => cases ry <;> exact h.elim
theorem d_mulA {a b : Expr} {ta tb : TE} {f g : M} {pos : Pos} (ha : ED X C E a ta f) (hb : ED X C E b tb g) : ED X C E (.BinOp a .Mult b pos) (tOp rMulA ta tb) (mOp iMulA f g) := d_op op_mulA ops_mulA ha hb
/-! ### in a list -/
def anyEq (d : PyData) : List PyData → Bool
  | [] => false
  | z :: r => eqF deep z d || anyEq d r
theorem anyEq_is {d : PyData} : ∀ {ds : List PyData}, shA (shF (deep - 1)) ds = true → anyEq d ds = ds.any fun z => PyData.eqv z d
  | [], _ => rfl
  | z :: r, h => by
    have h : (shF (deep - 1) z && shA (shF (deep - 1)) r) = true := h
    rw [Bool.and_eq_true] at h
    have up : ∀ (n : Nat) (d : PyData), shF n d = true → shF (n + 1) d = true := by
      intro n
      induction n with
      | zero => intro d h; cases d <;> simp_all [shF]
      | succ n ih =>
        have ihA : ∀ xs, shA (shF n) xs = true → shA (shF (n + 1)) xs = true := by
          intro xs
          induction xs with
          | nil => intro _; rfl
          | cons x xs ihx =>
            intro h
            have h : (shF n x && shA (shF n) xs) = true := h
            rw [Bool.and_eq_true] at h
            show (shF (n + 1) x && shA (shF (n + 1)) xs) = true
            rw [ih x h.1, ihx h.2]; rfl
        intro d h
        cases d with
        | list xs => exact ihA xs h
        | tuple xs => exact ihA xs h
        | _ => simp_all [shF]
    show (eqF deep z d || anyEq d r) = (PyData.eqv z d || r.any fun z => PyData.eqv z d)
    rw [eqF_eqv deep z d (up _ _ h.1), anyEq_is h.2]
def iIn : PyData → PyData → R PyData
  | d, .list ds => gd (shF deep d && shF deep (.list ds)) (.ok (.bool (anyEq d ds)))
  | _, _ => .stuck
def iNi : PyData → PyData → R PyData
  | d, .list ds => gd (shF deep d && shF deep (.list ds)) (.ok (.bool (!anyEq d ds)))
  | _, _ => .stuck
theorem ops_in : OpS K C E (rInD K) iIn := by
  intro mu G0 H0 env σ G H x y dx dy Q S rx ry h
  cases ry with
  | lst a b =>
    rename_i xs ds
    have h : Post (RlE K) K C E mu G0 H0 σ G (lif env (gd (shF deep dx && shF deep (.list ds)) (.ok (.bool (anyEq dx ds))))) Q := by cases dx <;> exact h
    obtain ⟨c, h⟩ := Post.gdL h
    rw [Bool.and_eq_true] at c
    rw [anyEq_is c.2] at h
    exact ⟨dx, ds, (Rp.mono S.sub _ _ rx).dp _ _ (shF_lay _ _ c.1).1, Rp.dp _ _ (shF_lay _ _ c.2).1 (.lst (S.sub _ _ a) (RpA.mono S.sub _ _ b)), shF_shaped (by decide) c.1, shF_shaped (by decide) c.2, post_here S h (.bl _)⟩
  | _ => cases dx <;> exact h.elim
theorem ops_ni : OpS K C E (rNotInD K) iNi := by
  intro mu G0 H0 env σ G H x y dx dy Q S rx ry h
  cases ry with
  | lst a b =>
    rename_i xs ds
    have h : Post (RlE K) K C E mu G0 H0 σ G (lif env (gd (shF deep dx && shF deep (.list ds)) (.ok (.bool (!anyEq dx ds))))) Q := by cases dx <;> exact h
    obtain ⟨c, h⟩ := Post.gdL h
    rw [Bool.and_eq_true] at c
    rw [anyEq_is c.2] at h
    exact ⟨dx, ds, (Rp.mono S.sub _ _ rx).dp _ _ (shF_lay _ _ c.1).1, Rp.dp _ _ (shF_lay _ _ c.2).1 (.lst (S.sub _ _ a) (RpA.mono S.sub _ _ b)), shF_shaped (by decide) c.1, shF_shaped (by decide) c.2, post_here S h (.bl _)⟩
  | _ => cases dx <;> exact h.elim
theorem d_in {a b : Expr} {ta tb : TE} {f g : M} {pos : Pos} (hu : X.A.units + 65 < cLine) (ha : ED X C E a ta f) (hb : ED X C E b tb g) (hm : behindInMarks .In b = false := by rfl) : ED X C E (.Compare a [.In] [b] pos) (tOp (rInD X.K) ta tb) (mOp iIn f g) := d_cmpR (op_inD hu) ops_in hm ha hb
theorem d_ni {a b : Expr} {ta tb : TE} {f g : M} {pos : Pos} (hu : X.A.units + 65 < cLine) (ha : ED X C E a ta f) (hb : ED X C E b tb g) (hm : behindInMarks .NotIn b = false := by rfl) : ED X C E (.Compare a [.NotIn] [b] pos) (tOp (rNotInD X.K) ta tb) (mOp iNi f g) := d_cmpR (op_notInD hu) ops_ni hm ha hb
theorem t_in {a b : Expr} {ta tb : TE} {f g : M} {pos : Pos} (hu : X.A.units + 65 < cLine) (ha : ED X C E a ta f) (hb : ED X C E b tb g) (hm : behindInMarks .In b = false := by rfl) : TD X C E (.Compare a [.In] [b] pos) (tTest (tOp (rInD X.K) ta tb)) (mtB (mOp iIn f g)) := t_cmpR (op_inD hu) ops_in hm ha hb
theorem t_ni {a b : Expr} {ta tb : TE} {f g : M} {pos : Pos} (hu : X.A.units + 65 < cLine) (ha : ED X C E a ta f) (hb : ED X C E b tb g) (hm : behindInMarks .NotIn b = false := by rfl) : TD X C E (.Compare a [.NotIn] [b] pos) (tTest (tOp (rNotInD X.K) ta tb)) (mtB (mOp iNi f g)) := t_cmpR (op_notInD hu) ops_ni hm ha hb
theorem room65 {k : Nat} {A : Around} (hr : Room (k + 1) A) : A.units + 65 < cLine := by have := hr.un; omega
/-! ### y = [..], y a plain local name -/
theorem s_setLc (i : Nat) {y : Str} {py spos : Pos} {tg iter elt : Expr} {scope : Scope} {own : List (Str × Nat)} {vs : List Nat} {wi : TI} {gg : TG} {bb : Bi} {is : List Nat} {te : TE} {ma : MA} {f : M} {pos : Pos} (hc : X.calm = true) (hN : X.N.Nodup) (ok : BlkOk X.N X.env.scope scope own) (hi : ID X C E tg iter wi ma)
    (hg : ∀ (s : Shared) (H : Hp) (B : Addr) (cl : List (Str × Addr)) (fp : List Addr), GD (X.blk s H scope (compEnvC scope cl B X.env) fp) C tg gg bb is)
    (he : ∀ (s : Shared) (H : Hp) (B : Addr) (cl : List (Str × Addr)) (fp : List Addr), ED (X.blk s H scope (compEnvC scope cl B X.env) fp) C EX0 elt te f)
    (hsw : swapsWith (.ListComp elt [⟨tg, iter, [], 0⟩] scope pos) (some (.Name y py)) spos.line X.env = pure true)
    (hy : X.N[i]? = some y := by rfl) (hyl : X.env.scope.names.lookup y = some .local := by rfl) (hvs : own.map (·.2) = vs := by rfl) (his : ∀ i ∈ is, i ∈ vs := by decide) (hs : ∀ x, foldedSetIterable iter X.env x = pure x := by intro _; rfl) :
    SD X C E (.Assign [.Name y py] (.ListComp elt [⟨tg, iter, [], 0⟩] scope pos) spos) (tAsg (tLc wi gg tYes te vs) (gName i)) (mAsg (bName i) (mComp vs ma bb mtYes f)) := by
  subst hvs
  exact ⟨ps_setLc hc hN hy hyl hsw hi.pe ok (fun s H B cl fp => (hg s H B cl fp).pe) (fun _ _ _ _ _ => pts_nil) (fun s H B cl fp => (he s H B cl fp).pe) hs, snds_asg (snd_comp hi.sd (hg X.s_0 X.H_0 0 [] []).sd his sndt_yes (he X.s_0 X.H_0 0 [] []).sd) sndg_name⟩
theorem s_setLcif (i : Nat) {y : Str} {py spos : Pos} {tg iter elt cnd : Expr} {scope : Scope} {own : List (Str × Nat)} {vs : List Nat} {wi : TI} {gg : TG} {bb : Bi} {is : List Nat} {te : TE} {tt : TT} {mt : MT} {ma : MA} {f : M} {pos : Pos} (hc : X.calm = true) (hN : X.N.Nodup) (ok : BlkOk X.N X.env.scope scope own) (hi : ID X C E tg iter wi ma)
    (hg : ∀ (s : Shared) (H : Hp) (B : Addr) (cl : List (Str × Addr)) (fp : List Addr), GD (X.blk s H scope (compEnvC scope cl B X.env) fp) C tg gg bb is)
    (ht : ∀ (s : Shared) (H : Hp) (B : Addr) (cl : List (Str × Addr)) (fp : List Addr), TD (X.blk s H scope (compEnvC scope cl B X.env) fp) C EX0 cnd tt mt)
    (he : ∀ (s : Shared) (H : Hp) (B : Addr) (cl : List (Str × Addr)) (fp : List Addr), ED (X.blk s H scope (compEnvC scope cl B X.env) fp) C EX0 elt te f)
    (hsw : swapsWith (.ListComp elt [⟨tg, iter, [cnd], 0⟩] scope pos) (some (.Name y py)) spos.line X.env = pure true)
    (hy : X.N[i]? = some y := by rfl) (hyl : X.env.scope.names.lookup y = some .local := by rfl) (hvs : own.map (·.2) = vs := by rfl) (his : ∀ i ∈ is, i ∈ vs := by decide) (hs : ∀ x, foldedSetIterable iter X.env x = pure x := by intro _; rfl) :
    SD X C E (.Assign [.Name y py] (.ListComp elt [⟨tg, iter, [cnd], 0⟩] scope pos) spos) (tAsg (tLc wi gg tt te vs) (gName i)) (mAsg (bName i) (mComp vs ma bb mt f)) := by
  subst hvs
  exact ⟨ps_setLc hc hN hy hyl hsw hi.pe ok (fun s H B cl fp => (hg s H B cl fp).pe) (fun s H B cl fp => pts_one (ht s H B cl fp).pe) (fun s H B cl fp => (he s H B cl fp).pe) hs, snds_asg (snd_comp hi.sd (hg X.s_0 X.H_0 0 [] []).sd his (ht X.s_0 X.H_0 0 [] []).sd (he X.s_0 X.H_0 0 [] []).sd) sndg_name⟩
end
/-! ### the words for what is refused; parts of a law's text -/
def nmT : Nat → Option Str
  | 1 => some "part"
  | 2 => some "spread"
  | 3 => some "tree"
  | 4 => some "paper"
  | 5 => some "size"
  | 6 => some "text"
  | 7 => some "store"
  | 8 => some "no chance"
  | 9 => some "no such"
  | _ => none
def hdsOf : List Stmt → List ExceptHandler
  | .Try _ h _ _ _ :: _ => h
  | _ => []
/-- the first loop's body -/
def lawBody (s : Stmt) : List Stmt := match defBody s with
  | .For _ _ b _ _ :: _ => b
  | _ => []
/-! ### readings by name -/
abbrev rLenQ (K : PySem.W.Frag) : List V → Hp → VK → Prop := fun xs H Q => ∃ p ys, xs = [.ref p] ∧ (SqL K H p ys ∨ SqT K H p ys) ∧ Q (.int ys.length) H
abbrev rAbsQ : List V → Hp → VK → Prop := fun xs H Q => ∃ i, xs = [.int i] ∧ Q (.int (if i < 0 then -i else i)) H
abbrev rIntQ : List V → Hp → VK → Prop := fun xs H Q => (∃ i, xs = [.int i] ∧ Q (.int i) H) ∨ ∃ k, xs = [.bl k] ∧ Q (.int (if k then 1 else 0)) H
abbrev rStrQ : List V → Hp → VK → Prop := fun xs H Q => ∃ i : Int, xs = [.int i] ∧ i.natAbs.log2 < 1920 ∧ Q (.str (toString i)) H
abbrev tTruK (K : PySem.W.Frag) (te : TE) : TT := fun σ H Q => te σ H fun x H' => ∃ k, TruV K x H' k ∧ Q k H'
end LW

namespace LW
open PySem PySem.Spec PyProof.Rows L2 LamX
/-! ### the script's first cell as dice -/
section
variable {K : PySem.W.Frag} {G H : Hp} {C : Cl}
abbrev intsD (is : List Int) : List PyData := is.map PyData.int
theorem rpa_ints : ∀ (is : List Int) (vs : List V), RpA K G vs (intsD is) → vs = is.map V.int
  | [], vs, h => by cases h; rfl
  | i :: is, vs, h => by
    cases h with
    | cons h1 h2 =>
      cases h1
      rw [rpa_ints is _ h2]
      rfl
theorem ints_rpa : ∀ (is : List Int), RpA K G (is.map V.int) (intsD is)
  | [] => .nil
  | i :: is => .cons (.int i) (ints_rpa is)
theorem cut_first (ns : List Int) : cutV (ns.map V.int) none (some 1) = (ns.take 1).map V.int := by
  unfold cutV
  have e0 : HT.sIx (ns.map V.int).length (ns.map V.int).length (some 1) = min 1 (ns.map V.int).length := HT.sIx_nat _ _ 1
  rw [HT.sIx_none, e0]
  cases ns with
  | nil => rfl
  | cons n t =>
    have e : min 1 (((n :: t).map V.int).length) - 0 = 1 := by simp
    rw [e]; rfl
def spRounds (K : PySem.W.Frag) (C : Cl) (dice : Int → List Int) : Sp := fun vs H Q _ => ∃ (a : Addr) (ns : List Int), vs = [.ref a, .int 1] ∧ Tabs C.T H ∧ SqL K H a (ns.map V.int) ∧
  ∀ l q H', Tabs C.T H' → H' l = some (.lst [.ref q]) → H' q = some (.lst ((dice (ns.headD 0)).map V.int)) → Q (.ref l) H'
theorem rounds_ok {P : Program} {w : World} {mg : Str → Option Value} {base : Heap} {x qual : Str} {params : Arguments} {st : Stmt} {r : List Stmt} {scope : Scope} {f : Addr} {fd : FuncData} {k : Nat} {m : MS} {N : List Str} {dice : Int → List Int}
    (F : FunD K x qual params (st :: r) scope [] [] f fd) (S : FnScope N ["script", "most"] scope) (hN : N.length = 4)
    (hb : ∀ (cdv : Value) (A : Around) (outer : List PySem.Env) (s : Shared) (H : Hp) (E : XK), Room k (A.deeper (envOfC qual scope s.heap.objs.size f cdv)) →
      PS (cxOf (L2.CX P w) P w K mg base N qual scope f cdv A outer s H E) st (tAsg (tSl (rSlL K) (tVar 0) tNoPart (tPart (tVar 1))) (gName 2)) ∧ ∃ t, BD (cxOf (L2.CX P w) P w K mg base N qual scope f cdv A outer s H E) C E r t m)
    (h0 : ∃ e, m [none, some (.sh (.int 1)), some (.sh (.list [])), none] = .rt e (.list [.list (intsD (dice 0))]))
    (h1 : ∀ z, ∃ e, m [none, some (.sh (.int 1)), some (.sh (.list [.int z])), none] = .rt e (.list [.list (intsD (dice z))])) :
    FnOk P w K mg base (L2.CX P w) (k + 1) f fd ["script", "most"] (spRounds K C dice) := by
  refine F.ok S (fun vs H Q E h => by obtain ⟨a, ns, rfl, _⟩ := h; rfl) fun cdv A outer s H vs Q E hr h => ?_
  obtain ⟨a, ns, rfl, tb, hS, q⟩ := h
  obtain ⟨hp, t, ht⟩ := hb cdv A outer s H E hr
  obtain ⟨n0, n1, n2, n3, rfl⟩ : ∃ a b c d, N = [a, b, c, d] := by
    match N, hN with
    | [a, b, c, d], _ => exact ⟨a, b, c, d, rfl⟩
  have hm : ∃ e, m [none, some (.sh (.int 1)), some (.sh (.list (intsD (ns.take 1)))), none] = .rt e (.list [.list (intsD (dice (ns.headD 0)))]) := by
    cases ns with
    | nil => exact h0
    | cons z r => exact h1 z
  obtain ⟨e, hm⟩ := hm
  refine ⟨_, pss_cons hp ht.pe, ?_⟩
  refine ⟨.ref a, rfl, .int 1, rfl, 1, rfl, a, _, rfl, hS, fun p hpn => ?_⟩
  rw [cut_first]
  let G2 : Hp := fun b => if b = p then some (.lst ((ns.take 1).map V.int)) else none
  have gp : G2 p = some (.lst ((ns.take 1).map V.int)) := if_pos rfl
  have gi : ∀ b o, G2 b = some o → b = p ∧ o = .lst ((ns.take 1).map V.int) := fun b o e => by
    by_cases hb : b = p
    · subst hb; rw [gp] at e; exact ⟨rfl, (Option.some.inj e).symm⟩
    · have e : (if b = p then some (HO.lst ((ns.take 1).map V.int)) else none) = some o := e
      rw [if_neg hb] at e; cases e
  have S2 : StR K C mu0 G2 (upd H p (.lst ((ns.take 1).map V.int))) [none, some (.sh (.int 1)), some (.sh (.list (intsD (ns.take 1)))), none] [some (.ref a), some (.int 1), some (.ref p), none] G2 (upd H p (.lst ((ns.take 1).map V.int))) := {
    sub := fun b o e => by obtain ⟨rfl, rfl⟩ := gi b o e; exact upd_same
    ng := fun b o e => by obtain ⟨rfl, rfl⟩ := gi b o e; exact nt_lst
    g0 := .refl _
    fz := .refl (tb.ext fun b o e => by rw [upd_ne (ne_of_none e hpn)]; exact e)
    new := fun _ _ e => .inl e
    mh := fun _ m => m.elim
    len := rfl
    sh := fun i d e => by
      match i, e with
      | 1, e => cases e; exact ⟨_, rfl, .int 1⟩
      | 2, e => cases e; exact ⟨_, rfl, .lst gp (ints_rpa _)⟩
      | 0, e => cases e
      | 3, e => cases e
      | n + 4, e => cases e
    ol := fun i m ds e => by
      match i, e with
      | 0, e => cases e
      | 1, e => cases e
      | 2, e => cases e
      | 3, e => cases e
      | n + 4, e => cases e
    ow := fun i j z ⟨m, ds, e⟩ _ _ _ => by
      match i, e with
      | 0, e => cases e
      | 1, e => cases e
      | 2, e => cases e
      | 3, e => cases e
      | n + 4, e => cases e }
  refine ht.sd mu0 G2 _ _ [some (.ref a), some (.int 1), some (.ref p), none] _ _ _ S2 ?_
  rw [hm]
  intro v σ' G' H' S' _ rv
  cases rv with
  | lst e1 e2 =>
    cases e2 with
    | cons e3 e4 =>
      cases e4
      cases e3 with
      | lst e5 e6 =>
        rw [rpa_ints _ _ e6] at e5
        exact q _ _ _ S'.fz.tb (S'.sub _ _ e1) (S'.sub _ _ e5)
end
end LW
namespace LW
open PySem PySem.Spec PyProof.Rows L2 LamX
section
variable {K : PySem.W.Frag} {C : Cl}
/-! ### the law's loop over its one dice -/
def spLaw (K : PySem.W.Frag) (C : Cl) : Sp := fun vs H Q _ => ∃ (a : Addr) (ns : List Int), vs = [.ref a] ∧ (∀ z ∈ ns, Builtin.Int.intBits z ≤ 1048576) ∧ Tabs C.T H ∧ SqL K H a (ns.map V.int) ∧ ∀ H', Q (.bl true) H'
def TailOk (C : Cl) (n : Nat) (tt : TS) : Prop := ∀ (D : Ends) (σ : L2.St) (H : Hp), σ.length = n → Tabs C.T H → (∀ H', D.rt (.bl true) H') → tt D σ H
def startL (n : Nat) (is : List Int) : LEnv := none :: some (.ow true (intsD is)) :: List.replicate (n - 2) none
theorem startL_get {n : Nat} {is : List Int} {i : Nat} {s : Sl} (h : (startL n is)[i]? = some (some s)) : i = 1 ∧ s = .ow true (intsD is) := by
  unfold startL at h
  match i, h with
  | 0, h => cases h
  | 1, h => cases h; exact ⟨rfl, rfl⟩
  | i + 2, h =>
    rw [List.getElem?_cons_succ, List.getElem?_cons_succ, List.getElem?_replicate] at h
    split at h <;> cases h
theorem law_ok {P : Program} {w : World} {mg : Str → Option Value} {base : Heap} {x qual : Str} {params : Arguments} {tg iter : Expr} {body tail : List Stmt} {pos : Pos} {scope : Scope} {f c : Addr} {fd : FuncData} {k : Nat} {m : MS} {N : List Str} {dice : Int → List Int}
    (F : FunD K x qual params (.For tg iter body [] pos :: tail) scope [] [] f fd) (S : FnScope N ["script"] scope) (hN : 2 ≤ N.length) (hc : fd.code = .ref c)
    (hb : ∀ (A : Around) (outer : List PySem.Env) (s : Shared) (H : Hp) (E : XK), Room k (A.deeper (envOfC qual scope s.heap.objs.size f (.ref c))) →
      ∃ tb tt, PSs (cxOf (L2.CX P w) P w K mg base N qual scope f (.ref c) A outer s H E) (.For tg iter body [] pos :: tail) (tSeq (tFor (iSeq K (tCallS (spRounds K C dice) (fun _ => E) (tCons (tVar 0) (tCons (tC (.int 1)) tNil)))) (gName 1) tb) tt) ∧ SndS K C E tb m ∧ TailOk C N.length tt)
    (hm : ∀ z, Builtin.Int.intBits z ≤ 1048576 → ∃ e, m (startL N.length (dice z)) = .nx e ∧ e.length = N.length) :
    FnOk P w K mg base (L2.CX P w) (k + 1) f fd ["script"] (spLaw K C) := by
  obtain ⟨oc, od, dV, kV, doc, pm, an, cdv, ct, osl, rfl, lk, hcd, _, _⟩ := F.ex
  obtain rfl : cdv = Value.ref c := hc
  refine fn_of lk hcd S (fun vs H Q E h => by obtain ⟨a, ns, rfl, _⟩ := h; rfl) fun A outer s H vs Q E hr h => ?_
  obtain ⟨a, ns, rfl, hbits, tb, hS, q⟩ := h
  obtain ⟨tb', tt, hp, sd, hT⟩ := hb A outer s H E hr
  refine ⟨_, hp, ?_⟩
  have hz : Builtin.Int.intBits (ns.headD 0) ≤ 1048576 := by
    cases ns with
    | nil => decide
    | cons z r => exact hbits z List.mem_cons_self
  obtain ⟨e, hm, he⟩ := hm _ hz
  have hl0 : (L2.start N [V.ref a]).length = N.length := by
    unfold L2.start
    rw [List.length_append, List.length_map, List.length_replicate]
    simp only [List.length_cons, List.length_nil]
    omega
  refine .inl ⟨.ref a, by unfold L2.start; rfl, a, ns, rfl, tb, hS, fun l p H1 tb1 hl hq => ⟨l, rfl, ⟨[.ref p], SqL.of hl⟩, ?_⟩⟩
  refine for_list (xs := [.ref p]) (fun i σ' H' => (i = 0 ∧ σ' = L2.start N [V.ref a] ∧ H' = H1) ∨ (i = 1 ∧ σ'.length = N.length ∧ Tabs C.T H' ∧ H' l = some (.lst [.ref p]))) (.inl ⟨rfl, rfl, rfl⟩) (fun i σ' H' hi h => ?_) (fun i y σ' H' hy h => ?_) (fun σ' H' h => ?_)
  · rcases h with ⟨_, _, e3⟩ | ⟨_, _, _, h⟩
    · rw [e3]; exact SqL.of hl
    · exact SqL.of h
  · rcases h with ⟨e1, e2, e3⟩ | ⟨rfl, _⟩
    · rw [e1] at hy
      cases hy
      rw [e1, e2, e3]
      let σ1 : L2.St := (L2.start N [V.ref a]).set 1 (some (.ref p))
      have g1 : ∀ i v, σ1[i]? = some v → i = 1 → v = some (.ref p) := fun i v e1 ei => by
        subst ei
        rw [List.getElem?_set_self (by rw [hl0]; omega)] at e1
        exact (Option.some.inj e1).symm
      have g2 : σ1[1]? = some (some (.ref p)) := List.getElem?_set_self (by rw [hl0]; omega)
      have S1 : StR K C (muP p) (fun _ => none) H1 (startL N.length (dice (ns.headD 0))) σ1 (fun _ => none) H1 := {
        sub := fun b o e => nomatch e
        ng := fun b o e => nomatch e
        g0 := .refl _
        fz := .refl tb1
        new := fun b o e => nomatch e
        mh := fun b hb => by
          have hb : b = p := hb
          rw [hb]; exact ⟨_, hq⟩
        len := by
          show _ = ((L2.start N [V.ref a]).set 1 (some (.ref p))).length
          rw [List.length_set, hl0]
          unfold startL
          simp only [List.length_cons, List.length_replicate]
          omega
        sh := fun i d e => by obtain ⟨_, e2⟩ := startL_get e; cases e2
        ol := fun i m ds e => by
          obtain ⟨rfl, e2⟩ := startL_get e
          cases e2
          exact ⟨p, _, g2, hq, ints_rpa _, rfl, rfl⟩
        ow := fun i j z ⟨m1, d1, e1⟩ ⟨m2, d2, e2⟩ _ _ => by rw [(startL_get e1).1, (startL_get e2).1] }
      refine sd (muP p) _ _ _ σ1 _ _ _ S1 ?_
      rw [hm]
      intro σ2 G2 H2 S2 _
      have lp : l ≠ p := fun z => by
        rw [z, hq] at hl
        have e1 := Option.some.inj hl
        injection e1 with e2
        cases hd : dice (ns.headD 0) with
        | nil => rw [hd] at e2; cases e2
        | cons i r => rw [hd] at e2; cases e2
      exact .inr ⟨rfl, S2.len.symm.trans he, S2.fz.tb, S2.fz.k _ _ lp nt_lst hl⟩
    · cases hy
  · rcases h with ⟨h, _⟩ | ⟨_, hl2, tb2, _⟩
    · cases h
    · exact hT _ _ _ hl2 tb2 q
end
end LW

namespace LW
open PySem PySem.Spec PyProof.Rows L2 LamX
/-! ### the text behind the loop: what must be refused -/
structure Lm where
  params : Arguments
  body : Expr
  scope : Scope
  word : Str
def noArgs : Arguments := ⟨[], [], none, [], [], none, []⟩
def lmOf : Expr → Option Lm
  | .Tuple [.Lambda params body scope _, .Constant (.str w) _ _] _ _ => if scope.names.all fun y => !(y.2 == .free) then some ⟨params, body, scope, w⟩ else none
  | _ => none
def lmsOf : List Expr → Option (List Lm)
  | [] => some []
  | e :: es => match lmOf e, lmsOf es with
    | some l, some ls => some (l :: ls)
    | _, _ => none
def taW (T : List (Addr × Str)) (q : Str) : List Lm → TA
  | [] => tNil
  | l :: r => tCons (tTup (tCons (tLamV T q l.params l.body l.scope) (tCons (tC (.str l.word)) tNil))) (taW T q r)
section
variable {X : Cx} {T : List (Addr × Str)}
theorem pa_wrong {c P : Addr} (TB : TabB X.base X.mg c P) (hcode : X.env.code = .ref c) (hm : (P, X.env.qual ++ "<lambda>") ∈ T) (hu : ∀ p ∈ T, p.1 = P → p.2 = X.env.qual ++ "<lambda>") :
    ∀ (es : List Expr) (ls : List Lm), lmsOf es = some ls → (∀ l ∈ ls, defaultsOf l.params X.env = ([], [])) → PA X es (taW T (X.env.qual ++ "<lambda>") ls)
  | [], ls, h, _ => by cases h; exact pa_nil
  | e :: es, ls, h, hd => by
    unfold lmsOf at h
    cases e1 : lmOf e with
    | none => rw [e1] at h; cases h
    | some l =>
      rw [e1] at h
      cases e2 : lmsOf es with
      | none => rw [e2] at h; cases h
      | some r =>
        rw [e2] at h
        cases h
        unfold lmOf at e1
        split at e1
        · rename_i params body scope _ w _ _ _ _
          split at e1
          · rename_i hf
            cases e1
            refine pa_cons (pe_tup (pa_cons (pe_lamV TB hcode hm hu (hd _ List.mem_cons_self) fun y hy => ?_) (pa_cons pe_str pa_nil rfl) rfl)) (pa_wrong TB hcode hm hu es r e2 fun l hl => hd l (List.mem_cons_of_mem _ hl)) rfl
            have := List.all_eq_true.mp hf y hy
            intro z
            rw [z] at this
            cases this
          · cases e1
        · cases e1
end
section
variable {K : PySem.W.Frag} {H H' : Hp} {C : Cl}
/-- one kept pair -/
def Wr (q : Str) (H : Hp) (v : V) (l : Lm) : Prop := ∃ t f c', v = .ref t ∧ H t = some (.tup [.ref f, .str l.word]) ∧ H f = some (LamO f c' q l.params l.body l.scope) ∧ H c' = some (CodeO c' q)
theorem Wr.ext {q : Str} {v : V} {l : Lm} (h : Wr q H v l) (e : ∀ b o, nt o → H b = some o → H' b = some o) : Wr q H' v l := by
  obtain ⟨t, f, c', rfl, h1, h2, h3⟩ := h
  exact ⟨t, f, c', rfl, e _ _ nt_tup h1, e _ _ (fun ps => lamO_ne ps) h2, e _ _ (fun ps => codeO_ne ps) h3⟩
inductive Wrs (q : Str) (H : Hp) : List V → List Lm → Prop
  | nil : Wrs q H [] []
  | cons {v : V} {vs : List V} {l : Lm} {ls : List Lm} : Wr q H v l → Wrs q H vs ls → Wrs q H (v :: vs) (l :: ls)
theorem Wrs.ext {q : Str} (e : ∀ b o, nt o → H b = some o → H' b = some o) : ∀ {vs : List V} {ls : List Lm}, Wrs q H vs ls → Wrs q H' vs ls
  | _, _, .nil => .nil
  | _, _, .cons h r => .cons (h.ext e) (Wrs.ext e r)
theorem Wrs.get {q : Str} {v : V} : ∀ {vs : List V} {ls : List Lm} {i : Nat}, Wrs q H vs ls → vs[i]? = some v → ∃ l, l ∈ ls ∧ Wr q H v l
  | _, _, _, .nil, e => by cases e
  | _, _, 0, .cons h r, e => by cases e; exact ⟨_, List.mem_cons_self, h⟩
  | _, _, i + 1, .cons h r, e => by
    obtain ⟨l, m, h⟩ := Wrs.get (i := i) r (by rw [List.getElem?_cons_succ] at e; exact e)
    exact ⟨l, List.mem_cons_of_mem _ m, h⟩
theorem Wrs.len {q : Str} : ∀ {vs : List V} {ls : List Lm}, Wrs q H vs ls → vs.length = ls.length
  | _, _, .nil => rfl
  | _, _, .cons _ r => by rw [List.length_cons, List.length_cons, r.len]
theorem up_same {p : Addr} {o : HO} (hp : H p = none) : ∀ b u, H b = some u → upd H p o b = some u := fun b u e => by rw [upd_ne (ne_of_none e hp)]; exact e
theorem wr_mean {q : Str} : ∀ (ls : List Lm) (σ : L2.St) (H : Hp) (Q : List V → Hp → Prop), Tabs C.T H → (∀ vs H', ExtN H H' → Tabs C.T H' → Wrs q H' vs ls → Q vs H') → taW C.T q ls σ H Q
  | [], σ, H, Q, tb, h => h [] H (.refl _) tb .nil
  | l :: r, σ, H, Q, tb, h => by
    refine ⟨tb, fun f c' H1 e1 t1 hf hc => ⟨show 2 ≤ sizeLine by decide, fun p hp => wr_mean r σ _ _ (t1.ext (up_same hp)) fun vs H2 e2 t2 w => h _ _ ((e1.trans (.of (up_same hp))).trans e2) t2 (.cons ?_ w)⟩⟩
    exact Wr.ext (l := l) (q := q) ⟨p, f, c', rfl, upd_same, up_same hp _ _ hf, up_same hp _ _ hc⟩ fun b o n e => e2 b o e n
theorem nmT_ok {c : Nat} {s : Str} (h : nmT c = some s) : PyData.strOk s = true := by
  unfold nmT at h
  split at h <;> first | (cases h; decide +kernel) | cases h
/-- what each of them does -/
structure LamG (P : Program) (w : World) (K : PySem.W.Frag) (mg : Str → Option Value) (base : Heap) (C : Cl) (k : Nat) (q : Str) (l : Lm) : Prop where
  ex : ∃ (t : XK → TE) (m : M) (c : Nat), LamRun P w K mg base k q l.params l.body l.scope t ∧ (∀ E, Snd K C E (t E) m) ∧ m [] = .rai c ∧ nmT c = some l.word
theorem told_mean {P : Program} {w : World} {mg : Str → Option Value} {base : Heap} {k : Nat} {q : Str} {l : Lm} {lT : List (Addr × Str)} {f c' : Addr} {Q : VK} {E : XK} (hl : ToldL K C nmT lT) (G : LamG P w K mg base C k q l) (h2 : H f = some (LamO f c' q l.params l.body l.scope)) (h3 : H c' = some (CodeO c' q)) (tb : Tabs C.T H)
    (hQ : ∀ H', (∀ b o, nt o → H b = some o → H' b = some o) → Tabs C.T H' → Q (.str l.word) H') : spTold P w K mg base k lT [.ref f] H Q E := by
  obtain ⟨tE, m, c, lr, sd, em, ew⟩ := G.ex
  refine ⟨f, c', q, l.params, l.body, l.scope, tE, rfl, h2, h3, lr, ?_⟩
  refine sd _ mu0 (fun _ => none) H [] [] (fun _ => none) H _ ?_ ?_
  · exact {
      sub := fun b o e => nomatch e
      ng := fun b o e => nomatch e
      g0 := .refl _
      fz := .refl tb
      new := fun b o e => nomatch e
      mh := fun _ m => m.elim
      len := rfl
      sh := fun i d e => nomatch e
      ol := fun i m ds e => nomatch e
      ow := fun i j z ⟨m1, d1, e1⟩ _ _ _ => nomatch e1 }
  · rw [em]
    intro H' fz
    exact hl c _ ew _ _ _ (hQ H' (fun b o n e => fz.k b o (fun z => z) n e) fz.tb)
/-- [pair for pair in wrong if _law_told(pair[0]) != pair[1]] == [] -/
abbrev ttW (K : PySem.W.Frag) (sp : Sp) (i : Nat) : TT := tTest (tOp (rNeD K) (tCallS sp (fun _ => EX0) (tCons (tOp (rIx K) (tVar i) (tC (.int 0))) tNil)) (tOp (rIx K) (tVar i) (tC (.int 1))))
abbrev teW (K : PySem.W.Frag) (sp : Sp) (i : Nat) : TE := tOp (rEqD K) (tLc (iSeq K (tVar 2)) (gName i) (ttW K sp i) (tVar i) [i]) (tLst tNil)
theorem eqv_str (s : Str) : PyData.eqv (.str s) (.str s) = true := by simp [PyData.eqv]
theorem wrongs_mean {P : Program} {w : World} {mg : Str → Option Value} {base : Heap} {k i : Nat} {q : Str} {ls : List Lm} {lT : List (Addr × Str)} {σ : L2.St} {Q : VK} {a : Addr} {vs : List V} (hl : ToldL K C nmT lT) (G : ∀ l ∈ ls, LamG P w K mg base C k q l)
    (hi : i < σ.length) (ha : σ[2]? = some (some (.ref a))) (hv : H a = some (.lst vs)) (W : Wrs q H vs ls) (tb : Tabs C.T H) (hQ : ∀ H', Tabs C.T H' → Q (.bl true) H') : teW K (spTold P w K mg base k lT) i σ H Q := by
  refine .inl ⟨.ref a, ha, a, rfl, ⟨vs, SqL.of hv⟩, fun D hD => ?_⟩
  refine lc_list (K := K) (xs := vs) (g := gName i) (tt := ttW K (spTold P w K mg base k lT) i) (te := tVar i) (vs := [i]) (σ := σ) (H1 := H) (D := D) (Qd := fun H2 => tLst tNil σ H2 fun y H3 => rEqD K (.ref D) y H3 Q) (fun _ H' => H' D = some (.lst []) ∧ H' a = some (.lst vs) ∧ Wrs q H' vs ls ∧ Tabs C.T H') ⟨upd_same, up_same hD _ _ hv, W.ext fun b o _ e => up_same hD _ _ e, tb.ext (up_same hD)⟩ (fun _ H' _ h => SqL.of h.2.1) (fun j x H' hj h => ?_) (fun H' h => ?_)
  · obtain ⟨h1, h2, h3, h4⟩ := h
    obtain ⟨l, hm, t, f, c', rfl, g1, g2, g3⟩ := h3.get hj
    have hs : ((wipe σ [i]).set i (some (V.ref t)))[i]? = some (some (.ref t)) := List.getElem?_set_self (by rw [wipe_length]; exact hi)
    refine ⟨by simp only [wipe, List.set_set], ?_⟩
    refine ⟨.ref t, hs, .inr (.inl ⟨t, _, 0, .ref f, rfl, rfl, .inl (.inl g1), rfl, ?_⟩)⟩
    refine told_mean (E := EX0) hl (G l hm) g2 g3 h4 fun H2 e2 t2 => ?_
    refine ⟨.ref t, hs, .inr (.inl ⟨t, _, 1, .str l.word, rfl, rfl, .inl (.inl (e2 _ _ nt_tup g1)), rfl, ?_⟩)⟩
    have ok : shF 1 (.str l.word) = true := by
      obtain ⟨_, _, _, _, _, _, ew⟩ := (G l hm).ex
      exact nmT_ok ew
    refine ⟨.str l.word, .str l.word, .str _, .str _, shF_shaped (by decide) ok, shF_shaped (by decide) ok, _, rfl, ?_⟩
    rw [eqv_str]
    exact ⟨e2 _ _ nt_lst h1, e2 _ _ nt_lst h2, h3.ext e2, t2⟩
  · obtain ⟨h1, _, _, h4⟩ := h
    refine ⟨Nat.zero_le _, fun p hp => ?_⟩
    exact ⟨.list [], .list [], .lst (SqL.of (up_same hp _ _ h1)) .nil, .lst (SqL.of upd_same) .nil, shF_shaped (n := 1) (by decide) rfl, shF_shaped (n := 1) (by decide) rfl, hQ _ (h4.ext (up_same hp))⟩
theorem tail_ok {P : Program} {w : World} {mg : Str → Option Value} {base : Heap} {k i n : Nat} {q : Str} {ls : List Lm} {lT : List (Addr × Str)} (hl : ToldL K C nmT lT) (G : ∀ l ∈ ls, LamG P w K mg base C k q l) (hi : i < n) (h2 : 2 < n) (hz : ls.length ≤ sizeLine) (hi2 : i ≠ 2) :
    TailOk C n (tSeq (tAsg (tLst (taW C.T q ls)) (gName 2)) (tRet (teW K (spTold P w K mg base k lT) i))) := by
  intro D σ H hn tb hD
  refine wr_mean ls σ H _ tb fun vs H1 e1 t1 W => ⟨by rw [W.len]; exact hz, fun p hp => ?_⟩
  exact wrongs_mean (vs := vs) hl G (by rw [List.length_set, hn]; exact hi) (List.getElem?_set_self (by rw [hn]; exact h2)) upd_same (W.ext fun b o _ e => up_same hp _ _ e) (t1.ext (up_same hp)) fun H' _ => hD H'
end
end LW
namespace LW
open PySem PySem.Spec PyProof.Rows L2 LamX
def wrongEs (s : Stmt) : List Expr := match defBody s with
  | _ :: .Assign _ (.List es _) _ :: _ => es
  | _ => []
def lmsIn (s : Stmt) : List Lm := (lmsOf (wrongEs s)).getD []
def LamAll (P : Program) (w : World) (K : PySem.W.Frag) (mg : Str → Option Value) (base : Heap) (C : Cl) (k : Nat) (q : Str) : List Lm → Prop
  | [] => True
  | l :: r => LamG P w K mg base C k q l ∧ LamAll P w K mg base C k q r
theorem LamAll.mem {P : Program} {w : World} {K : PySem.W.Frag} {mg : Str → Option Value} {base : Heap} {C : Cl} {k : Nat} {q : Str} : ∀ {ls : List Lm}, LamAll P w K mg base C k q ls → ∀ l ∈ ls, LamG P w K mg base C k q l
  | [], _, _, h => nomatch h
  | _ :: _, ⟨a, b⟩, l, h => by
    rcases List.mem_cons.mp h with rfl | h
    · exact a
    · exact LamAll.mem b l h
theorem lam_of {P : Program} {w : World} {K : PySem.W.Frag} {mg : Str → Option Value} {base : Heap} {C : Cl} {k : Nat} {q : Str} {params : Arguments} {body : Expr} {scope : Scope} {word : Str} (s0 : Shared) (c : Nat) {t : XK → TE} {m : M} (sc : FnScope [] [] scope)
    (bind : ∀ pm cv ctv, bindArgs (PySem.W.kla_fn "<lambda>" q params body scope [] pm cv ctv) ⟨[], []⟩ = pure [])
    (hb : ∀ (A : Around) (outer : List PySem.Env) (s : Shared) (H : Hp) (E : XK) (f c' : Addr), Room k (A.deeper (envOfC q scope s.heap.objs.size f (.ref c'))) → ED (cxOf (L2.CX P w) P w K mg base [] q scope f (.ref c') A outer s H E) C E body (t E) m)
    (hro : Room k (callerA.deeper (envOfC q scope s0.heap.objs.size 0 (.ref 0)))) (em : m [] = .rai c) (ew : nmT c = some word) : LamG P w K mg base C k q ⟨params, body, scope, word⟩ :=
  ⟨⟨t, m, c, ⟨sc, bind, fun A outer s H E f c' hr => (hb A outer s H E f c' hr).pe⟩, fun E => (hb callerA [] s0 (fun _ => none) E 0 0 hro).sd, em, ew⟩⟩
def diceOf (z : Int) : List Int := if -10 < z ∧ z < 10 then [(z.natAbs : Int), 0, 2] else [z, 1 + z.fmod 1009, if (10 : Int) ^ 18 ≤ z then 1 else 0]
end LW
namespace LW
open PySem PySem.Spec PyProof.Rows L2 LamX
def noDef (ls : List Lm) : Bool := ls.all fun l => l.params.defaults.isEmpty && l.params.kw_defaults.isEmpty
theorem noDef_ok {ls : List Lm} (h : noDef ls = true) (l : Lm) (hl : l ∈ ls) (env : PySem.Env) : defaultsOf l.params env = ([], []) := by
  obtain ⟨a, b⟩ := Bool.and_eq_true_iff.mp (List.all_eq_true.mp h l hl)
  rw [defaultsOf_eq, List.isEmpty_iff.mp a, List.isEmpty_iff.mp b]
  constructor
end LW

namespace LW
open PySem PySem.Spec PyProof.Rows L2 LamX
/-! ### the head's facts, for every law -/
def names9 : List Str := ["ChanceFault", "BadPart", "BadSpread", "BadTree", "BadPaper", "BadSize", "BadText", "BadStore", "NoChance", "NoSuch"]
def C9 (K : PySem.W.Frag) (Pt : Addr) : Cl := ⟨fun n => .ref (He.ga K (names9.getD n "")), [(Pt, ("law.<locals>.<lambda>" : Str))]⟩
def words9 : List (Str × Str) := [("BadPart", "part"), ("BadSpread", "spread"), ("BadTree", "tree"), ("BadPaper", "paper"), ("BadSize", "size"), ("BadText", "text"), ("BadStore", "store"), ("NoChance", "no chance"), ("NoSuch", "no such")]
def lT9 (K : PySem.W.Frag) : List (Addr × Str) := words9.map fun p => (He.ga K p.1, p.2)
/-- of each class raised, which clause takes it -/
def exTold (K : PySem.W.Frag) : Bool := (List.range 9).all fun i => (List.range (i + 1)).all fun j => decide (PySem.W.exmOne K (.ref (He.ga K (names9.getD (i + 1) ""))) (.ref (He.ga K ((words9.getD j ("", "")).1))) = some (decide (j = i)))
theorem exTold_ok {K : PySem.W.Frag} (h : exTold K = true) {i j : Nat} (hi : i < 9) (hj : j ≤ i) : PySem.W.exmOne K (.ref (He.ga K (names9.getD (i + 1) ""))) (.ref (He.ga K ((words9.getD j ("", "")).1))) = some (decide (j = i)) :=
  of_decide_eq_true (List.all_eq_true.mp (List.all_eq_true.mp h i (List.mem_range.mpr hi)) j (List.mem_range.mpr (by omega)))
theorem wTold_at {K : PySem.W.Frag} {Q : VK} {cls : Value} {d : Option Addr} {H : Hp} : ∀ (l : List (Addr × Str)) (i : Nat) (p : Addr × Str), l[i]? = some p → (∀ j q, j ≤ i → l[j]? = some q → PySem.W.exmOne K cls (.ref q.1) = some (decide (j = i))) → Q (.str p.2) H → wTold K Q l cls d H
  | [], _, _, e, _, _ => nomatch e
  | (a, s) :: r, 0, p, e, h, hQ => by
    cases e
    exact ⟨true, h 0 _ (Nat.le_refl _) rfl, fun _ => hQ, fun z => nomatch z⟩
  | (a, s) :: r, i + 1, p, e, h, hQ => by
    refine ⟨false, (h 0 _ (Nat.zero_le _) rfl).trans (by simp), (fun z => nomatch z), fun _ => wTold_at r i p (by rw [List.getElem?_cons_succ] at e; exact e) (fun j q hj ej => ?_) hQ⟩
    have := h (j + 1) q (by omega) (by rw [List.getElem?_cons_succ]; exact ej)
    rw [this]
    simp
theorem nmT_at {c : Nat} {s : Str} (h : nmT c = some s) : ∃ i x, c = i + 1 ∧ i < 9 ∧ words9[i]? = some (x, s) := by
  unfold nmT at h
  split at h <;> first | (cases h; exact ⟨_, _, rfl, by decide, rfl⟩) | cases h
theorem toldL9 {K : PySem.W.Frag} {Pt : Addr} (h : exTold K = true) : ToldL K (C9 K Pt) nmT (lT9 K) := by
  intro c s hc Q d H hQ
  obtain ⟨i, x, rfl, hi, ei⟩ := nmT_at hc
  refine wTold_at _ i (He.ga K x, s) (by unfold lT9; rw [List.getElem?_map, ei]; rfl) (fun j q hj ej => ?_) hQ
  unfold lT9 at ej
  rw [List.getElem?_map] at ej
  cases e2 : words9[j]? with
  | none => rw [e2] at ej; cases ej
  | some p =>
    rw [e2] at ej
    cases ej
    have := exTold_ok h hi hj
    have e3 : words9.getD j ("", "") = p := by rw [List.getD_eq_getElem?_getD, e2]; rfl
    rw [e3] at this
    exact this
section
variable {K : PySem.W.Frag} {h : Heap} {mg : Str → Option Value} {Pt : Addr}
theorem exi9 (X : K.In h) (G : h.Ns mainGlobals mg) {x : Str} {n : Nat} (g : (He.Fa.glo x).ok K = true) (e : (He.Fa.exc x).ok K = true) (hn : names9.getD n "" = x) : ExI K mg (C9 K Pt) x n := by
  obtain ⟨a, b, c, d⟩ := He.exc_ok e
  exact ⟨_, (by show Value.ref (He.ga K (names9.getD n "")) = _; rw [hn]), He.glo_ok X G g, b, a, c, d⟩
def tyB (K : PySem.W.Frag) (a : Addr) : Bool := match K.lookup a with
  | some ⟨.type c, none, _, _⟩ => decide (c = "tuple")
  | _ => false
theorem tyB_ok {a : Addr} (h : tyB K a = true) : ∃ o, K.lookup a = some o ∧ o.cls = .type "tuple" ∧ o.dict = none := by
  unfold tyB at h
  cases q : K.lookup a with
  | none => rw [q] at h; cases h
  | some o =>
    obtain ⟨oc, od, dt, osl⟩ := o
    rw [q] at h
    cases oc with
    | type c =>
      cases od with
      | none => exact ⟨_, rfl, congrArg Value.type (of_decide_eq_true h), rfl⟩
      | some a => cases h
    | _ => cases od <;> cases h
def tpB (K : PySem.W.Frag) (x : Str) (is : List Int) : Bool := He.tupB K x (is.map He.Dv.int) && tyB K (He.ga K x)
theorem tup_ints {x : Str} {is : List Int} (h : tpB K x is = true) : TupK K (He.ga K x) (intsD is) := by
  obtain ⟨h1, h2⟩ := Bool.and_eq_true_iff.mp h
  refine ⟨is.map V.int, fun H => ⟨?_, .inl (tyB_ok h2)⟩, fun G => ints_rpa is⟩
  have := He.tupB_ok h1 H
  rw [List.map_map] at this
  exact this
theorem tabs0 {H : Hp} {P : Addr} {q : Str} (h : H P = some (.tbl #[])) : Tabs [(P, q)] H := fun p hp => by
  rw [List.mem_singleton.mp hp]
  exact ⟨#[], h, by constructor, fun pos cv e => by cases e⟩
def gcdB (K : PySem.W.Frag) : Bool := He.eqO (PySem.W.nsIn K mainGlobals "gcd") (some (some (.builtin "math.gcd")))
theorem gcdB_ok (X : K.In h) (G : h.Ns mainGlobals mg) (c : gcdB K = true) : mg "gcd" = some (.builtin "math.gcd") := PySem.W.mg_of X G (He.eqO_ok c)
/-- a def of the top, by its name and statement -/
def defOf (x : Str) (st : Stmt) (dfl : List He.Dv := []) : He.DefD := ⟨(x, none), x, x, defArgs st, defBody st, defScope st, dfl, []⟩
end
end LW

namespace LW
open PySem PySem.Spec PyProof.Rows L2
/-! ### mirrors that look at few slots: what they answer on a small state they answer on each that agrees with it -/
structure Ag (J : Nat → Bool) (jx : Nat) (e0 e : LEnv) : Prop where
  len : e0.length = e.length
  own0 : ∀ (i : Nat) m ds, e0[i]? = some (some (.ow m ds)) → i = 1
  own : ∀ (i : Nat) m ds, e[i]? = some (some (.ow m ds)) → i = 1
  var : ∀ (i : Nat) s, J i = false → e0[i]? = some (some s) → e[i]? = some (some s)
  hj : ∀ i, J i = true → J jx = true
  ix : ∀ i, J i = true → i ≠ jx → ∃ (l0 l : List PyData) (n0 n : Nat), e0[i]? = some (some (.sh (.list l0))) ∧ e[i]? = some (some (.sh (.list l))) ∧ e0[jx]? = some (some (.sh (.int (.ofNat n0)))) ∧ e[jx]? = some (some (.sh (.int (.ofNat n)))) ∧ ∀ d, l0[n0]? = some d → l[n]? = some d
def AgR {α : Type} (e0 e : LEnv) : RE α → RE α → Prop
  | .ok p, r => p.1 = e0 ∧ r = .ok (e, p.2)
  | .rai c, r => r = .rai c
  | .stuck, _ => True
theorem AgR.bind {α β : Type} {e0 e : LEnv} {r r' : RE α} {k k' : LEnv × α → RE β} (h : AgR e0 e r r') (hk : ∀ a, AgR e0 e (k (e0, a)) (k' (e, a))) : AgR e0 e (r.bind k) (r'.bind k') := by
  cases r with
  | ok p =>
    obtain ⟨q, a⟩ := p
    obtain ⟨h1, h2⟩ := h
    have h1 : q = e0 := h1
    rw [h2, h1]
    exact hk a
  | rai c =>
    have h : r' = .rai c := h
    rw [h]
    exact (rfl : (R.rai c : RE β) = .rai c)
  | stuck => exact trivial
theorem AgR.pure {α : Type} {e0 e : LEnv} (a : α) : AgR e0 e (.ok (e0, a)) (.ok (e, a)) := ⟨rfl, rfl⟩
theorem AgR.lif {α : Type} {e0 e : LEnv} (r : R α) : AgR e0 e (lif e0 r) (lif e r) := by
  cases r with
  | ok a => exact ⟨rfl, rfl⟩
  | rai c => exact (rfl : (R.rai c : RE α) = .rai c)
  | stuck => exact trivial
theorem AgR.gd {α : Type} {e0 e : LEnv} {c : Bool} {r r' : RE α} (h : AgR e0 e r r') : AgR e0 e (gd c r) (gd c r') := by
  cases c with
  | true => exact h
  | false => exact trivial
theorem AgR.stuck {α : Type} {e0 e : LEnv} {r : RE α} : AgR e0 e .stuck r := trivial
class Lc (J : Nat → Bool) (jx : Nat) {α : Type} (f : LEnv → RE α) : Prop where
  run : ∀ e0 e, Ag J jx e0 e → AgR e0 e (f e0) (f e)
class JF (J : Nat → Bool) (i : Nat) : Prop where
  eq : J i = false
class JT (J : Nat → Bool) (jx i : Nat) : Prop where
  eq : J i = true
  ne : i ≠ jx
section
variable {J : Nat → Bool} {jx : Nat} {f g h : M} {ma : MA} {mt mu : MT} {e0 e : LEnv}
instance lc_c {d : PyData} : Lc J jx (mC d) := ⟨fun e0 e _ => .pure d⟩
instance lc_var {i : Nat} [JF J i] : Lc J jx (mVar i) := ⟨fun e0 e S => by
  unfold mVar
  rw [nth_eq, nth_eq]
  cases q : e0[i]? with
  | none => exact .stuck
  | some o =>
    cases o with
    | none => exact .stuck
    | some s =>
      rw [S.var i s JF.eq q]
      cases s with
      | sh d => exact .pure d
      | ow m ds => exact .stuck⟩
instance lc_op {op : PyData → PyData → R PyData} [Lc J jx f] [Lc J jx g] : Lc J jx (mOp op f g) := ⟨fun e0 e S => (Lc.run (f := f) e0 e S).bind fun a => (Lc.run (f := g) e0 e S).bind fun b => .lif _⟩
instance lc_un {op : PyData → R PyData} [Lc J jx f] : Lc J jx (mUn op f) := ⟨fun e0 e S => (Lc.run (f := f) e0 e S).bind fun a => .lif _⟩
instance lc_nil : Lc J jx maNil := ⟨fun e0 e _ => .pure []⟩
instance lc_cons [Lc J jx f] [Lc J jx ma] : Lc J jx (maCons f ma) := ⟨fun e0 e S => (Lc.run (f := f) e0 e S).bind fun a => (Lc.run (f := ma) e0 e S).bind fun b => .pure _⟩
instance lc_tup [Lc J jx ma] : Lc J jx (mTup ma) := ⟨fun e0 e S => (Lc.run (f := ma) e0 e S).bind fun a => .gd (.pure _)⟩
instance lc_lst [Lc J jx ma] : Lc J jx (mLst ma) := ⟨fun e0 e S => (Lc.run (f := ma) e0 e S).bind fun a => .gd (.pure _)⟩
instance lc_tB [Lc J jx f] : Lc J jx (mtB f) := ⟨fun e0 e S => (Lc.run (f := f) e0 e S).bind fun a => by
  cases a with
  | bool b => exact .pure b
  | _ => exact .stuck⟩
instance lc_tru [Lc J jx f] : Lc J jx (mtTru f) := ⟨fun e0 e S => (Lc.run (f := f) e0 e S).bind fun a => .lif _⟩
instance lc_and [Lc J jx mt] [Lc J jx mu] : Lc J jx (mtAnd mt mu) := ⟨fun e0 e S => (Lc.run (f := mt) e0 e S).bind fun a => by
  cases a with
  | true => exact Lc.run (f := mu) e0 e S
  | false => exact .pure _⟩
instance lc_or [Lc J jx mt] [Lc J jx mu] : Lc J jx (mtOr mt mu) := ⟨fun e0 e S => (Lc.run (f := mt) e0 e S).bind fun a => by
  cases a with
  | false => exact Lc.run (f := mu) e0 e S
  | true => exact .pure _⟩
instance lc_not [Lc J jx mt] : Lc J jx (mtNot mt) := ⟨fun e0 e S => (Lc.run (f := mt) e0 e S).bind fun a => .pure _⟩
instance lc_if [Lc J jx mt] [Lc J jx f] [Lc J jx g] : Lc J jx (mIf mt f g) := ⟨fun e0 e S => (Lc.run (f := mt) e0 e S).bind fun a => by
  cases a with
  | true => exact Lc.run (f := f) e0 e S
  | false => exact Lc.run (f := g) e0 e S⟩
instance lc_chain {o o' : PyData → PyData → R PyData} [Lc J jx f] [Lc J jx g] [Lc J jx h] : Lc J jx (mChain o o' f g h) := ⟨fun e0 e S => (Lc.run (f := f) e0 e S).bind fun a => (Lc.run (f := g) e0 e S).bind fun b => (AgR.lif _).bind fun z => by
  cases z with
  | bool c =>
    cases c with
    | true => exact (Lc.run (f := h) e0 e S).bind fun u => .lif _
    | false => exact .pure _
  | _ => exact .stuck⟩
instance lc_ca {op : List PyData → R PyData} [Lc J jx ma] : Lc J jx (mCa op ma) := ⟨fun e0 e S => (Lc.run (f := ma) e0 e S).bind fun a => .lif _⟩
instance lc_call {n : Nat} {run : List PyData → R PyData} [Lc J jx ma] : Lc J jx (mCall n run ma) := ⟨fun e0 e S => (Lc.run (f := ma) e0 e S).bind fun a => .gd (.lif _)⟩
instance lc_miR {rg : List PyData → R (List PyData)} [Lc J jx ma] : Lc J jx (miR rg ma) := ⟨fun e0 e S => (Lc.run (f := ma) e0 e S).bind fun a => .lif _⟩
instance lc_miSeq [Lc J jx f] : Lc J jx (miSeq f) := ⟨fun e0 e S => (Lc.run (f := f) e0 e S).bind fun a => .lif _⟩
instance lc_yes : Lc J jx mtYes := ⟨fun e0 e S => .pure true⟩
instance lc_ixV {i : Nat} [JF J i] [Lc J jx g] : Lc J jx (mIxV i g) := ⟨fun e0 e S => by
  unfold mIxV
  rw [nth_eq, nth_eq]
  cases q : e0[i]? with
  | none => exact .stuck
  | some o =>
    cases o with
    | none => exact .stuck
    | some s =>
      have q2 := S.var i s JF.eq q
      rw [q2]
      refine (Lc.run (f := g) e0 e S).bind fun a => ?_
      show AgR e0 e (match nth e0 i with | some (some (.sh d)) => lif e0 (iIx d a) | some (some (.ow _ ds)) => (match a with | .int k => lif e0 (ixD k ds) | _ => .stuck) | _ => .stuck) (match nth e i with | some (some (.sh d)) => lif e (iIx d a) | some (some (.ow _ ds)) => (match a with | .int k => lif e (ixD k ds) | _ => .stuck) | _ => .stuck)
      rw [nth_eq, nth_eq, q, q2]
      cases s with
      | sh d => exact .lif _
      | ow m ds =>
        cases a with
        | int k => exact .lif _
        | _ => exact .stuck⟩
instance (priority := high) lc_ixJ {i : Nat} [JT J jx i] : Lc J jx (mIxV i (mVar jx)) := ⟨fun e0 e S => by
  obtain ⟨l0, l, n0, n, h1, h2, h3, h4, h5⟩ := S.ix i (JT.eq jx) (JT.ne J)
  unfold mIxV mVar
  rw [nth_eq, nth_eq, nth_eq, nth_eq, h1, h2, h3, h4]
  show AgR e0 e (match nth e0 i with | some (some (.sh d)) => lif e0 (iIx d (.int (.ofNat n0))) | some (some (.ow _ ds)) => lif e0 (ixD (.ofNat n0) ds) | _ => .stuck) (match nth e i with | some (some (.sh d)) => lif e (iIx d (.int (.ofNat n))) | some (some (.ow _ ds)) => lif e (ixD (.ofNat n) ds) | _ => .stuck)
  rw [nth_eq, nth_eq, h1, h2]
  show AgR e0 e (lif e0 (match nth l0 n0 with | some d => .ok d | none => .stuck)) (lif e (match nth l n with | some d => .ok d | none => .stuck))
  rw [nth_eq, nth_eq]
  cases q : l0[n0]? with
  | none => exact .stuck
  | some d => rw [h5 d q]; exact .lif _⟩
/-! comprehensions over one name -/
theorem Ag.set {v : Nat} {x : Option Sl} (S : Ag J jx e0 e) (hv : J v = false) (hx : ∀ m ds, x ≠ some (.ow m ds)) : Ag J jx (e0.set v x) (e.set v x) where
  len := by rw [List.length_set, List.length_set, S.len]
  own0 := fun i m ds q => by
    by_cases z : v = i
    · subst z
      by_cases hl : v < e0.length
      · rw [List.getElem?_set_self hl] at q
        exact absurd (Option.some.inj q) (hx m ds)
      · rw [List.getElem?_eq_none (by rw [List.length_set]; omega)] at q; cases q
    · rw [List.getElem?_set_ne z] at q; exact S.own0 i m ds q
  own := fun i m ds q => by
    by_cases z : v = i
    · subst z
      by_cases hl : v < e.length
      · rw [List.getElem?_set_self hl] at q
        exact absurd (Option.some.inj q) (hx m ds)
      · rw [List.getElem?_eq_none (by rw [List.length_set]; omega)] at q; cases q
    · rw [List.getElem?_set_ne z] at q; exact S.own i m ds q
  var := fun i s hi q => by
    by_cases z : v = i
    · subst z
      by_cases hl : v < e0.length
      · rw [List.getElem?_set_self hl] at q
        rw [List.getElem?_set_self (by rw [← S.len]; exact hl)]; exact q
      · rw [List.getElem?_eq_none (by rw [List.length_set]; omega)] at q; cases q
    · rw [List.getElem?_set_ne z] at q ⊢; exact S.var i s hi q
  hj := S.hj
  ix := fun i hi hne => by
    have n1 : v ≠ i := fun z => by rw [z, hi] at hv; cases hv
    have n2 : v ≠ jx := fun z => by rw [z, S.hj i hi] at hv; cases hv
    rw [List.getElem?_set_ne n1, List.getElem?_set_ne n1, List.getElem?_set_ne n2, List.getElem?_set_ne n2]
    exact S.ix i hi hne
class Ne1 (v : Nat) : Prop where
  ne : v ≠ 1
theorem restore_self {e : LEnv} {v : Nat} (ho : ∀ (i : Nat) m ds, e[i]? = some (some (.ow m ds)) → i = 1) (hv : v ≠ 1) : restore e (wipeE e [v]) [v] = e := by
  show ((e.set v none).set v (keepSh (nth e v))) = e
  rw [List.set_set, nth_eq]
  by_cases hl : v < e.length
  · apply List.ext_getElem?
    intro j
    by_cases z : v = j
    · subst z
      rw [List.getElem?_set_self hl]
      cases q : e[v]? with
      | none => rw [List.getElem?_eq_none_iff] at q; omega
      | some o =>
        cases o with
        | none => rfl
        | some s =>
          cases s with
          | sh d => rfl
          | ow m ds => exact absurd (ho v m ds q) hv
    · rw [List.getElem?_set_ne z]
  · exact List.set_eq_of_length_le (by omega)
theorem AgR.noRai {α : Type} {r r' : RE α} (h : AgR e0 e r r') : AgR e0 e (noRai r) (noRai r') := by
  cases r with
  | ok p => obtain ⟨h1, h2⟩ := h; rw [h2]; exact ⟨h1, rfl⟩
  | rai c => exact .stuck
  | stuck => exact .stuck
theorem compL_ag {v : Nat} (hv : J v = false) [Lc J jx mt] [Lc J jx f] : ∀ (l : List PyData) (e0 e : LEnv), Ag J jx e0 e → e0 = e0.set v none → e = e.set v none → AgR e0 e (compL [v] (bName v) mt f l e0) (compL [v] (bName v) mt f l e)
  | [], e0, e, S, _, _ => .pure []
  | d :: r, e0, e, S, h0, h1 => by
    have S1 := S.set (x := some (.sh d)) hv (fun _ _ z => by cases z)
    have w0 : wipeE (e0.set v (some (.sh d))) [v] = e0 := by show (e0.set v (some (.sh d))).set v none = e0; rw [List.set_set]; exact h0.symm
    have w1 : wipeE (e.set v (some (.sh d))) [v] = e := by show (e.set v (some (.sh d))).set v none = e; rw [List.set_set]; exact h1.symm
    have ih := compL_ag hv r e0 e S h0 h1
    show AgR e0 e ((LW.noRai (mt (e0.set v (some (.sh d))))).bind _) ((LW.noRai (mt (e.set v (some (.sh d))))).bind _)
    have a := (Lc.run (f := mt) _ _ S1).noRai
    cases q : LW.noRai (mt (e0.set v (some (.sh d)))) with
    | ok p =>
      rw [q] at a
      obtain ⟨p1, b⟩ := p
      obtain ⟨a1, a2⟩ := a
      have a1 : p1 = e0.set v (some (.sh d)) := a1
      rw [a2, a1]
      cases b with
      | true =>
        show AgR e0 e ((LW.noRai (f (e0.set v (some (.sh d))))).bind _) ((LW.noRai (f (e.set v (some (.sh d))))).bind _)
        have c := (Lc.run (f := f) _ _ S1).noRai
        cases q2 : LW.noRai (f (e0.set v (some (.sh d)))) with
        | ok p =>
          rw [q2] at c
          obtain ⟨p2, y⟩ := p
          obtain ⟨c1, c2⟩ := c
          have c1 : p2 = e0.set v (some (.sh d)) := c1
          rw [c2, c1]
          show AgR e0 e ((compL [v] (bName v) mt f r (wipeE (e0.set v (some (.sh d))) [v])).bind _) ((compL [v] (bName v) mt f r (wipeE (e.set v (some (.sh d))) [v])).bind _)
          rw [w0, w1]
          exact ih.bind fun z => .pure _
        | rai c' => rw [q2] at c; exact (show AgR e0 e (R.rai c') _ from by have c : LW.noRai (f (e.set v (some (.sh d)))) = .rai c' := c; rw [c]; exact rfl)
        | stuck => exact .stuck
      | false =>
        show AgR e0 e (compL [v] (bName v) mt f r (wipeE (e0.set v (some (.sh d))) [v])) (compL [v] (bName v) mt f r (wipeE (e.set v (some (.sh d))) [v]))
        rw [w0, w1]
        exact ih
    | rai c' => rw [q] at a; exact (show AgR e0 e (R.rai c') _ from by have a : LW.noRai (mt (e.set v (some (.sh d)))) = .rai c' := a; rw [a]; exact rfl)
    | stuck => exact .stuck
instance lc_comp {v : Nat} [JF J v] [Ne1 v] [Lc J jx ma] [Lc J jx mt] [Lc J jx f] : Lc J jx (mComp [v] ma (bName v) mt f) := ⟨fun e0 e S => (Lc.run (f := ma) e0 e S).bind fun a => .gd (by
  have hv : J v = false := JF.eq
  have S1 := S.set (x := none) hv (fun _ _ z => by cases z)
  have c := compL_ag (mt := mt) (f := f) hv a _ _ S1 (by rw [List.set_set]) (by rw [List.set_set])
  show AgR e0 e ((compL [v] (bName v) mt f a (e0.set v none)).bind _) ((compL [v] (bName v) mt f a (e.set v none)).bind _)
  cases q : compL [v] (bName v) mt f a (e0.set v none) with
  | ok p =>
    rw [q] at c
    obtain ⟨p1, y⟩ := p
    obtain ⟨c1, c2⟩ := c
    have c1 : p1 = e0.set v none := c1
    rw [c2, c1]
    refine ⟨restore_self S.own0 Ne1.ne, ?_⟩
    show (R.ok (restore e (wipeE e [v]) [v], PyData.list y) : RE PyData) = .ok (e, .list y)
    rw [restore_self S.own Ne1.ne]
  | rai c' => rw [q] at c; have c : compL [v] (bName v) mt f a (e.set v none) = .rai c' := c; rw [c]; exact (rfl : (R.rai c' : RE PyData) = _)
  | stuck => exact .stuck)⟩
/-! statements by what their small state says -/
theorem if_no {cnd : MT} {a : MS} [Lc J jx cnd] (S : Ag J jx e0 e) {e1 : LEnv} (h : cnd e0 = .ok (e1, false)) : mIfS cnd a mNext e = .nx e := by
  have := Lc.run (f := cnd) e0 e S
  rw [h] at this
  unfold mIfS
  rw [this.2]
  rfl
theorem asg_by {i : Nat} [Lc J jx f] (S : Ag J jx e0 e) {e1 : LEnv} {d : PyData} (h : f e0 = .ok (e1, d)) : mAsg (bName i) f e = .nx (e.set i (some (.sh d))) := by
  have := Lc.run (f := f) e0 e S
  rw [h] at this
  unfold mAsg
  rw [this.2]
  rfl
end
end LW

namespace LW
open PySem PySem.Spec PyProof.Rows L2
section
variable {K : PySem.W.Frag} {mu : Mu} {G0 H0 G H G' H' H1 : Hp} {env env' : LEnv} {σ σ' : L2.St} {C : Cl} {E : XK} {X : Cx}
/-! ### math.comb, math.perm -/
def rComb : List V → Hp → VK → Prop := fun vs H Q => ∃ a b : Int, vs = [.int a, .int b] ∧ 0 ≤ a ∧ 0 ≤ b ∧ a < 9000 ∧ Q (.int (PySem.W.mcComb a b)) H
theorem cr_comb : CallR X (.builtin "math.comb") rComb := by
  intro pins s σ H vs us Q I r h
  obtain ⟨a, b, rfl, ha, hb, hl, q⟩ := h
  obtain ⟨t, u, rfl⟩ := Vals.int2 r
  exact PySem.W.mc_comb ha hb (by omega) (.inr (by omega)) fun _ => ⟨.int _, H, I.tok _, ⟨_, rfl⟩, q⟩
def rPerm : List V → Hp → VK → Prop := fun vs H Q => ∃ a b : Int, vs = [.int a, .int b] ∧ 0 ≤ a ∧ 0 ≤ b ∧ a < 9000 ∧ b < 9000 ∧ Q (.int (PySem.W.mcPerm a b)) H
theorem cr_perm : CallR X (.builtin "math.perm") rPerm := by
  intro pins s σ H vs us Q I r h
  obtain ⟨a, b, rfl, ha, hb, hl, hl2, q⟩ := h
  obtain ⟨t, u, rfl⟩ := Vals.int2 r
  exact PySem.W.mc_perm ha hb (by omega) (by omega) fun _ => ⟨.int _, H, I.tok _, ⟨_, rfl⟩, q⟩
/-- from nought, below nine thousand -/
def nat9 (a : Int) : Bool := match a with
  | .ofNat n => Nat.blt n 9000
  | _ => false
theorem nat9_ok {a : Int} (h : nat9 a = true) : 0 ≤ a ∧ a < 9000 := by
  match a, h with
  | .ofNat n, h =>
    have : n < 9000 := Nat.le_of_ble_eq_true h
    exact ⟨Int.natCast_nonneg n, by show (n : Int) < 9000; omega⟩
def cComb : List PyData → R PyData
  | [.int a, .int b] => gd (nat9 a && nat9 b) (.ok (.int (PySem.W.mcComb a b)))
  | _ => .stuck
def cPerm : List PyData → R PyData
  | [.int a, .int b] => gd (nat9 a && nat9 b) (.ok (.int (PySem.W.mcPerm a b)))
  | _ => .stuck
theorem cas_comb : CaS K C E rComb cComb := by
  intro mu G0 H0 env σ G H xs ds Q S r h
  cases r with
  | nil => exact h.elim
  | cons r1 r2 =>
    cases r2 with
    | nil => cases r1 <;> exact h.elim
    | cons r2 r3 =>
      cases r3 with
      | cons _ _ => cases r1 <;> cases r2 <;> exact h.elim
      | nil =>
        cases r1 <;> cases r2 <;> first | exact h.elim | skip
        obtain ⟨c, h⟩ := Post.gdL h
        obtain ⟨c1, c2⟩ := Bool.and_eq_true_iff.mp c
        exact ⟨_, _, rfl, (nat9_ok c1).1, (nat9_ok c2).1, (nat9_ok c1).2, post_here S h (.int _)⟩
theorem cas_perm : CaS K C E rPerm cPerm := by
  intro mu G0 H0 env σ G H xs ds Q S r h
  cases r with
  | nil => exact h.elim
  | cons r1 r2 =>
    cases r2 with
    | nil => cases r1 <;> exact h.elim
    | cons r2 r3 =>
      cases r3 with
      | cons _ _ => cases r1 <;> cases r2 <;> exact h.elim
      | nil =>
        cases r1 <;> cases r2 <;> first | exact h.elim | skip
        obtain ⟨c, h⟩ := Post.gdL h
        obtain ⟨c1, c2⟩ := Bool.and_eq_true_iff.mp c
        exact ⟨_, _, rfl, (nat9_ok c1).1, (nat9_ok c2).1, (nat9_ok c1).2, (nat9_ok c2).2, post_here S h (.int _)⟩
/-! ### list(xs), tuple(xs) -/
abbrev rListOf (K : PySem.W.Frag) : List V → Hp → VK → Prop := fun xs H Q => ∃ p ys, xs = [.ref p] ∧ (SqL K H p ys ∨ SqT K H p ys) ∧ ∀ l, H l = none → Q (.ref l) (upd H l (.lst ys))
abbrev rTupOf (K : PySem.W.Frag) : List V → Hp → VK → Prop := fun xs H Q => ∃ p ys, xs = [.ref p] ∧ ((SqL K H p ys ∧ ∀ l o, H l = none → o.cls = .type "tuple" → o.dict = none → Q (.ref l) (upd H l (.frz o (.tup ys)))) ∨ (SqT K H p ys ∧ Q (.ref p) H))
theorem call_tupleF : CallR X (.type "tuple") (rTupOf X.K) := by
  intro pn st σ H xs us Q I r h
  obtain ⟨p, ys, rfl, h⟩ := h
  obtain ⟨u, rfl, rx⟩ := vals1 r
  cases rx
  rcases h with ⟨hk, q⟩ | ⟨hk, q⟩
  · obtain ⟨is1, rv, pz, hl⟩ := I.list hk
    have hlen := rv.length
    refine call_tuple_list pz.isList (fun h' kk => ?_) (by simp only [List.size_toArray] <;> omega)
    have Ia : Inv X pn σ H { st with heap := h' } := I.kept (t' := st.toks) kk
    have Ib : Inv X pn σ (upd H h'.objs.size (.frz { cls := .type "tuple", data := .seq is1.toArray } (.tup ys))) { st with heap := h'.push { cls := .type "tuple", data := .seq is1.toArray } } :=
      Ia.laid (t' := st.toks) (fun b o e => Heap.get?_push_of_some _ e) (Nat.le_refl _) (show ObjOk X.prog X.w _ _ _ (.frz _ (.tup ys)) from ⟨Heap.get?_push_size _ rfl, hl, is1, rv, IsTup.new _ _⟩)
    exact ⟨.ref h'.objs.size, _, Ib, rfl, q _ _ (Ia.hok.fresh (Nat.le_refl _)) rfl rfl⟩
  · obtain ⟨is1, rv, pz, hl⟩ := I.tuple hk
    exact call_tuple_same pz ⟨.ref p, H, I, rfl, q⟩
def cListOf : List PyData → R PyData
  | [.list ds] => .ok (.list ds)
  | [.tuple ds] => .ok (.list ds)
  | _ => .stuck
def cTupOf : List PyData → R PyData
  | [.list ds] => .ok (.tuple ds)
  | [.tuple ds] => .ok (.tuple ds)
  | _ => .stuck
theorem cas_listOf : CaS K C E (rListOf K) cListOf := by
  intro mu G0 H0 env σ G H xs ds Q S r h
  cases r with
  | nil => exact h.elim
  | cons r1 r2 =>
    cases r2 with
    | cons _ _ => cases r1 <;> exact h.elim
    | nil =>
      cases r1 with
      | lst a b => exact ⟨_, _, rfl, .inl (SqL.of (S.sub _ _ a)), fun p hp => post_new S h hp _ nt_lst (.lst upd_same (RpA.mono (same_new (S.sub.free hp)) _ _ b))⟩
      | tup a b => exact ⟨_, _, rfl, .inr (sqt_same S.sub a), fun p hp => post_new S h hp _ nt_lst (.lst upd_same (RpA.mono (same_new (S.sub.free hp)) _ _ b))⟩
      | _ => exact h.elim
theorem cas_tupOf : CaS K C E (rTupOf K) cTupOf := by
  intro mu G0 H0 env σ G H xs ds Q S r h
  cases r with
  | nil => exact h.elim
  | cons r1 r2 =>
    cases r2 with
    | cons _ _ => cases r1 <;> exact h.elim
    | nil =>
      cases r1 with
      | lst a b => exact ⟨_, _, rfl, .inl ⟨SqL.of (S.sub _ _ a), fun p o hp hc hd => post_new S h hp _ nt_frz (.tup (tpt_new hc hd) (RpA.mono (same_new (S.sub.free hp)) _ _ b))⟩⟩
      | tup a b => exact ⟨_, _, rfl, .inr ⟨sqt_same S.sub a, post_here S h (.tup a b)⟩⟩
      | _ => exact h.elim
/-! ### sum, max of a list of ints -/
def intsOf : List PyData → Option (List Int)
  | [] => some []
  | .int i :: r => (match intsOf r with
    | some l => some (i :: l)
    | none => none)
  | _ => none
theorem intsOf_eq : ∀ {ds : List PyData} {is : List Int}, intsOf ds = some is → ds = intsD is
  | [], is, h => by cases h; rfl
  | d :: r, is, h => by
    cases d with
    | int i =>
      unfold intsOf at h
      cases e : intsOf r with
      | none => rw [e] at h; cases h
      | some l => rw [e] at h; cases h; rw [intsOf_eq e]; rfl
    | _ => cases h
def sumI : List Int → Int
  | [] => 0
  | i :: r => i + sumI r
theorem sumI_eq : ∀ (l : List Int), sumI l = l.sum
  | [] => rfl
  | i :: r => by rw [List.sum_cons, ← sumI_eq r]; rfl
def cSum : List PyData → R PyData
  | [.list ds] => (match intsOf ds with
    | some l => .ok (.int (sumI l))
    | none => .stuck)
  | _ => .stuck
theorem cas_sum : CaS K C E (rSum K) cSum := by
  intro mu G0 H0 env σ G H xs ds Q S r h
  cases r with
  | nil => exact h.elim
  | cons r1 r2 =>
    cases r2 with
    | cons _ _ => cases r1 <;> exact h.elim
    | nil =>
      cases r1 with
      | lst a b =>
        rename_i p vs es
        cases e : intsOf es with
        | none => simp only [cSum, e] at h; exact h.elim
        | some l =>
          simp only [cSum, e] at h
          have eb := intsOf_eq e
          subst eb
          refine ⟨_, l, rfl, ?_, ?_⟩
          · rw [← rpa_ints l _ b]; exact SqL.of (S.sub _ _ a)
          · rw [← sumI_eq]; exact post_here S h (.int _)
      | _ => exact h.elim
end
end LW

namespace LW
open PySem PySem.Spec PyProof.Rows L2
section
variable {K : PySem.W.Frag} {mu : Mu} {G0 H0 G H G' H' H1 : Hp} {env env' : LEnv} {σ σ' : L2.St} {C : Cl} {E : XK} {X : Cx}
/-! ### max of a list of ints, min and max of two -/
def maxI : List Int → Int → Int
  | [], m => m
  | i :: r, m => maxI r (bif decide (m < i) then i else m)
theorem maxI_mem : ∀ (l : List Int) (m : Int), maxI l m ∈ m :: l
  | [], m => List.mem_singleton.mpr rfl
  | i :: r, m => by
    have h := maxI_mem r (bif decide (m < i) then i else m)
    show maxI r (bif decide (m < i) then i else m) ∈ m :: i :: r
    rcases List.mem_cons.mp h with h | h
    · rw [h]
      cases decide (m < i) with
      | true => exact List.mem_cons_of_mem _ List.mem_cons_self
      | false => exact List.mem_cons_self
    · exact List.mem_cons_of_mem _ (List.mem_cons_of_mem _ h)
theorem maxI_ge : ∀ (l : List Int) (m : Int), m ≤ maxI l m ∧ ∀ x ∈ l, x ≤ maxI l m
  | [], m => ⟨Int.le_refl _, fun x h => by cases h⟩
  | i :: r, m => by
    obtain ⟨h1, h2⟩ := maxI_ge r (bif decide (m < i) then i else m)
    have h3 : m ≤ (bif decide (m < i) then i else m) ∧ i ≤ (bif decide (m < i) then i else m) := by
      by_cases h : m < i
      · rw [decide_eq_true h]; simp only [cond_true]; omega
      · rw [decide_eq_false h]; simp only [cond_false]; omega
    show m ≤ maxI r _ ∧ ∀ x ∈ i :: r, x ≤ maxI r _
    refine ⟨by omega, fun x hx => ?_⟩
    rcases List.mem_cons.mp hx with rfl | hx
    · omega
    · exact h2 x hx
def cMax : List PyData → R PyData
  | [.list ds] => (match intsOf ds with
    | some (i :: l) => .ok (.int (maxI l i))
    | _ => .stuck)
  | [.int i, .int j] => .ok (.int (bif decide (i < j) then j else i))
  | _ => .stuck
def cMin : List PyData → R PyData
  | [.int i, .int j] => .ok (.int (bif decide (j < i) then j else i))
  | _ => .stuck
abbrev rMax2 (K : PySem.W.Frag) : List V → Hp → VK → Prop := fun xs H Q => (∃ i j, xs = [.int i, .int j] ∧ Q (.int (if j > i then j else i)) H) ∨ rMax K xs H Q
theorem call_maxA (hc : X.calm = true) : CallR X (.builtin "max") (rMax2 X.K) := by
  intro pins s σ H vs us Q I r h
  rcases h with h | h
  · exact call_max2 hc pins s σ H vs us Q I r h
  · exact cr_max hc pins s σ H vs us Q I r h
theorem cas_max : CaS K C E (rMax2 K) cMax := by
  intro mu G0 H0 env σ G H xs ds Q S r h
  cases r with
  | nil => exact h.elim
  | cons r1 r2 =>
    cases r2 with
    | cons r2 r3 =>
      cases r3 with
      | cons _ _ => cases r1 <;> cases r2 <;> exact h.elim
      | nil =>
        cases r1 <;> cases r2 <;> first | exact h.elim | skip
        rename_i i j
        refine .inl ⟨i, j, rfl, ?_⟩
        have e : (if j > i then j else i) = (bif decide (i < j) then j else i) := by
          by_cases h : i < j
          · rw [if_pos h, decide_eq_true h]; rfl
          · rw [if_neg h, decide_eq_false h]; rfl
        rw [e]
        exact post_here S h (.int _)
    | nil =>
      cases r1 with
      | lst a b =>
        rename_i p vs es
        cases e : intsOf es with
        | none => simp only [cMax, e] at h; exact h.elim
        | some l =>
          cases l with
          | nil => simp only [cMax, e] at h; exact h.elim
          | cons i l =>
            simp only [cMax, e] at h
            have eb := intsOf_eq e
            subst eb
            refine .inr ⟨_, i :: l, rfl, ?_, by simp, fun m hm hy => ?_⟩
            · rw [← rpa_ints _ _ b]; exact SqL.of (S.sub _ _ a)
            · have h1 := hy _ (maxI_mem l i)
              have h2 : m ≤ maxI l i := by
                rcases List.mem_cons.mp hm with rfl | hm
                · exact (maxI_ge l m).1
                · exact (maxI_ge l i).2 m hm
              have e2 : m = maxI l i := by omega
              rw [e2]
              exact post_here S h (.int _)
      | _ => exact h.elim
abbrev rMin2 : List V → Hp → VK → Prop := fun xs H Q => ∃ i j, xs = [.int i, .int j] ∧ Q (.int (if j < i then j else i)) H
theorem cas_min : CaS K C E rMin2 cMin := by
  intro mu G0 H0 env σ G H xs ds Q S r h
  cases r with
  | nil => exact h.elim
  | cons r1 r2 =>
    cases r2 with
    | nil => cases r1 <;> exact h.elim
    | cons r2 r3 =>
      cases r3 with
      | cons _ _ => cases r1 <;> cases r2 <;> exact h.elim
      | nil =>
        cases r1 <;> cases r2 <;> first | exact h.elim | skip
        rename_i i j
        refine ⟨i, j, rfl, ?_⟩
        have e : (if j < i then j else i) = (bif decide (j < i) then j else i) := by
          by_cases h : j < i
          · rw [if_pos h, decide_eq_true h]; rfl
          · rw [if_neg h, decide_eq_false h]; rfl
        rw [e]
        exact post_here S h (.int _)
/-! ### slices -/
def cutD (xs : List PyData) (lo hi : Option Int) : List PyData := (xs.drop (HT.sIx xs.length 0 lo)).take (HT.sIx xs.length xs.length hi - HT.sIx xs.length 0 lo)
theorem RpA.cut {vs : List V} {ds : List PyData} (h : RpA K G vs ds) (lo hi : Option Int) : RpA K G (cutV vs lo hi) (cutD ds lo hi) := by
  unfold cutV cutD
  rw [h.length]
  exact (h.drop _).take _
theorem cutD_whole {ds : List PyData} {lo hi : Option Int} (h : HT.sIx ds.length 0 lo = 0 ∧ HT.sIx ds.length ds.length hi = ds.length) : cutD ds lo hi = ds := by
  unfold cutD
  rw [h.1, h.2, List.drop_zero, Nat.sub_zero, List.take_length]
def iSl : PyData → Option Int → Option Int → R PyData
  | .list ds, lo, hi => .ok (.list (cutD ds lo hi))
  | .tuple ds, lo, hi => .ok (.tuple (cutD ds lo hi))
  | _, _, _ => .stuck
def rSlF (K : PySem.W.Frag) : V → Option Int → Option Int → Hp → VK → Prop := fun x lo hi H Q => ∃ a xs, x = .ref a ∧ SqT K H a xs ∧
  (HT.sIx xs.length 0 lo = 0 ∧ HT.sIx xs.length xs.length hi = xs.length → Q (.ref a) H) ∧ (¬ (HT.sIx xs.length 0 lo = 0 ∧ HT.sIx xs.length xs.length hi = xs.length) → ∀ p o, H p = none → o.cls = .type "tuple" → o.dict = none → Q (.ref p) (upd H p (.frz o (.tup (cutV xs lo hi)))))
theorem sl_tupF : SlR X (rSlF X.K) := by
  intro pn st σ H x v vl vu lo hi sl Q I rx hs pl pu h
  obtain ⟨a, xs, rfl, hs1, k1, k2⟩ := h
  cases rx
  obtain ⟨is1, rv, ht, hz⟩ := I.tuple hs1
  have hle : is1.toArray.size = xs.length := by rw [List.size_toArray]; exact rv.length.symm
  refine ⟨"tuple", _, PyProof.Rows.slot_tuple_getitem.lookup, ht.typeIs, ?_⟩
  by_cases hv : HT.sIx xs.length 0 lo = 0 ∧ HT.sIx xs.length xs.length hi = xs.length
  · exact getItem_tuple_whole ht hs pl pu (by rw [hle]; exact hv) ⟨.ref a, H, I, rfl, k1 hv⟩
  · refine HT.getItem_tuple_cut ht hs pl pu (by rw [hle]; exact hv) ?_ (by rw [hle]; exact hz)
    rw [hle]
    refine ⟨.ref st.heap.objs.size, _, I.laid (t' := st.toks) (o := .frz { cls := .type "tuple", data := .seq (List.take (HT.sIx xs.length xs.length hi - HT.sIx xs.length 0 lo) (List.drop (HT.sIx xs.length 0 lo) is1)).toArray } (.tup (cutV xs lo hi))) (fun b ob q => Heap.get?_push_of_some _ q) (Nat.le_refl _) ?_, rfl, k2 hv _ _ (I.hok.fresh (Nat.le_refl _)) rfl rfl⟩
    exact ⟨Heap.get?_push_size _ rfl, Nat.le_trans (cutV_length xs lo hi) hz, _, (rv.drop (HT.sIx xs.length 0 lo)).take (HT.sIx xs.length xs.length hi - HT.sIx xs.length 0 lo), IsTup.new _ _⟩
def rSl2 (K : PySem.W.Frag) : V → Option Int → Option Int → Hp → VK → Prop := fun x lo hi H Q => rSlL K x lo hi H Q ∨ rSlF K x lo hi H Q
theorem sl2 : SlR X (rSl2 X.K) := SlR.or sl_list sl_tupF
abbrev MP := LEnv → RE (Option Int)
def mNoPart : MP := fun env => .ok (env, none)
def mPart (g : M) : MP := fun env => (g env).bind fun p => match p.2 with
  | .int i => .ok (p.1, some i)
  | _ => .stuck
abbrev RlP : Hp → Option Int → Option Int → Prop := fun _ a b => a = b
def SndP (K : PySem.W.Frag) (C : Cl) (E : XK) (t : TO) (m : MP) : Prop := ∀ mu G0 H0 env σ G H Q, StR K C mu G0 H0 env σ G H → Post RlP K C E mu G0 H0 σ G (m env) Q → t σ H Q
theorem sndp_no : SndP K C E tNoPart mNoPart := by
  intro mu G0 H0 env σ G H Q S h
  exact post_here S h rfl
theorem sndp_some {te : TE} {g : M} (hg : Snd K C E te g) : SndP K C E (tPart te) (mPart g) := by
  intro mu G0 H0 env σ G H Q S hh
  refine hg _ _ _ _ _ _ _ _ S (hh.bind fun p x G1 H1 S1 s1 r1 h1 => ?_)
  obtain ⟨e, d⟩ := p
  cases r1 <;> first | exact h1.elim | exact ⟨_, rfl, post_here S1 h1 rfl⟩
def mSl (f : M) (lo hi : MP) : M := fun env => (f env).bind fun p => (lo p.1).bind fun q => (hi q.1).bind fun r => lif r.1 (iSl p.2 q.2 r.2)
theorem snd_sl {te : TE} {f : M} {tl th : TO} {lo hi : MP} (hf : Snd K C E te f) (hl : SndP K C E tl lo) (hh : SndP K C E th hi) : Snd K C E (tSl (rSl2 K) te tl th) (mSl f lo hi) := by
  intro mu G0 H0 env σ G H Q S h
  refine hf _ _ _ _ _ _ _ _ S (h.bind fun p x G1 H1 S1 s1 r1 h1 => ?_)
  obtain ⟨e1, d⟩ := p
  refine hl _ _ _ _ _ _ _ _ S1 (h1.bind fun q o G2 H2 S2 s2 r2 h2 => ?_)
  obtain ⟨e2, o2⟩ := q
  refine hh _ _ _ _ _ _ _ _ S2 (h2.bind fun q o3 G3 H3 S3 s3 r3 h3 => ?_)
  obtain ⟨e3, o4⟩ := q
  have r2 : o = o2 := r2
  have r3 : o3 = o4 := r3
  subst r2
  subst r3
  have r1 : Rp K G3 x d := Rp.mono (s2.trans s3) _ _ r1
  cases r1 with
  | lst a b =>
    exact .inl ⟨_, _, rfl, SqL.of (S3.sub _ _ a), fun p hp => post_new S3 h3 hp _ nt_lst (.lst upd_same (RpA.mono (same_new (S3.sub.free hp)) _ _ (b.cut _ _)))⟩
  | tup a b =>
    refine .inr ⟨_, _, rfl, sqt_same S3.sub a, fun w => ?_, fun w p o hp hc hd => ?_⟩
    · rw [b.length] at w
      have h3 : Post (RlE K) K C E mu G0 H0 σ G3 (.ok (e3, .tuple (cutD _ o o3))) Q := h3
      rw [cutD_whole w] at h3
      exact post_here S3 h3 (.tup a b)
    · exact post_new S3 h3 hp _ nt_frz (.tup (tpt_new hc hd) (RpA.mono (same_new (S3.sub.free hp)) _ _ (b.cut _ _)))
  | _ => exact h3.elim
structure PD (X : Cx) (C : Cl) (E : XK) (e : Option Expr) (t : TO) (m : MP) : Prop where
  pe : PO X e t
  sd : SndP X.K C E t m
theorem p_no : PD X C E none tNoPart mNoPart := ⟨po_none, sndp_no⟩
theorem p_some {e : Expr} {te : TE} {g : M} (h : ED X C E e te g) : PD X C E (some e) (tPart te) (mPart g) := ⟨po_some h.pe, sndp_some h.sd⟩
theorem d_slice {e : Expr} {lo hi : Option Expr} {te : TE} {f : M} {tl th : TO} {ml mh : MP} {pos p2 : Pos} (he : ED X C E e te f) (hl : PD X C E lo tl ml) (hh : PD X C E hi th mh) : ED X C E (.Subscript e (.Slice lo hi none p2) pos) (tSl (rSl2 X.K) te tl th) (mSl f ml mh) :=
  ⟨pe_slice sl2 he.pe hl.pe hh.pe, snd_sl he.sd hl.sd hh.sd⟩
end
end LW

namespace LW
open PySem PySem.Spec PyProof.Rows L2
section
variable {K : PySem.W.Frag} {mu : Mu} {G0 H0 G H G' H' H1 : Hp} {env env' : LEnv} {σ σ' : L2.St} {C : Cl} {E : XK} {X : Cx}
/-! ### list(range(n)), list(range(i, j)) -/
theorem rg_up (a b : Int) : rgV a b = upV a (b - a).toNat := by
  apply List.ext_getElem?
  intro i
  by_cases h : i < (b - a).toNat
  · rw [upV_get a _ i h]
    unfold rgV
    rw [List.getElem?_map, List.getElem?_range h]
    rfl
  · rw [List.getElem?_eq_none (by rw [rgV_length]; omega), List.getElem?_eq_none (by rw [upV_length]; omega)]
def mLiR1 (f : M) : M := fun env => (f env).bind fun p => match p.2 with
  | .int j => gd (near j) (.ok (p.1, .list (upFrom 0 j.toNat)))
  | _ => .stuck
def mLiR2 (f g : M) : M := fun env => (f env).bind fun p => (g p.1).bind fun q => match p.2, q.2 with
  | .int i, .int j => gd (near i && near j) (.ok (q.1, .list (upFrom i (j - i).toNat)))
  | _, _ => .stuck
theorem rgok {i j : Int} (h1 : near i = true) (h2 : near j = true) : RgOk i j := by
  have a := near_is h1
  have b := near_is h2
  exact ⟨by omega, by omega, by omega, by omega, by omega⟩
theorem snd_liR1 {ta : TE} {f : M} (h : Snd K C E ta f) : Snd K C E (tLstRg (tRg1 ta)) (mLiR1 f) := by
  intro mu G0 H0 env σ G H Q S hh
  refine h _ _ _ _ _ _ _ _ S (hh.bind fun p x G1 H1 S1 s1 r1 h1 => ?_)
  obtain ⟨e, d⟩ := p
  cases r1 <;> first | exact h1.elim | skip
  rename_i n
  obtain ⟨c, h1⟩ := Post.gd h1
  refine ⟨n, rfl, rgok rfl c, fun q hq => ?_⟩
  rw [rg_up, Int.sub_zero]
  exact post_new S1 h1 hq _ nt_lst (.lst upd_same (rpa_up 0 n.toNat))
theorem snd_liR2 {ta tb : TE} {f g : M} (hf : Snd K C E ta f) (hg : Snd K C E tb g) : Snd K C E (tLstRg (tRg2 ta tb)) (mLiR2 f g) := by
  intro mu G0 H0 env σ G H Q S hh
  refine hf _ _ _ _ _ _ _ _ S (hh.bind fun p x G1 H1 S1 s1 r1 h1 => ?_)
  obtain ⟨e, d⟩ := p
  refine hg _ _ _ _ _ _ _ _ S1 (h1.bind fun q y G2 H2 S2 s2 r2 h2 => ?_)
  obtain ⟨e2, d2⟩ := q
  cases r1 <;> cases r2 <;> first | exact h2.elim | skip
  rename_i i j
  obtain ⟨c, h2⟩ := Post.gd h2
  obtain ⟨c1, c2⟩ := Bool.and_eq_true_iff.mp c
  refine ⟨i, j, rfl, rfl, rgok c1 c2, fun q hq => ?_⟩
  rw [rg_up]
  exact post_new S2 h2 hq _ nt_lst (.lst upd_same (rpa_up i (j - i).toNat))
theorem d_liR1 {a : Expr} {ta : TE} {f : M} {p q pos pos2 : Pos} (hc : X.calm = true) (hgl : Gl X "list") (hml : X.mg "list" = none) (hg : Gl X "range") (hm : X.mg "range" = none) (h : ED X C E a ta f)
    (n1 : starEach [a] X.env = (false, eval a X.env) :: starEach [] X.env := by rfl) (n2 : starEach [Expr.Call (.Name "range" q) [a] [] pos2] X.env = (false, eval (Expr.Call (.Name "range" q) [a] [] pos2) X.env) :: starEach [] X.env := by rfl) :
    ED X C E (.Call (.Name "list" p) [.Call (.Name "range" q) [a] [] pos2] [] pos) (tLstRg (tRg1 ta)) (mLiR1 f) := ⟨pe_listRg hc hgl hml (prg_1 hg hm h.pe n1) n2, snd_liR1 h.sd⟩
theorem d_liR2 {a b : Expr} {ta tb : TE} {f g : M} {p q pos pos2 : Pos} (hc : X.calm = true) (hgl : Gl X "list") (hml : X.mg "list" = none) (hg : Gl X "range") (hm : X.mg "range" = none) (h : ED X C E a ta f) (h2 : ED X C E b tb g)
    (n1 : starEach [a, b] X.env = (false, eval a X.env) :: starEach [b] X.env := by rfl) (n2 : starEach [b] X.env = (false, eval b X.env) :: starEach [] X.env := by rfl) (n3 : (backTo pos2 (starEach [b] X.env)).any (·.1) = false := by rfl)
    (n4 : starEach [Expr.Call (.Name "range" q) [a, b] [] pos2] X.env = (false, eval (Expr.Call (.Name "range" q) [a, b] [] pos2) X.env) :: starEach [] X.env := by rfl) :
    ED X C E (.Call (.Name "list" p) [.Call (.Name "range" q) [a, b] [] pos2] [] pos) (tLstRg (tRg2 ta tb)) (mLiR2 f g) := ⟨pe_listRg hc hgl hml (prg_2 hg hm h.pe h2.pe n1 n2 n3) n4, snd_liR2 h.sd h2.sd⟩
/-! ### an int in a list or a tuple of ints -/
def hasI (i : Int) : List Int → Bool
  | [] => false
  | j :: r => (j == i) || hasI i r
theorem hasI_eq (i : Int) : ∀ (l : List Int), inV (.int i) (l.map V.int) = hasI i l
  | [] => rfl
  | j :: r => by
    have ih := hasI_eq i r
    unfold inV at ih ⊢
    rw [List.map_cons, List.any_cons, ih]
    rfl
theorem flat_ints : ∀ (l : List Int), (l.map V.int).all flatV = true
  | [] => rfl
  | i :: r => by rw [List.map_cons, List.all_cons, flat_ints r]; rfl
def iInF (neg : Bool) : PyData → PyData → R PyData
  | .int i, .list ds => (match intsOf ds with
    | some l => .ok (.bool (bif neg then !hasI i l else hasI i l))
    | none => .stuck)
  | .int i, .tuple ds => (match intsOf ds with
    | some l => .ok (.bool (bif neg then !hasI i l else hasI i l))
    | none => .stuck)
  | _, _ => .stuck
theorem if_b (neg a b : Bool) : (if neg then a else b) = (bif neg then a else b) := by cases neg <;> rfl
theorem ops_inF {neg : Bool} : OpS K C E (rIn K neg) (iInF neg) := by
  intro mu G0 H0 env σ G H x y dx dy Q S rx ry h
  cases rx with
  | int i =>
    cases ry with
    | lst a b =>
      rename_i p vs es
      cases e : intsOf es with
      | none => simp only [iInF, e] at h; exact h.elim
      | some l =>
        simp only [iInF, e] at h
        have eb := intsOf_eq e
        subst eb
        refine ⟨_, l.map V.int, rfl, .inl ?_, rfl, flat_ints l, ?_⟩
        · rw [← rpa_ints l _ b]; exact SqL.of (S.sub _ _ a)
        · rw [hasI_eq, if_b]; exact post_here S h (.bl _)
    | tup a b =>
      rename_i p vs es
      cases e : intsOf es with
      | none => simp only [iInF, e] at h; exact h.elim
      | some l =>
        simp only [iInF, e] at h
        have eb := intsOf_eq e
        subst eb
        refine ⟨_, l.map V.int, rfl, .inr ?_, rfl, flat_ints l, ?_⟩
        · rw [← rpa_ints l _ b]; exact sqt_same S.sub a
        · rw [hasI_eq, if_b]; exact post_here S h (.bl _)
    | _ => exact h.elim
  | _ => cases ry <;> exact h.elim
theorem t_inF {a b : Expr} {ta tb : TE} {f g : M} {pos : Pos} (ha : ED X C E a ta f) (hb : ED X C E b tb g) (hm : behindInMarks .In b = false := by rfl) : TD X C E (.Compare a [.In] [b] pos) (tTest (tOp (rIn X.K false) ta tb)) (mtB (mOp (iInF false) f g)) := t_cmpR op_in_seq ops_inF hm ha hb
theorem t_niF {a b : Expr} {ta tb : TE} {f g : M} {pos : Pos} (ha : ED X C E a ta f) (hb : ED X C E b tb g) (hm : behindInMarks .NotIn b = false := by rfl) : TD X C E (.Compare a [.NotIn] [b] pos) (tTest (tOp (rIn X.K true) ta tb)) (mtB (mOp (iInF true) f g)) := t_cmpR op_notIn_seq ops_inF hm ha hb
end
end LW

namespace LW
open PySem PySem.Spec PyProof.Rows L2
section
variable {K : PySem.W.Frag} {mu : Mu} {G0 H0 G H G' H' H1 : Hp} {env env' : LEnv} {σ σ' : L2.St} {C : Cl} {E : XK} {X : Cx}
/-! ### a new list for a slot of one's own -/
theorem StR.mk_own (S : StR K C mu G0 H0 env σ G H) {i : Nat} {p : Addr} {vs : List V} {ds : List PyData} (hi : i < env.length) (hp : H p = none) (r : RpA K G vs ds) : StR K C mu G0 H0 (env.set i (some (.ow false ds))) (σ.set i (some (.ref p))) G (upd H p (.lst vs)) := by
  have hσ : i < σ.length := by rw [← S.len]; exact hi
  have nch : ¬ mu.ch p := fun z => by
    obtain ⟨xs, e⟩ := S.mh p z
    rw [hp] at e; cases e
  have hl : ∀ (j : Nat) m ds', env[j]? = some (some (.ow m ds')) → ∃ q, σ[j]? = some (some (.ref q)) ∧ q ≠ p := fun j m ds' e => by
    obtain ⟨q, vs', h1, h2, _⟩ := S.ol j m ds' e
    exact ⟨q, h1, fun z => by rw [z, hp] at h2; cases h2⟩
  exact {
    sub := fun a o e => same_new hp a o (S.sub a o e)
    ng := S.ng
    g0 := S.g0
    fz := S.fz.same (same_new hp)
    new := S.new
    mh := fun a m => by
      obtain ⟨xs, e⟩ := S.mh a m
      exact ⟨xs, same_new hp _ _ e⟩
    len := by rw [List.length_set, List.length_set, S.len]
    sh := fun j d e => by
      by_cases z : i = j
      · subst z
        rw [List.getElem?_set_self hi] at e; cases e
      · rw [List.getElem?_set_ne z] at e ⊢
        exact S.sh j d e
    ol := fun j m ds' e => by
      by_cases z : i = j
      · subst z
        rw [List.getElem?_set_self hi] at e
        cases e
        refine ⟨p, vs, List.getElem?_set_self hσ, upd_same, r, ?_, ?_⟩
        · cases q : G p with
          | none => rfl
          | some o => have := S.sub _ _ q; rw [hp] at this; cases this
        · exact .inr fun u n q => by
            have := S.fz.k p u nch n q
            rw [hp] at this; cases this
      · rw [List.getElem?_set_ne z] at e ⊢
        obtain ⟨q, vs', h1, h2, h3, h4, h5⟩ := S.ol j m ds' e
        exact ⟨q, vs', h1, same_new hp _ _ h2, h3, h4, h5⟩
    ow := fun j k q ⟨m1, d1, e1⟩ ⟨m2, d2, e2⟩ s1 s2 => by
      by_cases zj : i = j
      · by_cases zk : i = k
        · rw [← zj, ← zk]
        · subst zj
          rw [List.getElem?_set_self hσ] at s1
          rw [List.getElem?_set_ne zk] at e2 s2
          obtain ⟨q', h1, h2⟩ := hl k m2 d2 e2
          rw [s2] at h1
          have e3 : q = q' := by injection Option.some.inj (Option.some.inj h1)
          have e4 : p = q := by injection Option.some.inj (Option.some.inj s1)
          exact absurd (by rw [← e3, e4]) h2
      · by_cases zk : i = k
        · subst zk
          rw [List.getElem?_set_self hσ] at s2
          rw [List.getElem?_set_ne zj] at e1 s1
          obtain ⟨q', h1, h2⟩ := hl j m1 d1 e1
          rw [s1] at h1
          have e3 : q = q' := by injection Option.some.inj (Option.some.inj h1)
          have e4 : p = q := by injection Option.some.inj (Option.some.inj s2)
          exact absurd (by rw [← e3, e4]) h2
        · rw [List.getElem?_set_ne zj] at e1 s1
          rw [List.getElem?_set_ne zk] at e2 s2
          exact S.ow j k q ⟨m1, d1, e1⟩ ⟨m2, d2, e2⟩ s1 s2 }
/-- what makes a new list: its reading lays it anywhere new -/
def PostN (K : PySem.W.Frag) (C : Cl) (E : XK) (mu : Mu) (G0 H0 : Hp) (σ : L2.St) (G : Hp) : RE (List PyData) → VK → Prop
  | .ok p, Q => ∀ G' H' vs q, StR K C mu G0 H0 p.1 σ G' H' → Same G G' → RpA K G' vs p.2 → H' q = none → Q (.ref q) (upd H' q (.lst vs))
  | .rai c, _ => ∀ H', Fz C.T mu.ch H0 H' → E (C.cl c) none H'
  | .stuck, _ => False
def SndN (K : PySem.W.Frag) (C : Cl) (E : XK) (te : TE) (m : MA) : Prop := ∀ mu G0 H0 env σ G H Q, StR K C mu G0 H0 env σ G H → PostN K C E mu G0 H0 σ G (m env) Q → te σ H Q
def mOwn (i : Nat) (m : MA) : MS := fun env => bindS (m env) fun p => match Nat.blt i p.1.length with
  | true => .nx (p.1.set i (some (.ow false p.2)))
  | false => .stuck
theorem snds_own {i : Nat} {te : TE} {m : MA} (h : SndN K C E te m) : SndS K C E (tAsg te (gName i)) (mOwn i m) := by
  intro mu G0 H0 env σ G H D S hh
  refine h _ _ _ _ _ _ _ _ S ?_
  unfold mOwn at hh
  cases e : m env with
  | ok p =>
    rw [e] at hh
    intro G' H' vs q S' s r hq
    have hh : PostS K C E mu G0 H0 G (match Nat.blt i p.1.length with | true => .nx (p.1.set i (some (.ow false p.2))) | false => .stuck) D := hh
    cases c : Nat.blt i p.1.length with
    | true =>
      rw [c] at hh
      exact hh _ _ _ (S'.mk_own (Nat.le_of_ble_eq_true c) hq r) s
    | false => rw [c] at hh; exact hh.elim
  | rai c => rw [e] at hh; exact hh
  | stuck => rw [e] at hh; exact hh.elim
structure ND (X : Cx) (C : Cl) (E : XK) (e : Expr) (te : TE) (m : MA) : Prop where
  pe : PE X e te
  sd : SndN X.K C E te m
theorem postN_bind {β γ : Type} {Rl : Hp → β → γ → Prop} {r : RE γ} {f : LEnv × γ → RE (List PyData)} {Q : VK} {Q1 : β → Hp → Prop} (h : PostN K C E mu G0 H0 σ G (r.bind f) Q)
    (k : ∀ p v G' H', StR K C mu G0 H0 p.1 σ G' H' → Same G G' → Rl G' v p.2 → PostN K C E mu G0 H0 σ G' (f p) Q → Q1 v H') : Post Rl K C E mu G0 H0 σ G r Q1 := by
  cases r with
  | ok p =>
    intro v G' H' S s r
    refine k p v G' H' S s r ?_
    have h : PostN K C E mu G0 H0 σ G (f p) Q := h
    cases e : f p with
    | ok q => rw [e] at h; exact fun G2 H2 vs a S2 s2 => h G2 H2 vs a S2 (s.trans s2)
    | rai c => rw [e] at h; exact h
    | stuck => rw [e] at h; exact h.elim
  | rai c => exact h
  | stuck => exact h.elim
theorem PostN.gd {c : Bool} {r : RE (List PyData)} {Q : VK} (h : PostN K C E mu G0 H0 σ G (gd c r) Q) : c = true ∧ PostN K C E mu G0 H0 σ G r Q := by
  cases c with
  | true => exact ⟨rfl, h⟩
  | false => exact h.elim
def nLst (g : MA) : MA := fun env => (g env).bind fun q => gd (Nat.ble q.2.length small) (.ok (q.1, q.2))
theorem sndn_lst {ta : TA} {g : MA} (h : SndA K C E ta g) : SndN K C E (tLst ta) (nLst g) := by
  intro mu G0 H0 env σ G H Q S hh
  refine h _ _ _ _ _ _ _ _ S (postN_bind hh fun p xs G1 H1 S1 s1 r1 h1 => ?_)
  obtain ⟨c, h1⟩ := h1.gd
  exact ⟨by rw [r1.length]; exact Nat.le_trans (Nat.le_of_ble_eq_true c) small_le, fun q hq => h1 G1 H1 xs q S1 (.refl _) r1 hq⟩
def nCat (f g : M) : MA := fun env => (f env).bind fun p => (g p.1).bind fun q => match p.2, q.2 with
  | .list a, .list b => gd (Nat.ble (a.length + b.length) small) (.ok (q.1, a ++ b))
  | _, _ => .stuck
theorem sndn_cat {ta tb : TE} {f g : M} (hf : Snd K C E ta f) (hg : Snd K C E tb g) : SndN K C E (tOp (rAddA K) ta tb) (nCat f g) := by
  intro mu G0 H0 env σ G H Q S hh
  refine hf _ _ _ _ _ _ _ _ S (postN_bind hh fun p x G1 H1 S1 s1 r1 h1 => ?_)
  obtain ⟨e1, d1⟩ := p
  refine hg _ _ _ _ _ _ _ _ S1 (postN_bind h1 fun q y G2 H2 S2 s2 r2 h2 => ?_)
  obtain ⟨e2, d2⟩ := q
  have r1 : Rp K G2 x d1 := Rp.mono s2 _ _ r1
  cases r1 with
  | lst a1 b1 =>
    cases r2 with
    | lst a2 b2 =>
      obtain ⟨c, h2⟩ := PostN.gd h2
      refine .inr (.inr (.inr ⟨_, _, _, _, rfl, rfl, S2.sub _ _ a1, S2.sub _ _ a2, ?_, fun p hp => h2 G2 H2 _ p S2 (.refl _) (b1.append b2) hp⟩))
      rw [b1.length, b2.length]
      exact Nat.le_trans (Nat.le_of_ble_eq_true c) small_le
    | _ => exact h2.elim
  | _ => cases r2 <;> exact h2.elim
def nLiR1 (f : M) : MA := fun env => (f env).bind fun p => match p.2 with
  | .int j => gd (near j) (.ok (p.1, upFrom 0 j.toNat))
  | _ => .stuck
theorem sndn_liR1 {ta : TE} {f : M} (h : Snd K C E ta f) : SndN K C E (tLstRg (tRg1 ta)) (nLiR1 f) := by
  intro mu G0 H0 env σ G H Q S hh
  refine h _ _ _ _ _ _ _ _ S (postN_bind hh fun p x G1 H1 S1 s1 r1 h1 => ?_)
  obtain ⟨e, d⟩ := p
  cases r1 <;> first | exact h1.elim | skip
  rename_i n
  obtain ⟨c, h1⟩ := PostN.gd h1
  refine ⟨n, rfl, rgok rfl c, fun q hq => ?_⟩
  rw [rg_up, Int.sub_zero]
  exact h1 G1 H1 _ q S1 (.refl _) (rpa_up 0 n.toNat) hq
theorem n_lst {es : List Expr} {taa : TA} {ma : MA} {pos : Pos} (h : AD X C E es taa ma) : ND X C E (.List es pos) (tLst taa) (nLst ma) := ⟨pe_lst h.pe, sndn_lst h.sd⟩
theorem n_cat {a b : Expr} {ta tb : TE} {f g : M} {pos : Pos} (ha : ED X C E a ta f) (hb : ED X C E b tb g) : ND X C E (.BinOp a .Add b pos) (tOp (rAddA X.K) ta tb) (nCat f g) := ⟨pe_op op_addA ha.pe hb.pe, sndn_cat ha.sd hb.sd⟩
theorem n_liR1 {a : Expr} {ta : TE} {f : M} {p q pos pos2 : Pos} (hc : X.calm = true) (hgl : Gl X "list") (hml : X.mg "list" = none) (hg : Gl X "range") (hm : X.mg "range" = none) (h : ED X C E a ta f)
    (n1 : starEach [a] X.env = (false, eval a X.env) :: starEach [] X.env := by rfl) (n2 : starEach [Expr.Call (.Name "range" q) [a] [] pos2] X.env = (false, eval (Expr.Call (.Name "range" q) [a] [] pos2) X.env) :: starEach [] X.env := by rfl) :
    ND X C E (.Call (.Name "list" p) [.Call (.Name "range" q) [a] [] pos2] [] pos) (tLstRg (tRg1 ta)) (nLiR1 f) := ⟨pe_listRg hc hgl hml (prg_1 hg hm h.pe n1) n2, sndn_liR1 h.sd⟩
theorem s_own (i : Nat) {y : Str} {e : Expr} {te : TE} {m : MA} {py pos : Pos} (he : ND X C E e te m) (hg : GD X C (.Name y py) (gName i) (bName i) [i]) (hs : swapsWithSole [.Name y py] e pos.line X.env = pure false := by rfl) (hw : swappedStores [.Name y py] e X.env = pure none := by rfl)
    (h1 : (assignEach [.Name y py] X.env).map (·.2) = [assign (.Name y py) X.env] := by rfl) : SD X C E (.Assign [.Name y py] e pos) (tAsg te (gName i)) (mOwn i m) := ⟨ps_asg he.pe hg.pe hs hw h1, snds_own he.sd⟩
end
end LW

namespace LW
open PySem PySem.Spec PyProof.Rows L2
section
variable {K : PySem.W.Frag} {mu : Mu} {G0 H0 G H G' H' H1 : Hp} {env env' : LEnv} {σ σ' : L2.St} {C : Cl} {E : XK} {X : Cx}
/-! ### an int in a list of one's own; one taken out of it -/
def mInO (neg : Bool) (i : Nat) (f : M) : M := fun env => (f env).bind fun p => match nth p.1 i with
  | some (some (.ow _ ds)) => lif p.1 (iInF neg p.2 (.list ds))
  | _ => .stuck
theorem snd_inO {neg : Bool} {i : Nat} {ta : TE} {f : M} (ha : Snd K C E ta f) : Snd K C E (tOp (rIn K neg) ta (tVar i)) (mInO neg i f) := by
  intro mu G0 H0 env σ G H Q S h
  refine ha _ _ _ _ _ _ _ _ S (h.bind fun p x G1 H1 S1 s1 r1 h1 => ?_)
  obtain ⟨e, d⟩ := p
  have h1 : Post (RlE K) K C E mu G0 H0 σ G1 (match nth e i with
    | some (some (.ow _ ds)) => lif e (iInF neg d (.list ds))
    | _ => .stuck) Q := h1
  rw [nth_eq] at h1
  cases e1 : e[i]? with
  | none => rw [e1] at h1; exact h1.elim
  | some o =>
    cases o with
    | none => rw [e1] at h1; exact h1.elim
    | some s =>
      rw [e1] at h1
      cases s with
      | sh d' => exact h1.elim
      | ow m ds =>
        have h2 : Post (RlE K) K C E mu G0 H0 σ G1 (lif e (iInF neg d (.list ds))) Q := h1
        obtain ⟨q, ws, e2, e3, e4, _⟩ := S1.ol i m ds e1
        cases r1 with
        | int k =>
          cases ei : intsOf ds with
          | none => simp only [iInF, ei] at h2; exact h2.elim
          | some l =>
            simp only [iInF, ei] at h2
            have eb := intsOf_eq ei
            subst eb
            refine ⟨.ref q, e2, q, l.map V.int, rfl, .inl ?_, rfl, flat_ints l, ?_⟩
            · rw [← rpa_ints l _ e4]; exact SqL.of e3
            · rw [hasI_eq, if_b]; exact post_here S1 h2 (.bl _)
        | _ => exact h2.elim
theorem t_inO (i : Nat) {neg : Bool} {op : CmpOp} {a : Expr} {y : Str} {ta : TE} {f : M} {p pos : Pos} (ho : OpR X (compareOp op) (rIn X.K neg)) (ha : ED X C E a ta f) (hN : X.N[i]? = some y := by rfl) (hv : Vis X.env.scope y := by first | exact Or.inl rfl | exact Or.inr (Or.inl rfl) | exact Or.inr (Or.inr rfl)) (hd : (y == ("__debug__" : Str)) = false := by decide)
    (hcd : (y == ("__classdict__" : Str)) = false := by decide) (hm : behindInMarks op (.Name y p) = false := by rfl) : TD X C E (.Compare a [op] [.Name y p] pos) (tTest (tOp (rIn X.K neg) ta (tVar i))) (mtB (mInO neg i f)) :=
  ⟨pt_cmpR ho ha.pe (pe_var hN hv hd hcd) hm, sndt_test (snd_inO ha.sd)⟩
/-- without the first of a number -/
def cutI (k : Int) : List Int → Option (List Int)
  | [] => none
  | j :: r => bif j == k then some r else (match cutI k r with
    | some l => some (j :: l)
    | none => none)
theorem cutI_at {k : Int} : ∀ {l l' : List Int}, cutI k l = some l' → ∃ j : Nat, l[j]? = some k ∧ (∀ m : Nat, m < j → l[m]? ≠ some k) ∧ l' = l.eraseIdx j
  | [], _, h => by cases h
  | i :: r, l', h => by
    unfold cutI at h
    cases c : (i == k) with
    | true =>
      rw [c] at h
      cases h
      exact ⟨0, by rw [eq_of_beq c]; rfl, fun m hm => absurd hm (by omega), rfl⟩
    | false =>
      rw [c] at h
      have h : (match cutI k r with | some l => some (i :: l) | none => none) = some l' := h
      cases e : cutI k r with
      | none => rw [e] at h; cases h
      | some l2 =>
        rw [e] at h
        cases h
        obtain ⟨j, h1, h2, h3⟩ := cutI_at e
        refine ⟨j + 1, h1, fun m hm z => ?_, by rw [h3]; rfl⟩
        cases m with
        | zero =>
          have : i = k := Option.some.inj z
          rw [this] at c
          simp at c
        | succ m => exact h2 m (by omega) z
def mRem (i : Nat) (f : M) : MS := fun env => bindS (f env) fun p => match nth p.1 i, p.2 with
  | some (some (.ow m ds)), .int k => (match (intsOf ds).bind (cutI k) with
    | some l => .nx (p.1.set i (some (.ow m (intsD l))))
    | none => .stuck)
  | _, _ => .stuck
theorem eraseIdx_up (l : List Int) (j : Nat) : RpA K G ((l.eraseIdx j).map V.int) (intsD (l.eraseIdx j)) := ints_rpa _
theorem snds_rem {i : Nat} {ta : TE} {f : M} (ha : Snd K C E ta f) : SndS K C E (tDrop (tBM K "list" rRemI (tVar i) (tCons ta tNil))) (fun env => match nth env i with | some (some (.ow _ _)) => mRem i f env | _ => .stuck) := by
  intro mu G0 H0 env σ G H D S h
  have h : PostS K C E mu G0 H0 G (match nth env i with | some (some (.ow _ _)) => mRem i f env | _ => .stuck) D := h
  rw [nth_eq] at h
  cases e0 : env[i]? with
  | none => rw [e0] at h; exact h.elim
  | some o =>
    cases o with
    | none => rw [e0] at h; exact h.elim
    | some s =>
      rw [e0] at h
      cases s with
      | sh d => exact h.elim
      | ow m0 ds0 =>
        have h : PostS K C E mu G0 H0 G (mRem i f env) D := h
        obtain ⟨q, vs0, a1, a2, a3, _⟩ := S.ol i m0 ds0 e0
        refine ⟨.ref q, a1, .inl ⟨rfl, vs0, SqL.of a2⟩, ?_⟩
        refine ha _ _ _ _ _ _ _ _ S (h.bind fun p x G1 H1 S1 s1 r1 h1 => ?_)
        obtain ⟨e, d⟩ := p
        have h1 : PostS K C E mu G0 H0 G1 (match (generalizing := false) nth e i, d with
          | some (some (.ow m ds)), .int k => (match (intsOf ds).bind (cutI k) with
            | some l => .nx (e.set i (some (.ow m (intsD l))))
            | none => .stuck)
          | _, _ => .stuck) D := h1
        rw [nth_eq] at h1
        cases e1 : e[i]? with
        | none => rw [e1] at h1; exact h1.elim
        | some o =>
          cases o with
          | none => rw [e1] at h1; exact h1.elim
          | some s =>
            rw [e1] at h1
            cases s with
            | sh d' => cases r1 <;> exact h1.elim
            | ow m ds =>
              cases r1 with
              | int k =>
                have h2 : PostS K C E mu G0 H0 G1 (match (intsOf ds).bind (cutI k) with
                  | some l => .nx (e.set i (some (.ow m (intsD l))))
                  | none => .stuck) D := h1
                obtain ⟨q', ws, b1, b2, b3, b4, _⟩ := S1.ol i m ds e1
                rw [a1] at b1
                cases b1
                cases ei : intsOf ds with
                | none => simp only [ei, Option.bind] at h2; exact h2.elim
                | some l =>
                  cases ec : cutI k l with
                  | none => simp only [ei, Option.bind, ec] at h2; exact h2.elim
                  | some l' =>
                    simp only [ei, Option.bind, ec] at h2
                    have eb := intsOf_eq ei
                    subst eb
                    obtain ⟨j, j1, j2, j3⟩ := cutI_at ec
                    refine ⟨q, l, k, j, rfl, rfl, ?_, j1, j2, ?_⟩
                    · rw [← rpa_ints l _ b3]; exact b2
                    · subst j3
                      refine h2 _ _ _ (S1.own_to (G' := G1) e1 a1 (.refl _) ?_ ⟨?_, ?_⟩ (fun a o z => .inl z) upd_same (ints_rpa _)) (.refl _)
                      · intro a o z
                        have : a ≠ q := fun y => by rw [y, b4] at z; cases z
                        rw [upd_ne this]
                        exact S1.sub a o z
                      · intro b o nb _ z
                        rw [upd_ne nb]; exact z
                      · refine tabs_but S1.fz.tb fun b o z nl => ?_
                        have : b ≠ q := fun y => by rw [y, b2] at z; exact nl _ (Option.some.inj z).symm
                        rw [upd_ne this]; exact z
              | _ => exact h1.elim
def mRemG (i : Nat) (f : M) : MS := fun env => match nth env i with
  | some (some (.ow _ _)) => mRem i f env
  | _ => .stuck
theorem s_rem (i : Nat) {y : Str} {e : Expr} {te : TE} {f : M} {p apos cpos spos : Pos} (he : ED X C E e te f) (hN : X.N[i]? = some y := by rfl) (hv : Vis X.env.scope y := by first | exact Or.inl rfl | exact Or.inr (Or.inl rfl) | exact Or.inr (Or.inr rfl)) (hd : (y == ("__debug__" : Str)) = false := by decide)
    (hcd : (y == ("__classdict__" : Str)) = false := by decide) (hbase : attributeBase (.Name y p) "remove" X.env (eval (.Name y p) X.env) = eval (.Name y p) X.env := by rfl)
    (hfew : ((backTo cpos (starEach [e] X.env)).all (fun x => !x.1) && (backToKw cpos (keywordEach [] X.env)).all (fun x => x.1.isSome) && decide ([e].length + ([] : List Keyword).length + (if ([] : List Keyword).isEmpty then 0 else 1) < 30)) = true := by rfl)
    (hline : (apos.endLine == cpos.line) = true := by rfl) (hs : starEach [e] X.env = (false, eval e X.env) :: starEach [] X.env := by rfl) (hplain : (backTo cpos (starEach [] X.env)).any (·.1) = false := by rfl)
    (hsw : swapsWith (.Call (.Attribute (.Name y p) "remove" apos) [e] [] cpos) none spos.line X.env = pure false := by rfl) :
    SD X C E (.Expr (.Call (.Attribute (.Name y p) "remove" apos) [e] [] cpos) spos) (tDrop (tBM X.K "list" rRemI (tVar i) (tCons te tNil))) (mRemG i f) :=
  ⟨ps_expr (pe_bm PySem.F.plainAttrs_list PySem.F.slot_list_remove PySem.F.type_list_remove mt_remove (pe_var hN hv hd hcd) (pa_cons he.pe pa_nil hs) hbase hfew hline hs hplain) hsw, snds_rem he.sd⟩
/-- xs.count(k), xs a list of ints -/
def iCnt (ds : List PyData) : PyData → R PyData
  | .int k => (match intsOf ds with
    | some l => .ok (.int (l.count k : Nat))
    | none => .stuck)
  | _ => .stuck
def mCnt (f g : M) : M := fun env => (f env).bind fun p => match p.2 with
  | .list ds => (g p.1).bind fun q => lif q.1 (iCnt ds q.2)
  | _ => .stuck
theorem snd_cnt {to te : TE} {f g : M} (hf : Snd K C E to f) (hg : Snd K C E te g) : Snd K C E (tBM K "list" (rCntI K) to (tCons te tNil)) (mCnt f g) := by
  intro mu G0 H0 env σ G H Q S h
  refine hf _ _ _ _ _ _ _ _ S (h.bind fun p x G1 H1 S1 s1 r1 h1 => ?_)
  obtain ⟨e1, d1⟩ := p
  cases r1 with
  | lst a b =>
    rename_i es
    have h1 : Post (RlE K) K C E mu G0 H0 σ G1 ((g e1).bind fun q => lif q.1 (iCnt es q.2)) Q := h1
    refine ⟨.inl ⟨rfl, _, SqL.of (S1.sub _ _ a)⟩, ?_⟩
    refine hg _ _ _ _ _ _ _ _ S1 (h1.bind fun q y G2 H2 S2 s2 r2 h2 => ?_)
    obtain ⟨e2, d2⟩ := q
    cases r2 with
    | int k =>
      cases ei : intsOf es with
      | none => simp only [iCnt, ei] at h2; exact h2.elim
      | some l =>
        simp only [iCnt, ei] at h2
        have eb := intsOf_eq ei
        subst eb
        refine ⟨_, l, k, rfl, rfl, ?_, post_here S2 h2 (.int _)⟩
        rw [← rpa_ints l _ b]; exact SqL.of (S2.sub _ _ (s2 _ _ a))
    | _ => exact h2.elim
  | _ => exact h1.elim
theorem d_cnt {o e : Expr} {to te : TE} {f g : M} {apos cpos : Pos} (ho : ED X C E o to f) (he : ED X C E e te g) (hbase : attributeBase o "count" X.env (eval o X.env) = eval o X.env := by rfl)
    (hfew : ((backTo cpos (starEach [e] X.env)).all (fun x => !x.1) && (backToKw cpos (keywordEach [] X.env)).all (fun x => x.1.isSome) && decide ([e].length + ([] : List Keyword).length + (if ([] : List Keyword).isEmpty then 0 else 1) < 30)) = true := by rfl)
    (hline : (apos.endLine == cpos.line) = true := by rfl) (hs : starEach [e] X.env = (false, eval e X.env) :: starEach [] X.env := by rfl) (hplain : (backTo cpos (starEach [] X.env)).any (·.1) = false := by rfl) :
    ED X C E (.Call (.Attribute o "count" apos) [e] [] cpos) (tBM X.K "list" (rCntI X.K) to (tCons te tNil)) (mCnt f g) :=
  ⟨pe_bm PySem.F.plainAttrs_list PySem.F.slot_list_count PySem.F.type_list_count mt_lcount ho.pe (pa_cons he.pe pa_nil hs) hbase hfew hline hs hplain, snd_cnt ho.sd he.sd⟩
end
end LW

namespace LW
open PySem PySem.Spec PyProof.Rows L2
section
variable {K : PySem.W.Frag} {mu : Mu} {G0 H0 G H G' H' H1 : Hp} {env env' : LEnv} {σ σ' : L2.St} {C : Cl} {E : XK} {X : Cx}
/-! ### a method of a tuple -/
theorem tyT_is {pn : List (Addr × Obj)} {st : Shared} {p : Addr} (I : Inv X pn σ H st) (ty : TyT X.K H p) : st.TypeIs (.ref p) "tuple" ∧ ∀ a, Value.ref p = .ref a → ∃ ob, st.heap.get? a = some ob ∧ ob.dict = none := by
  obtain ⟨o, e, c, d⟩ : ∃ o, st.heap.get? p = some o ∧ o.cls = .type "tuple" ∧ o.dict = none := by
    rcases ty with ⟨o, hk, hc, hd⟩ | ⟨o, u, hg, hc, hd⟩
    · exact ⟨o, I.kIn p o hk, hc, hd⟩
    · exact ⟨o, (I.hok p _ hg).1, hc, hd⟩
  refine ⟨⟨o, e, c⟩, fun a z => ?_⟩
  cases z
  exact ⟨o, e, d⟩
def tBT (K : PySem.W.Frag) (r : V → List V → Hp → VK → Prop) (to : TE) (t : TA) : TE := fun σ H Q => to σ H fun x Ha => ∃ p, x = .ref p ∧ TyT K Ha p ∧ t σ Ha fun xs Hb => r x xs Hb Q
theorem pe_bt {o e : Expr} {es : List Expr} {to : TE} {t : TA} {name : Str} {apos cpos : Pos} {id : String} {r : V → List V → Hp → VK → Prop} (slot : Slot "tuple" name id) (hty : typeOf (.builtin id) = pure (.type "method_descriptor")) (hm : MtR X id r) (ho : PE X o to) (ha : PA X (e :: es) t)
    (hbase : attributeBase o name X.env (eval o X.env) = eval o X.env)
    (hfew : ((backTo cpos (starEach (e :: es) X.env)).all (fun x => !x.1) && (backToKw cpos (keywordEach [] X.env)).all (fun x => x.1.isSome) && decide ((e :: es).length + ([] : List Keyword).length + (if ([] : List Keyword).isEmpty then 0 else 1) < 30)) = true)
    (hline : (apos.endLine == cpos.line) = true) (hs : starEach (e :: es) X.env = (false, eval e X.env) :: starEach es X.env) (hplain : (backTo cpos (starEach es X.env)).any (·.1) = false) :
    PE X (.Call (.Attribute o name apos) (e :: es) [] cpos) (tBT X.K r to t) := by
  refine ⟨fun pn st σ H Q I hq => ?_⟩
  refine wpAny_Call_method_late hbase hfew hline rfl (thn (ho.run pn st σ H _ I hq) fun v sa ⟨x, Ha, Ia, ra, p, ep, ty, qa⟩ => ?_)
  subst ep
  cases ra
  obtain ⟨k1, k2⟩ := tyT_is Ia ty
  refine ⟨"tuple", id, PySem.F.plainAttrs_tuple, slot, hty, k1, k2, ?_⟩
  have hA := ha.run cpos pn sa σ Ha _ Ia qa
  rw [hs] at hA ⊢
  refine Calls.callWith_builtin (by show (false || (backTo cpos (starEach es X.env)).any (·.1)) = false; rw [hplain] <;> rfl) (Calls.evalArgs_plain ?_)
  exact thn hA fun us sb ⟨vs, Hb, Ib, rb, qb⟩ => hm pn sb σ Hb (.ref p) vs (.ref p) us Q Ib rfl rb qb
def rCntT (K : PySem.W.Frag) : V → List V → Hp → VK → Prop := fun x xs H Q => ∃ (p : Addr) (ns : List Int) (k : Int), x = .ref p ∧ xs = [.int k] ∧ SqT K H p (ns.map V.int) ∧ Q (.int (ns.count k : Nat)) H
theorem mt_tcount : MtR X "tuple.count" (rCntT X.K) := by
  intro pn st σ H x xs v us Q I rx rxs h
  obtain ⟨p, ns, k, rfl, rfl, hs, q⟩ := h
  cases rx
  obtain ⟨u, rfl, ru⟩ := rxs.one
  obtain ⟨t, rfl⟩ := ru
  obtain ⟨its, rv, ⟨⟨cls, dd, data, sl⟩, ho, hc, n, hd⟩, hle⟩ := I.tuple hs
  simp only at hc hd
  subst hc hd
  have hi := ints_of_vals rv
  refine call_meets PySem.F.slot_tuple_count ⟨_, ho, rfl⟩ PySem.F.entry_tuple_count (PySem.F.args_tuple_count_2 _ _) (SeqAt.tuple_countAt p its.toArray n dd sl (.int k t) (eqk k)) ⟨ho, fun y hy => (eqk_gives hi y (by simpa using hy)).at _ _, ?_⟩
  have ec : its.toArray.toList.countP (eqk k) = ns.count k := eqk_count hi
  refine ⟨.int (ns.count k : Nat), H, I.tok _, ⟨st.toks, ?_⟩, q⟩
  rw [← ec]
def mCntT (f g : M) : M := fun env => (f env).bind fun p => match p.2 with
  | .tuple ds => (g p.1).bind fun q => lif q.1 (iCnt ds q.2)
  | _ => .stuck
theorem snd_cntT {to te : TE} {f g : M} (hf : Snd K C E to f) (hg : Snd K C E te g) : Snd K C E (tBT K (rCntT K) to (tCons te tNil)) (mCntT f g) := by
  intro mu G0 H0 env σ G H Q S h
  refine hf _ _ _ _ _ _ _ _ S (h.bind fun p x G1 H1 S1 s1 r1 h1 => ?_)
  obtain ⟨e1, d1⟩ := p
  cases r1 with
  | tup a b =>
    rename_i p vs es
    have h1 : Post (RlE K) K C E mu G0 H0 σ G1 ((g e1).bind fun q => lif q.1 (iCnt es q.2)) Q := h1
    refine ⟨_, rfl, (tpt_same S1.sub a).2, ?_⟩
    refine hg _ _ _ _ _ _ _ _ S1 (h1.bind fun q y G2 H2 S2 s2 r2 h2 => ?_)
    obtain ⟨e2, d2⟩ := q
    cases r2 with
    | int k =>
      cases ei : intsOf es with
      | none => simp only [iCnt, ei] at h2; exact h2.elim
      | some l =>
        simp only [iCnt, ei] at h2
        have eb := intsOf_eq ei
        subst eb
        refine ⟨_, l, k, rfl, rfl, ?_, post_here S2 h2 (.int _)⟩
        rw [← rpa_ints l _ b]; exact sqt_same S2.sub (tpt_same s2 a)
    | _ => exact h2.elim
  | _ => exact h1.elim
theorem d_cntT {o e : Expr} {to te : TE} {f g : M} {apos cpos : Pos} (ho : ED X C E o to f) (he : ED X C E e te g) (hbase : attributeBase o "count" X.env (eval o X.env) = eval o X.env := by rfl)
    (hfew : ((backTo cpos (starEach [e] X.env)).all (fun x => !x.1) && (backToKw cpos (keywordEach [] X.env)).all (fun x => x.1.isSome) && decide ([e].length + ([] : List Keyword).length + (if ([] : List Keyword).isEmpty then 0 else 1) < 30)) = true := by rfl)
    (hline : (apos.endLine == cpos.line) = true := by rfl) (hs : starEach [e] X.env = (false, eval e X.env) :: starEach [] X.env := by rfl) (hplain : (backTo cpos (starEach [] X.env)).any (·.1) = false := by rfl) :
    ED X C E (.Call (.Attribute o "count" apos) [e] [] cpos) (tBT X.K (rCntT X.K) to (tCons te tNil)) (mCntT f g) :=
  ⟨pe_bt PySem.F.slot_tuple_count PySem.F.type_tuple_count mt_tcount ho.pe (pa_cons he.pe pa_nil hs) hbase hfew hline hs hplain, snd_cntT ho.sd he.sd⟩
/-! ### sum of a list or a tuple of ints -/
def rSumT (K : PySem.W.Frag) : List V → Hp → VK → Prop := fun vs H Q => ∃ (a : Addr) (ns : List Int), vs = [V.ref a] ∧ SqT K H a (ns.map V.int) ∧ Q (.int ns.sum) H
theorem cr_sumT (hc : X.calm = true) : CallR X (.builtin "sum") (rSumT X.K) := by
  intro pn st σ H vs us Q I r h
  obtain ⟨a, ns, rfl, hs, q⟩ := h
  obtain ⟨its, rv, hl, _⟩ := I.tuple hs
  rw [Vals.ref1 r]
  have hi := rv.ints
  obtain ⟨xs, e⟩ := hi.allInts.items
  have hn : numsOf (intItems xs).toList = ns := by rw [← e]; exact hi.numsOf
  rw [nums_intItems] at hn
  rw [e] at hl
  refine PySem.W.ktm_sumG (I.ok.hd hc) hl fun h' tk t' hk => ?_
  rw [preSum_eq, List.take_of_length_le (by simp), hn]
  exact ⟨.int ns.sum, H, I.kept hk, ⟨t', rfl⟩, q⟩
abbrev rSum2 (K : PySem.W.Frag) : List V → Hp → VK → Prop := fun vs H Q => rSum K vs H Q ∨ rSumT K vs H Q
theorem cr_sum2 (hc : X.calm = true) : CallR X (.builtin "sum") (rSum2 X.K) := CallR.or (cr_sum hc) (cr_sumT hc)
def cSum2 : List PyData → R PyData
  | [.list ds] => (match intsOf ds with
    | some l => .ok (.int (sumI l))
    | none => .stuck)
  | [.tuple ds] => (match intsOf ds with
    | some l => .ok (.int (sumI l))
    | none => .stuck)
  | _ => .stuck
theorem cas_sum2 : CaS K C E (rSum2 K) cSum2 := by
  intro mu G0 H0 env σ G H xs ds Q S r h
  cases r with
  | nil => exact h.elim
  | cons r1 r2 =>
    cases r2 with
    | cons _ _ => cases r1 <;> exact h.elim
    | nil =>
      cases r1 with
      | lst a b => exact .inl (cas_sum _ _ _ _ _ _ _ _ [.list _] Q S (.cons (.lst a b) .nil) h)
      | tup a b =>
        rename_i p vs es
        cases e : intsOf es with
        | none => simp only [cSum2, e] at h; exact h.elim
        | some l =>
          simp only [cSum2, e] at h
          have eb := intsOf_eq e
          subst eb
          refine .inr ⟨_, l, rfl, ?_, ?_⟩
          · rw [← rpa_ints l _ b]; exact sqt_same S.sub a
          · rw [← sumI_eq]; exact post_here S h (.int _)
      | _ => exact h.elim
end
end LW

namespace LW
open PySem PySem.Spec PyProof.Rows L2
/-! ### orders -/
def insB (b : Bool) (i : Int) : List Int → List Int
  | [] => [i]
  | j :: r => bif (bif b then decide (j < i) else decide (i < j)) then i :: j :: r else j :: insB b i r
def sortB (b : Bool) : List Int → List Int
  | [] => []
  | i :: r => insB b i (sortB b r)
theorem insB_perm (b : Bool) (i : Int) : ∀ l, (insB b i l).Perm (i :: l)
  | [] => .refl _
  | j :: r => by
    show (bif _ then i :: j :: r else j :: insB b i r).Perm (i :: j :: r)
    cases (bif b then decide (j < i) else decide (i < j)) with
    | true => exact .refl _
    | false => exact ((insB_perm b i r).cons j).trans (.swap i j r)
theorem sortB_perm (b : Bool) : ∀ l, (sortB b l).Perm l
  | [] => .refl _
  | i :: r => (insB_perm b i _).trans ((sortB_perm b r).cons i)
def leB (b : Bool) (x y : Int) : Prop := if b then x ≥ y else x ≤ y
theorem insB_ord (b : Bool) (i : Int) : ∀ l : List Int, l.Pairwise (leB b) → (insB b i l).Pairwise (leB b)
  | [], _ => List.pairwise_singleton _ _
  | j :: r, h => by
    obtain ⟨h1, h2⟩ := List.pairwise_cons.mp h
    show (bif _ then i :: j :: r else j :: insB b i r).Pairwise (leB b)
    cases c : (bif b then decide (j < i) else decide (i < j)) with
    | true =>
      have ij : leB b i j := by
        cases b with
        | true => have c : decide (j < i) = true := c; have := of_decide_eq_true c; show i ≥ j; omega
        | false => have c : decide (i < j) = true := c; have := of_decide_eq_true c; show i ≤ j; omega
      refine List.pairwise_cons.mpr ⟨fun x hx => ?_, h⟩
      rcases List.mem_cons.mp hx with e | hx
      · rw [e]; exact ij
      · have := h1 x hx
        cases b with
        | true => have a : i ≥ j := ij; have d : j ≥ x := this; show i ≥ x; omega
        | false => have a : i ≤ j := ij; have d : j ≤ x := this; show i ≤ x; omega
    | false =>
      have ji : leB b j i := by
        cases b with
        | true => have c : decide (j < i) = false := c; have := of_decide_eq_false c; show j ≥ i; omega
        | false => have c : decide (i < j) = false := c; have := of_decide_eq_false c; show j ≤ i; omega
      refine List.pairwise_cons.mpr ⟨fun x hx => ?_, insB_ord b i r h2⟩
      rcases List.mem_cons.mp ((insB_perm b i r).mem_iff.mp hx) with e | hx
      · rw [e]; exact ji
      · exact h1 x hx
theorem sortB_ord (b : Bool) : ∀ l, (sortB b l).Pairwise (leB b)
  | [] => .nil
  | i :: r => insB_ord b i _ (sortB_ord b r)
theorem ordB_is (b : Bool) (l : List Int) : OrdB b l = l.Pairwise (leB b) := by
  cases b <;> rfl
theorem sortB_uni {b : Bool} {l m : List Int} (h1 : m.Perm l) (h2 : m.Pairwise (leB b)) : m = sortB b l := by
  refine List.Perm.eq_of_pairwise (le := leB b) (fun x y _ _ h h' => ?_) h2 (sortB_ord b l) (h1.trans (sortB_perm b l).symm)
  cases b with
  | true => have a : x ≥ y := h; have d : y ≥ x := h'; omega
  | false => have a : x ≤ y := h; have d : y ≤ x := h'; omega
section
variable {K : PySem.W.Frag} {mu : Mu} {G0 H0 G H G' H' H1 : Hp} {env env' : LEnv} {σ σ' : L2.St} {C : Cl} {E : XK} {X : Cx}
theorem sorted_tup {b : Bool} {pn : List (Addr × Obj)} {st : Shared} {σ : L2.St} {H : Hp} {a : Addr} {ns : List Int} {Q : VK} (I : Inv X pn σ H st) (hs : SqT X.K H a (ns.map V.int))
    (q : ∀ (ns' : List Int) (p : Addr), ns'.Perm ns → OrdB b ns' → H p = none → Q (.ref p) (upd H p (.lst (ns'.map V.int)))) :
    wpAny (model X.prog X.w) X.A (call (.builtin "sorted") [.ref a] [(Str.ofString "reverse", .bool b)]) (EP X pn σ Q) X.xe st := by
  obtain ⟨its, rv, ⟨o, ho, hc, n, hd⟩, hle⟩ := I.tuple hs
  have hi := rv.ints
  have hz : its.length ≤ sizeLine := by rw [← rv.length]; exact hle
  refine call_function_entry_kw kind_sorted plain_sorted entry_sorted (PyProof.Rows.args_sorted_rev _ _) ?_
  unfold Builtin.«sorted»
  refine wpAny_bind (m := checkCount "sorted" 1 1 _) (wpAny_pure ?_)
  refine wpAny_bind (wpAny_collect_seq a (.inr rfl) ho hc hd (fun h' kp => ?_) (by rw [List.size_toArray]; exact hz))
  refine wpAny_bind (wpAny_newList ?_ hz)
  have I1 : Inv X pn σ H { st with heap := h' } := I.kept (t' := st.toks) kp
  have hoL : (h'.push (seqObj "list" its.toArray 0)).get? h'.objs.size = some (seqObj "list" its.toArray 0) := Heap.get?_push_size _ rfl
  refine wpAny_bind (wpAny_holding (wpAny_call_entry_kw slot_list_sort ⟨_, hoL, rfl⟩ entry_list_sort ?_ (PyProof.Rows.args_list_sort_rev _ _)))
  refine SrtR.list_sort_ordR SrtO.swo_int hoL hz (fun h2 => SrtO.ints_sortable hi h2) fun out h1 h2 => ⟨_, rfl, wpAny_pure ⟨_, rfl, ?_⟩⟩
  obtain ⟨ns', k1, k2, k3⟩ := SrtR.ints_outR hi h1 h2
  obtain ⟨ep, he'⟩ := PyProof.Rows.sortedHeap_at (vs := its) (out := if b = true then out.toArray.reverse else out.toArray) hoL
  have hlen : (ns'.map V.int).length ≤ sizeLine := by
    rw [List.length_map, k2.length_eq]
    rw [List.length_map] at hle
    exact hle
  have e0 : ((if b = true then out.toArray.reverse else out.toArray).toList).toArray = (if b = true then out.toArray.reverse else out.toArray) := by rw [Array.toArray_toList]
  refine ⟨.ref h'.objs.size, upd H h'.objs.size (.lst (ns'.map V.int)), I1.laid (t' := st.toks) (fun c u hu => ?_) (Nat.le_refl _) ⟨hlen, _, ep, vals_of_ints k1, by rw [e0]; exact he'⟩, rfl, q _ _ k2 k3 (I1.hok.fresh (Nat.le_refl _))⟩
  rw [PyProof.Rows.sortedHeap_old (Nat.ne_of_lt (Heap.lt_size hu)) (Heap.lt_size (Heap.get?_push_of_some _ hu))]
  exact Heap.get?_push_of_some _ hu
def rSortKwA (K : PySem.W.Frag) (b : Bool) : List V → List V → Hp → VK → Prop := fun vs zs H Q => ∃ (a : Addr) (ns : List Int), vs = [V.ref a] ∧ zs = [.bl b] ∧ (SqL K H a (ns.map V.int) ∨ SqT K H a (ns.map V.int)) ∧
  ∀ (p : Addr), H p = none → Q (.ref p) (upd H p (.lst ((sortB b ns).map V.int)))
theorem cr_sortKwA {b : Bool} : CallRK X (.builtin "sorted") [Str.ofString "reverse"] (rSortKwA X.K b) := by
  intro pn st σ H vs zs us ws Q I r rz h
  obtain ⟨a, ns, rfl, rfl, hs, q⟩ := h
  have q' : ∀ (ns' : List Int) (p : Addr), ns'.Perm ns → OrdB b ns' → H p = none → Q (.ref p) (upd H p (.lst (ns'.map V.int))) := fun ns' p h1 h2 h3 => by
    rw [ordB_is] at h2
    rw [sortB_uni h1 h2]
    exact q p h3
  rcases hs with hs | hs
  · exact cr_sortedRev pn st σ H _ _ us ws Q I r rz ⟨a, ns, rfl, rfl, hs, q'⟩
  · obtain rfl := Vals.ref1 r
    obtain ⟨w1, rfl, e1⟩ := vals1 rz
    obtain rfl : w1 = Value.bool b := e1
    exact sorted_tup I hs q'
def mSortKw (b : Bool) (f : M) : M := fun env => (f env).bind fun p => match p.2 with
  | .list ds => (match intsOf ds with
    | some l => .ok (p.1, .list (intsD (sortB b l)))
    | none => .stuck)
  | .tuple ds => (match intsOf ds with
    | some l => .ok (p.1, .list (intsD (sortB b l)))
    | none => .stuck)
  | _ => .stuck
theorem d_sortRev {b : Bool} {e : Expr} {te : TE} {f : M} {j : Nat} {p pos p2 kp : Pos} (he : ED X C E e te f) (hg : Gl X "sorted") (hm : X.mg "sorted" = none) (h1 : backTo pos (starEach [e] X.env) = (false, eval e X.env) :: backTo pos (starEach [] X.env) := by rfl)
    (h0 : starEach [e] X.env = (false, eval e X.env) :: starEach [] X.env := by rfl)
    (h2 : (backTo pos (starEach [e] X.env)).any (·.1) = false := by rfl) (h3 : (backToKw pos (keywordEach [⟨some "reverse", .Constant (.bool b) j p2, kp⟩] X.env)).all (·.1.isSome) = true := by rfl)
    (h4 : (backToKw pos (keywordEach [⟨some "reverse", .Constant (.bool b) j p2, kp⟩] X.env)).any (·.1.isNone) = false := by rfl) (h5 : (backToKw pos (keywordEach [⟨some "reverse", .Constant (.bool b) j p2, kp⟩] X.env)).filterMap (·.1) = [Str.ofString "reverse"] := by rfl) :
    ED X C E (.Call (.Name "sorted" p) [e] [⟨some "reverse", .Constant (.bool b) j p2, kp⟩] pos) (tCKw (rSortKwA X.K b) (tCons te tNil) (tCons (tC (.bl b)) tNil)) (mSortKw b f) := by
  refine ⟨pe_callBK cr_sortKwA hg hm (by decide +kernel) (pa_cons he.pe pa_nil h0) (pk_cons pe_bl pk_nil) (by decide) (by decide) h1 h2 h3 h4 h5, ?_⟩
  intro mu G0 H0 env σ G H Q S hh
  refine he.sd _ _ _ _ _ _ _ _ S (hh.bind fun p x G1 H1 S1 s1 r1 h1 => ?_)
  obtain ⟨e1, d1⟩ := p
  cases r1 with
  | lst a c =>
    rename_i es
    have h1 : Post (RlE X.K) X.K C E mu G0 H0 σ G1 (match intsOf es with | some l => .ok (e1, .list (intsD (sortB b l))) | none => .stuck) Q := h1
    cases ei : intsOf es with
    | none => rw [ei] at h1; exact h1.elim
    | some l =>
      have h2 : Post (RlE X.K) X.K C E mu G0 H0 σ G1 (.ok (e1, .list (intsD (sortB b l)))) Q := by rw [ei] at h1; exact h1
      have eb := intsOf_eq ei
      subst eb
      refine ⟨_, l, rfl, rfl, .inl ?_, fun p hp => post_new S1 h2 hp _ nt_lst (.lst upd_same (ints_rpa _))⟩
      rw [← rpa_ints l _ c]; exact SqL.of (S1.sub _ _ a)
  | tup a c =>
    rename_i es
    have h1 : Post (RlE X.K) X.K C E mu G0 H0 σ G1 (match intsOf es with | some l => .ok (e1, .list (intsD (sortB b l))) | none => .stuck) Q := h1
    cases ei : intsOf es with
    | none => rw [ei] at h1; exact h1.elim
    | some l =>
      have h2 : Post (RlE X.K) X.K C E mu G0 H0 σ G1 (.ok (e1, .list (intsD (sortB b l)))) Q := by rw [ei] at h1; exact h1
      have eb := intsOf_eq ei
      subst eb
      refine ⟨_, l, rfl, rfl, .inr ?_, fun p hp => post_new S1 h2 hp _ nt_lst (.lst upd_same (ints_rpa _))⟩
      rw [← rpa_ints l _ c]; exact sqt_same S1.sub a
  | _ => exact h1.elim
end
end LW

namespace LW
open PySem PySem.Spec PyProof.Rows L2
/-! ### dicts as data -/
abbrev DD := List (PyData × PyData)
def keyE : PyData → PyData → Bool
  | .int a, .int b => a == b
  | .str a, .str b => a == b
  | _, _ => false
theorem keyE_is (k l : Key) : keyE (keyD k) (keyD l) = decide (k = l) := by
  cases k <;> cases l
  · rename_i a b
    show (a == b) = _
    by_cases h : a = b
    · rw [h]; simp
    · rw [beq_eq_false_iff_ne.mpr h]; exact (decide_eq_false (fun z => h (Sum.inl.inj z))).symm
  · exact (decide_eq_false (fun z => by cases z)).symm
  · exact (decide_eq_false (fun z => by cases z)).symm
  · rename_i a b
    show (a == b) = _
    by_cases h : a = b
    · rw [h]; simp
    · rw [beq_eq_false_iff_ne.mpr h]; exact (decide_eq_false (fun z => h (Sum.inr.inj z))).symm
def hasD (k : PyData) : DD → Bool
  | [] => false
  | (e, _) :: r => keyE e k || hasD k r
def setD (k v : PyData) : DD → DD
  | [] => []
  | (e, d) :: r => (bif keyE e k then (e, v) else (e, d)) :: setD k v r
def putD (ds : DD) (k v : PyData) : DD := bif hasD k ds then setD k v ds else ds ++ [(k, v)]
def keyOf : PyData → Option Key
  | .int i => some (.inl i)
  | .str x => some (.inr x)
  | _ => none
theorem keyOf_eq {d : PyData} {k : Key} (h : keyOf d = some k) : d = keyD k := by
  cases d <;> cases h <;> rfl
section
variable {K : PySem.W.Frag} {G G' H : Hp}
theorem RpK.has {kvs : List (Key × V)} {ds : DD} (h : RpK K G kvs ds) (k : Key) : hasD (keyD k) ds = kvs.any fun kv => decide (kv.1 = k) := by
  induction ds generalizing kvs with
  | nil => cases h; rfl
  | cons p ds ih =>
    cases h with
    | cons h1 h2 => rw [List.any_cons, ← ih h2, ← keyE_is]; rfl
theorem RpK.setv {kvs : List (Key × V)} {ds : DD} (h : RpK K G kvs ds) (k : Key) {v : V} {d : PyData} (hv : Rp K G v d) : RpK K G (kvs.map fun kv => if kv.1 = k then (kv.1, v) else kv) (setD (keyD k) d ds) := by
  induction ds generalizing kvs with
  | nil => cases h; exact .nil
  | cons p ds ih =>
    cases h with
    | @cons k0 v0 kvs0 d0 _ h1 h2 =>
      show RpK K G ((if k0 = k then (k0, v) else (k0, v0)) :: _) ((bif keyE (keyD k0) (keyD k) then (keyD k0, d) else (keyD k0, d0)) :: _)
      rw [keyE_is]
      by_cases e : k0 = k
      · rw [if_pos e, decide_eq_true e]; exact .cons hv (ih h2)
      · rw [if_neg e, decide_eq_false e]; exact .cons h1 (ih h2)
theorem RpK.append {kvs lvs : List (Key × V)} {ds es : DD} (h : RpK K G kvs ds) (h' : RpK K G lvs es) : RpK K G (kvs ++ lvs) (ds ++ es) := by
  induction ds generalizing kvs with
  | nil => cases h; exact h'
  | cons p ds ih =>
    cases h with
    | cons h1 h2 => exact .cons h1 (ih h2)
theorem RpK.put {kvs : List (Key × V)} {ds : DD} (h : RpK K G kvs ds) (k : Key) {v : V} {d : PyData} (hv : Rp K G v d) : RpK K G (putK kvs k v) (putD ds (keyD k) d) := by
  unfold putK putD
  rw [h.has k]
  cases c : (kvs.any fun kv => decide (kv.1 = k)) with
  | true => rw [if_pos rfl]; exact h.setv k hv
  | false => rw [if_neg (by decide)]; exact h.append (.cons hv .nil)
theorem RpK.length {kvs : List (Key × V)} {ds : DD} (h : RpK K G kvs ds) : kvs.length = ds.length := by
  induction ds generalizing kvs with
  | nil => cases h; rfl
  | cons p ds ih =>
    cases h with
    | cons h1 h2 => simp [ih h2]
def mergeD : DD → DD → DD
  | acc, [] => acc
  | acc, (k, v) :: r => mergeD (putD acc k v) r
theorem RpK.merge {more : List (Key × V)} {ms : DD} (h : RpK K G more ms) : ∀ {kvs : List (Key × V)} {ds : DD}, RpK K G kvs ds → RpK K G (mergeK kvs more) (mergeD ds ms) := by
  induction ms generalizing more with
  | nil => intro kvs ds q; cases h; exact q
  | cons p ms ih =>
    intro kvs ds q
    cases h with
    | cons h1 h2 => exact ih h2 (q.put _ h1)
theorem RpK.same {kvs : List (Key × V)} {ds : DD} (s : Same G G') (h : RpK K G kvs ds) : RpK K G' kvs ds := RpK.mono s _ _ h
/-- rows of pairs -/
def pairsD : List PyData → Option DD
  | [] => some []
  | .tuple [k, v] :: r => (match keyOf k, pairsD r with
    | some _, some l => some ((k, v) :: l)
    | _, _ => none)
  | _ => none
theorem pairsD_at : ∀ {ds : List PyData} {l : DD} {vs : List V}, pairsD ds = some l → RpA K G vs ds → ∃ (ps : List Addr) (kvs : List (Key × V)), vs = ps.map V.ref ∧ Paired (fun p kv => TpT K G p [kV kv.1, kv.2]) ps kvs ∧ RpK K G kvs l
  | [], l, vs, h, r => by cases h; cases r; exact ⟨[], [], rfl, .nil, .nil⟩
  | d :: ds, l, vs, h, r => by
    cases r with
    | @cons v0 vs _ _ r1 r2 =>
      match d, h with
      | .tuple [k, v], h =>
        cases ek : keyOf k with
        | none => simp [pairsD, ek] at h
        | some kk =>
          cases el : pairsD ds with
          | none => simp [pairsD, ek, el] at h
          | some l2 =>
            simp [pairsD, ek, el] at h
            subst h
            obtain ⟨ps, kvs, e1, e2, e3⟩ := pairsD_at el r2
            have hk := keyOf_eq ek
            subst hk
            cases r1 with
            | tup a b =>
              cases b with
              | @cons w1 _ _ _ b1 b2 =>
                cases b2 with
                | @cons w2 _ _ _ b2 b3 =>
                  cases b3
                  have ew : w1 = kV kk := by cases kk <;> (cases b1; rfl)
                  subst ew
                  exact ⟨_ :: ps, (kk, w2) :: kvs, by rw [e1]; rfl, .cons a e2, .cons b2 e3⟩
end
section
variable {K : PySem.W.Frag} {mu : Mu} {G0 H0 G H G' H' H1 : Hp} {env env' : LEnv} {σ σ' : L2.St} {C : Cl} {E : XK} {X : Cx}
theorem nt_dK {kvs : List (Key × V)} : nt (.dK kvs) := fun _ h => nomatch h
/-- dict(rows), dict(d) -/
def rDictA (K : PySem.W.Frag) : List V → Hp → VK → Prop := fun xs H Q => (∃ (a : Addr) (ps : List Addr) (kvs : List (Key × V)), xs = [.ref a] ∧ SqL K H a (ps.map V.ref) ∧ Paired (fun p kv => SqT K H p [kV kv.1, kv.2]) ps kvs ∧ ∀ p, H p = none → Q (.ref p) (upd H p (.dK (mergeK [] kvs)))) ∨
  ∃ (a : Addr) (kvs : List (Key × V)), xs = [.ref a] ∧ Rd H a (.dK kvs) ∧ ∀ p, H p = none → Q (.ref p) (upd H p (.dK kvs))
theorem call_dictA (hc : X.calm = true) : CallR X (.type "dict") (rDictA X.K) := CallR.or (call_dictP hc) call_dictD
def cDict : List PyData → R PyData
  | [.list ds] => (match pairsD ds with
    | some l => .ok (.dict (mergeD [] l))
    | none => .stuck)
  | [.dict ds] => .ok (.dict ds)
  | _ => .stuck
theorem paired_up {ps : List Addr} {kvs : List (Key × V)} (s : Same G H) (h : Paired (fun p kv => TpT K G p [kV kv.1, kv.2]) ps kvs) : Paired (fun p kv => SqT K H p [kV kv.1, kv.2]) ps kvs := by
  induction h with
  | nil => exact .nil
  | cons a b ih => exact .cons (sqt_same s a) ih
theorem cas_dict : CaS K C E (rDictA K) cDict := by
  intro mu G0 H0 env σ G H xs ds Q S r h
  cases r with
  | nil => exact h.elim
  | cons r1 r2 =>
    cases r2 with
    | cons _ _ => cases r1 <;> exact h.elim
    | nil =>
      cases r1 with
      | lst a b =>
        rename_i p vs es
        have h : Post (RlE K) K C E mu G0 H0 σ G (lif env (match pairsD es with | some l => .ok (.dict (mergeD [] l)) | none => .stuck)) Q := h
        cases e : pairsD es with
        | none => rw [e] at h; exact h.elim
        | some l =>
          rw [e] at h
          obtain ⟨ps, kvs, e1, e2, e3⟩ := pairsD_at e b
          subst e1
          exact .inl ⟨_, ps, kvs, rfl, SqL.of (S.sub _ _ a), paired_up S.sub e2, fun p hp => post_new S h hp _ nt_dK (.dct upd_same (RpK.same (same_new (S.sub.free hp)) (e3.merge .nil)))⟩
      | dct a b => exact .inr ⟨_, _, rfl, .inl (S.sub _ _ a), fun p hp => post_new S h hp _ nt_dK (.dct upd_same (RpK.same (same_new (S.sub.free hp)) b))⟩
      | _ => exact h.elim
/-! ### len of lists, tuples, dicts, texts -/
def rLenA (K : PySem.W.Frag) : List V → Hp → VK → Prop := fun xs H Q => (∃ p ys, xs = [.ref p] ∧ (SqL K H p ys ∨ SqT K H p ys) ∧ Q (.int ys.length) H) ∨ (∃ z, xs = [.str z] ∧ z.length ≤ sizeLine ∧ Q (.int z.length) H) ∨ ∃ (a : Addr) (kvs : List (Key × V)), xs = [.ref a] ∧ Rd H a (.dK kvs) ∧ Q (.int kvs.length) H
theorem call_len_dK : CallR X (.builtin "len") (fun xs H Q => ∃ (a : Addr) (kvs : List (Key × V)), xs = [.ref a] ∧ Rd H a (.dK kvs) ∧ Q (.int kvs.length) H) := by
  intro pn st σ H vs us Q I r h
  obtain ⟨a, kvs, rfl, e, q⟩ := h
  obtain rfl := Vals.ref1 r
  exact d_len I e fun t s' I' => ⟨.int kvs.length, H, I', ⟨t, rfl⟩, q⟩
theorem call_lenA : CallR X (.builtin "len") (rLenA X.K) := CallR.or call_len_seq (CallR.or call_len_str call_len_dK)
def cLenA : List PyData → R PyData
  | [.list ds] => .ok (.int (ds.length : Nat))
  | [.tuple ds] => .ok (.int (ds.length : Nat))
  | [.dict ds] => .ok (.int (ds.length : Nat))
  | [.str x] => gd (Nat.ble x.length small) (.ok (.int (x.length : Nat)))
  | _ => .stuck
theorem cas_lenA : CaS K C E (rLenA K) cLenA := by
  intro mu G0 H0 env σ G H xs ds Q S r h
  cases r with
  | nil => exact h.elim
  | cons r1 r2 =>
    cases r2 with
    | cons _ _ => cases r1 <;> exact h.elim
    | nil =>
      cases r1 with
      | lst a b => exact .inl ⟨_, _, rfl, .inl (SqL.of (S.sub _ _ a)), post_here S h (by rw [b.length]; exact .int _)⟩
      | tup a b => exact .inl ⟨_, _, rfl, .inr (sqt_same S.sub a), post_here S h (by rw [b.length]; exact .int _)⟩
      | dct a b => exact .inr (.inr ⟨_, _, rfl, .inl (S.sub _ _ a), post_here S h (by rw [b.length]; exact .int _)⟩)
      | str x =>
        obtain ⟨c, h⟩ := Post.gdL h
        exact .inr (.inl ⟨_, rfl, Nat.le_trans (Nat.le_of_ble_eq_true c) small_le, post_here S h (.int _)⟩)
      | _ => exact h.elim
/-! ### y, z = a new list of one's own, a constant -/
def mParNC (i j : Nat) (m : MA) (c : PyData) : MS := fun env => bindS (m env) fun p => match Nat.blt i p.1.length with
  | true => .nx ((p.1.set i (some (.ow false p.2))).set j (some (.sh c)))
  | false => .stuck
theorem snds_parNC {i j : Nat} {te : TE} {m : MA} {v : V} {c : PyData} (h : SndN K C E te m) (hc : ∀ G : Hp, Rp K G v c) : SndS K C E (tPar i j (tCons te (tCons (tC v) tNil))) (mParNC i j m c) := by
  intro mu G0 H0 env σ G H D S hh
  refine h _ _ _ _ _ _ _ _ S ?_
  unfold mParNC at hh
  cases e : m env with
  | ok p =>
    rw [e] at hh
    intro G' H' vs q S' s r hq
    have hh : PostS K C E mu G0 H0 G (match Nat.blt i p.1.length with | true => .nx ((p.1.set i (some (.ow false p.2))).set j (some (.sh c))) | false => .stuck) D := hh
    cases c' : Nat.blt i p.1.length with
    | true =>
      rw [c'] at hh
      exact ⟨_, _, rfl, hh _ _ _ ((S'.mk_own (Nat.le_of_ble_eq_true c') hq r).set_sh j (hc _)) s⟩
    | false => rw [c'] at hh; exact hh.elim
  | rai c => rw [e] at hh; exact hh
  | stuck => rw [e] at hh; exact hh.elim
theorem s_parNC (i j : Nat) {x y : Str} {a b : Expr} {te : TE} {m : MA} {v : V} {c : PyData} {px py pt pos : Pos} {kt k2 pt2} (hc : X.calm = true) (hN : X.N.Nodup) (ha : ND X C E a te m) (hb : PE X b (tC v)) (hv : ∀ G : Hp, Rp X.K G v c) (hi : X.N[i]? = some x := by rfl) (hj : X.N[j]? = some y := by rfl) (hij : i ≠ j := by decide)
    (hx : X.env.scope.names.lookup x = some .local := by rfl) (hy : X.env.scope.names.lookup y = some .local := by rfl) (n1 : starEach [a, b] X.env = (false, eval a X.env) :: starEach [b] X.env := by rfl) (n2 : starEach [b] X.env = (false, eval b X.env) :: starEach [] X.env := by rfl)
    (hw : swappedStores [.Tuple [.Name x px, .Name y py] kt pt] (.Tuple [a, b] k2 pt2) X.env = pure (some [x, y]) := by rfl)
    (hs : swapsWithSole [.Tuple [.Name x px, .Name y py] kt pt] (.Tuple [a, b] k2 pt2) pos.line X.env = pure false := by rfl) :
    SD X C E (.Assign [.Tuple [.Name x px, .Name y py] kt pt] (.Tuple [a, b] k2 pt2) pos) (tPar i j (tCons te (tCons (tC v) tNil))) (mParNC i j m c) := ⟨ps_par hc hN hi hj hij hx hy (pa_cons ha.pe (pa_cons hb pa_nil n2) n1) hw hs, snds_parNC ha.sd hv⟩
end
end LW

namespace LW
open PySem PySem.Spec PyProof.Rows L2 LamX
/-! ### the text's end with more behind its list: .. == [] and this and that -/
section
variable {K : PySem.W.Frag} {H H' : Hp} {C : Cl}
/-- a state of which nothing is known -/
theorem StR.blank {n : Nat} {σ : L2.St} (hn : σ.length = n) (tb : Tabs C.T H) : StR K C mu0 (fun _ => none) H (List.replicate n none) σ (fun _ => none) H where
  sub := fun b o e => nomatch e
  ng := fun b o e => nomatch e
  g0 := .refl _
  fz := .refl tb
  new := fun b o e => nomatch e
  mh := fun _ m => m.elim
  len := by rw [List.length_replicate, hn]
  sh := fun i d e => by rw [List.getElem?_replicate] at e; split at e <;> cases e
  ol := fun i m ds e => by rw [List.getElem?_replicate] at e; split at e <;> cases e
  ow := fun i j z ⟨m1, d1, e1⟩ _ _ _ => by rw [List.getElem?_replicate] at e1; split at e1 <;> cases e1
theorem tail_ok2 {P : Program} {w : World} {mg : Str → Option Value} {base : Heap} {k i n : Nat} {q : Str} {ls : List Lm} {lT : List (Addr × Str)} {tb : TE} {m : M} {E : XK} (hl : ToldL K C nmT lT) (G : ∀ l ∈ ls, LamG P w K mg base C k q l) (hi : i < n) (h2 : 2 < n) (hz : ls.length ≤ sizeLine) (hi2 : i ≠ 2)
    (sd : Snd K C E tb m) (hm : m (List.replicate n none) = .ok (List.replicate n none, .bool true)) :
    TailOk C n (tSeq (tAsg (tLst (taW C.T q ls)) (gName 2)) (tRet (tAndV (teW K (spTold P w K mg base k lT) i) tb))) := by
  intro D σ H hn tb0 hD
  refine wr_mean ls σ H _ tb0 fun vs H1 e1 t1 W => ⟨by rw [W.len]; exact hz, fun p hp => ?_⟩
  refine wrongs_mean (vs := vs) hl G (by rw [List.length_set, hn]; exact hi) (List.getElem?_set_self (by rw [hn]; exact h2)) upd_same (W.ext fun b o _ e => up_same hp _ _ e) (t1.ext (up_same hp)) fun H2 t2 => ?_
  refine ⟨true, rfl, iteT ?_⟩
  refine sd _ _ _ _ _ _ _ _ (StR.blank (n := n) (by rw [List.length_set]; exact hn) t2) ?_

  rw [hm]
  intro v G' H3 S' _ r
  cases r
  exact hD H3
end
/-- what stands behind the first part of the text's last answer -/
def restE (s : Stmt) : Expr := match (defBody s).getLast? with
  | some (.Return (some (.BoolOp .And (_ :: es) pos)) _) => .BoolOp .And es pos
  | _ => .Constant .none 0 ⟨0, 0, 0, 0⟩
def bfB (K : PySem.W.Frag) (x : Str) (id : String) : Bool := He.eqO (PySem.W.nsIn K mainGlobals x) (some (some (.builtin id)))
theorem bfB_ok {K : PySem.W.Frag} {h : Heap} {mg : Str → Option Value} {x : Str} {id : String} (X : K.In h) (G : h.Ns mainGlobals mg) (c : bfB K x id = true) : mg x = some (.builtin id) := PySem.W.mg_of X G (He.eqO_ok c)
end LW

namespace LW
open PySem PySem.Spec PyProof.Rows L2
/-! ### a text run by rolls that are written down: what it does there it does for all dice that roll so -/
abbrev Path := List (Nat × Nat)
def pathD : Path → List PyData
  | [] => []
  | (m, r) :: p => .int (.ofNat m) :: .int (.ofNat r) :: pathD p
/-- three ints -/
def Valid (d : List PyData) : Prop := ∃ a b c : Int, d = [.int a, .int b, .int c]
/-- dice that roll so -/
def Rl (rr : RunM) : List PyData → Path → Prop
  | d, [] => Valid d
  | d, (m, r) :: p => Valid d ∧ ∃ d', rr d [.int (.ofNat m)] = .ok (d', .int (.ofNat r)) ∧ Rl rr d' p
theorem Rl.valid {rr : RunM} {d : List PyData} {p : Path} (h : Rl rr d p) : Valid d := by
  cases p with
  | nil => exact h
  | cons a p => exact h.1
def ieq : Int → Int → Bool
  | .ofNat a, .ofNat b => Nat.beq a b
  | .negSucc a, .negSucc b => Nat.beq a b
  | _, _ => false
theorem ieq_ok {a b : Int} (h : ieq a b = true) : a = b := by
  cases a <;> cases b <;> first | cases h | (exact congrArg _ (Nat.eq_of_beq_eq_true h))
/-- rolls as they are written down -/
def orc : RunM := fun cs ds => match cs with
  | .int (.ofNat m) :: .int (.ofNat r) :: rest => (match ds with
    | [.int n] => bif ieq (.ofNat m) n then .ok (rest, .int (.ofNat r)) else .stuck
    | _ => .stuck)
  | _ => .stuck
/-- a small state (with rolls written down) and a state that agrees with it -/
structure Sm (rr : RunM) (k : Nat) (e0 e : LEnv) : Prop where
  len : e0.length = e.length
  at_ : ∀ (i : Nat) s, i ≠ k → e0[i]? = some (some s) → e[i]? = some (some s)
  dc : ∀ s, e0[k]? = some (some s) → ∃ p d, s = .ow true (pathD p) ∧ e[k]? = some (some (.ow true d)) ∧ Rl rr d p
/-- what is not changed -/
structure Fr (k : Nat) (e e' : LEnv) : Prop where
  len : e'.length = e.length
  at_ : ∀ i : Nat, i ≠ k → e'[i]? = e[i]? ∨ ∃ m ds, e[i]? = some (some (.ow m ds))
theorem Fr.refl {k : Nat} (e : LEnv) : Fr k e e := ⟨rfl, fun _ _ => .inl rfl⟩
theorem Fr.trans {k : Nat} {a b c : LEnv} (h : Fr k a b) (h' : Fr k b c) : Fr k a c := ⟨h'.len.trans h.len, fun i hi => by
  rcases h.at_ i hi with e | e
  · rcases h'.at_ i hi with e' | ⟨m, ds, e'⟩
    · exact .inl (e'.trans e)
    · exact .inr ⟨m, ds, by rw [← e]; exact e'⟩
  · exact .inr e⟩
def SimR {α : Type} (rr : RunM) (k : Nat) (e0 e : LEnv) : RE α → RE α → Prop
  | .ok p, r => ∃ e', r = .ok (e', p.2) ∧ Sm rr k p.1 e' ∧ Fr k e0 p.1 ∧ Fr k e e'
  | .rai c, r => r = .rai c
  | .stuck, _ => True
section
variable {rr : RunM} {k : Nat} {α β : Type} {e0 e : LEnv}
theorem SimR.bind {r r' : RE α} {f0 f : LEnv × α → RE β} (h : SimR rr k e0 e r r') (hf : ∀ a b0 b, Sm rr k b0 b → SimR rr k b0 b (f0 (b0, a)) (f (b, a))) : SimR rr k e0 e (r.bind f0) (r'.bind f) := by
  cases r with
  | ok p =>
    obtain ⟨p0, a⟩ := p
    obtain ⟨e', h1, h2, h3, h4⟩ := h
    subst h1
    have h2 : Sm rr k p0 e' := h2
    have h5 := hf a p0 e' h2
    show SimR rr k e0 e (f0 (p0, a)) (f (e', a))
    cases q : f0 (p0, a) with
    | ok z =>
      rw [q] at h5
      obtain ⟨e2, g1, g2, g3, g4⟩ := h5
      exact ⟨e2, g1, g2, h3.trans g3, h4.trans g4⟩
    | rai c => rw [q] at h5; exact h5
    | stuck => trivial
  | rai c =>
    have h : r' = .rai c := h
    subst h
    exact (rfl : (R.rai c : RE β) = _)
  | stuck => trivial
theorem SimR.ok (S : Sm rr k e0 e) (a : α) : SimR rr k e0 e (.ok (e0, a)) (.ok (e, a)) := ⟨e, rfl, S, .refl _, .refl _⟩
theorem SimR.lif (S : Sm rr k e0 e) (r : R α) : SimR rr k e0 e (lif e0 r) (lif e r) := by
  cases r with
  | ok a => exact .ok S a
  | rai c => exact (rfl : (R.rai c : RE α) = _)
  | stuck => trivial
theorem SimR.gd {c : Bool} {r r' : RE α} (h : SimR rr k e0 e r r') : SimR rr k e0 e (gd c r) (gd c r') := by
  cases c with
  | true => exact h
  | false => trivial
theorem SimR.noRai {r r' : RE α} (h : SimR rr k e0 e r r') : SimR rr k e0 e (noRai r) (noRai r') := by
  cases r with
  | ok p => obtain ⟨e', h1, h2⟩ := h; subst h1; exact ⟨e', rfl, h2⟩
  | rai c => trivial
  | stuck => trivial
theorem Sm.set (S : Sm rr k e0 e) {i : Nat} (hi : i ≠ k) (x : Option Sl) : Sm rr k (e0.set i x) (e.set i x) where
  len := by rw [List.length_set, List.length_set, S.len]
  at_ := fun j s hj q => by
    by_cases z : i = j
    · subst z
      by_cases hl : i < e0.length
      · rw [List.getElem?_set_self hl] at q
        rw [List.getElem?_set_self (by rw [← S.len]; exact hl)]; exact q
      · rw [List.getElem?_eq_none (by rw [List.length_set]; omega)] at q; cases q
    · rw [List.getElem?_set_ne z] at q ⊢; exact S.at_ j s hj q
  dc := fun s q => by
    rw [List.getElem?_set_ne hi] at q ⊢
    exact S.dc s q
theorem Sm.drop (S : Sm rr k e0 e) (i : Nat) (x : Option Sl) : Sm rr k (e0.set i none) (e.set i x) := by
  have g : ∀ (j : Nat) s, (e0.set i none)[j]? = some (some s) → i ≠ j ∧ e0[j]? = some (some s) := fun j s q => by
    by_cases z : i = j
    · subst z
      by_cases hl : i < e0.length
      · rw [List.getElem?_set_self hl] at q; cases q
      · rw [List.getElem?_eq_none (by rw [List.length_set]; omega)] at q; cases q
    · rw [List.getElem?_set_ne z] at q; exact ⟨z, q⟩
  exact {
    len := by rw [List.length_set, List.length_set, S.len]
    at_ := fun j s hj q => by
      obtain ⟨z, q⟩ := g j s q
      rw [List.getElem?_set_ne z]; exact S.at_ j s hj q
    dc := fun s q => by
      obtain ⟨z, q⟩ := g k s q
      rw [List.getElem?_set_ne z]; exact S.dc s q }
theorem Sm.wipe (S : Sm rr k e0 e) : ∀ vs, Sm rr k (wipeE e0 vs) (wipeE e vs)
  | [] => S
  | v :: vs => (Sm.wipe S vs).drop v none
theorem wipeE_length (e : LEnv) : ∀ vs, (wipeE e vs).length = e.length
  | [] => rfl
  | v :: vs => by unfold wipeE; rw [List.length_set, wipeE_length e vs]
end
class NeK (k i : Nat) : Prop where
  ne : i ≠ k
/-- expressions -/
class Sim (rr : RunM) (k : Nat) {α : Type} (f0 f : LEnv → RE α) : Prop where
  run : ∀ e0 e, Sm rr k e0 e → SimR rr k e0 e (f0 e0) (f e)
def RunR (rr : RunM) : R (List PyData × PyData) → R (List PyData × PyData) → Prop
  | .ok z, r => ∃ p' d', z.1 = pathD p' ∧ r = .ok (d', z.2) ∧ Rl rr d' p'
  | .rai c, r => r = .rai c
  | .stuck, _ => True
/-- a def that is handed the dice -/
class RSim (rr : RunM) (run0 run : RunM) : Prop where
  run : ∀ p d ds, Rl rr d p → RunR rr (run0 (pathD p) ds) (run d ds)
instance (rr : RunM) : RSim rr orc rr := ⟨fun p d ds h => by
  cases p with
  | nil => exact trivial
  | cons a p =>
    obtain ⟨m, r⟩ := a
    obtain ⟨_, d', h1, h2⟩ := h
    match ds with
    | [.int n] =>
      show RunR rr (bif ieq (.ofNat m) n then R.ok (pathD p, PyData.int (.ofNat r)) else .stuck) _
      cases c : ieq (.ofNat m) n with
      | true =>
        have e := ieq_ok c
        subst e
        exact ⟨p, d', rfl, h1, h2⟩
      | false => exact trivial
    | [] => exact trivial
    | [.none] => exact trivial
    | [.bool _] => exact trivial
    | [.str _] => exact trivial
    | [.list _] => exact trivial
    | [.tuple _] => exact trivial
    | [.dict _] => exact trivial
    | a :: _ :: _ => cases a <;> exact trivial⟩
section
variable {rr : RunM} {k : Nat} {f0 f g0 g h0 h : M} {a0 a b0 b : MA} {t0 t u0 u : MT} {e0 e : LEnv}
instance sim_c {d : PyData} : Sim rr k (mC d) (mC d) := ⟨fun e0 e S => .ok S d⟩
instance sim_var {i : Nat} : Sim rr k (mVar i) (mVar i) := ⟨fun e0 e S => by
  unfold mVar
  rw [nth_eq, nth_eq]
  cases q : e0[i]? with
  | none => trivial
  | some o =>
    cases o with
    | none => trivial
    | some s =>
      cases s with
      | ow m ds => trivial
      | sh d =>
        by_cases z : i = k
        · subst z
          obtain ⟨p, d', h1, _⟩ := S.dc _ q
          cases h1
        · rw [S.at_ i _ z q]; exact .ok S d⟩
instance sim_op {op : PyData → PyData → R PyData} [Sim rr k f0 f] [Sim rr k g0 g] : Sim rr k (mOp op f0 g0) (mOp op f g) := ⟨fun e0 e S => (Sim.run (f0 := f0) (f := f) e0 e S).bind fun _ _ _ S1 => (Sim.run (f0 := g0) (f := g) _ _ S1).bind fun _ _ _ S2 => .lif S2 _⟩
instance sim_un {op : PyData → R PyData} [Sim rr k f0 f] : Sim rr k (mUn op f0) (mUn op f) := ⟨fun e0 e S => (Sim.run (f0 := f0) (f := f) e0 e S).bind fun _ _ _ S1 => .lif S1 _⟩
instance sim_nil : Sim rr k maNil maNil := ⟨fun e0 e S => .ok S []⟩
instance sim_cons [Sim rr k f0 f] [Sim rr k a0 a] : Sim rr k (maCons f0 a0) (maCons f a) := ⟨fun e0 e S => (Sim.run (f0 := f0) (f := f) e0 e S).bind fun _ _ _ S1 => (Sim.run (f0 := a0) (f := a) _ _ S1).bind fun _ _ _ S2 => .ok S2 _⟩
instance sim_tup [Sim rr k a0 a] : Sim rr k (mTup a0) (mTup a) := ⟨fun e0 e S => (Sim.run (f0 := a0) (f := a) e0 e S).bind fun _ _ _ S1 => .gd (.ok S1 _)⟩
instance sim_lst [Sim rr k a0 a] : Sim rr k (mLst a0) (mLst a) := ⟨fun e0 e S => (Sim.run (f0 := a0) (f := a) e0 e S).bind fun _ _ _ S1 => .gd (.ok S1 _)⟩
instance sim_tB [Sim rr k f0 f] : Sim rr k (mtB f0) (mtB f) := ⟨fun e0 e S => (Sim.run (f0 := f0) (f := f) e0 e S).bind fun d _ _ S1 => by
  cases d with
  | bool b => exact .ok S1 b
  | _ => trivial⟩
instance sim_tru [Sim rr k f0 f] : Sim rr k (mtTru f0) (mtTru f) := ⟨fun e0 e S => (Sim.run (f0 := f0) (f := f) e0 e S).bind fun _ _ _ S1 => .lif S1 _⟩
instance sim_and [Sim rr k t0 t] [Sim rr k u0 u] : Sim rr k (mtAnd t0 u0) (mtAnd t u) := ⟨fun e0 e S => (Sim.run (f0 := t0) (f := t) e0 e S).bind fun b _ _ S1 => by
  cases b with
  | true => exact Sim.run (f0 := u0) (f := u) _ _ S1
  | false => exact .ok S1 _⟩
instance sim_or [Sim rr k t0 t] [Sim rr k u0 u] : Sim rr k (mtOr t0 u0) (mtOr t u) := ⟨fun e0 e S => (Sim.run (f0 := t0) (f := t) e0 e S).bind fun b _ _ S1 => by
  cases b with
  | false => exact Sim.run (f0 := u0) (f := u) _ _ S1
  | true => exact .ok S1 _⟩
instance sim_not [Sim rr k t0 t] : Sim rr k (mtNot t0) (mtNot t) := ⟨fun e0 e S => (Sim.run (f0 := t0) (f := t) e0 e S).bind fun _ _ _ S1 => .ok S1 _⟩
instance sim_andV [Sim rr k f0 f] [Sim rr k g0 g] : Sim rr k (mAndV f0 g0) (mAndV f g) := ⟨fun e0 e S => (Sim.run (f0 := f0) (f := f) e0 e S).bind fun d _ _ S1 => by
  cases d with
  | bool b =>
    cases b with
    | true => exact Sim.run (f0 := g0) (f := g) _ _ S1
    | false => exact .ok S1 _
  | _ => trivial⟩
instance sim_if [Sim rr k t0 t] [Sim rr k f0 f] [Sim rr k g0 g] : Sim rr k (mIf t0 f0 g0) (mIf t f g) := ⟨fun e0 e S => (Sim.run (f0 := t0) (f := t) e0 e S).bind fun b _ _ S1 => by
  cases b with
  | true => exact Sim.run (f0 := f0) (f := f) _ _ S1
  | false => exact Sim.run (f0 := g0) (f := g) _ _ S1⟩
instance sim_chain {o o' : PyData → PyData → R PyData} [Sim rr k f0 f] [Sim rr k g0 g] [Sim rr k h0 h] : Sim rr k (mChain o o' f0 g0 h0) (mChain o o' f g h) := ⟨fun e0 e S => (Sim.run (f0 := f0) (f := f) e0 e S).bind fun _ _ _ S1 => (Sim.run (f0 := g0) (f := g) _ _ S1).bind fun _ _ _ S2 => (SimR.lif S2 _).bind fun z _ _ S3 => by
  cases z with
  | bool c =>
    cases c with
    | true => exact (Sim.run (f0 := h0) (f := h) _ _ S3).bind fun _ _ _ S4 => .lif S4 _
    | false => exact .ok S3 _
  | _ => trivial⟩
instance sim_ca {op : List PyData → R PyData} [Sim rr k a0 a] : Sim rr k (mCa op a0) (mCa op a) := ⟨fun e0 e S => (Sim.run (f0 := a0) (f := a) e0 e S).bind fun _ _ _ S1 => .lif S1 _⟩
instance sim_call {n : Nat} {run : List PyData → R PyData} [Sim rr k a0 a] : Sim rr k (mCall n run a0) (mCall n run a) := ⟨fun e0 e S => (Sim.run (f0 := a0) (f := a) e0 e S).bind fun _ _ _ S1 => .gd (.lif S1 _)⟩
instance sim_callStar {n : Nat} {run : List PyData → R PyData} [Sim rr k f0 f] : Sim rr k (mCallStar n run f0) (mCallStar n run f) := ⟨fun e0 e S => (Sim.run (f0 := f0) (f := f) e0 e S).bind fun d _ _ S1 => by
  cases q : seqOf d with
  | ok ds => simp only [q, LW.R.bind]; exact .gd (.lif S1 _)
  | rai c => simp only [q, LW.R.bind]; exact (rfl : (R.rai c : RE PyData) = _)
  | stuck => simp only [q, LW.R.bind]; trivial⟩
instance sim_miR {rg : List PyData → R (List PyData)} [Sim rr k a0 a] : Sim rr k (miR rg a0) (miR rg a) := ⟨fun e0 e S => (Sim.run (f0 := a0) (f := a) e0 e S).bind fun _ _ _ S1 => .lif S1 _⟩
instance sim_miSeq [Sim rr k f0 f] : Sim rr k (miSeq f0) (miSeq f) := ⟨fun e0 e S => (Sim.run (f0 := f0) (f := f) e0 e S).bind fun _ _ _ S1 => .lif S1 _⟩
instance sim_yes : Sim rr k mtYes mtYes := ⟨fun e0 e S => .ok S true⟩
instance sim_noPart : Sim rr k mNoPart mNoPart := ⟨fun e0 e S => .ok S none⟩
instance sim_part [Sim rr k f0 f] : Sim rr k (mPart f0) (mPart f) := ⟨fun e0 e S => (Sim.run (f0 := f0) (f := f) e0 e S).bind fun d _ _ S1 => by
  cases d with
  | int i => exact .ok S1 _
  | _ => trivial⟩
instance sim_sl {l0 l m0 m : MP} [Sim rr k f0 f] [Sim rr k l0 l] [Sim rr k m0 m] : Sim rr k (mSl f0 l0 m0) (mSl f l m) := ⟨fun e0 e S => (Sim.run (f0 := f0) (f := f) e0 e S).bind fun _ _ _ S1 => (Sim.run (f0 := l0) (f := l) _ _ S1).bind fun _ _ _ S2 => (Sim.run (f0 := m0) (f := m) _ _ S2).bind fun _ _ _ S3 => .lif S3 _⟩
instance sim_liR1 [Sim rr k f0 f] : Sim rr k (mLiR1 f0) (mLiR1 f) := ⟨fun e0 e S => (Sim.run (f0 := f0) (f := f) e0 e S).bind fun d _ _ S1 => by
  cases d with
  | int i => exact .gd (.ok S1 _)
  | _ => trivial⟩
instance sim_liR2 [Sim rr k f0 f] [Sim rr k g0 g] : Sim rr k (mLiR2 f0 g0) (mLiR2 f g) := ⟨fun e0 e S => (Sim.run (f0 := f0) (f := f) e0 e S).bind fun d _ _ S1 => (Sim.run (f0 := g0) (f := g) _ _ S1).bind fun d2 _ _ S2 => by
  cases d with
  | int i =>
    cases d2 with
    | int j => exact .gd (.ok S2 _)
    | _ => trivial
  | _ => cases d2 <;> trivial⟩
instance sim_cnt [Sim rr k f0 f] [Sim rr k g0 g] : Sim rr k (mCnt f0 g0) (mCnt f g) := ⟨fun e0 e S => (Sim.run (f0 := f0) (f := f) e0 e S).bind fun d _ _ S1 => by
  cases d with
  | list ds => exact (Sim.run (f0 := g0) (f := g) _ _ S1).bind fun _ _ _ S2 => .lif S2 _
  | _ => trivial⟩
instance sim_cntT [Sim rr k f0 f] [Sim rr k g0 g] : Sim rr k (mCntT f0 g0) (mCntT f g) := ⟨fun e0 e S => (Sim.run (f0 := f0) (f := f) e0 e S).bind fun d _ _ S1 => by
  cases d with
  | tuple ds => exact (Sim.run (f0 := g0) (f := g) _ _ S1).bind fun _ _ _ S2 => .lif S2 _
  | _ => trivial⟩
instance sim_sortKw {b : Bool} [Sim rr k f0 f] : Sim rr k (mSortKw b f0) (mSortKw b f) := ⟨fun e0 e S => (Sim.run (f0 := f0) (f := f) e0 e S).bind fun d b0 b1 S1 => by
  cases d with
  | list ds =>
    show SimR rr k b0 b1 (match intsOf ds with | some l => (R.ok (b0, PyData.list (intsD (sortB b l))) : RE PyData) | none => .stuck) (match intsOf ds with | some l => (R.ok (b1, PyData.list (intsD (sortB b l))) : RE PyData) | none => .stuck)
    cases intsOf ds with
    | some l => exact .ok S1 _
    | none => trivial
  | tuple ds =>
    show SimR rr k b0 b1 (match intsOf ds with | some l => (R.ok (b0, PyData.list (intsD (sortB b l))) : RE PyData) | none => .stuck) (match intsOf ds with | some l => (R.ok (b1, PyData.list (intsD (sortB b l))) : RE PyData) | none => .stuck)
    cases intsOf ds with
    | some l => exact .ok S1 _
    | none => trivial
  | _ => trivial⟩
end
end LW

namespace LW
open PySem PySem.Spec PyProof.Rows L2
section
variable {rr : RunM} {k : Nat} {f0 f g0 g h0 h : M} {a0 a b0 b : MA} {t0 t u0 u : MT} {e0 e : LEnv}
theorem forget_get {e : LEnv} {i : Nat} {d : PyData} (h : e[i]? = some (some (.sh d))) : (forgetOwn e)[i]? = some (some (.sh d)) := by
  unfold forgetOwn
  rw [List.getElem?_map, h]
  rfl
theorem Sm.forget (S : Sm rr k e0 e) : Sm rr k (forgetOwn e0) (forgetOwn e) where
  len := by unfold forgetOwn; rw [List.length_map, List.length_map, S.len]
  at_ := fun i s hi q => by
    obtain ⟨d, h1, h2⟩ := forgetOwn_get q
    subst h1
    exact forget_get (S.at_ i _ hi h2)
  dc := fun s q => by
    obtain ⟨d, h1, h2⟩ := forgetOwn_get q
    obtain ⟨p, d', h3, _⟩ := S.dc _ h2
    cases h3
instance sim_told {nm : Nat → Option Str} [Sim rr k f0 f] : Sim rr k (mTold nm f0) (mTold nm f) := ⟨fun e0 e S => by
  have h := Sim.run (f0 := f0) (f := f) _ _ S.forget
  unfold mTold
  cases q : f0 (forgetOwn e0) with
  | ok p =>
    rw [q] at h
    obtain ⟨e', h1, _⟩ := h
    rw [h1]
    exact .ok S _
  | rai c =>
    rw [q] at h
    have h : f (forgetOwn e) = .rai c := h
    rw [h]
    show SimR rr k e0 e (match nm c with | some s => (R.ok (e0, PyData.str s) : RE PyData) | none => .stuck) (match nm c with | some s => (R.ok (e, PyData.str s) : RE PyData) | none => .stuck)
    cases nm c with
    | some s => exact .ok S _
    | none => exact trivial
  | stuck => exact trivial⟩
theorem Sm.at_k (S : Sm rr k e0 e) {i : Nat} (hi : i ≠ k) {s : Sl} (q : e0[i]? = some (some s)) : nth e i = some (some s) := by rw [nth_eq]; exact S.at_ i s hi q
instance sim_ixV {i : Nat} [NeK k i] [Sim rr k f0 f] : Sim rr k (mIxV i f0) (mIxV i f) := ⟨fun e0 e S => by
  unfold mIxV
  rw [nth_eq e0]
  cases q : e0[i]? with
  | none => exact trivial
  | some o =>
    cases o with
    | none => exact trivial
    | some s =>
      rw [S.at_k NeK.ne q]
      refine (Sim.run (f0 := f0) (f := f) e0 e S).bind fun d b0 b S1 => ?_
      show SimR rr k b0 b (match nth b0 i with | some (some (.sh x)) => lif b0 (iIx x d) | some (some (.ow _ ds)) => (match d with | .int j => lif b0 (ixD j ds) | _ => .stuck) | _ => .stuck) (match nth b i with | some (some (.sh x)) => lif b (iIx x d) | some (some (.ow _ ds)) => (match d with | .int j => lif b (ixD j ds) | _ => .stuck) | _ => .stuck)
      rw [nth_eq b0]
      cases q2 : b0[i]? with
      | none => exact trivial
      | some o =>
        cases o with
        | none => exact trivial
        | some s2 =>
          rw [S1.at_k NeK.ne q2]
          cases s2 with
          | sh x => exact .lif S1 _
          | ow m ds =>
            cases d with
            | int j => exact .lif S1 _
            | _ => exact trivial⟩
instance sim_inO {neg : Bool} {i : Nat} [NeK k i] [Sim rr k f0 f] : Sim rr k (mInO neg i f0) (mInO neg i f) := ⟨fun e0 e S => (Sim.run (f0 := f0) (f := f) e0 e S).bind fun d b0 b S1 => by
  show SimR rr k b0 b (match nth b0 i with | some (some (.ow _ ds)) => lif b0 (iInF neg d (.list ds)) | _ => .stuck) (match nth b i with | some (some (.ow _ ds)) => lif b (iInF neg d (.list ds)) | _ => .stuck)
  rw [nth_eq b0]
  cases q2 : b0[i]? with
  | none => exact trivial
  | some o =>
    cases o with
    | none => exact trivial
    | some s2 =>
      rw [S1.at_k NeK.ne q2]
      cases s2 with
      | sh x => exact trivial
      | ow m ds => exact .lif S1 _⟩
instance sim_callM {n : Nat} {run0 run : RunM} [RSim rr run0 run] [Sim rr k a0 a] : Sim rr k (mCallM n run0 k a0) (mCallM n run k a) := ⟨fun e0 e S => by
  unfold mCallM
  rw [nth_eq, nth_eq]
  cases q : e0[k]? with
  | none => exact trivial
  | some o =>
    cases o with
    | none => exact trivial
    | some s =>
      obtain ⟨p, d, h1, h2, h3⟩ := S.dc s q
      subst h1
      rw [h2]
      refine (Sim.run (f0 := a0) (f := a) e0 e S).bind fun ds b0 b S1 => ?_
      show SimR rr k b0 b (match nth b0 k with | some (some (.ow m cs)) => gd (Nat.beq ds.length n) ((run0 cs ds).bind fun z => .ok (b0.set k (some (.ow m z.1)), z.2)) | _ => .stuck) (match nth b k with | some (some (.ow m cs)) => gd (Nat.beq ds.length n) ((run cs ds).bind fun z => .ok (b.set k (some (.ow m z.1)), z.2)) | _ => .stuck)
      rw [nth_eq, nth_eq]
      cases q2 : b0[k]? with
      | none => exact trivial
      | some o =>
        cases o with
        | none => exact trivial
        | some s2 =>
          obtain ⟨p2, d2, g1, g2, g3⟩ := S1.dc s2 q2
          subst g1
          rw [g2]
          refine .gd ?_
          have hk := RSim.run (run0 := run0) (run := run) p2 d2 ds g3
          cases qr : run0 (pathD p2) ds with
          | ok z =>
            rw [qr] at hk
            obtain ⟨p3, d3, k1, k2, k3⟩ := hk
            rw [k2]
            have hl0 : k < b0.length := (List.getElem?_eq_some_iff.mp q2).1
            have hl : k < b.length := (List.getElem?_eq_some_iff.mp g2).1
            refine ⟨b.set k (some (.ow true d3)), rfl, ?_, ?_, ?_⟩
            · exact {
                len := by show (b0.set k _).length = _; rw [List.length_set, List.length_set, S1.len]
                at_ := fun j s hj q => by
                  have q : (b0.set k (some (.ow true z.1)))[j]? = some (some s) := q
                  rw [List.getElem?_set_ne (fun w => hj w.symm)] at q ⊢
                  exact S1.at_ j s hj q
                dc := fun s q => by
                  have q : (b0.set k (some (.ow true z.1)))[k]? = some (some s) := q
                  rw [List.getElem?_set_self hl0] at q
                  have q := Option.some.inj (Option.some.inj q)
                  subst q
                  exact ⟨p3, d3, by rw [k1], List.getElem?_set_self hl, k3⟩ }
            · exact ⟨List.length_set .., fun j hj => .inl (List.getElem?_set_ne (fun w => hj w.symm))⟩
            · exact ⟨List.length_set .., fun j hj => .inl (List.getElem?_set_ne (fun w => hj w.symm))⟩
          | rai c =>
            rw [qr] at hk
            have hk : run d2 ds = .rai c := hk
            rw [hk]
            exact (rfl : (R.rai c : RE PyData) = _)
          | stuck => exact trivial⟩
/-! targets -/
def BR (rr : RunM) (k : Nat) : R LEnv → R LEnv → Prop
  | .ok p, r => ∃ e', r = .ok e' ∧ Sm rr k p e' ∧ p.length = e'.length
  | _, _ => True
/-- the slots of a target -/
class BSim (rr : RunM) (k : Nat) (b : Bi) (is : outParam (List Nat)) : Prop where
  run : ∀ d e0 e, Sm rr k e0 e → BR rr k (b d e0) (b d e)
  out : ∀ d e e', b d e = .ok e' → e'.length = e.length ∧ ∀ j : Nat, j ∉ is → e'[j]? = e[j]?
class BSims (rr : RunM) (k : Nat) (b : BiA) (is : outParam (List Nat)) : Prop where
  run : ∀ ds e0 e, Sm rr k e0 e → BR rr k (b ds e0) (b ds e)
  out : ∀ ds e e', b ds e = .ok e' → e'.length = e.length ∧ ∀ j : Nat, j ∉ is → e'[j]? = e[j]?
instance bsim_name {i : Nat} [NeK k i] : BSim rr k (bName i) [i] where
  run := fun d e0 e S => ⟨_, rfl, S.set NeK.ne _, (S.set NeK.ne (some (.sh d))).len⟩
  out := fun d e e' h => by
    cases h
    exact ⟨List.length_set .., fun j hj => List.getElem?_set_ne fun z => hj (by rw [z]; exact List.mem_singleton.mpr rfl)⟩
instance bsims_nil : BSims rr k bNil [] where
  run := fun ds e0 e S => by
    cases ds with
    | nil => exact ⟨_, rfl, S, S.len⟩
    | cons _ _ => exact trivial
  out := fun ds e e' h => by
    cases ds with
    | nil => cases h; exact ⟨rfl, fun _ _ => rfl⟩
    | cons _ _ => cases h
instance bsims_cons {c : Bi} {cs : BiA} {is js : List Nat} [BSim rr k c is] [BSims rr k cs js] : BSims rr k (bCons c cs) (is ++ js) where
  run := fun ds e0 e S => by
    cases ds with
    | nil => exact trivial
    | cons d ds =>
      have h1 := BSim.run (rr := rr) (k := k) (b := c) (is := is) d e0 e S
      show BR rr k ((c d e0).bind fun e => cs ds e) ((c d e).bind fun e => cs ds e)
      cases q : c d e0 with
      | ok p =>
        rw [q] at h1
        obtain ⟨e', g1, g2, _⟩ := h1
        rw [g1]
        exact BSims.run (rr := rr) (k := k) (b := cs) (is := js) ds p e' g2
      | rai c => exact trivial
      | stuck => exact trivial
  out := fun ds e e' h => by
    cases ds with
    | nil => cases h
    | cons d ds =>
      have h : ((c d e).bind fun e => cs ds e) = .ok e' := h
      cases q : c d e with
      | ok p =>
        rw [q] at h
        obtain ⟨l1, o1⟩ := BSim.out (rr := rr) (k := k) (b := c) (is := is) d e p q
        obtain ⟨l2, o2⟩ := BSims.out (rr := rr) (k := k) (b := cs) (is := js) ds p e' h
        refine ⟨l2.trans l1, fun j hj => ?_⟩
        rw [List.mem_append, not_or] at hj
        exact (o2 j hj.2).trans (o1 j hj.1)
      | rai c => rw [q] at h; cases h
      | stuck => rw [q] at h; cases h
instance bsim_tup {n : Nat} {cs : BiA} {is : List Nat} [BSims rr k cs is] : BSim rr k (bTup n cs) is where
  run := fun d e0 e S => by
    cases d with
    | tuple ds =>
      show BR rr k (gd (Nat.beq ds.length n) (cs ds e0)) (gd (Nat.beq ds.length n) (cs ds e))
      cases Nat.beq ds.length n with
      | true => exact BSims.run (rr := rr) (k := k) (b := cs) (is := is) ds e0 e S
      | false => exact trivial
    | _ => exact trivial
  out := fun d e e' h => by
    cases d with
    | tuple ds =>
      have h : gd (Nat.beq ds.length n) (cs ds e) = .ok e' := h
      cases q : Nat.beq ds.length n with
      | true => rw [q] at h; exact BSims.out (rr := rr) (k := k) (b := cs) (is := is) ds e e' h
      | false => rw [q] at h; cases h
    | _ => cases h
/-! comprehensions -/
class SubL (is vs : List Nat) : Prop where
  sub : ∀ i ∈ is, i ∈ vs
class MemL (i : Nat) (vs : List Nat) : Prop where
  mem : i ∈ vs
instance meml_0 {i : Nat} {vs : List Nat} : MemL i (i :: vs) := ⟨List.mem_cons_self⟩
instance meml_s {i j : Nat} {vs : List Nat} [h : MemL i vs] : MemL i (j :: vs) := ⟨List.mem_cons_of_mem _ h.mem⟩
instance subl_nil {vs : List Nat} : SubL [] vs := ⟨fun i h => by cases h⟩
instance subl_cons {i : Nat} {is vs : List Nat} [h : MemL i vs] [h' : SubL is vs] : SubL (i :: is) vs := ⟨fun j hj => by
  rcases List.mem_cons.mp hj with rfl | hj
  · exact h.mem
  · exact h'.sub j hj⟩
instance subl_app {is js vs : List Nat} [h : SubL is vs] [h' : SubL js vs] : SubL (is ++ js) vs := ⟨fun j hj => by
  rcases List.mem_append.mp hj with hj | hj
  · exact h.sub j hj
  · exact h'.sub j hj⟩
theorem wipeE_get (e : LEnv) (vs : List Nat) (j : Nat) : (wipeE e vs)[j]? = if j ∈ vs then (if j < e.length then some none else none) else e[j]? := by
  induction vs with
  | nil => simp [wipeE]
  | cons v vs ih =>
    unfold wipeE
    rw [get_set, ih, wipeE_length]
    by_cases h : v = j
    · subst h; simp
    · have h' : ¬ j = v := fun q => h q.symm
      simp only [List.mem_cons, h, h', if_false, false_or]
/-- outside the comprehension's own slots nothing changes -/
structure FrV (k : Nat) (vs : List Nat) (e e' : LEnv) : Prop where
  len : e'.length = e.length
  at_ : ∀ i : Nat, i ≠ k → i ∉ vs → e'[i]? = e[i]? ∨ ∃ m ds, e[i]? = some (some (.ow m ds))
theorem FrV.trans {vs : List Nat} {a b c : LEnv} (h : FrV k vs a b) (h' : FrV k vs b c) : FrV k vs a c := ⟨h'.len.trans h.len, fun i hi hv => by
  rcases h.at_ i hi hv with e | e
  · rcases h'.at_ i hi hv with e' | ⟨m, ds, e'⟩
    · exact .inl (e'.trans e)
    · exact .inr ⟨m, ds, by rw [← e]; exact e'⟩
  · exact .inr e⟩
theorem Fr.v {vs : List Nat} {a b : LEnv} (h : Fr k a b) : FrV k vs a b := ⟨h.len, fun i hi _ => h.at_ i hi⟩
theorem FrV.wipe {vs : List Nat} (a : LEnv) : FrV k vs a (wipeE a vs) := ⟨wipeE_length a vs, fun i hi hv => .inl (by rw [wipeE_get, if_neg hv])⟩
theorem FrV.refl {vs : List Nat} (a : LEnv) : FrV k vs a a := ⟨rfl, fun i _ _ => .inl rfl⟩
def SimV {α : Type} (rr : RunM) (k : Nat) (vs : List Nat) (e0 e : LEnv) : RE α → RE α → Prop
  | .ok p, r => ∃ e', r = .ok (e', p.2) ∧ Sm rr k p.1 e' ∧ FrV k vs e0 p.1 ∧ FrV k vs e e'
  | .rai c, r => r = .rai c
  | .stuck, _ => True
theorem SimR.v {α : Type} {vs : List Nat} {r r' : RE α} (h : SimR rr k e0 e r r') : SimV rr k vs e0 e r r' := by
  cases r with
  | ok p => obtain ⟨e', h1, h2, h3, h4⟩ := h; exact ⟨e', h1, h2, h3.v, h4.v⟩
  | rai c => exact h
  | stuck => exact trivial
theorem SimV.bind {α β : Type} {vs : List Nat} {r r' : RE α} {f0 f : LEnv × α → RE β} (h : SimV rr k vs e0 e r r') (hf : ∀ a b0 b, Sm rr k b0 b → SimV rr k vs b0 b (f0 (b0, a)) (f (b, a))) : SimV rr k vs e0 e (r.bind f0) (r'.bind f) := by
  cases r with
  | ok p =>
    obtain ⟨p0, a⟩ := p
    obtain ⟨e', h1, h2, h3, h4⟩ := h
    subst h1
    have h5 := hf a p0 e' h2
    show SimV rr k vs e0 e (f0 (p0, a)) (f (e', a))
    cases q : f0 (p0, a) with
    | ok z =>
      rw [q] at h5
      obtain ⟨e2, g1, g2, g3, g4⟩ := h5
      exact ⟨e2, g1, g2, h3.trans g3, h4.trans g4⟩
    | rai c => rw [q] at h5; exact h5
    | stuck => exact trivial
  | rai c =>
    have h : r' = .rai c := h
    subst h
    exact (rfl : (R.rai c : RE β) = _)
  | stuck => exact trivial
theorem SimV.pre {α : Type} {vs : List Nat} {c0 c : LEnv} {r r' : RE α} (h0 : FrV k vs e0 c0) (h1 : FrV k vs e c) (h : SimV rr k vs c0 c r r') : SimV rr k vs e0 e r r' := by
  cases r with
  | ok p => obtain ⟨e', g1, g2, g3, g4⟩ := h; exact ⟨e', g1, g2, h0.trans g3, h1.trans g4⟩
  | rai c => exact h
  | stuck => exact trivial
theorem compL_sim {vs is : List Nat} {bb : Bi} [hb : BSim rr k bb is] (hs : ∀ i ∈ is, i ∈ vs) [Sim rr k t0 t] [Sim rr k f0 f] : ∀ (l : List PyData) (e0 e : LEnv), Sm rr k e0 e → SimV rr k vs e0 e (compL vs bb t0 f0 l e0) (compL vs bb t f l e)
  | [], e0, e, S => ⟨e, rfl, S, .refl _, .refl _⟩
  | d :: r, e0, e, S => by
    have h1 := hb.run d e0 e S
    unfold compL
    cases q : bb d e0 with
    | ok p =>
      rw [q] at h1
      obtain ⟨e', g1, g2, _⟩ := h1
      rw [g1]
      obtain ⟨l1, o1⟩ := hb.out d e0 p q
      obtain ⟨l2, o2⟩ := hb.out d e e' g1
      refine SimV.pre (c0 := p) (c := e') ⟨l1, fun i _ hv => .inl (o1 i fun z => hv (hs i z))⟩ ⟨l2, fun i _ hv => .inl (o2 i fun z => hv (hs i z))⟩ ?_
      refine (SimR.v (SimR.noRai (Sim.run (f0 := t0) (f := t) p e' g2))).bind fun tv b0 b S1 => ?_
      cases tv with
      | true =>
        refine (SimR.v (SimR.noRai (Sim.run (f0 := f0) (f := f) b0 b S1))).bind fun y c0 c S2 => ?_
        refine SimV.pre (FrV.wipe c0) (FrV.wipe c) ((compL_sim hs r _ _ (S2.wipe vs)).bind fun z d0 d S3 => ⟨d, rfl, S3, .refl _, .refl _⟩)
      | false => exact SimV.pre (FrV.wipe b0) (FrV.wipe b) (compL_sim hs r _ _ (S1.wipe vs))
    | rai c => exact trivial
    | stuck => exact trivial
theorem Sm.restore {b0 b : LEnv} (S : Sm rr k e0 e) (S1 : Sm rr k b0 b) (vs : List Nat) : Sm rr k (LW.restore e0 b0 vs) (LW.restore e b vs) where
  len := by rw [restore_length, restore_length, S1.len]
  at_ := fun i s hi q => by
    rw [restore_get] at q ⊢
    by_cases hv : i ∈ vs
    · rw [if_pos hv] at q ⊢
      by_cases hl : i < b0.length
      · rw [if_pos hl] at q
        rw [if_pos (by rw [← S1.len]; exact hl)]
        have q := Option.some.inj q
        unfold keepSh at q
        split at q
        · rename_i d hd
          rw [S.at_ i _ hi hd]
          exact congrArg some q
        · cases q
      · rw [if_neg hl] at q; cases q
    · rw [if_neg hv] at q ⊢; exact S1.at_ i s hi q
  dc := fun s q => by
    rw [restore_get] at q ⊢
    by_cases hv : k ∈ vs
    · rw [if_pos hv] at q
      split at q
      · have q := Option.some.inj q
        unfold keepSh at q
        split at q
        · rename_i d hd
          obtain ⟨p, d', h1, _⟩ := S.dc _ hd
          cases h1
        · cases q
      · cases q
    · rw [if_neg hv] at q ⊢; exact S1.dc s q
theorem Fr.restore {b : LEnv} {vs : List Nat} (h : FrV k vs e b) : Fr k e (LW.restore e b vs) := ⟨by rw [restore_length, h.len], fun i hi => by
  rw [restore_get]
  by_cases hv : i ∈ vs
  · rw [if_pos hv, h.len]
    by_cases hl : i < e.length
    · rw [if_pos hl]
      cases q : e[i]? with
      | none => rw [List.getElem?_eq_none_iff] at q; omega
      | some o =>
        cases o with
        | none => exact .inl rfl
        | some s =>
          cases s with
          | sh d => exact .inl rfl
          | ow m ds => exact .inr ⟨m, ds, rfl⟩
    · rw [if_neg hl, List.getElem?_eq_none (by omega)]; exact .inl rfl
  · rw [if_neg hv]; exact h.at_ i hi hv⟩
instance sim_comp {vs is : List Nat} {bb : Bi} [BSim rr k bb is] [hs : SubL is vs] [Sim rr k a0 a] [Sim rr k t0 t] [Sim rr k f0 f] : Sim rr k (mComp vs a0 bb t0 f0) (mComp vs a bb t f) := ⟨fun e0 e S => (Sim.run (f0 := a0) (f := a) e0 e S).bind fun l b0 b S1 => .gd (by
  have h := SimV.pre (FrV.wipe b0) (FrV.wipe b) (compL_sim (bb := bb) (is := is) (t0 := t0) (t := t) (f0 := f0) (f := f) hs.sub l _ _ (S1.wipe vs))
  show SimR rr k b0 b ((compL vs bb t0 f0 l (wipeE b0 vs)).bind fun z => .ok (restore b0 z.1 vs, PyData.list z.2)) ((compL vs bb t f l (wipeE b vs)).bind fun z => .ok (restore b z.1 vs, PyData.list z.2))
  cases q : compL vs bb t0 f0 l (wipeE b0 vs) with
  | ok z =>
    rw [q] at h
    obtain ⟨e', g1, g2, g3, g4⟩ := h
    rw [g1]
    exact ⟨_, rfl, S1.restore g2 vs, Fr.restore g3, Fr.restore g4⟩
  | rai c =>
    rw [q] at h
    have h : compL vs bb t f l (wipeE b vs) = .rai c := h
    rw [h]
    exact (rfl : (R.rai c : RE PyData) = _)
  | stuck => exact trivial)⟩
end
end LW

namespace LW
open PySem PySem.Spec PyProof.Rows L2
/-! ### statements -/
def RelS (rr : RunM) (k : Nat) : RS → RS → Prop
  | .nx p, r => ∃ e', r = .nx e' ∧ Sm rr k p e'
  | .rt p d, r => ∃ e', r = .rt e' d ∧ Sm rr k p e'
  | .bk p, r => ∃ e', r = .bk e' ∧ Sm rr k p e'
  | .ct p, r => ∃ e', r = .ct e' ∧ Sm rr k p e'
  | .rai c, r => r = .rai c
  | .stuck, _ => True
class SimS (rr : RunM) (k : Nat) (m0 m : MS) : Prop where
  run : ∀ e0 e, Sm rr k e0 e → RelS rr k (m0 e0) (m e)
section
variable {rr : RunM} {k : Nat} {f0 f g0 g h0 h : M} {a0 a b0 b : MA} {t0 t u0 u : MT} {e0 e : LEnv} {m0 m n0 n : MS}
theorem RelS.bind {α : Type} {r r' : RE α} {w0 w : LEnv × α → RS} (h : SimR rr k e0 e r r') (hf : ∀ x b0 b, Sm rr k b0 b → RelS rr k (w0 (b0, x)) (w (b, x))) : RelS rr k (bindS r w0) (bindS r' w) := by
  cases r with
  | ok p =>
    obtain ⟨p0, x⟩ := p
    obtain ⟨e', h1, h2, _, _⟩ := h
    subst h1
    exact hf x p0 e' h2
  | rai c =>
    have h : r' = .rai c := h
    subst h
    exact (rfl : (RS.rai c : RS) = _)
  | stuck => exact trivial
instance sims_next : SimS rr k mNext mNext := ⟨fun e0 e S => ⟨e, rfl, S⟩⟩
instance sims_break : SimS rr k mBreak mBreak := ⟨fun e0 e S => ⟨e, rfl, S⟩⟩
instance sims_cont : SimS rr k mCont mCont := ⟨fun e0 e S => ⟨e, rfl, S⟩⟩
instance sims_rai {c : Nat} : SimS rr k (mRai c) (mRai c) := ⟨fun e0 e S => (rfl : (RS.rai c : RS) = _)⟩
instance sims_seq [SimS rr k m0 m] [SimS rr k n0 n] : SimS rr k (mSeq m0 n0) (mSeq m n) := ⟨fun e0 e S => by
  have h1 := SimS.run (m0 := m0) (m := m) e0 e S
  unfold mSeq
  cases q : m0 e0 with
  | nx p => rw [q] at h1; obtain ⟨e', g1, g2⟩ := h1; rw [g1]; exact SimS.run (m0 := n0) (m := n) p e' g2
  | rt p d => rw [q] at h1; obtain ⟨e', g1, g2⟩ := h1; rw [g1]; exact ⟨e', rfl, g2⟩
  | bk p => rw [q] at h1; obtain ⟨e', g1, g2⟩ := h1; rw [g1]; exact ⟨e', rfl, g2⟩
  | ct p => rw [q] at h1; obtain ⟨e', g1, g2⟩ := h1; rw [g1]; exact ⟨e', rfl, g2⟩
  | rai c => rw [q] at h1; have h1 : m e = .rai c := h1; rw [h1]; exact (rfl : (RS.rai c : RS) = _)
  | stuck => exact trivial⟩
instance sims_if [Sim rr k t0 t] [SimS rr k m0 m] [SimS rr k n0 n] : SimS rr k (mIfS t0 m0 n0) (mIfS t m n) := ⟨fun e0 e S => RelS.bind (Sim.run (f0 := t0) (f := t) e0 e S) fun x b0 b S1 => by
  cases x with
  | true => exact SimS.run (m0 := m0) (m := m) b0 b S1
  | false => exact SimS.run (m0 := n0) (m := n) b0 b S1⟩
instance sims_ret [Sim rr k f0 f] : SimS rr k (mRet f0) (mRet f) := ⟨fun e0 e S => RelS.bind (Sim.run (f0 := f0) (f := f) e0 e S) fun x b0 b S1 => ⟨b, rfl, S1⟩⟩
instance sims_drop [Sim rr k f0 f] : SimS rr k (mDrop f0) (mDrop f) := ⟨fun e0 e S => RelS.bind (Sim.run (f0 := f0) (f := f) e0 e S) fun x b0 b S1 => ⟨b, rfl, S1⟩⟩
instance sims_asg {bb : Bi} {is : List Nat} [hb : BSim rr k bb is] [Sim rr k f0 f] : SimS rr k (mAsg bb f0) (mAsg bb f) := ⟨fun e0 e S => RelS.bind (Sim.run (f0 := f0) (f := f) e0 e S) fun x c0 c S1 => by
  have h1 := hb.run x c0 c S1
  show RelS rr k (match bb x c0 with | .ok e => .nx e | _ => .stuck) (match bb x c with | .ok e => .nx e | _ => .stuck)
  cases q : bb x c0 with
  | ok p => rw [q] at h1; obtain ⟨e', g1, g2, _⟩ := h1; rw [g1]; exact ⟨e', rfl, g2⟩
  | rai c => exact trivial
  | stuck => exact trivial⟩
instance sims_par {i j : Nat} [NeK k i] [NeK k j] [Sim rr k a0 a] : SimS rr k (mPar i j a0) (mPar i j a) := ⟨fun e0 e S => RelS.bind (Sim.run (f0 := a0) (f := a) e0 e S) fun x c0 c S1 => by
  match x with
  | [p, q] => exact ⟨_, rfl, (S1.set NeK.ne _).set NeK.ne _⟩
  | [] => exact trivial
  | [_] => exact trivial
  | _ :: _ :: _ :: _ => exact trivial⟩
theorem forL_sim {bb : Bi} {is : List Nat} [hb : BSim rr k bb is] [SimS rr k m0 m] : ∀ (l : List PyData) (e0 e : LEnv), Sm rr k e0 e → RelS rr k (forL bb m0 l e0) (forL bb m l e)
  | [], e0, e, S => ⟨e, rfl, S⟩
  | d :: r, e0, e, S => by
    have h1 := hb.run d e0 e S
    unfold forL
    cases q : bb d e0 with
    | ok p =>
      rw [q] at h1
      obtain ⟨e', g1, g2, _⟩ := h1
      rw [g1]
      have h2 := SimS.run (m0 := m0) (m := m) p e' g2
      dsimp only
      cases q2 : m0 p with
      | nx p2 => rw [q2] at h2; obtain ⟨e2, k1, k2⟩ := h2; rw [k1]; exact forL_sim r p2 e2 k2
      | ct p2 => rw [q2] at h2; obtain ⟨e2, k1, k2⟩ := h2; rw [k1]; exact forL_sim r p2 e2 k2
      | bk p2 => rw [q2] at h2; obtain ⟨e2, k1, k2⟩ := h2; rw [k1]; exact ⟨e2, rfl, k2⟩
      | rt p2 d2 => rw [q2] at h2; obtain ⟨e2, k1, k2⟩ := h2; rw [k1]; exact ⟨e2, rfl, k2⟩
      | rai c => rw [q2] at h2; have h2 : m e' = .rai c := h2; rw [h2]; exact (rfl : (RS.rai c : RS) = _)
      | stuck => exact trivial
    | rai c => exact trivial
    | stuck => exact trivial
instance sims_for {bb : Bi} {is : List Nat} [BSim rr k bb is] [Sim rr k a0 a] [SimS rr k m0 m] : SimS rr k (mFor a0 bb m0) (mFor a bb m) := ⟨fun e0 e S => RelS.bind (Sim.run (f0 := a0) (f := a) e0 e S) fun x c0 c S1 => forL_sim (is := is) x c0 c S1⟩
instance sims_own {i : Nat} [NeK k i] [Sim rr k a0 a] : SimS rr k (mOwn i a0) (mOwn i a) := ⟨fun e0 e S => RelS.bind (Sim.run (f0 := a0) (f := a) e0 e S) fun x c0 c S1 => by
  show RelS rr k (match Nat.blt i c0.length with | true => .nx (c0.set i (some (.ow false x))) | false => .stuck) (match Nat.blt i c.length with | true => .nx (c.set i (some (.ow false x))) | false => .stuck)
  rw [S1.len]
  cases Nat.blt i c.length with
  | true => exact ⟨_, rfl, S1.set NeK.ne _⟩
  | false => exact trivial⟩
instance simn_lst [Sim rr k a0 a] : Sim rr k (nLst a0) (nLst a) := ⟨fun e0 e S => (Sim.run (f0 := a0) (f := a) e0 e S).bind fun _ _ _ S1 => .gd (.ok S1 _)⟩
end
/-! ### the sets of small states that a text goes through -/
def sameA (f : PyData → PyData → Bool) : List PyData → List PyData → Bool
  | [], [] => true
  | x :: xs, y :: ys => f x y && sameA f xs ys
  | _, _ => false
def sameK (f : PyData → PyData → Bool) : List (PyData × PyData) → List (PyData × PyData) → Bool
  | [], [] => true
  | (x, x2) :: xs, (y, y2) :: ys => f x y && f x2 y2 && sameK f xs ys
  | _, _ => false
def sameF : Nat → PyData → PyData → Bool
  | _, .int a, .int b => ieq a b
  | _, .str a, .str b => a == b
  | _, .bool a, .bool b => a == b
  | _, .none, .none => true
  | n + 1, .tuple xs, .tuple ys => sameA (sameF n) xs ys
  | n + 1, .list xs, .list ys => sameA (sameF n) xs ys
  | n + 1, .dict xs, .dict ys => sameK (sameF n) xs ys
  | _, _, _ => false
theorem sameA_ok {f : PyData → PyData → Bool} (hf : ∀ a b, f a b = true → a = b) : ∀ {xs ys : List PyData}, sameA f xs ys = true → xs = ys
  | [], [], _ => rfl
  | [], _ :: _, h => by cases h
  | _ :: _, [], h => by cases h
  | x :: xs, y :: ys, h => by
    obtain ⟨h1, h2⟩ := Bool.and_eq_true_iff.mp (show (f x y && sameA f xs ys) = true from h)
    rw [hf _ _ h1, sameA_ok hf h2]
theorem sameK_ok {f : PyData → PyData → Bool} (hf : ∀ a b, f a b = true → a = b) : ∀ {xs ys : List (PyData × PyData)}, sameK f xs ys = true → xs = ys
  | [], [], _ => rfl
  | [], _ :: _, h => by cases h
  | _ :: _, [], h => by cases h
  | (x, x2) :: xs, (y, y2) :: ys, h => by
    obtain ⟨h1, h2⟩ := Bool.and_eq_true_iff.mp (show ((f x y && f x2 y2) && sameK f xs ys) = true from h)
    obtain ⟨h3, h4⟩ := Bool.and_eq_true_iff.mp h1
    rw [hf _ _ h3, hf _ _ h4, sameK_ok hf h2]
theorem sameF_ok : ∀ (n : Nat) (a b : PyData), sameF n a b = true → a = b
  | 0, a, b, h => by
    cases a <;> cases b <;> first | (exact congrArg _ (ieq_ok h)) | (exact congrArg _ (eq_of_beq h)) | rfl | cases h
  | n + 1, a, b, h => by
    cases a <;> cases b <;> first
      | (exact congrArg _ (sameA_ok (sameF_ok n) h))
      | (exact congrArg _ (sameK_ok (sameF_ok n) h))
      | (exact congrArg _ (ieq_ok h))
      | rfl
      | (exact congrArg _ (eq_of_beq h))
      | cases h
/-- what is said of a slot holds there -/
def leS : Option Sl → Option Sl → Bool
  | none, _ => true
  | some (.sh a), some (.sh b) => sameF 12 a b
  | some (.ow m xs), some (.ow n ys) => (m == n) && sameA (sameF 12) xs ys
  | _, _ => false
theorem leS_ok {s : Sl} {o : Option Sl} (h : leS (some s) o = true) : o = some s := by
  cases s with
  | sh a =>
    match o, h with
    | some (.sh b), h => rw [sameF_ok 12 a b h]
  | ow m xs =>
    match o, h with
    | some (.ow n ys), h =>
      obtain ⟨h1, h2⟩ := Bool.and_eq_true_iff.mp (show ((m == n) && sameA (sameF 12) xs ys) = true from h)
      rw [eq_of_beq h1, sameA_ok (sameF_ok 12) h2]
def subP : LEnv → LEnv → Bool
  | [], [] => true
  | s :: r, t :: u => leS s t && subP r u
  | _, _ => false
def leK : Option Sl → Option Sl → Bool
  | some (.ow true []), some (.ow true _) => true
  | _, _ => false
/-- a small state says less than another (of the dice: that they are there) -/
def subE : Nat → LEnv → LEnv → Bool
  | 0, s :: r, t :: u => leK s t && subP r u
  | k + 1, s :: r, t :: u => leS s t && subE k r u
  | _, _, _ => false
theorem subP_at : ∀ {a b : LEnv}, subP a b = true → a.length = b.length ∧ ∀ (i : Nat) s, a[i]? = some (some s) → b[i]? = some (some s)
  | [], [], _ => ⟨rfl, fun i s h => by cases h⟩
  | [], _ :: _, h => by cases h
  | _ :: _, [], h => by cases h
  | x :: a, y :: b, h => by
    obtain ⟨h1, h2⟩ := Bool.and_eq_true_iff.mp (show (leS x y && subP a b) = true from h)
    obtain ⟨l, o⟩ := subP_at h2
    refine ⟨by rw [List.length_cons, List.length_cons, l], fun i s q => ?_⟩
    cases i with
    | zero =>
      have q : x = some s := Option.some.inj q
      subst q
      rw [leS_ok h1]; rfl
    | succ i => exact o i s q
theorem subE_at : ∀ {k : Nat} {a b : LEnv}, subE k a b = true → a.length = b.length ∧ (∀ (i : Nat) s, i ≠ k → a[i]? = some (some s) → b[i]? = some (some s)) ∧ a[k]? = some (some (.ow true [])) ∧ ∃ ds, b[k]? = some (some (.ow true ds))
  | 0, [], _, h => by cases h
  | 0, _ :: _, [], h => by cases h
  | 0, x :: a, y :: b, h => by
    obtain ⟨h1, h2⟩ := Bool.and_eq_true_iff.mp (show (leK x y && subP a b) = true from h)
    obtain ⟨l, o⟩ := subP_at h2
    refine ⟨by rw [List.length_cons, List.length_cons, l], fun i s hi q => ?_, ?_⟩
    · cases i with
      | zero => exact absurd rfl hi
      | succ i => exact o i s q
    · unfold leK at h1
      split at h1
      · exact ⟨rfl, _, rfl⟩
      · cases h1
  | k + 1, [], _, h => by cases h
  | k + 1, _ :: _, [], h => by cases h
  | k + 1, x :: a, y :: b, h => by
    obtain ⟨h1, h2⟩ := Bool.and_eq_true_iff.mp (show (leS x y && subE k a b) = true from h)
    obtain ⟨l, o, p, q⟩ := subE_at h2
    refine ⟨by rw [List.length_cons, List.length_cons, l], fun i s hi q => ?_, p, q⟩
    cases i with
    | zero =>
      have q : x = some s := Option.some.inj q
      subst q
      rw [leS_ok h1]; rfl
    | succ i => exact o i s (fun z => hi (by rw [z])) q
section
variable {rr : RunM} {k : Nat} {e0 e l : LEnv}
theorem Sm.sub (S : Sm rr k e0 e) (h : subE k l e0 = true) : Sm rr k l e := by
  obtain ⟨h1, h2, h3, ds, h4⟩ := subE_at h
  exact {
    len := h1.trans S.len
    at_ := fun i s hi q => S.at_ i s hi (h2 i s hi q)
    dc := fun s q => by
      rw [h3] at q
      cases q
      obtain ⟨p, d, g1, g2, g3⟩ := S.dc _ h4
      exact ⟨[], d, rfl, g2, g3.valid⟩ }
def Cov (rr : RunM) (k : Nat) (S : List LEnv) (e : LEnv) : Prop := ∃ e0 ∈ S, Sm rr k e0 e
def Good (rr : RunM) (k : Nat) (S : List LEnv) (m : MS) (S' : List LEnv) : Prop := ∀ e, Cov rr k S e → ∃ e', m e = .nx e' ∧ Cov rr k S' e'
def No (rr : RunM) (k : Nat) (S : List LEnv) (c : MT) : Prop := ∀ e, Cov rr k S e → ∃ e', c e = .ok (e', false) ∧ Cov rr k S e'
/-- dice that can be rolled -/
structure Dice (rr : RunM) : Prop where
  roll : ∀ d, Valid d → ∀ m : Nat, 0 < m → m < 1000000 → ∃ d' r, rr d [.int (.ofNat m)] = .ok (d', .int (.ofNat r)) ∧ r < m ∧ Valid d'
def headR (r : Nat) : Path → Option Path
  | (_, s) :: p => bif Nat.beq s r then some p else none
  | [] => none
def headM (m : Nat) : Path → Bool
  | (n, _) :: _ => Nat.beq n m
  | [] => false
/-- the paths are all ways that rolls can go -/
def compl : Nat → List Path → Bool
  | _, [[]] => true
  | n + 1, ((m, r) :: p) :: ps => Nat.blt 0 m && (Nat.blt m 1000000 && ((((m, r) :: p) :: ps).all (headM m) && (List.range m).all fun s => compl n ((((m, r) :: p) :: ps).filterMap (headR s))))
  | _, _ => false
theorem compl_ok (D : Dice rr) : ∀ (n : Nat) (ps : List Path), compl n ps = true → ∀ d, Valid d → ∃ p ∈ ps, Rl rr d p := by
  intro n
  induction n with
  | zero =>
    intro ps h d hd
    match ps, h with
    | [[]], _ => exact ⟨[], List.mem_singleton.mpr rfl, hd⟩
  | succ n ih =>
    intro ps h d hd
    match ps, h with
    | [[]], _ => exact ⟨[], List.mem_singleton.mpr rfl, hd⟩
    | ((m, r) :: p) :: ps, h =>
      have h : (Nat.blt 0 m && (Nat.blt m 1000000 && ((((m, r) :: p) :: ps).all (headM m) && (List.range m).all fun s => compl n ((((m, r) :: p) :: ps).filterMap (headR s))))) = true := h
      obtain ⟨h1, h⟩ := Bool.and_eq_true_iff.mp h
      obtain ⟨h2, h⟩ := Bool.and_eq_true_iff.mp h
      obtain ⟨h3, h4⟩ := Bool.and_eq_true_iff.mp h
      obtain ⟨d', s, g1, g2, g3⟩ := D.roll d hd m (Nat.le_of_ble_eq_true h1) (Nat.le_of_ble_eq_true h2)
      obtain ⟨q, hq, hr⟩ := ih _ (List.all_eq_true.mp h4 s (List.mem_range.mpr g2)) d' g3
      obtain ⟨x, hx, ex⟩ := List.mem_filterMap.mp hq
      have hm := List.all_eq_true.mp h3 x hx
      cases x with
      | nil => cases hm
      | cons z y =>
        obtain ⟨n', s'⟩ := z
        have hm : Nat.beq n' m = true := hm
        have ex : (bif Nat.beq s' s then some y else none) = some q := ex
        cases c : Nat.beq s' s with
        | true =>
          rw [c] at ex
          have ex : y = q := Option.some.inj ex
          have e1 := Nat.eq_of_beq_eq_true c
          have e2 := Nat.eq_of_beq_eq_true hm
          refine ⟨(n', s') :: y, hx, hd, d', ?_, by rw [ex]; exact hr⟩
          rw [e1, e2]; exact g1
        | false => rw [c] at ex; cases ex
def isDc (k : Nat) (e : LEnv) : Bool := match nth e k with
  | some (some (.ow true [])) => true
  | _ => false
def runSt (k : Nat) (m0 : MS) (S' : List LEnv) (e0 : LEnv) : List (Path × Nat) → Bool
  | [] => true
  | (p, j) :: r => (match m0 (e0.set k (some (.ow true (pathD p)))) with
    | .nx e1 => (match nth S' j with
      | some l => subE k l e1
      | none => false)
    | _ => false) && runSt k m0 S' e0 r
def runAll (k : Nat) (m0 : MS) (S' : List LEnv) : List LEnv → List (List (Path × Nat)) → Bool
  | [], [] => true
  | e :: S, ps :: r => isDc k e && (compl 64 (ps.map (·.1)) && (runSt k m0 S' e ps && runAll k m0 S' S r))
  | _, _ => false
theorem Sm.path (S : Sm rr k e0 e) {p : Path} {d : List PyData} (hd : e[k]? = some (some (.ow true d))) (hr : Rl rr d p) : Sm rr k (e0.set k (some (.ow true (pathD p)))) e where
  len := by rw [List.length_set, S.len]
  at_ := fun i s hi q => by rw [List.getElem?_set_ne (fun z => hi z.symm)] at q; exact S.at_ i s hi q
  dc := fun s q => by
    have hl : k < e0.length := by rw [S.len]; exact (List.getElem?_eq_some_iff.mp hd).1
    rw [List.getElem?_set_self hl] at q
    cases q
    exact ⟨p, d, rfl, hd, hr⟩
theorem runSt_ok {m0 : MS} {S' : List LEnv} {p : Path} : ∀ {ps : List (Path × Nat)}, runSt k m0 S' e0 ps = true → p ∈ ps.map (·.1) → ∃ e1 l, m0 (e0.set k (some (.ow true (pathD p)))) = .nx e1 ∧ l ∈ S' ∧ subE k l e1 = true
  | [], _, hp => by cases hp
  | (q, j) :: r, h, hp => by
    obtain ⟨h1, h2⟩ := Bool.and_eq_true_iff.mp (show ((match m0 (e0.set k (some (.ow true (pathD q)))) with | .nx e1 => (match nth S' j with | some l => subE k l e1 | none => false) | _ => false) && runSt k m0 S' e0 r) = true from h)
    rcases List.mem_cons.mp hp with z | hp
    · have z : p = q := z
      subst z
      split at h1
      · rename_i e1 he
        split at h1
        · rename_i l hl
          rw [nth_eq] at hl
          exact ⟨e1, l, he, List.mem_of_getElem? hl, h1⟩
        · cases h1
      · cases h1
    · exact runSt_ok h2 hp
theorem good_run (D : Dice rr) {m0 m : MS} {S' : List LEnv} [SimS rr k m0 m] : ∀ {S : List LEnv} {P : List (List (Path × Nat))}, runAll k m0 S' S P = true → Good rr k S m S'
  | [], [], _ => fun e ⟨e0, h, _⟩ => by cases h
  | [], _ :: _, h => by cases h
  | _ :: _, [], h => by cases h
  | e1 :: S, ps :: r, h => by
    obtain ⟨h1, h⟩ := Bool.and_eq_true_iff.mp (show (isDc k e1 && (compl 64 (ps.map (·.1)) && (runSt k m0 S' e1 ps && runAll k m0 S' S r))) = true from h)
    obtain ⟨h2, h⟩ := Bool.and_eq_true_iff.mp h
    obtain ⟨h3, h4⟩ := Bool.and_eq_true_iff.mp h
    intro e ⟨e0, hm, Se⟩
    rcases List.mem_cons.mp hm with z | hm
    · subst z
      unfold isDc at h1
      split at h1
      · rename_i hk
        rw [nth_eq] at hk
        obtain ⟨p0, d, g1, g2, g3⟩ := Se.dc _ hk
        obtain ⟨p, hp, hr⟩ := compl_ok D 64 _ h2 d g3.valid
        obtain ⟨e2, l, k1, k2, k3⟩ := runSt_ok h3 hp
        have s := SimS.run (rr := rr) (k := k) (m0 := m0) (m := m) _ e (Se.path g2 hr)
        rw [k1] at s
        obtain ⟨e', s1, s2⟩ := s
        exact ⟨e', s1, l, k2, s2.sub k3⟩
      · cases h1
    · exact good_run D (S := S) h4 e ⟨e0, hm, Se⟩
theorem good_seq {a b : MS} {S S1 S2 : List LEnv} (h1 : Good rr k S a S1) (h2 : Good rr k S1 b S2) : Good rr k S (mSeq a b) S2 := fun e c => by
  obtain ⟨e1, g1, c1⟩ := h1 e c
  obtain ⟨e2, g2, c2⟩ := h2 e1 c1
  exact ⟨e2, by unfold mSeq; rw [g1]; exact g2, c2⟩
theorem good_if {c : MT} {a : MS} {S : List LEnv} (h : No rr k S c) : Good rr k S (mIfS c a mNext) S := fun e q => by
  obtain ⟨e', g, c'⟩ := h e q
  exact ⟨e', by unfold mIfS; rw [g]; rfl, c'⟩
theorem no_or {c d : MT} {S : List LEnv} (h1 : No rr k S c) (h2 : No rr k S d) : No rr k S (mtOr c d) := fun e q => by
  obtain ⟨e1, g1, c1⟩ := h1 e q
  obtain ⟨e2, g2, c2⟩ := h2 e1 c1
  exact ⟨e2, by unfold mtOr; rw [g1]; exact g2, c2⟩
/-- fewer states are enough for a part of the text that knows less -/
theorem good_sub {m : MS} {S S1 S2 : List LEnv} (h : Good rr k S m S1) (h0 : ∀ e, Cov rr k S2 e → Cov rr k S e) : Good rr k S2 m S1 := fun e c => h e (h0 e c)
/-- no list of one's own but the dice -/
def noOw : Nat → LEnv → Bool
  | _, [] => true
  | 0, _ :: r => noOw r.length.succ r
  | k + 1, some (.ow _ _) :: _ => false
  | k + 1, _ :: r => noOw k r
def chkAll (k : Nat) (c0 : MT) : List LEnv → Bool
  | [] => true
  | q :: Q => (match c0 q with
    | .ok (e1, false) => (match nth e1 k with
      | some (some (.ow true _)) => true
      | _ => false)
    | _ => false) && chkAll k c0 Q
def covAll (k : Nat) (Q : List LEnv) : List LEnv → List Nat → Bool
  | [], [] => true
  | e :: S, j :: js => (noOw k e && isDc k e) && ((match nth Q j with
    | some q => subE k q e
    | none => false) && covAll k Q S js)
  | _, _ => false
theorem noOw_at : ∀ {k : Nat} {e : LEnv}, noOw k e = true → ∀ (i : Nat) s, i ≠ k → e[i]? = some (some s) → ∃ d, s = .sh d
  | _, [], _, i, s, _, q => by cases q
  | 0, x :: r, h, i, s, hi, q => by
    have h : noOw r.length.succ r = true := h
    cases i with
    | zero => exact absurd rfl hi
    | succ i =>
      have q : r[i]? = some (some s) := q
      have hl : i < r.length := (List.getElem?_eq_some_iff.mp q).1
      exact noOw_at h i s (by omega) q
  | k + 1, x :: r, h, i, s, hi, q => by
    match x, h with
    | none, h =>
      cases i with
      | zero => cases q
      | succ i => exact noOw_at (show noOw k r = true from h) i s (fun z => hi (by rw [z])) q
    | some (.sh d), h =>
      cases i with
      | zero => cases q; exact ⟨d, rfl⟩
      | succ i => exact noOw_at (show noOw k r = true from h) i s (fun z => hi (by rw [z])) q
theorem chkAll_ok {c0 : MT} {q : LEnv} : ∀ {Q : List LEnv}, chkAll k c0 Q = true → q ∈ Q → ∃ e1 ds, c0 q = .ok (e1, false) ∧ e1[k]? = some (some (.ow true ds))
  | [], _, hq => by cases hq
  | x :: Q, h, hq => by
    obtain ⟨h1, h2⟩ := Bool.and_eq_true_iff.mp (show ((match c0 x with | .ok (e1, false) => (match nth e1 k with | some (some (.ow true _)) => true | _ => false) | _ => false) && chkAll k c0 Q) = true from h)
    rcases List.mem_cons.mp hq with z | hq
    · subst z
      split at h1
      · rename_i e1 he
        split at h1
        · rename_i ds hk
          rw [nth_eq] at hk
          exact ⟨e1, ds, he, hk⟩
        · cases h1
      · cases h1
    · exact chkAll_ok h2 hq
theorem covAll_ok {Q : List LEnv} : ∀ {S : List LEnv} {js : List Nat}, covAll k Q S js = true → e0 ∈ S → (noOw k e0 && isDc k e0) = true ∧ ∃ q ∈ Q, subE k q e0 = true
  | [], _, _, h => by cases h
  | _ :: _, [], h, _ => by cases h
  | x :: S, j :: js, h, hm => by
    obtain ⟨h1, h⟩ := Bool.and_eq_true_iff.mp (show ((noOw k x && isDc k x) && ((match nth Q j with | some q => subE k q x | none => false) && covAll k Q S js)) = true from h)
    obtain ⟨h2, h3⟩ := Bool.and_eq_true_iff.mp h
    rcases List.mem_cons.mp hm with z | hm
    · subst z
      refine ⟨h1, ?_⟩
      split at h2
      · rename_i q hq
        rw [nth_eq] at hq
        exact ⟨q, List.mem_of_getElem? hq, h2⟩
      · cases h2
    · exact covAll_ok h3 hm
theorem no_chk {c0 c : MT} {S Q : List LEnv} {js : List Nat} [Sim rr k c0 c] (h1 : covAll k Q S js = true) (h2 : chkAll k c0 Q = true) : No rr k S c := fun e ⟨e0, hm, Se⟩ => by
  obtain ⟨n0, q, hq, hs⟩ := covAll_ok h1 hm
  obtain ⟨n0, n1⟩ := Bool.and_eq_true_iff.mp n0
  obtain ⟨e1, ds, g1, g2⟩ := chkAll_ok h2 hq
  have s := Sim.run (rr := rr) (k := k) (f0 := c0) (f := c) q e (Se.sub hs)
  rw [g1] at s
  obtain ⟨e', s1, s2, _, s4⟩ := s
  refine ⟨e', s1, e0, hm, ?_⟩
  exact {
    len := Se.len.trans s4.len.symm
    at_ := fun i s hi w => by
      obtain ⟨d, rfl⟩ := noOw_at n0 i s hi w
      have w2 := Se.at_ i _ hi w
      rcases s4.at_ i hi with z | ⟨m, ds, z⟩
      · rw [z]; exact w2
      · rw [w2] at z; cases z
    dc := fun s w => by
      unfold isDc at n1
      split at n1
      · rename_i hk
        rw [nth_eq] at hk
        rw [hk] at w
        cases w
        obtain ⟨p', d', v1, v2, v3⟩ := s2.dc _ g2
        exact ⟨[], d', rfl, v2, v3.valid⟩
      · cases n1 }
end
end LW
namespace LW
open PySem PySem.Spec PyProof.Rows L2
section
variable {rr : RunM} {k : Nat}
def covSub (k : Nat) (Q : List LEnv) : List LEnv → List Nat → Bool
  | [], [] => true
  | e :: S, j :: js => (match nth Q j with
    | some q => subE k q e
    | none => false) && covSub k Q S js
  | _, _ => false
theorem covSub_ok {Q : List LEnv} {e0 : LEnv} : ∀ {S : List LEnv} {js : List Nat}, covSub k Q S js = true → e0 ∈ S → ∃ q ∈ Q, subE k q e0 = true
  | [], _, _, h => by cases h
  | _ :: _, [], h, _ => by cases h
  | x :: S, j :: js, h, hm => by
    obtain ⟨h2, h3⟩ := Bool.and_eq_true_iff.mp (show ((match nth Q j with | some q => subE k q x | none => false) && covSub k Q S js) = true from h)
    rcases List.mem_cons.mp hm with z | hm
    · subst z
      split at h2
      · rename_i q hq
        rw [nth_eq] at hq
        exact ⟨q, List.mem_of_getElem? hq, h2⟩
      · cases h2
    · exact covSub_ok h3 hm
theorem good_up {m : MS} {S S1 S2 : List LEnv} {js : List Nat} (h : Good rr k S m S1) (h2 : covSub k S2 S1 js = true) : Good rr k S m S2 := fun e c => by
  obtain ⟨e', g, e0, hm, Se⟩ := h e c
  obtain ⟨q, hq, hs⟩ := covSub_ok h2 hm
  exact ⟨e', g, q, hq, Se.sub hs⟩
end
end LW
namespace LW
open PySem PySem.Spec PyProof.Rows L2
section
variable {rr : RunM} {k : Nat}
theorem good_app {m : MS} {A B S : List LEnv} (h1 : Good rr k A m S) (h2 : Good rr k B m S) : Good rr k (A ++ B) m S := fun e ⟨e0, hm, Se⟩ => by
  rcases List.mem_append.mp hm with z | z
  · exact h1 e ⟨e0, z, Se⟩
  · exact h2 e ⟨e0, z, Se⟩
theorem chk_app {c : MT} : ∀ {A B : List LEnv}, chkAll k c A = true → chkAll k c B = true → chkAll k c (A ++ B) = true
  | [], B, _, h => h
  | x :: A, B, h, h2 => by
    obtain ⟨a, b⟩ := Bool.and_eq_true_iff.mp (show ((match c x with | .ok (e1, false) => (match nth e1 k with | some (some (.ow true _)) => true | _ => false) | _ => false) && chkAll k c A) = true from h)
    exact Bool.and_eq_true_iff.mpr ⟨a, chk_app b h2⟩
end
end LW

namespace LW
open PySem PySem.Spec PyProof.Rows L2
/-! ### the law's own dice: the same text in each law -/
def k_roll : MS := (mSeq (mIfS (mtOr (mtB (mOp iEq (mIxV 0 (mC (.int 2))) (mC (.int 2)))) (mtAnd (mtB (mOp iEq (mIxV 0 (mC (.int 2))) (mC (.int 1)))) (mtB (mOp (iCmp fun i j => decide (j < i)) (mIxV 0 (mC (.int 0))) (mC (.int 0)))))) (mSeq (mAsg (bName 2) (mOp iMod (mCa cInt (maCons (mIxV 0 (mC (.int 0))) maNil)) (mVar 1)))
  (mSeq (mSetV 0 (mC (.int 0)) (mOp iDiv (mIxV 0 (mC (.int 0))) (mVar 1)))
  (mRet (mVar 2)))) mNext)
  (mSeq (mSetV 0 (mC (.int 2)) (mC (.int 0)))
  (mSeq (mSetV 0 (mC (.int 0)) (mOp iMod (mCa cInt (maCons (mOp iAddA (mOp iAddA (mOp iMulA (mIxV 0 (mC (.int 0))) (mC (.int 48271))) (mOp iMulA (mIxV 0 (mC (.int 1))) (mC (.int 69621)))) (mC (.int 11))) maNil)) (mC (.int 2147483647))))
  (mSeq (mSetV 0 (mC (.int 1)) (mOp iAddA (mIxV 0 (mC (.int 1))) (mC (.int 1))))
  (mRet (mOp iMod (mCa cInt (maCons (mOp iAddA (mOp iDiv (mIxV 0 (mC (.int 0))) (mC (.int 7))) (mIxV 0 (mC (.int 0)))) maNil)) (mVar 1)))))))
def kr_roll : RunM := runM 3 k_roll
def k_dice : MS := (mSeq (mIfS (mtB (mChain (iCmp fun i j => decide (i < j)) (iCmp fun i j => decide (i < j)) (mOp iSub (mC (.int 0)) (mC (.int 10))) (mVar 0) (mC (.int 10)))) (mRet (mLst (maCons (mCa cAbs (maCons (mVar 0) maNil)) (maCons (mC (.int 0)) (maCons (mC (.int 2)) maNil))))) mNext)
  (mRet (mLst (maCons (mVar 0) (maCons (mOp iAddA (mC (.int 1)) (mOp iMod (mCa cInt (maCons (mVar 0) maNil)) (mC (.int 1009)))) (maCons (mCa cInt (maCons (mOp (iCmp fun i j => decide (j ≤ i)) (mVar 0) (mOp iPow (mC (.int 10)) (mC (.int 18)))) maNil)) maNil))))))
def kr_dice : List PyData → R PyData := runS 1 k_dice
def k_rounds : MS := (mSeq (mIfS (mtB (mOp iEq (mVar 2) (mLst maNil))) (mAsg (bName 2) (mLst (maCons (mC (.int 0)) maNil))) mNext)
  (mRet (mComp [3] (miSeq (mVar 2)) (bName 3) mtYes (mCall 1 kr_dice (maCons (mVar 3) maNil)))))
section
theorem ixD0 (a : PyData) (r : List PyData) : ixD 0 (a :: r) = .ok a := rfl
theorem ixD1 (a b : PyData) (r : List PyData) : ixD 1 (a :: b :: r) = .ok b := rfl
theorem ixD2 (a b c : PyData) (r : List PyData) : ixD 2 (a :: b :: c :: r) = .ok c := rfl
theorem set0 (a b c v : PyData) (r : LEnv) : setAt 0 (some (.ow true [a, b, c]) :: r) (.int 0) v = .nx (some (.ow true [v, b, c]) :: r) := rfl
theorem set1 (a b c v : PyData) (r : LEnv) : setAt 0 (some (.ow true [a, b, c]) :: r) (.int 1) v = .nx (some (.ow true [a, v, c]) :: r) := rfl
theorem set2 (a b c v : PyData) (r : LEnv) : setAt 0 (some (.ow true [a, b, c]) :: r) (.int 2) v = .nx (some (.ow true [a, b, v]) :: r) := rfl
theorem blt_of {n m : Nat} (h : n < m) : Nat.blt n m = true := Nat.ble_eq_true_of_le h
theorem divOk_of {n : Int} (h0 : 0 < n) (h1 : n < 1000000) : divOk n = true ∧ notZ n = true := by
  cases n with
  | negSucc m => exact absurd h0 (by omega)
  | ofNat m =>
    cases m with
    | zero => exact absurd h0 (by decide)
    | succ m =>
      have h1 : m + 1 < 1073741824 := by
        have : ((m + 1 : Nat) : Int) < 1000000 := h1
        omega
      refine ⟨?_, rfl⟩
      unfold divOk
      exact Bool.and_eq_true_iff.mpr ⟨rfl, blt_of h1⟩
theorem roll_ok (x y t : Int) (n : Int) (n0 : 0 < n) (n1 : n < 1000000) : ∃ (x' y' t' v : Int), kr_roll [.int x, .int y, .int t] [.int n] = .ok ([.int x', .int y', .int t'], .int v) ∧ 0 ≤ v ∧ v < n := by
  obtain ⟨g2, g1⟩ := divOk_of n0 n1
  have g3 : lowI 48271 = true := rfl
  have g4 : lowI 69621 = true := rfl
  have g5 : notZ 2147483647 = true := rfl
  have g6 : divOk 7 = true := rfl
  by_cases h : (t == 2) = true ∨ ((t == 1) = true ∧ decide (0 < x) = true)
  · refine ⟨x.fdiv n, y, t, x.fmod n, ?_, Int.fmod_nonneg_of_pos _ n0, Int.fmod_lt_of_pos _ n0⟩
    rcases h with h | ⟨h1, h2⟩
    · simp [mtOr, mtAnd, mtB, mtTru, mOp, mCall, mCallM, mCallStar, maCons, maNil, mIxV, mVar, mC, nth, LW.R.bind, lif, gd, iNe, iEq, iMulA, iAddA, iSub, iIx, iCmp, mIf, mTup, mLst, mIfS, bindS, mSeq, mNext, mRet, mRai, mAsg, bName, eqF, eqA, shF, shA, deep, noRai, mUn, uNeg, truD, seqOf, mCa, cGcd, cInt, runM, outM, outT, startM, startE, iDiv, iMod, mSetV, LW.small, kr_roll, k_roll, h, g1, g2, ixD0, ixD1, ixD2, set0, set1, set2]
    · have h3 : (t == 2) = false := by
        have := eq_of_beq h1
        subst this; rfl
      simp [mtOr, mtAnd, mtB, mtTru, mOp, mCall, mCallM, mCallStar, maCons, maNil, mIxV, mVar, mC, nth, LW.R.bind, lif, gd, iNe, iEq, iMulA, iAddA, iSub, iIx, iCmp, mIf, mTup, mLst, mIfS, bindS, mSeq, mNext, mRet, mRai, mAsg, bName, eqF, eqA, shF, shA, deep, noRai, mUn, uNeg, truD, seqOf, mCa, cGcd, cInt, runM, outM, outT, startM, startE, iDiv, iMod, mSetV, LW.small, kr_roll, k_roll, h1, h2, h3, g1, g2, ixD0, ixD1, ixD2, set0, set1, set2]
  · have h3 : (t == 2) = false := by
      cases q : (t == 2) with
      | true => exact absurd (.inl q) h
      | false => rfl
    refine ⟨(x * 48271 + y * 69621 + 11).fmod 2147483647, y + 1, 0, (((x * 48271 + y * 69621 + 11).fmod 2147483647).fdiv 7 + (x * 48271 + y * 69621 + 11).fmod 2147483647).fmod n, ?_, Int.fmod_nonneg_of_pos _ n0, Int.fmod_lt_of_pos _ n0⟩
    cases q1 : (t == 1) with
    | false => simp [mtOr, mtAnd, mtB, mtTru, mOp, mCall, mCallM, mCallStar, maCons, maNil, mIxV, mVar, mC, nth, LW.R.bind, lif, gd, iNe, iEq, iMulA, iAddA, iSub, iIx, iCmp, mIf, mTup, mLst, mIfS, bindS, mSeq, mNext, mRet, mRai, mAsg, bName, eqF, eqA, shF, shA, deep, noRai, mUn, uNeg, truD, seqOf, mCa, cGcd, cInt, runM, outM, outT, startM, startE, iDiv, iMod, mSetV, LW.small, kr_roll, k_roll, q1, h3, g1, g2, g3, g4, g5, g6, ixD0, ixD1, ixD2, set0, set1, set2]
    | true =>
      have q2 : decide (0 < x) = false := by
        cases q : decide (0 < x) with
        | true => exact absurd (.inr ⟨q1, q⟩) h
        | false => rfl
      simp [mtOr, mtAnd, mtB, mtTru, mOp, mCall, mCallM, mCallStar, maCons, maNil, mIxV, mVar, mC, nth, LW.R.bind, lif, gd, iNe, iEq, iMulA, iAddA, iSub, iIx, iCmp, mIf, mTup, mLst, mIfS, bindS, mSeq, mNext, mRet, mRai, mAsg, bName, eqF, eqA, shF, shA, deep, noRai, mUn, uNeg, truD, seqOf, mCa, cGcd, cInt, runM, outM, outT, startM, startE, iDiv, iMod, mSetV, LW.small, kr_roll, k_roll, q1, q2, h3, g1, g2, g3, g4, g5, g6, ixD0, ixD1, ixD2, set0, set1, set2]
theorem dice_gen : Dice kr_roll := ⟨fun d ⟨x, y, t, hd⟩ m h0 h1 => by
  subst hd
  obtain ⟨x', y', t', v, e, v0, v1⟩ := roll_ok x y t (.ofNat m) (Int.ofNat_lt.mpr h0) (Int.ofNat_lt.mpr h1)
  match v, v0, v1, e with
  | .ofNat r, _, v1, e => exact ⟨_, r, e, Int.ofNat_lt.mp v1, x', y', t', rfl⟩⟩
theorem dice_eqG (z : Int) : kr_dice [.int z] = .ok (.list (intsD (diceOf z))) := by
  have g1 : powOk 10 18 = true := rfl
  have g2 : notZ 1009 = true := rfl
  have g3 : ((10 : Int) ^ (Int.toNat 18)) = 10 ^ 18 := rfl
  have g4 : ((0 : Int) - 10) = -10 := rfl
  have ab : (if z < 0 then -z else z) = (z.natAbs : Int) := by split <;> omega
  by_cases h1 : -10 < z
  · by_cases h2 : z < 10
    · have e : diceOf z = [(z.natAbs : Int), 0, 2] := if_pos ⟨h1, h2⟩
      rw [e]
      simp [mtOr, mtAnd, mtB, mtTru, mOp, mCall, mCallM, mCallStar, maCons, maNil, mIxV, mVar, mC, nth, LW.R.bind, lif, gd, iNe, iEq, iMulA, iAddA, iSub, iIx, iCmp, mIf, mTup, mLst, mIfS, bindS, mSeq, mNext, mRet, mRai, mAsg, bName, eqF, eqA, shF, shA, deep, noRai, mUn, uNeg, truD, seqOf, mCa, cAbs, cInt, iDiv, iMod, iPow, LW.small, mtYes, miSeq, mChain, runS, outS, startE, kr_dice, k_dice, g4, h1, h2, ab]
    · have e : diceOf z = [z, 1 + z.fmod 1009, if (10 : Int) ^ 18 ≤ z then 1 else 0] := if_neg fun h => h2 h.2
      rw [e]
      simp [mtOr, mtAnd, mtB, mtTru, mOp, mCall, mCallM, mCallStar, maCons, maNil, mIxV, mVar, mC, nth, LW.R.bind, lif, gd, iNe, iEq, iMulA, iAddA, iSub, iIx, iCmp, mIf, mTup, mLst, mIfS, bindS, mSeq, mNext, mRet, mRai, mAsg, bName, eqF, eqA, shF, shA, deep, noRai, mUn, uNeg, truD, seqOf, mCa, cAbs, cInt, iDiv, iMod, iPow, LW.small, mtYes, miSeq, mChain, runS, outS, startE, kr_dice, k_dice, g4, h1, h2, g1, g2, g3]
  · have e : diceOf z = [z, 1 + z.fmod 1009, if (10 : Int) ^ 18 ≤ z then 1 else 0] := if_neg fun h => h1 h.1
    rw [e]
    simp [mtOr, mtAnd, mtB, mtTru, mOp, mCall, mCallM, mCallStar, maCons, maNil, mIxV, mVar, mC, nth, LW.R.bind, lif, gd, iNe, iEq, iMulA, iAddA, iSub, iIx, iCmp, mIf, mTup, mLst, mIfS, bindS, mSeq, mNext, mRet, mRai, mAsg, bName, eqF, eqA, shF, shA, deep, noRai, mUn, uNeg, truD, seqOf, mCa, cAbs, cInt, iDiv, iMod, iPow, LW.small, mtYes, miSeq, mChain, runS, outS, startE, kr_dice, k_dice, g4, h1, g1, g2, g3]
end
abbrev slI (i : Int) : Option Sl := some (.sh (.int i))
abbrev slD (d : PyData) : Option Sl := some (.sh d)
def roundE : M := mCall 1 kr_dice (maCons (mVar 3) maNil)
theorem round1 (z : Int) : roundE [none, slI 1, slD (.list [.int z]), slI z] = .ok ([none, slI 1, slD (.list [.int z]), slI z], .list (intsD (diceOf z))) := by
  show lif _ (kr_dice [.int z]) = _
  rw [dice_eqG]
  rfl
theorem roundsC (z : Int) : compL [3] (bName 3) mtYes roundE [.int z] [none, slI 1, slD (.list [.int z]), none] = .ok ([none, slI 1, slD (.list [.int z]), none], [.list (intsD (diceOf z))]) := by
  show (noRai (roundE [none, slI 1, slD (.list [.int z]), slI z])).bind _ = _
  rw [round1]
  rfl
theorem roundsR (z : Int) : mRet (mComp [3] (miSeq (mVar 2)) (bName 3) mtYes roundE) [none, slI 1, slD (.list [.int z]), none] = .rt [none, slI 1, slD (.list [.int z]), none] (.list [.list (intsD (diceOf z))]) := by
  have h : mComp [3] (miSeq (mVar 2)) (bName 3) mtYes roundE [none, slI 1, slD (.list [.int z]), none] = .ok ([none, slI 1, slD (.list [.int z]), none], .list [.list (intsD (diceOf z))]) := by
    show (compL [3] (bName 3) mtYes roundE [.int z] [none, slI 1, slD (.list [.int z]), none]).bind _ = _
    rw [roundsC]
    rfl
  unfold mRet
  rw [h]
  rfl
theorem rounds0 : ∃ e, k_rounds [none, some (.sh (.int 1)), some (.sh (.list [])), none] = .rt e (.list [.list (intsD (diceOf 0))]) := ⟨_, roundsR 0⟩
theorem rounds1 (z : Int) : ∃ e, k_rounds [none, some (.sh (.int 1)), some (.sh (.list [.int z])), none] = .rt e (.list [.list (intsD (diceOf z))]) := ⟨_, roundsR z⟩
/-- the loop's start, as the sets of states begin -/
theorem cov_start (n : Nat) (z : Int) (hn : 2 ≤ n) : Cov kr_roll 1 [none :: some (.ow true []) :: List.replicate (n - 2) none] (startL n (diceOf z)) := by
  refine ⟨_, List.mem_singleton.mpr rfl, ?_⟩
  exact {
    len := rfl
    at_ := fun i s hi q => by
      match i, hi, q with
      | 0, _, q => cases q
      | 1, hi, _ => exact absurd rfl hi
      | i + 2, _, q =>
        rw [List.getElem?_cons_succ, List.getElem?_cons_succ, List.getElem?_replicate] at q
        split at q <;> cases q
    dc := fun s q => by
      cases q
      refine ⟨[], intsD (diceOf z), rfl, rfl, ?_⟩
      unfold diceOf
      split
      · exact ⟨_, _, _, rfl⟩
      · exact ⟨_, _, _, rfl⟩ }
theorem cov_end {rr : RunM} {k n : Nat} {S : List LEnv} {m : MS} {e : LEnv} {S0 : List LEnv} (h : Good rr k S0 m S) (c : Cov rr k S0 e) (hl : S.all (fun e => Nat.beq e.length n) = true) : ∃ e', m e = .nx e' ∧ e'.length = n := by
  obtain ⟨e', g, e0, hm, Se⟩ := h e c
  exact ⟨e', g, Se.len.symm.trans (Nat.eq_of_beq_eq_true (List.all_eq_true.mp hl e0 hm))⟩
instance : NeK 1 0 := ⟨by decide⟩
instance : NeK 1 2 := ⟨by decide⟩
instance : NeK 1 3 := ⟨by decide⟩
instance : NeK 1 4 := ⟨by decide⟩
instance : NeK 1 5 := ⟨by decide⟩
instance : NeK 1 6 := ⟨by decide⟩
instance : NeK 1 7 := ⟨by decide⟩
instance : NeK 1 8 := ⟨by decide⟩
instance : NeK 1 9 := ⟨by decide⟩
instance : NeK 1 10 := ⟨by decide⟩
instance : NeK 1 11 := ⟨by decide⟩
instance : NeK 1 12 := ⟨by decide⟩
instance : NeK 1 13 := ⟨by decide⟩
instance : NeK 1 14 := ⟨by decide⟩
instance : NeK 1 15 := ⟨by decide⟩
instance : NeK 1 16 := ⟨by decide⟩
instance : NeK 1 17 := ⟨by decide⟩
instance : NeK 1 18 := ⟨by decide⟩
instance : NeK 1 19 := ⟨by decide⟩
instance : NeK 1 20 := ⟨by decide⟩
instance : NeK 1 21 := ⟨by decide⟩
instance : NeK 1 22 := ⟨by decide⟩
instance : NeK 1 23 := ⟨by decide⟩
instance : NeK 1 24 := ⟨by decide⟩
instance : NeK 1 25 := ⟨by decide⟩
instance : NeK 1 26 := ⟨by decide⟩
instance : NeK 1 27 := ⟨by decide⟩
instance : NeK 1 28 := ⟨by decide⟩
instance : NeK 1 29 := ⟨by decide⟩
instance : NeK 1 30 := ⟨by decide⟩
instance : NeK 1 31 := ⟨by decide⟩
instance : NeK 1 32 := ⟨by decide⟩
instance : NeK 1 33 := ⟨by decide⟩
instance : NeK 1 34 := ⟨by decide⟩
instance : NeK 1 35 := ⟨by decide⟩
instance : NeK 1 36 := ⟨by decide⟩
instance : NeK 1 37 := ⟨by decide⟩
instance : NeK 1 38 := ⟨by decide⟩
instance : NeK 1 39 := ⟨by decide⟩
instance : NeK 1 40 := ⟨by decide⟩
instance : NeK 1 41 := ⟨by decide⟩
instance : NeK 1 42 := ⟨by decide⟩
instance : NeK 1 43 := ⟨by decide⟩
instance : NeK 1 44 := ⟨by decide⟩
instance : NeK 1 45 := ⟨by decide⟩
instance : NeK 1 46 := ⟨by decide⟩
instance : NeK 1 47 := ⟨by decide⟩
instance : NeK 0 1 := ⟨by decide⟩
instance : NeK 0 2 := ⟨by decide⟩
instance : NeK 0 3 := ⟨by decide⟩
instance : NeK 0 4 := ⟨by decide⟩
instance : NeK 0 5 := ⟨by decide⟩
instance : NeK 0 6 := ⟨by decide⟩
instance : NeK 0 7 := ⟨by decide⟩
instance : NeK 0 8 := ⟨by decide⟩
instance : NeK 0 9 := ⟨by decide⟩
instance : NeK 0 10 := ⟨by decide⟩
instance : NeK 0 11 := ⟨by decide⟩
instance : NeK 0 12 := ⟨by decide⟩
instance : NeK 0 13 := ⟨by decide⟩
instance : NeK 0 14 := ⟨by decide⟩
instance : NeK 0 15 := ⟨by decide⟩
instance : NeK 0 16 := ⟨by decide⟩
instance : NeK 0 17 := ⟨by decide⟩
instance : NeK 0 18 := ⟨by decide⟩
instance : NeK 0 19 := ⟨by decide⟩
instance : NeK 0 20 := ⟨by decide⟩
instance : NeK 0 21 := ⟨by decide⟩
instance : NeK 0 22 := ⟨by decide⟩
instance : NeK 0 23 := ⟨by decide⟩
end LW

namespace LW
open PySem PySem.Spec PyProof.Rows L2
/-! ### swifter accounts of defs -/
class Swf (run0 run : List PyData → R PyData) : Prop where
  eq : ∀ ds, run0 ds ≠ .stuck → run ds = run0 ds
section
variable {rr : RunM} {k : Nat} {a0 a : MA} {f0 f : M}
instance (priority := low) sim_callS {n : Nat} {run0 run : List PyData → R PyData} [Swf run0 run] [Sim rr k a0 a] : Sim rr k (mCall n run0 a0) (mCall n run a) := ⟨fun e0 e S => (Sim.run (f0 := a0) (f := a) e0 e S).bind fun ds b0 b S1 => .gd (by
  cases q : run0 ds with
  | ok d => rw [Swf.eq (run0 := run0) (run := run) ds (by rw [q]; exact fun z => by cases z), q]; exact .lif S1 _
  | rai c => rw [Swf.eq (run0 := run0) (run := run) ds (by rw [q]; exact fun z => by cases z), q]; exact .lif S1 _
  | stuck => exact trivial)⟩
theorem startE_own {n : Nat} {ds : List PyData} {i : Nat} {s : Sl} (h : (startE n ds)[i]? = some (some s)) : ∃ d, s = .sh d := by
  rw [startE_get] at h
  split at h
  · cases q : ds[i]? with
    | none => rw [q] at h; cases h
    | some d => rw [q] at h; cases h; exact ⟨d, rfl⟩
  · split at h <;> cases h
/-- a def whose text is told by swifter ones -/
theorem swf_def {n : Nat} {m0 m : MS} (hn : n ≤ 99) (S : SimS orc 99 m0 m) : Swf (fun ds => bif Nat.ble ds.length n then runS n m0 ds else .stuck) (runS n m) := ⟨fun ds h => by
  cases c : Nat.ble ds.length n with
  | false => simp only [c] at h; exact absurd rfl h
  | true =>
    have hl := Nat.le_of_ble_eq_true c
    simp only [c] at h ⊢
    have len : (startE n ds).length = n := by unfold startE; rw [List.length_append, List.length_map, List.length_replicate]; omega
    have s := S.run (startE n ds) (startE n ds) {
      len := rfl
      at_ := fun _ _ _ q => q
      dc := fun s q => by rw [List.getElem?_eq_none (by rw [len]; omega)] at q; cases q }
    show outS (m (startE n ds)) = outS (m0 (startE n ds))
    cases q : m0 (startE n ds) with
    | nx p => rw [q] at s; obtain ⟨e', g, _⟩ := s; rw [g]; rfl
    | rt p d => rw [q] at s; obtain ⟨e', g, _⟩ := s; rw [g]; rfl
    | bk p => rw [q] at s; obtain ⟨e', g, _⟩ := s; rw [g]; rfl
    | ct p => rw [q] at s; obtain ⟨e', g, _⟩ := s; rw [g]; rfl
    | rai c' => rw [q] at s; have s : m (startE n ds) = .rai c' := s; rw [s]
    | stuck =>
      have h : runS n m0 ds ≠ .stuck := h
      exact absurd (by unfold runS; rw [q]; rfl) h⟩
end
/-! ### lists put one behind another -/
def k_flat : MS := (mSeq (mAsg (bName 1) (mLst maNil))
  (mSeq (mFor (miSeq (mVar 0)) (bName 2) (mAsg (bName 1) (mOp iAddA (mVar 1) (mVar 2))))
  (mRet (mVar 1))))
def flatD : List PyData → Option (List PyData)
  | [] => some []
  | .list r :: rest => (match flatD rest with
    | some l => some (r ++ l)
    | none => none)
  | _ => none
def sw_flat : List PyData → R PyData
  | [.list rows] => (match flatD rows with
    | some l => gd (Nat.ble l.length small) (.ok (.list l))
    | none => .stuck)
  | _ => .stuck
theorem flat_loop (R0 : Option Sl) : ∀ (rows l acc : List PyData) (x : Option Sl), flatD rows = some l → (acc ++ l).length ≤ small →
    ∃ x', forL (bName 2) (mAsg (bName 1) (mOp iAddA (mVar 1) (mVar 2))) rows [R0, slD (.list acc), x] = .nx [R0, slD (.list (acc ++ l)), x']
  | [], l, acc, x, h, _ => by cases h; exact ⟨x, by rw [List.append_nil]; rfl⟩
  | d :: rest, l, acc, x, h, hl => by
    match d, h with
    | .list r, h =>
      cases q : flatD rest with
      | none => simp [flatD, q] at h
      | some l2 =>
        simp [flatD, q] at h
        subst h
        have c : Nat.ble (acc.length + r.length) small = true := Nat.ble_eq_true_of_le (by
          rw [List.length_append, List.length_append] at hl
          omega)
        obtain ⟨x', e⟩ := flat_loop R0 rest l2 (acc ++ r) (slD (.list r)) q (by rw [List.append_assoc]; exact hl)
        refine ⟨x', ?_⟩
        rw [List.append_assoc] at e
        rw [← e]
        show (match (bindS (lif [R0, slD (.list acc), slD (.list r)] (gd (Nat.ble (acc.length + r.length) small) (.ok (.list (acc ++ r))))) fun p => match bName 1 p.2 p.1 with | .ok e => .nx e | _ => .stuck) with | .nx e2 => forL (bName 2) (mAsg (bName 1) (mOp iAddA (mVar 1) (mVar 2))) rest e2 | .ct e2 => forL (bName 2) (mAsg (bName 1) (mOp iAddA (mVar 1) (mVar 2))) rest e2 | .bk e2 => .nx e2 | .rt e2 d2 => .rt e2 d2 | .rai c => .rai c | .stuck => .stuck) = _
        rw [c]
        rfl
theorem swf_flat : Swf sw_flat (runS 3 k_flat) := ⟨fun ds h => by
  match ds, h with
  | [.list rows], h =>
    have h : (match flatD rows with | some l => gd (Nat.ble l.length small) (R.ok (PyData.list l)) | none => .stuck) ≠ .stuck := h
    show runS 3 k_flat [.list rows] = (match flatD rows with | some l => gd (Nat.ble l.length small) (R.ok (PyData.list l)) | none => .stuck)
    cases q : flatD rows with
    | none => simp only [q] at h; exact absurd rfl h
    | some l =>
      simp only [q] at h ⊢
      cases c : Nat.ble l.length small with
      | false => rw [c] at h; exact absurd rfl h
      | true =>
        obtain ⟨x', e⟩ := flat_loop (slD (.list rows)) rows l [] none q (by rw [List.nil_append]; exact Nat.le_of_ble_eq_true c)
        show outS (match (forL (bName 2) (mAsg (bName 1) (mOp iAddA (mVar 1) (mVar 2))) rows [slD (.list rows), slD (.list []), none]) with | .nx e => mRet (mVar 1) e | x => x) = _
        rw [e]
        rfl⟩
instance : NeK 99 0 := ⟨by decide⟩
instance : NeK 99 1 := ⟨by decide⟩
instance : NeK 99 2 := ⟨by decide⟩
instance : NeK 99 3 := ⟨by decide⟩
instance : NeK 99 4 := ⟨by decide⟩
instance : NeK 99 5 := ⟨by decide⟩
instance : NeK 99 6 := ⟨by decide⟩
instance : NeK 99 7 := ⟨by decide⟩
instance : NeK 99 8 := ⟨by decide⟩
instance : NeK 99 9 := ⟨by decide⟩
instance : NeK 99 10 := ⟨by decide⟩
instance : NeK 99 11 := ⟨by decide⟩
instance : NeK 99 12 := ⟨by decide⟩
instance : NeK 99 13 := ⟨by decide⟩
instance : NeK 99 14 := ⟨by decide⟩
instance : NeK 99 15 := ⟨by decide⟩
instance : NeK 99 16 := ⟨by decide⟩
instance : NeK 99 17 := ⟨by decide⟩
instance : NeK 99 18 := ⟨by decide⟩
instance : NeK 99 19 := ⟨by decide⟩
instance : NeK 99 20 := ⟨by decide⟩
instance : NeK 99 21 := ⟨by decide⟩
instance : NeK 99 22 := ⟨by decide⟩
instance : NeK 99 23 := ⟨by decide⟩
end LW

namespace K2
open PySem PySem.Spec PyProof.Rows L2 LW
def top (i : Nat) : Stmt := PySem.Challenge.pw_luckwright_k02_how_many_ways.main.body.getD i (.Pass ⟨0, 0, 0, 0⟩)
section
variable {P : Program} {w : World} {K : PySem.W.Frag} {mg : Str → Option Value} {base : Heap} {C : Cl}
abbrev s_law_told : Stmt := top 33
theorem sc_law_told : FnScope ["what"] ["what"] (defScope s_law_told) := ⟨rfl, rfl, rfl, by decide +kernel, rfl, by decide +kernel, by decide +kernel⟩
structure ToldI (P : Program) (w : World) (K : PySem.W.Frag) (mg : Str → Option Value) (base : Heap) (C : Cl) : Prop where
  ex : ∃ (lT : List (Addr × Str)) (g : Addr) (fdT : FuncData), ToldL K C nmT lT ∧ mg "_law_told" = some (.ref g) ∧ FunD K "_law_told" "_law_told" (defArgs s_law_told) (defBody s_law_told) (defScope s_law_told) [] [] g fdT ∧
    ∀ (cdg : Value) (A : Around) (outer : List PySem.Env) (s : Shared) (H : Hp), HdsOk (cxOf C8.CX0 P w K mg base ["what"] "_law_told" (defScope s_law_told) g cdg A outer s H C8.E0).nox (hdsOf (defBody s_law_told)) (hdL lT)

abbrev s_check_count : Stmt := top 15
def m_check_count : MS := (mSeq (mIfS (mtB (mOp (iCmp fun i j => decide (i < j)) (mVar 0) (mC (.int 0)))) (mRai 5) mNext)
  (mRet (mVar 0)))
def r_check_count : List PyData → R PyData := runS 1 m_check_count
theorem sc_check_count : FnScope ["many"] ["many"] (defScope s_check_count) := ⟨rfl, rfl, rfl, by decide +kernel, rfl, by decide +kernel, by decide +kernel⟩
theorem ok_check_count {f : Addr} {fd : FuncData} (F : FunD K "check_count" "check_count" (defArgs s_check_count) (defBody s_check_count) (defScope s_check_count) [] [] f fd) (gx : mg "check_count" = some (.ref f)) (X_BadSize : ExI K mg C "BadSize" 5) : FnI P w K mg base C 1 "check_count" 1 r_check_count := by
  have b : Binds K fd ["many"] [] := FunD.bindsN F fun _ _ _ _ _ _ us hl => match us, hl with | [_], _ => rfl
  obtain ⟨c_BadSize, e_BadSize⟩ := X_BadSize.ex
  exact ⟨f, fd, ["many"], fn_okD (N := ["many"]) F sc_check_count (by decide) (fun cdv A outer s H E hr => ⟨_,
   (b_cons (s_if (t_lt (d_var 0) d_int) (b_one (s_rai rfl (takes_of rfl rfl rfl rfl) e_BadSize.q PySem.F.excBase_ValueError e_BadSize.g e_BadSize.k e_BadSize.r rfl e_BadSize.c)) b_nil)
    (b_one (s_ret (d_var 0))))⟩), gx, F.kp, b⟩

abbrev s_factorial : Stmt := top 16
def m_factorial : MS := (mSeq (mDrop (mCall 1 r_check_count (maCons (mVar 0) maNil)))
  (mRet (mCa cPerm (maCons (mVar 0) (maCons (mVar 0) maNil)))))
def r_factorial : List PyData → R PyData := runS 1 m_factorial
theorem sc_factorial : FnScope ["many"] ["many"] (defScope s_factorial) := ⟨rfl, rfl, rfl, by decide +kernel, rfl, by decide +kernel, by decide +kernel⟩
theorem ok_factorial {f : Addr} {fd : FuncData} (F : FunD K "factorial" "factorial" (defArgs s_factorial) (defBody s_factorial) (defScope s_factorial) [] [] f fd) (gx : mg "factorial" = some (.ref f)) (F_check_count : FnI P w K mg base C 1 "check_count" 1 r_check_count) (b_perm : mg "perm" = some (.builtin "math.perm")) : FnI P w K mg base C 2 "factorial" 1 r_factorial := by
  have b : Binds K fd ["many"] [] := FunD.bindsN F fun _ _ _ _ _ _ us hl => match us, hl with | [_], _ => rfl
  exact ⟨f, fd, ["many"], fn_okD (N := ["many"]) F sc_factorial (by decide) (fun cdv A outer s H E hr => ⟨_,
   (b_cons (s_expr (d_call F_check_count (hr.mono (by decide)) (takes_of rfl rfl rfl rfl) rfl (d_cons (d_var 0) d_nil)))
    (b_one (s_ret (d_cf cr_perm cas_perm rfl b_perm (d_cons (d_var 0) (d_cons (d_var 0) d_nil))))))⟩), gx, F.kp, b⟩

abbrev s_choose : Stmt := top 17
def m_choose : MS := (mSeq (mDrop (mCall 1 r_check_count (maCons (mVar 0) maNil)))
  (mSeq (mIfS (mtB (mOp (iCmp fun i j => decide (i < j)) (mVar 1) (mC (.int 0)))) (mRet (mC (.int 0))) mNext)
  (mRet (mCa cComb (maCons (mVar 0) (maCons (mVar 1) maNil))))))
def r_choose : List PyData → R PyData := runS 2 m_choose
theorem sc_choose : FnScope ["many", "few"] ["many", "few"] (defScope s_choose) := ⟨rfl, rfl, rfl, by decide +kernel, rfl, by decide +kernel, by decide +kernel⟩
theorem ok_choose {f : Addr} {fd : FuncData} (F : FunD K "choose" "choose" (defArgs s_choose) (defBody s_choose) (defScope s_choose) [] [] f fd) (gx : mg "choose" = some (.ref f)) (F_check_count : FnI P w K mg base C 1 "check_count" 1 r_check_count) (b_comb : mg "comb" = some (.builtin "math.comb")) : FnI P w K mg base C 2 "choose" 2 r_choose := by
  have b : Binds K fd ["many", "few"] [] := FunD.bindsN F fun _ _ _ _ _ _ us hl => match us, hl with | [_, _], _ => rfl
  exact ⟨f, fd, ["many", "few"], fn_okD (N := ["many", "few"]) F sc_choose (by decide) (fun cdv A outer s H E hr => ⟨_,
   (b_cons (s_expr (d_call F_check_count (hr.mono (by decide)) (takes_of rfl rfl rfl rfl) rfl (d_cons (d_var 0) d_nil)))
    (b_cons (s_if (t_lt (d_var 1) d_int) (b_one (s_ret d_int)) b_nil)
    (b_one (s_ret (d_cf cr_comb cas_comb rfl b_comb (d_cons (d_var 0) (d_cons (d_var 1) d_nil)))))))⟩), gx, F.kp, b⟩

abbrev s_falling : Stmt := top 18
def m_falling : MS := (mRet (mCa cPerm (maCons (mCall 1 r_check_count (maCons (mVar 0) maNil)) (maCons (mCall 1 r_check_count (maCons (mVar 1) maNil)) maNil))))
def r_falling : List PyData → R PyData := runS 2 m_falling
theorem sc_falling : FnScope ["many", "few"] ["many", "few"] (defScope s_falling) := ⟨rfl, rfl, rfl, by decide +kernel, rfl, by decide +kernel, by decide +kernel⟩
theorem ok_falling {f : Addr} {fd : FuncData} (F : FunD K "falling" "falling" (defArgs s_falling) (defBody s_falling) (defScope s_falling) [] [] f fd) (gx : mg "falling" = some (.ref f)) (F_check_count : FnI P w K mg base C 1 "check_count" 1 r_check_count) (b_perm : mg "perm" = some (.builtin "math.perm")) : FnI P w K mg base C 2 "falling" 2 r_falling := by
  have b : Binds K fd ["many", "few"] [] := FunD.bindsN F fun _ _ _ _ _ _ us hl => match us, hl with | [_, _], _ => rfl
  exact ⟨f, fd, ["many", "few"], fn_okD (N := ["many", "few"]) F sc_falling (by decide) (fun cdv A outer s H E hr => ⟨_,
   (b_one (s_ret (d_cf cr_perm cas_perm rfl b_perm (d_cons (d_call F_check_count (hr.mono (by decide)) (takes_of rfl rfl rfl rfl) rfl (d_cons (d_var 0) d_nil)) (d_cons (d_call F_check_count (hr.mono (by decide)) (takes_of rfl rfl rfl rfl) rfl (d_cons (d_var 1) d_nil)) d_nil)))))⟩), gx, F.kp, b⟩

abbrev s_split_ways : Stmt := top 19
def m_split_ways : MS := (mSeq (mAsg (bName 1) (mC (.int 1)))
  (mSeq (mAsg (bName 2) (mC (.int 0)))
  (mSeq (mFor (miSeq (mVar 0)) (bName 3) (mSeq (mAsg (bName 2) (mOp iAddA (mVar 2) (mCall 1 r_check_count (maCons (mVar 3) maNil))))
  (mAsg (bName 1) (mOp iMulA (mVar 1) (mCall 2 r_choose (maCons (mVar 2) (maCons (mVar 3) maNil)))))))
  (mRet (mVar 1)))))
def r_split_ways : List PyData → R PyData := runS 4 m_split_ways
theorem sc_split_ways : FnScope ["sizes", "found", "many", "size"] ["sizes"] (defScope s_split_ways) := ⟨rfl, rfl, rfl, by decide +kernel, rfl, by decide +kernel, by decide +kernel⟩
theorem ok_split_ways {f : Addr} {fd : FuncData} (F : FunD K "split_ways" "split_ways" (defArgs s_split_ways) (defBody s_split_ways) (defScope s_split_ways) [] [] f fd) (gx : mg "split_ways" = some (.ref f)) (F_check_count : FnI P w K mg base C 1 "check_count" 1 r_check_count) (F_choose : FnI P w K mg base C 2 "choose" 2 r_choose) : FnI P w K mg base C 3 "split_ways" 1 r_split_ways := by
  have b : Binds K fd ["sizes"] [] := FunD.bindsN F fun _ _ _ _ _ _ us hl => match us, hl with | [_], _ => rfl
  exact ⟨f, fd, ["sizes"], fn_okD (N := ["sizes", "found", "many", "size"]) F sc_split_ways (by decide) (fun cdv A outer s H E hr => ⟨_,
   (b_cons (s_asg d_int (g_name 1 sc_split_ways.nd))
    (b_cons (s_asg d_int (g_name 2 sc_split_ways.nd))
    (b_cons (s_for (passes_of rfl) rfl (i_seq (d_var 0)) (g_name 3 sc_split_ways.nd) (b_cons (s_asg (d_addA (d_var 2) (d_call F_check_count (hr.mono (by decide)) (takes_of rfl rfl rfl rfl) rfl (d_cons (d_var 3) d_nil))) (g_name 2 sc_split_ways.nd))
    (b_one (s_asg (d_mulA (d_var 1) (d_call F_choose (hr.mono (by decide)) (takes_of rfl rfl rfl rfl) rfl (d_cons (d_var 2) (d_cons (d_var 3) d_nil)))) (g_name 1 sc_split_ways.nd)))))
    (b_one (s_ret (d_var 1))))))⟩), gx, F.kp, b⟩

abbrev s_none_home : Stmt := top 20
def m_none_home : MS := (mSeq (mDrop (mCall 1 r_check_count (maCons (mVar 0) maNil)))
  (mSeq (mAsg (bName 1) (mC (.int 1)))
  (mSeq (mAsg (bName 2) (mC (.int 1)))
  (mSeq (mFor (miR rg2 (maCons (mC (.int 1)) (maCons (mOp iAddA (mVar 0) (mC (.int 1))) maNil))) (bName 3) (mSeq (mAsg (bName 2) (mUn uNeg (mVar 2)))
  (mAsg (bName 1) (mOp iAddA (mOp iMulA (mVar 1) (mVar 3)) (mVar 2)))))
  (mRet (mVar 1))))))
def r_none_home : List PyData → R PyData := runS 4 m_none_home
theorem sc_none_home : FnScope ["many", "found", "sign", "count"] ["many"] (defScope s_none_home) := ⟨rfl, rfl, rfl, by decide +kernel, rfl, by decide +kernel, by decide +kernel⟩
theorem ok_none_home {f : Addr} {fd : FuncData} (F : FunD K "none_home" "none_home" (defArgs s_none_home) (defBody s_none_home) (defScope s_none_home) [] [] f fd) (gx : mg "none_home" = some (.ref f)) (F_check_count : FnI P w K mg base C 1 "check_count" 1 r_check_count) (n_range : mg "range" = none) : FnI P w K mg base C 2 "none_home" 1 r_none_home := by
  have b : Binds K fd ["many"] [] := FunD.bindsN F fun _ _ _ _ _ _ us hl => match us, hl with | [_], _ => rfl
  exact ⟨f, fd, ["many"], fn_okD (N := ["many", "found", "sign", "count"]) F sc_none_home (by decide) (fun cdv A outer s H E hr => ⟨_,
   (b_cons (s_expr (d_call F_check_count (hr.mono (by decide)) (takes_of rfl rfl rfl rfl) rfl (d_cons (d_var 0) d_nil)))
    (b_cons (s_asg d_int (g_name 1 sc_none_home.nd))
    (b_cons (s_asg d_int (g_name 2 sc_none_home.nd))
    (b_cons (s_for (passes_of rfl) rfl (i_rg2 rfl n_range (d_cons d_int (d_cons (d_addA (d_var 0) d_int) d_nil))) (g_name 3 sc_none_home.nd) (b_cons (s_asg (d_neg (d_var 2)) (g_name 2 sc_none_home.nd))
    (b_one (s_asg (d_addA (d_mulA (d_var 1) (d_var 3)) (d_var 2)) (g_name 1 sc_none_home.nd)))))
    (b_one (s_ret (d_var 1)))))))⟩), gx, F.kp, b⟩

abbrev s_raised : Stmt := top 13
def m_raised : MS := (mSeq (mIfS (mtB (mOp (iCmp fun i j => decide (i < j)) (mVar 1) (mC (.int 0)))) (mRai 1) mNext)
  (mSeq (mAsg (bName 2) (mC (.int 1)))
  (mSeq (mWhile 64 (mtB (mOp (iCmp fun i j => decide (j < i)) (mVar 1) (mC (.int 0)))) (mSeq (mIfS (mtTru (mOp iAnd (mVar 1) (mC (.int 1)))) (mAsg (bName 2) (mOp iMulA (mVar 2) (mVar 0))) mNext)
  (mSeq (mAsg (bName 0) (mOp iMulA (mVar 0) (mVar 0)))
  (mAsg (bName 1) (mOp iDiv (mVar 1) (mC (.int 2)))))))
  (mRet (mVar 2)))))
def r_raised : List PyData → R PyData := runS 3 m_raised
theorem sc_raised : FnScope ["number", "count", "found"] ["number", "count"] (defScope s_raised) := ⟨rfl, rfl, rfl, by decide +kernel, rfl, by decide +kernel, by decide +kernel⟩
theorem ok_raised {f : Addr} {fd : FuncData} (F : FunD K "raised" "raised" (defArgs s_raised) (defBody s_raised) (defScope s_raised) [] [] f fd) (gx : mg "raised" = some (.ref f)) (X_BadPart : ExI K mg C "BadPart" 1) : FnI P w K mg base C 1 "raised" 2 r_raised := by
  have b : Binds K fd ["number", "count"] [] := FunD.bindsN F fun _ _ _ _ _ _ us hl => match us, hl with | [_, _], _ => rfl
  obtain ⟨c_BadPart, e_BadPart⟩ := X_BadPart.ex
  exact ⟨f, fd, ["number", "count"], fn_okD (N := ["number", "count", "found"]) F sc_raised (by decide) (fun cdv A outer s H E hr => ⟨_,
   (b_cons (s_if (t_lt (d_var 1) d_int) (b_one (s_rai rfl (takes_of rfl rfl rfl rfl) e_BadPart.q PySem.F.excBase_ValueError e_BadPart.g e_BadPart.k e_BadPart.r rfl e_BadPart.c)) b_nil)
    (b_cons (s_asg d_int (g_name 2 sc_raised.nd))
    (b_cons (s_while 64 (passes_of rfl) (t_gt (d_var 1) d_int) (b_cons (s_if (t_tru (d_and (d_var 1) d_int)) (b_one (s_asg (d_mulA (d_var 2) (d_var 0)) (g_name 2 sc_raised.nd))) b_nil)
    (b_cons (s_asg (d_mulA (d_var 0) (d_var 0)) (g_name 0 sc_raised.nd))
    (b_one (s_asg (d_div (d_var 1) d_int) (g_name 1 sc_raised.nd))))))
    (b_one (s_ret (d_var 2))))))⟩), gx, F.kp, b⟩

abbrev s_onto : Stmt := top 21
def m_onto : MS := (mSeq (mDrop (mCall 1 r_check_count (maCons (mVar 0) maNil)))
  (mSeq (mDrop (mCall 1 r_check_count (maCons (mVar 1) maNil)))
  (mSeq (mAsg (bName 2) (mC (.int 0)))
  (mSeq (mAsg (bName 3) (mC (.int 1)))
  (mSeq (mFor (miR rg1 (maCons (mOp iAddA (mVar 1) (mC (.int 1))) maNil)) (bName 4) (mSeq (mAsg (bName 2) (mOp iAddA (mVar 2) (mOp iMulA (mOp iMulA (mVar 3) (mCall 2 r_choose (maCons (mVar 1) (maCons (mVar 4) maNil)))) (mCall 2 r_raised (maCons (mOp iSub (mVar 1) (mVar 4)) (maCons (mVar 0) maNil))))))
  (mAsg (bName 3) (mUn uNeg (mVar 3)))))
  (mRet (mVar 2)))))))
def r_onto : List PyData → R PyData := runS 5 m_onto
theorem sc_onto : FnScope ["many", "few", "found", "sign", "bare"] ["many", "few"] (defScope s_onto) := ⟨rfl, rfl, rfl, by decide +kernel, rfl, by decide +kernel, by decide +kernel⟩
theorem ok_onto {f : Addr} {fd : FuncData} (F : FunD K "onto" "onto" (defArgs s_onto) (defBody s_onto) (defScope s_onto) [] [] f fd) (gx : mg "onto" = some (.ref f)) (F_check_count : FnI P w K mg base C 1 "check_count" 1 r_check_count) (F_choose : FnI P w K mg base C 2 "choose" 2 r_choose) (F_raised : FnI P w K mg base C 1 "raised" 2 r_raised) (n_range : mg "range" = none) : FnI P w K mg base C 3 "onto" 2 r_onto := by
  have b : Binds K fd ["many", "few"] [] := FunD.bindsN F fun _ _ _ _ _ _ us hl => match us, hl with | [_, _], _ => rfl
  exact ⟨f, fd, ["many", "few"], fn_okD (N := ["many", "few", "found", "sign", "bare"]) F sc_onto (by decide) (fun cdv A outer s H E hr => ⟨_,
   (b_cons (s_expr (d_call F_check_count (hr.mono (by decide)) (takes_of rfl rfl rfl rfl) rfl (d_cons (d_var 0) d_nil)))
    (b_cons (s_expr (d_call F_check_count (hr.mono (by decide)) (takes_of rfl rfl rfl rfl) rfl (d_cons (d_var 1) d_nil)))
    (b_cons (s_asg d_int (g_name 2 sc_onto.nd))
    (b_cons (s_asg d_int (g_name 3 sc_onto.nd))
    (b_cons (s_for (passes_of rfl) rfl (i_rg1 rfl n_range (d_cons (d_addA (d_var 1) d_int) d_nil)) (g_name 4 sc_onto.nd) (b_cons (s_asg (d_addA (d_var 2) (d_mulA (d_mulA (d_var 3) (d_call F_choose (hr.mono (by decide)) (takes_of rfl rfl rfl rfl) rfl (d_cons (d_var 1) (d_cons (d_var 4) d_nil)))) (d_call F_raised (hr.mono (by decide)) (takes_of rfl rfl rfl rfl) rfl (d_cons (d_sub (d_var 1) (d_var 4)) (d_cons (d_var 0) d_nil))))) (g_name 2 sc_onto.nd))
    (b_one (s_asg (d_neg (d_var 3)) (g_name 3 sc_onto.nd)))))
    (b_one (s_ret (d_var 2))))))))⟩), gx, F.kp, b⟩

abbrev s_lots : Stmt := top 22
def m_lots : MS := (mRet (mOp iDiv (mCall 2 r_onto (maCons (mVar 0) (maCons (mVar 1) maNil))) (mCall 1 r_factorial (maCons (mVar 1) maNil))))
def r_lots : List PyData → R PyData := runS 2 m_lots
theorem sc_lots : FnScope ["many", "few"] ["many", "few"] (defScope s_lots) := ⟨rfl, rfl, rfl, by decide +kernel, rfl, by decide +kernel, by decide +kernel⟩
theorem ok_lots {f : Addr} {fd : FuncData} (F : FunD K "lots" "lots" (defArgs s_lots) (defBody s_lots) (defScope s_lots) [] [] f fd) (gx : mg "lots" = some (.ref f)) (F_onto : FnI P w K mg base C 3 "onto" 2 r_onto) (F_factorial : FnI P w K mg base C 2 "factorial" 1 r_factorial) : FnI P w K mg base C 4 "lots" 2 r_lots := by
  have b : Binds K fd ["many", "few"] [] := FunD.bindsN F fun _ _ _ _ _ _ us hl => match us, hl with | [_, _], _ => rfl
  exact ⟨f, fd, ["many", "few"], fn_okD (N := ["many", "few"]) F sc_lots (by decide) (fun cdv A outer s H E hr => ⟨_,
   (b_one (s_ret (d_div (d_call F_onto (hr.mono (by decide)) (takes_of rfl rfl rfl rfl) rfl (d_cons (d_var 0) (d_cons (d_var 1) d_nil))) (d_call F_factorial (hr.mono (by decide)) (takes_of rfl rfl rfl rfl) rfl (d_cons (d_var 1) d_nil)))))⟩), gx, F.kp, b⟩

abbrev s_sums : Stmt := top 23
def m_sums : MS := (mSeq (mDrop (mCall 1 r_check_count (maCons (mVar 0) maNil)))
  (mSeq (mDrop (mCall 1 r_check_count (maCons (mVar 1) maNil)))
  (mSeq (mIfS (mtB (mOp iEq (mVar 1) (mC (.int 0)))) (mRet (mIf (mtB (mOp iEq (mVar 0) (mC (.int 0)))) (mC (.int 1)) (mC (.int 0)))) mNext)
  (mRet (mCall 2 r_choose (maCons (mOp iSub (mOp iAddA (mVar 0) (mVar 1)) (mC (.int 1))) (maCons (mOp iSub (mVar 1) (mC (.int 1))) maNil)))))))
def r_sums : List PyData → R PyData := runS 2 m_sums
theorem sc_sums : FnScope ["many", "few"] ["many", "few"] (defScope s_sums) := ⟨rfl, rfl, rfl, by decide +kernel, rfl, by decide +kernel, by decide +kernel⟩
theorem ok_sums {f : Addr} {fd : FuncData} (F : FunD K "sums" "sums" (defArgs s_sums) (defBody s_sums) (defScope s_sums) [] [] f fd) (gx : mg "sums" = some (.ref f)) (F_check_count : FnI P w K mg base C 1 "check_count" 1 r_check_count) (F_choose : FnI P w K mg base C 2 "choose" 2 r_choose) : FnI P w K mg base C 3 "sums" 2 r_sums := by
  have b : Binds K fd ["many", "few"] [] := FunD.bindsN F fun _ _ _ _ _ _ us hl => match us, hl with | [_, _], _ => rfl
  exact ⟨f, fd, ["many", "few"], fn_okD (N := ["many", "few"]) F sc_sums (by decide) (fun cdv A outer s H E hr => ⟨_,
   (b_cons (s_expr (d_call F_check_count (hr.mono (by decide)) (takes_of rfl rfl rfl rfl) rfl (d_cons (d_var 0) d_nil)))
    (b_cons (s_expr (d_call F_check_count (hr.mono (by decide)) (takes_of rfl rfl rfl rfl) rfl (d_cons (d_var 1) d_nil)))
    (b_cons (s_if (t_eq hr.units (d_var 1) d_int) (b_one (s_ret (d_ifExp (t_eq hr.units (d_var 0) d_int) d_int d_int))) b_nil)
    (b_one (s_ret (d_call F_choose (hr.mono (by decide)) (takes_of rfl rfl rfl rfl) rfl (d_cons (d_sub (d_addA (d_var 0) (d_var 1)) d_int) (d_cons (d_sub (d_var 1) d_int) d_nil))))))))⟩), gx, F.kp, b⟩

abbrev s_parts_of : Stmt := top 24
def m_parts_of : MS := (mSeq (mDrop (mCall 1 r_check_count (maCons (mVar 0) maNil)))
  (mSeq (mDrop (mCall 1 r_check_count (maCons (mVar 1) maNil)))
  (mSeq (mOwn 2 (nCat (mLst (maCons (mC (.int 1)) maNil)) (mOp iMulA (mLst (maCons (mC (.int 0)) maNil)) (mVar 0))))
  (mSeq (mFor (miR rg2 (maCons (mC (.int 1)) (maCons (mOp iAddA (mCa cMin (maCons (mVar 1) (maCons (mVar 0) maNil))) (mC (.int 1))) maNil))) (bName 3) (mFor (miR rg2 (maCons (mVar 3) (maCons (mOp iAddA (mVar 0) (mC (.int 1))) maNil))) (bName 4) (mSetV 2 (mVar 4) (mOp iAddA (mIxV 2 (mVar 4)) (mIxV 2 (mOp iSub (mVar 4) (mVar 3)))))))
  (mRet (mIxV 2 (mVar 0)))))))
def r_parts_of : List PyData → R PyData := runS 5 m_parts_of
theorem sc_parts_of : FnScope ["many", "most", "ways", "size", "number"] ["many", "most"] (defScope s_parts_of) := ⟨rfl, rfl, rfl, by decide +kernel, rfl, by decide +kernel, by decide +kernel⟩
theorem ok_parts_of {f : Addr} {fd : FuncData} (F : FunD K "parts_of" "parts_of" (defArgs s_parts_of) (defBody s_parts_of) (defScope s_parts_of) [] [] f fd) (gx : mg "parts_of" = some (.ref f)) (F_check_count : FnI P w K mg base C 1 "check_count" 1 r_check_count) (n_range : mg "range" = none) (n_min : mg "min" = none) : FnI P w K mg base C 2 "parts_of" 2 r_parts_of := by
  have b : Binds K fd ["many", "most"] [] := FunD.bindsN F fun _ _ _ _ _ _ us hl => match us, hl with | [_, _], _ => rfl
  exact ⟨f, fd, ["many", "most"], fn_okD (N := ["many", "most", "ways", "size", "number"]) F sc_parts_of (by decide) (fun cdv A outer s H E hr => ⟨_,
   (b_cons (s_expr (d_call F_check_count (hr.mono (by decide)) (takes_of rfl rfl rfl rfl) rfl (d_cons (d_var 0) d_nil)))
    (b_cons (s_expr (d_call F_check_count (hr.mono (by decide)) (takes_of rfl rfl rfl rfl) rfl (d_cons (d_var 1) d_nil)))
    (b_cons (s_own 2 (n_cat (d_lst (d_cons d_int d_nil)) (d_mulA (d_lst (d_cons d_int d_nil)) (d_var 0))) (g_name 2 sc_parts_of.nd))
    (b_cons (s_for (passes_of rfl) rfl (i_rg2 rfl n_range (d_cons d_int (d_cons (d_addA (d_cb (call_min2 rfl) cas_min rfl n_min (by decide +kernel) (d_cons (d_var 1) (d_cons (d_var 0) d_nil))) d_int) d_nil))) (g_name 3 sc_parts_of.nd) (b_one (s_for (passes_of rfl) rfl (i_rg2 rfl n_range (d_cons (d_var 3) (d_cons (d_addA (d_var 0) d_int) d_nil))) (g_name 4 sc_parts_of.nd) (b_one (s_setV 2 (d_addA (d_ixV 2 (d_var 4)) (d_ixV 2 (d_sub (d_var 4) (d_var 3)))) (d_var 4))))))
    (b_one (s_ret (d_ixV 2 (d_var 0))))))))⟩), gx, F.kp, b⟩

abbrev s_cycles : Stmt := top 25
def m_cycles : MS := (mSeq (mDrop (mCall 1 r_check_count (maCons (mVar 0) maNil)))
  (mSeq (mDrop (mCall 1 r_check_count (maCons (mVar 1) maNil)))
  (mSeq (mIfS (mtB (mOp (iCmp fun i j => decide (j < i)) (mVar 1) (mVar 0))) (mRet (mC (.int 0))) mNext)
  (mSeq (mAsg (bName 2) (mOp iAddA (mLst (maCons (mC (.int 1)) maNil)) (mOp iMulA (mLst (maCons (mC (.int 0)) maNil)) (mVar 1))))
  (mSeq (mFor (miR rg1 (maCons (mVar 0) maNil)) (bName 3) (mAsg (bName 2) (mOp iAddA (mLst (maCons (mOp iMulA (mVar 3) (mIxV 2 (mC (.int 0)))) maNil)) (mComp [4] (miR rg2 (maCons (mC (.int 1)) (maCons (mOp iAddA (mVar 1) (mC (.int 1))) maNil))) (bName 4) mtYes (mOp iAddA (mIxV 2 (mOp iSub (mVar 4) (mC (.int 1)))) (mOp iMulA (mVar 3) (mIxV 2 (mVar 4))))))))
  (mRet (mIxV 2 (mVar 1))))))))
def r_cycles : List PyData → R PyData := runS 5 m_cycles
theorem sc_cycles : FnScope ["many", "few", "row", "count", "rings"] ["many", "few"] (defScope s_cycles) := ⟨rfl, rfl, rfl, by decide +kernel, rfl, by decide +kernel, by decide +kernel⟩
theorem ok_cycles {f : Addr} {fd : FuncData} (F : FunD K "cycles" "cycles" (defArgs s_cycles) (defBody s_cycles) (defScope s_cycles) [] [] f fd) (gx : mg "cycles" = some (.ref f)) (F_check_count : FnI P w K mg base C 1 "check_count" 1 r_check_count) (n_range : mg "range" = none) : FnI P w K mg base C 2 "cycles" 2 r_cycles := by
  have b : Binds K fd ["many", "few"] [] := FunD.bindsN F fun _ _ _ _ _ _ us hl => match us, hl with | [_, _], _ => rfl
  exact ⟨f, fd, ["many", "few"], fn_okD (N := ["many", "few", "row", "count", "rings"]) F sc_cycles (by decide) (fun cdv A outer s H E hr => ⟨_,
   (b_cons (s_expr (d_call F_check_count (hr.mono (by decide)) (takes_of rfl rfl rfl rfl) rfl (d_cons (d_var 0) d_nil)))
    (b_cons (s_expr (d_call F_check_count (hr.mono (by decide)) (takes_of rfl rfl rfl rfl) rfl (d_cons (d_var 1) d_nil)))
    (b_cons (s_if (t_gt (d_var 1) (d_var 0)) (b_one (s_ret d_int)) b_nil)
    (b_cons (s_asg (d_addA (d_lst (d_cons d_int d_nil)) (d_mulA (d_lst (d_cons d_int d_nil)) (d_var 1))) (g_name 2 sc_cycles.nd))
    (b_cons (s_for (passes_of rfl) rfl (i_rg1 rfl n_range (d_cons (d_var 0) d_nil)) (g_name 3 sc_cycles.nd) (b_one (s_asg (d_addA (d_lst (d_cons (d_mulA (d_var 3) (d_ixV 2 d_int)) d_nil)) (d_lc (own := [("rings", 4)]) (te := (tOp (rAddA K) (tOp (rIx K) (tVar 2) (tOp rSubI (tVar 4) (tC (.int 1)))) (tOp rMulA (tVar 3) (tOp (rIx K) (tVar 2) (tVar 4))))) (gg := (gName 4)) (bb := (bName 4)) rfl sc_cycles.nd (blkOk_by (by kernel_rfl)) (i_rg2 rfl n_range (d_cons d_int (d_cons (d_addA (d_var 1) d_int) d_nil))) (fun _ _ _ _ _ => (g_name 4 sc_cycles.nd)) (fun _ _ _ _ _ => (d_addA (d_ixV 2 (d_sub (d_var 4) d_int)) (d_mulA (d_var 3) (d_ixV 2 (d_var 4))))))) (g_name 2 sc_cycles.nd))))
    (b_one (s_ret (d_ixV 2 (d_var 1)))))))))⟩), gx, F.kp, b⟩

abbrev s_crossings : Stmt := top 26
def m_crossings : MS := (mSeq (mDrop (mCall 1 r_check_count (maCons (mVar 0) maNil)))
  (mSeq (mAsg (bName 1) (mLst (maCons (mC (.int 1)) maNil)))
  (mSeq (mFor (miR rg2 (maCons (mC (.int 1)) (maCons (mVar 0) maNil))) (bName 2) (mAsg (bName 1) (mComp [3] (miR rg1 (maCons (mOp iAddA (mCa cLenA (maCons (mVar 1) maNil)) (mVar 2)) maNil)) (bName 3) mtYes (mCa cSum2 (maCons (mSl (mVar 1) (mPart (mCa cMax (maCons (mC (.int 0)) (maCons (mOp iSub (mVar 3) (mVar 2)) maNil)))) (mPart (mOp iAddA (mVar 3) (mC (.int 1))))) maNil)))))
  (mRet (mCa cTupOf (maCons (mVar 1) maNil))))))
def r_crossings : List PyData → R PyData := runS 4 m_crossings
theorem sc_crossings : FnScope ["many", "row", "count", "pairs"] ["many"] (defScope s_crossings) := ⟨rfl, rfl, rfl, by decide +kernel, rfl, by decide +kernel, by decide +kernel⟩
theorem ok_crossings {f : Addr} {fd : FuncData} (F : FunD K "crossings" "crossings" (defArgs s_crossings) (defBody s_crossings) (defScope s_crossings) [] [] f fd) (gx : mg "crossings" = some (.ref f)) (F_check_count : FnI P w K mg base C 1 "check_count" 1 r_check_count) (n_range : mg "range" = none) (n_len : mg "len" = none) (n_sum : mg "sum" = none) (n_max : mg "max" = none) (n_tuple : mg "tuple" = none) : FnI P w K mg base C 2 "crossings" 1 r_crossings := by
  have b : Binds K fd ["many"] [] := FunD.bindsN F fun _ _ _ _ _ _ us hl => match us, hl with | [_], _ => rfl
  exact ⟨f, fd, ["many"], fn_okD (N := ["many", "row", "count", "pairs"]) F sc_crossings (by decide) (fun cdv A outer s H E hr => ⟨_,
   (b_cons (s_expr (d_call F_check_count (hr.mono (by decide)) (takes_of rfl rfl rfl rfl) rfl (d_cons (d_var 0) d_nil)))
    (b_cons (s_asg (d_lst (d_cons d_int d_nil)) (g_name 1 sc_crossings.nd))
    (b_cons (s_for (passes_of rfl) rfl (i_rg2 rfl n_range (d_cons d_int (d_cons (d_var 0) d_nil))) (g_name 2 sc_crossings.nd) (b_one (s_asg (d_lc (own := [("pairs", 3)]) (te := (tCB (rSum2 K) (tCons (tSl (rSl2 K) (tVar 1) (tPart (tCB (rMax2 K) (tCons (tC (.int 0)) (tCons (tOp rSubI (tVar 3) (tVar 2)) tNil)))) (tPart (tOp (rAddA K) (tVar 3) (tC (.int 1))))) tNil))) (gg := (gName 3)) (bb := (bName 3)) rfl sc_crossings.nd (blkOk_by (by kernel_rfl)) (i_rg1 rfl n_range (d_cons (d_addA (d_cb call_lenA cas_lenA rfl n_len PySem.boot_len (d_cons (d_var 1) d_nil)) (d_var 2)) d_nil)) (fun _ _ _ _ _ => (g_name 3 sc_crossings.nd)) (fun _ _ _ _ _ => (d_cb (cr_sum2 rfl) cas_sum2 rfl n_sum (by decide +kernel) (d_cons (d_slice (d_var 1) (p_some (d_cb (call_maxA rfl) cas_max rfl n_max (by decide +kernel) (d_cons d_int (d_cons (d_sub (d_var 3) (d_var 2)) d_nil)))) (p_some (d_addA (d_var 3) d_int))) d_nil)))) (g_name 1 sc_crossings.nd))))
    (b_one (s_ret (d_ct call_tupleF cas_tupOf rfl n_tuple (by decide +kernel) (d_cons (d_var 1) d_nil)))))))⟩), gx, F.kp, b⟩

abbrev s_ahead_ways : Stmt := top 27
def m_ahead_ways : MS := (mSeq (mDrop (mCall 1 r_check_count (maCons (mVar 0) maNil)))
  (mSeq (mDrop (mCall 1 r_check_count (maCons (mVar 1) maNil)))
  (mSeq (mIfS (mtB (mOp iEq (mOp iAddA (mVar 0) (mVar 1)) (mC (.int 0)))) (mRet (mC (.int 1))) mNext)
  (mSeq (mIfS (mtB (mOp (iCmp fun i j => decide (i ≤ j)) (mVar 0) (mVar 1))) (mRet (mC (.int 0))) mNext)
  (mRet (mOp iSub (mCall 2 r_choose (maCons (mOp iSub (mOp iAddA (mVar 0) (mVar 1)) (mC (.int 1))) (maCons (mOp iSub (mVar 0) (mC (.int 1))) maNil))) (mCall 2 r_choose (maCons (mOp iSub (mOp iAddA (mVar 0) (mVar 1)) (mC (.int 1))) (maCons (mVar 0) maNil)))))))))
def r_ahead_ways : List PyData → R PyData := runS 2 m_ahead_ways
theorem sc_ahead_ways : FnScope ["yes", "no"] ["yes", "no"] (defScope s_ahead_ways) := ⟨rfl, rfl, rfl, by decide +kernel, rfl, by decide +kernel, by decide +kernel⟩
theorem ok_ahead_ways {f : Addr} {fd : FuncData} (F : FunD K "ahead_ways" "ahead_ways" (defArgs s_ahead_ways) (defBody s_ahead_ways) (defScope s_ahead_ways) [] [] f fd) (gx : mg "ahead_ways" = some (.ref f)) (F_check_count : FnI P w K mg base C 1 "check_count" 1 r_check_count) (F_choose : FnI P w K mg base C 2 "choose" 2 r_choose) : FnI P w K mg base C 3 "ahead_ways" 2 r_ahead_ways := by
  have b : Binds K fd ["yes", "no"] [] := FunD.bindsN F fun _ _ _ _ _ _ us hl => match us, hl with | [_, _], _ => rfl
  exact ⟨f, fd, ["yes", "no"], fn_okD (N := ["yes", "no"]) F sc_ahead_ways (by decide) (fun cdv A outer s H E hr => ⟨_,
   (b_cons (s_expr (d_call F_check_count (hr.mono (by decide)) (takes_of rfl rfl rfl rfl) rfl (d_cons (d_var 0) d_nil)))
    (b_cons (s_expr (d_call F_check_count (hr.mono (by decide)) (takes_of rfl rfl rfl rfl) rfl (d_cons (d_var 1) d_nil)))
    (b_cons (s_if (t_eq hr.units (d_addA (d_var 0) (d_var 1)) d_int) (b_one (s_ret d_int)) b_nil)
    (b_cons (s_if (t_le (d_var 0) (d_var 1)) (b_one (s_ret d_int)) b_nil)
    (b_one (s_ret (d_sub (d_call F_choose (hr.mono (by decide)) (takes_of rfl rfl rfl rfl) rfl (d_cons (d_sub (d_addA (d_var 0) (d_var 1)) d_int) (d_cons (d_sub (d_var 0) d_int) d_nil))) (d_call F_choose (hr.mono (by decide)) (takes_of rfl rfl rfl rfl) rfl (d_cons (d_sub (d_addA (d_var 0) (d_var 1)) d_int) (d_cons (d_var 0) d_nil))))))))))⟩), gx, F.kp, b⟩

abbrev s_law_flat : Stmt := top 29
def m_law_flat : MS := (mSeq (mAsg (bName 1) (mLst maNil))
  (mSeq (mFor (miSeq (mVar 0)) (bName 2) (mAsg (bName 1) (mOp iAddA (mVar 1) (mVar 2))))
  (mRet (mVar 1))))
def r_law_flat : List PyData → R PyData := runS 3 m_law_flat
theorem sc_law_flat : FnScope ["rows", "found", "row"] ["rows"] (defScope s_law_flat) := ⟨rfl, rfl, rfl, by decide +kernel, rfl, by decide +kernel, by decide +kernel⟩
theorem ok_law_flat {f : Addr} {fd : FuncData} (F : FunD K "_law_flat" "_law_flat" (defArgs s_law_flat) (defBody s_law_flat) (defScope s_law_flat) [] [] f fd) (gx : mg "_law_flat" = some (.ref f)) : FnI P w K mg base C 1 "_law_flat" 1 r_law_flat := by
  have b : Binds K fd ["rows"] [] := FunD.bindsN F fun _ _ _ _ _ _ us hl => match us, hl with | [_], _ => rfl
  exact ⟨f, fd, ["rows"], fn_okD (N := ["rows", "found", "row"]) F sc_law_flat (by decide) (fun cdv A outer s H E hr => ⟨_,
   (b_cons (s_asg (d_lst d_nil) (g_name 1 sc_law_flat.nd))
    (b_cons (s_for (passes_of rfl) rfl (i_seq (d_var 0)) (g_name 2 sc_law_flat.nd) (b_one (s_asg (d_addA (d_var 1) (d_var 2)) (g_name 1 sc_law_flat.nd))))
    (b_one (s_ret (d_var 1)))))⟩), gx, F.kp, b⟩

abbrev s_law_dice : Stmt := top 30
def m_law_dice : MS := (mSeq (mIfS (mtB (mChain (iCmp fun i j => decide (i < j)) (iCmp fun i j => decide (i < j)) (mOp iSub (mC (.int 0)) (mC (.int 10))) (mVar 0) (mC (.int 10)))) (mRet (mLst (maCons (mCa cAbs (maCons (mVar 0) maNil)) (maCons (mC (.int 0)) (maCons (mC (.int 2)) maNil))))) mNext)
  (mRet (mLst (maCons (mVar 0) (maCons (mOp iAddA (mC (.int 1)) (mOp iMod (mCa cInt (maCons (mVar 0) maNil)) (mC (.int 1009)))) (maCons (mCa cInt (maCons (mOp (iCmp fun i j => decide (j ≤ i)) (mVar 0) (mOp iPow (mC (.int 10)) (mC (.int 18)))) maNil)) maNil))))))
def r_law_dice : List PyData → R PyData := runS 1 m_law_dice
theorem sc_law_dice : FnScope ["cell"] ["cell"] (defScope s_law_dice) := ⟨rfl, rfl, rfl, by decide +kernel, rfl, by decide +kernel, by decide +kernel⟩
theorem ok_law_dice {f : Addr} {fd : FuncData} (F : FunD K "_law_dice" "_law_dice" (defArgs s_law_dice) (defBody s_law_dice) (defScope s_law_dice) [] [] f fd) (gx : mg "_law_dice" = some (.ref f)) (n_abs : mg "abs" = none) (n_int : mg "int" = none) : FnI P w K mg base C 1 "_law_dice" 1 r_law_dice := by
  have b : Binds K fd ["cell"] [] := FunD.bindsN F fun _ _ _ _ _ _ us hl => match us, hl with | [_], _ => rfl
  exact ⟨f, fd, ["cell"], fn_okD (N := ["cell"]) F sc_law_dice (by decide) (fun cdv A outer s H E hr => ⟨_,
   (b_cons (s_if (t_chain op_lt ops_cmp op_lt ops_cmp (d_sub d_int d_int) (d_var 0) d_int) (b_one (s_ret (d_lst (d_cons (d_cb call_abs cas_abs rfl n_abs (by decide +kernel) (d_cons (d_var 0) d_nil)) (d_cons d_int (d_cons d_int d_nil)))))) b_nil)
    (b_one (s_ret (d_lst (d_cons (d_var 0) (d_cons (d_addA d_int (d_mod (d_ct call_int1 cas_int rfl n_int (by decide +kernel) (d_cons (d_var 0) d_nil)) d_int)) (d_cons (d_ct call_int1 cas_int rfl n_int (by decide +kernel) (d_cons (d_ge (d_var 0) (d_pow d_int d_int)) d_nil)) d_nil)))))))⟩), gx, F.kp, b⟩

abbrev s_law_roll : Stmt := top 31
def m_law_roll : MS := (mSeq (mIfS (mtOr (mtB (mOp iEq (mIxV 0 (mC (.int 2))) (mC (.int 2)))) (mtAnd (mtB (mOp iEq (mIxV 0 (mC (.int 2))) (mC (.int 1)))) (mtB (mOp (iCmp fun i j => decide (j < i)) (mIxV 0 (mC (.int 0))) (mC (.int 0)))))) (mSeq (mAsg (bName 2) (mOp iMod (mCa cInt (maCons (mIxV 0 (mC (.int 0))) maNil)) (mVar 1)))
  (mSeq (mSetV 0 (mC (.int 0)) (mOp iDiv (mIxV 0 (mC (.int 0))) (mVar 1)))
  (mRet (mVar 2)))) mNext)
  (mSeq (mSetV 0 (mC (.int 2)) (mC (.int 0)))
  (mSeq (mSetV 0 (mC (.int 0)) (mOp iMod (mCa cInt (maCons (mOp iAddA (mOp iAddA (mOp iMulA (mIxV 0 (mC (.int 0))) (mC (.int 48271))) (mOp iMulA (mIxV 0 (mC (.int 1))) (mC (.int 69621)))) (mC (.int 11))) maNil)) (mC (.int 2147483647))))
  (mSeq (mSetV 0 (mC (.int 1)) (mOp iAddA (mIxV 0 (mC (.int 1))) (mC (.int 1))))
  (mRet (mOp iMod (mCa cInt (maCons (mOp iAddA (mOp iDiv (mIxV 0 (mC (.int 0))) (mC (.int 7))) (mIxV 0 (mC (.int 0)))) maNil)) (mVar 1)))))))
def r_law_roll : RunM := runM 3 m_law_roll
theorem sc_law_roll : FnScope ["dice", "many", "found"] ["dice", "many"] (defScope s_law_roll) := ⟨rfl, rfl, rfl, by decide +kernel, rfl, by decide +kernel, by decide +kernel⟩
theorem ok_law_roll {f : Addr} {fd : FuncData} (F : FunD K "_law_roll" "_law_roll" (defArgs s_law_roll) (defBody s_law_roll) (defScope s_law_roll) [] [] f fd) (gx : mg "_law_roll" = some (.ref f)) (n_int : mg "int" = none) : FnM P w K mg base C 1 "_law_roll" 1 r_law_roll := by
  have b : Binds K fd ["dice", "many"] [] := FunD.bindsN F fun _ _ _ _ _ _ us hl => match us, hl with | [_, _], _ => rfl
  exact ⟨f, fd, ["dice", "many"], fn_okM (N := ["many", "found"]) F sc_law_roll (by decide) rfl (fun cdv A outer s H E hr => ⟨_,
   (b_cons (s_if (t_w (w_or (t_eq hr.units (d_ixV 0 d_int) d_int) (w_or1 (t_w (w_and (t_eq hr.units (d_ixV 0 d_int) d_int) (w_and1 (t_gt (d_ixV 0 d_int) d_int))))))) (b_cons (s_asg (d_mod (d_ct call_int1 cas_int rfl n_int (by decide +kernel) (d_cons (d_ixV 0 d_int) d_nil)) (d_var 1)) (g_name 2 sc_law_roll.nd))
    (b_cons (s_setV 0 (d_div (d_ixV 0 d_int) (d_var 1)) d_int)
    (b_one (s_ret (d_var 2))))) b_nil)
    (b_cons (s_setV 0 d_int d_int)
    (b_cons (s_setV 0 (d_mod (d_ct call_int1 cas_int rfl n_int (by decide +kernel) (d_cons (d_addA (d_addA (d_mulA (d_ixV 0 d_int) d_int) (d_mulA (d_ixV 0 d_int) d_int)) d_int) d_nil)) d_int) d_int)
    (b_cons (s_setV 0 (d_addA (d_ixV 0 d_int) d_int) d_int)
    (b_one (s_ret (d_mod (d_ct call_int1 cas_int rfl n_int (by decide +kernel) (d_cons (d_addA (d_div (d_ixV 0 d_int) d_int) (d_ixV 0 d_int)) d_nil)) (d_var 1))))))))⟩), gx, F.kp, b⟩

abbrev s_law_all : Stmt := top 34
def m_law_all : MS := (mSeq (mAsg (bName 2) (mLst (maCons (mTup maNil) maNil)))
  (mSeq (mFor (miR rg1 (maCons (mVar 1) maNil)) (bName 3) (mAsg (bName 2) (mCall 1 r_law_flat (maCons (mComp [4] (miSeq (mVar 2)) (bName 4) mtYes (mComp [5] (miSeq (mVar 0)) (bName 5) mtYes (mOp iAddA (mVar 4) (mTup (maCons (mVar 5) maNil))))) maNil))))
  (mRet (mVar 2))))
def r_law_all : List PyData → R PyData := runS 6 m_law_all
theorem sc_law_all : FnScope ["values", "long", "found", "k", "row", "one"] ["values", "long"] (defScope s_law_all) := ⟨rfl, rfl, rfl, by decide +kernel, rfl, by decide +kernel, by decide +kernel⟩
theorem ok_law_all {f : Addr} {fd : FuncData} (F : FunD K "_law_all" "_law_all" (defArgs s_law_all) (defBody s_law_all) (defScope s_law_all) [] [] f fd) (gx : mg "_law_all" = some (.ref f)) (F_law_flat : FnI P w K mg base C 1 "_law_flat" 1 r_law_flat) (n_range : mg "range" = none) : FnI P w K mg base C 2 "_law_all" 2 r_law_all := by
  have b : Binds K fd ["values", "long"] [] := FunD.bindsN F fun _ _ _ _ _ _ us hl => match us, hl with | [_, _], _ => rfl
  exact ⟨f, fd, ["values", "long"], fn_okD (N := ["values", "long", "found", "k", "row", "one"]) F sc_law_all (by decide) (fun cdv A outer s H E hr => ⟨_,
   (b_cons (s_asg (d_lst (d_cons (d_tup d_nil) d_nil)) (g_name 2 sc_law_all.nd))
    (b_cons (s_for (passes_of rfl) rfl (i_rg1 rfl n_range (d_cons (d_var 1) d_nil)) (g_name 3 sc_law_all.nd) (b_one (s_asg (d_call F_law_flat (hr.mono (by decide)) (takes_of rfl rfl rfl rfl) rfl (d_cons (d_lc (own := [("row", 4)]) (te := (tLc (iSeq K (tVar 0)) (gName 5) tYes (tOp (rAddA K) (tVar 4) (tTupF (tCons (tVar 5) tNil))) [5])) (gg := (gName 4)) (bb := (bName 4)) rfl sc_law_all.nd (blkOk_by (by kernel_rfl)) (i_seq (d_var 2)) (fun _ _ _ _ _ => (g_name 4 sc_law_all.nd)) (fun _ _ _ _ _ => (d_lc (own := [("one", 5)]) (te := (tOp (rAddA K) (tVar 4) (tTupF (tCons (tVar 5) tNil)))) (gg := (gName 5)) (bb := (bName 5)) rfl sc_law_all.nd (blkOk_by (by kernel_rfl)) (i_seq (d_var 0)) (fun _ _ _ _ _ => (g_name 5 sc_law_all.nd)) (fun _ _ _ _ _ => (d_addA (d_var 4) (d_tup (d_cons (d_var 5) d_nil))))))) d_nil)) (g_name 2 sc_law_all.nd))))
    (b_one (s_ret (d_var 2)))))⟩), gx, F.kp, b⟩

abbrev s_law_orders : Stmt := top 35
def m_law_orders : MS := (mSeq (mAsg (bName 1) (mLst (maCons (mTup maNil) maNil)))
  (mSeq (mFor (miR rg1 (maCons (mVar 0) maNil)) (bName 2) (mAsg (bName 1) (mCall 1 r_law_flat (maCons (mComp [3] (miSeq (mVar 1)) (bName 3) mtYes (mComp [4] (miR rg1 (maCons (mVar 0) maNil)) (bName 4) (mtB (mOp (iInF true) (mVar 4) (mVar 3))) (mOp iAddA (mVar 3) (mTup (maCons (mVar 4) maNil))))) maNil))))
  (mRet (mVar 1))))
def r_law_orders : List PyData → R PyData := runS 5 m_law_orders
theorem sc_law_orders : FnScope ["many", "found", "k", "row", "one"] ["many"] (defScope s_law_orders) := ⟨rfl, rfl, rfl, by decide +kernel, rfl, by decide +kernel, by decide +kernel⟩
theorem ok_law_orders {f : Addr} {fd : FuncData} (F : FunD K "_law_orders" "_law_orders" (defArgs s_law_orders) (defBody s_law_orders) (defScope s_law_orders) [] [] f fd) (gx : mg "_law_orders" = some (.ref f)) (F_law_flat : FnI P w K mg base C 1 "_law_flat" 1 r_law_flat) (n_range : mg "range" = none) : FnI P w K mg base C 2 "_law_orders" 1 r_law_orders := by
  have b : Binds K fd ["many"] [] := FunD.bindsN F fun _ _ _ _ _ _ us hl => match us, hl with | [_], _ => rfl
  exact ⟨f, fd, ["many"], fn_okD (N := ["many", "found", "k", "row", "one"]) F sc_law_orders (by decide) (fun cdv A outer s H E hr => ⟨_,
   (b_cons (s_asg (d_lst (d_cons (d_tup d_nil) d_nil)) (g_name 1 sc_law_orders.nd))
    (b_cons (s_for (passes_of rfl) rfl (i_rg1 rfl n_range (d_cons (d_var 0) d_nil)) (g_name 2 sc_law_orders.nd) (b_one (s_asg (d_call F_law_flat (hr.mono (by decide)) (takes_of rfl rfl rfl rfl) rfl (d_cons (d_lc (own := [("row", 3)]) (te := (tLc (iRng1 (tCons (tVar 0) tNil)) (gName 4) (tTest (tOp (rIn K true) (tVar 4) (tVar 3))) (tOp (rAddA K) (tVar 3) (tTupF (tCons (tVar 4) tNil))) [4])) (gg := (gName 3)) (bb := (bName 3)) rfl sc_law_orders.nd (blkOk_by (by kernel_rfl)) (i_seq (d_var 1)) (fun _ _ _ _ _ => (g_name 3 sc_law_orders.nd)) (fun _ _ _ _ _ => (d_lcif (own := [("one", 4)]) (te := (tOp (rAddA K) (tVar 3) (tTupF (tCons (tVar 4) tNil)))) (tt := (tTest (tOp (rIn K true) (tVar 4) (tVar 3)))) (gg := (gName 4)) (bb := (bName 4)) rfl sc_law_orders.nd (blkOk_by (by kernel_rfl)) (i_rg1 rfl n_range (d_cons (d_var 0) d_nil)) (fun _ _ _ _ _ => (g_name 4 sc_law_orders.nd)) (fun _ _ _ _ _ => (t_niF (d_var 4) (d_var 3))) (fun _ _ _ _ _ => (d_addA (d_var 3) (d_tup (d_cons (d_var 4) d_nil))))))) d_nil)) (g_name 1 sc_law_orders.nd))))
    (b_one (s_ret (d_var 1)))))⟩), gx, F.kp, b⟩

abbrev s_law_rings : Stmt := top 36
def m_law_rings : MS := (mSeq (mParNC 2 3 (nLiR1 (mCa cLenA (maCons (mVar 0) maNil))) (.int 0))
  (mSeq (mFor (miR rg1 (maCons (mCa cLenA (maCons (mVar 0) maNil)) maNil)) (bName 1) (mIfS (mtB (mInO false 2 (mVar 1))) (mSeq (mAsg (bName 3) (mOp iAddA (mVar 3) (mC (.int 1))))
  (mSeq (mAsg (bName 4) (mVar 1))
  (mFor (miR rg1 (maCons (mCa cLenA (maCons (mVar 0) maNil)) maNil)) (bName 5) (mSeq (mIfS (mtB (mInO false 2 (mVar 4))) (mRemG 2 (mVar 4)) mNext)
  (mAsg (bName 4) (mIxV 0 (mVar 4))))))) mNext))
  (mRet (mVar 3))))
def r_law_rings : List PyData → R PyData := runS 6 m_law_rings
theorem sc_law_rings : FnScope ["row", "k", "left", "found", "here", "turn"] ["row"] (defScope s_law_rings) := ⟨rfl, rfl, rfl, by decide +kernel, rfl, by decide +kernel, by decide +kernel⟩
theorem ok_law_rings {f : Addr} {fd : FuncData} (F : FunD K "_law_rings" "_law_rings" (defArgs s_law_rings) (defBody s_law_rings) (defScope s_law_rings) [] [] f fd) (gx : mg "_law_rings" = some (.ref f)) (n_list : mg "list" = none) (n_range : mg "range" = none) (n_len : mg "len" = none) : FnI P w K mg base C 1 "_law_rings" 1 r_law_rings := by
  have b : Binds K fd ["row"] [] := FunD.bindsN F fun _ _ _ _ _ _ us hl => match us, hl with | [_], _ => rfl
  exact ⟨f, fd, ["row"], fn_okD (N := ["row", "k", "left", "found", "here", "turn"]) F sc_law_rings (by decide) (fun cdv A outer s H E hr => ⟨_,
   (b_cons (s_parNC 2 3 rfl sc_law_rings.nd (n_liR1 rfl rfl n_list rfl n_range (d_cb call_lenA cas_lenA rfl n_len PySem.boot_len (d_cons (d_var 0) d_nil))) pe_int (fun _ => .int _))
    (b_cons (s_for (passes_of rfl) rfl (i_rg1 rfl n_range (d_cons (d_cb call_lenA cas_lenA rfl n_len PySem.boot_len (d_cons (d_var 0) d_nil)) d_nil)) (g_name 1 sc_law_rings.nd) (b_one (s_if (t_inO 2 op_in_seq (d_var 1)) (b_cons (s_asg (d_addA (d_var 3) d_int) (g_name 3 sc_law_rings.nd))
    (b_cons (s_asg (d_var 1) (g_name 4 sc_law_rings.nd))
    (b_one (s_for (passes_of rfl) rfl (i_rg1 rfl n_range (d_cons (d_cb call_lenA cas_lenA rfl n_len PySem.boot_len (d_cons (d_var 0) d_nil)) d_nil)) (g_name 5 sc_law_rings.nd) (b_cons (s_if (t_inO 2 op_in_seq (d_var 4)) (b_one (s_rem 2 (d_var 4))) b_nil)
    (b_one (s_asg (d_ixV 0 (d_var 4)) (g_name 4 sc_law_rings.nd)))))))) b_nil)))
    (b_one (s_ret (d_var 3)))))⟩), gx, F.kp, b⟩

end
end K2

namespace K2
open PySem PySem.Spec PyProof.Rows L2 LW
section
variable {P : Program} {w : World} {K : PySem.W.Frag} {mg : Str → Option Value} {base : Heap} {C : Cl}
abbrev s_law : Stmt := top 37
def m_law : MS := (mSeq (mAsg (bTup 2 (bCons (bName 11) (bCons (bName 12) bNil))) (mTup (maCons (mCallM 1 r_law_roll 1 (maCons (mC (.int 6)) maNil)) (maCons (mCallM 1 r_law_roll 1 (maCons (mC (.int 5)) maNil)) maNil))))
  (mSeq (mAsg (bName 3) (mCall 1 r_law_orders (maCons (mVar 11) maNil)))
  (mSeq (mIfS (mtOr (mtB (mOp iNe (mCall 1 r_factorial (maCons (mVar 11) maNil)) (mCa cLenA (maCons (mVar 3) maNil)))) (mtB (mOp iNe (mCall 1 r_none_home (maCons (mVar 11) maNil)) (mCa cLenA (maCons (mComp [15] (miSeq (mVar 3)) (bName 15) (mtB (mOp iEq (mComp [16] (miR rg1 (maCons (mVar 11) maNil)) (bName 16) (mtB (mOp iEq (mIxV 15 (mVar 16)) (mVar 16))) (mVar 16)) (mLst maNil))) (mVar 15)) maNil))))) (mRet (mC (.bool false))) mNext)
  (mSeq (mAsg (bName 4) (mCall 2 r_law_all (maCons (mLiR1 (mVar 12)) (maCons (mVar 11) maNil))))
  (mSeq (mAsg (bName 5) (mComp [15] (miSeq (mVar 4)) (bName 15) (mtB (mOp iEq (mCa cLenA (maCons (mCa cDict (maCons (mComp [20] (miSeq (mVar 15)) (bName 20) mtYes (mTup (maCons (mVar 20) (maCons (mC (.int 1)) maNil)))) maNil)) maNil)) (mVar 12))) (mVar 15)))
  (mSeq (mIfS (mtOr (mtB (mOp iNe (mCall 2 r_onto (maCons (mVar 11) (maCons (mVar 12) maNil))) (mCa cLenA (maCons (mVar 5) maNil)))) (mtB (mOp iNe (mOp iMulA (mCall 2 r_lots (maCons (mVar 11) (maCons (mVar 12) maNil))) (mCall 1 r_factorial (maCons (mVar 12) maNil))) (mCa cLenA (maCons (mVar 5) maNil))))) (mRet (mC (.bool false))) mNext)
  (mSeq (mIfS (mtOr (mtB (mOp iNe (mCall 2 r_choose (maCons (mVar 11) (maCons (mVar 12) maNil))) (mCa cLenA (maCons (mComp [15] (miSeq (mCall 2 r_law_all (maCons (mLst (maCons (mC (.int 0)) (maCons (mC (.int 1)) maNil))) (maCons (mVar 11) maNil)))) (bName 15) (mtB (mOp iEq (mCa cSum2 (maCons (mVar 15) maNil)) (mVar 12))) (mVar 15)) maNil)))) (mtB (mOp iNe (mCall 2 r_falling (maCons (mVar 11) (maCons (mVar 12) maNil))) (mCa cLenA (maCons (mComp [15] (miSeq (mCall 2 r_law_all (maCons (mLiR1 (mVar 11)) (maCons (mVar 12) maNil)))) (bName 15) (mtB (mOp iEq (mCa cLenA (maCons (mCa cDict (maCons (mComp [20] (miSeq (mVar 15)) (bName 20) mtYes (mTup (maCons (mVar 20) (maCons (mC (.int 1)) maNil)))) maNil)) maNil)) (mVar 12))) (mVar 15)) maNil))))) (mRet (mC (.bool false))) mNext)
  (mSeq (mIfS (mtB (mOp iNe (mCall 2 r_cycles (maCons (mVar 11) (maCons (mVar 12) maNil))) (mCa cLenA (maCons (mComp [15] (miSeq (mVar 3)) (bName 15) (mtB (mOp iEq (mCall 1 r_law_rings (maCons (mVar 15) maNil)) (mVar 12))) (mVar 15)) maNil)))) (mRet (mC (.bool false))) mNext)
  (mSeq (mAsg (bName 6) (mComp [15] (miSeq (mVar 3)) (bName 15) mtYes (mCa cLenA (maCons (mCall 1 r_law_flat (maCons (mComp [18] (miR rg1 (maCons (mVar 11) maNil)) (bName 18) mtYes (mComp [19] (miR rg1 (maCons (mVar 18) maNil)) (bName 19) (mtB (mOp (iCmp fun i j => decide (j < i)) (mIxV 15 (mVar 19)) (mIxV 15 (mVar 18)))) (mC (.int 1)))) maNil)) maNil))))
  (mSeq (mIfS (mtB (mOp iNe (mCa cListOf (maCons (mCall 1 r_crossings (maCons (mVar 11) maNil)) maNil)) (mComp [16] (miR rg1 (maCons (mOp iAddA (mCa cMax (maCons (mVar 6) maNil)) (mC (.int 1))) maNil)) (bName 16) mtYes (mCnt (mVar 6) (mVar 16))))) (mRet (mC (.bool false))) mNext)
  (mSeq (mIfS (mtB (mOp iNe (mCall 2 r_sums (maCons (mVar 11) (maCons (mVar 12) maNil))) (mCa cLenA (maCons (mComp [15] (miSeq (mCall 2 r_law_all (maCons (mLiR1 (mOp iAddA (mVar 11) (mC (.int 1)))) (maCons (mVar 12) maNil)))) (bName 15) (mtB (mOp iEq (mCa cSum2 (maCons (mVar 15) maNil)) (mVar 11))) (mVar 15)) maNil)))) (mRet (mC (.bool false))) mNext)
  (mSeq (mAsg (bName 7) (mCallM 1 r_law_roll 1 (maCons (mC (.int 5)) maNil)))
  (mSeq (mAsg (bName 8) (mComp [15] (miSeq (mCall 2 r_law_all (maCons (mLiR1 (mOp iAddA (mVar 7) (mC (.int 1)))) (maCons (mVar 11) maNil)))) (bName 15) (mtAnd (mtB (mOp iEq (mCa cSum2 (maCons (mVar 15) maNil)) (mVar 11))) (mtB (mOp iEq (mCa cListOf (maCons (mVar 15) maNil)) (mSortKw true (mVar 15))))) (mVar 15)))
  (mSeq (mIfS (mtB (mOp iNe (mCall 2 r_parts_of (maCons (mVar 11) (maCons (mVar 7) maNil))) (mCa cLenA (maCons (mVar 8) maNil)))) (mRet (mC (.bool false))) mNext)
  (mSeq (mAsg (bName 9) (mComp [16] (miR rg1 (maCons (mCallM 1 r_law_roll 1 (maCons (mC (.int 3)) maNil)) maNil)) (bName 16) mtYes (mCallM 1 r_law_roll 1 (maCons (mC (.int 3)) maNil))))
  (mSeq (mIfS (mtB (mOp iNe (mCall 1 r_split_ways (maCons (mVar 9) maNil)) (mCa cLenA (maCons (mComp [15] (miSeq (mCall 2 r_law_all (maCons (mLiR1 (mCa cLenA (maCons (mVar 9) maNil))) (maCons (mCa cSum2 (maCons (mVar 9) maNil)) maNil)))) (bName 15) (mtB (mOp iEq (mComp [16] (miR rg1 (maCons (mCa cLenA (maCons (mVar 9) maNil)) maNil)) (bName 16) mtYes (mCntT (mVar 15) (mVar 16))) (mVar 9))) (mVar 15)) maNil)))) (mRet (mC (.bool false))) mNext)
  (mSeq (mAsg (bTup 2 (bCons (bName 13) (bCons (bName 14) bNil))) (mTup (maCons (mCallM 1 r_law_roll 1 (maCons (mC (.int 5)) maNil)) (maCons (mCallM 1 r_law_roll 1 (maCons (mC (.int 4)) maNil)) maNil))))
  (mSeq (mAsg (bName 10) (mComp [15] (miSeq (mCall 2 r_law_all (maCons (mLst (maCons (mC (.int 1)) (maCons (mOp iSub (mC (.int 0)) (mC (.int 1))) maNil))) (maCons (mOp iAddA (mVar 13) (mVar 14)) maNil)))) (bName 15) (mtB (mOp iEq (mCntT (mVar 15) (mC (.int 1))) (mVar 13))) (mVar 15)))
  (mIfS (mtB (mOp iNe (mCall 2 r_ahead_ways (maCons (mVar 13) (maCons (mVar 14) maNil))) (mCa cLenA (maCons (mComp [15] (miSeq (mVar 10)) (bName 15) (mtB (mOp iEq (mComp [16] (miR rg2 (maCons (mC (.int 1)) (maCons (mOp iAddA (mOp iAddA (mVar 13) (mVar 14)) (mC (.int 1))) maNil))) (bName 16) (mtB (mOp (iCmp fun i j => decide (i ≤ j)) (mCa cSum2 (maCons (mSl (mVar 15) mNoPart (mPart (mVar 16))) maNil)) (mC (.int 0)))) (mVar 16)) (mLst maNil))) (mVar 15)) maNil)))) (mRet (mC (.bool false))) mNext)))))))))))))))))))
theorem sc_law : FnScope ["script", "dice", "wrong", "orders", "rows", "full", "wrong_pairs_now", "most", "falls", "sizes", "votes", "many", "few", "yes", "no", "row", "k", "pair", "b", "a", "one"] ["script"] (defScope s_law) := ⟨rfl, rfl, rfl, by decide +kernel, rfl, by decide +kernel, by decide +kernel⟩
theorem bd_law {f c Pt : Addr} {A : Around} {outer : List PySem.Env} {s : Shared} {H : Hp} {E : XK} (F_law_roll : FnM P w K mg base C 1 "_law_roll" 1 r_law_roll) (F_law_orders : FnI P w K mg base C 2 "_law_orders" 1 r_law_orders) (F_none_home : FnI P w K mg base C 2 "none_home" 1 r_none_home) (F_factorial : FnI P w K mg base C 2 "factorial" 1 r_factorial) (F_law_all : FnI P w K mg base C 2 "_law_all" 2 r_law_all) (F_lots : FnI P w K mg base C 4 "lots" 2 r_lots) (F_onto : FnI P w K mg base C 3 "onto" 2 r_onto) (F_falling : FnI P w K mg base C 2 "falling" 2 r_falling) (F_choose : FnI P w K mg base C 2 "choose" 2 r_choose) (F_cycles : FnI P w K mg base C 2 "cycles" 2 r_cycles) (F_law_rings : FnI P w K mg base C 1 "_law_rings" 1 r_law_rings) (F_law_flat : FnI P w K mg base C 1 "_law_flat" 1 r_law_flat) (F_crossings : FnI P w K mg base C 2 "crossings" 1 r_crossings) (F_sums : FnI P w K mg base C 3 "sums" 2 r_sums) (F_parts_of : FnI P w K mg base C 2 "parts_of" 2 r_parts_of) (F_split_ways : FnI P w K mg base C 3 "split_ways" 1 r_split_ways) (F_ahead_ways : FnI P w K mg base C 3 "ahead_ways" 2 r_ahead_ways) (n_len : mg "len" = none) (n_range : mg "range" = none) (n_list : mg "list" = none) (n_dict : mg "dict" = none) (n_sum : mg "sum" = none) (n_max : mg "max" = none) (n_sorted : mg "sorted" = none) (T : ToldI P w K mg base C) (TB : LamX.TabB base mg c Pt) (hT : C.T = [(Pt, ("law.<locals>.<lambda>" : Str))])
    (hr : Room 6 (A.deeper (envOfC "law" (defScope s_law) s.heap.objs.size f (.ref c)))) : ∃ ts, BD (cxOf (L2.CX P w) P w K mg base ["script", "dice", "wrong", "orders", "rows", "full", "wrong_pairs_now", "most", "falls", "sizes", "votes", "many", "few", "yes", "no", "row", "k", "pair", "b", "a", "one"] "law" (defScope s_law) f (.ref c) A outer s H E) C E (lawBody s_law) ts m_law := by
  obtain ⟨lT, g, fdT, hlT, g_lt, F_lt, hhT⟩ := T.ex
  have hmT : (Pt, ("law.<locals>.<lambda>" : Str)) ∈ C.T := by rw [hT]; exact List.mem_singleton.mpr rfl
  have huT : ∀ p ∈ C.T, p.1 = Pt → p.2 = ("law.<locals>.<lambda>" : Str) := fun p hp _ => by rw [hT] at hp; rw [List.mem_singleton.mp hp]
  exact ⟨_,
   (b_cons (s_asg (d_tup (d_cons (d_callM 1 F_law_roll (hr.mono (by decide)) (takes_of rfl rfl rfl rfl) rfl (d_cons d_int d_nil)) (d_cons (d_callM 1 F_law_roll (hr.mono (by decide)) (takes_of rfl rfl rfl rfl) rfl (d_cons d_int d_nil)) d_nil))) (g_tup rfl (g_cons (g_name 11 sc_law.nd) (g_cons (g_name 12 sc_law.nd) g_nil))))
    (b_cons (s_asg (d_call F_law_orders (hr.mono (by decide)) (takes_of rfl rfl rfl rfl) rfl (d_cons (d_var 11) d_nil)) (g_name 3 sc_law.nd))
    (b_cons (s_if (t_w (w_or (t_ne hr.units (d_call F_factorial (hr.mono (by decide)) (takes_of rfl rfl rfl rfl) rfl (d_cons (d_var 11) d_nil)) (d_cb call_lenA cas_lenA rfl n_len PySem.boot_len (d_cons (d_var 3) d_nil))) (w_or1 (t_ne hr.units (d_call F_none_home (hr.mono (by decide)) (takes_of rfl rfl rfl rfl) rfl (d_cons (d_var 11) d_nil)) (d_cb call_lenA cas_lenA rfl n_len PySem.boot_len (d_cons (d_lcif (own := [("row", 15)]) (te := (tVar 15)) (tt := (tTest (tOp (rEqD K) (tLc (iRng1 (tCons (tVar 11) tNil)) (gName 16) (tTest (tOp (rEqD K) (tOp (rIx K) (tVar 15) (tVar 16)) (tVar 16))) (tVar 16) [16]) (tLst tNil)))) (gg := (gName 15)) (bb := (bName 15)) rfl sc_law.nd (blkOk_by (by kernel_rfl)) (i_seq (d_var 3)) (fun _ _ _ _ _ => (g_name 15 sc_law.nd)) (fun _ _ _ _ _ => (t_eq hr.units (d_lcif (own := [("k", 16)]) (te := (tVar 16)) (tt := (tTest (tOp (rEqD K) (tOp (rIx K) (tVar 15) (tVar 16)) (tVar 16)))) (gg := (gName 16)) (bb := (bName 16)) rfl sc_law.nd (blkOk_by (by kernel_rfl)) (i_rg1 rfl n_range (d_cons (d_var 11) d_nil)) (fun _ _ _ _ _ => (g_name 16 sc_law.nd)) (fun _ _ _ _ _ => (t_eq hr.units (d_ixV 15 (d_var 16)) (d_var 16))) (fun _ _ _ _ _ => (d_var 16))) (d_lst d_nil))) (fun _ _ _ _ _ => (d_var 15))) d_nil)))))) (b_one (s_ret d_bl)) b_nil)
    (b_cons (s_asg (d_call F_law_all (hr.mono (by decide)) (takes_of rfl rfl rfl rfl) rfl (d_cons (d_liR1 rfl rfl n_list rfl n_range (d_var 12)) (d_cons (d_var 11) d_nil))) (g_name 4 sc_law.nd))
    (b_cons (s_setLcif 5 (own := [("row", 15)]) (te := (tVar 15)) (tt := (tTest (tOp (rEqD K) (tCB (rLenA K) (tCons (tCB (rDictA K) (tCons (tLc (iSeq K (tVar 15)) (gName 20) tYes (tTupF (tCons (tVar 20) (tCons (tC (.int 1)) tNil))) [20]) tNil)) tNil)) (tVar 12)))) (gg := (gName 15)) (bb := (bName 15)) rfl sc_law.nd (blkOk_by (by kernel_rfl)) (i_seq (d_var 4)) (fun _ _ _ _ _ => (g_name 15 sc_law.nd)) (fun _ _ _ _ _ => (t_eq hr.units (d_cb call_lenA cas_lenA rfl n_len PySem.boot_len (d_cons (d_ct (call_dictA rfl) cas_dict rfl n_dict (by decide +kernel) (d_cons (d_lc (own := [("one", 20)]) (te := (tTupF (tCons (tVar 20) (tCons (tC (.int 1)) tNil)))) (gg := (gName 20)) (bb := (bName 20)) rfl sc_law.nd (blkOk_by (by kernel_rfl)) (i_seq (d_var 15)) (fun _ _ _ _ _ => (g_name 20 sc_law.nd)) (fun _ _ _ _ _ => (d_tup (d_cons (d_var 20) (d_cons d_int d_nil))))) d_nil)) d_nil)) (d_var 12))) (fun _ _ _ _ _ => (d_var 15)) (sw_true rfl rfl rfl (by decide +kernel)))
    (b_cons (s_if (t_w (w_or (t_ne hr.units (d_call F_onto (hr.mono (by decide)) (takes_of rfl rfl rfl rfl) rfl (d_cons (d_var 11) (d_cons (d_var 12) d_nil))) (d_cb call_lenA cas_lenA rfl n_len PySem.boot_len (d_cons (d_var 5) d_nil))) (w_or1 (t_ne hr.units (d_mulA (d_call F_lots (hr.mono (by decide)) (takes_of rfl rfl rfl rfl) rfl (d_cons (d_var 11) (d_cons (d_var 12) d_nil))) (d_call F_factorial (hr.mono (by decide)) (takes_of rfl rfl rfl rfl) rfl (d_cons (d_var 12) d_nil))) (d_cb call_lenA cas_lenA rfl n_len PySem.boot_len (d_cons (d_var 5) d_nil)))))) (b_one (s_ret d_bl)) b_nil)
    (b_cons (s_if (t_w (w_or (t_ne hr.units (d_call F_choose (hr.mono (by decide)) (takes_of rfl rfl rfl rfl) rfl (d_cons (d_var 11) (d_cons (d_var 12) d_nil))) (d_cb call_lenA cas_lenA rfl n_len PySem.boot_len (d_cons (d_lcif (own := [("row", 15)]) (te := (tVar 15)) (tt := (tTest (tOp (rEqD K) (tCB (rSum2 K) (tCons (tVar 15) tNil)) (tVar 12)))) (gg := (gName 15)) (bb := (bName 15)) rfl sc_law.nd (blkOk_by (by kernel_rfl)) (i_seq (d_call F_law_all (hr.mono (by decide)) (takes_of rfl rfl rfl rfl) rfl (d_cons (d_lst (d_cons d_int (d_cons d_int d_nil))) (d_cons (d_var 11) d_nil)))) (fun _ _ _ _ _ => (g_name 15 sc_law.nd)) (fun _ _ _ _ _ => (t_eq hr.units (d_cb (cr_sum2 rfl) cas_sum2 rfl n_sum (by decide +kernel) (d_cons (d_var 15) d_nil)) (d_var 12))) (fun _ _ _ _ _ => (d_var 15))) d_nil))) (w_or1 (t_ne hr.units (d_call F_falling (hr.mono (by decide)) (takes_of rfl rfl rfl rfl) rfl (d_cons (d_var 11) (d_cons (d_var 12) d_nil))) (d_cb call_lenA cas_lenA rfl n_len PySem.boot_len (d_cons (d_lcif (own := [("row", 15)]) (te := (tVar 15)) (tt := (tTest (tOp (rEqD K) (tCB (rLenA K) (tCons (tCB (rDictA K) (tCons (tLc (iSeq K (tVar 15)) (gName 20) tYes (tTupF (tCons (tVar 20) (tCons (tC (.int 1)) tNil))) [20]) tNil)) tNil)) (tVar 12)))) (gg := (gName 15)) (bb := (bName 15)) rfl sc_law.nd (blkOk_by (by kernel_rfl)) (i_seq (d_call F_law_all (hr.mono (by decide)) (takes_of rfl rfl rfl rfl) rfl (d_cons (d_liR1 rfl rfl n_list rfl n_range (d_var 11)) (d_cons (d_var 12) d_nil)))) (fun _ _ _ _ _ => (g_name 15 sc_law.nd)) (fun _ _ _ _ _ => (t_eq hr.units (d_cb call_lenA cas_lenA rfl n_len PySem.boot_len (d_cons (d_ct (call_dictA rfl) cas_dict rfl n_dict (by decide +kernel) (d_cons (d_lc (own := [("one", 20)]) (te := (tTupF (tCons (tVar 20) (tCons (tC (.int 1)) tNil)))) (gg := (gName 20)) (bb := (bName 20)) rfl sc_law.nd (blkOk_by (by kernel_rfl)) (i_seq (d_var 15)) (fun _ _ _ _ _ => (g_name 20 sc_law.nd)) (fun _ _ _ _ _ => (d_tup (d_cons (d_var 20) (d_cons d_int d_nil))))) d_nil)) d_nil)) (d_var 12))) (fun _ _ _ _ _ => (d_var 15))) d_nil)))))) (b_one (s_ret d_bl)) b_nil)
    (b_cons (s_if (t_ne hr.units (d_call F_cycles (hr.mono (by decide)) (takes_of rfl rfl rfl rfl) rfl (d_cons (d_var 11) (d_cons (d_var 12) d_nil))) (d_cb call_lenA cas_lenA rfl n_len PySem.boot_len (d_cons (d_lcif (own := [("row", 15)]) (te := (tVar 15)) (tt := (tTest (tOp (rEqD K) (tCallS (spP K C 1 r_law_rings) (fun _ => EX0) (tCons (tVar 15) tNil)) (tVar 12)))) (gg := (gName 15)) (bb := (bName 15)) rfl sc_law.nd (blkOk_by (by kernel_rfl)) (i_seq (d_var 3)) (fun _ _ _ _ _ => (g_name 15 sc_law.nd)) (fun _ _ _ _ _ => (t_eq hr.units (d_call F_law_rings (hr.mono (by decide)) takes0 rfl (d_cons (d_var 15) d_nil)) (d_var 12))) (fun _ _ _ _ _ => (d_var 15))) d_nil))) (b_one (s_ret d_bl)) b_nil)
    (b_cons (s_asg (d_lc (own := [("row", 15)]) (te := (tCB (rLenA K) (tCons (tCallS (spP K C 1 r_law_flat) (fun _ => EX0) (tCons (tLc (iRng1 (tCons (tVar 11) tNil)) (gName 18) tYes (tLc (iRng1 (tCons (tVar 18) tNil)) (gName 19) (tTest (tOp rGtI (tOp (rIx K) (tVar 15) (tVar 19)) (tOp (rIx K) (tVar 15) (tVar 18)))) (tC (.int 1)) [19]) [18]) tNil)) tNil))) (gg := (gName 15)) (bb := (bName 15)) rfl sc_law.nd (blkOk_by (by kernel_rfl)) (i_seq (d_var 3)) (fun _ _ _ _ _ => (g_name 15 sc_law.nd)) (fun _ _ _ _ _ => (d_cb call_lenA cas_lenA rfl n_len PySem.boot_len (d_cons (d_call F_law_flat (hr.mono (by decide)) takes0 rfl (d_cons (d_lc (own := [("b", 18)]) (te := (tLc (iRng1 (tCons (tVar 18) tNil)) (gName 19) (tTest (tOp rGtI (tOp (rIx K) (tVar 15) (tVar 19)) (tOp (rIx K) (tVar 15) (tVar 18)))) (tC (.int 1)) [19])) (gg := (gName 18)) (bb := (bName 18)) rfl sc_law.nd (blkOk_by (by kernel_rfl)) (i_rg1 rfl n_range (d_cons (d_var 11) d_nil)) (fun _ _ _ _ _ => (g_name 18 sc_law.nd)) (fun _ _ _ _ _ => (d_lcif (own := [("a", 19)]) (te := (tC (.int 1))) (tt := (tTest (tOp rGtI (tOp (rIx K) (tVar 15) (tVar 19)) (tOp (rIx K) (tVar 15) (tVar 18))))) (gg := (gName 19)) (bb := (bName 19)) rfl sc_law.nd (blkOk_by (by kernel_rfl)) (i_rg1 rfl n_range (d_cons (d_var 18) d_nil)) (fun _ _ _ _ _ => (g_name 19 sc_law.nd)) (fun _ _ _ _ _ => (t_gt (d_ixV 15 (d_var 19)) (d_ixV 15 (d_var 18)))) (fun _ _ _ _ _ => d_int)))) d_nil)) d_nil)))) (g_name 6 sc_law.nd))
    (b_cons (s_if (t_ne hr.units (d_ct call_list_of cas_listOf rfl n_list (by decide +kernel) (d_cons (d_call F_crossings (hr.mono (by decide)) (takes_of rfl rfl rfl rfl) rfl (d_cons (d_var 11) d_nil)) d_nil)) (d_lc (own := [("k", 16)]) (te := (tBM K "list" (rCntI K) (tVar 6) (tCons (tVar 16) tNil))) (gg := (gName 16)) (bb := (bName 16)) rfl sc_law.nd (blkOk_by (by kernel_rfl)) (i_rg1 rfl n_range (d_cons (d_addA (d_cb (call_maxA rfl) cas_max rfl n_max (by decide +kernel) (d_cons (d_var 6) d_nil)) d_int) d_nil)) (fun _ _ _ _ _ => (g_name 16 sc_law.nd)) (fun _ _ _ _ _ => (d_cnt (d_var 6) (d_var 16))))) (b_one (s_ret d_bl)) b_nil)
    (b_cons (s_if (t_ne hr.units (d_call F_sums (hr.mono (by decide)) (takes_of rfl rfl rfl rfl) rfl (d_cons (d_var 11) (d_cons (d_var 12) d_nil))) (d_cb call_lenA cas_lenA rfl n_len PySem.boot_len (d_cons (d_lcif (own := [("row", 15)]) (te := (tVar 15)) (tt := (tTest (tOp (rEqD K) (tCB (rSum2 K) (tCons (tVar 15) tNil)) (tVar 11)))) (gg := (gName 15)) (bb := (bName 15)) rfl sc_law.nd (blkOk_by (by kernel_rfl)) (i_seq (d_call F_law_all (hr.mono (by decide)) (takes_of rfl rfl rfl rfl) rfl (d_cons (d_liR1 rfl rfl n_list rfl n_range (d_addA (d_var 11) d_int)) (d_cons (d_var 12) d_nil)))) (fun _ _ _ _ _ => (g_name 15 sc_law.nd)) (fun _ _ _ _ _ => (t_eq hr.units (d_cb (cr_sum2 rfl) cas_sum2 rfl n_sum (by decide +kernel) (d_cons (d_var 15) d_nil)) (d_var 11))) (fun _ _ _ _ _ => (d_var 15))) d_nil))) (b_one (s_ret d_bl)) b_nil)
    (b_cons (s_asg (d_callM 1 F_law_roll (hr.mono (by decide)) (takes_of rfl rfl rfl rfl) rfl (d_cons d_int d_nil)) (g_name 7 sc_law.nd))
    (b_cons (s_setLcif 8 (own := [("row", 15)]) (te := (tVar 15)) (tt := (tAnd (tTest (tOp (rEqD K) (tCB (rSum2 K) (tCons (tVar 15) tNil)) (tVar 11))) (tTest (tOp (rEqD K) (tCB (rListOf K) (tCons (tVar 15) tNil)) (tCKw (rSortKwA K true) (tCons (tVar 15) tNil) (tCons (tC (.bl true)) tNil)))))) (gg := (gName 15)) (bb := (bName 15)) rfl sc_law.nd (blkOk_by (by kernel_rfl)) (i_seq (d_call F_law_all (hr.mono (by decide)) (takes_of rfl rfl rfl rfl) rfl (d_cons (d_liR1 rfl rfl n_list rfl n_range (d_addA (d_var 7) d_int)) (d_cons (d_var 11) d_nil)))) (fun _ _ _ _ _ => (g_name 15 sc_law.nd)) (fun _ _ _ _ _ => (t_w (w_and (t_eq hr.units (d_cb (cr_sum2 rfl) cas_sum2 rfl n_sum (by decide +kernel) (d_cons (d_var 15) d_nil)) (d_var 11)) (w_and1 (t_eq hr.units (d_ct call_list_of cas_listOf rfl n_list (by decide +kernel) (d_cons (d_var 15) d_nil)) (d_sortRev (b := true) (d_var 15) rfl n_sorted)))))) (fun _ _ _ _ _ => (d_var 15)) (sw_true rfl rfl rfl (by decide +kernel)))
    (b_cons (s_if (t_ne hr.units (d_call F_parts_of (hr.mono (by decide)) (takes_of rfl rfl rfl rfl) rfl (d_cons (d_var 11) (d_cons (d_var 7) d_nil))) (d_cb call_lenA cas_lenA rfl n_len PySem.boot_len (d_cons (d_var 8) d_nil))) (b_one (s_ret d_bl)) b_nil)
    (b_cons (s_asg (d_lc (own := [("k", 16)]) (te := (tCallS (spM K C 1 r_law_roll) (fun _ => EX0) (tCons (tVar 1) (tCons (tC (.int 3)) tNil)))) (gg := (gName 16)) (bb := (bName 16)) rfl sc_law.nd (blkOk_by (by kernel_rfl)) (i_rg1 rfl n_range (d_cons (d_callM 1 F_law_roll (hr.mono (by decide)) (takes_of rfl rfl rfl rfl) rfl (d_cons d_int d_nil)) d_nil)) (fun _ _ _ _ _ => (g_name 16 sc_law.nd)) (fun _ _ _ _ _ => (d_callM 1 F_law_roll (hr.mono (by decide)) takes0 rfl (d_cons d_int d_nil)))) (g_name 9 sc_law.nd))
    (b_cons (s_if (t_ne hr.units (d_call F_split_ways (hr.mono (by decide)) (takes_of rfl rfl rfl rfl) rfl (d_cons (d_var 9) d_nil)) (d_cb call_lenA cas_lenA rfl n_len PySem.boot_len (d_cons (d_lcif (own := [("row", 15)]) (te := (tVar 15)) (tt := (tTest (tOp (rEqD K) (tLc (iRng1 (tCons (tCB (rLenA K) (tCons (tVar 9) tNil)) tNil)) (gName 16) tYes (tBT K (rCntT K) (tVar 15) (tCons (tVar 16) tNil)) [16]) (tVar 9)))) (gg := (gName 15)) (bb := (bName 15)) rfl sc_law.nd (blkOk_by (by kernel_rfl)) (i_seq (d_call F_law_all (hr.mono (by decide)) (takes_of rfl rfl rfl rfl) rfl (d_cons (d_liR1 rfl rfl n_list rfl n_range (d_cb call_lenA cas_lenA rfl n_len PySem.boot_len (d_cons (d_var 9) d_nil))) (d_cons (d_cb (cr_sum2 rfl) cas_sum2 rfl n_sum (by decide +kernel) (d_cons (d_var 9) d_nil)) d_nil)))) (fun _ _ _ _ _ => (g_name 15 sc_law.nd)) (fun _ _ _ _ _ => (t_eq hr.units (d_lc (own := [("k", 16)]) (te := (tBT K (rCntT K) (tVar 15) (tCons (tVar 16) tNil))) (gg := (gName 16)) (bb := (bName 16)) rfl sc_law.nd (blkOk_by (by kernel_rfl)) (i_rg1 rfl n_range (d_cons (d_cb call_lenA cas_lenA rfl n_len PySem.boot_len (d_cons (d_var 9) d_nil)) d_nil)) (fun _ _ _ _ _ => (g_name 16 sc_law.nd)) (fun _ _ _ _ _ => (d_cntT (d_var 15) (d_var 16)))) (d_var 9))) (fun _ _ _ _ _ => (d_var 15))) d_nil))) (b_one (s_ret d_bl)) b_nil)
    (b_cons (s_asg (d_tup (d_cons (d_callM 1 F_law_roll (hr.mono (by decide)) (takes_of rfl rfl rfl rfl) rfl (d_cons d_int d_nil)) (d_cons (d_callM 1 F_law_roll (hr.mono (by decide)) (takes_of rfl rfl rfl rfl) rfl (d_cons d_int d_nil)) d_nil))) (g_tup rfl (g_cons (g_name 13 sc_law.nd) (g_cons (g_name 14 sc_law.nd) g_nil))))
    (b_cons (s_setLcif 10 (own := [("row", 15)]) (te := (tVar 15)) (tt := (tTest (tOp (rEqD K) (tBT K (rCntT K) (tVar 15) (tCons (tC (.int 1)) tNil)) (tVar 13)))) (gg := (gName 15)) (bb := (bName 15)) rfl sc_law.nd (blkOk_by (by kernel_rfl)) (i_seq (d_call F_law_all (hr.mono (by decide)) (takes_of rfl rfl rfl rfl) rfl (d_cons (d_lst (d_cons d_int (d_cons (d_sub d_int d_int) d_nil))) (d_cons (d_addA (d_var 13) (d_var 14)) d_nil)))) (fun _ _ _ _ _ => (g_name 15 sc_law.nd)) (fun _ _ _ _ _ => (t_eq hr.units (d_cntT (d_var 15) d_int) (d_var 13))) (fun _ _ _ _ _ => (d_var 15)) (sw_true rfl rfl rfl (by decide +kernel)))
    (b_one (s_if (t_ne hr.units (d_call F_ahead_ways (hr.mono (by decide)) (takes_of rfl rfl rfl rfl) rfl (d_cons (d_var 13) (d_cons (d_var 14) d_nil))) (d_cb call_lenA cas_lenA rfl n_len PySem.boot_len (d_cons (d_lcif (own := [("row", 15)]) (te := (tVar 15)) (tt := (tTest (tOp (rEqD K) (tLc (iRng2 (tCons (tC (.int 1)) (tCons (tOp (rAddA K) (tOp (rAddA K) (tVar 13) (tVar 14)) (tC (.int 1))) tNil))) (gName 16) (tTest (tOp rLeI (tCB (rSum2 K) (tCons (tSl (rSl2 K) (tVar 15) tNoPart (tPart (tVar 16))) tNil)) (tC (.int 0)))) (tVar 16) [16]) (tLst tNil)))) (gg := (gName 15)) (bb := (bName 15)) rfl sc_law.nd (blkOk_by (by kernel_rfl)) (i_seq (d_var 10)) (fun _ _ _ _ _ => (g_name 15 sc_law.nd)) (fun _ _ _ _ _ => (t_eq hr.units (d_lcif (own := [("k", 16)]) (te := (tVar 16)) (tt := (tTest (tOp rLeI (tCB (rSum2 K) (tCons (tSl (rSl2 K) (tVar 15) tNoPart (tPart (tVar 16))) tNil)) (tC (.int 0))))) (gg := (gName 16)) (bb := (bName 16)) rfl sc_law.nd (blkOk_by (by kernel_rfl)) (i_rg2 rfl n_range (d_cons d_int (d_cons (d_addA (d_addA (d_var 13) (d_var 14)) d_int) d_nil))) (fun _ _ _ _ _ => (g_name 16 sc_law.nd)) (fun _ _ _ _ _ => (t_le (d_cb (cr_sum2 rfl) cas_sum2 rfl n_sum (by decide +kernel) (d_cons (d_slice (d_var 15) p_no (p_some (d_var 16))) d_nil)) d_int)) (fun _ _ _ _ _ => (d_var 16))) (d_lst d_nil))) (fun _ _ _ _ _ => (d_var 15))) d_nil))) (b_one (s_ret d_bl)) b_nil))))))))))))))))))))⟩
end
end K2

namespace K2
open PySem PySem.Spec PyProof.Rows L2 LW
section
variable {P : Program} {w : World} {K : PySem.W.Frag} {mg : Str → Option Value} {base : Heap} {C : Cl}
abbrev s_law_rounds : Stmt := top 32
def m_law_rounds : MS := (mSeq (mIfS (mtB (mOp iEq (mVar 2) (mLst maNil))) (mAsg (bName 2) (mLst (maCons (mC (.int 0)) maNil))) mNext)
  (mRet (mComp [3] (miSeq (mVar 2)) (bName 3) mtYes (mCall 1 r_law_dice (maCons (mVar 3) maNil)))))
theorem sc_law_rounds : FnScope ["script", "most", "cells", "cell"] ["script", "most"] (defScope s_law_rounds) := ⟨rfl, rfl, rfl, by decide +kernel, rfl, by decide +kernel, by decide +kernel⟩
theorem ok_law_rounds {f : Addr} {fd : FuncData} (F : FunD K "_law_rounds" "_law_rounds" (defArgs s_law_rounds) (defBody s_law_rounds) (defScope s_law_rounds) [] [] f fd) (F_law_dice : FnI P w K mg base C 1 "_law_dice" 1 r_law_dice)
    (h0 : ∃ e, m_law_rounds [none, some (.sh (.int 1)), some (.sh (.list [])), none] = .rt e (.list [.list (intsD (diceOf 0))])) (h1 : ∀ z, ∃ e, m_law_rounds [none, some (.sh (.int 1)), some (.sh (.list [.int z])), none] = .rt e (.list [.list (intsD (diceOf z))])) :
    FnOk P w K mg base (L2.CX P w) 2 f fd ["script", "most"] (spRounds K C diceOf) :=
  rounds_ok (k := 1) (m := m_law_rounds) (N := ["script", "most", "cells", "cell"]) F sc_law_rounds rfl (fun cdv A outer s H E hr => ⟨ps_set (i := 2) sc_law_rounds.nd rfl (by first | exact Or.inl rfl | exact Or.inr rfl) (pe_slice sl_list (pe_var rfl (by first | exact Or.inl rfl | exact Or.inr (Or.inl rfl) | exact Or.inr (Or.inr rfl))) po_none (po_some (pe_var rfl (by first | exact Or.inl rfl | exact Or.inr (Or.inl rfl) | exact Or.inr (Or.inr rfl))))), _,
   (b_cons (s_if (t_eq hr.units (d_var 2) (d_lst d_nil)) (b_one (s_asg (d_lst (d_cons d_int d_nil)) (g_name 2 sc_law_rounds.nd))) b_nil)
    (b_one (s_ret (d_lc (own := [("cell", 3)]) (te := (tCallS (spP K C 1 r_law_dice) (fun _ => EX0) (tCons (tVar 3) tNil))) (gg := (gName 3)) (bb := (bName 3)) rfl sc_law_rounds.nd (blkOk_by (by kernel_rfl)) (i_seq (d_var 2)) (fun _ _ _ _ _ => (g_name 3 sc_law_rounds.nd)) (fun _ _ _ _ _ => (d_call F_law_dice (hr.mono (by decide)) takes0 rfl (d_cons (d_var 3) d_nil)))))))⟩) h0 h1
theorem lams_law (s0 : Shared) (F_check_count : FnI P w K mg base C 1 "check_count" 1 r_check_count) (F_factorial : FnI P w K mg base C 2 "factorial" 1 r_factorial) (F_choose : FnI P w K mg base C 2 "choose" 2 r_choose) (F_falling : FnI P w K mg base C 2 "falling" 2 r_falling) (F_none_home : FnI P w K mg base C 2 "none_home" 1 r_none_home) (F_onto : FnI P w K mg base C 3 "onto" 2 r_onto) (F_sums : FnI P w K mg base C 3 "sums" 2 r_sums) (F_parts_of : FnI P w K mg base C 2 "parts_of" 2 r_parts_of) (F_cycles : FnI P w K mg base C 2 "cycles" 2 r_cycles) (F_crossings : FnI P w K mg base C 2 "crossings" 1 r_crossings) (F_ahead_ways : FnI P w K mg base C 3 "ahead_ways" 2 r_ahead_ways) : LamAll P w K mg base C 6 "law.<locals>.<lambda>" (lmsIn s_law) :=
  ⟨lam_of s0 5 (t := fun E => (tCallS (spP K C 1 r_check_count) (fun _ => E) (tCons (tOp rSubI (tC (.int 0)) (tC (.int 1))) tNil))) (m := (mCall 1 r_check_count (maCons (mOp iSub (mC (.int 0)) (mC (.int 1))) maNil))) ⟨rfl, rfl, rfl, by decide +kernel, rfl, by decide +kernel, by decide +kernel⟩ (fun _ _ _ => rfl) (fun A outer s H E f c' hr => (d_call F_check_count (hr.mono (by decide)) (takes_of rfl rfl rfl rfl) rfl (d_cons (d_sub d_int d_int) d_nil))) (Room.deeper ⟨rfl, by decide, by decide⟩ _) (by kernel_rfl) rfl,
   lam_of s0 5 (t := fun E => (tCallS (spP K C 1 r_factorial) (fun _ => E) (tCons (tOp rSubI (tC (.int 0)) (tC (.int 1))) tNil))) (m := (mCall 1 r_factorial (maCons (mOp iSub (mC (.int 0)) (mC (.int 1))) maNil))) ⟨rfl, rfl, rfl, by decide +kernel, rfl, by decide +kernel, by decide +kernel⟩ (fun _ _ _ => rfl) (fun A outer s H E f c' hr => (d_call F_factorial (hr.mono (by decide)) (takes_of rfl rfl rfl rfl) rfl (d_cons (d_sub d_int d_int) d_nil))) (Room.deeper ⟨rfl, by decide, by decide⟩ _) (by kernel_rfl) rfl,
   lam_of s0 5 (t := fun E => (tCallS (spP K C 2 r_choose) (fun _ => E) (tCons (tOp rSubI (tC (.int 0)) (tC (.int 1))) (tCons (tC (.int 0)) tNil)))) (m := (mCall 2 r_choose (maCons (mOp iSub (mC (.int 0)) (mC (.int 1))) (maCons (mC (.int 0)) maNil)))) ⟨rfl, rfl, rfl, by decide +kernel, rfl, by decide +kernel, by decide +kernel⟩ (fun _ _ _ => rfl) (fun A outer s H E f c' hr => (d_call F_choose (hr.mono (by decide)) (takes_of rfl rfl rfl rfl) rfl (d_cons (d_sub d_int d_int) (d_cons d_int d_nil)))) (Room.deeper ⟨rfl, by decide, by decide⟩ _) (by kernel_rfl) rfl,
   lam_of s0 5 (t := fun E => (tCallS (spP K C 2 r_falling) (fun _ => E) (tCons (tC (.int 1)) (tCons (tOp rSubI (tC (.int 0)) (tC (.int 1))) tNil)))) (m := (mCall 2 r_falling (maCons (mC (.int 1)) (maCons (mOp iSub (mC (.int 0)) (mC (.int 1))) maNil)))) ⟨rfl, rfl, rfl, by decide +kernel, rfl, by decide +kernel, by decide +kernel⟩ (fun _ _ _ => rfl) (fun A outer s H E f c' hr => (d_call F_falling (hr.mono (by decide)) (takes_of rfl rfl rfl rfl) rfl (d_cons d_int (d_cons (d_sub d_int d_int) d_nil)))) (Room.deeper ⟨rfl, by decide, by decide⟩ _) (by kernel_rfl) rfl,
   lam_of s0 5 (t := fun E => (tCallS (spP K C 1 r_none_home) (fun _ => E) (tCons (tOp rSubI (tC (.int 0)) (tC (.int 1))) tNil))) (m := (mCall 1 r_none_home (maCons (mOp iSub (mC (.int 0)) (mC (.int 1))) maNil))) ⟨rfl, rfl, rfl, by decide +kernel, rfl, by decide +kernel, by decide +kernel⟩ (fun _ _ _ => rfl) (fun A outer s H E f c' hr => (d_call F_none_home (hr.mono (by decide)) (takes_of rfl rfl rfl rfl) rfl (d_cons (d_sub d_int d_int) d_nil))) (Room.deeper ⟨rfl, by decide, by decide⟩ _) (by kernel_rfl) rfl,
   lam_of s0 5 (t := fun E => (tCallS (spP K C 2 r_onto) (fun _ => E) (tCons (tC (.int 1)) (tCons (tOp rSubI (tC (.int 0)) (tC (.int 1))) tNil)))) (m := (mCall 2 r_onto (maCons (mC (.int 1)) (maCons (mOp iSub (mC (.int 0)) (mC (.int 1))) maNil)))) ⟨rfl, rfl, rfl, by decide +kernel, rfl, by decide +kernel, by decide +kernel⟩ (fun _ _ _ => rfl) (fun A outer s H E f c' hr => (d_call F_onto (hr.mono (by decide)) (takes_of rfl rfl rfl rfl) rfl (d_cons d_int (d_cons (d_sub d_int d_int) d_nil)))) (Room.deeper ⟨rfl, by decide, by decide⟩ _) (by kernel_rfl) rfl,
   lam_of s0 5 (t := fun E => (tCallS (spP K C 2 r_sums) (fun _ => E) (tCons (tOp rSubI (tC (.int 0)) (tC (.int 1))) (tCons (tC (.int 1)) tNil)))) (m := (mCall 2 r_sums (maCons (mOp iSub (mC (.int 0)) (mC (.int 1))) (maCons (mC (.int 1)) maNil)))) ⟨rfl, rfl, rfl, by decide +kernel, rfl, by decide +kernel, by decide +kernel⟩ (fun _ _ _ => rfl) (fun A outer s H E f c' hr => (d_call F_sums (hr.mono (by decide)) (takes_of rfl rfl rfl rfl) rfl (d_cons (d_sub d_int d_int) (d_cons d_int d_nil)))) (Room.deeper ⟨rfl, by decide, by decide⟩ _) (by kernel_rfl) rfl,
   lam_of s0 5 (t := fun E => (tCallS (spP K C 2 r_parts_of) (fun _ => E) (tCons (tC (.int 1)) (tCons (tOp rSubI (tC (.int 0)) (tC (.int 1))) tNil)))) (m := (mCall 2 r_parts_of (maCons (mC (.int 1)) (maCons (mOp iSub (mC (.int 0)) (mC (.int 1))) maNil)))) ⟨rfl, rfl, rfl, by decide +kernel, rfl, by decide +kernel, by decide +kernel⟩ (fun _ _ _ => rfl) (fun A outer s H E f c' hr => (d_call F_parts_of (hr.mono (by decide)) (takes_of rfl rfl rfl rfl) rfl (d_cons d_int (d_cons (d_sub d_int d_int) d_nil)))) (Room.deeper ⟨rfl, by decide, by decide⟩ _) (by kernel_rfl) rfl,
   lam_of s0 5 (t := fun E => (tCallS (spP K C 2 r_cycles) (fun _ => E) (tCons (tOp rSubI (tC (.int 0)) (tC (.int 1))) (tCons (tC (.int 0)) tNil)))) (m := (mCall 2 r_cycles (maCons (mOp iSub (mC (.int 0)) (mC (.int 1))) (maCons (mC (.int 0)) maNil)))) ⟨rfl, rfl, rfl, by decide +kernel, rfl, by decide +kernel, by decide +kernel⟩ (fun _ _ _ => rfl) (fun A outer s H E f c' hr => (d_call F_cycles (hr.mono (by decide)) (takes_of rfl rfl rfl rfl) rfl (d_cons (d_sub d_int d_int) (d_cons d_int d_nil)))) (Room.deeper ⟨rfl, by decide, by decide⟩ _) (by kernel_rfl) rfl,
   lam_of s0 5 (t := fun E => (tCallS (spP K C 1 r_crossings) (fun _ => E) (tCons (tOp rSubI (tC (.int 0)) (tC (.int 1))) tNil))) (m := (mCall 1 r_crossings (maCons (mOp iSub (mC (.int 0)) (mC (.int 1))) maNil))) ⟨rfl, rfl, rfl, by decide +kernel, rfl, by decide +kernel, by decide +kernel⟩ (fun _ _ _ => rfl) (fun A outer s H E f c' hr => (d_call F_crossings (hr.mono (by decide)) (takes_of rfl rfl rfl rfl) rfl (d_cons (d_sub d_int d_int) d_nil))) (Room.deeper ⟨rfl, by decide, by decide⟩ _) (by kernel_rfl) rfl,
   lam_of s0 5 (t := fun E => (tCallS (spP K C 2 r_ahead_ways) (fun _ => E) (tCons (tC (.int 1)) (tCons (tOp rSubI (tC (.int 0)) (tC (.int 1))) tNil)))) (m := (mCall 2 r_ahead_ways (maCons (mC (.int 1)) (maCons (mOp iSub (mC (.int 0)) (mC (.int 1))) maNil)))) ⟨rfl, rfl, rfl, by decide +kernel, rfl, by decide +kernel, by decide +kernel⟩ (fun _ _ _ => rfl) (fun A outer s H E f c' hr => (d_call F_ahead_ways (hr.mono (by decide)) (takes_of rfl rfl rfl rfl) rfl (d_cons d_int (d_cons (d_sub d_int d_int) d_nil)))) (Room.deeper ⟨rfl, by decide, by decide⟩ _) (by kernel_rfl) rfl,
   trivial⟩
theorem ok_law {f c Pt fR : Addr} {fd fdR : FuncData} (F : FunD K "law" "law" (defArgs s_law) (defBody s_law) (defScope s_law) [] [] f fd) (hc : fd.code = .ref c) (F_law_roll : FnM P w K mg base C 1 "_law_roll" 1 r_law_roll) (F_law_orders : FnI P w K mg base C 2 "_law_orders" 1 r_law_orders) (F_none_home : FnI P w K mg base C 2 "none_home" 1 r_none_home) (F_factorial : FnI P w K mg base C 2 "factorial" 1 r_factorial) (F_law_all : FnI P w K mg base C 2 "_law_all" 2 r_law_all) (F_lots : FnI P w K mg base C 4 "lots" 2 r_lots) (F_onto : FnI P w K mg base C 3 "onto" 2 r_onto) (F_falling : FnI P w K mg base C 2 "falling" 2 r_falling) (F_choose : FnI P w K mg base C 2 "choose" 2 r_choose) (F_cycles : FnI P w K mg base C 2 "cycles" 2 r_cycles) (F_law_rings : FnI P w K mg base C 1 "_law_rings" 1 r_law_rings) (F_law_flat : FnI P w K mg base C 1 "_law_flat" 1 r_law_flat) (F_crossings : FnI P w K mg base C 2 "crossings" 1 r_crossings) (F_sums : FnI P w K mg base C 3 "sums" 2 r_sums) (F_parts_of : FnI P w K mg base C 2 "parts_of" 2 r_parts_of) (F_split_ways : FnI P w K mg base C 3 "split_ways" 1 r_split_ways) (F_ahead_ways : FnI P w K mg base C 3 "ahead_ways" 2 r_ahead_ways) (F_check_count : FnI P w K mg base C 1 "check_count" 1 r_check_count) (n_len : mg "len" = none) (n_range : mg "range" = none) (n_list : mg "list" = none) (n_dict : mg "dict" = none) (n_sum : mg "sum" = none) (n_max : mg "max" = none) (n_sorted : mg "sorted" = none)
    (T : ToldI P w K mg base C) (TB : LamX.TabB base mg c Pt) (hT : C.T = [(Pt, ("law.<locals>.<lambda>" : Str))]) (FR : FnOk P w K mg base (L2.CX P w) 2 fR fdR ["script", "most"] (spRounds K C diceOf)) (gR : mg "_law_rounds" = some (.ref fR)) (kR : PySem.W.keepIn K (.ref fR) = true) (bR : Binds K fdR ["script", "most"] [])
    (hm : ∀ z, Builtin.Int.intBits z ≤ 1048576 → ∃ e, m_law (startL 21 (diceOf z)) = .nx e ∧ e.length = 21) : FnOk P w K mg base (L2.CX P w) 9 f fd ["script"] (spLaw K C) := by
  have hmT : (Pt, ("law.<locals>.<lambda>" : Str)) ∈ C.T := by rw [hT]; exact List.mem_singleton.mpr rfl
  have huT : ∀ p ∈ C.T, p.1 = Pt → p.2 = ("law.<locals>.<lambda>" : Str) := fun p hp _ => by rw [hT] at hp; rw [List.mem_singleton.mp hp]
  have T0 := T
  obtain ⟨lT, g, fdT, hlT, g_lt, F_lt, hhT⟩ := T.ex
  have okT : FnOk P w K mg base L2.CX0 8 g fdT ["what"] (spTold P w K mg base 6 lT) := told_ok (k := 6) F_lt sc_law_told rfl (by first | exact Or.inl rfl | exact Or.inr (Or.inl rfl) | exact Or.inr (Or.inr rfl)) (by decide) (by decide) (fun cdv A outer s H => hhT cdv A outer s H) (fun _ => rfl)
  have bT : Binds K fdT ["what"] [] := FunD.bindsN F_lt fun _ _ _ _ _ _ us hl => match us, hl with | [_], _ => rfl
  refine law_ok (k := 8) (N := ["script", "dice", "wrong", "orders", "rows", "full", "wrong_pairs_now", "most", "falls", "sizes", "votes", "many", "few", "yes", "no", "row", "k", "pair", "b", "a", "one"]) F sc_law (by decide) hc (fun A outer s H E hr => ?_) hm
  obtain ⟨tb, bd⟩ := bd_law (A := A) (outer := outer) (s := s) (H := H) (E := E) (f := f) (C := C) F_law_roll F_law_orders F_none_home F_factorial F_law_all F_lots F_onto F_falling F_choose F_cycles F_law_rings F_law_flat F_crossings F_sums F_parts_of F_split_ways F_ahead_ways n_len n_range n_list n_dict n_sum n_max n_sorted T0 TB hT (hr.mono (by decide))
  have xr : ED (cxOf (L2.CX P w) P w K mg base ["script", "dice", "wrong", "orders", "rows", "full", "wrong_pairs_now", "most", "falls", "sizes", "votes", "many", "few", "yes", "no", "row", "k", "pair", "b", "a", "one"] "law" (defScope s_law) f (.ref c) A outer s H E) C E (restE s_law) (tAndV (tOp (rEqD K) (tCallS (spP K C 2 r_choose) (fun _ => E) (tCons (tC (.int 3)) (tCons (tC (.int 4)) tNil))) (tC (.int 0))) (tOp (rEqD K) (tCallS (spP K C 2 r_choose) (fun _ => E) (tCons (tC (.int 3)) (tCons (tOp rSubI (tC (.int 0)) (tC (.int 1))) tNil))) (tC (.int 0)))) (mAndV (mOp iEq (mCall 2 r_choose (maCons (mC (.int 3)) (maCons (mC (.int 4)) maNil))) (mC (.int 0))) (mOp iEq (mCall 2 r_choose (maCons (mC (.int 3)) (maCons (mOp iSub (mC (.int 0)) (mC (.int 1))) maNil))) (mC (.int 0)))) := (d_andV (d_eq hr.units (d_call F_choose (hr.mono (by decide)) (takes_of rfl rfl rfl rfl) rfl (d_cons d_int (d_cons d_int d_nil))) d_int) (d_one (d_eq hr.units (d_call F_choose (hr.mono (by decide)) (takes_of rfl rfl rfl rfl) rfl (d_cons d_int (d_cons (d_sub d_int d_int) d_nil))) d_int)))
  refine ⟨tb, _, pss_cons (ps_for (passes_of rfl) rfl (pi_seq (pe_callS FR (hr.mono (by decide)) rfl gR kR bR (fun σ => passAt (takes_of rfl rfl rfl rfl) σ) (pa_cons (pe_var (i := 0) rfl (by first | exact Or.inl rfl | exact Or.inr (Or.inl rfl) | exact Or.inr (Or.inr rfl))) (pa_cons pe_int pa_nil)))) (g_name (C := C) 1 sc_law.nd).pe bd.pe)
    (pss_cons (ps_set (i := 2) sc_law.nd rfl (by first | exact Or.inl rfl | exact Or.inr rfl) (pe_lst (pa_wrong TB rfl hmT huT _ (lmsIn s_law) (by kernel_rfl) (fun l hl => noDef_ok (by kernel_rfl) l hl _))))
    (pss_one (ps_ret (pe_and (pe_cmpR (op_eqD hr.units) (pe_lc (own := [("pair", 17)]) (tt := ttW K (spTold P w K mg base 6 lT) 17) (te := tVar 17) (g := gName 17) rfl sc_law.nd (pi_seq (pe_var (i := 2) rfl (by first | exact Or.inl rfl | exact Or.inr (Or.inl rfl) | exact Or.inr (Or.inr rfl)))) (blkOk_by (by kernel_rfl)) (fun _ _ _ _ _ => (g_name (C := C) 17 sc_law.nd).pe)
      (fun _ _ _ _ _ => pts_one (pt_cmpR (op_neD hr.units) (pe_callS okT (hr.mono (by decide)) rfl g_lt F_lt.kp bT (fun σ => fun _ _ _ _ _ _ z => z.elim) (pa_cons (pe_ix ix_seq (pe_var (i := 17) rfl (by first | exact Or.inl rfl | exact Or.inr (Or.inl rfl) | exact Or.inr (Or.inr rfl))) pe_int (fun _ _ => rfl)) pa_nil)) (pe_ix ix_seq (pe_var (i := 17) rfl (by first | exact Or.inl rfl | exact Or.inr (Or.inl rfl) | exact Or.inr (Or.inr rfl))) pe_int (fun _ _ => rfl)) (nomark _))) (fun _ _ _ _ _ => pe_var (i := 17) rfl (by first | exact Or.inl rfl | exact Or.inr (Or.inl rfl) | exact Or.inr (Or.inr rfl)))) (pe_lst pa_nil) (nomark _)) xr.pe)))), bd.sd, tail_ok2 hlT (LamAll.mem (lams_law s F_check_count F_factorial F_choose F_falling F_none_home F_onto F_sums F_parts_of F_cycles F_crossings F_ahead_ways)) (by decide) (by decide) (Nat.le_of_ble_eq_true (by kernel_rfl)) (by decide) xr.sd (by kernel_rfl)⟩
end
end K2

namespace K2
open PySem PySem.Spec PyProof.Rows L2 LW
def fn : List He.DefD := [defOf "check_count" s_check_count [], defOf "factorial" s_factorial [], defOf "choose" s_choose [], defOf "falling" s_falling [], defOf "split_ways" s_split_ways [], defOf "none_home" s_none_home [], defOf "raised" s_raised [], defOf "onto" s_onto [], defOf "lots" s_lots [], defOf "sums" s_sums [], defOf "parts_of" s_parts_of [], defOf "cycles" s_cycles [], defOf "crossings" s_crossings [], defOf "ahead_ways" s_ahead_ways [], defOf "_law_flat" s_law_flat [], defOf "_law_dice" s_law_dice [], defOf "_law_roll" s_law_roll [], defOf "_law_all" s_law_all [], defOf "_law_orders" s_law_orders [], defOf "_law_rings" s_law_rings [], defOf "_law_rounds" s_law_rounds [], defOf "_law_told" s_law_told [], defOf "law" s_law []]
def fa0 : List He.Fa := [.glo "check_count", .glo "factorial", .glo "choose", .glo "falling", .glo "split_ways", .glo "none_home", .glo "raised", .glo "onto", .glo "lots", .glo "sums", .glo "parts_of", .glo "cycles", .glo "crossings", .glo "ahead_ways", .glo "_law_flat", .glo "_law_dice", .glo "_law_roll", .glo "_law_all", .glo "_law_orders", .glo "_law_rings"]
def fa1 : List He.Fa := [.glo "_law_rounds", .glo "_law_told", .glo "law", .glo "ChanceFault", .glo "BadPart", .glo "BadSpread", .glo "BadTree", .glo "BadPaper", .glo "BadSize", .glo "BadText", .glo "BadStore", .glo "NoChance", .glo "NoSuch", .free "range", .free "min", .free "len", .free "sum", .free "max", .free "tuple", .free "abs"]
def fa2 : List He.Fa := [.free "int", .free "list", .free "dict", .free "sorted", .exc "BadSize", .exc "BadPart"]
def fa : List He.Fa := fa0 ++ fa1 ++ fa2
def ex (K : PySem.W.Frag) : Bool := exTold K && (bfB K "perm" "math.perm" && (bfB K "comb" "math.comb"))
abbrev RWL : PySem.W.OpenLaw := PySem.Challenge.rw_luckwright_k02_how_many_ways
abbrev RR : PySem.W.OpenRow := PySem.W.OpenLaw.row RWL
abbrev tf : List He.Defn := [(("law" : Str), none)]
def loose0 : List Str := ["ChanceFault", "BadPart", "BadSpread", "BadTree", "BadPaper", "BadSize", "BadText", "BadStore", "NoChance", "NoSuch", "raised", "check_count", "factorial", "choose", "falling", "split_ways", "none_home", "onto", "lots", "sums"]
def loose1 : List Str := ["parts_of", "cycles", "crossings", "ahead_ways", "_law_flat", "_law_dice", "_law_roll", "_law_rounds", "_law_told", "_law_all", "_law_orders", "_law_rings"]
def loose : List Str := loose0 ++ loose1
theorem facts {w : World} {K : PySem.W.Frag} {h : Heap} {mg : Str → Option Value} {f0 : Addr} (X : K.In h) (G : h.Ns mainGlobals mg) (hfa : mg ("law" : Str) = some (.ref f0)) (c : He.SaysX fa fn [] tf ex w h K)
    (h0 : ∃ e, m_law_rounds [none, some (.sh (.int 1)), some (.sh (.list [])), none] = .rt e (.list [.list (intsD (diceOf 0))])) (h1 : ∀ z, ∃ e, m_law_rounds [none, some (.sh (.int 1)), some (.sh (.list [.int z])), none] = .rt e (.list [.list (intsD (diceOf z))]))
    (hm : ∀ z, Builtin.Int.intBits z ≤ 1048576 → ∃ e, m_law (startL 21 (diceOf z)) = .nx e ∧ e.length = 21) : LamX.LawAtS RWL w K (L2.CX RWL.prog w) 9 63 "script" mg f0 h := by
  obtain ⟨d_check_count, D_check_count⟩ := c.t.d.def_ 0 (d := defOf "check_count" s_check_count []) rfl
  obtain ⟨d_factorial, D_factorial⟩ := c.t.d.def_ 1 (d := defOf "factorial" s_factorial []) rfl
  obtain ⟨d_choose, D_choose⟩ := c.t.d.def_ 2 (d := defOf "choose" s_choose []) rfl
  obtain ⟨d_falling, D_falling⟩ := c.t.d.def_ 3 (d := defOf "falling" s_falling []) rfl
  obtain ⟨d_split_ways, D_split_ways⟩ := c.t.d.def_ 4 (d := defOf "split_ways" s_split_ways []) rfl
  obtain ⟨d_none_home, D_none_home⟩ := c.t.d.def_ 5 (d := defOf "none_home" s_none_home []) rfl
  obtain ⟨d_raised, D_raised⟩ := c.t.d.def_ 6 (d := defOf "raised" s_raised []) rfl
  obtain ⟨d_onto, D_onto⟩ := c.t.d.def_ 7 (d := defOf "onto" s_onto []) rfl
  obtain ⟨d_lots, D_lots⟩ := c.t.d.def_ 8 (d := defOf "lots" s_lots []) rfl
  obtain ⟨d_sums, D_sums⟩ := c.t.d.def_ 9 (d := defOf "sums" s_sums []) rfl
  obtain ⟨d_parts_of, D_parts_of⟩ := c.t.d.def_ 10 (d := defOf "parts_of" s_parts_of []) rfl
  obtain ⟨d_cycles, D_cycles⟩ := c.t.d.def_ 11 (d := defOf "cycles" s_cycles []) rfl
  obtain ⟨d_crossings, D_crossings⟩ := c.t.d.def_ 12 (d := defOf "crossings" s_crossings []) rfl
  obtain ⟨d_ahead_ways, D_ahead_ways⟩ := c.t.d.def_ 13 (d := defOf "ahead_ways" s_ahead_ways []) rfl
  obtain ⟨d_law_flat, D_law_flat⟩ := c.t.d.def_ 14 (d := defOf "_law_flat" s_law_flat []) rfl
  obtain ⟨d_law_dice, D_law_dice⟩ := c.t.d.def_ 15 (d := defOf "_law_dice" s_law_dice []) rfl
  obtain ⟨d_law_roll, D_law_roll⟩ := c.t.d.def_ 16 (d := defOf "_law_roll" s_law_roll []) rfl
  obtain ⟨d_law_all, D_law_all⟩ := c.t.d.def_ 17 (d := defOf "_law_all" s_law_all []) rfl
  obtain ⟨d_law_orders, D_law_orders⟩ := c.t.d.def_ 18 (d := defOf "_law_orders" s_law_orders []) rfl
  obtain ⟨d_law_rings, D_law_rings⟩ := c.t.d.def_ 19 (d := defOf "_law_rings" s_law_rings []) rfl
  obtain ⟨d_law_rounds, D_law_rounds⟩ := c.t.d.def_ 20 (d := defOf "_law_rounds" s_law_rounds []) rfl
  obtain ⟨d_law_told, D_law_told⟩ := c.t.d.def_ 21 (d := defOf "_law_told" s_law_told []) rfl
  obtain ⟨d_law, D_law⟩ := c.t.d.def_ 22 (d := defOf "law" s_law []) rfl
  have e0 := hfa.symm.trans (He.glo_ok X G (c.t.d.fact 22 (f := .glo "law") rfl))
  cases e0
  have cm := c.more
  obtain ⟨c_0, cm⟩ := He.ba cm
  obtain ⟨c_1, cm⟩ := He.ba cm
  have c_2 := cm
  obtain ⟨c1, hc⟩ : ∃ c1, d_law.code = .ref c1 := by
    obtain ⟨oc, od, dV, kV, doc, pm, an, cdv, ct, osl, e, lk, hcd, _, _⟩ := D_law.ex
    obtain ⟨c1, e1⟩ := He.codeIn_ref hcd
    exact ⟨c1, by rw [e]; exact e1⟩
  have ec : He.codeOf K (("law" : Str), none) = c1 := by
    obtain ⟨oc, od, dV, kV, doc, pm, an, cdv, ct, osl, e, lk, hcd, _, _⟩ := D_law.ex
    exact He.codeOf_eq lk hc
  have mem : (("law" : Str), (none : Option Str)) ∈ tf := List.mem_singleton.mpr rfl
  have b : Binds K d_law ["script"] [] := FunD.bindsN D_law fun _ _ _ _ _ _ us hl => match us, hl with | [_], _ => rfl
  have bA := FunD.bindsA (ps := ["script"]) D_law fun _ _ _ _ _ _ us hl => match us, hl with | [_], _ => rfl
  refine ⟨d_law, [He.cT K (("law" : Str), none)], spLaw K (C9 K (He.cT K (("law" : Str), none)).2), fun p hp => ?_, fun p hp => ?_, fun p hp => ?_, fun s u => bA s [u] rfl, fun H a ns _ hb hT hS => ⟨a, ns, rfl, hb, tabs0 (hT _ (List.mem_singleton.mpr rfl)), hS, fun _ => rfl⟩, fun base Xb Gb hTB => ?_⟩
  · rw [List.mem_singleton.mp hp]; exact c.empty _ mem
  · rw [List.mem_singleton.mp hp]; exact c.out _ mem
  · rw [List.mem_singleton.mp hp]; exact PySem.W.codeHd_of_K X (c.hd _ mem)
  have TB := hTB _ (List.mem_singleton.mpr rfl)
  rw [show (He.cT K (("law" : Str), none)).1 = c1 from ec] at TB
  generalize hPt : (He.cT K (("law" : Str), none)).2 = Pt at TB ⊢
  have X_BadSize : ExI K mg (C9 K Pt) "BadSize" 5 := exi9 X G (c.t.d.fact 28 (f := .glo "BadSize") rfl) (c.t.d.fact 44 (f := .exc "BadSize") rfl) rfl
  have X_BadPart : ExI K mg (C9 K Pt) "BadPart" 1 := exi9 X G (c.t.d.fact 24 (f := .glo "BadPart") rfl) (c.t.d.fact 45 (f := .exc "BadPart") rfl) rfl
  have n_range := He.free_ok X G (c.t.d.fact 33 (f := .free "range") rfl)
  have n_min := He.free_ok X G (c.t.d.fact 34 (f := .free "min") rfl)
  have n_len := He.free_ok X G (c.t.d.fact 35 (f := .free "len") rfl)
  have n_sum := He.free_ok X G (c.t.d.fact 36 (f := .free "sum") rfl)
  have n_max := He.free_ok X G (c.t.d.fact 37 (f := .free "max") rfl)
  have n_tuple := He.free_ok X G (c.t.d.fact 38 (f := .free "tuple") rfl)
  have n_abs := He.free_ok X G (c.t.d.fact 39 (f := .free "abs") rfl)
  have n_int := He.free_ok X G (c.t.d.fact 40 (f := .free "int") rfl)
  have n_list := He.free_ok X G (c.t.d.fact 41 (f := .free "list") rfl)
  have n_dict := He.free_ok X G (c.t.d.fact 42 (f := .free "dict") rfl)
  have n_sorted := He.free_ok X G (c.t.d.fact 43 (f := .free "sorted") rfl)
  have b_perm := bfB_ok X G c_1
  have b_comb := bfB_ok X G c_2
  have F_check_count := ok_check_count (P := RWL.prog) (w := w) (base := base) (C := C9 K Pt) D_check_count (He.glo_ok X G (c.t.d.fact 0 (f := .glo "check_count") rfl)) X_BadSize
  have F_factorial := ok_factorial (P := RWL.prog) (w := w) (base := base) (C := C9 K Pt) D_factorial (He.glo_ok X G (c.t.d.fact 1 (f := .glo "factorial") rfl)) F_check_count b_perm
  have F_choose := ok_choose (P := RWL.prog) (w := w) (base := base) (C := C9 K Pt) D_choose (He.glo_ok X G (c.t.d.fact 2 (f := .glo "choose") rfl)) F_check_count b_comb
  have F_falling := ok_falling (P := RWL.prog) (w := w) (base := base) (C := C9 K Pt) D_falling (He.glo_ok X G (c.t.d.fact 3 (f := .glo "falling") rfl)) F_check_count b_perm
  have F_split_ways := ok_split_ways (P := RWL.prog) (w := w) (base := base) (C := C9 K Pt) D_split_ways (He.glo_ok X G (c.t.d.fact 4 (f := .glo "split_ways") rfl)) F_check_count F_choose
  have F_none_home := ok_none_home (P := RWL.prog) (w := w) (base := base) (C := C9 K Pt) D_none_home (He.glo_ok X G (c.t.d.fact 5 (f := .glo "none_home") rfl)) F_check_count n_range
  have F_raised := ok_raised (P := RWL.prog) (w := w) (base := base) (C := C9 K Pt) D_raised (He.glo_ok X G (c.t.d.fact 6 (f := .glo "raised") rfl)) X_BadPart
  have F_onto := ok_onto (P := RWL.prog) (w := w) (base := base) (C := C9 K Pt) D_onto (He.glo_ok X G (c.t.d.fact 7 (f := .glo "onto") rfl)) F_check_count F_choose F_raised n_range
  have F_lots := ok_lots (P := RWL.prog) (w := w) (base := base) (C := C9 K Pt) D_lots (He.glo_ok X G (c.t.d.fact 8 (f := .glo "lots") rfl)) F_onto F_factorial
  have F_sums := ok_sums (P := RWL.prog) (w := w) (base := base) (C := C9 K Pt) D_sums (He.glo_ok X G (c.t.d.fact 9 (f := .glo "sums") rfl)) F_check_count F_choose
  have F_parts_of := ok_parts_of (P := RWL.prog) (w := w) (base := base) (C := C9 K Pt) D_parts_of (He.glo_ok X G (c.t.d.fact 10 (f := .glo "parts_of") rfl)) F_check_count n_range n_min
  have F_cycles := ok_cycles (P := RWL.prog) (w := w) (base := base) (C := C9 K Pt) D_cycles (He.glo_ok X G (c.t.d.fact 11 (f := .glo "cycles") rfl)) F_check_count n_range
  have F_crossings := ok_crossings (P := RWL.prog) (w := w) (base := base) (C := C9 K Pt) D_crossings (He.glo_ok X G (c.t.d.fact 12 (f := .glo "crossings") rfl)) F_check_count n_range n_len n_sum n_max n_tuple
  have F_ahead_ways := ok_ahead_ways (P := RWL.prog) (w := w) (base := base) (C := C9 K Pt) D_ahead_ways (He.glo_ok X G (c.t.d.fact 13 (f := .glo "ahead_ways") rfl)) F_check_count F_choose
  have F_law_flat := ok_law_flat (P := RWL.prog) (w := w) (base := base) (C := C9 K Pt) D_law_flat (He.glo_ok X G (c.t.d.fact 14 (f := .glo "_law_flat") rfl)) 
  have F_law_dice := ok_law_dice (P := RWL.prog) (w := w) (base := base) (C := C9 K Pt) D_law_dice (He.glo_ok X G (c.t.d.fact 15 (f := .glo "_law_dice") rfl)) n_abs n_int
  have F_law_roll := ok_law_roll (P := RWL.prog) (w := w) (base := base) (C := C9 K Pt) D_law_roll (He.glo_ok X G (c.t.d.fact 16 (f := .glo "_law_roll") rfl)) n_int
  have F_law_all := ok_law_all (P := RWL.prog) (w := w) (base := base) (C := C9 K Pt) D_law_all (He.glo_ok X G (c.t.d.fact 17 (f := .glo "_law_all") rfl)) F_law_flat n_range
  have F_law_orders := ok_law_orders (P := RWL.prog) (w := w) (base := base) (C := C9 K Pt) D_law_orders (He.glo_ok X G (c.t.d.fact 18 (f := .glo "_law_orders") rfl)) F_law_flat n_range
  have F_law_rings := ok_law_rings (P := RWL.prog) (w := w) (base := base) (C := C9 K Pt) D_law_rings (He.glo_ok X G (c.t.d.fact 19 (f := .glo "_law_rings") rfl)) n_list n_range n_len
  have FR := ok_law_rounds (P := RWL.prog) (w := w) (mg := mg) (base := base) (C := C9 K Pt) D_law_rounds F_law_dice h0 h1
  have bR : Binds K d_law_rounds ["script", "most"] [] := FunD.bindsN D_law_rounds fun _ _ _ _ _ _ us hl => match us, hl with | [_, _], _ => rfl
  have T : ToldI RWL.prog w K mg base (C9 K Pt) := ⟨lT9 K, _, d_law_told, toldL9 c_0, (He.glo_ok X G (c.t.d.fact 21 (f := .glo "_law_told") rfl)), D_law_told, fun cdg A outer s H => (.cons ⟨rfl, rfl, .inl (He.glo_ok X G (c.t.d.fact 24 (f := .glo "BadPart") rfl))⟩ (fun _ _ _ _ _ _ _ => pss_one (ps_ret pe_str)) (.cons ⟨rfl, rfl, .inl (He.glo_ok X G (c.t.d.fact 25 (f := .glo "BadSpread") rfl))⟩ (fun _ _ _ _ _ _ _ => pss_one (ps_ret pe_str)) (.cons ⟨rfl, rfl, .inl (He.glo_ok X G (c.t.d.fact 26 (f := .glo "BadTree") rfl))⟩ (fun _ _ _ _ _ _ _ => pss_one (ps_ret pe_str)) (.cons ⟨rfl, rfl, .inl (He.glo_ok X G (c.t.d.fact 27 (f := .glo "BadPaper") rfl))⟩ (fun _ _ _ _ _ _ _ => pss_one (ps_ret pe_str)) (.cons ⟨rfl, rfl, .inl (He.glo_ok X G (c.t.d.fact 28 (f := .glo "BadSize") rfl))⟩ (fun _ _ _ _ _ _ _ => pss_one (ps_ret pe_str)) (.cons ⟨rfl, rfl, .inl (He.glo_ok X G (c.t.d.fact 29 (f := .glo "BadText") rfl))⟩ (fun _ _ _ _ _ _ _ => pss_one (ps_ret pe_str)) (.cons ⟨rfl, rfl, .inl (He.glo_ok X G (c.t.d.fact 30 (f := .glo "BadStore") rfl))⟩ (fun _ _ _ _ _ _ _ => pss_one (ps_ret pe_str)) (.cons ⟨rfl, rfl, .inl (He.glo_ok X G (c.t.d.fact 31 (f := .glo "NoChance") rfl))⟩ (fun _ _ _ _ _ _ _ => pss_one (ps_ret pe_str)) (.cons ⟨rfl, rfl, .inl (He.glo_ok X G (c.t.d.fact 32 (f := .glo "NoSuch") rfl))⟩ (fun _ _ _ _ _ _ _ => pss_one (ps_ret pe_str)) .nil)))))))))⟩
  exact ok_law D_law hc F_law_roll F_law_orders F_none_home F_factorial F_law_all F_lots F_onto F_falling F_choose F_cycles F_law_rings F_law_flat F_crossings F_sums F_parts_of F_split_ways F_ahead_ways F_check_count n_len n_range n_list n_dict n_sum n_max n_sorted T TB rfl FR (He.glo_ok X G (c.t.d.fact 20 (f := .glo "_law_rounds") rfl)) D_law_rounds.kp bR hm
end K2

namespace K2
open PySem PySem.Spec PyProof.Rows L2 LW
def v0 : PyData := .list [.tuple [.int (.ofNat 0), .int (.ofNat 1)], .tuple [.int (.ofNat 1), .int (.ofNat 0)]]
def v1 : PyData := .list [.tuple [.int (.ofNat 0), .int (.ofNat 1), .int (.ofNat 2)], .tuple [.int (.ofNat 0), .int (.ofNat 2), .int (.ofNat 1)], .tuple [.int (.ofNat 1), .int (.ofNat 0), .int (.ofNat 2)], .tuple [.int (.ofNat 1), .int (.ofNat 2), .int (.ofNat 0)], .tuple [.int (.ofNat 2), .int (.ofNat 0), .int (.ofNat 1)], .tuple [.int (.ofNat 2), .int (.ofNat 1), .int (.ofNat 0)]]
def v2 : PyData := .tuple [.int (.ofNat 0), .int (.ofNat 1), .int (.ofNat 2), .int (.ofNat 3)]
def v3 : PyData := .tuple [.int (.ofNat 0), .int (.ofNat 1), .int (.ofNat 3), .int (.ofNat 2)]
def v4 : PyData := .tuple [.int (.ofNat 0), .int (.ofNat 2), .int (.ofNat 1), .int (.ofNat 3)]
def v5 : PyData := .tuple [.int (.ofNat 0), .int (.ofNat 2), .int (.ofNat 3), .int (.ofNat 1)]
def v6 : PyData := .tuple [.int (.ofNat 0), .int (.ofNat 3), .int (.ofNat 1), .int (.ofNat 2)]
def v7 : PyData := .tuple [.int (.ofNat 0), .int (.ofNat 3), .int (.ofNat 2), .int (.ofNat 1)]
def v8 : PyData := .tuple [.int (.ofNat 1), .int (.ofNat 0), .int (.ofNat 2), .int (.ofNat 3)]
def v9 : PyData := .tuple [.int (.ofNat 1), .int (.ofNat 0), .int (.ofNat 3), .int (.ofNat 2)]
def v10 : PyData := .tuple [.int (.ofNat 1), .int (.ofNat 2), .int (.ofNat 0), .int (.ofNat 3)]
def v11 : PyData := .tuple [.int (.ofNat 1), .int (.ofNat 2), .int (.ofNat 3), .int (.ofNat 0)]
def v12 : PyData := .tuple [.int (.ofNat 1), .int (.ofNat 3), .int (.ofNat 0), .int (.ofNat 2)]
def v13 : PyData := .tuple [.int (.ofNat 1), .int (.ofNat 3), .int (.ofNat 2), .int (.ofNat 0)]
def v14 : PyData := .tuple [.int (.ofNat 2), .int (.ofNat 0), .int (.ofNat 1), .int (.ofNat 3)]
def v15 : PyData := .tuple [.int (.ofNat 2), .int (.ofNat 0), .int (.ofNat 3), .int (.ofNat 1)]
def v16 : PyData := .tuple [.int (.ofNat 2), .int (.ofNat 1), .int (.ofNat 0), .int (.ofNat 3)]
def v17 : PyData := .tuple [.int (.ofNat 2), .int (.ofNat 1), .int (.ofNat 3), .int (.ofNat 0)]
def v18 : PyData := .tuple [.int (.ofNat 2), .int (.ofNat 3), .int (.ofNat 0), .int (.ofNat 1)]
def v19 : PyData := .tuple [.int (.ofNat 2), .int (.ofNat 3), .int (.ofNat 1), .int (.ofNat 0)]
def v20 : PyData := .tuple [.int (.ofNat 3), .int (.ofNat 0), .int (.ofNat 1), .int (.ofNat 2)]
def v21 : PyData := .tuple [.int (.ofNat 3), .int (.ofNat 0), .int (.ofNat 2), .int (.ofNat 1)]
def v22 : PyData := .tuple [.int (.ofNat 3), .int (.ofNat 1), .int (.ofNat 0), .int (.ofNat 2)]
def v23 : PyData := .tuple [.int (.ofNat 3), .int (.ofNat 1), .int (.ofNat 2), .int (.ofNat 0)]
def v24 : PyData := .tuple [.int (.ofNat 3), .int (.ofNat 2), .int (.ofNat 0), .int (.ofNat 1)]
def v25 : PyData := .tuple [.int (.ofNat 3), .int (.ofNat 2), .int (.ofNat 1), .int (.ofNat 0)]
def v26 : PyData := .list [v2, v3, v4, v5, v6, v7, v8, v9, v10, v11, v12, v13, v14, v15, v16, v17, v18, v19, v20, v21, v22, v23, v24, v25]
def v27 : PyData := .tuple [.int (.ofNat 0), .int (.ofNat 1), .int (.ofNat 2), .int (.ofNat 3), .int (.ofNat 4)]
def v28 : PyData := .tuple [.int (.ofNat 0), .int (.ofNat 1), .int (.ofNat 2), .int (.ofNat 4), .int (.ofNat 3)]
def v29 : PyData := .tuple [.int (.ofNat 0), .int (.ofNat 1), .int (.ofNat 3), .int (.ofNat 2), .int (.ofNat 4)]
def v30 : PyData := .tuple [.int (.ofNat 0), .int (.ofNat 1), .int (.ofNat 3), .int (.ofNat 4), .int (.ofNat 2)]
def v31 : PyData := .tuple [.int (.ofNat 0), .int (.ofNat 1), .int (.ofNat 4), .int (.ofNat 2), .int (.ofNat 3)]
def v32 : PyData := .tuple [.int (.ofNat 0), .int (.ofNat 1), .int (.ofNat 4), .int (.ofNat 3), .int (.ofNat 2)]
def v33 : PyData := .tuple [.int (.ofNat 0), .int (.ofNat 2), .int (.ofNat 1), .int (.ofNat 3), .int (.ofNat 4)]
def v34 : PyData := .tuple [.int (.ofNat 0), .int (.ofNat 2), .int (.ofNat 1), .int (.ofNat 4), .int (.ofNat 3)]
def v35 : PyData := .tuple [.int (.ofNat 0), .int (.ofNat 2), .int (.ofNat 3), .int (.ofNat 1), .int (.ofNat 4)]
def v36 : PyData := .tuple [.int (.ofNat 0), .int (.ofNat 2), .int (.ofNat 3), .int (.ofNat 4), .int (.ofNat 1)]
def v37 : PyData := .tuple [.int (.ofNat 0), .int (.ofNat 2), .int (.ofNat 4), .int (.ofNat 1), .int (.ofNat 3)]
def v38 : PyData := .tuple [.int (.ofNat 0), .int (.ofNat 2), .int (.ofNat 4), .int (.ofNat 3), .int (.ofNat 1)]
def v39 : PyData := .tuple [.int (.ofNat 0), .int (.ofNat 3), .int (.ofNat 1), .int (.ofNat 2), .int (.ofNat 4)]
def v40 : PyData := .tuple [.int (.ofNat 0), .int (.ofNat 3), .int (.ofNat 1), .int (.ofNat 4), .int (.ofNat 2)]
def v41 : PyData := .tuple [.int (.ofNat 0), .int (.ofNat 3), .int (.ofNat 2), .int (.ofNat 1), .int (.ofNat 4)]
def v42 : PyData := .tuple [.int (.ofNat 0), .int (.ofNat 3), .int (.ofNat 2), .int (.ofNat 4), .int (.ofNat 1)]
def v43 : PyData := .tuple [.int (.ofNat 0), .int (.ofNat 3), .int (.ofNat 4), .int (.ofNat 1), .int (.ofNat 2)]
def v44 : PyData := .tuple [.int (.ofNat 0), .int (.ofNat 3), .int (.ofNat 4), .int (.ofNat 2), .int (.ofNat 1)]
def v45 : PyData := .tuple [.int (.ofNat 0), .int (.ofNat 4), .int (.ofNat 1), .int (.ofNat 2), .int (.ofNat 3)]
def v46 : PyData := .tuple [.int (.ofNat 0), .int (.ofNat 4), .int (.ofNat 1), .int (.ofNat 3), .int (.ofNat 2)]
def v47 : PyData := .tuple [.int (.ofNat 0), .int (.ofNat 4), .int (.ofNat 2), .int (.ofNat 1), .int (.ofNat 3)]
def v48 : PyData := .tuple [.int (.ofNat 0), .int (.ofNat 4), .int (.ofNat 2), .int (.ofNat 3), .int (.ofNat 1)]
def v49 : PyData := .tuple [.int (.ofNat 0), .int (.ofNat 4), .int (.ofNat 3), .int (.ofNat 1), .int (.ofNat 2)]
def v50 : PyData := .tuple [.int (.ofNat 0), .int (.ofNat 4), .int (.ofNat 3), .int (.ofNat 2), .int (.ofNat 1)]
def v51 : PyData := .tuple [.int (.ofNat 1), .int (.ofNat 0), .int (.ofNat 2), .int (.ofNat 3), .int (.ofNat 4)]
def v52 : PyData := .tuple [.int (.ofNat 1), .int (.ofNat 0), .int (.ofNat 2), .int (.ofNat 4), .int (.ofNat 3)]
def v53 : PyData := .tuple [.int (.ofNat 1), .int (.ofNat 0), .int (.ofNat 3), .int (.ofNat 2), .int (.ofNat 4)]
def v54 : PyData := .tuple [.int (.ofNat 1), .int (.ofNat 0), .int (.ofNat 3), .int (.ofNat 4), .int (.ofNat 2)]
def v55 : PyData := .tuple [.int (.ofNat 1), .int (.ofNat 0), .int (.ofNat 4), .int (.ofNat 2), .int (.ofNat 3)]
def v56 : PyData := .tuple [.int (.ofNat 1), .int (.ofNat 0), .int (.ofNat 4), .int (.ofNat 3), .int (.ofNat 2)]
def v57 : PyData := .tuple [.int (.ofNat 1), .int (.ofNat 2), .int (.ofNat 0), .int (.ofNat 3), .int (.ofNat 4)]
def v58 : PyData := .tuple [.int (.ofNat 1), .int (.ofNat 2), .int (.ofNat 0), .int (.ofNat 4), .int (.ofNat 3)]
def v59 : PyData := .tuple [.int (.ofNat 1), .int (.ofNat 2), .int (.ofNat 3), .int (.ofNat 0), .int (.ofNat 4)]
def v60 : PyData := .tuple [.int (.ofNat 1), .int (.ofNat 2), .int (.ofNat 3), .int (.ofNat 4), .int (.ofNat 0)]
def v61 : PyData := .tuple [.int (.ofNat 1), .int (.ofNat 2), .int (.ofNat 4), .int (.ofNat 0), .int (.ofNat 3)]
def v62 : PyData := .tuple [.int (.ofNat 1), .int (.ofNat 2), .int (.ofNat 4), .int (.ofNat 3), .int (.ofNat 0)]
def v63 : PyData := .tuple [.int (.ofNat 1), .int (.ofNat 3), .int (.ofNat 0), .int (.ofNat 2), .int (.ofNat 4)]
def v64 : PyData := .tuple [.int (.ofNat 1), .int (.ofNat 3), .int (.ofNat 0), .int (.ofNat 4), .int (.ofNat 2)]
def v65 : PyData := .tuple [.int (.ofNat 1), .int (.ofNat 3), .int (.ofNat 2), .int (.ofNat 0), .int (.ofNat 4)]
def v66 : PyData := .tuple [.int (.ofNat 1), .int (.ofNat 3), .int (.ofNat 2), .int (.ofNat 4), .int (.ofNat 0)]
def v67 : PyData := .tuple [.int (.ofNat 1), .int (.ofNat 3), .int (.ofNat 4), .int (.ofNat 0), .int (.ofNat 2)]
def v68 : PyData := .tuple [.int (.ofNat 1), .int (.ofNat 3), .int (.ofNat 4), .int (.ofNat 2), .int (.ofNat 0)]
def v69 : PyData := .tuple [.int (.ofNat 1), .int (.ofNat 4), .int (.ofNat 0), .int (.ofNat 2), .int (.ofNat 3)]
def v70 : PyData := .tuple [.int (.ofNat 1), .int (.ofNat 4), .int (.ofNat 0), .int (.ofNat 3), .int (.ofNat 2)]
def v71 : PyData := .tuple [.int (.ofNat 1), .int (.ofNat 4), .int (.ofNat 2), .int (.ofNat 0), .int (.ofNat 3)]
def v72 : PyData := .tuple [.int (.ofNat 1), .int (.ofNat 4), .int (.ofNat 2), .int (.ofNat 3), .int (.ofNat 0)]
def v73 : PyData := .tuple [.int (.ofNat 1), .int (.ofNat 4), .int (.ofNat 3), .int (.ofNat 0), .int (.ofNat 2)]
def v74 : PyData := .tuple [.int (.ofNat 1), .int (.ofNat 4), .int (.ofNat 3), .int (.ofNat 2), .int (.ofNat 0)]
def v75 : PyData := .tuple [.int (.ofNat 2), .int (.ofNat 0), .int (.ofNat 1), .int (.ofNat 3), .int (.ofNat 4)]
def v76 : PyData := .tuple [.int (.ofNat 2), .int (.ofNat 0), .int (.ofNat 1), .int (.ofNat 4), .int (.ofNat 3)]
def v77 : PyData := .tuple [.int (.ofNat 2), .int (.ofNat 0), .int (.ofNat 3), .int (.ofNat 1), .int (.ofNat 4)]
def v78 : PyData := .tuple [.int (.ofNat 2), .int (.ofNat 0), .int (.ofNat 3), .int (.ofNat 4), .int (.ofNat 1)]
def v79 : PyData := .tuple [.int (.ofNat 2), .int (.ofNat 0), .int (.ofNat 4), .int (.ofNat 1), .int (.ofNat 3)]
def v80 : PyData := .tuple [.int (.ofNat 2), .int (.ofNat 0), .int (.ofNat 4), .int (.ofNat 3), .int (.ofNat 1)]
def v81 : PyData := .tuple [.int (.ofNat 2), .int (.ofNat 1), .int (.ofNat 0), .int (.ofNat 3), .int (.ofNat 4)]
def v82 : PyData := .tuple [.int (.ofNat 2), .int (.ofNat 1), .int (.ofNat 0), .int (.ofNat 4), .int (.ofNat 3)]
def v83 : PyData := .tuple [.int (.ofNat 2), .int (.ofNat 1), .int (.ofNat 3), .int (.ofNat 0), .int (.ofNat 4)]
def v84 : PyData := .tuple [.int (.ofNat 2), .int (.ofNat 1), .int (.ofNat 3), .int (.ofNat 4), .int (.ofNat 0)]
def v85 : PyData := .tuple [.int (.ofNat 2), .int (.ofNat 1), .int (.ofNat 4), .int (.ofNat 0), .int (.ofNat 3)]
def v86 : PyData := .tuple [.int (.ofNat 2), .int (.ofNat 1), .int (.ofNat 4), .int (.ofNat 3), .int (.ofNat 0)]
def v87 : PyData := .tuple [.int (.ofNat 2), .int (.ofNat 3), .int (.ofNat 0), .int (.ofNat 1), .int (.ofNat 4)]
def v88 : PyData := .tuple [.int (.ofNat 2), .int (.ofNat 3), .int (.ofNat 0), .int (.ofNat 4), .int (.ofNat 1)]
def v89 : PyData := .tuple [.int (.ofNat 2), .int (.ofNat 3), .int (.ofNat 1), .int (.ofNat 0), .int (.ofNat 4)]
def v90 : PyData := .tuple [.int (.ofNat 2), .int (.ofNat 3), .int (.ofNat 1), .int (.ofNat 4), .int (.ofNat 0)]
def v91 : PyData := .tuple [.int (.ofNat 2), .int (.ofNat 3), .int (.ofNat 4), .int (.ofNat 0), .int (.ofNat 1)]
def v92 : PyData := .tuple [.int (.ofNat 2), .int (.ofNat 3), .int (.ofNat 4), .int (.ofNat 1), .int (.ofNat 0)]
def v93 : PyData := .tuple [.int (.ofNat 2), .int (.ofNat 4), .int (.ofNat 0), .int (.ofNat 1), .int (.ofNat 3)]
def v94 : PyData := .tuple [.int (.ofNat 2), .int (.ofNat 4), .int (.ofNat 0), .int (.ofNat 3), .int (.ofNat 1)]
def v95 : PyData := .tuple [.int (.ofNat 2), .int (.ofNat 4), .int (.ofNat 1), .int (.ofNat 0), .int (.ofNat 3)]
def v96 : PyData := .tuple [.int (.ofNat 2), .int (.ofNat 4), .int (.ofNat 1), .int (.ofNat 3), .int (.ofNat 0)]
def v97 : PyData := .tuple [.int (.ofNat 2), .int (.ofNat 4), .int (.ofNat 3), .int (.ofNat 0), .int (.ofNat 1)]
def v98 : PyData := .tuple [.int (.ofNat 2), .int (.ofNat 4), .int (.ofNat 3), .int (.ofNat 1), .int (.ofNat 0)]
def v99 : PyData := .tuple [.int (.ofNat 3), .int (.ofNat 0), .int (.ofNat 1), .int (.ofNat 2), .int (.ofNat 4)]
def v100 : PyData := .tuple [.int (.ofNat 3), .int (.ofNat 0), .int (.ofNat 1), .int (.ofNat 4), .int (.ofNat 2)]
def v101 : PyData := .tuple [.int (.ofNat 3), .int (.ofNat 0), .int (.ofNat 2), .int (.ofNat 1), .int (.ofNat 4)]
def v102 : PyData := .tuple [.int (.ofNat 3), .int (.ofNat 0), .int (.ofNat 2), .int (.ofNat 4), .int (.ofNat 1)]
def v103 : PyData := .tuple [.int (.ofNat 3), .int (.ofNat 0), .int (.ofNat 4), .int (.ofNat 1), .int (.ofNat 2)]
def v104 : PyData := .tuple [.int (.ofNat 3), .int (.ofNat 0), .int (.ofNat 4), .int (.ofNat 2), .int (.ofNat 1)]
def v105 : PyData := .tuple [.int (.ofNat 3), .int (.ofNat 1), .int (.ofNat 0), .int (.ofNat 2), .int (.ofNat 4)]
def v106 : PyData := .tuple [.int (.ofNat 3), .int (.ofNat 1), .int (.ofNat 0), .int (.ofNat 4), .int (.ofNat 2)]
def v107 : PyData := .tuple [.int (.ofNat 3), .int (.ofNat 1), .int (.ofNat 2), .int (.ofNat 0), .int (.ofNat 4)]
def v108 : PyData := .tuple [.int (.ofNat 3), .int (.ofNat 1), .int (.ofNat 2), .int (.ofNat 4), .int (.ofNat 0)]
def v109 : PyData := .tuple [.int (.ofNat 3), .int (.ofNat 1), .int (.ofNat 4), .int (.ofNat 0), .int (.ofNat 2)]
def v110 : PyData := .tuple [.int (.ofNat 3), .int (.ofNat 1), .int (.ofNat 4), .int (.ofNat 2), .int (.ofNat 0)]
def v111 : PyData := .tuple [.int (.ofNat 3), .int (.ofNat 2), .int (.ofNat 0), .int (.ofNat 1), .int (.ofNat 4)]
def v112 : PyData := .tuple [.int (.ofNat 3), .int (.ofNat 2), .int (.ofNat 0), .int (.ofNat 4), .int (.ofNat 1)]
def v113 : PyData := .tuple [.int (.ofNat 3), .int (.ofNat 2), .int (.ofNat 1), .int (.ofNat 0), .int (.ofNat 4)]
def v114 : PyData := .tuple [.int (.ofNat 3), .int (.ofNat 2), .int (.ofNat 1), .int (.ofNat 4), .int (.ofNat 0)]
def v115 : PyData := .tuple [.int (.ofNat 3), .int (.ofNat 2), .int (.ofNat 4), .int (.ofNat 0), .int (.ofNat 1)]
def v116 : PyData := .tuple [.int (.ofNat 3), .int (.ofNat 2), .int (.ofNat 4), .int (.ofNat 1), .int (.ofNat 0)]
def v117 : PyData := .tuple [.int (.ofNat 3), .int (.ofNat 4), .int (.ofNat 0), .int (.ofNat 1), .int (.ofNat 2)]
def v118 : PyData := .tuple [.int (.ofNat 3), .int (.ofNat 4), .int (.ofNat 0), .int (.ofNat 2), .int (.ofNat 1)]
def v119 : PyData := .tuple [.int (.ofNat 3), .int (.ofNat 4), .int (.ofNat 1), .int (.ofNat 0), .int (.ofNat 2)]
def v120 : PyData := .tuple [.int (.ofNat 3), .int (.ofNat 4), .int (.ofNat 1), .int (.ofNat 2), .int (.ofNat 0)]
def v121 : PyData := .tuple [.int (.ofNat 3), .int (.ofNat 4), .int (.ofNat 2), .int (.ofNat 0), .int (.ofNat 1)]
def v122 : PyData := .tuple [.int (.ofNat 3), .int (.ofNat 4), .int (.ofNat 2), .int (.ofNat 1), .int (.ofNat 0)]
def v123 : PyData := .tuple [.int (.ofNat 4), .int (.ofNat 0), .int (.ofNat 1), .int (.ofNat 2), .int (.ofNat 3)]
def v124 : PyData := .tuple [.int (.ofNat 4), .int (.ofNat 0), .int (.ofNat 1), .int (.ofNat 3), .int (.ofNat 2)]
def v125 : PyData := .tuple [.int (.ofNat 4), .int (.ofNat 0), .int (.ofNat 2), .int (.ofNat 1), .int (.ofNat 3)]
def v126 : PyData := .tuple [.int (.ofNat 4), .int (.ofNat 0), .int (.ofNat 2), .int (.ofNat 3), .int (.ofNat 1)]
def v127 : PyData := .tuple [.int (.ofNat 4), .int (.ofNat 0), .int (.ofNat 3), .int (.ofNat 1), .int (.ofNat 2)]
def v128 : PyData := .tuple [.int (.ofNat 4), .int (.ofNat 0), .int (.ofNat 3), .int (.ofNat 2), .int (.ofNat 1)]
def v129 : PyData := .tuple [.int (.ofNat 4), .int (.ofNat 1), .int (.ofNat 0), .int (.ofNat 2), .int (.ofNat 3)]
def v130 : PyData := .tuple [.int (.ofNat 4), .int (.ofNat 1), .int (.ofNat 0), .int (.ofNat 3), .int (.ofNat 2)]
def v131 : PyData := .tuple [.int (.ofNat 4), .int (.ofNat 1), .int (.ofNat 2), .int (.ofNat 0), .int (.ofNat 3)]
def v132 : PyData := .tuple [.int (.ofNat 4), .int (.ofNat 1), .int (.ofNat 2), .int (.ofNat 3), .int (.ofNat 0)]
def v133 : PyData := .tuple [.int (.ofNat 4), .int (.ofNat 1), .int (.ofNat 3), .int (.ofNat 0), .int (.ofNat 2)]
def v134 : PyData := .tuple [.int (.ofNat 4), .int (.ofNat 1), .int (.ofNat 3), .int (.ofNat 2), .int (.ofNat 0)]
def v135 : PyData := .tuple [.int (.ofNat 4), .int (.ofNat 2), .int (.ofNat 0), .int (.ofNat 1), .int (.ofNat 3)]
def v136 : PyData := .tuple [.int (.ofNat 4), .int (.ofNat 2), .int (.ofNat 0), .int (.ofNat 3), .int (.ofNat 1)]
def v137 : PyData := .tuple [.int (.ofNat 4), .int (.ofNat 2), .int (.ofNat 1), .int (.ofNat 0), .int (.ofNat 3)]
def v138 : PyData := .tuple [.int (.ofNat 4), .int (.ofNat 2), .int (.ofNat 1), .int (.ofNat 3), .int (.ofNat 0)]
def v139 : PyData := .tuple [.int (.ofNat 4), .int (.ofNat 2), .int (.ofNat 3), .int (.ofNat 0), .int (.ofNat 1)]
def v140 : PyData := .tuple [.int (.ofNat 4), .int (.ofNat 2), .int (.ofNat 3), .int (.ofNat 1), .int (.ofNat 0)]
def v141 : PyData := .tuple [.int (.ofNat 4), .int (.ofNat 3), .int (.ofNat 0), .int (.ofNat 1), .int (.ofNat 2)]
def v142 : PyData := .tuple [.int (.ofNat 4), .int (.ofNat 3), .int (.ofNat 0), .int (.ofNat 2), .int (.ofNat 1)]
def v143 : PyData := .tuple [.int (.ofNat 4), .int (.ofNat 3), .int (.ofNat 1), .int (.ofNat 0), .int (.ofNat 2)]
def v144 : PyData := .tuple [.int (.ofNat 4), .int (.ofNat 3), .int (.ofNat 1), .int (.ofNat 2), .int (.ofNat 0)]
def v145 : PyData := .tuple [.int (.ofNat 4), .int (.ofNat 3), .int (.ofNat 2), .int (.ofNat 0), .int (.ofNat 1)]
def v146 : PyData := .tuple [.int (.ofNat 4), .int (.ofNat 3), .int (.ofNat 2), .int (.ofNat 1), .int (.ofNat 0)]
def w147 : List PyData := [v27, v28, v29, v30, v31, v32, v33, v34, v35, v36, v37, v38, v39, v40, v41, v42, v43, v44, v45, v46, v47, v48, v49, v50]
def w148 : List PyData := [v51, v52, v53, v54, v55, v56, v57, v58, v59, v60, v61, v62, v63, v64, v65, v66, v67, v68, v69, v70, v71, v72, v73, v74]
def w149 : List PyData := [v75, v76, v77, v78, v79, v80, v81, v82, v83, v84, v85, v86, v87, v88, v89, v90, v91, v92, v93, v94, v95, v96, v97, v98]
def w150 : List PyData := [v99, v100, v101, v102, v103, v104, v105, v106, v107, v108, v109, v110, v111, v112, v113, v114, v115, v116, v117, v118, v119, v120, v121, v122]
def w151 : List PyData := [v123, v124, v125, v126, v127, v128, v129, v130, v131, v132, v133, v134, v135, v136, v137, v138, v139, v140, v141, v142, v143, v144, v145, v146]
def w152 : List PyData := [v27, v28, v29, v30, v31, v32, v33, v34, v35, v36, v37, v38, v39, v40, v41, v42, v43, v44, v45, v46, v47, v48, v49, v50]
def w153 : List PyData := [v51, v52, v53, v54, v55, v56, v57, v58, v59, v60, v61, v62, v63, v64, v65, v66, v67, v68, v69, v70, v71, v72, v73, v74]
def w154 : List PyData := [v75, v76, v77, v78, v79, v80, v81, v82, v83, v84, v85, v86, v87, v88, v89, v90, v91, v92, v93, v94, v95, v96, v97, v98]
def w155 : List PyData := [v99, v100, v101, v102, v103, v104, v105, v106, v107, v108, v109, v110, v111, v112, v113, v114, v115, v116, v117, v118, v119, v120, v121, v122]
def w156 : List PyData := [v123, v124, v125, v126, v127, v128, v129, v130, v131, v132, v133, v134, v135, v136, v137, v138, v139, v140, v141, v142, v143, v144, v145, v146]
def w157 : List PyData := [v27, v28, v29, v30, v31, v32, v33, v34, v35, v36, v37, v38, v39, v40, v41, v42, v43, v44, v45, v46, v47, v48, v49, v50]
def w158 : List PyData := [v51, v52, v53, v54, v55, v56, v57, v58, v59, v60, v61, v62, v63, v64, v65, v66, v67, v68, v69, v70, v71, v72, v73, v74]
def w159 : List PyData := [v75, v76, v77, v78, v79, v80, v81, v82, v83, v84, v85, v86, v87, v88, v89, v90, v91, v92, v93, v94, v95, v96, v97, v98]
def w160 : List PyData := [v99, v100, v101, v102, v103, v104, v105, v106, v107, v108, v109, v110, v111, v112, v113, v114, v115, v116, v117, v118, v119, v120, v121, v122]
def w161 : List PyData := [v123, v124, v125, v126, v127, v128, v129, v130, v131, v132, v133, v134, v135, v136, v137, v138, v139, v140, v141, v142, v143, v144, v145, v146]
def w162 : List PyData := [v27, v28, v29, v30, v31, v32, v33, v34, v35, v36, v37, v38, v39, v40, v41, v42, v43, v44, v45, v46, v47, v48, v49, v50]
def w163 : List PyData := [v51, v52, v53, v54, v55, v56, v57, v58, v59, v60, v61, v62, v63, v64, v65, v66, v67, v68, v69, v70, v71, v72, v73, v74]
def w164 : List PyData := [v75, v76, v77, v78, v79, v80, v81, v82, v83, v84, v85, v86, v87, v88, v89, v90, v91, v92, v93, v94, v95, v96, v97, v98]
def w165 : List PyData := [v99, v100, v101, v102, v103, v104, v105, v106, v107, v108, v109, v110, v111, v112, v113, v114, v115, v116, v117, v118, v119, v120, v121, v122]
def w166 : List PyData := [v123, v124, v125, v126, v127, v128, v129, v130, v131, v132, v133, v134, v135, v136, v137, v138, v139, v140, v141, v142, v143, v144, v145, v146]
def w167 : List PyData := [v27, v28, v29, v30, v31, v32, v33, v34, v35, v36, v37, v38, v39, v40, v41, v42, v43, v44, v45, v46, v47, v48, v49, v50]
def w168 : List PyData := [v51, v52, v53, v54, v55, v56, v57, v58, v59, v60, v61, v62, v63, v64, v65, v66, v67, v68, v69, v70, v71, v72, v73, v74]
def w169 : List PyData := [v75, v76, v77, v78, v79, v80, v81, v82, v83, v84, v85, v86, v87, v88, v89, v90, v91, v92, v93, v94, v95, v96, v97, v98]
def w170 : List PyData := [v99, v100, v101, v102, v103, v104, v105, v106, v107, v108, v109, v110, v111, v112, v113, v114, v115, v116, v117, v118, v119, v120, v121, v122]
def w171 : List PyData := [v123, v124, v125, v126, v127, v128, v129, v130, v131, v132, v133, v134, v135, v136, v137, v138, v139, v140, v141, v142, v143, v144, v145, v146]
def w172 : List PyData := [v27, v28, v29, v30, v31, v32, v33, v34, v35, v36, v37, v38, v39, v40, v41, v42, v43, v44, v45, v46, v47, v48, v49, v50]
def w173 : List PyData := [v51, v52, v53, v54, v55, v56, v57, v58, v59, v60, v61, v62, v63, v64, v65, v66, v67, v68, v69, v70, v71, v72, v73, v74]
def w174 : List PyData := [v75, v76, v77, v78, v79, v80, v81, v82, v83, v84, v85, v86, v87, v88, v89, v90, v91, v92, v93, v94, v95, v96, v97, v98]
def w175 : List PyData := [v99, v100, v101, v102, v103, v104, v105, v106, v107, v108, v109, v110, v111, v112, v113, v114, v115, v116, v117, v118, v119, v120, v121, v122]
def w176 : List PyData := [v123, v124, v125, v126, v127, v128, v129, v130, v131, v132, v133, v134, v135, v136, v137, v138, v139, v140, v141, v142, v143, v144, v145, v146]
def w177 : List PyData := [v27, v28, v29, v30, v31, v32, v33, v34, v35, v36, v37, v38, v39, v40, v41, v42, v43, v44, v45, v46, v47, v48, v49, v50]
def w178 : List PyData := [v51, v52, v53, v54, v55, v56, v57, v58, v59, v60, v61, v62, v63, v64, v65, v66, v67, v68, v69, v70, v71, v72, v73, v74]
def w179 : List PyData := [v75, v76, v77, v78, v79, v80, v81, v82, v83, v84, v85, v86, v87, v88, v89, v90, v91, v92, v93, v94, v95, v96, v97, v98]
def w180 : List PyData := [v99, v100, v101, v102, v103, v104, v105, v106, v107, v108, v109, v110, v111, v112, v113, v114, v115, v116, v117, v118, v119, v120, v121, v122]
def w181 : List PyData := [v123, v124, v125, v126, v127, v128, v129, v130, v131, v132, v133, v134, v135, v136, v137, v138, v139, v140, v141, v142, v143, v144, v145, v146]
def w182 : List PyData := [v27, v28, v29, v30, v31, v32, v33, v34, v35, v36, v37, v38, v39, v40, v41, v42, v43, v44, v45, v46, v47, v48, v49, v50]
def w183 : List PyData := [v51, v52, v53, v54, v55, v56, v57, v58, v59, v60, v61, v62, v63, v64, v65, v66, v67, v68, v69, v70, v71, v72, v73, v74]
def w184 : List PyData := [v75, v76, v77, v78, v79, v80, v81, v82, v83, v84, v85, v86, v87, v88, v89, v90, v91, v92, v93, v94, v95, v96, v97, v98]
def w185 : List PyData := [v99, v100, v101, v102, v103, v104, v105, v106, v107, v108, v109, v110, v111, v112, v113, v114, v115, v116, v117, v118, v119, v120, v121, v122]
def w186 : List PyData := [v123, v124, v125, v126, v127, v128, v129, v130, v131, v132, v133, v134, v135, v136, v137, v138, v139, v140, v141, v142, v143, v144, v145, v146]
def w187 : List PyData := [v27, v28, v29, v30, v31, v32, v33, v34, v35, v36, v37, v38, v39, v40, v41, v42, v43, v44, v45, v46, v47, v48, v49, v50]
def w188 : List PyData := [v51, v52, v53, v54, v55, v56, v57, v58, v59, v60, v61, v62, v63, v64, v65, v66, v67, v68, v69, v70, v71, v72, v73, v74]
def w189 : List PyData := [v75, v76, v77, v78, v79, v80, v81, v82, v83, v84, v85, v86, v87, v88, v89, v90, v91, v92, v93, v94, v95, v96, v97, v98]
def w190 : List PyData := [v99, v100, v101, v102, v103, v104, v105, v106, v107, v108, v109, v110, v111, v112, v113, v114, v115, v116, v117, v118, v119, v120, v121, v122]
def w191 : List PyData := [v123, v124, v125, v126, v127, v128, v129, v130, v131, v132, v133, v134, v135, v136, v137, v138, v139, v140, v141, v142, v143, v144, v145, v146]
def w192 : List PyData := [v27, v28, v29, v30, v31, v32, v33, v34, v35, v36, v37, v38, v39, v40, v41, v42, v43, v44, v45, v46, v47, v48, v49, v50]
def w193 : List PyData := [v51, v52, v53, v54, v55, v56, v57, v58, v59, v60, v61, v62, v63, v64, v65, v66, v67, v68, v69, v70, v71, v72, v73, v74]
def w194 : List PyData := [v75, v76, v77, v78, v79, v80, v81, v82, v83, v84, v85, v86, v87, v88, v89, v90, v91, v92, v93, v94, v95, v96, v97, v98]
def w195 : List PyData := [v99, v100, v101, v102, v103, v104, v105, v106, v107, v108, v109, v110, v111, v112, v113, v114, v115, v116, v117, v118, v119, v120, v121, v122]
def w196 : List PyData := [v123, v124, v125, v126, v127, v128, v129, v130, v131, v132, v133, v134, v135, v136, v137, v138, v139, v140, v141, v142, v143, v144, v145, v146]
def w197 : List PyData := [v27, v28, v29, v30, v31, v32, v33, v34, v35, v36, v37, v38, v39, v40, v41, v42, v43, v44, v45, v46, v47, v48, v49, v50]
def w198 : List PyData := [v51, v52, v53, v54, v55, v56, v57, v58, v59, v60, v61, v62, v63, v64, v65, v66, v67, v68, v69, v70, v71, v72, v73, v74]
def w199 : List PyData := [v75, v76, v77, v78, v79, v80, v81, v82, v83, v84, v85, v86, v87, v88, v89, v90, v91, v92, v93, v94, v95, v96, v97, v98]
def w200 : List PyData := [v99, v100, v101, v102, v103, v104, v105, v106, v107, v108, v109, v110, v111, v112, v113, v114, v115, v116, v117, v118, v119, v120, v121, v122]
def w201 : List PyData := [v123, v124, v125, v126, v127, v128, v129, v130, v131, v132, v133, v134, v135, v136, v137, v138, v139, v140, v141, v142, v143, v144, v145, v146]
def w202 : List PyData := [v27, v28, v29, v30, v31, v32, v33, v34, v35, v36, v37, v38, v39, v40, v41, v42, v43, v44, v45, v46, v47, v48, v49, v50]
def w203 : List PyData := [v51, v52, v53, v54, v55, v56, v57, v58, v59, v60, v61, v62, v63, v64, v65, v66, v67, v68, v69, v70, v71, v72, v73, v74]
def w204 : List PyData := [v75, v76, v77, v78, v79, v80, v81, v82, v83, v84, v85, v86, v87, v88, v89, v90, v91, v92, v93, v94, v95, v96, v97, v98]
def w205 : List PyData := [v99, v100, v101, v102, v103, v104, v105, v106, v107, v108, v109, v110, v111, v112, v113, v114, v115, v116, v117, v118, v119, v120, v121, v122]
def w206 : List PyData := [v123, v124, v125, v126, v127, v128, v129, v130, v131, v132, v133, v134, v135, v136, v137, v138, v139, v140, v141, v142, v143, v144, v145, v146]
def v147 : PyData := .list [.tuple [.int (.ofNat 0)], .tuple [.int (.ofNat 1)], .tuple [.int (.ofNat 2)]]
def v148 : PyData := .list [.tuple [.int (.ofNat 0)], .tuple [.int (.ofNat 1)], .tuple [.int (.ofNat 2)], .tuple [.int (.ofNat 3)]]
def v149 : PyData := .list [.tuple [.int (.ofNat 0), .int (.ofNat 0)], .tuple [.int (.ofNat 0), .int (.ofNat 1)], .tuple [.int (.ofNat 1), .int (.ofNat 0)], .tuple [.int (.ofNat 1), .int (.ofNat 1)]]
def v150 : PyData := .list [.tuple [.int (.ofNat 0), .int (.ofNat 0)], .tuple [.int (.ofNat 0), .int (.ofNat 1)], .tuple [.int (.ofNat 0), .int (.ofNat 2)], .tuple [.int (.ofNat 1), .int (.ofNat 0)], .tuple [.int (.ofNat 1), .int (.ofNat 1)], .tuple [.int (.ofNat 1), .int (.ofNat 2)], .tuple [.int (.ofNat 2), .int (.ofNat 0)], .tuple [.int (.ofNat 2), .int (.ofNat 1)], .tuple [.int (.ofNat 2), .int (.ofNat 2)]]
def v151 : PyData := .list [.tuple [.int (.ofNat 0), .int (.ofNat 0)], .tuple [.int (.ofNat 0), .int (.ofNat 1)], .tuple [.int (.ofNat 0), .int (.ofNat 2)], .tuple [.int (.ofNat 0), .int (.ofNat 3)], .tuple [.int (.ofNat 1), .int (.ofNat 0)], .tuple [.int (.ofNat 1), .int (.ofNat 1)], .tuple [.int (.ofNat 1), .int (.ofNat 2)], .tuple [.int (.ofNat 1), .int (.ofNat 3)], .tuple [.int (.ofNat 2), .int (.ofNat 0)], .tuple [.int (.ofNat 2), .int (.ofNat 1)], .tuple [.int (.ofNat 2), .int (.ofNat 2)], .tuple [.int (.ofNat 2), .int (.ofNat 3)], .tuple [.int (.ofNat 3), .int (.ofNat 0)], .tuple [.int (.ofNat 3), .int (.ofNat 1)], .tuple [.int (.ofNat 3), .int (.ofNat 2)], .tuple [.int (.ofNat 3), .int (.ofNat 3)]]
def v152 : PyData := .list [.tuple [.int (.ofNat 0), .int (.ofNat 0), .int (.ofNat 0)]]
def v153 : PyData := .list [.tuple [.int (.ofNat 0), .int (.ofNat 0), .int (.ofNat 0)], .tuple [.int (.ofNat 0), .int (.ofNat 0), .int (.ofNat 1)], .tuple [.int (.ofNat 0), .int (.ofNat 1), .int (.ofNat 0)], .tuple [.int (.ofNat 0), .int (.ofNat 1), .int (.ofNat 1)], .tuple [.int (.ofNat 1), .int (.ofNat 0), .int (.ofNat 0)], .tuple [.int (.ofNat 1), .int (.ofNat 0), .int (.ofNat 1)], .tuple [.int (.ofNat 1), .int (.ofNat 1), .int (.ofNat 0)], .tuple [.int (.ofNat 1), .int (.ofNat 1), .int (.ofNat 1)]]
def w214 : List PyData := [.tuple [.int (.ofNat 0), .int (.ofNat 0), .int (.ofNat 0)], .tuple [.int (.ofNat 0), .int (.ofNat 0), .int (.ofNat 1)], .tuple [.int (.ofNat 0), .int (.ofNat 0), .int (.ofNat 2)], .tuple [.int (.ofNat 0), .int (.ofNat 1), .int (.ofNat 0)], .tuple [.int (.ofNat 0), .int (.ofNat 1), .int (.ofNat 1)], .tuple [.int (.ofNat 0), .int (.ofNat 1), .int (.ofNat 2)], .tuple [.int (.ofNat 0), .int (.ofNat 2), .int (.ofNat 0)], .tuple [.int (.ofNat 0), .int (.ofNat 2), .int (.ofNat 1)], .tuple [.int (.ofNat 0), .int (.ofNat 2), .int (.ofNat 2)], .tuple [.int (.ofNat 1), .int (.ofNat 0), .int (.ofNat 0)], .tuple [.int (.ofNat 1), .int (.ofNat 0), .int (.ofNat 1)], .tuple [.int (.ofNat 1), .int (.ofNat 0), .int (.ofNat 2)], .tuple [.int (.ofNat 1), .int (.ofNat 1), .int (.ofNat 0)], .tuple [.int (.ofNat 1), .int (.ofNat 1), .int (.ofNat 1)], .tuple [.int (.ofNat 1), .int (.ofNat 1), .int (.ofNat 2)], .tuple [.int (.ofNat 1), .int (.ofNat 2), .int (.ofNat 0)], .tuple [.int (.ofNat 1), .int (.ofNat 2), .int (.ofNat 1)], .tuple [.int (.ofNat 1), .int (.ofNat 2), .int (.ofNat 2)], .tuple [.int (.ofNat 2), .int (.ofNat 0), .int (.ofNat 0)], .tuple [.int (.ofNat 2), .int (.ofNat 0), .int (.ofNat 1)], .tuple [.int (.ofNat 2), .int (.ofNat 0), .int (.ofNat 2)], .tuple [.int (.ofNat 2), .int (.ofNat 1), .int (.ofNat 0)], .tuple [.int (.ofNat 2), .int (.ofNat 1), .int (.ofNat 1)], .tuple [.int (.ofNat 2), .int (.ofNat 1), .int (.ofNat 2)]]
def w215 : List PyData := [.tuple [.int (.ofNat 2), .int (.ofNat 2), .int (.ofNat 0)], .tuple [.int (.ofNat 2), .int (.ofNat 2), .int (.ofNat 1)], .tuple [.int (.ofNat 2), .int (.ofNat 2), .int (.ofNat 2)]]
def w216 : List PyData := [.tuple [.int (.ofNat 0), .int (.ofNat 0), .int (.ofNat 0)], .tuple [.int (.ofNat 0), .int (.ofNat 0), .int (.ofNat 1)], .tuple [.int (.ofNat 0), .int (.ofNat 0), .int (.ofNat 2)], .tuple [.int (.ofNat 0), .int (.ofNat 0), .int (.ofNat 3)], .tuple [.int (.ofNat 0), .int (.ofNat 1), .int (.ofNat 0)], .tuple [.int (.ofNat 0), .int (.ofNat 1), .int (.ofNat 1)], .tuple [.int (.ofNat 0), .int (.ofNat 1), .int (.ofNat 2)], .tuple [.int (.ofNat 0), .int (.ofNat 1), .int (.ofNat 3)], .tuple [.int (.ofNat 0), .int (.ofNat 2), .int (.ofNat 0)], .tuple [.int (.ofNat 0), .int (.ofNat 2), .int (.ofNat 1)], .tuple [.int (.ofNat 0), .int (.ofNat 2), .int (.ofNat 2)], .tuple [.int (.ofNat 0), .int (.ofNat 2), .int (.ofNat 3)], .tuple [.int (.ofNat 0), .int (.ofNat 3), .int (.ofNat 0)], .tuple [.int (.ofNat 0), .int (.ofNat 3), .int (.ofNat 1)], .tuple [.int (.ofNat 0), .int (.ofNat 3), .int (.ofNat 2)], .tuple [.int (.ofNat 0), .int (.ofNat 3), .int (.ofNat 3)], .tuple [.int (.ofNat 1), .int (.ofNat 0), .int (.ofNat 0)], .tuple [.int (.ofNat 1), .int (.ofNat 0), .int (.ofNat 1)], .tuple [.int (.ofNat 1), .int (.ofNat 0), .int (.ofNat 2)], .tuple [.int (.ofNat 1), .int (.ofNat 0), .int (.ofNat 3)], .tuple [.int (.ofNat 1), .int (.ofNat 1), .int (.ofNat 0)], .tuple [.int (.ofNat 1), .int (.ofNat 1), .int (.ofNat 1)], .tuple [.int (.ofNat 1), .int (.ofNat 1), .int (.ofNat 2)], .tuple [.int (.ofNat 1), .int (.ofNat 1), .int (.ofNat 3)]]
def w217 : List PyData := [.tuple [.int (.ofNat 1), .int (.ofNat 2), .int (.ofNat 0)], .tuple [.int (.ofNat 1), .int (.ofNat 2), .int (.ofNat 1)], .tuple [.int (.ofNat 1), .int (.ofNat 2), .int (.ofNat 2)], .tuple [.int (.ofNat 1), .int (.ofNat 2), .int (.ofNat 3)], .tuple [.int (.ofNat 1), .int (.ofNat 3), .int (.ofNat 0)], .tuple [.int (.ofNat 1), .int (.ofNat 3), .int (.ofNat 1)], .tuple [.int (.ofNat 1), .int (.ofNat 3), .int (.ofNat 2)], .tuple [.int (.ofNat 1), .int (.ofNat 3), .int (.ofNat 3)], .tuple [.int (.ofNat 2), .int (.ofNat 0), .int (.ofNat 0)], .tuple [.int (.ofNat 2), .int (.ofNat 0), .int (.ofNat 1)], .tuple [.int (.ofNat 2), .int (.ofNat 0), .int (.ofNat 2)], .tuple [.int (.ofNat 2), .int (.ofNat 0), .int (.ofNat 3)], .tuple [.int (.ofNat 2), .int (.ofNat 1), .int (.ofNat 0)], .tuple [.int (.ofNat 2), .int (.ofNat 1), .int (.ofNat 1)], .tuple [.int (.ofNat 2), .int (.ofNat 1), .int (.ofNat 2)], .tuple [.int (.ofNat 2), .int (.ofNat 1), .int (.ofNat 3)], .tuple [.int (.ofNat 2), .int (.ofNat 2), .int (.ofNat 0)], .tuple [.int (.ofNat 2), .int (.ofNat 2), .int (.ofNat 1)], .tuple [.int (.ofNat 2), .int (.ofNat 2), .int (.ofNat 2)], .tuple [.int (.ofNat 2), .int (.ofNat 2), .int (.ofNat 3)], .tuple [.int (.ofNat 2), .int (.ofNat 3), .int (.ofNat 0)], .tuple [.int (.ofNat 2), .int (.ofNat 3), .int (.ofNat 1)], .tuple [.int (.ofNat 2), .int (.ofNat 3), .int (.ofNat 2)], .tuple [.int (.ofNat 2), .int (.ofNat 3), .int (.ofNat 3)]]
def w218 : List PyData := [.tuple [.int (.ofNat 3), .int (.ofNat 0), .int (.ofNat 0)], .tuple [.int (.ofNat 3), .int (.ofNat 0), .int (.ofNat 1)], .tuple [.int (.ofNat 3), .int (.ofNat 0), .int (.ofNat 2)], .tuple [.int (.ofNat 3), .int (.ofNat 0), .int (.ofNat 3)], .tuple [.int (.ofNat 3), .int (.ofNat 1), .int (.ofNat 0)], .tuple [.int (.ofNat 3), .int (.ofNat 1), .int (.ofNat 1)], .tuple [.int (.ofNat 3), .int (.ofNat 1), .int (.ofNat 2)], .tuple [.int (.ofNat 3), .int (.ofNat 1), .int (.ofNat 3)], .tuple [.int (.ofNat 3), .int (.ofNat 2), .int (.ofNat 0)], .tuple [.int (.ofNat 3), .int (.ofNat 2), .int (.ofNat 1)], .tuple [.int (.ofNat 3), .int (.ofNat 2), .int (.ofNat 2)], .tuple [.int (.ofNat 3), .int (.ofNat 2), .int (.ofNat 3)], .tuple [.int (.ofNat 3), .int (.ofNat 3), .int (.ofNat 0)], .tuple [.int (.ofNat 3), .int (.ofNat 3), .int (.ofNat 1)], .tuple [.int (.ofNat 3), .int (.ofNat 3), .int (.ofNat 2)], .tuple [.int (.ofNat 3), .int (.ofNat 3), .int (.ofNat 3)]]
def v154 : PyData := .tuple [.int (.ofNat 0), .int (.ofNat 0), .int (.ofNat 0), .int (.ofNat 0)]
def v155 : PyData := .tuple [.int (.ofNat 0), .int (.ofNat 0), .int (.ofNat 0), .int (.ofNat 1)]
def v156 : PyData := .tuple [.int (.ofNat 0), .int (.ofNat 0), .int (.ofNat 1), .int (.ofNat 0)]
def v157 : PyData := .tuple [.int (.ofNat 0), .int (.ofNat 0), .int (.ofNat 1), .int (.ofNat 1)]
def v158 : PyData := .tuple [.int (.ofNat 0), .int (.ofNat 1), .int (.ofNat 0), .int (.ofNat 0)]
def v159 : PyData := .tuple [.int (.ofNat 0), .int (.ofNat 1), .int (.ofNat 0), .int (.ofNat 1)]
def v160 : PyData := .tuple [.int (.ofNat 0), .int (.ofNat 1), .int (.ofNat 1), .int (.ofNat 0)]
def v161 : PyData := .tuple [.int (.ofNat 0), .int (.ofNat 1), .int (.ofNat 1), .int (.ofNat 1)]
def v162 : PyData := .tuple [.int (.ofNat 1), .int (.ofNat 0), .int (.ofNat 0), .int (.ofNat 0)]
def v163 : PyData := .tuple [.int (.ofNat 1), .int (.ofNat 0), .int (.ofNat 0), .int (.ofNat 1)]
def v164 : PyData := .tuple [.int (.ofNat 1), .int (.ofNat 0), .int (.ofNat 1), .int (.ofNat 0)]
def v165 : PyData := .tuple [.int (.ofNat 1), .int (.ofNat 0), .int (.ofNat 1), .int (.ofNat 1)]
def v166 : PyData := .tuple [.int (.ofNat 1), .int (.ofNat 1), .int (.ofNat 0), .int (.ofNat 0)]
def v167 : PyData := .tuple [.int (.ofNat 1), .int (.ofNat 1), .int (.ofNat 0), .int (.ofNat 1)]
def v168 : PyData := .tuple [.int (.ofNat 1), .int (.ofNat 1), .int (.ofNat 1), .int (.ofNat 0)]
def v169 : PyData := .tuple [.int (.ofNat 1), .int (.ofNat 1), .int (.ofNat 1), .int (.ofNat 1)]
def v170 : PyData := .list [v154, v155, v156, v157, v158, v159, v160, v161, v162, v163, v164, v165, v166, v167, v168, v169]
def v171 : PyData := .tuple [.int (.ofNat 0), .int (.ofNat 0), .int (.ofNat 0), .int (.ofNat 2)]
def v172 : PyData := .tuple [.int (.ofNat 0), .int (.ofNat 0), .int (.ofNat 1), .int (.ofNat 2)]
def v173 : PyData := .tuple [.int (.ofNat 0), .int (.ofNat 0), .int (.ofNat 2), .int (.ofNat 0)]
def v174 : PyData := .tuple [.int (.ofNat 0), .int (.ofNat 0), .int (.ofNat 2), .int (.ofNat 1)]
def v175 : PyData := .tuple [.int (.ofNat 0), .int (.ofNat 0), .int (.ofNat 2), .int (.ofNat 2)]
def v176 : PyData := .tuple [.int (.ofNat 0), .int (.ofNat 1), .int (.ofNat 0), .int (.ofNat 2)]
def v177 : PyData := .tuple [.int (.ofNat 0), .int (.ofNat 1), .int (.ofNat 1), .int (.ofNat 2)]
def v178 : PyData := .tuple [.int (.ofNat 0), .int (.ofNat 1), .int (.ofNat 2), .int (.ofNat 0)]
def v179 : PyData := .tuple [.int (.ofNat 0), .int (.ofNat 1), .int (.ofNat 2), .int (.ofNat 1)]
def v180 : PyData := .tuple [.int (.ofNat 0), .int (.ofNat 1), .int (.ofNat 2), .int (.ofNat 2)]
def v181 : PyData := .tuple [.int (.ofNat 0), .int (.ofNat 2), .int (.ofNat 0), .int (.ofNat 0)]
def v182 : PyData := .tuple [.int (.ofNat 0), .int (.ofNat 2), .int (.ofNat 0), .int (.ofNat 1)]
def v183 : PyData := .tuple [.int (.ofNat 0), .int (.ofNat 2), .int (.ofNat 0), .int (.ofNat 2)]
def v184 : PyData := .tuple [.int (.ofNat 0), .int (.ofNat 2), .int (.ofNat 1), .int (.ofNat 0)]
def v185 : PyData := .tuple [.int (.ofNat 0), .int (.ofNat 2), .int (.ofNat 1), .int (.ofNat 1)]
def v186 : PyData := .tuple [.int (.ofNat 0), .int (.ofNat 2), .int (.ofNat 1), .int (.ofNat 2)]
def v187 : PyData := .tuple [.int (.ofNat 0), .int (.ofNat 2), .int (.ofNat 2), .int (.ofNat 0)]
def v188 : PyData := .tuple [.int (.ofNat 0), .int (.ofNat 2), .int (.ofNat 2), .int (.ofNat 1)]
def v189 : PyData := .tuple [.int (.ofNat 0), .int (.ofNat 2), .int (.ofNat 2), .int (.ofNat 2)]
def v190 : PyData := .tuple [.int (.ofNat 1), .int (.ofNat 0), .int (.ofNat 0), .int (.ofNat 2)]
def v191 : PyData := .tuple [.int (.ofNat 1), .int (.ofNat 0), .int (.ofNat 1), .int (.ofNat 2)]
def v192 : PyData := .tuple [.int (.ofNat 1), .int (.ofNat 0), .int (.ofNat 2), .int (.ofNat 0)]
def v193 : PyData := .tuple [.int (.ofNat 1), .int (.ofNat 0), .int (.ofNat 2), .int (.ofNat 1)]
def v194 : PyData := .tuple [.int (.ofNat 1), .int (.ofNat 0), .int (.ofNat 2), .int (.ofNat 2)]
def v195 : PyData := .tuple [.int (.ofNat 1), .int (.ofNat 1), .int (.ofNat 0), .int (.ofNat 2)]
def v196 : PyData := .tuple [.int (.ofNat 1), .int (.ofNat 1), .int (.ofNat 1), .int (.ofNat 2)]
def v197 : PyData := .tuple [.int (.ofNat 1), .int (.ofNat 1), .int (.ofNat 2), .int (.ofNat 0)]
def v198 : PyData := .tuple [.int (.ofNat 1), .int (.ofNat 1), .int (.ofNat 2), .int (.ofNat 1)]
def v199 : PyData := .tuple [.int (.ofNat 1), .int (.ofNat 1), .int (.ofNat 2), .int (.ofNat 2)]
def v200 : PyData := .tuple [.int (.ofNat 1), .int (.ofNat 2), .int (.ofNat 0), .int (.ofNat 0)]
def v201 : PyData := .tuple [.int (.ofNat 1), .int (.ofNat 2), .int (.ofNat 0), .int (.ofNat 1)]
def v202 : PyData := .tuple [.int (.ofNat 1), .int (.ofNat 2), .int (.ofNat 0), .int (.ofNat 2)]
def v203 : PyData := .tuple [.int (.ofNat 1), .int (.ofNat 2), .int (.ofNat 1), .int (.ofNat 0)]
def v204 : PyData := .tuple [.int (.ofNat 1), .int (.ofNat 2), .int (.ofNat 1), .int (.ofNat 1)]
def v205 : PyData := .tuple [.int (.ofNat 1), .int (.ofNat 2), .int (.ofNat 1), .int (.ofNat 2)]
def v206 : PyData := .tuple [.int (.ofNat 1), .int (.ofNat 2), .int (.ofNat 2), .int (.ofNat 0)]
def v207 : PyData := .tuple [.int (.ofNat 1), .int (.ofNat 2), .int (.ofNat 2), .int (.ofNat 1)]
def v208 : PyData := .tuple [.int (.ofNat 1), .int (.ofNat 2), .int (.ofNat 2), .int (.ofNat 2)]
def v209 : PyData := .tuple [.int (.ofNat 2), .int (.ofNat 0), .int (.ofNat 0), .int (.ofNat 0)]
def v210 : PyData := .tuple [.int (.ofNat 2), .int (.ofNat 0), .int (.ofNat 0), .int (.ofNat 1)]
def v211 : PyData := .tuple [.int (.ofNat 2), .int (.ofNat 0), .int (.ofNat 0), .int (.ofNat 2)]
def v212 : PyData := .tuple [.int (.ofNat 2), .int (.ofNat 0), .int (.ofNat 1), .int (.ofNat 0)]
def v213 : PyData := .tuple [.int (.ofNat 2), .int (.ofNat 0), .int (.ofNat 1), .int (.ofNat 1)]
def v214 : PyData := .tuple [.int (.ofNat 2), .int (.ofNat 0), .int (.ofNat 1), .int (.ofNat 2)]
def v215 : PyData := .tuple [.int (.ofNat 2), .int (.ofNat 0), .int (.ofNat 2), .int (.ofNat 0)]
def v216 : PyData := .tuple [.int (.ofNat 2), .int (.ofNat 0), .int (.ofNat 2), .int (.ofNat 1)]
def v217 : PyData := .tuple [.int (.ofNat 2), .int (.ofNat 0), .int (.ofNat 2), .int (.ofNat 2)]
def v218 : PyData := .tuple [.int (.ofNat 2), .int (.ofNat 1), .int (.ofNat 0), .int (.ofNat 0)]
def v219 : PyData := .tuple [.int (.ofNat 2), .int (.ofNat 1), .int (.ofNat 0), .int (.ofNat 1)]
def v220 : PyData := .tuple [.int (.ofNat 2), .int (.ofNat 1), .int (.ofNat 0), .int (.ofNat 2)]
def v221 : PyData := .tuple [.int (.ofNat 2), .int (.ofNat 1), .int (.ofNat 1), .int (.ofNat 0)]
def v222 : PyData := .tuple [.int (.ofNat 2), .int (.ofNat 1), .int (.ofNat 1), .int (.ofNat 1)]
def v223 : PyData := .tuple [.int (.ofNat 2), .int (.ofNat 1), .int (.ofNat 1), .int (.ofNat 2)]
def v224 : PyData := .tuple [.int (.ofNat 2), .int (.ofNat 1), .int (.ofNat 2), .int (.ofNat 0)]
def v225 : PyData := .tuple [.int (.ofNat 2), .int (.ofNat 1), .int (.ofNat 2), .int (.ofNat 1)]
def v226 : PyData := .tuple [.int (.ofNat 2), .int (.ofNat 1), .int (.ofNat 2), .int (.ofNat 2)]
def v227 : PyData := .tuple [.int (.ofNat 2), .int (.ofNat 2), .int (.ofNat 0), .int (.ofNat 0)]
def v228 : PyData := .tuple [.int (.ofNat 2), .int (.ofNat 2), .int (.ofNat 0), .int (.ofNat 1)]
def v229 : PyData := .tuple [.int (.ofNat 2), .int (.ofNat 2), .int (.ofNat 0), .int (.ofNat 2)]
def v230 : PyData := .tuple [.int (.ofNat 2), .int (.ofNat 2), .int (.ofNat 1), .int (.ofNat 0)]
def v231 : PyData := .tuple [.int (.ofNat 2), .int (.ofNat 2), .int (.ofNat 1), .int (.ofNat 1)]
def v232 : PyData := .tuple [.int (.ofNat 2), .int (.ofNat 2), .int (.ofNat 1), .int (.ofNat 2)]
def v233 : PyData := .tuple [.int (.ofNat 2), .int (.ofNat 2), .int (.ofNat 2), .int (.ofNat 0)]
def v234 : PyData := .tuple [.int (.ofNat 2), .int (.ofNat 2), .int (.ofNat 2), .int (.ofNat 1)]
def v235 : PyData := .tuple [.int (.ofNat 2), .int (.ofNat 2), .int (.ofNat 2), .int (.ofNat 2)]
def w301 : List PyData := [v154, v155, v171, v156, v157, v172, v173, v174, v175, v158, v159, v176, v160, v161, v177, v178, v179, v180, v181, v182, v183, v184, v185, v186]
def w302 : List PyData := [v187, v188, v189, v162, v163, v190, v164, v165, v191, v192, v193, v194, v166, v167, v195, v168, v169, v196, v197, v198, v199, v200, v201, v202]
def w303 : List PyData := [v203, v204, v205, v206, v207, v208, v209, v210, v211, v212, v213, v214, v215, v216, v217, v218, v219, v220, v221, v222, v223, v224, v225, v226]
def w304 : List PyData := [v227, v228, v229, v230, v231, v232, v233, v234, v235]
def v236 : PyData := .tuple [.int (.ofNat 0), .int (.ofNat 0), .int (.ofNat 0), .int (.ofNat 3)]
def v237 : PyData := .tuple [.int (.ofNat 0), .int (.ofNat 0), .int (.ofNat 1), .int (.ofNat 3)]
def v238 : PyData := .tuple [.int (.ofNat 0), .int (.ofNat 0), .int (.ofNat 2), .int (.ofNat 3)]
def v239 : PyData := .tuple [.int (.ofNat 0), .int (.ofNat 0), .int (.ofNat 3), .int (.ofNat 0)]
def v240 : PyData := .tuple [.int (.ofNat 0), .int (.ofNat 0), .int (.ofNat 3), .int (.ofNat 1)]
def v241 : PyData := .tuple [.int (.ofNat 0), .int (.ofNat 0), .int (.ofNat 3), .int (.ofNat 2)]
def v242 : PyData := .tuple [.int (.ofNat 0), .int (.ofNat 0), .int (.ofNat 3), .int (.ofNat 3)]
def v243 : PyData := .tuple [.int (.ofNat 0), .int (.ofNat 1), .int (.ofNat 0), .int (.ofNat 3)]
def v244 : PyData := .tuple [.int (.ofNat 0), .int (.ofNat 1), .int (.ofNat 1), .int (.ofNat 3)]
def v245 : PyData := .tuple [.int (.ofNat 0), .int (.ofNat 1), .int (.ofNat 3), .int (.ofNat 0)]
def v246 : PyData := .tuple [.int (.ofNat 0), .int (.ofNat 1), .int (.ofNat 3), .int (.ofNat 1)]
def v247 : PyData := .tuple [.int (.ofNat 0), .int (.ofNat 1), .int (.ofNat 3), .int (.ofNat 3)]
def v248 : PyData := .tuple [.int (.ofNat 0), .int (.ofNat 2), .int (.ofNat 0), .int (.ofNat 3)]
def v249 : PyData := .tuple [.int (.ofNat 0), .int (.ofNat 2), .int (.ofNat 2), .int (.ofNat 3)]
def v250 : PyData := .tuple [.int (.ofNat 0), .int (.ofNat 2), .int (.ofNat 3), .int (.ofNat 0)]
def v251 : PyData := .tuple [.int (.ofNat 0), .int (.ofNat 2), .int (.ofNat 3), .int (.ofNat 2)]
def v252 : PyData := .tuple [.int (.ofNat 0), .int (.ofNat 2), .int (.ofNat 3), .int (.ofNat 3)]
def v253 : PyData := .tuple [.int (.ofNat 0), .int (.ofNat 3), .int (.ofNat 0), .int (.ofNat 0)]
def v254 : PyData := .tuple [.int (.ofNat 0), .int (.ofNat 3), .int (.ofNat 0), .int (.ofNat 1)]
def v255 : PyData := .tuple [.int (.ofNat 0), .int (.ofNat 3), .int (.ofNat 0), .int (.ofNat 2)]
def v256 : PyData := .tuple [.int (.ofNat 0), .int (.ofNat 3), .int (.ofNat 0), .int (.ofNat 3)]
def v257 : PyData := .tuple [.int (.ofNat 0), .int (.ofNat 3), .int (.ofNat 1), .int (.ofNat 0)]
def v258 : PyData := .tuple [.int (.ofNat 0), .int (.ofNat 3), .int (.ofNat 1), .int (.ofNat 1)]
def v259 : PyData := .tuple [.int (.ofNat 0), .int (.ofNat 3), .int (.ofNat 1), .int (.ofNat 3)]
def v260 : PyData := .tuple [.int (.ofNat 0), .int (.ofNat 3), .int (.ofNat 2), .int (.ofNat 0)]
def v261 : PyData := .tuple [.int (.ofNat 0), .int (.ofNat 3), .int (.ofNat 2), .int (.ofNat 2)]
def v262 : PyData := .tuple [.int (.ofNat 0), .int (.ofNat 3), .int (.ofNat 2), .int (.ofNat 3)]
def v263 : PyData := .tuple [.int (.ofNat 0), .int (.ofNat 3), .int (.ofNat 3), .int (.ofNat 0)]
def v264 : PyData := .tuple [.int (.ofNat 0), .int (.ofNat 3), .int (.ofNat 3), .int (.ofNat 1)]
def v265 : PyData := .tuple [.int (.ofNat 0), .int (.ofNat 3), .int (.ofNat 3), .int (.ofNat 2)]
def v266 : PyData := .tuple [.int (.ofNat 0), .int (.ofNat 3), .int (.ofNat 3), .int (.ofNat 3)]
def v267 : PyData := .tuple [.int (.ofNat 1), .int (.ofNat 0), .int (.ofNat 0), .int (.ofNat 3)]
def v268 : PyData := .tuple [.int (.ofNat 1), .int (.ofNat 0), .int (.ofNat 1), .int (.ofNat 3)]
def v269 : PyData := .tuple [.int (.ofNat 1), .int (.ofNat 0), .int (.ofNat 3), .int (.ofNat 0)]
def v270 : PyData := .tuple [.int (.ofNat 1), .int (.ofNat 0), .int (.ofNat 3), .int (.ofNat 1)]
def v271 : PyData := .tuple [.int (.ofNat 1), .int (.ofNat 0), .int (.ofNat 3), .int (.ofNat 3)]
def v272 : PyData := .tuple [.int (.ofNat 1), .int (.ofNat 1), .int (.ofNat 0), .int (.ofNat 3)]
def v273 : PyData := .tuple [.int (.ofNat 1), .int (.ofNat 1), .int (.ofNat 1), .int (.ofNat 3)]
def v274 : PyData := .tuple [.int (.ofNat 1), .int (.ofNat 1), .int (.ofNat 2), .int (.ofNat 3)]
def v275 : PyData := .tuple [.int (.ofNat 1), .int (.ofNat 1), .int (.ofNat 3), .int (.ofNat 0)]
def v276 : PyData := .tuple [.int (.ofNat 1), .int (.ofNat 1), .int (.ofNat 3), .int (.ofNat 1)]
def v277 : PyData := .tuple [.int (.ofNat 1), .int (.ofNat 1), .int (.ofNat 3), .int (.ofNat 2)]
def v278 : PyData := .tuple [.int (.ofNat 1), .int (.ofNat 1), .int (.ofNat 3), .int (.ofNat 3)]
def v279 : PyData := .tuple [.int (.ofNat 1), .int (.ofNat 2), .int (.ofNat 1), .int (.ofNat 3)]
def v280 : PyData := .tuple [.int (.ofNat 1), .int (.ofNat 2), .int (.ofNat 2), .int (.ofNat 3)]
def v281 : PyData := .tuple [.int (.ofNat 1), .int (.ofNat 2), .int (.ofNat 3), .int (.ofNat 1)]
def v282 : PyData := .tuple [.int (.ofNat 1), .int (.ofNat 2), .int (.ofNat 3), .int (.ofNat 2)]
def v283 : PyData := .tuple [.int (.ofNat 1), .int (.ofNat 2), .int (.ofNat 3), .int (.ofNat 3)]
def v284 : PyData := .tuple [.int (.ofNat 1), .int (.ofNat 3), .int (.ofNat 0), .int (.ofNat 0)]
def v285 : PyData := .tuple [.int (.ofNat 1), .int (.ofNat 3), .int (.ofNat 0), .int (.ofNat 1)]
def v286 : PyData := .tuple [.int (.ofNat 1), .int (.ofNat 3), .int (.ofNat 0), .int (.ofNat 3)]
def v287 : PyData := .tuple [.int (.ofNat 1), .int (.ofNat 3), .int (.ofNat 1), .int (.ofNat 0)]
def v288 : PyData := .tuple [.int (.ofNat 1), .int (.ofNat 3), .int (.ofNat 1), .int (.ofNat 1)]
def v289 : PyData := .tuple [.int (.ofNat 1), .int (.ofNat 3), .int (.ofNat 1), .int (.ofNat 2)]
def v290 : PyData := .tuple [.int (.ofNat 1), .int (.ofNat 3), .int (.ofNat 1), .int (.ofNat 3)]
def v291 : PyData := .tuple [.int (.ofNat 1), .int (.ofNat 3), .int (.ofNat 2), .int (.ofNat 1)]
def v292 : PyData := .tuple [.int (.ofNat 1), .int (.ofNat 3), .int (.ofNat 2), .int (.ofNat 2)]
def v293 : PyData := .tuple [.int (.ofNat 1), .int (.ofNat 3), .int (.ofNat 2), .int (.ofNat 3)]
def v294 : PyData := .tuple [.int (.ofNat 1), .int (.ofNat 3), .int (.ofNat 3), .int (.ofNat 0)]
def v295 : PyData := .tuple [.int (.ofNat 1), .int (.ofNat 3), .int (.ofNat 3), .int (.ofNat 1)]
def v296 : PyData := .tuple [.int (.ofNat 1), .int (.ofNat 3), .int (.ofNat 3), .int (.ofNat 2)]
def v297 : PyData := .tuple [.int (.ofNat 1), .int (.ofNat 3), .int (.ofNat 3), .int (.ofNat 3)]
def v298 : PyData := .tuple [.int (.ofNat 2), .int (.ofNat 0), .int (.ofNat 0), .int (.ofNat 3)]
def v299 : PyData := .tuple [.int (.ofNat 2), .int (.ofNat 0), .int (.ofNat 2), .int (.ofNat 3)]
def v300 : PyData := .tuple [.int (.ofNat 2), .int (.ofNat 0), .int (.ofNat 3), .int (.ofNat 0)]
def v301 : PyData := .tuple [.int (.ofNat 2), .int (.ofNat 0), .int (.ofNat 3), .int (.ofNat 2)]
def v302 : PyData := .tuple [.int (.ofNat 2), .int (.ofNat 0), .int (.ofNat 3), .int (.ofNat 3)]
def v303 : PyData := .tuple [.int (.ofNat 2), .int (.ofNat 1), .int (.ofNat 1), .int (.ofNat 3)]
def v304 : PyData := .tuple [.int (.ofNat 2), .int (.ofNat 1), .int (.ofNat 2), .int (.ofNat 3)]
def v305 : PyData := .tuple [.int (.ofNat 2), .int (.ofNat 1), .int (.ofNat 3), .int (.ofNat 1)]
def v306 : PyData := .tuple [.int (.ofNat 2), .int (.ofNat 1), .int (.ofNat 3), .int (.ofNat 2)]
def v307 : PyData := .tuple [.int (.ofNat 2), .int (.ofNat 1), .int (.ofNat 3), .int (.ofNat 3)]
def v308 : PyData := .tuple [.int (.ofNat 2), .int (.ofNat 2), .int (.ofNat 0), .int (.ofNat 3)]
def v309 : PyData := .tuple [.int (.ofNat 2), .int (.ofNat 2), .int (.ofNat 1), .int (.ofNat 3)]
def v310 : PyData := .tuple [.int (.ofNat 2), .int (.ofNat 2), .int (.ofNat 2), .int (.ofNat 3)]
def v311 : PyData := .tuple [.int (.ofNat 2), .int (.ofNat 2), .int (.ofNat 3), .int (.ofNat 0)]
def v312 : PyData := .tuple [.int (.ofNat 2), .int (.ofNat 2), .int (.ofNat 3), .int (.ofNat 1)]
def v313 : PyData := .tuple [.int (.ofNat 2), .int (.ofNat 2), .int (.ofNat 3), .int (.ofNat 2)]
def v314 : PyData := .tuple [.int (.ofNat 2), .int (.ofNat 2), .int (.ofNat 3), .int (.ofNat 3)]
def v315 : PyData := .tuple [.int (.ofNat 2), .int (.ofNat 3), .int (.ofNat 0), .int (.ofNat 0)]
def v316 : PyData := .tuple [.int (.ofNat 2), .int (.ofNat 3), .int (.ofNat 0), .int (.ofNat 2)]
def v317 : PyData := .tuple [.int (.ofNat 2), .int (.ofNat 3), .int (.ofNat 0), .int (.ofNat 3)]
def v318 : PyData := .tuple [.int (.ofNat 2), .int (.ofNat 3), .int (.ofNat 1), .int (.ofNat 1)]
def v319 : PyData := .tuple [.int (.ofNat 2), .int (.ofNat 3), .int (.ofNat 1), .int (.ofNat 2)]
def v320 : PyData := .tuple [.int (.ofNat 2), .int (.ofNat 3), .int (.ofNat 1), .int (.ofNat 3)]
def v321 : PyData := .tuple [.int (.ofNat 2), .int (.ofNat 3), .int (.ofNat 2), .int (.ofNat 0)]
def v322 : PyData := .tuple [.int (.ofNat 2), .int (.ofNat 3), .int (.ofNat 2), .int (.ofNat 1)]
def v323 : PyData := .tuple [.int (.ofNat 2), .int (.ofNat 3), .int (.ofNat 2), .int (.ofNat 2)]
def v324 : PyData := .tuple [.int (.ofNat 2), .int (.ofNat 3), .int (.ofNat 2), .int (.ofNat 3)]
def v325 : PyData := .tuple [.int (.ofNat 2), .int (.ofNat 3), .int (.ofNat 3), .int (.ofNat 0)]
def v326 : PyData := .tuple [.int (.ofNat 2), .int (.ofNat 3), .int (.ofNat 3), .int (.ofNat 1)]
def v327 : PyData := .tuple [.int (.ofNat 2), .int (.ofNat 3), .int (.ofNat 3), .int (.ofNat 2)]
def v328 : PyData := .tuple [.int (.ofNat 2), .int (.ofNat 3), .int (.ofNat 3), .int (.ofNat 3)]
def v329 : PyData := .tuple [.int (.ofNat 3), .int (.ofNat 0), .int (.ofNat 0), .int (.ofNat 0)]
def v330 : PyData := .tuple [.int (.ofNat 3), .int (.ofNat 0), .int (.ofNat 0), .int (.ofNat 1)]
def v331 : PyData := .tuple [.int (.ofNat 3), .int (.ofNat 0), .int (.ofNat 0), .int (.ofNat 2)]
def v332 : PyData := .tuple [.int (.ofNat 3), .int (.ofNat 0), .int (.ofNat 0), .int (.ofNat 3)]
def v333 : PyData := .tuple [.int (.ofNat 3), .int (.ofNat 0), .int (.ofNat 1), .int (.ofNat 0)]
def v334 : PyData := .tuple [.int (.ofNat 3), .int (.ofNat 0), .int (.ofNat 1), .int (.ofNat 1)]
def v335 : PyData := .tuple [.int (.ofNat 3), .int (.ofNat 0), .int (.ofNat 1), .int (.ofNat 3)]
def v336 : PyData := .tuple [.int (.ofNat 3), .int (.ofNat 0), .int (.ofNat 2), .int (.ofNat 0)]
def v337 : PyData := .tuple [.int (.ofNat 3), .int (.ofNat 0), .int (.ofNat 2), .int (.ofNat 2)]
def v338 : PyData := .tuple [.int (.ofNat 3), .int (.ofNat 0), .int (.ofNat 2), .int (.ofNat 3)]
def v339 : PyData := .tuple [.int (.ofNat 3), .int (.ofNat 0), .int (.ofNat 3), .int (.ofNat 0)]
def v340 : PyData := .tuple [.int (.ofNat 3), .int (.ofNat 0), .int (.ofNat 3), .int (.ofNat 1)]
def v341 : PyData := .tuple [.int (.ofNat 3), .int (.ofNat 0), .int (.ofNat 3), .int (.ofNat 2)]
def v342 : PyData := .tuple [.int (.ofNat 3), .int (.ofNat 0), .int (.ofNat 3), .int (.ofNat 3)]
def v343 : PyData := .tuple [.int (.ofNat 3), .int (.ofNat 1), .int (.ofNat 0), .int (.ofNat 0)]
def v344 : PyData := .tuple [.int (.ofNat 3), .int (.ofNat 1), .int (.ofNat 0), .int (.ofNat 1)]
def v345 : PyData := .tuple [.int (.ofNat 3), .int (.ofNat 1), .int (.ofNat 0), .int (.ofNat 3)]
def v346 : PyData := .tuple [.int (.ofNat 3), .int (.ofNat 1), .int (.ofNat 1), .int (.ofNat 0)]
def v347 : PyData := .tuple [.int (.ofNat 3), .int (.ofNat 1), .int (.ofNat 1), .int (.ofNat 1)]
def v348 : PyData := .tuple [.int (.ofNat 3), .int (.ofNat 1), .int (.ofNat 1), .int (.ofNat 2)]
def v349 : PyData := .tuple [.int (.ofNat 3), .int (.ofNat 1), .int (.ofNat 1), .int (.ofNat 3)]
def v350 : PyData := .tuple [.int (.ofNat 3), .int (.ofNat 1), .int (.ofNat 2), .int (.ofNat 1)]
def v351 : PyData := .tuple [.int (.ofNat 3), .int (.ofNat 1), .int (.ofNat 2), .int (.ofNat 2)]
def v352 : PyData := .tuple [.int (.ofNat 3), .int (.ofNat 1), .int (.ofNat 2), .int (.ofNat 3)]
def v353 : PyData := .tuple [.int (.ofNat 3), .int (.ofNat 1), .int (.ofNat 3), .int (.ofNat 0)]
def v354 : PyData := .tuple [.int (.ofNat 3), .int (.ofNat 1), .int (.ofNat 3), .int (.ofNat 1)]
def v355 : PyData := .tuple [.int (.ofNat 3), .int (.ofNat 1), .int (.ofNat 3), .int (.ofNat 2)]
def v356 : PyData := .tuple [.int (.ofNat 3), .int (.ofNat 1), .int (.ofNat 3), .int (.ofNat 3)]
def v357 : PyData := .tuple [.int (.ofNat 3), .int (.ofNat 2), .int (.ofNat 0), .int (.ofNat 0)]
def v358 : PyData := .tuple [.int (.ofNat 3), .int (.ofNat 2), .int (.ofNat 0), .int (.ofNat 2)]
def v359 : PyData := .tuple [.int (.ofNat 3), .int (.ofNat 2), .int (.ofNat 0), .int (.ofNat 3)]
def v360 : PyData := .tuple [.int (.ofNat 3), .int (.ofNat 2), .int (.ofNat 1), .int (.ofNat 1)]
def v361 : PyData := .tuple [.int (.ofNat 3), .int (.ofNat 2), .int (.ofNat 1), .int (.ofNat 2)]
def v362 : PyData := .tuple [.int (.ofNat 3), .int (.ofNat 2), .int (.ofNat 1), .int (.ofNat 3)]
def v363 : PyData := .tuple [.int (.ofNat 3), .int (.ofNat 2), .int (.ofNat 2), .int (.ofNat 0)]
def v364 : PyData := .tuple [.int (.ofNat 3), .int (.ofNat 2), .int (.ofNat 2), .int (.ofNat 1)]
def v365 : PyData := .tuple [.int (.ofNat 3), .int (.ofNat 2), .int (.ofNat 2), .int (.ofNat 2)]
def v366 : PyData := .tuple [.int (.ofNat 3), .int (.ofNat 2), .int (.ofNat 2), .int (.ofNat 3)]
def v367 : PyData := .tuple [.int (.ofNat 3), .int (.ofNat 2), .int (.ofNat 3), .int (.ofNat 0)]
def v368 : PyData := .tuple [.int (.ofNat 3), .int (.ofNat 2), .int (.ofNat 3), .int (.ofNat 1)]
def v369 : PyData := .tuple [.int (.ofNat 3), .int (.ofNat 2), .int (.ofNat 3), .int (.ofNat 2)]
def v370 : PyData := .tuple [.int (.ofNat 3), .int (.ofNat 2), .int (.ofNat 3), .int (.ofNat 3)]
def v371 : PyData := .tuple [.int (.ofNat 3), .int (.ofNat 3), .int (.ofNat 0), .int (.ofNat 0)]
def v372 : PyData := .tuple [.int (.ofNat 3), .int (.ofNat 3), .int (.ofNat 0), .int (.ofNat 1)]
def v373 : PyData := .tuple [.int (.ofNat 3), .int (.ofNat 3), .int (.ofNat 0), .int (.ofNat 2)]
def v374 : PyData := .tuple [.int (.ofNat 3), .int (.ofNat 3), .int (.ofNat 0), .int (.ofNat 3)]
def v375 : PyData := .tuple [.int (.ofNat 3), .int (.ofNat 3), .int (.ofNat 1), .int (.ofNat 0)]
def v376 : PyData := .tuple [.int (.ofNat 3), .int (.ofNat 3), .int (.ofNat 1), .int (.ofNat 1)]
def v377 : PyData := .tuple [.int (.ofNat 3), .int (.ofNat 3), .int (.ofNat 1), .int (.ofNat 2)]
def v378 : PyData := .tuple [.int (.ofNat 3), .int (.ofNat 3), .int (.ofNat 1), .int (.ofNat 3)]
def v379 : PyData := .tuple [.int (.ofNat 3), .int (.ofNat 3), .int (.ofNat 2), .int (.ofNat 0)]
def v380 : PyData := .tuple [.int (.ofNat 3), .int (.ofNat 3), .int (.ofNat 2), .int (.ofNat 1)]
def v381 : PyData := .tuple [.int (.ofNat 3), .int (.ofNat 3), .int (.ofNat 2), .int (.ofNat 2)]
def v382 : PyData := .tuple [.int (.ofNat 3), .int (.ofNat 3), .int (.ofNat 2), .int (.ofNat 3)]
def v383 : PyData := .tuple [.int (.ofNat 3), .int (.ofNat 3), .int (.ofNat 3), .int (.ofNat 0)]
def v384 : PyData := .tuple [.int (.ofNat 3), .int (.ofNat 3), .int (.ofNat 3), .int (.ofNat 1)]
def v385 : PyData := .tuple [.int (.ofNat 3), .int (.ofNat 3), .int (.ofNat 3), .int (.ofNat 2)]
def v386 : PyData := .tuple [.int (.ofNat 3), .int (.ofNat 3), .int (.ofNat 3), .int (.ofNat 3)]
def w456 : List PyData := [v154, v155, v171, v236, v156, v157, v172, v237, v173, v174, v175, v238, v239, v240, v241, v242, v158, v159, v176, v243, v160, v161, v177, v244]
def w457 : List PyData := [v178, v179, v180, v2, v245, v246, v3, v247, v181, v182, v183, v248, v184, v185, v186, v4, v187, v188, v189, v249, v250, v5, v251, v252]
def w458 : List PyData := [v253, v254, v255, v256, v257, v258, v6, v259, v260, v7, v261, v262, v263, v264, v265, v266, v162, v163, v190, v267, v164, v165, v191, v268]
def w459 : List PyData := [v192, v193, v194, v8, v269, v270, v9, v271, v166, v167, v195, v272, v168, v169, v196, v273, v197, v198, v199, v274, v275, v276, v277, v278]
def w460 : List PyData := [v200, v201, v202, v10, v203, v204, v205, v279, v206, v207, v208, v280, v11, v281, v282, v283, v284, v285, v12, v286, v287, v288, v289, v290]
def w461 : List PyData := [v13, v291, v292, v293, v294, v295, v296, v297, v209, v210, v211, v298, v212, v213, v214, v14, v215, v216, v217, v299, v300, v15, v301, v302]
def w462 : List PyData := [v218, v219, v220, v16, v221, v222, v223, v303, v224, v225, v226, v304, v17, v305, v306, v307, v227, v228, v229, v308, v230, v231, v232, v309]
def w463 : List PyData := [v233, v234, v235, v310, v311, v312, v313, v314, v315, v18, v316, v317, v19, v318, v319, v320, v321, v322, v323, v324, v325, v326, v327, v328]
def w464 : List PyData := [v329, v330, v331, v332, v333, v334, v20, v335, v336, v21, v337, v338, v339, v340, v341, v342, v343, v344, v22, v345, v346, v347, v348, v349]
def w465 : List PyData := [v23, v350, v351, v352, v353, v354, v355, v356, v357, v24, v358, v359, v25, v360, v361, v362, v363, v364, v365, v366, v367, v368, v369, v370]
def w466 : List PyData := [v371, v372, v373, v374, v375, v376, v377, v378, v379, v380, v381, v382, v383, v384, v385, v386]
def v387 : PyData := .list (w456 ++ w457 ++ w458 ++ w459 ++ w460 ++ w461 ++ w462 ++ w463 ++ w464 ++ w465 ++ w466)
def w468 : List PyData := [v27, v28, v29, v30, v31, v32, v33, v34, v35, v36, v37, v38, v39, v40, v41, v42, v43, v44, v45, v46, v47, v48, v49, v50]
def w469 : List PyData := [v51, v52, v53, v54, v55, v56, v57, v58, v59, v60, v61, v62, v63, v64, v65, v66, v67, v68, v69, v70, v71, v72, v73, v74]
def w470 : List PyData := [v75, v76, v77, v78, v79, v80, v81, v82, v83, v84, v85, v86, v87, v88, v89, v90, v91, v92, v93, v94, v95, v96, v97, v98]
def w471 : List PyData := [v99, v100, v101, v102, v103, v104, v105, v106, v107, v108, v109, v110, v111, v112, v113, v114, v115, v116, v117, v118, v119, v120, v121, v122]
def w472 : List PyData := [v123, v124, v125, v126, v127, v128, v129, v130, v131, v132, v133, v134, v135, v136, v137, v138, v139, v140, v141, v142, v143, v144, v145, v146]
def w473 : List PyData := [v27, v28, v29, v30, v31, v32, v33, v34, v35, v36, v37, v38, v39, v40, v41, v42, v43, v44, v45, v46, v47, v48, v49, v50]
def w474 : List PyData := [v51, v52, v53, v54, v55, v56, v57, v58, v59, v60, v61, v62, v63, v64, v65, v66, v67, v68, v69, v70, v71, v72, v73, v74]
def w475 : List PyData := [v75, v76, v77, v78, v79, v80, v81, v82, v83, v84, v85, v86, v87, v88, v89, v90, v91, v92, v93, v94, v95, v96, v97, v98]
def w476 : List PyData := [v99, v100, v101, v102, v103, v104, v105, v106, v107, v108, v109, v110, v111, v112, v113, v114, v115, v116, v117, v118, v119, v120, v121, v122]
def w477 : List PyData := [v123, v124, v125, v126, v127, v128, v129, v130, v131, v132, v133, v134, v135, v136, v137, v138, v139, v140, v141, v142, v143, v144, v145, v146]
def v388 : PyData := .tuple [.int (.ofNat 0), .int (.ofNat 0), .int (.ofNat 0), .int (.ofNat 0), .int (.ofNat 0)]
def w479 : List PyData := [v27, v28, v29, v30, v31, v32, v33, v34, v35, v36, v37, v38, v39, v40, v41, v42, v43, v44, v45, v46, v47, v48, v49, v50]
def w480 : List PyData := [v51, v52, v53, v54, v55, v56, v57, v58, v59, v60, v61, v62, v63, v64, v65, v66, v67, v68, v69, v70, v71, v72, v73, v74]
def w481 : List PyData := [v75, v76, v77, v78, v79, v80, v81, v82, v83, v84, v85, v86, v87, v88, v89, v90, v91, v92, v93, v94, v95, v96, v97, v98]
def w482 : List PyData := [v99, v100, v101, v102, v103, v104, v105, v106, v107, v108, v109, v110, v111, v112, v113, v114, v115, v116, v117, v118, v119, v120, v121, v122]
def w483 : List PyData := [v123, v124, v125, v126, v127, v128, v129, v130, v131, v132, v133, v134, v135, v136, v137, v138, v139, v140, v141, v142, v143, v144, v145, v146]
def v389 : PyData := .tuple [.int (.ofNat 0), .int (.ofNat 0), .int (.ofNat 0), .int (.ofNat 0), .int (.ofNat 1)]
def v390 : PyData := .tuple [.int (.ofNat 0), .int (.ofNat 0), .int (.ofNat 0), .int (.ofNat 1), .int (.ofNat 0)]
def v391 : PyData := .tuple [.int (.ofNat 0), .int (.ofNat 0), .int (.ofNat 0), .int (.ofNat 1), .int (.ofNat 1)]
def v392 : PyData := .tuple [.int (.ofNat 0), .int (.ofNat 0), .int (.ofNat 1), .int (.ofNat 0), .int (.ofNat 0)]
def v393 : PyData := .tuple [.int (.ofNat 0), .int (.ofNat 0), .int (.ofNat 1), .int (.ofNat 0), .int (.ofNat 1)]
def v394 : PyData := .tuple [.int (.ofNat 0), .int (.ofNat 0), .int (.ofNat 1), .int (.ofNat 1), .int (.ofNat 0)]
def v395 : PyData := .tuple [.int (.ofNat 0), .int (.ofNat 0), .int (.ofNat 1), .int (.ofNat 1), .int (.ofNat 1)]
def v396 : PyData := .tuple [.int (.ofNat 0), .int (.ofNat 1), .int (.ofNat 0), .int (.ofNat 0), .int (.ofNat 0)]
def v397 : PyData := .tuple [.int (.ofNat 0), .int (.ofNat 1), .int (.ofNat 0), .int (.ofNat 0), .int (.ofNat 1)]
def v398 : PyData := .tuple [.int (.ofNat 0), .int (.ofNat 1), .int (.ofNat 0), .int (.ofNat 1), .int (.ofNat 0)]
def v399 : PyData := .tuple [.int (.ofNat 0), .int (.ofNat 1), .int (.ofNat 0), .int (.ofNat 1), .int (.ofNat 1)]
def v400 : PyData := .tuple [.int (.ofNat 0), .int (.ofNat 1), .int (.ofNat 1), .int (.ofNat 0), .int (.ofNat 0)]
def v401 : PyData := .tuple [.int (.ofNat 0), .int (.ofNat 1), .int (.ofNat 1), .int (.ofNat 0), .int (.ofNat 1)]
def v402 : PyData := .tuple [.int (.ofNat 0), .int (.ofNat 1), .int (.ofNat 1), .int (.ofNat 1), .int (.ofNat 0)]
def v403 : PyData := .tuple [.int (.ofNat 0), .int (.ofNat 1), .int (.ofNat 1), .int (.ofNat 1), .int (.ofNat 1)]
def v404 : PyData := .tuple [.int (.ofNat 1), .int (.ofNat 0), .int (.ofNat 0), .int (.ofNat 0), .int (.ofNat 0)]
def v405 : PyData := .tuple [.int (.ofNat 1), .int (.ofNat 0), .int (.ofNat 0), .int (.ofNat 0), .int (.ofNat 1)]
def v406 : PyData := .tuple [.int (.ofNat 1), .int (.ofNat 0), .int (.ofNat 0), .int (.ofNat 1), .int (.ofNat 0)]
def v407 : PyData := .tuple [.int (.ofNat 1), .int (.ofNat 0), .int (.ofNat 0), .int (.ofNat 1), .int (.ofNat 1)]
def v408 : PyData := .tuple [.int (.ofNat 1), .int (.ofNat 0), .int (.ofNat 1), .int (.ofNat 0), .int (.ofNat 0)]
def v409 : PyData := .tuple [.int (.ofNat 1), .int (.ofNat 0), .int (.ofNat 1), .int (.ofNat 0), .int (.ofNat 1)]
def v410 : PyData := .tuple [.int (.ofNat 1), .int (.ofNat 0), .int (.ofNat 1), .int (.ofNat 1), .int (.ofNat 0)]
def v411 : PyData := .tuple [.int (.ofNat 1), .int (.ofNat 0), .int (.ofNat 1), .int (.ofNat 1), .int (.ofNat 1)]
def v412 : PyData := .tuple [.int (.ofNat 1), .int (.ofNat 1), .int (.ofNat 0), .int (.ofNat 0), .int (.ofNat 0)]
def v413 : PyData := .tuple [.int (.ofNat 1), .int (.ofNat 1), .int (.ofNat 0), .int (.ofNat 0), .int (.ofNat 1)]
def v414 : PyData := .tuple [.int (.ofNat 1), .int (.ofNat 1), .int (.ofNat 0), .int (.ofNat 1), .int (.ofNat 0)]
def v415 : PyData := .tuple [.int (.ofNat 1), .int (.ofNat 1), .int (.ofNat 0), .int (.ofNat 1), .int (.ofNat 1)]
def v416 : PyData := .tuple [.int (.ofNat 1), .int (.ofNat 1), .int (.ofNat 1), .int (.ofNat 0), .int (.ofNat 0)]
def v417 : PyData := .tuple [.int (.ofNat 1), .int (.ofNat 1), .int (.ofNat 1), .int (.ofNat 0), .int (.ofNat 1)]
def v418 : PyData := .tuple [.int (.ofNat 1), .int (.ofNat 1), .int (.ofNat 1), .int (.ofNat 1), .int (.ofNat 0)]
def v419 : PyData := .tuple [.int (.ofNat 1), .int (.ofNat 1), .int (.ofNat 1), .int (.ofNat 1), .int (.ofNat 1)]
def w515 : List PyData := [v388, v389, v390, v391, v392, v393, v394, v395, v396, v397, v398, v399, v400, v401, v402, v403, v404, v405, v406, v407, v408, v409, v410, v411]
def w516 : List PyData := [v412, v413, v414, v415, v416, v417, v418, v419]
def w517 : List PyData := [v27, v28, v29, v30, v31, v32, v33, v34, v35, v36, v37, v38, v39, v40, v41, v42, v43, v44, v45, v46, v47, v48, v49, v50]
def w518 : List PyData := [v51, v52, v53, v54, v55, v56, v57, v58, v59, v60, v61, v62, v63, v64, v65, v66, v67, v68, v69, v70, v71, v72, v73, v74]
def w519 : List PyData := [v75, v76, v77, v78, v79, v80, v81, v82, v83, v84, v85, v86, v87, v88, v89, v90, v91, v92, v93, v94, v95, v96, v97, v98]
def w520 : List PyData := [v99, v100, v101, v102, v103, v104, v105, v106, v107, v108, v109, v110, v111, v112, v113, v114, v115, v116, v117, v118, v119, v120, v121, v122]
def w521 : List PyData := [v123, v124, v125, v126, v127, v128, v129, v130, v131, v132, v133, v134, v135, v136, v137, v138, v139, v140, v141, v142, v143, v144, v145, v146]
def v420 : PyData := .tuple [.int (.ofNat 0), .int (.ofNat 0), .int (.ofNat 0), .int (.ofNat 0), .int (.ofNat 2)]
def v421 : PyData := .tuple [.int (.ofNat 0), .int (.ofNat 0), .int (.ofNat 0), .int (.ofNat 1), .int (.ofNat 2)]
def v422 : PyData := .tuple [.int (.ofNat 0), .int (.ofNat 0), .int (.ofNat 0), .int (.ofNat 2), .int (.ofNat 0)]
def v423 : PyData := .tuple [.int (.ofNat 0), .int (.ofNat 0), .int (.ofNat 0), .int (.ofNat 2), .int (.ofNat 1)]
def v424 : PyData := .tuple [.int (.ofNat 0), .int (.ofNat 0), .int (.ofNat 0), .int (.ofNat 2), .int (.ofNat 2)]
def v425 : PyData := .tuple [.int (.ofNat 0), .int (.ofNat 0), .int (.ofNat 1), .int (.ofNat 0), .int (.ofNat 2)]
def v426 : PyData := .tuple [.int (.ofNat 0), .int (.ofNat 0), .int (.ofNat 1), .int (.ofNat 1), .int (.ofNat 2)]
def v427 : PyData := .tuple [.int (.ofNat 0), .int (.ofNat 0), .int (.ofNat 1), .int (.ofNat 2), .int (.ofNat 0)]
def v428 : PyData := .tuple [.int (.ofNat 0), .int (.ofNat 0), .int (.ofNat 1), .int (.ofNat 2), .int (.ofNat 1)]
def v429 : PyData := .tuple [.int (.ofNat 0), .int (.ofNat 0), .int (.ofNat 1), .int (.ofNat 2), .int (.ofNat 2)]
def v430 : PyData := .tuple [.int (.ofNat 0), .int (.ofNat 0), .int (.ofNat 2), .int (.ofNat 0), .int (.ofNat 0)]
def v431 : PyData := .tuple [.int (.ofNat 0), .int (.ofNat 0), .int (.ofNat 2), .int (.ofNat 0), .int (.ofNat 1)]
def v432 : PyData := .tuple [.int (.ofNat 0), .int (.ofNat 0), .int (.ofNat 2), .int (.ofNat 0), .int (.ofNat 2)]
def v433 : PyData := .tuple [.int (.ofNat 0), .int (.ofNat 0), .int (.ofNat 2), .int (.ofNat 1), .int (.ofNat 0)]
def v434 : PyData := .tuple [.int (.ofNat 0), .int (.ofNat 0), .int (.ofNat 2), .int (.ofNat 1), .int (.ofNat 1)]
def v435 : PyData := .tuple [.int (.ofNat 0), .int (.ofNat 0), .int (.ofNat 2), .int (.ofNat 1), .int (.ofNat 2)]
def v436 : PyData := .tuple [.int (.ofNat 0), .int (.ofNat 0), .int (.ofNat 2), .int (.ofNat 2), .int (.ofNat 0)]
def v437 : PyData := .tuple [.int (.ofNat 0), .int (.ofNat 0), .int (.ofNat 2), .int (.ofNat 2), .int (.ofNat 1)]
def v438 : PyData := .tuple [.int (.ofNat 0), .int (.ofNat 0), .int (.ofNat 2), .int (.ofNat 2), .int (.ofNat 2)]
def v439 : PyData := .tuple [.int (.ofNat 0), .int (.ofNat 1), .int (.ofNat 0), .int (.ofNat 0), .int (.ofNat 2)]
def v440 : PyData := .tuple [.int (.ofNat 0), .int (.ofNat 1), .int (.ofNat 0), .int (.ofNat 1), .int (.ofNat 2)]
def v441 : PyData := .tuple [.int (.ofNat 0), .int (.ofNat 1), .int (.ofNat 0), .int (.ofNat 2), .int (.ofNat 0)]
def v442 : PyData := .tuple [.int (.ofNat 0), .int (.ofNat 1), .int (.ofNat 0), .int (.ofNat 2), .int (.ofNat 1)]
def v443 : PyData := .tuple [.int (.ofNat 0), .int (.ofNat 1), .int (.ofNat 0), .int (.ofNat 2), .int (.ofNat 2)]
def v444 : PyData := .tuple [.int (.ofNat 0), .int (.ofNat 1), .int (.ofNat 1), .int (.ofNat 0), .int (.ofNat 2)]
def v445 : PyData := .tuple [.int (.ofNat 0), .int (.ofNat 1), .int (.ofNat 1), .int (.ofNat 1), .int (.ofNat 2)]
def v446 : PyData := .tuple [.int (.ofNat 0), .int (.ofNat 1), .int (.ofNat 1), .int (.ofNat 2), .int (.ofNat 0)]
def v447 : PyData := .tuple [.int (.ofNat 0), .int (.ofNat 1), .int (.ofNat 1), .int (.ofNat 2), .int (.ofNat 1)]
def v448 : PyData := .tuple [.int (.ofNat 0), .int (.ofNat 1), .int (.ofNat 1), .int (.ofNat 2), .int (.ofNat 2)]
def v449 : PyData := .tuple [.int (.ofNat 0), .int (.ofNat 1), .int (.ofNat 2), .int (.ofNat 0), .int (.ofNat 0)]
def v450 : PyData := .tuple [.int (.ofNat 0), .int (.ofNat 1), .int (.ofNat 2), .int (.ofNat 0), .int (.ofNat 1)]
def v451 : PyData := .tuple [.int (.ofNat 0), .int (.ofNat 1), .int (.ofNat 2), .int (.ofNat 0), .int (.ofNat 2)]
def v452 : PyData := .tuple [.int (.ofNat 0), .int (.ofNat 1), .int (.ofNat 2), .int (.ofNat 1), .int (.ofNat 0)]
def v453 : PyData := .tuple [.int (.ofNat 0), .int (.ofNat 1), .int (.ofNat 2), .int (.ofNat 1), .int (.ofNat 1)]
def v454 : PyData := .tuple [.int (.ofNat 0), .int (.ofNat 1), .int (.ofNat 2), .int (.ofNat 1), .int (.ofNat 2)]
def v455 : PyData := .tuple [.int (.ofNat 0), .int (.ofNat 1), .int (.ofNat 2), .int (.ofNat 2), .int (.ofNat 0)]
def v456 : PyData := .tuple [.int (.ofNat 0), .int (.ofNat 1), .int (.ofNat 2), .int (.ofNat 2), .int (.ofNat 1)]
def v457 : PyData := .tuple [.int (.ofNat 0), .int (.ofNat 1), .int (.ofNat 2), .int (.ofNat 2), .int (.ofNat 2)]
def v458 : PyData := .tuple [.int (.ofNat 0), .int (.ofNat 2), .int (.ofNat 0), .int (.ofNat 0), .int (.ofNat 0)]
def v459 : PyData := .tuple [.int (.ofNat 0), .int (.ofNat 2), .int (.ofNat 0), .int (.ofNat 0), .int (.ofNat 1)]
def v460 : PyData := .tuple [.int (.ofNat 0), .int (.ofNat 2), .int (.ofNat 0), .int (.ofNat 0), .int (.ofNat 2)]
def v461 : PyData := .tuple [.int (.ofNat 0), .int (.ofNat 2), .int (.ofNat 0), .int (.ofNat 1), .int (.ofNat 0)]
def v462 : PyData := .tuple [.int (.ofNat 0), .int (.ofNat 2), .int (.ofNat 0), .int (.ofNat 1), .int (.ofNat 1)]
def v463 : PyData := .tuple [.int (.ofNat 0), .int (.ofNat 2), .int (.ofNat 0), .int (.ofNat 1), .int (.ofNat 2)]
def v464 : PyData := .tuple [.int (.ofNat 0), .int (.ofNat 2), .int (.ofNat 0), .int (.ofNat 2), .int (.ofNat 0)]
def v465 : PyData := .tuple [.int (.ofNat 0), .int (.ofNat 2), .int (.ofNat 0), .int (.ofNat 2), .int (.ofNat 1)]
def v466 : PyData := .tuple [.int (.ofNat 0), .int (.ofNat 2), .int (.ofNat 0), .int (.ofNat 2), .int (.ofNat 2)]
def v467 : PyData := .tuple [.int (.ofNat 0), .int (.ofNat 2), .int (.ofNat 1), .int (.ofNat 0), .int (.ofNat 0)]
def v468 : PyData := .tuple [.int (.ofNat 0), .int (.ofNat 2), .int (.ofNat 1), .int (.ofNat 0), .int (.ofNat 1)]
def v469 : PyData := .tuple [.int (.ofNat 0), .int (.ofNat 2), .int (.ofNat 1), .int (.ofNat 0), .int (.ofNat 2)]
def v470 : PyData := .tuple [.int (.ofNat 0), .int (.ofNat 2), .int (.ofNat 1), .int (.ofNat 1), .int (.ofNat 0)]
def v471 : PyData := .tuple [.int (.ofNat 0), .int (.ofNat 2), .int (.ofNat 1), .int (.ofNat 1), .int (.ofNat 1)]
def v472 : PyData := .tuple [.int (.ofNat 0), .int (.ofNat 2), .int (.ofNat 1), .int (.ofNat 1), .int (.ofNat 2)]
def v473 : PyData := .tuple [.int (.ofNat 0), .int (.ofNat 2), .int (.ofNat 1), .int (.ofNat 2), .int (.ofNat 0)]
def v474 : PyData := .tuple [.int (.ofNat 0), .int (.ofNat 2), .int (.ofNat 1), .int (.ofNat 2), .int (.ofNat 1)]
def v475 : PyData := .tuple [.int (.ofNat 0), .int (.ofNat 2), .int (.ofNat 1), .int (.ofNat 2), .int (.ofNat 2)]
def v476 : PyData := .tuple [.int (.ofNat 0), .int (.ofNat 2), .int (.ofNat 2), .int (.ofNat 0), .int (.ofNat 0)]
def v477 : PyData := .tuple [.int (.ofNat 0), .int (.ofNat 2), .int (.ofNat 2), .int (.ofNat 0), .int (.ofNat 1)]
def v478 : PyData := .tuple [.int (.ofNat 0), .int (.ofNat 2), .int (.ofNat 2), .int (.ofNat 0), .int (.ofNat 2)]
def v479 : PyData := .tuple [.int (.ofNat 0), .int (.ofNat 2), .int (.ofNat 2), .int (.ofNat 1), .int (.ofNat 0)]
def v480 : PyData := .tuple [.int (.ofNat 0), .int (.ofNat 2), .int (.ofNat 2), .int (.ofNat 1), .int (.ofNat 1)]
def v481 : PyData := .tuple [.int (.ofNat 0), .int (.ofNat 2), .int (.ofNat 2), .int (.ofNat 1), .int (.ofNat 2)]
def v482 : PyData := .tuple [.int (.ofNat 0), .int (.ofNat 2), .int (.ofNat 2), .int (.ofNat 2), .int (.ofNat 0)]
def v483 : PyData := .tuple [.int (.ofNat 0), .int (.ofNat 2), .int (.ofNat 2), .int (.ofNat 2), .int (.ofNat 1)]
def v484 : PyData := .tuple [.int (.ofNat 0), .int (.ofNat 2), .int (.ofNat 2), .int (.ofNat 2), .int (.ofNat 2)]
def v485 : PyData := .tuple [.int (.ofNat 1), .int (.ofNat 0), .int (.ofNat 0), .int (.ofNat 0), .int (.ofNat 2)]
def v486 : PyData := .tuple [.int (.ofNat 1), .int (.ofNat 0), .int (.ofNat 0), .int (.ofNat 1), .int (.ofNat 2)]
def v487 : PyData := .tuple [.int (.ofNat 1), .int (.ofNat 0), .int (.ofNat 0), .int (.ofNat 2), .int (.ofNat 0)]
def v488 : PyData := .tuple [.int (.ofNat 1), .int (.ofNat 0), .int (.ofNat 0), .int (.ofNat 2), .int (.ofNat 1)]
def v489 : PyData := .tuple [.int (.ofNat 1), .int (.ofNat 0), .int (.ofNat 0), .int (.ofNat 2), .int (.ofNat 2)]
def v490 : PyData := .tuple [.int (.ofNat 1), .int (.ofNat 0), .int (.ofNat 1), .int (.ofNat 0), .int (.ofNat 2)]
def v491 : PyData := .tuple [.int (.ofNat 1), .int (.ofNat 0), .int (.ofNat 1), .int (.ofNat 1), .int (.ofNat 2)]
def v492 : PyData := .tuple [.int (.ofNat 1), .int (.ofNat 0), .int (.ofNat 1), .int (.ofNat 2), .int (.ofNat 0)]
def v493 : PyData := .tuple [.int (.ofNat 1), .int (.ofNat 0), .int (.ofNat 1), .int (.ofNat 2), .int (.ofNat 1)]
def v494 : PyData := .tuple [.int (.ofNat 1), .int (.ofNat 0), .int (.ofNat 1), .int (.ofNat 2), .int (.ofNat 2)]
def v495 : PyData := .tuple [.int (.ofNat 1), .int (.ofNat 0), .int (.ofNat 2), .int (.ofNat 0), .int (.ofNat 0)]
def v496 : PyData := .tuple [.int (.ofNat 1), .int (.ofNat 0), .int (.ofNat 2), .int (.ofNat 0), .int (.ofNat 1)]
def v497 : PyData := .tuple [.int (.ofNat 1), .int (.ofNat 0), .int (.ofNat 2), .int (.ofNat 0), .int (.ofNat 2)]
def v498 : PyData := .tuple [.int (.ofNat 1), .int (.ofNat 0), .int (.ofNat 2), .int (.ofNat 1), .int (.ofNat 0)]
def v499 : PyData := .tuple [.int (.ofNat 1), .int (.ofNat 0), .int (.ofNat 2), .int (.ofNat 1), .int (.ofNat 1)]
def v500 : PyData := .tuple [.int (.ofNat 1), .int (.ofNat 0), .int (.ofNat 2), .int (.ofNat 1), .int (.ofNat 2)]
def v501 : PyData := .tuple [.int (.ofNat 1), .int (.ofNat 0), .int (.ofNat 2), .int (.ofNat 2), .int (.ofNat 0)]
def v502 : PyData := .tuple [.int (.ofNat 1), .int (.ofNat 0), .int (.ofNat 2), .int (.ofNat 2), .int (.ofNat 1)]
def v503 : PyData := .tuple [.int (.ofNat 1), .int (.ofNat 0), .int (.ofNat 2), .int (.ofNat 2), .int (.ofNat 2)]
def v504 : PyData := .tuple [.int (.ofNat 1), .int (.ofNat 1), .int (.ofNat 0), .int (.ofNat 0), .int (.ofNat 2)]
def v505 : PyData := .tuple [.int (.ofNat 1), .int (.ofNat 1), .int (.ofNat 0), .int (.ofNat 1), .int (.ofNat 2)]
def v506 : PyData := .tuple [.int (.ofNat 1), .int (.ofNat 1), .int (.ofNat 0), .int (.ofNat 2), .int (.ofNat 0)]
def v507 : PyData := .tuple [.int (.ofNat 1), .int (.ofNat 1), .int (.ofNat 0), .int (.ofNat 2), .int (.ofNat 1)]
def v508 : PyData := .tuple [.int (.ofNat 1), .int (.ofNat 1), .int (.ofNat 0), .int (.ofNat 2), .int (.ofNat 2)]
def v509 : PyData := .tuple [.int (.ofNat 1), .int (.ofNat 1), .int (.ofNat 1), .int (.ofNat 0), .int (.ofNat 2)]
def v510 : PyData := .tuple [.int (.ofNat 1), .int (.ofNat 1), .int (.ofNat 1), .int (.ofNat 1), .int (.ofNat 2)]
def v511 : PyData := .tuple [.int (.ofNat 1), .int (.ofNat 1), .int (.ofNat 1), .int (.ofNat 2), .int (.ofNat 0)]
def v512 : PyData := .tuple [.int (.ofNat 1), .int (.ofNat 1), .int (.ofNat 1), .int (.ofNat 2), .int (.ofNat 1)]
def v513 : PyData := .tuple [.int (.ofNat 1), .int (.ofNat 1), .int (.ofNat 1), .int (.ofNat 2), .int (.ofNat 2)]
def v514 : PyData := .tuple [.int (.ofNat 1), .int (.ofNat 1), .int (.ofNat 2), .int (.ofNat 0), .int (.ofNat 0)]
def v515 : PyData := .tuple [.int (.ofNat 1), .int (.ofNat 1), .int (.ofNat 2), .int (.ofNat 0), .int (.ofNat 1)]
def v516 : PyData := .tuple [.int (.ofNat 1), .int (.ofNat 1), .int (.ofNat 2), .int (.ofNat 0), .int (.ofNat 2)]
def v517 : PyData := .tuple [.int (.ofNat 1), .int (.ofNat 1), .int (.ofNat 2), .int (.ofNat 1), .int (.ofNat 0)]
def v518 : PyData := .tuple [.int (.ofNat 1), .int (.ofNat 1), .int (.ofNat 2), .int (.ofNat 1), .int (.ofNat 1)]
def v519 : PyData := .tuple [.int (.ofNat 1), .int (.ofNat 1), .int (.ofNat 2), .int (.ofNat 1), .int (.ofNat 2)]
def v520 : PyData := .tuple [.int (.ofNat 1), .int (.ofNat 1), .int (.ofNat 2), .int (.ofNat 2), .int (.ofNat 0)]
def v521 : PyData := .tuple [.int (.ofNat 1), .int (.ofNat 1), .int (.ofNat 2), .int (.ofNat 2), .int (.ofNat 1)]
def v522 : PyData := .tuple [.int (.ofNat 1), .int (.ofNat 1), .int (.ofNat 2), .int (.ofNat 2), .int (.ofNat 2)]
def v523 : PyData := .tuple [.int (.ofNat 1), .int (.ofNat 2), .int (.ofNat 0), .int (.ofNat 0), .int (.ofNat 0)]
def v524 : PyData := .tuple [.int (.ofNat 1), .int (.ofNat 2), .int (.ofNat 0), .int (.ofNat 0), .int (.ofNat 1)]
def v525 : PyData := .tuple [.int (.ofNat 1), .int (.ofNat 2), .int (.ofNat 0), .int (.ofNat 0), .int (.ofNat 2)]
def v526 : PyData := .tuple [.int (.ofNat 1), .int (.ofNat 2), .int (.ofNat 0), .int (.ofNat 1), .int (.ofNat 0)]
def v527 : PyData := .tuple [.int (.ofNat 1), .int (.ofNat 2), .int (.ofNat 0), .int (.ofNat 1), .int (.ofNat 1)]
def v528 : PyData := .tuple [.int (.ofNat 1), .int (.ofNat 2), .int (.ofNat 0), .int (.ofNat 1), .int (.ofNat 2)]
def v529 : PyData := .tuple [.int (.ofNat 1), .int (.ofNat 2), .int (.ofNat 0), .int (.ofNat 2), .int (.ofNat 0)]
def v530 : PyData := .tuple [.int (.ofNat 1), .int (.ofNat 2), .int (.ofNat 0), .int (.ofNat 2), .int (.ofNat 1)]
def v531 : PyData := .tuple [.int (.ofNat 1), .int (.ofNat 2), .int (.ofNat 0), .int (.ofNat 2), .int (.ofNat 2)]
def v532 : PyData := .tuple [.int (.ofNat 1), .int (.ofNat 2), .int (.ofNat 1), .int (.ofNat 0), .int (.ofNat 0)]
def v533 : PyData := .tuple [.int (.ofNat 1), .int (.ofNat 2), .int (.ofNat 1), .int (.ofNat 0), .int (.ofNat 1)]
def v534 : PyData := .tuple [.int (.ofNat 1), .int (.ofNat 2), .int (.ofNat 1), .int (.ofNat 0), .int (.ofNat 2)]
def v535 : PyData := .tuple [.int (.ofNat 1), .int (.ofNat 2), .int (.ofNat 1), .int (.ofNat 1), .int (.ofNat 0)]
def v536 : PyData := .tuple [.int (.ofNat 1), .int (.ofNat 2), .int (.ofNat 1), .int (.ofNat 1), .int (.ofNat 1)]
def v537 : PyData := .tuple [.int (.ofNat 1), .int (.ofNat 2), .int (.ofNat 1), .int (.ofNat 1), .int (.ofNat 2)]
def v538 : PyData := .tuple [.int (.ofNat 1), .int (.ofNat 2), .int (.ofNat 1), .int (.ofNat 2), .int (.ofNat 0)]
def v539 : PyData := .tuple [.int (.ofNat 1), .int (.ofNat 2), .int (.ofNat 1), .int (.ofNat 2), .int (.ofNat 1)]
def v540 : PyData := .tuple [.int (.ofNat 1), .int (.ofNat 2), .int (.ofNat 1), .int (.ofNat 2), .int (.ofNat 2)]
def v541 : PyData := .tuple [.int (.ofNat 1), .int (.ofNat 2), .int (.ofNat 2), .int (.ofNat 0), .int (.ofNat 0)]
def v542 : PyData := .tuple [.int (.ofNat 1), .int (.ofNat 2), .int (.ofNat 2), .int (.ofNat 0), .int (.ofNat 1)]
def v543 : PyData := .tuple [.int (.ofNat 1), .int (.ofNat 2), .int (.ofNat 2), .int (.ofNat 0), .int (.ofNat 2)]
def v544 : PyData := .tuple [.int (.ofNat 1), .int (.ofNat 2), .int (.ofNat 2), .int (.ofNat 1), .int (.ofNat 0)]
def v545 : PyData := .tuple [.int (.ofNat 1), .int (.ofNat 2), .int (.ofNat 2), .int (.ofNat 1), .int (.ofNat 1)]
def v546 : PyData := .tuple [.int (.ofNat 1), .int (.ofNat 2), .int (.ofNat 2), .int (.ofNat 1), .int (.ofNat 2)]
def v547 : PyData := .tuple [.int (.ofNat 1), .int (.ofNat 2), .int (.ofNat 2), .int (.ofNat 2), .int (.ofNat 0)]
def v548 : PyData := .tuple [.int (.ofNat 1), .int (.ofNat 2), .int (.ofNat 2), .int (.ofNat 2), .int (.ofNat 1)]
def v549 : PyData := .tuple [.int (.ofNat 1), .int (.ofNat 2), .int (.ofNat 2), .int (.ofNat 2), .int (.ofNat 2)]
def v550 : PyData := .tuple [.int (.ofNat 2), .int (.ofNat 0), .int (.ofNat 0), .int (.ofNat 0), .int (.ofNat 0)]
def v551 : PyData := .tuple [.int (.ofNat 2), .int (.ofNat 0), .int (.ofNat 0), .int (.ofNat 0), .int (.ofNat 1)]
def v552 : PyData := .tuple [.int (.ofNat 2), .int (.ofNat 0), .int (.ofNat 0), .int (.ofNat 0), .int (.ofNat 2)]
def v553 : PyData := .tuple [.int (.ofNat 2), .int (.ofNat 0), .int (.ofNat 0), .int (.ofNat 1), .int (.ofNat 0)]
def v554 : PyData := .tuple [.int (.ofNat 2), .int (.ofNat 0), .int (.ofNat 0), .int (.ofNat 1), .int (.ofNat 1)]
def v555 : PyData := .tuple [.int (.ofNat 2), .int (.ofNat 0), .int (.ofNat 0), .int (.ofNat 1), .int (.ofNat 2)]
def v556 : PyData := .tuple [.int (.ofNat 2), .int (.ofNat 0), .int (.ofNat 0), .int (.ofNat 2), .int (.ofNat 0)]
def v557 : PyData := .tuple [.int (.ofNat 2), .int (.ofNat 0), .int (.ofNat 0), .int (.ofNat 2), .int (.ofNat 1)]
def v558 : PyData := .tuple [.int (.ofNat 2), .int (.ofNat 0), .int (.ofNat 0), .int (.ofNat 2), .int (.ofNat 2)]
def v559 : PyData := .tuple [.int (.ofNat 2), .int (.ofNat 0), .int (.ofNat 1), .int (.ofNat 0), .int (.ofNat 0)]
def v560 : PyData := .tuple [.int (.ofNat 2), .int (.ofNat 0), .int (.ofNat 1), .int (.ofNat 0), .int (.ofNat 1)]
def v561 : PyData := .tuple [.int (.ofNat 2), .int (.ofNat 0), .int (.ofNat 1), .int (.ofNat 0), .int (.ofNat 2)]
def v562 : PyData := .tuple [.int (.ofNat 2), .int (.ofNat 0), .int (.ofNat 1), .int (.ofNat 1), .int (.ofNat 0)]
def v563 : PyData := .tuple [.int (.ofNat 2), .int (.ofNat 0), .int (.ofNat 1), .int (.ofNat 1), .int (.ofNat 1)]
def v564 : PyData := .tuple [.int (.ofNat 2), .int (.ofNat 0), .int (.ofNat 1), .int (.ofNat 1), .int (.ofNat 2)]
def v565 : PyData := .tuple [.int (.ofNat 2), .int (.ofNat 0), .int (.ofNat 1), .int (.ofNat 2), .int (.ofNat 0)]
def v566 : PyData := .tuple [.int (.ofNat 2), .int (.ofNat 0), .int (.ofNat 1), .int (.ofNat 2), .int (.ofNat 1)]
def v567 : PyData := .tuple [.int (.ofNat 2), .int (.ofNat 0), .int (.ofNat 1), .int (.ofNat 2), .int (.ofNat 2)]
def v568 : PyData := .tuple [.int (.ofNat 2), .int (.ofNat 0), .int (.ofNat 2), .int (.ofNat 0), .int (.ofNat 0)]
def v569 : PyData := .tuple [.int (.ofNat 2), .int (.ofNat 0), .int (.ofNat 2), .int (.ofNat 0), .int (.ofNat 1)]
def v570 : PyData := .tuple [.int (.ofNat 2), .int (.ofNat 0), .int (.ofNat 2), .int (.ofNat 0), .int (.ofNat 2)]
def v571 : PyData := .tuple [.int (.ofNat 2), .int (.ofNat 0), .int (.ofNat 2), .int (.ofNat 1), .int (.ofNat 0)]
def v572 : PyData := .tuple [.int (.ofNat 2), .int (.ofNat 0), .int (.ofNat 2), .int (.ofNat 1), .int (.ofNat 1)]
def v573 : PyData := .tuple [.int (.ofNat 2), .int (.ofNat 0), .int (.ofNat 2), .int (.ofNat 1), .int (.ofNat 2)]
def v574 : PyData := .tuple [.int (.ofNat 2), .int (.ofNat 0), .int (.ofNat 2), .int (.ofNat 2), .int (.ofNat 0)]
def v575 : PyData := .tuple [.int (.ofNat 2), .int (.ofNat 0), .int (.ofNat 2), .int (.ofNat 2), .int (.ofNat 1)]
def v576 : PyData := .tuple [.int (.ofNat 2), .int (.ofNat 0), .int (.ofNat 2), .int (.ofNat 2), .int (.ofNat 2)]
def v577 : PyData := .tuple [.int (.ofNat 2), .int (.ofNat 1), .int (.ofNat 0), .int (.ofNat 0), .int (.ofNat 0)]
def v578 : PyData := .tuple [.int (.ofNat 2), .int (.ofNat 1), .int (.ofNat 0), .int (.ofNat 0), .int (.ofNat 1)]
def v579 : PyData := .tuple [.int (.ofNat 2), .int (.ofNat 1), .int (.ofNat 0), .int (.ofNat 0), .int (.ofNat 2)]
def v580 : PyData := .tuple [.int (.ofNat 2), .int (.ofNat 1), .int (.ofNat 0), .int (.ofNat 1), .int (.ofNat 0)]
def v581 : PyData := .tuple [.int (.ofNat 2), .int (.ofNat 1), .int (.ofNat 0), .int (.ofNat 1), .int (.ofNat 1)]
def v582 : PyData := .tuple [.int (.ofNat 2), .int (.ofNat 1), .int (.ofNat 0), .int (.ofNat 1), .int (.ofNat 2)]
def v583 : PyData := .tuple [.int (.ofNat 2), .int (.ofNat 1), .int (.ofNat 0), .int (.ofNat 2), .int (.ofNat 0)]
def v584 : PyData := .tuple [.int (.ofNat 2), .int (.ofNat 1), .int (.ofNat 0), .int (.ofNat 2), .int (.ofNat 1)]
def v585 : PyData := .tuple [.int (.ofNat 2), .int (.ofNat 1), .int (.ofNat 0), .int (.ofNat 2), .int (.ofNat 2)]
def v586 : PyData := .tuple [.int (.ofNat 2), .int (.ofNat 1), .int (.ofNat 1), .int (.ofNat 0), .int (.ofNat 0)]
def v587 : PyData := .tuple [.int (.ofNat 2), .int (.ofNat 1), .int (.ofNat 1), .int (.ofNat 0), .int (.ofNat 1)]
def v588 : PyData := .tuple [.int (.ofNat 2), .int (.ofNat 1), .int (.ofNat 1), .int (.ofNat 0), .int (.ofNat 2)]
def v589 : PyData := .tuple [.int (.ofNat 2), .int (.ofNat 1), .int (.ofNat 1), .int (.ofNat 1), .int (.ofNat 0)]
def v590 : PyData := .tuple [.int (.ofNat 2), .int (.ofNat 1), .int (.ofNat 1), .int (.ofNat 1), .int (.ofNat 1)]
def v591 : PyData := .tuple [.int (.ofNat 2), .int (.ofNat 1), .int (.ofNat 1), .int (.ofNat 1), .int (.ofNat 2)]
def v592 : PyData := .tuple [.int (.ofNat 2), .int (.ofNat 1), .int (.ofNat 1), .int (.ofNat 2), .int (.ofNat 0)]
def v593 : PyData := .tuple [.int (.ofNat 2), .int (.ofNat 1), .int (.ofNat 1), .int (.ofNat 2), .int (.ofNat 1)]
def v594 : PyData := .tuple [.int (.ofNat 2), .int (.ofNat 1), .int (.ofNat 1), .int (.ofNat 2), .int (.ofNat 2)]
def v595 : PyData := .tuple [.int (.ofNat 2), .int (.ofNat 1), .int (.ofNat 2), .int (.ofNat 0), .int (.ofNat 0)]
def v596 : PyData := .tuple [.int (.ofNat 2), .int (.ofNat 1), .int (.ofNat 2), .int (.ofNat 0), .int (.ofNat 1)]
def v597 : PyData := .tuple [.int (.ofNat 2), .int (.ofNat 1), .int (.ofNat 2), .int (.ofNat 0), .int (.ofNat 2)]
def v598 : PyData := .tuple [.int (.ofNat 2), .int (.ofNat 1), .int (.ofNat 2), .int (.ofNat 1), .int (.ofNat 0)]
def v599 : PyData := .tuple [.int (.ofNat 2), .int (.ofNat 1), .int (.ofNat 2), .int (.ofNat 1), .int (.ofNat 1)]
def v600 : PyData := .tuple [.int (.ofNat 2), .int (.ofNat 1), .int (.ofNat 2), .int (.ofNat 1), .int (.ofNat 2)]
def v601 : PyData := .tuple [.int (.ofNat 2), .int (.ofNat 1), .int (.ofNat 2), .int (.ofNat 2), .int (.ofNat 0)]
def v602 : PyData := .tuple [.int (.ofNat 2), .int (.ofNat 1), .int (.ofNat 2), .int (.ofNat 2), .int (.ofNat 1)]
def v603 : PyData := .tuple [.int (.ofNat 2), .int (.ofNat 1), .int (.ofNat 2), .int (.ofNat 2), .int (.ofNat 2)]
def v604 : PyData := .tuple [.int (.ofNat 2), .int (.ofNat 2), .int (.ofNat 0), .int (.ofNat 0), .int (.ofNat 0)]
def v605 : PyData := .tuple [.int (.ofNat 2), .int (.ofNat 2), .int (.ofNat 0), .int (.ofNat 0), .int (.ofNat 1)]
def v606 : PyData := .tuple [.int (.ofNat 2), .int (.ofNat 2), .int (.ofNat 0), .int (.ofNat 0), .int (.ofNat 2)]
def v607 : PyData := .tuple [.int (.ofNat 2), .int (.ofNat 2), .int (.ofNat 0), .int (.ofNat 1), .int (.ofNat 0)]
def v608 : PyData := .tuple [.int (.ofNat 2), .int (.ofNat 2), .int (.ofNat 0), .int (.ofNat 1), .int (.ofNat 1)]
def v609 : PyData := .tuple [.int (.ofNat 2), .int (.ofNat 2), .int (.ofNat 0), .int (.ofNat 1), .int (.ofNat 2)]
def v610 : PyData := .tuple [.int (.ofNat 2), .int (.ofNat 2), .int (.ofNat 0), .int (.ofNat 2), .int (.ofNat 0)]
def v611 : PyData := .tuple [.int (.ofNat 2), .int (.ofNat 2), .int (.ofNat 0), .int (.ofNat 2), .int (.ofNat 1)]
def v612 : PyData := .tuple [.int (.ofNat 2), .int (.ofNat 2), .int (.ofNat 0), .int (.ofNat 2), .int (.ofNat 2)]
def v613 : PyData := .tuple [.int (.ofNat 2), .int (.ofNat 2), .int (.ofNat 1), .int (.ofNat 0), .int (.ofNat 0)]
def v614 : PyData := .tuple [.int (.ofNat 2), .int (.ofNat 2), .int (.ofNat 1), .int (.ofNat 0), .int (.ofNat 1)]
def v615 : PyData := .tuple [.int (.ofNat 2), .int (.ofNat 2), .int (.ofNat 1), .int (.ofNat 0), .int (.ofNat 2)]
def v616 : PyData := .tuple [.int (.ofNat 2), .int (.ofNat 2), .int (.ofNat 1), .int (.ofNat 1), .int (.ofNat 0)]
def v617 : PyData := .tuple [.int (.ofNat 2), .int (.ofNat 2), .int (.ofNat 1), .int (.ofNat 1), .int (.ofNat 1)]
def v618 : PyData := .tuple [.int (.ofNat 2), .int (.ofNat 2), .int (.ofNat 1), .int (.ofNat 1), .int (.ofNat 2)]
def v619 : PyData := .tuple [.int (.ofNat 2), .int (.ofNat 2), .int (.ofNat 1), .int (.ofNat 2), .int (.ofNat 0)]
def v620 : PyData := .tuple [.int (.ofNat 2), .int (.ofNat 2), .int (.ofNat 1), .int (.ofNat 2), .int (.ofNat 1)]
def v621 : PyData := .tuple [.int (.ofNat 2), .int (.ofNat 2), .int (.ofNat 1), .int (.ofNat 2), .int (.ofNat 2)]
def v622 : PyData := .tuple [.int (.ofNat 2), .int (.ofNat 2), .int (.ofNat 2), .int (.ofNat 0), .int (.ofNat 0)]
def v623 : PyData := .tuple [.int (.ofNat 2), .int (.ofNat 2), .int (.ofNat 2), .int (.ofNat 0), .int (.ofNat 1)]
def v624 : PyData := .tuple [.int (.ofNat 2), .int (.ofNat 2), .int (.ofNat 2), .int (.ofNat 0), .int (.ofNat 2)]
def v625 : PyData := .tuple [.int (.ofNat 2), .int (.ofNat 2), .int (.ofNat 2), .int (.ofNat 1), .int (.ofNat 0)]
def v626 : PyData := .tuple [.int (.ofNat 2), .int (.ofNat 2), .int (.ofNat 2), .int (.ofNat 1), .int (.ofNat 1)]
def v627 : PyData := .tuple [.int (.ofNat 2), .int (.ofNat 2), .int (.ofNat 2), .int (.ofNat 1), .int (.ofNat 2)]
def v628 : PyData := .tuple [.int (.ofNat 2), .int (.ofNat 2), .int (.ofNat 2), .int (.ofNat 2), .int (.ofNat 0)]
def v629 : PyData := .tuple [.int (.ofNat 2), .int (.ofNat 2), .int (.ofNat 2), .int (.ofNat 2), .int (.ofNat 1)]
def v630 : PyData := .tuple [.int (.ofNat 2), .int (.ofNat 2), .int (.ofNat 2), .int (.ofNat 2), .int (.ofNat 2)]
def w733 : List PyData := [v388, v389, v420, v390, v391, v421, v422, v423, v424, v392, v393, v425, v394, v395, v426, v427, v428, v429, v430, v431, v432, v433, v434, v435]
def w734 : List PyData := [v436, v437, v438, v396, v397, v439, v398, v399, v440, v441, v442, v443, v400, v401, v444, v402, v403, v445, v446, v447, v448, v449, v450, v451]
def w735 : List PyData := [v452, v453, v454, v455, v456, v457, v458, v459, v460, v461, v462, v463, v464, v465, v466, v467, v468, v469, v470, v471, v472, v473, v474, v475]
def w736 : List PyData := [v476, v477, v478, v479, v480, v481, v482, v483, v484, v404, v405, v485, v406, v407, v486, v487, v488, v489, v408, v409, v490, v410, v411, v491]
def w737 : List PyData := [v492, v493, v494, v495, v496, v497, v498, v499, v500, v501, v502, v503, v412, v413, v504, v414, v415, v505, v506, v507, v508, v416, v417, v509]
def w738 : List PyData := [v418, v419, v510, v511, v512, v513, v514, v515, v516, v517, v518, v519, v520, v521, v522, v523, v524, v525, v526, v527, v528, v529, v530, v531]
def w739 : List PyData := [v532, v533, v534, v535, v536, v537, v538, v539, v540, v541, v542, v543, v544, v545, v546, v547, v548, v549, v550, v551, v552, v553, v554, v555]
def w740 : List PyData := [v556, v557, v558, v559, v560, v561, v562, v563, v564, v565, v566, v567, v568, v569, v570, v571, v572, v573, v574, v575, v576, v577, v578, v579]
def w741 : List PyData := [v580, v581, v582, v583, v584, v585, v586, v587, v588, v589, v590, v591, v592, v593, v594, v595, v596, v597, v598, v599, v600, v601, v602, v603]
def w742 : List PyData := [v604, v605, v606, v607, v608, v609, v610, v611, v612, v613, v614, v615, v616, v617, v618, v619, v620, v621, v622, v623, v624, v625, v626, v627]
def w743 : List PyData := [v628, v629, v630]
def v631 : PyData := .list (w733 ++ w734 ++ w735 ++ w736 ++ w737 ++ w738 ++ w739 ++ w740 ++ w741 ++ w742 ++ w743)
def w745 : List PyData := [v27, v28, v29, v30, v31, v32, v33, v34, v35, v36, v37, v38, v39, v40, v41, v42, v43, v44, v45, v46, v47, v48, v49, v50]
def w746 : List PyData := [v51, v52, v53, v54, v55, v56, v57, v58, v59, v60, v61, v62, v63, v64, v65, v66, v67, v68, v69, v70, v71, v72, v73, v74]
def w747 : List PyData := [v75, v76, v77, v78, v79, v80, v81, v82, v83, v84, v85, v86, v87, v88, v89, v90, v91, v92, v93, v94, v95, v96, v97, v98]
def w748 : List PyData := [v99, v100, v101, v102, v103, v104, v105, v106, v107, v108, v109, v110, v111, v112, v113, v114, v115, v116, v117, v118, v119, v120, v121, v122]
def w749 : List PyData := [v123, v124, v125, v126, v127, v128, v129, v130, v131, v132, v133, v134, v135, v136, v137, v138, v139, v140, v141, v142, v143, v144, v145, v146]
def v632 : PyData := .tuple [.int (.ofNat 0), .int (.ofNat 0), .int (.ofNat 0), .int (.ofNat 0), .int (.ofNat 3)]
def v633 : PyData := .tuple [.int (.ofNat 0), .int (.ofNat 0), .int (.ofNat 0), .int (.ofNat 1), .int (.ofNat 3)]
def v634 : PyData := .tuple [.int (.ofNat 0), .int (.ofNat 0), .int (.ofNat 0), .int (.ofNat 2), .int (.ofNat 3)]
def v635 : PyData := .tuple [.int (.ofNat 0), .int (.ofNat 0), .int (.ofNat 0), .int (.ofNat 3), .int (.ofNat 0)]
def v636 : PyData := .tuple [.int (.ofNat 0), .int (.ofNat 0), .int (.ofNat 0), .int (.ofNat 3), .int (.ofNat 1)]
def v637 : PyData := .tuple [.int (.ofNat 0), .int (.ofNat 0), .int (.ofNat 0), .int (.ofNat 3), .int (.ofNat 2)]
def v638 : PyData := .tuple [.int (.ofNat 0), .int (.ofNat 0), .int (.ofNat 0), .int (.ofNat 3), .int (.ofNat 3)]
def v639 : PyData := .tuple [.int (.ofNat 0), .int (.ofNat 0), .int (.ofNat 1), .int (.ofNat 0), .int (.ofNat 3)]
def v640 : PyData := .tuple [.int (.ofNat 0), .int (.ofNat 0), .int (.ofNat 1), .int (.ofNat 1), .int (.ofNat 3)]
def v641 : PyData := .tuple [.int (.ofNat 0), .int (.ofNat 0), .int (.ofNat 1), .int (.ofNat 2), .int (.ofNat 3)]
def v642 : PyData := .tuple [.int (.ofNat 0), .int (.ofNat 0), .int (.ofNat 1), .int (.ofNat 3), .int (.ofNat 0)]
def v643 : PyData := .tuple [.int (.ofNat 0), .int (.ofNat 0), .int (.ofNat 1), .int (.ofNat 3), .int (.ofNat 1)]
def v644 : PyData := .tuple [.int (.ofNat 0), .int (.ofNat 0), .int (.ofNat 1), .int (.ofNat 3), .int (.ofNat 2)]
def v645 : PyData := .tuple [.int (.ofNat 0), .int (.ofNat 0), .int (.ofNat 1), .int (.ofNat 3), .int (.ofNat 3)]
def v646 : PyData := .tuple [.int (.ofNat 0), .int (.ofNat 0), .int (.ofNat 2), .int (.ofNat 0), .int (.ofNat 3)]
def v647 : PyData := .tuple [.int (.ofNat 0), .int (.ofNat 0), .int (.ofNat 2), .int (.ofNat 1), .int (.ofNat 3)]
def v648 : PyData := .tuple [.int (.ofNat 0), .int (.ofNat 0), .int (.ofNat 2), .int (.ofNat 2), .int (.ofNat 3)]
def v649 : PyData := .tuple [.int (.ofNat 0), .int (.ofNat 0), .int (.ofNat 2), .int (.ofNat 3), .int (.ofNat 0)]
def v650 : PyData := .tuple [.int (.ofNat 0), .int (.ofNat 0), .int (.ofNat 2), .int (.ofNat 3), .int (.ofNat 1)]
def v651 : PyData := .tuple [.int (.ofNat 0), .int (.ofNat 0), .int (.ofNat 2), .int (.ofNat 3), .int (.ofNat 2)]
def v652 : PyData := .tuple [.int (.ofNat 0), .int (.ofNat 0), .int (.ofNat 2), .int (.ofNat 3), .int (.ofNat 3)]
def v653 : PyData := .tuple [.int (.ofNat 0), .int (.ofNat 0), .int (.ofNat 3), .int (.ofNat 0), .int (.ofNat 0)]
def v654 : PyData := .tuple [.int (.ofNat 0), .int (.ofNat 0), .int (.ofNat 3), .int (.ofNat 0), .int (.ofNat 1)]
def v655 : PyData := .tuple [.int (.ofNat 0), .int (.ofNat 0), .int (.ofNat 3), .int (.ofNat 0), .int (.ofNat 2)]
def v656 : PyData := .tuple [.int (.ofNat 0), .int (.ofNat 0), .int (.ofNat 3), .int (.ofNat 0), .int (.ofNat 3)]
def v657 : PyData := .tuple [.int (.ofNat 0), .int (.ofNat 0), .int (.ofNat 3), .int (.ofNat 1), .int (.ofNat 0)]
def v658 : PyData := .tuple [.int (.ofNat 0), .int (.ofNat 0), .int (.ofNat 3), .int (.ofNat 1), .int (.ofNat 1)]
def v659 : PyData := .tuple [.int (.ofNat 0), .int (.ofNat 0), .int (.ofNat 3), .int (.ofNat 1), .int (.ofNat 2)]
def v660 : PyData := .tuple [.int (.ofNat 0), .int (.ofNat 0), .int (.ofNat 3), .int (.ofNat 1), .int (.ofNat 3)]
def v661 : PyData := .tuple [.int (.ofNat 0), .int (.ofNat 0), .int (.ofNat 3), .int (.ofNat 2), .int (.ofNat 0)]
def v662 : PyData := .tuple [.int (.ofNat 0), .int (.ofNat 0), .int (.ofNat 3), .int (.ofNat 2), .int (.ofNat 1)]
def v663 : PyData := .tuple [.int (.ofNat 0), .int (.ofNat 0), .int (.ofNat 3), .int (.ofNat 2), .int (.ofNat 2)]
def v664 : PyData := .tuple [.int (.ofNat 0), .int (.ofNat 0), .int (.ofNat 3), .int (.ofNat 2), .int (.ofNat 3)]
def v665 : PyData := .tuple [.int (.ofNat 0), .int (.ofNat 0), .int (.ofNat 3), .int (.ofNat 3), .int (.ofNat 0)]
def v666 : PyData := .tuple [.int (.ofNat 0), .int (.ofNat 0), .int (.ofNat 3), .int (.ofNat 3), .int (.ofNat 1)]
def v667 : PyData := .tuple [.int (.ofNat 0), .int (.ofNat 0), .int (.ofNat 3), .int (.ofNat 3), .int (.ofNat 2)]
def v668 : PyData := .tuple [.int (.ofNat 0), .int (.ofNat 0), .int (.ofNat 3), .int (.ofNat 3), .int (.ofNat 3)]
def v669 : PyData := .tuple [.int (.ofNat 0), .int (.ofNat 1), .int (.ofNat 0), .int (.ofNat 0), .int (.ofNat 3)]
def v670 : PyData := .tuple [.int (.ofNat 0), .int (.ofNat 1), .int (.ofNat 0), .int (.ofNat 1), .int (.ofNat 3)]
def v671 : PyData := .tuple [.int (.ofNat 0), .int (.ofNat 1), .int (.ofNat 0), .int (.ofNat 2), .int (.ofNat 3)]
def v672 : PyData := .tuple [.int (.ofNat 0), .int (.ofNat 1), .int (.ofNat 0), .int (.ofNat 3), .int (.ofNat 0)]
def v673 : PyData := .tuple [.int (.ofNat 0), .int (.ofNat 1), .int (.ofNat 0), .int (.ofNat 3), .int (.ofNat 1)]
def v674 : PyData := .tuple [.int (.ofNat 0), .int (.ofNat 1), .int (.ofNat 0), .int (.ofNat 3), .int (.ofNat 2)]
def v675 : PyData := .tuple [.int (.ofNat 0), .int (.ofNat 1), .int (.ofNat 0), .int (.ofNat 3), .int (.ofNat 3)]
def v676 : PyData := .tuple [.int (.ofNat 0), .int (.ofNat 1), .int (.ofNat 1), .int (.ofNat 0), .int (.ofNat 3)]
def v677 : PyData := .tuple [.int (.ofNat 0), .int (.ofNat 1), .int (.ofNat 1), .int (.ofNat 1), .int (.ofNat 3)]
def v678 : PyData := .tuple [.int (.ofNat 0), .int (.ofNat 1), .int (.ofNat 1), .int (.ofNat 2), .int (.ofNat 3)]
def v679 : PyData := .tuple [.int (.ofNat 0), .int (.ofNat 1), .int (.ofNat 1), .int (.ofNat 3), .int (.ofNat 0)]
def v680 : PyData := .tuple [.int (.ofNat 0), .int (.ofNat 1), .int (.ofNat 1), .int (.ofNat 3), .int (.ofNat 1)]
def v681 : PyData := .tuple [.int (.ofNat 0), .int (.ofNat 1), .int (.ofNat 1), .int (.ofNat 3), .int (.ofNat 2)]
def v682 : PyData := .tuple [.int (.ofNat 0), .int (.ofNat 1), .int (.ofNat 1), .int (.ofNat 3), .int (.ofNat 3)]
def v683 : PyData := .tuple [.int (.ofNat 0), .int (.ofNat 1), .int (.ofNat 2), .int (.ofNat 0), .int (.ofNat 3)]
def v684 : PyData := .tuple [.int (.ofNat 0), .int (.ofNat 1), .int (.ofNat 2), .int (.ofNat 1), .int (.ofNat 3)]
def v685 : PyData := .tuple [.int (.ofNat 0), .int (.ofNat 1), .int (.ofNat 2), .int (.ofNat 2), .int (.ofNat 3)]
def v686 : PyData := .tuple [.int (.ofNat 0), .int (.ofNat 1), .int (.ofNat 2), .int (.ofNat 3), .int (.ofNat 0)]
def v687 : PyData := .tuple [.int (.ofNat 0), .int (.ofNat 1), .int (.ofNat 2), .int (.ofNat 3), .int (.ofNat 1)]
def v688 : PyData := .tuple [.int (.ofNat 0), .int (.ofNat 1), .int (.ofNat 2), .int (.ofNat 3), .int (.ofNat 2)]
def v689 : PyData := .tuple [.int (.ofNat 0), .int (.ofNat 1), .int (.ofNat 2), .int (.ofNat 3), .int (.ofNat 3)]
def v690 : PyData := .tuple [.int (.ofNat 0), .int (.ofNat 1), .int (.ofNat 3), .int (.ofNat 0), .int (.ofNat 0)]
def v691 : PyData := .tuple [.int (.ofNat 0), .int (.ofNat 1), .int (.ofNat 3), .int (.ofNat 0), .int (.ofNat 1)]
def v692 : PyData := .tuple [.int (.ofNat 0), .int (.ofNat 1), .int (.ofNat 3), .int (.ofNat 0), .int (.ofNat 2)]
def v693 : PyData := .tuple [.int (.ofNat 0), .int (.ofNat 1), .int (.ofNat 3), .int (.ofNat 0), .int (.ofNat 3)]
def v694 : PyData := .tuple [.int (.ofNat 0), .int (.ofNat 1), .int (.ofNat 3), .int (.ofNat 1), .int (.ofNat 0)]
def v695 : PyData := .tuple [.int (.ofNat 0), .int (.ofNat 1), .int (.ofNat 3), .int (.ofNat 1), .int (.ofNat 1)]
def v696 : PyData := .tuple [.int (.ofNat 0), .int (.ofNat 1), .int (.ofNat 3), .int (.ofNat 1), .int (.ofNat 2)]
def v697 : PyData := .tuple [.int (.ofNat 0), .int (.ofNat 1), .int (.ofNat 3), .int (.ofNat 1), .int (.ofNat 3)]
def v698 : PyData := .tuple [.int (.ofNat 0), .int (.ofNat 1), .int (.ofNat 3), .int (.ofNat 2), .int (.ofNat 0)]
def v699 : PyData := .tuple [.int (.ofNat 0), .int (.ofNat 1), .int (.ofNat 3), .int (.ofNat 2), .int (.ofNat 1)]
def v700 : PyData := .tuple [.int (.ofNat 0), .int (.ofNat 1), .int (.ofNat 3), .int (.ofNat 2), .int (.ofNat 2)]
def v701 : PyData := .tuple [.int (.ofNat 0), .int (.ofNat 1), .int (.ofNat 3), .int (.ofNat 2), .int (.ofNat 3)]
def v702 : PyData := .tuple [.int (.ofNat 0), .int (.ofNat 1), .int (.ofNat 3), .int (.ofNat 3), .int (.ofNat 0)]
def v703 : PyData := .tuple [.int (.ofNat 0), .int (.ofNat 1), .int (.ofNat 3), .int (.ofNat 3), .int (.ofNat 1)]
def v704 : PyData := .tuple [.int (.ofNat 0), .int (.ofNat 1), .int (.ofNat 3), .int (.ofNat 3), .int (.ofNat 2)]
def v705 : PyData := .tuple [.int (.ofNat 0), .int (.ofNat 1), .int (.ofNat 3), .int (.ofNat 3), .int (.ofNat 3)]
def v706 : PyData := .tuple [.int (.ofNat 0), .int (.ofNat 2), .int (.ofNat 0), .int (.ofNat 0), .int (.ofNat 3)]
def v707 : PyData := .tuple [.int (.ofNat 0), .int (.ofNat 2), .int (.ofNat 0), .int (.ofNat 1), .int (.ofNat 3)]
def v708 : PyData := .tuple [.int (.ofNat 0), .int (.ofNat 2), .int (.ofNat 0), .int (.ofNat 2), .int (.ofNat 3)]
def v709 : PyData := .tuple [.int (.ofNat 0), .int (.ofNat 2), .int (.ofNat 0), .int (.ofNat 3), .int (.ofNat 0)]
def v710 : PyData := .tuple [.int (.ofNat 0), .int (.ofNat 2), .int (.ofNat 0), .int (.ofNat 3), .int (.ofNat 1)]
def v711 : PyData := .tuple [.int (.ofNat 0), .int (.ofNat 2), .int (.ofNat 0), .int (.ofNat 3), .int (.ofNat 2)]
def v712 : PyData := .tuple [.int (.ofNat 0), .int (.ofNat 2), .int (.ofNat 0), .int (.ofNat 3), .int (.ofNat 3)]
def v713 : PyData := .tuple [.int (.ofNat 0), .int (.ofNat 2), .int (.ofNat 1), .int (.ofNat 0), .int (.ofNat 3)]
def v714 : PyData := .tuple [.int (.ofNat 0), .int (.ofNat 2), .int (.ofNat 1), .int (.ofNat 1), .int (.ofNat 3)]
def v715 : PyData := .tuple [.int (.ofNat 0), .int (.ofNat 2), .int (.ofNat 1), .int (.ofNat 2), .int (.ofNat 3)]
def v716 : PyData := .tuple [.int (.ofNat 0), .int (.ofNat 2), .int (.ofNat 1), .int (.ofNat 3), .int (.ofNat 0)]
def v717 : PyData := .tuple [.int (.ofNat 0), .int (.ofNat 2), .int (.ofNat 1), .int (.ofNat 3), .int (.ofNat 1)]
def v718 : PyData := .tuple [.int (.ofNat 0), .int (.ofNat 2), .int (.ofNat 1), .int (.ofNat 3), .int (.ofNat 2)]
def v719 : PyData := .tuple [.int (.ofNat 0), .int (.ofNat 2), .int (.ofNat 1), .int (.ofNat 3), .int (.ofNat 3)]
def v720 : PyData := .tuple [.int (.ofNat 0), .int (.ofNat 2), .int (.ofNat 2), .int (.ofNat 0), .int (.ofNat 3)]
def v721 : PyData := .tuple [.int (.ofNat 0), .int (.ofNat 2), .int (.ofNat 2), .int (.ofNat 1), .int (.ofNat 3)]
def v722 : PyData := .tuple [.int (.ofNat 0), .int (.ofNat 2), .int (.ofNat 2), .int (.ofNat 2), .int (.ofNat 3)]
def v723 : PyData := .tuple [.int (.ofNat 0), .int (.ofNat 2), .int (.ofNat 2), .int (.ofNat 3), .int (.ofNat 0)]
def v724 : PyData := .tuple [.int (.ofNat 0), .int (.ofNat 2), .int (.ofNat 2), .int (.ofNat 3), .int (.ofNat 1)]
def v725 : PyData := .tuple [.int (.ofNat 0), .int (.ofNat 2), .int (.ofNat 2), .int (.ofNat 3), .int (.ofNat 2)]
def v726 : PyData := .tuple [.int (.ofNat 0), .int (.ofNat 2), .int (.ofNat 2), .int (.ofNat 3), .int (.ofNat 3)]
def v727 : PyData := .tuple [.int (.ofNat 0), .int (.ofNat 2), .int (.ofNat 3), .int (.ofNat 0), .int (.ofNat 0)]
def v728 : PyData := .tuple [.int (.ofNat 0), .int (.ofNat 2), .int (.ofNat 3), .int (.ofNat 0), .int (.ofNat 1)]
def v729 : PyData := .tuple [.int (.ofNat 0), .int (.ofNat 2), .int (.ofNat 3), .int (.ofNat 0), .int (.ofNat 2)]
def v730 : PyData := .tuple [.int (.ofNat 0), .int (.ofNat 2), .int (.ofNat 3), .int (.ofNat 0), .int (.ofNat 3)]
def v731 : PyData := .tuple [.int (.ofNat 0), .int (.ofNat 2), .int (.ofNat 3), .int (.ofNat 1), .int (.ofNat 0)]
def v732 : PyData := .tuple [.int (.ofNat 0), .int (.ofNat 2), .int (.ofNat 3), .int (.ofNat 1), .int (.ofNat 1)]
def v733 : PyData := .tuple [.int (.ofNat 0), .int (.ofNat 2), .int (.ofNat 3), .int (.ofNat 1), .int (.ofNat 2)]
def v734 : PyData := .tuple [.int (.ofNat 0), .int (.ofNat 2), .int (.ofNat 3), .int (.ofNat 1), .int (.ofNat 3)]
def v735 : PyData := .tuple [.int (.ofNat 0), .int (.ofNat 2), .int (.ofNat 3), .int (.ofNat 2), .int (.ofNat 0)]
def v736 : PyData := .tuple [.int (.ofNat 0), .int (.ofNat 2), .int (.ofNat 3), .int (.ofNat 2), .int (.ofNat 1)]
def v737 : PyData := .tuple [.int (.ofNat 0), .int (.ofNat 2), .int (.ofNat 3), .int (.ofNat 2), .int (.ofNat 2)]
def v738 : PyData := .tuple [.int (.ofNat 0), .int (.ofNat 2), .int (.ofNat 3), .int (.ofNat 2), .int (.ofNat 3)]
def v739 : PyData := .tuple [.int (.ofNat 0), .int (.ofNat 2), .int (.ofNat 3), .int (.ofNat 3), .int (.ofNat 0)]
def v740 : PyData := .tuple [.int (.ofNat 0), .int (.ofNat 2), .int (.ofNat 3), .int (.ofNat 3), .int (.ofNat 1)]
def v741 : PyData := .tuple [.int (.ofNat 0), .int (.ofNat 2), .int (.ofNat 3), .int (.ofNat 3), .int (.ofNat 2)]
def v742 : PyData := .tuple [.int (.ofNat 0), .int (.ofNat 2), .int (.ofNat 3), .int (.ofNat 3), .int (.ofNat 3)]
def v743 : PyData := .tuple [.int (.ofNat 0), .int (.ofNat 3), .int (.ofNat 0), .int (.ofNat 0), .int (.ofNat 0)]
def v744 : PyData := .tuple [.int (.ofNat 0), .int (.ofNat 3), .int (.ofNat 0), .int (.ofNat 0), .int (.ofNat 1)]
def v745 : PyData := .tuple [.int (.ofNat 0), .int (.ofNat 3), .int (.ofNat 0), .int (.ofNat 0), .int (.ofNat 2)]
def v746 : PyData := .tuple [.int (.ofNat 0), .int (.ofNat 3), .int (.ofNat 0), .int (.ofNat 0), .int (.ofNat 3)]
def v747 : PyData := .tuple [.int (.ofNat 0), .int (.ofNat 3), .int (.ofNat 0), .int (.ofNat 1), .int (.ofNat 0)]
def v748 : PyData := .tuple [.int (.ofNat 0), .int (.ofNat 3), .int (.ofNat 0), .int (.ofNat 1), .int (.ofNat 1)]
def v749 : PyData := .tuple [.int (.ofNat 0), .int (.ofNat 3), .int (.ofNat 0), .int (.ofNat 1), .int (.ofNat 2)]
def v750 : PyData := .tuple [.int (.ofNat 0), .int (.ofNat 3), .int (.ofNat 0), .int (.ofNat 1), .int (.ofNat 3)]
def v751 : PyData := .tuple [.int (.ofNat 0), .int (.ofNat 3), .int (.ofNat 0), .int (.ofNat 2), .int (.ofNat 0)]
def v752 : PyData := .tuple [.int (.ofNat 0), .int (.ofNat 3), .int (.ofNat 0), .int (.ofNat 2), .int (.ofNat 1)]
def v753 : PyData := .tuple [.int (.ofNat 0), .int (.ofNat 3), .int (.ofNat 0), .int (.ofNat 2), .int (.ofNat 2)]
def v754 : PyData := .tuple [.int (.ofNat 0), .int (.ofNat 3), .int (.ofNat 0), .int (.ofNat 2), .int (.ofNat 3)]
def v755 : PyData := .tuple [.int (.ofNat 0), .int (.ofNat 3), .int (.ofNat 0), .int (.ofNat 3), .int (.ofNat 0)]
def v756 : PyData := .tuple [.int (.ofNat 0), .int (.ofNat 3), .int (.ofNat 0), .int (.ofNat 3), .int (.ofNat 1)]
def v757 : PyData := .tuple [.int (.ofNat 0), .int (.ofNat 3), .int (.ofNat 0), .int (.ofNat 3), .int (.ofNat 2)]
def v758 : PyData := .tuple [.int (.ofNat 0), .int (.ofNat 3), .int (.ofNat 0), .int (.ofNat 3), .int (.ofNat 3)]
def v759 : PyData := .tuple [.int (.ofNat 0), .int (.ofNat 3), .int (.ofNat 1), .int (.ofNat 0), .int (.ofNat 0)]
def v760 : PyData := .tuple [.int (.ofNat 0), .int (.ofNat 3), .int (.ofNat 1), .int (.ofNat 0), .int (.ofNat 1)]
def v761 : PyData := .tuple [.int (.ofNat 0), .int (.ofNat 3), .int (.ofNat 1), .int (.ofNat 0), .int (.ofNat 2)]
def v762 : PyData := .tuple [.int (.ofNat 0), .int (.ofNat 3), .int (.ofNat 1), .int (.ofNat 0), .int (.ofNat 3)]
def v763 : PyData := .tuple [.int (.ofNat 0), .int (.ofNat 3), .int (.ofNat 1), .int (.ofNat 1), .int (.ofNat 0)]
def v764 : PyData := .tuple [.int (.ofNat 0), .int (.ofNat 3), .int (.ofNat 1), .int (.ofNat 1), .int (.ofNat 1)]
def v765 : PyData := .tuple [.int (.ofNat 0), .int (.ofNat 3), .int (.ofNat 1), .int (.ofNat 1), .int (.ofNat 2)]
def v766 : PyData := .tuple [.int (.ofNat 0), .int (.ofNat 3), .int (.ofNat 1), .int (.ofNat 1), .int (.ofNat 3)]
def v767 : PyData := .tuple [.int (.ofNat 0), .int (.ofNat 3), .int (.ofNat 1), .int (.ofNat 2), .int (.ofNat 0)]
def v768 : PyData := .tuple [.int (.ofNat 0), .int (.ofNat 3), .int (.ofNat 1), .int (.ofNat 2), .int (.ofNat 1)]
def v769 : PyData := .tuple [.int (.ofNat 0), .int (.ofNat 3), .int (.ofNat 1), .int (.ofNat 2), .int (.ofNat 2)]
def v770 : PyData := .tuple [.int (.ofNat 0), .int (.ofNat 3), .int (.ofNat 1), .int (.ofNat 2), .int (.ofNat 3)]
def v771 : PyData := .tuple [.int (.ofNat 0), .int (.ofNat 3), .int (.ofNat 1), .int (.ofNat 3), .int (.ofNat 0)]
def v772 : PyData := .tuple [.int (.ofNat 0), .int (.ofNat 3), .int (.ofNat 1), .int (.ofNat 3), .int (.ofNat 1)]
def v773 : PyData := .tuple [.int (.ofNat 0), .int (.ofNat 3), .int (.ofNat 1), .int (.ofNat 3), .int (.ofNat 2)]
def v774 : PyData := .tuple [.int (.ofNat 0), .int (.ofNat 3), .int (.ofNat 1), .int (.ofNat 3), .int (.ofNat 3)]
def v775 : PyData := .tuple [.int (.ofNat 0), .int (.ofNat 3), .int (.ofNat 2), .int (.ofNat 0), .int (.ofNat 0)]
def v776 : PyData := .tuple [.int (.ofNat 0), .int (.ofNat 3), .int (.ofNat 2), .int (.ofNat 0), .int (.ofNat 1)]
def v777 : PyData := .tuple [.int (.ofNat 0), .int (.ofNat 3), .int (.ofNat 2), .int (.ofNat 0), .int (.ofNat 2)]
def v778 : PyData := .tuple [.int (.ofNat 0), .int (.ofNat 3), .int (.ofNat 2), .int (.ofNat 0), .int (.ofNat 3)]
def v779 : PyData := .tuple [.int (.ofNat 0), .int (.ofNat 3), .int (.ofNat 2), .int (.ofNat 1), .int (.ofNat 0)]
def v780 : PyData := .tuple [.int (.ofNat 0), .int (.ofNat 3), .int (.ofNat 2), .int (.ofNat 1), .int (.ofNat 1)]
def v781 : PyData := .tuple [.int (.ofNat 0), .int (.ofNat 3), .int (.ofNat 2), .int (.ofNat 1), .int (.ofNat 2)]
def v782 : PyData := .tuple [.int (.ofNat 0), .int (.ofNat 3), .int (.ofNat 2), .int (.ofNat 1), .int (.ofNat 3)]
def v783 : PyData := .tuple [.int (.ofNat 0), .int (.ofNat 3), .int (.ofNat 2), .int (.ofNat 2), .int (.ofNat 0)]
def v784 : PyData := .tuple [.int (.ofNat 0), .int (.ofNat 3), .int (.ofNat 2), .int (.ofNat 2), .int (.ofNat 1)]
def v785 : PyData := .tuple [.int (.ofNat 0), .int (.ofNat 3), .int (.ofNat 2), .int (.ofNat 2), .int (.ofNat 2)]
def v786 : PyData := .tuple [.int (.ofNat 0), .int (.ofNat 3), .int (.ofNat 2), .int (.ofNat 2), .int (.ofNat 3)]
def v787 : PyData := .tuple [.int (.ofNat 0), .int (.ofNat 3), .int (.ofNat 2), .int (.ofNat 3), .int (.ofNat 0)]
def v788 : PyData := .tuple [.int (.ofNat 0), .int (.ofNat 3), .int (.ofNat 2), .int (.ofNat 3), .int (.ofNat 1)]
def v789 : PyData := .tuple [.int (.ofNat 0), .int (.ofNat 3), .int (.ofNat 2), .int (.ofNat 3), .int (.ofNat 2)]
def v790 : PyData := .tuple [.int (.ofNat 0), .int (.ofNat 3), .int (.ofNat 2), .int (.ofNat 3), .int (.ofNat 3)]
def v791 : PyData := .tuple [.int (.ofNat 0), .int (.ofNat 3), .int (.ofNat 3), .int (.ofNat 0), .int (.ofNat 0)]
def v792 : PyData := .tuple [.int (.ofNat 0), .int (.ofNat 3), .int (.ofNat 3), .int (.ofNat 0), .int (.ofNat 1)]
def v793 : PyData := .tuple [.int (.ofNat 0), .int (.ofNat 3), .int (.ofNat 3), .int (.ofNat 0), .int (.ofNat 2)]
def v794 : PyData := .tuple [.int (.ofNat 0), .int (.ofNat 3), .int (.ofNat 3), .int (.ofNat 0), .int (.ofNat 3)]
def v795 : PyData := .tuple [.int (.ofNat 0), .int (.ofNat 3), .int (.ofNat 3), .int (.ofNat 1), .int (.ofNat 0)]
def v796 : PyData := .tuple [.int (.ofNat 0), .int (.ofNat 3), .int (.ofNat 3), .int (.ofNat 1), .int (.ofNat 1)]
def v797 : PyData := .tuple [.int (.ofNat 0), .int (.ofNat 3), .int (.ofNat 3), .int (.ofNat 1), .int (.ofNat 2)]
def v798 : PyData := .tuple [.int (.ofNat 0), .int (.ofNat 3), .int (.ofNat 3), .int (.ofNat 1), .int (.ofNat 3)]
def v799 : PyData := .tuple [.int (.ofNat 0), .int (.ofNat 3), .int (.ofNat 3), .int (.ofNat 2), .int (.ofNat 0)]
def v800 : PyData := .tuple [.int (.ofNat 0), .int (.ofNat 3), .int (.ofNat 3), .int (.ofNat 2), .int (.ofNat 1)]
def v801 : PyData := .tuple [.int (.ofNat 0), .int (.ofNat 3), .int (.ofNat 3), .int (.ofNat 2), .int (.ofNat 2)]
def v802 : PyData := .tuple [.int (.ofNat 0), .int (.ofNat 3), .int (.ofNat 3), .int (.ofNat 2), .int (.ofNat 3)]
def v803 : PyData := .tuple [.int (.ofNat 0), .int (.ofNat 3), .int (.ofNat 3), .int (.ofNat 3), .int (.ofNat 0)]
def v804 : PyData := .tuple [.int (.ofNat 0), .int (.ofNat 3), .int (.ofNat 3), .int (.ofNat 3), .int (.ofNat 1)]
def v805 : PyData := .tuple [.int (.ofNat 0), .int (.ofNat 3), .int (.ofNat 3), .int (.ofNat 3), .int (.ofNat 2)]
def v806 : PyData := .tuple [.int (.ofNat 0), .int (.ofNat 3), .int (.ofNat 3), .int (.ofNat 3), .int (.ofNat 3)]
def v807 : PyData := .tuple [.int (.ofNat 1), .int (.ofNat 0), .int (.ofNat 0), .int (.ofNat 0), .int (.ofNat 3)]
def v808 : PyData := .tuple [.int (.ofNat 1), .int (.ofNat 0), .int (.ofNat 0), .int (.ofNat 1), .int (.ofNat 3)]
def v809 : PyData := .tuple [.int (.ofNat 1), .int (.ofNat 0), .int (.ofNat 0), .int (.ofNat 2), .int (.ofNat 3)]
def v810 : PyData := .tuple [.int (.ofNat 1), .int (.ofNat 0), .int (.ofNat 0), .int (.ofNat 3), .int (.ofNat 0)]
def v811 : PyData := .tuple [.int (.ofNat 1), .int (.ofNat 0), .int (.ofNat 0), .int (.ofNat 3), .int (.ofNat 1)]
def v812 : PyData := .tuple [.int (.ofNat 1), .int (.ofNat 0), .int (.ofNat 0), .int (.ofNat 3), .int (.ofNat 2)]
def v813 : PyData := .tuple [.int (.ofNat 1), .int (.ofNat 0), .int (.ofNat 0), .int (.ofNat 3), .int (.ofNat 3)]
def v814 : PyData := .tuple [.int (.ofNat 1), .int (.ofNat 0), .int (.ofNat 1), .int (.ofNat 0), .int (.ofNat 3)]
def v815 : PyData := .tuple [.int (.ofNat 1), .int (.ofNat 0), .int (.ofNat 1), .int (.ofNat 1), .int (.ofNat 3)]
def v816 : PyData := .tuple [.int (.ofNat 1), .int (.ofNat 0), .int (.ofNat 1), .int (.ofNat 2), .int (.ofNat 3)]
def v817 : PyData := .tuple [.int (.ofNat 1), .int (.ofNat 0), .int (.ofNat 1), .int (.ofNat 3), .int (.ofNat 0)]
def v818 : PyData := .tuple [.int (.ofNat 1), .int (.ofNat 0), .int (.ofNat 1), .int (.ofNat 3), .int (.ofNat 1)]
def v819 : PyData := .tuple [.int (.ofNat 1), .int (.ofNat 0), .int (.ofNat 1), .int (.ofNat 3), .int (.ofNat 2)]
def v820 : PyData := .tuple [.int (.ofNat 1), .int (.ofNat 0), .int (.ofNat 1), .int (.ofNat 3), .int (.ofNat 3)]
def v821 : PyData := .tuple [.int (.ofNat 1), .int (.ofNat 0), .int (.ofNat 2), .int (.ofNat 0), .int (.ofNat 3)]
def v822 : PyData := .tuple [.int (.ofNat 1), .int (.ofNat 0), .int (.ofNat 2), .int (.ofNat 1), .int (.ofNat 3)]
def v823 : PyData := .tuple [.int (.ofNat 1), .int (.ofNat 0), .int (.ofNat 2), .int (.ofNat 2), .int (.ofNat 3)]
def v824 : PyData := .tuple [.int (.ofNat 1), .int (.ofNat 0), .int (.ofNat 2), .int (.ofNat 3), .int (.ofNat 0)]
def v825 : PyData := .tuple [.int (.ofNat 1), .int (.ofNat 0), .int (.ofNat 2), .int (.ofNat 3), .int (.ofNat 1)]
def v826 : PyData := .tuple [.int (.ofNat 1), .int (.ofNat 0), .int (.ofNat 2), .int (.ofNat 3), .int (.ofNat 2)]
def v827 : PyData := .tuple [.int (.ofNat 1), .int (.ofNat 0), .int (.ofNat 2), .int (.ofNat 3), .int (.ofNat 3)]
def v828 : PyData := .tuple [.int (.ofNat 1), .int (.ofNat 0), .int (.ofNat 3), .int (.ofNat 0), .int (.ofNat 0)]
def v829 : PyData := .tuple [.int (.ofNat 1), .int (.ofNat 0), .int (.ofNat 3), .int (.ofNat 0), .int (.ofNat 1)]
def v830 : PyData := .tuple [.int (.ofNat 1), .int (.ofNat 0), .int (.ofNat 3), .int (.ofNat 0), .int (.ofNat 2)]
def v831 : PyData := .tuple [.int (.ofNat 1), .int (.ofNat 0), .int (.ofNat 3), .int (.ofNat 0), .int (.ofNat 3)]
def v832 : PyData := .tuple [.int (.ofNat 1), .int (.ofNat 0), .int (.ofNat 3), .int (.ofNat 1), .int (.ofNat 0)]
def v833 : PyData := .tuple [.int (.ofNat 1), .int (.ofNat 0), .int (.ofNat 3), .int (.ofNat 1), .int (.ofNat 1)]
def v834 : PyData := .tuple [.int (.ofNat 1), .int (.ofNat 0), .int (.ofNat 3), .int (.ofNat 1), .int (.ofNat 2)]
def v835 : PyData := .tuple [.int (.ofNat 1), .int (.ofNat 0), .int (.ofNat 3), .int (.ofNat 1), .int (.ofNat 3)]
def v836 : PyData := .tuple [.int (.ofNat 1), .int (.ofNat 0), .int (.ofNat 3), .int (.ofNat 2), .int (.ofNat 0)]
def v837 : PyData := .tuple [.int (.ofNat 1), .int (.ofNat 0), .int (.ofNat 3), .int (.ofNat 2), .int (.ofNat 1)]
def v838 : PyData := .tuple [.int (.ofNat 1), .int (.ofNat 0), .int (.ofNat 3), .int (.ofNat 2), .int (.ofNat 2)]
def v839 : PyData := .tuple [.int (.ofNat 1), .int (.ofNat 0), .int (.ofNat 3), .int (.ofNat 2), .int (.ofNat 3)]
def v840 : PyData := .tuple [.int (.ofNat 1), .int (.ofNat 0), .int (.ofNat 3), .int (.ofNat 3), .int (.ofNat 0)]
def v841 : PyData := .tuple [.int (.ofNat 1), .int (.ofNat 0), .int (.ofNat 3), .int (.ofNat 3), .int (.ofNat 1)]
def v842 : PyData := .tuple [.int (.ofNat 1), .int (.ofNat 0), .int (.ofNat 3), .int (.ofNat 3), .int (.ofNat 2)]
def v843 : PyData := .tuple [.int (.ofNat 1), .int (.ofNat 0), .int (.ofNat 3), .int (.ofNat 3), .int (.ofNat 3)]
def v844 : PyData := .tuple [.int (.ofNat 1), .int (.ofNat 1), .int (.ofNat 0), .int (.ofNat 0), .int (.ofNat 3)]
def v845 : PyData := .tuple [.int (.ofNat 1), .int (.ofNat 1), .int (.ofNat 0), .int (.ofNat 1), .int (.ofNat 3)]
def v846 : PyData := .tuple [.int (.ofNat 1), .int (.ofNat 1), .int (.ofNat 0), .int (.ofNat 2), .int (.ofNat 3)]
def v847 : PyData := .tuple [.int (.ofNat 1), .int (.ofNat 1), .int (.ofNat 0), .int (.ofNat 3), .int (.ofNat 0)]
def v848 : PyData := .tuple [.int (.ofNat 1), .int (.ofNat 1), .int (.ofNat 0), .int (.ofNat 3), .int (.ofNat 1)]
def v849 : PyData := .tuple [.int (.ofNat 1), .int (.ofNat 1), .int (.ofNat 0), .int (.ofNat 3), .int (.ofNat 2)]
def v850 : PyData := .tuple [.int (.ofNat 1), .int (.ofNat 1), .int (.ofNat 0), .int (.ofNat 3), .int (.ofNat 3)]
def v851 : PyData := .tuple [.int (.ofNat 1), .int (.ofNat 1), .int (.ofNat 1), .int (.ofNat 0), .int (.ofNat 3)]
def v852 : PyData := .tuple [.int (.ofNat 1), .int (.ofNat 1), .int (.ofNat 1), .int (.ofNat 1), .int (.ofNat 3)]
def v853 : PyData := .tuple [.int (.ofNat 1), .int (.ofNat 1), .int (.ofNat 1), .int (.ofNat 2), .int (.ofNat 3)]
def v854 : PyData := .tuple [.int (.ofNat 1), .int (.ofNat 1), .int (.ofNat 1), .int (.ofNat 3), .int (.ofNat 0)]
def v855 : PyData := .tuple [.int (.ofNat 1), .int (.ofNat 1), .int (.ofNat 1), .int (.ofNat 3), .int (.ofNat 1)]
def v856 : PyData := .tuple [.int (.ofNat 1), .int (.ofNat 1), .int (.ofNat 1), .int (.ofNat 3), .int (.ofNat 2)]
def v857 : PyData := .tuple [.int (.ofNat 1), .int (.ofNat 1), .int (.ofNat 1), .int (.ofNat 3), .int (.ofNat 3)]
def v858 : PyData := .tuple [.int (.ofNat 1), .int (.ofNat 1), .int (.ofNat 2), .int (.ofNat 0), .int (.ofNat 3)]
def v859 : PyData := .tuple [.int (.ofNat 1), .int (.ofNat 1), .int (.ofNat 2), .int (.ofNat 1), .int (.ofNat 3)]
def v860 : PyData := .tuple [.int (.ofNat 1), .int (.ofNat 1), .int (.ofNat 2), .int (.ofNat 2), .int (.ofNat 3)]
def v861 : PyData := .tuple [.int (.ofNat 1), .int (.ofNat 1), .int (.ofNat 2), .int (.ofNat 3), .int (.ofNat 0)]
def v862 : PyData := .tuple [.int (.ofNat 1), .int (.ofNat 1), .int (.ofNat 2), .int (.ofNat 3), .int (.ofNat 1)]
def v863 : PyData := .tuple [.int (.ofNat 1), .int (.ofNat 1), .int (.ofNat 2), .int (.ofNat 3), .int (.ofNat 2)]
def v864 : PyData := .tuple [.int (.ofNat 1), .int (.ofNat 1), .int (.ofNat 2), .int (.ofNat 3), .int (.ofNat 3)]
def v865 : PyData := .tuple [.int (.ofNat 1), .int (.ofNat 1), .int (.ofNat 3), .int (.ofNat 0), .int (.ofNat 0)]
def v866 : PyData := .tuple [.int (.ofNat 1), .int (.ofNat 1), .int (.ofNat 3), .int (.ofNat 0), .int (.ofNat 1)]
def v867 : PyData := .tuple [.int (.ofNat 1), .int (.ofNat 1), .int (.ofNat 3), .int (.ofNat 0), .int (.ofNat 2)]
def v868 : PyData := .tuple [.int (.ofNat 1), .int (.ofNat 1), .int (.ofNat 3), .int (.ofNat 0), .int (.ofNat 3)]
def v869 : PyData := .tuple [.int (.ofNat 1), .int (.ofNat 1), .int (.ofNat 3), .int (.ofNat 1), .int (.ofNat 0)]
def v870 : PyData := .tuple [.int (.ofNat 1), .int (.ofNat 1), .int (.ofNat 3), .int (.ofNat 1), .int (.ofNat 1)]
def v871 : PyData := .tuple [.int (.ofNat 1), .int (.ofNat 1), .int (.ofNat 3), .int (.ofNat 1), .int (.ofNat 2)]
def v872 : PyData := .tuple [.int (.ofNat 1), .int (.ofNat 1), .int (.ofNat 3), .int (.ofNat 1), .int (.ofNat 3)]
def v873 : PyData := .tuple [.int (.ofNat 1), .int (.ofNat 1), .int (.ofNat 3), .int (.ofNat 2), .int (.ofNat 0)]
def v874 : PyData := .tuple [.int (.ofNat 1), .int (.ofNat 1), .int (.ofNat 3), .int (.ofNat 2), .int (.ofNat 1)]
def v875 : PyData := .tuple [.int (.ofNat 1), .int (.ofNat 1), .int (.ofNat 3), .int (.ofNat 2), .int (.ofNat 2)]
def v876 : PyData := .tuple [.int (.ofNat 1), .int (.ofNat 1), .int (.ofNat 3), .int (.ofNat 2), .int (.ofNat 3)]
def v877 : PyData := .tuple [.int (.ofNat 1), .int (.ofNat 1), .int (.ofNat 3), .int (.ofNat 3), .int (.ofNat 0)]
def v878 : PyData := .tuple [.int (.ofNat 1), .int (.ofNat 1), .int (.ofNat 3), .int (.ofNat 3), .int (.ofNat 1)]
def v879 : PyData := .tuple [.int (.ofNat 1), .int (.ofNat 1), .int (.ofNat 3), .int (.ofNat 3), .int (.ofNat 2)]
def v880 : PyData := .tuple [.int (.ofNat 1), .int (.ofNat 1), .int (.ofNat 3), .int (.ofNat 3), .int (.ofNat 3)]
def v881 : PyData := .tuple [.int (.ofNat 1), .int (.ofNat 2), .int (.ofNat 0), .int (.ofNat 0), .int (.ofNat 3)]
def v882 : PyData := .tuple [.int (.ofNat 1), .int (.ofNat 2), .int (.ofNat 0), .int (.ofNat 1), .int (.ofNat 3)]
def v883 : PyData := .tuple [.int (.ofNat 1), .int (.ofNat 2), .int (.ofNat 0), .int (.ofNat 2), .int (.ofNat 3)]
def v884 : PyData := .tuple [.int (.ofNat 1), .int (.ofNat 2), .int (.ofNat 0), .int (.ofNat 3), .int (.ofNat 0)]
def v885 : PyData := .tuple [.int (.ofNat 1), .int (.ofNat 2), .int (.ofNat 0), .int (.ofNat 3), .int (.ofNat 1)]
def v886 : PyData := .tuple [.int (.ofNat 1), .int (.ofNat 2), .int (.ofNat 0), .int (.ofNat 3), .int (.ofNat 2)]
def v887 : PyData := .tuple [.int (.ofNat 1), .int (.ofNat 2), .int (.ofNat 0), .int (.ofNat 3), .int (.ofNat 3)]
def v888 : PyData := .tuple [.int (.ofNat 1), .int (.ofNat 2), .int (.ofNat 1), .int (.ofNat 0), .int (.ofNat 3)]
def v889 : PyData := .tuple [.int (.ofNat 1), .int (.ofNat 2), .int (.ofNat 1), .int (.ofNat 1), .int (.ofNat 3)]
def v890 : PyData := .tuple [.int (.ofNat 1), .int (.ofNat 2), .int (.ofNat 1), .int (.ofNat 2), .int (.ofNat 3)]
def v891 : PyData := .tuple [.int (.ofNat 1), .int (.ofNat 2), .int (.ofNat 1), .int (.ofNat 3), .int (.ofNat 0)]
def v892 : PyData := .tuple [.int (.ofNat 1), .int (.ofNat 2), .int (.ofNat 1), .int (.ofNat 3), .int (.ofNat 1)]
def v893 : PyData := .tuple [.int (.ofNat 1), .int (.ofNat 2), .int (.ofNat 1), .int (.ofNat 3), .int (.ofNat 2)]
def v894 : PyData := .tuple [.int (.ofNat 1), .int (.ofNat 2), .int (.ofNat 1), .int (.ofNat 3), .int (.ofNat 3)]
def v895 : PyData := .tuple [.int (.ofNat 1), .int (.ofNat 2), .int (.ofNat 2), .int (.ofNat 0), .int (.ofNat 3)]
def v896 : PyData := .tuple [.int (.ofNat 1), .int (.ofNat 2), .int (.ofNat 2), .int (.ofNat 1), .int (.ofNat 3)]
def v897 : PyData := .tuple [.int (.ofNat 1), .int (.ofNat 2), .int (.ofNat 2), .int (.ofNat 2), .int (.ofNat 3)]
def v898 : PyData := .tuple [.int (.ofNat 1), .int (.ofNat 2), .int (.ofNat 2), .int (.ofNat 3), .int (.ofNat 0)]
def v899 : PyData := .tuple [.int (.ofNat 1), .int (.ofNat 2), .int (.ofNat 2), .int (.ofNat 3), .int (.ofNat 1)]
def v900 : PyData := .tuple [.int (.ofNat 1), .int (.ofNat 2), .int (.ofNat 2), .int (.ofNat 3), .int (.ofNat 2)]
def v901 : PyData := .tuple [.int (.ofNat 1), .int (.ofNat 2), .int (.ofNat 2), .int (.ofNat 3), .int (.ofNat 3)]
def v902 : PyData := .tuple [.int (.ofNat 1), .int (.ofNat 2), .int (.ofNat 3), .int (.ofNat 0), .int (.ofNat 0)]
def v903 : PyData := .tuple [.int (.ofNat 1), .int (.ofNat 2), .int (.ofNat 3), .int (.ofNat 0), .int (.ofNat 1)]
def v904 : PyData := .tuple [.int (.ofNat 1), .int (.ofNat 2), .int (.ofNat 3), .int (.ofNat 0), .int (.ofNat 2)]
def v905 : PyData := .tuple [.int (.ofNat 1), .int (.ofNat 2), .int (.ofNat 3), .int (.ofNat 0), .int (.ofNat 3)]
def v906 : PyData := .tuple [.int (.ofNat 1), .int (.ofNat 2), .int (.ofNat 3), .int (.ofNat 1), .int (.ofNat 0)]
def v907 : PyData := .tuple [.int (.ofNat 1), .int (.ofNat 2), .int (.ofNat 3), .int (.ofNat 1), .int (.ofNat 1)]
def v908 : PyData := .tuple [.int (.ofNat 1), .int (.ofNat 2), .int (.ofNat 3), .int (.ofNat 1), .int (.ofNat 2)]
def v909 : PyData := .tuple [.int (.ofNat 1), .int (.ofNat 2), .int (.ofNat 3), .int (.ofNat 1), .int (.ofNat 3)]
def v910 : PyData := .tuple [.int (.ofNat 1), .int (.ofNat 2), .int (.ofNat 3), .int (.ofNat 2), .int (.ofNat 0)]
def v911 : PyData := .tuple [.int (.ofNat 1), .int (.ofNat 2), .int (.ofNat 3), .int (.ofNat 2), .int (.ofNat 1)]
def v912 : PyData := .tuple [.int (.ofNat 1), .int (.ofNat 2), .int (.ofNat 3), .int (.ofNat 2), .int (.ofNat 2)]
def v913 : PyData := .tuple [.int (.ofNat 1), .int (.ofNat 2), .int (.ofNat 3), .int (.ofNat 2), .int (.ofNat 3)]
def v914 : PyData := .tuple [.int (.ofNat 1), .int (.ofNat 2), .int (.ofNat 3), .int (.ofNat 3), .int (.ofNat 0)]
def v915 : PyData := .tuple [.int (.ofNat 1), .int (.ofNat 2), .int (.ofNat 3), .int (.ofNat 3), .int (.ofNat 1)]
def v916 : PyData := .tuple [.int (.ofNat 1), .int (.ofNat 2), .int (.ofNat 3), .int (.ofNat 3), .int (.ofNat 2)]
def v917 : PyData := .tuple [.int (.ofNat 1), .int (.ofNat 2), .int (.ofNat 3), .int (.ofNat 3), .int (.ofNat 3)]
def v918 : PyData := .tuple [.int (.ofNat 1), .int (.ofNat 3), .int (.ofNat 0), .int (.ofNat 0), .int (.ofNat 0)]
def v919 : PyData := .tuple [.int (.ofNat 1), .int (.ofNat 3), .int (.ofNat 0), .int (.ofNat 0), .int (.ofNat 1)]
def v920 : PyData := .tuple [.int (.ofNat 1), .int (.ofNat 3), .int (.ofNat 0), .int (.ofNat 0), .int (.ofNat 2)]
def v921 : PyData := .tuple [.int (.ofNat 1), .int (.ofNat 3), .int (.ofNat 0), .int (.ofNat 0), .int (.ofNat 3)]
def v922 : PyData := .tuple [.int (.ofNat 1), .int (.ofNat 3), .int (.ofNat 0), .int (.ofNat 1), .int (.ofNat 0)]
def v923 : PyData := .tuple [.int (.ofNat 1), .int (.ofNat 3), .int (.ofNat 0), .int (.ofNat 1), .int (.ofNat 1)]
def v924 : PyData := .tuple [.int (.ofNat 1), .int (.ofNat 3), .int (.ofNat 0), .int (.ofNat 1), .int (.ofNat 2)]
def v925 : PyData := .tuple [.int (.ofNat 1), .int (.ofNat 3), .int (.ofNat 0), .int (.ofNat 1), .int (.ofNat 3)]
def v926 : PyData := .tuple [.int (.ofNat 1), .int (.ofNat 3), .int (.ofNat 0), .int (.ofNat 2), .int (.ofNat 0)]
def v927 : PyData := .tuple [.int (.ofNat 1), .int (.ofNat 3), .int (.ofNat 0), .int (.ofNat 2), .int (.ofNat 1)]
def v928 : PyData := .tuple [.int (.ofNat 1), .int (.ofNat 3), .int (.ofNat 0), .int (.ofNat 2), .int (.ofNat 2)]
def v929 : PyData := .tuple [.int (.ofNat 1), .int (.ofNat 3), .int (.ofNat 0), .int (.ofNat 2), .int (.ofNat 3)]
def v930 : PyData := .tuple [.int (.ofNat 1), .int (.ofNat 3), .int (.ofNat 0), .int (.ofNat 3), .int (.ofNat 0)]
def v931 : PyData := .tuple [.int (.ofNat 1), .int (.ofNat 3), .int (.ofNat 0), .int (.ofNat 3), .int (.ofNat 1)]
def v932 : PyData := .tuple [.int (.ofNat 1), .int (.ofNat 3), .int (.ofNat 0), .int (.ofNat 3), .int (.ofNat 2)]
def v933 : PyData := .tuple [.int (.ofNat 1), .int (.ofNat 3), .int (.ofNat 0), .int (.ofNat 3), .int (.ofNat 3)]
def v934 : PyData := .tuple [.int (.ofNat 1), .int (.ofNat 3), .int (.ofNat 1), .int (.ofNat 0), .int (.ofNat 0)]
def v935 : PyData := .tuple [.int (.ofNat 1), .int (.ofNat 3), .int (.ofNat 1), .int (.ofNat 0), .int (.ofNat 1)]
def v936 : PyData := .tuple [.int (.ofNat 1), .int (.ofNat 3), .int (.ofNat 1), .int (.ofNat 0), .int (.ofNat 2)]
def v937 : PyData := .tuple [.int (.ofNat 1), .int (.ofNat 3), .int (.ofNat 1), .int (.ofNat 0), .int (.ofNat 3)]
def v938 : PyData := .tuple [.int (.ofNat 1), .int (.ofNat 3), .int (.ofNat 1), .int (.ofNat 1), .int (.ofNat 0)]
def v939 : PyData := .tuple [.int (.ofNat 1), .int (.ofNat 3), .int (.ofNat 1), .int (.ofNat 1), .int (.ofNat 1)]
def v940 : PyData := .tuple [.int (.ofNat 1), .int (.ofNat 3), .int (.ofNat 1), .int (.ofNat 1), .int (.ofNat 2)]
def v941 : PyData := .tuple [.int (.ofNat 1), .int (.ofNat 3), .int (.ofNat 1), .int (.ofNat 1), .int (.ofNat 3)]
def v942 : PyData := .tuple [.int (.ofNat 1), .int (.ofNat 3), .int (.ofNat 1), .int (.ofNat 2), .int (.ofNat 0)]
def v943 : PyData := .tuple [.int (.ofNat 1), .int (.ofNat 3), .int (.ofNat 1), .int (.ofNat 2), .int (.ofNat 1)]
def v944 : PyData := .tuple [.int (.ofNat 1), .int (.ofNat 3), .int (.ofNat 1), .int (.ofNat 2), .int (.ofNat 2)]
def v945 : PyData := .tuple [.int (.ofNat 1), .int (.ofNat 3), .int (.ofNat 1), .int (.ofNat 2), .int (.ofNat 3)]
def v946 : PyData := .tuple [.int (.ofNat 1), .int (.ofNat 3), .int (.ofNat 1), .int (.ofNat 3), .int (.ofNat 0)]
def v947 : PyData := .tuple [.int (.ofNat 1), .int (.ofNat 3), .int (.ofNat 1), .int (.ofNat 3), .int (.ofNat 1)]
def v948 : PyData := .tuple [.int (.ofNat 1), .int (.ofNat 3), .int (.ofNat 1), .int (.ofNat 3), .int (.ofNat 2)]
def v949 : PyData := .tuple [.int (.ofNat 1), .int (.ofNat 3), .int (.ofNat 1), .int (.ofNat 3), .int (.ofNat 3)]
def v950 : PyData := .tuple [.int (.ofNat 1), .int (.ofNat 3), .int (.ofNat 2), .int (.ofNat 0), .int (.ofNat 0)]
def v951 : PyData := .tuple [.int (.ofNat 1), .int (.ofNat 3), .int (.ofNat 2), .int (.ofNat 0), .int (.ofNat 1)]
def v952 : PyData := .tuple [.int (.ofNat 1), .int (.ofNat 3), .int (.ofNat 2), .int (.ofNat 0), .int (.ofNat 2)]
def v953 : PyData := .tuple [.int (.ofNat 1), .int (.ofNat 3), .int (.ofNat 2), .int (.ofNat 0), .int (.ofNat 3)]
def v954 : PyData := .tuple [.int (.ofNat 1), .int (.ofNat 3), .int (.ofNat 2), .int (.ofNat 1), .int (.ofNat 0)]
def v955 : PyData := .tuple [.int (.ofNat 1), .int (.ofNat 3), .int (.ofNat 2), .int (.ofNat 1), .int (.ofNat 1)]
def v956 : PyData := .tuple [.int (.ofNat 1), .int (.ofNat 3), .int (.ofNat 2), .int (.ofNat 1), .int (.ofNat 2)]
def v957 : PyData := .tuple [.int (.ofNat 1), .int (.ofNat 3), .int (.ofNat 2), .int (.ofNat 1), .int (.ofNat 3)]
def v958 : PyData := .tuple [.int (.ofNat 1), .int (.ofNat 3), .int (.ofNat 2), .int (.ofNat 2), .int (.ofNat 0)]
def v959 : PyData := .tuple [.int (.ofNat 1), .int (.ofNat 3), .int (.ofNat 2), .int (.ofNat 2), .int (.ofNat 1)]
def v960 : PyData := .tuple [.int (.ofNat 1), .int (.ofNat 3), .int (.ofNat 2), .int (.ofNat 2), .int (.ofNat 2)]
def v961 : PyData := .tuple [.int (.ofNat 1), .int (.ofNat 3), .int (.ofNat 2), .int (.ofNat 2), .int (.ofNat 3)]
def v962 : PyData := .tuple [.int (.ofNat 1), .int (.ofNat 3), .int (.ofNat 2), .int (.ofNat 3), .int (.ofNat 0)]
def v963 : PyData := .tuple [.int (.ofNat 1), .int (.ofNat 3), .int (.ofNat 2), .int (.ofNat 3), .int (.ofNat 1)]
def v964 : PyData := .tuple [.int (.ofNat 1), .int (.ofNat 3), .int (.ofNat 2), .int (.ofNat 3), .int (.ofNat 2)]
def v965 : PyData := .tuple [.int (.ofNat 1), .int (.ofNat 3), .int (.ofNat 2), .int (.ofNat 3), .int (.ofNat 3)]
def v966 : PyData := .tuple [.int (.ofNat 1), .int (.ofNat 3), .int (.ofNat 3), .int (.ofNat 0), .int (.ofNat 0)]
def v967 : PyData := .tuple [.int (.ofNat 1), .int (.ofNat 3), .int (.ofNat 3), .int (.ofNat 0), .int (.ofNat 1)]
def v968 : PyData := .tuple [.int (.ofNat 1), .int (.ofNat 3), .int (.ofNat 3), .int (.ofNat 0), .int (.ofNat 2)]
def v969 : PyData := .tuple [.int (.ofNat 1), .int (.ofNat 3), .int (.ofNat 3), .int (.ofNat 0), .int (.ofNat 3)]
def v970 : PyData := .tuple [.int (.ofNat 1), .int (.ofNat 3), .int (.ofNat 3), .int (.ofNat 1), .int (.ofNat 0)]
def v971 : PyData := .tuple [.int (.ofNat 1), .int (.ofNat 3), .int (.ofNat 3), .int (.ofNat 1), .int (.ofNat 1)]
def v972 : PyData := .tuple [.int (.ofNat 1), .int (.ofNat 3), .int (.ofNat 3), .int (.ofNat 1), .int (.ofNat 2)]
def v973 : PyData := .tuple [.int (.ofNat 1), .int (.ofNat 3), .int (.ofNat 3), .int (.ofNat 1), .int (.ofNat 3)]
def v974 : PyData := .tuple [.int (.ofNat 1), .int (.ofNat 3), .int (.ofNat 3), .int (.ofNat 2), .int (.ofNat 0)]
def v975 : PyData := .tuple [.int (.ofNat 1), .int (.ofNat 3), .int (.ofNat 3), .int (.ofNat 2), .int (.ofNat 1)]
def v976 : PyData := .tuple [.int (.ofNat 1), .int (.ofNat 3), .int (.ofNat 3), .int (.ofNat 2), .int (.ofNat 2)]
def v977 : PyData := .tuple [.int (.ofNat 1), .int (.ofNat 3), .int (.ofNat 3), .int (.ofNat 2), .int (.ofNat 3)]
def v978 : PyData := .tuple [.int (.ofNat 1), .int (.ofNat 3), .int (.ofNat 3), .int (.ofNat 3), .int (.ofNat 0)]
def v979 : PyData := .tuple [.int (.ofNat 1), .int (.ofNat 3), .int (.ofNat 3), .int (.ofNat 3), .int (.ofNat 1)]
def v980 : PyData := .tuple [.int (.ofNat 1), .int (.ofNat 3), .int (.ofNat 3), .int (.ofNat 3), .int (.ofNat 2)]
def v981 : PyData := .tuple [.int (.ofNat 1), .int (.ofNat 3), .int (.ofNat 3), .int (.ofNat 3), .int (.ofNat 3)]
def v982 : PyData := .tuple [.int (.ofNat 2), .int (.ofNat 0), .int (.ofNat 0), .int (.ofNat 0), .int (.ofNat 3)]
def v983 : PyData := .tuple [.int (.ofNat 2), .int (.ofNat 0), .int (.ofNat 0), .int (.ofNat 1), .int (.ofNat 3)]
def v984 : PyData := .tuple [.int (.ofNat 2), .int (.ofNat 0), .int (.ofNat 0), .int (.ofNat 2), .int (.ofNat 3)]
def v985 : PyData := .tuple [.int (.ofNat 2), .int (.ofNat 0), .int (.ofNat 0), .int (.ofNat 3), .int (.ofNat 0)]
def v986 : PyData := .tuple [.int (.ofNat 2), .int (.ofNat 0), .int (.ofNat 0), .int (.ofNat 3), .int (.ofNat 1)]
def v987 : PyData := .tuple [.int (.ofNat 2), .int (.ofNat 0), .int (.ofNat 0), .int (.ofNat 3), .int (.ofNat 2)]
def v988 : PyData := .tuple [.int (.ofNat 2), .int (.ofNat 0), .int (.ofNat 0), .int (.ofNat 3), .int (.ofNat 3)]
def v989 : PyData := .tuple [.int (.ofNat 2), .int (.ofNat 0), .int (.ofNat 1), .int (.ofNat 0), .int (.ofNat 3)]
def v990 : PyData := .tuple [.int (.ofNat 2), .int (.ofNat 0), .int (.ofNat 1), .int (.ofNat 1), .int (.ofNat 3)]
def v991 : PyData := .tuple [.int (.ofNat 2), .int (.ofNat 0), .int (.ofNat 1), .int (.ofNat 2), .int (.ofNat 3)]
def v992 : PyData := .tuple [.int (.ofNat 2), .int (.ofNat 0), .int (.ofNat 1), .int (.ofNat 3), .int (.ofNat 0)]
def v993 : PyData := .tuple [.int (.ofNat 2), .int (.ofNat 0), .int (.ofNat 1), .int (.ofNat 3), .int (.ofNat 1)]
def v994 : PyData := .tuple [.int (.ofNat 2), .int (.ofNat 0), .int (.ofNat 1), .int (.ofNat 3), .int (.ofNat 2)]
def v995 : PyData := .tuple [.int (.ofNat 2), .int (.ofNat 0), .int (.ofNat 1), .int (.ofNat 3), .int (.ofNat 3)]
def v996 : PyData := .tuple [.int (.ofNat 2), .int (.ofNat 0), .int (.ofNat 2), .int (.ofNat 0), .int (.ofNat 3)]
def v997 : PyData := .tuple [.int (.ofNat 2), .int (.ofNat 0), .int (.ofNat 2), .int (.ofNat 1), .int (.ofNat 3)]
def v998 : PyData := .tuple [.int (.ofNat 2), .int (.ofNat 0), .int (.ofNat 2), .int (.ofNat 2), .int (.ofNat 3)]
def v999 : PyData := .tuple [.int (.ofNat 2), .int (.ofNat 0), .int (.ofNat 2), .int (.ofNat 3), .int (.ofNat 0)]
def v1000 : PyData := .tuple [.int (.ofNat 2), .int (.ofNat 0), .int (.ofNat 2), .int (.ofNat 3), .int (.ofNat 1)]
def v1001 : PyData := .tuple [.int (.ofNat 2), .int (.ofNat 0), .int (.ofNat 2), .int (.ofNat 3), .int (.ofNat 2)]
def v1002 : PyData := .tuple [.int (.ofNat 2), .int (.ofNat 0), .int (.ofNat 2), .int (.ofNat 3), .int (.ofNat 3)]
def v1003 : PyData := .tuple [.int (.ofNat 2), .int (.ofNat 0), .int (.ofNat 3), .int (.ofNat 0), .int (.ofNat 0)]
def v1004 : PyData := .tuple [.int (.ofNat 2), .int (.ofNat 0), .int (.ofNat 3), .int (.ofNat 0), .int (.ofNat 1)]
def v1005 : PyData := .tuple [.int (.ofNat 2), .int (.ofNat 0), .int (.ofNat 3), .int (.ofNat 0), .int (.ofNat 2)]
def v1006 : PyData := .tuple [.int (.ofNat 2), .int (.ofNat 0), .int (.ofNat 3), .int (.ofNat 0), .int (.ofNat 3)]
def v1007 : PyData := .tuple [.int (.ofNat 2), .int (.ofNat 0), .int (.ofNat 3), .int (.ofNat 1), .int (.ofNat 0)]
def v1008 : PyData := .tuple [.int (.ofNat 2), .int (.ofNat 0), .int (.ofNat 3), .int (.ofNat 1), .int (.ofNat 1)]
def v1009 : PyData := .tuple [.int (.ofNat 2), .int (.ofNat 0), .int (.ofNat 3), .int (.ofNat 1), .int (.ofNat 2)]
def v1010 : PyData := .tuple [.int (.ofNat 2), .int (.ofNat 0), .int (.ofNat 3), .int (.ofNat 1), .int (.ofNat 3)]
def v1011 : PyData := .tuple [.int (.ofNat 2), .int (.ofNat 0), .int (.ofNat 3), .int (.ofNat 2), .int (.ofNat 0)]
def v1012 : PyData := .tuple [.int (.ofNat 2), .int (.ofNat 0), .int (.ofNat 3), .int (.ofNat 2), .int (.ofNat 1)]
def v1013 : PyData := .tuple [.int (.ofNat 2), .int (.ofNat 0), .int (.ofNat 3), .int (.ofNat 2), .int (.ofNat 2)]
def v1014 : PyData := .tuple [.int (.ofNat 2), .int (.ofNat 0), .int (.ofNat 3), .int (.ofNat 2), .int (.ofNat 3)]
def v1015 : PyData := .tuple [.int (.ofNat 2), .int (.ofNat 0), .int (.ofNat 3), .int (.ofNat 3), .int (.ofNat 0)]
def v1016 : PyData := .tuple [.int (.ofNat 2), .int (.ofNat 0), .int (.ofNat 3), .int (.ofNat 3), .int (.ofNat 1)]
def v1017 : PyData := .tuple [.int (.ofNat 2), .int (.ofNat 0), .int (.ofNat 3), .int (.ofNat 3), .int (.ofNat 2)]
def v1018 : PyData := .tuple [.int (.ofNat 2), .int (.ofNat 0), .int (.ofNat 3), .int (.ofNat 3), .int (.ofNat 3)]
def v1019 : PyData := .tuple [.int (.ofNat 2), .int (.ofNat 1), .int (.ofNat 0), .int (.ofNat 0), .int (.ofNat 3)]
def v1020 : PyData := .tuple [.int (.ofNat 2), .int (.ofNat 1), .int (.ofNat 0), .int (.ofNat 1), .int (.ofNat 3)]
def v1021 : PyData := .tuple [.int (.ofNat 2), .int (.ofNat 1), .int (.ofNat 0), .int (.ofNat 2), .int (.ofNat 3)]
def v1022 : PyData := .tuple [.int (.ofNat 2), .int (.ofNat 1), .int (.ofNat 0), .int (.ofNat 3), .int (.ofNat 0)]
def v1023 : PyData := .tuple [.int (.ofNat 2), .int (.ofNat 1), .int (.ofNat 0), .int (.ofNat 3), .int (.ofNat 1)]
def v1024 : PyData := .tuple [.int (.ofNat 2), .int (.ofNat 1), .int (.ofNat 0), .int (.ofNat 3), .int (.ofNat 2)]
def v1025 : PyData := .tuple [.int (.ofNat 2), .int (.ofNat 1), .int (.ofNat 0), .int (.ofNat 3), .int (.ofNat 3)]
def v1026 : PyData := .tuple [.int (.ofNat 2), .int (.ofNat 1), .int (.ofNat 1), .int (.ofNat 0), .int (.ofNat 3)]
def v1027 : PyData := .tuple [.int (.ofNat 2), .int (.ofNat 1), .int (.ofNat 1), .int (.ofNat 1), .int (.ofNat 3)]
def v1028 : PyData := .tuple [.int (.ofNat 2), .int (.ofNat 1), .int (.ofNat 1), .int (.ofNat 2), .int (.ofNat 3)]
def v1029 : PyData := .tuple [.int (.ofNat 2), .int (.ofNat 1), .int (.ofNat 1), .int (.ofNat 3), .int (.ofNat 0)]
def v1030 : PyData := .tuple [.int (.ofNat 2), .int (.ofNat 1), .int (.ofNat 1), .int (.ofNat 3), .int (.ofNat 1)]
def v1031 : PyData := .tuple [.int (.ofNat 2), .int (.ofNat 1), .int (.ofNat 1), .int (.ofNat 3), .int (.ofNat 2)]
def v1032 : PyData := .tuple [.int (.ofNat 2), .int (.ofNat 1), .int (.ofNat 1), .int (.ofNat 3), .int (.ofNat 3)]
def v1033 : PyData := .tuple [.int (.ofNat 2), .int (.ofNat 1), .int (.ofNat 2), .int (.ofNat 0), .int (.ofNat 3)]
def v1034 : PyData := .tuple [.int (.ofNat 2), .int (.ofNat 1), .int (.ofNat 2), .int (.ofNat 1), .int (.ofNat 3)]
def v1035 : PyData := .tuple [.int (.ofNat 2), .int (.ofNat 1), .int (.ofNat 2), .int (.ofNat 2), .int (.ofNat 3)]
def v1036 : PyData := .tuple [.int (.ofNat 2), .int (.ofNat 1), .int (.ofNat 2), .int (.ofNat 3), .int (.ofNat 0)]
def v1037 : PyData := .tuple [.int (.ofNat 2), .int (.ofNat 1), .int (.ofNat 2), .int (.ofNat 3), .int (.ofNat 1)]
def v1038 : PyData := .tuple [.int (.ofNat 2), .int (.ofNat 1), .int (.ofNat 2), .int (.ofNat 3), .int (.ofNat 2)]
def v1039 : PyData := .tuple [.int (.ofNat 2), .int (.ofNat 1), .int (.ofNat 2), .int (.ofNat 3), .int (.ofNat 3)]
def v1040 : PyData := .tuple [.int (.ofNat 2), .int (.ofNat 1), .int (.ofNat 3), .int (.ofNat 0), .int (.ofNat 0)]
def v1041 : PyData := .tuple [.int (.ofNat 2), .int (.ofNat 1), .int (.ofNat 3), .int (.ofNat 0), .int (.ofNat 1)]
def v1042 : PyData := .tuple [.int (.ofNat 2), .int (.ofNat 1), .int (.ofNat 3), .int (.ofNat 0), .int (.ofNat 2)]
def v1043 : PyData := .tuple [.int (.ofNat 2), .int (.ofNat 1), .int (.ofNat 3), .int (.ofNat 0), .int (.ofNat 3)]
def v1044 : PyData := .tuple [.int (.ofNat 2), .int (.ofNat 1), .int (.ofNat 3), .int (.ofNat 1), .int (.ofNat 0)]
def v1045 : PyData := .tuple [.int (.ofNat 2), .int (.ofNat 1), .int (.ofNat 3), .int (.ofNat 1), .int (.ofNat 1)]
def v1046 : PyData := .tuple [.int (.ofNat 2), .int (.ofNat 1), .int (.ofNat 3), .int (.ofNat 1), .int (.ofNat 2)]
def v1047 : PyData := .tuple [.int (.ofNat 2), .int (.ofNat 1), .int (.ofNat 3), .int (.ofNat 1), .int (.ofNat 3)]
def v1048 : PyData := .tuple [.int (.ofNat 2), .int (.ofNat 1), .int (.ofNat 3), .int (.ofNat 2), .int (.ofNat 0)]
def v1049 : PyData := .tuple [.int (.ofNat 2), .int (.ofNat 1), .int (.ofNat 3), .int (.ofNat 2), .int (.ofNat 1)]
def v1050 : PyData := .tuple [.int (.ofNat 2), .int (.ofNat 1), .int (.ofNat 3), .int (.ofNat 2), .int (.ofNat 2)]
def v1051 : PyData := .tuple [.int (.ofNat 2), .int (.ofNat 1), .int (.ofNat 3), .int (.ofNat 2), .int (.ofNat 3)]
def v1052 : PyData := .tuple [.int (.ofNat 2), .int (.ofNat 1), .int (.ofNat 3), .int (.ofNat 3), .int (.ofNat 0)]
def v1053 : PyData := .tuple [.int (.ofNat 2), .int (.ofNat 1), .int (.ofNat 3), .int (.ofNat 3), .int (.ofNat 1)]
def v1054 : PyData := .tuple [.int (.ofNat 2), .int (.ofNat 1), .int (.ofNat 3), .int (.ofNat 3), .int (.ofNat 2)]
def v1055 : PyData := .tuple [.int (.ofNat 2), .int (.ofNat 1), .int (.ofNat 3), .int (.ofNat 3), .int (.ofNat 3)]
def v1056 : PyData := .tuple [.int (.ofNat 2), .int (.ofNat 2), .int (.ofNat 0), .int (.ofNat 0), .int (.ofNat 3)]
def v1057 : PyData := .tuple [.int (.ofNat 2), .int (.ofNat 2), .int (.ofNat 0), .int (.ofNat 1), .int (.ofNat 3)]
def v1058 : PyData := .tuple [.int (.ofNat 2), .int (.ofNat 2), .int (.ofNat 0), .int (.ofNat 2), .int (.ofNat 3)]
def v1059 : PyData := .tuple [.int (.ofNat 2), .int (.ofNat 2), .int (.ofNat 0), .int (.ofNat 3), .int (.ofNat 0)]
def v1060 : PyData := .tuple [.int (.ofNat 2), .int (.ofNat 2), .int (.ofNat 0), .int (.ofNat 3), .int (.ofNat 1)]
def v1061 : PyData := .tuple [.int (.ofNat 2), .int (.ofNat 2), .int (.ofNat 0), .int (.ofNat 3), .int (.ofNat 2)]
def v1062 : PyData := .tuple [.int (.ofNat 2), .int (.ofNat 2), .int (.ofNat 0), .int (.ofNat 3), .int (.ofNat 3)]
def v1063 : PyData := .tuple [.int (.ofNat 2), .int (.ofNat 2), .int (.ofNat 1), .int (.ofNat 0), .int (.ofNat 3)]
def v1064 : PyData := .tuple [.int (.ofNat 2), .int (.ofNat 2), .int (.ofNat 1), .int (.ofNat 1), .int (.ofNat 3)]
def v1065 : PyData := .tuple [.int (.ofNat 2), .int (.ofNat 2), .int (.ofNat 1), .int (.ofNat 2), .int (.ofNat 3)]
def v1066 : PyData := .tuple [.int (.ofNat 2), .int (.ofNat 2), .int (.ofNat 1), .int (.ofNat 3), .int (.ofNat 0)]
def v1067 : PyData := .tuple [.int (.ofNat 2), .int (.ofNat 2), .int (.ofNat 1), .int (.ofNat 3), .int (.ofNat 1)]
def v1068 : PyData := .tuple [.int (.ofNat 2), .int (.ofNat 2), .int (.ofNat 1), .int (.ofNat 3), .int (.ofNat 2)]
def v1069 : PyData := .tuple [.int (.ofNat 2), .int (.ofNat 2), .int (.ofNat 1), .int (.ofNat 3), .int (.ofNat 3)]
def v1070 : PyData := .tuple [.int (.ofNat 2), .int (.ofNat 2), .int (.ofNat 2), .int (.ofNat 0), .int (.ofNat 3)]
def v1071 : PyData := .tuple [.int (.ofNat 2), .int (.ofNat 2), .int (.ofNat 2), .int (.ofNat 1), .int (.ofNat 3)]
def v1072 : PyData := .tuple [.int (.ofNat 2), .int (.ofNat 2), .int (.ofNat 2), .int (.ofNat 2), .int (.ofNat 3)]
def v1073 : PyData := .tuple [.int (.ofNat 2), .int (.ofNat 2), .int (.ofNat 2), .int (.ofNat 3), .int (.ofNat 0)]
def v1074 : PyData := .tuple [.int (.ofNat 2), .int (.ofNat 2), .int (.ofNat 2), .int (.ofNat 3), .int (.ofNat 1)]
def v1075 : PyData := .tuple [.int (.ofNat 2), .int (.ofNat 2), .int (.ofNat 2), .int (.ofNat 3), .int (.ofNat 2)]
def v1076 : PyData := .tuple [.int (.ofNat 2), .int (.ofNat 2), .int (.ofNat 2), .int (.ofNat 3), .int (.ofNat 3)]
def v1077 : PyData := .tuple [.int (.ofNat 2), .int (.ofNat 2), .int (.ofNat 3), .int (.ofNat 0), .int (.ofNat 0)]
def v1078 : PyData := .tuple [.int (.ofNat 2), .int (.ofNat 2), .int (.ofNat 3), .int (.ofNat 0), .int (.ofNat 1)]
def v1079 : PyData := .tuple [.int (.ofNat 2), .int (.ofNat 2), .int (.ofNat 3), .int (.ofNat 0), .int (.ofNat 2)]
def v1080 : PyData := .tuple [.int (.ofNat 2), .int (.ofNat 2), .int (.ofNat 3), .int (.ofNat 0), .int (.ofNat 3)]
def v1081 : PyData := .tuple [.int (.ofNat 2), .int (.ofNat 2), .int (.ofNat 3), .int (.ofNat 1), .int (.ofNat 0)]
def v1082 : PyData := .tuple [.int (.ofNat 2), .int (.ofNat 2), .int (.ofNat 3), .int (.ofNat 1), .int (.ofNat 1)]
def v1083 : PyData := .tuple [.int (.ofNat 2), .int (.ofNat 2), .int (.ofNat 3), .int (.ofNat 1), .int (.ofNat 2)]
def v1084 : PyData := .tuple [.int (.ofNat 2), .int (.ofNat 2), .int (.ofNat 3), .int (.ofNat 1), .int (.ofNat 3)]
def v1085 : PyData := .tuple [.int (.ofNat 2), .int (.ofNat 2), .int (.ofNat 3), .int (.ofNat 2), .int (.ofNat 0)]
def v1086 : PyData := .tuple [.int (.ofNat 2), .int (.ofNat 2), .int (.ofNat 3), .int (.ofNat 2), .int (.ofNat 1)]
def v1087 : PyData := .tuple [.int (.ofNat 2), .int (.ofNat 2), .int (.ofNat 3), .int (.ofNat 2), .int (.ofNat 2)]
def v1088 : PyData := .tuple [.int (.ofNat 2), .int (.ofNat 2), .int (.ofNat 3), .int (.ofNat 2), .int (.ofNat 3)]
def v1089 : PyData := .tuple [.int (.ofNat 2), .int (.ofNat 2), .int (.ofNat 3), .int (.ofNat 3), .int (.ofNat 0)]
def v1090 : PyData := .tuple [.int (.ofNat 2), .int (.ofNat 2), .int (.ofNat 3), .int (.ofNat 3), .int (.ofNat 1)]
def v1091 : PyData := .tuple [.int (.ofNat 2), .int (.ofNat 2), .int (.ofNat 3), .int (.ofNat 3), .int (.ofNat 2)]
def v1092 : PyData := .tuple [.int (.ofNat 2), .int (.ofNat 2), .int (.ofNat 3), .int (.ofNat 3), .int (.ofNat 3)]
def v1093 : PyData := .tuple [.int (.ofNat 2), .int (.ofNat 3), .int (.ofNat 0), .int (.ofNat 0), .int (.ofNat 0)]
def v1094 : PyData := .tuple [.int (.ofNat 2), .int (.ofNat 3), .int (.ofNat 0), .int (.ofNat 0), .int (.ofNat 1)]
def v1095 : PyData := .tuple [.int (.ofNat 2), .int (.ofNat 3), .int (.ofNat 0), .int (.ofNat 0), .int (.ofNat 2)]
def v1096 : PyData := .tuple [.int (.ofNat 2), .int (.ofNat 3), .int (.ofNat 0), .int (.ofNat 0), .int (.ofNat 3)]
def v1097 : PyData := .tuple [.int (.ofNat 2), .int (.ofNat 3), .int (.ofNat 0), .int (.ofNat 1), .int (.ofNat 0)]
def v1098 : PyData := .tuple [.int (.ofNat 2), .int (.ofNat 3), .int (.ofNat 0), .int (.ofNat 1), .int (.ofNat 1)]
def v1099 : PyData := .tuple [.int (.ofNat 2), .int (.ofNat 3), .int (.ofNat 0), .int (.ofNat 1), .int (.ofNat 2)]
def v1100 : PyData := .tuple [.int (.ofNat 2), .int (.ofNat 3), .int (.ofNat 0), .int (.ofNat 1), .int (.ofNat 3)]
def v1101 : PyData := .tuple [.int (.ofNat 2), .int (.ofNat 3), .int (.ofNat 0), .int (.ofNat 2), .int (.ofNat 0)]
def v1102 : PyData := .tuple [.int (.ofNat 2), .int (.ofNat 3), .int (.ofNat 0), .int (.ofNat 2), .int (.ofNat 1)]
def v1103 : PyData := .tuple [.int (.ofNat 2), .int (.ofNat 3), .int (.ofNat 0), .int (.ofNat 2), .int (.ofNat 2)]
def v1104 : PyData := .tuple [.int (.ofNat 2), .int (.ofNat 3), .int (.ofNat 0), .int (.ofNat 2), .int (.ofNat 3)]
def v1105 : PyData := .tuple [.int (.ofNat 2), .int (.ofNat 3), .int (.ofNat 0), .int (.ofNat 3), .int (.ofNat 0)]
def v1106 : PyData := .tuple [.int (.ofNat 2), .int (.ofNat 3), .int (.ofNat 0), .int (.ofNat 3), .int (.ofNat 1)]
def v1107 : PyData := .tuple [.int (.ofNat 2), .int (.ofNat 3), .int (.ofNat 0), .int (.ofNat 3), .int (.ofNat 2)]
def v1108 : PyData := .tuple [.int (.ofNat 2), .int (.ofNat 3), .int (.ofNat 0), .int (.ofNat 3), .int (.ofNat 3)]
def v1109 : PyData := .tuple [.int (.ofNat 2), .int (.ofNat 3), .int (.ofNat 1), .int (.ofNat 0), .int (.ofNat 0)]
def v1110 : PyData := .tuple [.int (.ofNat 2), .int (.ofNat 3), .int (.ofNat 1), .int (.ofNat 0), .int (.ofNat 1)]
def v1111 : PyData := .tuple [.int (.ofNat 2), .int (.ofNat 3), .int (.ofNat 1), .int (.ofNat 0), .int (.ofNat 2)]
def v1112 : PyData := .tuple [.int (.ofNat 2), .int (.ofNat 3), .int (.ofNat 1), .int (.ofNat 0), .int (.ofNat 3)]
def v1113 : PyData := .tuple [.int (.ofNat 2), .int (.ofNat 3), .int (.ofNat 1), .int (.ofNat 1), .int (.ofNat 0)]
def v1114 : PyData := .tuple [.int (.ofNat 2), .int (.ofNat 3), .int (.ofNat 1), .int (.ofNat 1), .int (.ofNat 1)]
def v1115 : PyData := .tuple [.int (.ofNat 2), .int (.ofNat 3), .int (.ofNat 1), .int (.ofNat 1), .int (.ofNat 2)]
def v1116 : PyData := .tuple [.int (.ofNat 2), .int (.ofNat 3), .int (.ofNat 1), .int (.ofNat 1), .int (.ofNat 3)]
def v1117 : PyData := .tuple [.int (.ofNat 2), .int (.ofNat 3), .int (.ofNat 1), .int (.ofNat 2), .int (.ofNat 0)]
def v1118 : PyData := .tuple [.int (.ofNat 2), .int (.ofNat 3), .int (.ofNat 1), .int (.ofNat 2), .int (.ofNat 1)]
def v1119 : PyData := .tuple [.int (.ofNat 2), .int (.ofNat 3), .int (.ofNat 1), .int (.ofNat 2), .int (.ofNat 2)]
def v1120 : PyData := .tuple [.int (.ofNat 2), .int (.ofNat 3), .int (.ofNat 1), .int (.ofNat 2), .int (.ofNat 3)]
def v1121 : PyData := .tuple [.int (.ofNat 2), .int (.ofNat 3), .int (.ofNat 1), .int (.ofNat 3), .int (.ofNat 0)]
def v1122 : PyData := .tuple [.int (.ofNat 2), .int (.ofNat 3), .int (.ofNat 1), .int (.ofNat 3), .int (.ofNat 1)]
def v1123 : PyData := .tuple [.int (.ofNat 2), .int (.ofNat 3), .int (.ofNat 1), .int (.ofNat 3), .int (.ofNat 2)]
def v1124 : PyData := .tuple [.int (.ofNat 2), .int (.ofNat 3), .int (.ofNat 1), .int (.ofNat 3), .int (.ofNat 3)]
def v1125 : PyData := .tuple [.int (.ofNat 2), .int (.ofNat 3), .int (.ofNat 2), .int (.ofNat 0), .int (.ofNat 0)]
def v1126 : PyData := .tuple [.int (.ofNat 2), .int (.ofNat 3), .int (.ofNat 2), .int (.ofNat 0), .int (.ofNat 1)]
def v1127 : PyData := .tuple [.int (.ofNat 2), .int (.ofNat 3), .int (.ofNat 2), .int (.ofNat 0), .int (.ofNat 2)]
def v1128 : PyData := .tuple [.int (.ofNat 2), .int (.ofNat 3), .int (.ofNat 2), .int (.ofNat 0), .int (.ofNat 3)]
def v1129 : PyData := .tuple [.int (.ofNat 2), .int (.ofNat 3), .int (.ofNat 2), .int (.ofNat 1), .int (.ofNat 0)]
def v1130 : PyData := .tuple [.int (.ofNat 2), .int (.ofNat 3), .int (.ofNat 2), .int (.ofNat 1), .int (.ofNat 1)]
def v1131 : PyData := .tuple [.int (.ofNat 2), .int (.ofNat 3), .int (.ofNat 2), .int (.ofNat 1), .int (.ofNat 2)]
def v1132 : PyData := .tuple [.int (.ofNat 2), .int (.ofNat 3), .int (.ofNat 2), .int (.ofNat 1), .int (.ofNat 3)]
def v1133 : PyData := .tuple [.int (.ofNat 2), .int (.ofNat 3), .int (.ofNat 2), .int (.ofNat 2), .int (.ofNat 0)]
def v1134 : PyData := .tuple [.int (.ofNat 2), .int (.ofNat 3), .int (.ofNat 2), .int (.ofNat 2), .int (.ofNat 1)]
def v1135 : PyData := .tuple [.int (.ofNat 2), .int (.ofNat 3), .int (.ofNat 2), .int (.ofNat 2), .int (.ofNat 2)]
def v1136 : PyData := .tuple [.int (.ofNat 2), .int (.ofNat 3), .int (.ofNat 2), .int (.ofNat 2), .int (.ofNat 3)]
def v1137 : PyData := .tuple [.int (.ofNat 2), .int (.ofNat 3), .int (.ofNat 2), .int (.ofNat 3), .int (.ofNat 0)]
def v1138 : PyData := .tuple [.int (.ofNat 2), .int (.ofNat 3), .int (.ofNat 2), .int (.ofNat 3), .int (.ofNat 1)]
def v1139 : PyData := .tuple [.int (.ofNat 2), .int (.ofNat 3), .int (.ofNat 2), .int (.ofNat 3), .int (.ofNat 2)]
def v1140 : PyData := .tuple [.int (.ofNat 2), .int (.ofNat 3), .int (.ofNat 2), .int (.ofNat 3), .int (.ofNat 3)]
def v1141 : PyData := .tuple [.int (.ofNat 2), .int (.ofNat 3), .int (.ofNat 3), .int (.ofNat 0), .int (.ofNat 0)]
def v1142 : PyData := .tuple [.int (.ofNat 2), .int (.ofNat 3), .int (.ofNat 3), .int (.ofNat 0), .int (.ofNat 1)]
def v1143 : PyData := .tuple [.int (.ofNat 2), .int (.ofNat 3), .int (.ofNat 3), .int (.ofNat 0), .int (.ofNat 2)]
def v1144 : PyData := .tuple [.int (.ofNat 2), .int (.ofNat 3), .int (.ofNat 3), .int (.ofNat 0), .int (.ofNat 3)]
def v1145 : PyData := .tuple [.int (.ofNat 2), .int (.ofNat 3), .int (.ofNat 3), .int (.ofNat 1), .int (.ofNat 0)]
def v1146 : PyData := .tuple [.int (.ofNat 2), .int (.ofNat 3), .int (.ofNat 3), .int (.ofNat 1), .int (.ofNat 1)]
def v1147 : PyData := .tuple [.int (.ofNat 2), .int (.ofNat 3), .int (.ofNat 3), .int (.ofNat 1), .int (.ofNat 2)]
def v1148 : PyData := .tuple [.int (.ofNat 2), .int (.ofNat 3), .int (.ofNat 3), .int (.ofNat 1), .int (.ofNat 3)]
def v1149 : PyData := .tuple [.int (.ofNat 2), .int (.ofNat 3), .int (.ofNat 3), .int (.ofNat 2), .int (.ofNat 0)]
def v1150 : PyData := .tuple [.int (.ofNat 2), .int (.ofNat 3), .int (.ofNat 3), .int (.ofNat 2), .int (.ofNat 1)]
def v1151 : PyData := .tuple [.int (.ofNat 2), .int (.ofNat 3), .int (.ofNat 3), .int (.ofNat 2), .int (.ofNat 2)]
def v1152 : PyData := .tuple [.int (.ofNat 2), .int (.ofNat 3), .int (.ofNat 3), .int (.ofNat 2), .int (.ofNat 3)]
def v1153 : PyData := .tuple [.int (.ofNat 2), .int (.ofNat 3), .int (.ofNat 3), .int (.ofNat 3), .int (.ofNat 0)]
def v1154 : PyData := .tuple [.int (.ofNat 2), .int (.ofNat 3), .int (.ofNat 3), .int (.ofNat 3), .int (.ofNat 1)]
def v1155 : PyData := .tuple [.int (.ofNat 2), .int (.ofNat 3), .int (.ofNat 3), .int (.ofNat 3), .int (.ofNat 2)]
def v1156 : PyData := .tuple [.int (.ofNat 2), .int (.ofNat 3), .int (.ofNat 3), .int (.ofNat 3), .int (.ofNat 3)]
def v1157 : PyData := .tuple [.int (.ofNat 3), .int (.ofNat 0), .int (.ofNat 0), .int (.ofNat 0), .int (.ofNat 0)]
def v1158 : PyData := .tuple [.int (.ofNat 3), .int (.ofNat 0), .int (.ofNat 0), .int (.ofNat 0), .int (.ofNat 1)]
def v1159 : PyData := .tuple [.int (.ofNat 3), .int (.ofNat 0), .int (.ofNat 0), .int (.ofNat 0), .int (.ofNat 2)]
def v1160 : PyData := .tuple [.int (.ofNat 3), .int (.ofNat 0), .int (.ofNat 0), .int (.ofNat 0), .int (.ofNat 3)]
def v1161 : PyData := .tuple [.int (.ofNat 3), .int (.ofNat 0), .int (.ofNat 0), .int (.ofNat 1), .int (.ofNat 0)]
def v1162 : PyData := .tuple [.int (.ofNat 3), .int (.ofNat 0), .int (.ofNat 0), .int (.ofNat 1), .int (.ofNat 1)]
def v1163 : PyData := .tuple [.int (.ofNat 3), .int (.ofNat 0), .int (.ofNat 0), .int (.ofNat 1), .int (.ofNat 2)]
def v1164 : PyData := .tuple [.int (.ofNat 3), .int (.ofNat 0), .int (.ofNat 0), .int (.ofNat 1), .int (.ofNat 3)]
def v1165 : PyData := .tuple [.int (.ofNat 3), .int (.ofNat 0), .int (.ofNat 0), .int (.ofNat 2), .int (.ofNat 0)]
def v1166 : PyData := .tuple [.int (.ofNat 3), .int (.ofNat 0), .int (.ofNat 0), .int (.ofNat 2), .int (.ofNat 1)]
def v1167 : PyData := .tuple [.int (.ofNat 3), .int (.ofNat 0), .int (.ofNat 0), .int (.ofNat 2), .int (.ofNat 2)]
def v1168 : PyData := .tuple [.int (.ofNat 3), .int (.ofNat 0), .int (.ofNat 0), .int (.ofNat 2), .int (.ofNat 3)]
def v1169 : PyData := .tuple [.int (.ofNat 3), .int (.ofNat 0), .int (.ofNat 0), .int (.ofNat 3), .int (.ofNat 0)]
def v1170 : PyData := .tuple [.int (.ofNat 3), .int (.ofNat 0), .int (.ofNat 0), .int (.ofNat 3), .int (.ofNat 1)]
def v1171 : PyData := .tuple [.int (.ofNat 3), .int (.ofNat 0), .int (.ofNat 0), .int (.ofNat 3), .int (.ofNat 2)]
def v1172 : PyData := .tuple [.int (.ofNat 3), .int (.ofNat 0), .int (.ofNat 0), .int (.ofNat 3), .int (.ofNat 3)]
def v1173 : PyData := .tuple [.int (.ofNat 3), .int (.ofNat 0), .int (.ofNat 1), .int (.ofNat 0), .int (.ofNat 0)]
def v1174 : PyData := .tuple [.int (.ofNat 3), .int (.ofNat 0), .int (.ofNat 1), .int (.ofNat 0), .int (.ofNat 1)]
def v1175 : PyData := .tuple [.int (.ofNat 3), .int (.ofNat 0), .int (.ofNat 1), .int (.ofNat 0), .int (.ofNat 2)]
def v1176 : PyData := .tuple [.int (.ofNat 3), .int (.ofNat 0), .int (.ofNat 1), .int (.ofNat 0), .int (.ofNat 3)]
def v1177 : PyData := .tuple [.int (.ofNat 3), .int (.ofNat 0), .int (.ofNat 1), .int (.ofNat 1), .int (.ofNat 0)]
def v1178 : PyData := .tuple [.int (.ofNat 3), .int (.ofNat 0), .int (.ofNat 1), .int (.ofNat 1), .int (.ofNat 1)]
def v1179 : PyData := .tuple [.int (.ofNat 3), .int (.ofNat 0), .int (.ofNat 1), .int (.ofNat 1), .int (.ofNat 2)]
def v1180 : PyData := .tuple [.int (.ofNat 3), .int (.ofNat 0), .int (.ofNat 1), .int (.ofNat 1), .int (.ofNat 3)]
def v1181 : PyData := .tuple [.int (.ofNat 3), .int (.ofNat 0), .int (.ofNat 1), .int (.ofNat 2), .int (.ofNat 0)]
def v1182 : PyData := .tuple [.int (.ofNat 3), .int (.ofNat 0), .int (.ofNat 1), .int (.ofNat 2), .int (.ofNat 1)]
def v1183 : PyData := .tuple [.int (.ofNat 3), .int (.ofNat 0), .int (.ofNat 1), .int (.ofNat 2), .int (.ofNat 2)]
def v1184 : PyData := .tuple [.int (.ofNat 3), .int (.ofNat 0), .int (.ofNat 1), .int (.ofNat 2), .int (.ofNat 3)]
def v1185 : PyData := .tuple [.int (.ofNat 3), .int (.ofNat 0), .int (.ofNat 1), .int (.ofNat 3), .int (.ofNat 0)]
def v1186 : PyData := .tuple [.int (.ofNat 3), .int (.ofNat 0), .int (.ofNat 1), .int (.ofNat 3), .int (.ofNat 1)]
def v1187 : PyData := .tuple [.int (.ofNat 3), .int (.ofNat 0), .int (.ofNat 1), .int (.ofNat 3), .int (.ofNat 2)]
def v1188 : PyData := .tuple [.int (.ofNat 3), .int (.ofNat 0), .int (.ofNat 1), .int (.ofNat 3), .int (.ofNat 3)]
def v1189 : PyData := .tuple [.int (.ofNat 3), .int (.ofNat 0), .int (.ofNat 2), .int (.ofNat 0), .int (.ofNat 0)]
def v1190 : PyData := .tuple [.int (.ofNat 3), .int (.ofNat 0), .int (.ofNat 2), .int (.ofNat 0), .int (.ofNat 1)]
def v1191 : PyData := .tuple [.int (.ofNat 3), .int (.ofNat 0), .int (.ofNat 2), .int (.ofNat 0), .int (.ofNat 2)]
def v1192 : PyData := .tuple [.int (.ofNat 3), .int (.ofNat 0), .int (.ofNat 2), .int (.ofNat 0), .int (.ofNat 3)]
def v1193 : PyData := .tuple [.int (.ofNat 3), .int (.ofNat 0), .int (.ofNat 2), .int (.ofNat 1), .int (.ofNat 0)]
def v1194 : PyData := .tuple [.int (.ofNat 3), .int (.ofNat 0), .int (.ofNat 2), .int (.ofNat 1), .int (.ofNat 1)]
def v1195 : PyData := .tuple [.int (.ofNat 3), .int (.ofNat 0), .int (.ofNat 2), .int (.ofNat 1), .int (.ofNat 2)]
def v1196 : PyData := .tuple [.int (.ofNat 3), .int (.ofNat 0), .int (.ofNat 2), .int (.ofNat 1), .int (.ofNat 3)]
def v1197 : PyData := .tuple [.int (.ofNat 3), .int (.ofNat 0), .int (.ofNat 2), .int (.ofNat 2), .int (.ofNat 0)]
def v1198 : PyData := .tuple [.int (.ofNat 3), .int (.ofNat 0), .int (.ofNat 2), .int (.ofNat 2), .int (.ofNat 1)]
def v1199 : PyData := .tuple [.int (.ofNat 3), .int (.ofNat 0), .int (.ofNat 2), .int (.ofNat 2), .int (.ofNat 2)]
def v1200 : PyData := .tuple [.int (.ofNat 3), .int (.ofNat 0), .int (.ofNat 2), .int (.ofNat 2), .int (.ofNat 3)]
def v1201 : PyData := .tuple [.int (.ofNat 3), .int (.ofNat 0), .int (.ofNat 2), .int (.ofNat 3), .int (.ofNat 0)]
def v1202 : PyData := .tuple [.int (.ofNat 3), .int (.ofNat 0), .int (.ofNat 2), .int (.ofNat 3), .int (.ofNat 1)]
def v1203 : PyData := .tuple [.int (.ofNat 3), .int (.ofNat 0), .int (.ofNat 2), .int (.ofNat 3), .int (.ofNat 2)]
def v1204 : PyData := .tuple [.int (.ofNat 3), .int (.ofNat 0), .int (.ofNat 2), .int (.ofNat 3), .int (.ofNat 3)]
def v1205 : PyData := .tuple [.int (.ofNat 3), .int (.ofNat 0), .int (.ofNat 3), .int (.ofNat 0), .int (.ofNat 0)]
def v1206 : PyData := .tuple [.int (.ofNat 3), .int (.ofNat 0), .int (.ofNat 3), .int (.ofNat 0), .int (.ofNat 1)]
def v1207 : PyData := .tuple [.int (.ofNat 3), .int (.ofNat 0), .int (.ofNat 3), .int (.ofNat 0), .int (.ofNat 2)]
def v1208 : PyData := .tuple [.int (.ofNat 3), .int (.ofNat 0), .int (.ofNat 3), .int (.ofNat 0), .int (.ofNat 3)]
def v1209 : PyData := .tuple [.int (.ofNat 3), .int (.ofNat 0), .int (.ofNat 3), .int (.ofNat 1), .int (.ofNat 0)]
def v1210 : PyData := .tuple [.int (.ofNat 3), .int (.ofNat 0), .int (.ofNat 3), .int (.ofNat 1), .int (.ofNat 1)]
def v1211 : PyData := .tuple [.int (.ofNat 3), .int (.ofNat 0), .int (.ofNat 3), .int (.ofNat 1), .int (.ofNat 2)]
def v1212 : PyData := .tuple [.int (.ofNat 3), .int (.ofNat 0), .int (.ofNat 3), .int (.ofNat 1), .int (.ofNat 3)]
def v1213 : PyData := .tuple [.int (.ofNat 3), .int (.ofNat 0), .int (.ofNat 3), .int (.ofNat 2), .int (.ofNat 0)]
def v1214 : PyData := .tuple [.int (.ofNat 3), .int (.ofNat 0), .int (.ofNat 3), .int (.ofNat 2), .int (.ofNat 1)]
def v1215 : PyData := .tuple [.int (.ofNat 3), .int (.ofNat 0), .int (.ofNat 3), .int (.ofNat 2), .int (.ofNat 2)]
def v1216 : PyData := .tuple [.int (.ofNat 3), .int (.ofNat 0), .int (.ofNat 3), .int (.ofNat 2), .int (.ofNat 3)]
def v1217 : PyData := .tuple [.int (.ofNat 3), .int (.ofNat 0), .int (.ofNat 3), .int (.ofNat 3), .int (.ofNat 0)]
def v1218 : PyData := .tuple [.int (.ofNat 3), .int (.ofNat 0), .int (.ofNat 3), .int (.ofNat 3), .int (.ofNat 1)]
def v1219 : PyData := .tuple [.int (.ofNat 3), .int (.ofNat 0), .int (.ofNat 3), .int (.ofNat 3), .int (.ofNat 2)]
def v1220 : PyData := .tuple [.int (.ofNat 3), .int (.ofNat 0), .int (.ofNat 3), .int (.ofNat 3), .int (.ofNat 3)]
def v1221 : PyData := .tuple [.int (.ofNat 3), .int (.ofNat 1), .int (.ofNat 0), .int (.ofNat 0), .int (.ofNat 0)]
def v1222 : PyData := .tuple [.int (.ofNat 3), .int (.ofNat 1), .int (.ofNat 0), .int (.ofNat 0), .int (.ofNat 1)]
def v1223 : PyData := .tuple [.int (.ofNat 3), .int (.ofNat 1), .int (.ofNat 0), .int (.ofNat 0), .int (.ofNat 2)]
def v1224 : PyData := .tuple [.int (.ofNat 3), .int (.ofNat 1), .int (.ofNat 0), .int (.ofNat 0), .int (.ofNat 3)]
def v1225 : PyData := .tuple [.int (.ofNat 3), .int (.ofNat 1), .int (.ofNat 0), .int (.ofNat 1), .int (.ofNat 0)]
def v1226 : PyData := .tuple [.int (.ofNat 3), .int (.ofNat 1), .int (.ofNat 0), .int (.ofNat 1), .int (.ofNat 1)]
def v1227 : PyData := .tuple [.int (.ofNat 3), .int (.ofNat 1), .int (.ofNat 0), .int (.ofNat 1), .int (.ofNat 2)]
def v1228 : PyData := .tuple [.int (.ofNat 3), .int (.ofNat 1), .int (.ofNat 0), .int (.ofNat 1), .int (.ofNat 3)]
def v1229 : PyData := .tuple [.int (.ofNat 3), .int (.ofNat 1), .int (.ofNat 0), .int (.ofNat 2), .int (.ofNat 0)]
def v1230 : PyData := .tuple [.int (.ofNat 3), .int (.ofNat 1), .int (.ofNat 0), .int (.ofNat 2), .int (.ofNat 1)]
def v1231 : PyData := .tuple [.int (.ofNat 3), .int (.ofNat 1), .int (.ofNat 0), .int (.ofNat 2), .int (.ofNat 2)]
def v1232 : PyData := .tuple [.int (.ofNat 3), .int (.ofNat 1), .int (.ofNat 0), .int (.ofNat 2), .int (.ofNat 3)]
def v1233 : PyData := .tuple [.int (.ofNat 3), .int (.ofNat 1), .int (.ofNat 0), .int (.ofNat 3), .int (.ofNat 0)]
def v1234 : PyData := .tuple [.int (.ofNat 3), .int (.ofNat 1), .int (.ofNat 0), .int (.ofNat 3), .int (.ofNat 1)]
def v1235 : PyData := .tuple [.int (.ofNat 3), .int (.ofNat 1), .int (.ofNat 0), .int (.ofNat 3), .int (.ofNat 2)]
def v1236 : PyData := .tuple [.int (.ofNat 3), .int (.ofNat 1), .int (.ofNat 0), .int (.ofNat 3), .int (.ofNat 3)]
def v1237 : PyData := .tuple [.int (.ofNat 3), .int (.ofNat 1), .int (.ofNat 1), .int (.ofNat 0), .int (.ofNat 0)]
def v1238 : PyData := .tuple [.int (.ofNat 3), .int (.ofNat 1), .int (.ofNat 1), .int (.ofNat 0), .int (.ofNat 1)]
def v1239 : PyData := .tuple [.int (.ofNat 3), .int (.ofNat 1), .int (.ofNat 1), .int (.ofNat 0), .int (.ofNat 2)]
def v1240 : PyData := .tuple [.int (.ofNat 3), .int (.ofNat 1), .int (.ofNat 1), .int (.ofNat 0), .int (.ofNat 3)]
def v1241 : PyData := .tuple [.int (.ofNat 3), .int (.ofNat 1), .int (.ofNat 1), .int (.ofNat 1), .int (.ofNat 0)]
def v1242 : PyData := .tuple [.int (.ofNat 3), .int (.ofNat 1), .int (.ofNat 1), .int (.ofNat 1), .int (.ofNat 1)]
def v1243 : PyData := .tuple [.int (.ofNat 3), .int (.ofNat 1), .int (.ofNat 1), .int (.ofNat 1), .int (.ofNat 2)]
def v1244 : PyData := .tuple [.int (.ofNat 3), .int (.ofNat 1), .int (.ofNat 1), .int (.ofNat 1), .int (.ofNat 3)]
def v1245 : PyData := .tuple [.int (.ofNat 3), .int (.ofNat 1), .int (.ofNat 1), .int (.ofNat 2), .int (.ofNat 0)]
def v1246 : PyData := .tuple [.int (.ofNat 3), .int (.ofNat 1), .int (.ofNat 1), .int (.ofNat 2), .int (.ofNat 1)]
def v1247 : PyData := .tuple [.int (.ofNat 3), .int (.ofNat 1), .int (.ofNat 1), .int (.ofNat 2), .int (.ofNat 2)]
def v1248 : PyData := .tuple [.int (.ofNat 3), .int (.ofNat 1), .int (.ofNat 1), .int (.ofNat 2), .int (.ofNat 3)]
def v1249 : PyData := .tuple [.int (.ofNat 3), .int (.ofNat 1), .int (.ofNat 1), .int (.ofNat 3), .int (.ofNat 0)]
def v1250 : PyData := .tuple [.int (.ofNat 3), .int (.ofNat 1), .int (.ofNat 1), .int (.ofNat 3), .int (.ofNat 1)]
def v1251 : PyData := .tuple [.int (.ofNat 3), .int (.ofNat 1), .int (.ofNat 1), .int (.ofNat 3), .int (.ofNat 2)]
def v1252 : PyData := .tuple [.int (.ofNat 3), .int (.ofNat 1), .int (.ofNat 1), .int (.ofNat 3), .int (.ofNat 3)]
def v1253 : PyData := .tuple [.int (.ofNat 3), .int (.ofNat 1), .int (.ofNat 2), .int (.ofNat 0), .int (.ofNat 0)]
def v1254 : PyData := .tuple [.int (.ofNat 3), .int (.ofNat 1), .int (.ofNat 2), .int (.ofNat 0), .int (.ofNat 1)]
def v1255 : PyData := .tuple [.int (.ofNat 3), .int (.ofNat 1), .int (.ofNat 2), .int (.ofNat 0), .int (.ofNat 2)]
def v1256 : PyData := .tuple [.int (.ofNat 3), .int (.ofNat 1), .int (.ofNat 2), .int (.ofNat 0), .int (.ofNat 3)]
def v1257 : PyData := .tuple [.int (.ofNat 3), .int (.ofNat 1), .int (.ofNat 2), .int (.ofNat 1), .int (.ofNat 0)]
def v1258 : PyData := .tuple [.int (.ofNat 3), .int (.ofNat 1), .int (.ofNat 2), .int (.ofNat 1), .int (.ofNat 1)]
def v1259 : PyData := .tuple [.int (.ofNat 3), .int (.ofNat 1), .int (.ofNat 2), .int (.ofNat 1), .int (.ofNat 2)]
def v1260 : PyData := .tuple [.int (.ofNat 3), .int (.ofNat 1), .int (.ofNat 2), .int (.ofNat 1), .int (.ofNat 3)]
def v1261 : PyData := .tuple [.int (.ofNat 3), .int (.ofNat 1), .int (.ofNat 2), .int (.ofNat 2), .int (.ofNat 0)]
def v1262 : PyData := .tuple [.int (.ofNat 3), .int (.ofNat 1), .int (.ofNat 2), .int (.ofNat 2), .int (.ofNat 1)]
def v1263 : PyData := .tuple [.int (.ofNat 3), .int (.ofNat 1), .int (.ofNat 2), .int (.ofNat 2), .int (.ofNat 2)]
def v1264 : PyData := .tuple [.int (.ofNat 3), .int (.ofNat 1), .int (.ofNat 2), .int (.ofNat 2), .int (.ofNat 3)]
def v1265 : PyData := .tuple [.int (.ofNat 3), .int (.ofNat 1), .int (.ofNat 2), .int (.ofNat 3), .int (.ofNat 0)]
def v1266 : PyData := .tuple [.int (.ofNat 3), .int (.ofNat 1), .int (.ofNat 2), .int (.ofNat 3), .int (.ofNat 1)]
def v1267 : PyData := .tuple [.int (.ofNat 3), .int (.ofNat 1), .int (.ofNat 2), .int (.ofNat 3), .int (.ofNat 2)]
def v1268 : PyData := .tuple [.int (.ofNat 3), .int (.ofNat 1), .int (.ofNat 2), .int (.ofNat 3), .int (.ofNat 3)]
def v1269 : PyData := .tuple [.int (.ofNat 3), .int (.ofNat 1), .int (.ofNat 3), .int (.ofNat 0), .int (.ofNat 0)]
def v1270 : PyData := .tuple [.int (.ofNat 3), .int (.ofNat 1), .int (.ofNat 3), .int (.ofNat 0), .int (.ofNat 1)]
def v1271 : PyData := .tuple [.int (.ofNat 3), .int (.ofNat 1), .int (.ofNat 3), .int (.ofNat 0), .int (.ofNat 2)]
def v1272 : PyData := .tuple [.int (.ofNat 3), .int (.ofNat 1), .int (.ofNat 3), .int (.ofNat 0), .int (.ofNat 3)]
def v1273 : PyData := .tuple [.int (.ofNat 3), .int (.ofNat 1), .int (.ofNat 3), .int (.ofNat 1), .int (.ofNat 0)]
def v1274 : PyData := .tuple [.int (.ofNat 3), .int (.ofNat 1), .int (.ofNat 3), .int (.ofNat 1), .int (.ofNat 1)]
def v1275 : PyData := .tuple [.int (.ofNat 3), .int (.ofNat 1), .int (.ofNat 3), .int (.ofNat 1), .int (.ofNat 2)]
def v1276 : PyData := .tuple [.int (.ofNat 3), .int (.ofNat 1), .int (.ofNat 3), .int (.ofNat 1), .int (.ofNat 3)]
def v1277 : PyData := .tuple [.int (.ofNat 3), .int (.ofNat 1), .int (.ofNat 3), .int (.ofNat 2), .int (.ofNat 0)]
def v1278 : PyData := .tuple [.int (.ofNat 3), .int (.ofNat 1), .int (.ofNat 3), .int (.ofNat 2), .int (.ofNat 1)]
def v1279 : PyData := .tuple [.int (.ofNat 3), .int (.ofNat 1), .int (.ofNat 3), .int (.ofNat 2), .int (.ofNat 2)]
def v1280 : PyData := .tuple [.int (.ofNat 3), .int (.ofNat 1), .int (.ofNat 3), .int (.ofNat 2), .int (.ofNat 3)]
def v1281 : PyData := .tuple [.int (.ofNat 3), .int (.ofNat 1), .int (.ofNat 3), .int (.ofNat 3), .int (.ofNat 0)]
def v1282 : PyData := .tuple [.int (.ofNat 3), .int (.ofNat 1), .int (.ofNat 3), .int (.ofNat 3), .int (.ofNat 1)]
def v1283 : PyData := .tuple [.int (.ofNat 3), .int (.ofNat 1), .int (.ofNat 3), .int (.ofNat 3), .int (.ofNat 2)]
def v1284 : PyData := .tuple [.int (.ofNat 3), .int (.ofNat 1), .int (.ofNat 3), .int (.ofNat 3), .int (.ofNat 3)]
def v1285 : PyData := .tuple [.int (.ofNat 3), .int (.ofNat 2), .int (.ofNat 0), .int (.ofNat 0), .int (.ofNat 0)]
def v1286 : PyData := .tuple [.int (.ofNat 3), .int (.ofNat 2), .int (.ofNat 0), .int (.ofNat 0), .int (.ofNat 1)]
def v1287 : PyData := .tuple [.int (.ofNat 3), .int (.ofNat 2), .int (.ofNat 0), .int (.ofNat 0), .int (.ofNat 2)]
def v1288 : PyData := .tuple [.int (.ofNat 3), .int (.ofNat 2), .int (.ofNat 0), .int (.ofNat 0), .int (.ofNat 3)]
def v1289 : PyData := .tuple [.int (.ofNat 3), .int (.ofNat 2), .int (.ofNat 0), .int (.ofNat 1), .int (.ofNat 0)]
def v1290 : PyData := .tuple [.int (.ofNat 3), .int (.ofNat 2), .int (.ofNat 0), .int (.ofNat 1), .int (.ofNat 1)]
def v1291 : PyData := .tuple [.int (.ofNat 3), .int (.ofNat 2), .int (.ofNat 0), .int (.ofNat 1), .int (.ofNat 2)]
def v1292 : PyData := .tuple [.int (.ofNat 3), .int (.ofNat 2), .int (.ofNat 0), .int (.ofNat 1), .int (.ofNat 3)]
def v1293 : PyData := .tuple [.int (.ofNat 3), .int (.ofNat 2), .int (.ofNat 0), .int (.ofNat 2), .int (.ofNat 0)]
def v1294 : PyData := .tuple [.int (.ofNat 3), .int (.ofNat 2), .int (.ofNat 0), .int (.ofNat 2), .int (.ofNat 1)]
def v1295 : PyData := .tuple [.int (.ofNat 3), .int (.ofNat 2), .int (.ofNat 0), .int (.ofNat 2), .int (.ofNat 2)]
def v1296 : PyData := .tuple [.int (.ofNat 3), .int (.ofNat 2), .int (.ofNat 0), .int (.ofNat 2), .int (.ofNat 3)]
def v1297 : PyData := .tuple [.int (.ofNat 3), .int (.ofNat 2), .int (.ofNat 0), .int (.ofNat 3), .int (.ofNat 0)]
def v1298 : PyData := .tuple [.int (.ofNat 3), .int (.ofNat 2), .int (.ofNat 0), .int (.ofNat 3), .int (.ofNat 1)]
def v1299 : PyData := .tuple [.int (.ofNat 3), .int (.ofNat 2), .int (.ofNat 0), .int (.ofNat 3), .int (.ofNat 2)]
def v1300 : PyData := .tuple [.int (.ofNat 3), .int (.ofNat 2), .int (.ofNat 0), .int (.ofNat 3), .int (.ofNat 3)]
def v1301 : PyData := .tuple [.int (.ofNat 3), .int (.ofNat 2), .int (.ofNat 1), .int (.ofNat 0), .int (.ofNat 0)]
def v1302 : PyData := .tuple [.int (.ofNat 3), .int (.ofNat 2), .int (.ofNat 1), .int (.ofNat 0), .int (.ofNat 1)]
def v1303 : PyData := .tuple [.int (.ofNat 3), .int (.ofNat 2), .int (.ofNat 1), .int (.ofNat 0), .int (.ofNat 2)]
def v1304 : PyData := .tuple [.int (.ofNat 3), .int (.ofNat 2), .int (.ofNat 1), .int (.ofNat 0), .int (.ofNat 3)]
def v1305 : PyData := .tuple [.int (.ofNat 3), .int (.ofNat 2), .int (.ofNat 1), .int (.ofNat 1), .int (.ofNat 0)]
def v1306 : PyData := .tuple [.int (.ofNat 3), .int (.ofNat 2), .int (.ofNat 1), .int (.ofNat 1), .int (.ofNat 1)]
def v1307 : PyData := .tuple [.int (.ofNat 3), .int (.ofNat 2), .int (.ofNat 1), .int (.ofNat 1), .int (.ofNat 2)]
def v1308 : PyData := .tuple [.int (.ofNat 3), .int (.ofNat 2), .int (.ofNat 1), .int (.ofNat 1), .int (.ofNat 3)]
def v1309 : PyData := .tuple [.int (.ofNat 3), .int (.ofNat 2), .int (.ofNat 1), .int (.ofNat 2), .int (.ofNat 0)]
def v1310 : PyData := .tuple [.int (.ofNat 3), .int (.ofNat 2), .int (.ofNat 1), .int (.ofNat 2), .int (.ofNat 1)]
def v1311 : PyData := .tuple [.int (.ofNat 3), .int (.ofNat 2), .int (.ofNat 1), .int (.ofNat 2), .int (.ofNat 2)]
def v1312 : PyData := .tuple [.int (.ofNat 3), .int (.ofNat 2), .int (.ofNat 1), .int (.ofNat 2), .int (.ofNat 3)]
def v1313 : PyData := .tuple [.int (.ofNat 3), .int (.ofNat 2), .int (.ofNat 1), .int (.ofNat 3), .int (.ofNat 0)]
def v1314 : PyData := .tuple [.int (.ofNat 3), .int (.ofNat 2), .int (.ofNat 1), .int (.ofNat 3), .int (.ofNat 1)]
def v1315 : PyData := .tuple [.int (.ofNat 3), .int (.ofNat 2), .int (.ofNat 1), .int (.ofNat 3), .int (.ofNat 2)]
def v1316 : PyData := .tuple [.int (.ofNat 3), .int (.ofNat 2), .int (.ofNat 1), .int (.ofNat 3), .int (.ofNat 3)]
def v1317 : PyData := .tuple [.int (.ofNat 3), .int (.ofNat 2), .int (.ofNat 2), .int (.ofNat 0), .int (.ofNat 0)]
def v1318 : PyData := .tuple [.int (.ofNat 3), .int (.ofNat 2), .int (.ofNat 2), .int (.ofNat 0), .int (.ofNat 1)]
def v1319 : PyData := .tuple [.int (.ofNat 3), .int (.ofNat 2), .int (.ofNat 2), .int (.ofNat 0), .int (.ofNat 2)]
def v1320 : PyData := .tuple [.int (.ofNat 3), .int (.ofNat 2), .int (.ofNat 2), .int (.ofNat 0), .int (.ofNat 3)]
def v1321 : PyData := .tuple [.int (.ofNat 3), .int (.ofNat 2), .int (.ofNat 2), .int (.ofNat 1), .int (.ofNat 0)]
def v1322 : PyData := .tuple [.int (.ofNat 3), .int (.ofNat 2), .int (.ofNat 2), .int (.ofNat 1), .int (.ofNat 1)]
def v1323 : PyData := .tuple [.int (.ofNat 3), .int (.ofNat 2), .int (.ofNat 2), .int (.ofNat 1), .int (.ofNat 2)]
def v1324 : PyData := .tuple [.int (.ofNat 3), .int (.ofNat 2), .int (.ofNat 2), .int (.ofNat 1), .int (.ofNat 3)]
def v1325 : PyData := .tuple [.int (.ofNat 3), .int (.ofNat 2), .int (.ofNat 2), .int (.ofNat 2), .int (.ofNat 0)]
def v1326 : PyData := .tuple [.int (.ofNat 3), .int (.ofNat 2), .int (.ofNat 2), .int (.ofNat 2), .int (.ofNat 1)]
def v1327 : PyData := .tuple [.int (.ofNat 3), .int (.ofNat 2), .int (.ofNat 2), .int (.ofNat 2), .int (.ofNat 2)]
def v1328 : PyData := .tuple [.int (.ofNat 3), .int (.ofNat 2), .int (.ofNat 2), .int (.ofNat 2), .int (.ofNat 3)]
def v1329 : PyData := .tuple [.int (.ofNat 3), .int (.ofNat 2), .int (.ofNat 2), .int (.ofNat 3), .int (.ofNat 0)]
def v1330 : PyData := .tuple [.int (.ofNat 3), .int (.ofNat 2), .int (.ofNat 2), .int (.ofNat 3), .int (.ofNat 1)]
def v1331 : PyData := .tuple [.int (.ofNat 3), .int (.ofNat 2), .int (.ofNat 2), .int (.ofNat 3), .int (.ofNat 2)]
def v1332 : PyData := .tuple [.int (.ofNat 3), .int (.ofNat 2), .int (.ofNat 2), .int (.ofNat 3), .int (.ofNat 3)]
def v1333 : PyData := .tuple [.int (.ofNat 3), .int (.ofNat 2), .int (.ofNat 3), .int (.ofNat 0), .int (.ofNat 0)]
def v1334 : PyData := .tuple [.int (.ofNat 3), .int (.ofNat 2), .int (.ofNat 3), .int (.ofNat 0), .int (.ofNat 1)]
def v1335 : PyData := .tuple [.int (.ofNat 3), .int (.ofNat 2), .int (.ofNat 3), .int (.ofNat 0), .int (.ofNat 2)]
def v1336 : PyData := .tuple [.int (.ofNat 3), .int (.ofNat 2), .int (.ofNat 3), .int (.ofNat 0), .int (.ofNat 3)]
def v1337 : PyData := .tuple [.int (.ofNat 3), .int (.ofNat 2), .int (.ofNat 3), .int (.ofNat 1), .int (.ofNat 0)]
def v1338 : PyData := .tuple [.int (.ofNat 3), .int (.ofNat 2), .int (.ofNat 3), .int (.ofNat 1), .int (.ofNat 1)]
def v1339 : PyData := .tuple [.int (.ofNat 3), .int (.ofNat 2), .int (.ofNat 3), .int (.ofNat 1), .int (.ofNat 2)]
def v1340 : PyData := .tuple [.int (.ofNat 3), .int (.ofNat 2), .int (.ofNat 3), .int (.ofNat 1), .int (.ofNat 3)]
def v1341 : PyData := .tuple [.int (.ofNat 3), .int (.ofNat 2), .int (.ofNat 3), .int (.ofNat 2), .int (.ofNat 0)]
def v1342 : PyData := .tuple [.int (.ofNat 3), .int (.ofNat 2), .int (.ofNat 3), .int (.ofNat 2), .int (.ofNat 1)]
def v1343 : PyData := .tuple [.int (.ofNat 3), .int (.ofNat 2), .int (.ofNat 3), .int (.ofNat 2), .int (.ofNat 2)]
def v1344 : PyData := .tuple [.int (.ofNat 3), .int (.ofNat 2), .int (.ofNat 3), .int (.ofNat 2), .int (.ofNat 3)]
def v1345 : PyData := .tuple [.int (.ofNat 3), .int (.ofNat 2), .int (.ofNat 3), .int (.ofNat 3), .int (.ofNat 0)]
def v1346 : PyData := .tuple [.int (.ofNat 3), .int (.ofNat 2), .int (.ofNat 3), .int (.ofNat 3), .int (.ofNat 1)]
def v1347 : PyData := .tuple [.int (.ofNat 3), .int (.ofNat 2), .int (.ofNat 3), .int (.ofNat 3), .int (.ofNat 2)]
def v1348 : PyData := .tuple [.int (.ofNat 3), .int (.ofNat 2), .int (.ofNat 3), .int (.ofNat 3), .int (.ofNat 3)]
def v1349 : PyData := .tuple [.int (.ofNat 3), .int (.ofNat 3), .int (.ofNat 0), .int (.ofNat 0), .int (.ofNat 0)]
def v1350 : PyData := .tuple [.int (.ofNat 3), .int (.ofNat 3), .int (.ofNat 0), .int (.ofNat 0), .int (.ofNat 1)]
def v1351 : PyData := .tuple [.int (.ofNat 3), .int (.ofNat 3), .int (.ofNat 0), .int (.ofNat 0), .int (.ofNat 2)]
def v1352 : PyData := .tuple [.int (.ofNat 3), .int (.ofNat 3), .int (.ofNat 0), .int (.ofNat 0), .int (.ofNat 3)]
def v1353 : PyData := .tuple [.int (.ofNat 3), .int (.ofNat 3), .int (.ofNat 0), .int (.ofNat 1), .int (.ofNat 0)]
def v1354 : PyData := .tuple [.int (.ofNat 3), .int (.ofNat 3), .int (.ofNat 0), .int (.ofNat 1), .int (.ofNat 1)]
def v1355 : PyData := .tuple [.int (.ofNat 3), .int (.ofNat 3), .int (.ofNat 0), .int (.ofNat 1), .int (.ofNat 2)]
def v1356 : PyData := .tuple [.int (.ofNat 3), .int (.ofNat 3), .int (.ofNat 0), .int (.ofNat 1), .int (.ofNat 3)]
def v1357 : PyData := .tuple [.int (.ofNat 3), .int (.ofNat 3), .int (.ofNat 0), .int (.ofNat 2), .int (.ofNat 0)]
def v1358 : PyData := .tuple [.int (.ofNat 3), .int (.ofNat 3), .int (.ofNat 0), .int (.ofNat 2), .int (.ofNat 1)]
def v1359 : PyData := .tuple [.int (.ofNat 3), .int (.ofNat 3), .int (.ofNat 0), .int (.ofNat 2), .int (.ofNat 2)]
def v1360 : PyData := .tuple [.int (.ofNat 3), .int (.ofNat 3), .int (.ofNat 0), .int (.ofNat 2), .int (.ofNat 3)]
def v1361 : PyData := .tuple [.int (.ofNat 3), .int (.ofNat 3), .int (.ofNat 0), .int (.ofNat 3), .int (.ofNat 0)]
def v1362 : PyData := .tuple [.int (.ofNat 3), .int (.ofNat 3), .int (.ofNat 0), .int (.ofNat 3), .int (.ofNat 1)]
def v1363 : PyData := .tuple [.int (.ofNat 3), .int (.ofNat 3), .int (.ofNat 0), .int (.ofNat 3), .int (.ofNat 2)]
def v1364 : PyData := .tuple [.int (.ofNat 3), .int (.ofNat 3), .int (.ofNat 0), .int (.ofNat 3), .int (.ofNat 3)]
def v1365 : PyData := .tuple [.int (.ofNat 3), .int (.ofNat 3), .int (.ofNat 1), .int (.ofNat 0), .int (.ofNat 0)]
def v1366 : PyData := .tuple [.int (.ofNat 3), .int (.ofNat 3), .int (.ofNat 1), .int (.ofNat 0), .int (.ofNat 1)]
def v1367 : PyData := .tuple [.int (.ofNat 3), .int (.ofNat 3), .int (.ofNat 1), .int (.ofNat 0), .int (.ofNat 2)]
def v1368 : PyData := .tuple [.int (.ofNat 3), .int (.ofNat 3), .int (.ofNat 1), .int (.ofNat 0), .int (.ofNat 3)]
def v1369 : PyData := .tuple [.int (.ofNat 3), .int (.ofNat 3), .int (.ofNat 1), .int (.ofNat 1), .int (.ofNat 0)]
def v1370 : PyData := .tuple [.int (.ofNat 3), .int (.ofNat 3), .int (.ofNat 1), .int (.ofNat 1), .int (.ofNat 1)]
def v1371 : PyData := .tuple [.int (.ofNat 3), .int (.ofNat 3), .int (.ofNat 1), .int (.ofNat 1), .int (.ofNat 2)]
def v1372 : PyData := .tuple [.int (.ofNat 3), .int (.ofNat 3), .int (.ofNat 1), .int (.ofNat 1), .int (.ofNat 3)]
def v1373 : PyData := .tuple [.int (.ofNat 3), .int (.ofNat 3), .int (.ofNat 1), .int (.ofNat 2), .int (.ofNat 0)]
def v1374 : PyData := .tuple [.int (.ofNat 3), .int (.ofNat 3), .int (.ofNat 1), .int (.ofNat 2), .int (.ofNat 1)]
def v1375 : PyData := .tuple [.int (.ofNat 3), .int (.ofNat 3), .int (.ofNat 1), .int (.ofNat 2), .int (.ofNat 2)]
def v1376 : PyData := .tuple [.int (.ofNat 3), .int (.ofNat 3), .int (.ofNat 1), .int (.ofNat 2), .int (.ofNat 3)]
def v1377 : PyData := .tuple [.int (.ofNat 3), .int (.ofNat 3), .int (.ofNat 1), .int (.ofNat 3), .int (.ofNat 0)]
def v1378 : PyData := .tuple [.int (.ofNat 3), .int (.ofNat 3), .int (.ofNat 1), .int (.ofNat 3), .int (.ofNat 1)]
def v1379 : PyData := .tuple [.int (.ofNat 3), .int (.ofNat 3), .int (.ofNat 1), .int (.ofNat 3), .int (.ofNat 2)]
def v1380 : PyData := .tuple [.int (.ofNat 3), .int (.ofNat 3), .int (.ofNat 1), .int (.ofNat 3), .int (.ofNat 3)]
def v1381 : PyData := .tuple [.int (.ofNat 3), .int (.ofNat 3), .int (.ofNat 2), .int (.ofNat 0), .int (.ofNat 0)]
def v1382 : PyData := .tuple [.int (.ofNat 3), .int (.ofNat 3), .int (.ofNat 2), .int (.ofNat 0), .int (.ofNat 1)]
def v1383 : PyData := .tuple [.int (.ofNat 3), .int (.ofNat 3), .int (.ofNat 2), .int (.ofNat 0), .int (.ofNat 2)]
def v1384 : PyData := .tuple [.int (.ofNat 3), .int (.ofNat 3), .int (.ofNat 2), .int (.ofNat 0), .int (.ofNat 3)]
def v1385 : PyData := .tuple [.int (.ofNat 3), .int (.ofNat 3), .int (.ofNat 2), .int (.ofNat 1), .int (.ofNat 0)]
def v1386 : PyData := .tuple [.int (.ofNat 3), .int (.ofNat 3), .int (.ofNat 2), .int (.ofNat 1), .int (.ofNat 1)]
def v1387 : PyData := .tuple [.int (.ofNat 3), .int (.ofNat 3), .int (.ofNat 2), .int (.ofNat 1), .int (.ofNat 2)]
def v1388 : PyData := .tuple [.int (.ofNat 3), .int (.ofNat 3), .int (.ofNat 2), .int (.ofNat 1), .int (.ofNat 3)]
def v1389 : PyData := .tuple [.int (.ofNat 3), .int (.ofNat 3), .int (.ofNat 2), .int (.ofNat 2), .int (.ofNat 0)]
def v1390 : PyData := .tuple [.int (.ofNat 3), .int (.ofNat 3), .int (.ofNat 2), .int (.ofNat 2), .int (.ofNat 1)]
def v1391 : PyData := .tuple [.int (.ofNat 3), .int (.ofNat 3), .int (.ofNat 2), .int (.ofNat 2), .int (.ofNat 2)]
def v1392 : PyData := .tuple [.int (.ofNat 3), .int (.ofNat 3), .int (.ofNat 2), .int (.ofNat 2), .int (.ofNat 3)]
def v1393 : PyData := .tuple [.int (.ofNat 3), .int (.ofNat 3), .int (.ofNat 2), .int (.ofNat 3), .int (.ofNat 0)]
def v1394 : PyData := .tuple [.int (.ofNat 3), .int (.ofNat 3), .int (.ofNat 2), .int (.ofNat 3), .int (.ofNat 1)]
def v1395 : PyData := .tuple [.int (.ofNat 3), .int (.ofNat 3), .int (.ofNat 2), .int (.ofNat 3), .int (.ofNat 2)]
def v1396 : PyData := .tuple [.int (.ofNat 3), .int (.ofNat 3), .int (.ofNat 2), .int (.ofNat 3), .int (.ofNat 3)]
def v1397 : PyData := .tuple [.int (.ofNat 3), .int (.ofNat 3), .int (.ofNat 3), .int (.ofNat 0), .int (.ofNat 0)]
def v1398 : PyData := .tuple [.int (.ofNat 3), .int (.ofNat 3), .int (.ofNat 3), .int (.ofNat 0), .int (.ofNat 1)]
def v1399 : PyData := .tuple [.int (.ofNat 3), .int (.ofNat 3), .int (.ofNat 3), .int (.ofNat 0), .int (.ofNat 2)]
def v1400 : PyData := .tuple [.int (.ofNat 3), .int (.ofNat 3), .int (.ofNat 3), .int (.ofNat 0), .int (.ofNat 3)]
def v1401 : PyData := .tuple [.int (.ofNat 3), .int (.ofNat 3), .int (.ofNat 3), .int (.ofNat 1), .int (.ofNat 0)]
def v1402 : PyData := .tuple [.int (.ofNat 3), .int (.ofNat 3), .int (.ofNat 3), .int (.ofNat 1), .int (.ofNat 1)]
def v1403 : PyData := .tuple [.int (.ofNat 3), .int (.ofNat 3), .int (.ofNat 3), .int (.ofNat 1), .int (.ofNat 2)]
def v1404 : PyData := .tuple [.int (.ofNat 3), .int (.ofNat 3), .int (.ofNat 3), .int (.ofNat 1), .int (.ofNat 3)]
def v1405 : PyData := .tuple [.int (.ofNat 3), .int (.ofNat 3), .int (.ofNat 3), .int (.ofNat 2), .int (.ofNat 0)]
def v1406 : PyData := .tuple [.int (.ofNat 3), .int (.ofNat 3), .int (.ofNat 3), .int (.ofNat 2), .int (.ofNat 1)]
def v1407 : PyData := .tuple [.int (.ofNat 3), .int (.ofNat 3), .int (.ofNat 3), .int (.ofNat 2), .int (.ofNat 2)]
def v1408 : PyData := .tuple [.int (.ofNat 3), .int (.ofNat 3), .int (.ofNat 3), .int (.ofNat 2), .int (.ofNat 3)]
def v1409 : PyData := .tuple [.int (.ofNat 3), .int (.ofNat 3), .int (.ofNat 3), .int (.ofNat 3), .int (.ofNat 0)]
def v1410 : PyData := .tuple [.int (.ofNat 3), .int (.ofNat 3), .int (.ofNat 3), .int (.ofNat 3), .int (.ofNat 1)]
def v1411 : PyData := .tuple [.int (.ofNat 3), .int (.ofNat 3), .int (.ofNat 3), .int (.ofNat 3), .int (.ofNat 2)]
def v1412 : PyData := .tuple [.int (.ofNat 3), .int (.ofNat 3), .int (.ofNat 3), .int (.ofNat 3), .int (.ofNat 3)]
def w1531 : List PyData := [v388, v389, v420, v632, v390, v391, v421, v633, v422, v423, v424, v634, v635, v636, v637, v638, v392, v393, v425, v639, v394, v395, v426, v640]
def w1532 : List PyData := [v427, v428, v429, v641, v642, v643, v644, v645, v430, v431, v432, v646, v433, v434, v435, v647, v436, v437, v438, v648, v649, v650, v651, v652]
def w1533 : List PyData := [v653, v654, v655, v656, v657, v658, v659, v660, v661, v662, v663, v664, v665, v666, v667, v668, v396, v397, v439, v669, v398, v399, v440, v670]
def w1534 : List PyData := [v441, v442, v443, v671, v672, v673, v674, v675, v400, v401, v444, v676, v402, v403, v445, v677, v446, v447, v448, v678, v679, v680, v681, v682]
def w1535 : List PyData := [v449, v450, v451, v683, v452, v453, v454, v684, v455, v456, v457, v685, v686, v687, v688, v689, v690, v691, v692, v693, v694, v695, v696, v697]
def w1536 : List PyData := [v698, v699, v700, v701, v702, v703, v704, v705, v458, v459, v460, v706, v461, v462, v463, v707, v464, v465, v466, v708, v709, v710, v711, v712]
def w1537 : List PyData := [v467, v468, v469, v713, v470, v471, v472, v714, v473, v474, v475, v715, v716, v717, v718, v719, v476, v477, v478, v720, v479, v480, v481, v721]
def w1538 : List PyData := [v482, v483, v484, v722, v723, v724, v725, v726, v727, v728, v729, v730, v731, v732, v733, v734, v735, v736, v737, v738, v739, v740, v741, v742]
def w1539 : List PyData := [v743, v744, v745, v746, v747, v748, v749, v750, v751, v752, v753, v754, v755, v756, v757, v758, v759, v760, v761, v762, v763, v764, v765, v766]
def w1540 : List PyData := [v767, v768, v769, v770, v771, v772, v773, v774, v775, v776, v777, v778, v779, v780, v781, v782, v783, v784, v785, v786, v787, v788, v789, v790]
def w1541 : List PyData := [v791, v792, v793, v794, v795, v796, v797, v798, v799, v800, v801, v802, v803, v804, v805, v806, v404, v405, v485, v807, v406, v407, v486, v808]
def w1542 : List PyData := [v487, v488, v489, v809, v810, v811, v812, v813, v408, v409, v490, v814, v410, v411, v491, v815, v492, v493, v494, v816, v817, v818, v819, v820]
def w1543 : List PyData := [v495, v496, v497, v821, v498, v499, v500, v822, v501, v502, v503, v823, v824, v825, v826, v827, v828, v829, v830, v831, v832, v833, v834, v835]
def w1544 : List PyData := [v836, v837, v838, v839, v840, v841, v842, v843, v412, v413, v504, v844, v414, v415, v505, v845, v506, v507, v508, v846, v847, v848, v849, v850]
def w1545 : List PyData := [v416, v417, v509, v851, v418, v419, v510, v852, v511, v512, v513, v853, v854, v855, v856, v857, v514, v515, v516, v858, v517, v518, v519, v859]
def w1546 : List PyData := [v520, v521, v522, v860, v861, v862, v863, v864, v865, v866, v867, v868, v869, v870, v871, v872, v873, v874, v875, v876, v877, v878, v879, v880]
def w1547 : List PyData := [v523, v524, v525, v881, v526, v527, v528, v882, v529, v530, v531, v883, v884, v885, v886, v887, v532, v533, v534, v888, v535, v536, v537, v889]
def w1548 : List PyData := [v538, v539, v540, v890, v891, v892, v893, v894, v541, v542, v543, v895, v544, v545, v546, v896, v547, v548, v549, v897, v898, v899, v900, v901]
def w1549 : List PyData := [v902, v903, v904, v905, v906, v907, v908, v909, v910, v911, v912, v913, v914, v915, v916, v917, v918, v919, v920, v921, v922, v923, v924, v925]
def w1550 : List PyData := [v926, v927, v928, v929, v930, v931, v932, v933, v934, v935, v936, v937, v938, v939, v940, v941, v942, v943, v944, v945, v946, v947, v948, v949]
def w1551 : List PyData := [v950, v951, v952, v953, v954, v955, v956, v957, v958, v959, v960, v961, v962, v963, v964, v965, v966, v967, v968, v969, v970, v971, v972, v973]
def w1552 : List PyData := [v974, v975, v976, v977, v978, v979, v980, v981, v550, v551, v552, v982, v553, v554, v555, v983, v556, v557, v558, v984, v985, v986, v987, v988]
def w1553 : List PyData := [v559, v560, v561, v989, v562, v563, v564, v990, v565, v566, v567, v991, v992, v993, v994, v995, v568, v569, v570, v996, v571, v572, v573, v997]
def w1554 : List PyData := [v574, v575, v576, v998, v999, v1000, v1001, v1002, v1003, v1004, v1005, v1006, v1007, v1008, v1009, v1010, v1011, v1012, v1013, v1014, v1015, v1016, v1017, v1018]
def w1555 : List PyData := [v577, v578, v579, v1019, v580, v581, v582, v1020, v583, v584, v585, v1021, v1022, v1023, v1024, v1025, v586, v587, v588, v1026, v589, v590, v591, v1027]
def w1556 : List PyData := [v592, v593, v594, v1028, v1029, v1030, v1031, v1032, v595, v596, v597, v1033, v598, v599, v600, v1034, v601, v602, v603, v1035, v1036, v1037, v1038, v1039]
def w1557 : List PyData := [v1040, v1041, v1042, v1043, v1044, v1045, v1046, v1047, v1048, v1049, v1050, v1051, v1052, v1053, v1054, v1055, v604, v605, v606, v1056, v607, v608, v609, v1057]
def w1558 : List PyData := [v610, v611, v612, v1058, v1059, v1060, v1061, v1062, v613, v614, v615, v1063, v616, v617, v618, v1064, v619, v620, v621, v1065, v1066, v1067, v1068, v1069]
def w1559 : List PyData := [v622, v623, v624, v1070, v625, v626, v627, v1071, v628, v629, v630, v1072, v1073, v1074, v1075, v1076, v1077, v1078, v1079, v1080, v1081, v1082, v1083, v1084]
def w1560 : List PyData := [v1085, v1086, v1087, v1088, v1089, v1090, v1091, v1092, v1093, v1094, v1095, v1096, v1097, v1098, v1099, v1100, v1101, v1102, v1103, v1104, v1105, v1106, v1107, v1108]
def w1561 : List PyData := [v1109, v1110, v1111, v1112, v1113, v1114, v1115, v1116, v1117, v1118, v1119, v1120, v1121, v1122, v1123, v1124, v1125, v1126, v1127, v1128, v1129, v1130, v1131, v1132]
def w1562 : List PyData := [v1133, v1134, v1135, v1136, v1137, v1138, v1139, v1140, v1141, v1142, v1143, v1144, v1145, v1146, v1147, v1148, v1149, v1150, v1151, v1152, v1153, v1154, v1155, v1156]
def w1563 : List PyData := [v1157, v1158, v1159, v1160, v1161, v1162, v1163, v1164, v1165, v1166, v1167, v1168, v1169, v1170, v1171, v1172, v1173, v1174, v1175, v1176, v1177, v1178, v1179, v1180]
def w1564 : List PyData := [v1181, v1182, v1183, v1184, v1185, v1186, v1187, v1188, v1189, v1190, v1191, v1192, v1193, v1194, v1195, v1196, v1197, v1198, v1199, v1200, v1201, v1202, v1203, v1204]
def w1565 : List PyData := [v1205, v1206, v1207, v1208, v1209, v1210, v1211, v1212, v1213, v1214, v1215, v1216, v1217, v1218, v1219, v1220, v1221, v1222, v1223, v1224, v1225, v1226, v1227, v1228]
def w1566 : List PyData := [v1229, v1230, v1231, v1232, v1233, v1234, v1235, v1236, v1237, v1238, v1239, v1240, v1241, v1242, v1243, v1244, v1245, v1246, v1247, v1248, v1249, v1250, v1251, v1252]
def w1567 : List PyData := [v1253, v1254, v1255, v1256, v1257, v1258, v1259, v1260, v1261, v1262, v1263, v1264, v1265, v1266, v1267, v1268, v1269, v1270, v1271, v1272, v1273, v1274, v1275, v1276]
def w1568 : List PyData := [v1277, v1278, v1279, v1280, v1281, v1282, v1283, v1284, v1285, v1286, v1287, v1288, v1289, v1290, v1291, v1292, v1293, v1294, v1295, v1296, v1297, v1298, v1299, v1300]
def w1569 : List PyData := [v1301, v1302, v1303, v1304, v1305, v1306, v1307, v1308, v1309, v1310, v1311, v1312, v1313, v1314, v1315, v1316, v1317, v1318, v1319, v1320, v1321, v1322, v1323, v1324]
def w1570 : List PyData := [v1325, v1326, v1327, v1328, v1329, v1330, v1331, v1332, v1333, v1334, v1335, v1336, v1337, v1338, v1339, v1340, v1341, v1342, v1343, v1344, v1345, v1346, v1347, v1348]
def w1571 : List PyData := [v1349, v1350, v1351, v1352, v1353, v1354, v1355, v1356, v1357, v1358, v1359, v1360, v1361, v1362, v1363, v1364, v1365, v1366, v1367, v1368, v1369, v1370, v1371, v1372]
def w1572 : List PyData := [v1373, v1374, v1375, v1376, v1377, v1378, v1379, v1380, v1381, v1382, v1383, v1384, v1385, v1386, v1387, v1388, v1389, v1390, v1391, v1392, v1393, v1394, v1395, v1396]
def w1573 : List PyData := [v1397, v1398, v1399, v1400, v1401, v1402, v1403, v1404, v1405, v1406, v1407, v1408, v1409, v1410, v1411, v1412]
def v1413 : PyData := .list (w1531 ++ w1532 ++ w1533 ++ w1534 ++ w1535 ++ w1536 ++ w1537 ++ w1538 ++ w1539 ++ w1540 ++ w1541 ++ w1542 ++ w1543 ++ w1544 ++ w1545 ++ w1546 ++ w1547 ++ w1548 ++ w1549 ++ w1550 ++ w1551 ++ w1552 ++ w1553 ++ w1554 ++ w1555 ++ w1556 ++ w1557 ++ w1558 ++ w1559 ++ w1560 ++ w1561 ++ w1562 ++ w1563 ++ w1564 ++ w1565 ++ w1566 ++ w1567 ++ w1568 ++ w1569 ++ w1570 ++ w1571 ++ w1572 ++ w1573)
def v1414 : PyData := .list [.tuple [.int (.ofNat 0), .int (.ofNat 0), .int (.ofNat 1)], .tuple [.int (.ofNat 0), .int (.ofNat 1), .int (.ofNat 0)], .tuple [.int (.ofNat 0), .int (.ofNat 1), .int (.ofNat 1)], .tuple [.int (.ofNat 1), .int (.ofNat 0), .int (.ofNat 0)], .tuple [.int (.ofNat 1), .int (.ofNat 0), .int (.ofNat 1)], .tuple [.int (.ofNat 1), .int (.ofNat 1), .int (.ofNat 0)]]
def v1415 : PyData := .list [v155, v156, v157, v158, v159, v160, v161, v162, v163, v164, v165, v166, v167, v168]
def w1577 : List PyData := [v172, v174, v176, v177, v178, v179, v180, v182, v184, v185, v186, v188, v190, v191, v192, v193, v194, v195, v197, v200, v201, v202, v203, v206]
def w1578 : List PyData := [v210, v212, v213, v214, v216, v218, v219, v220, v221, v224, v228, v230]
def w1579 : List PyData := [v389, v390, v391, v392, v393, v394, v395, v396, v397, v398, v399, v400, v401, v402, v403, v404, v405, v406, v407, v408, v409, v410, v411, v412]
def w1580 : List PyData := [v413, v414, v415, v416, v417, v418]
def w1581 : List PyData := [v421, v423, v425, v426, v427, v428, v429, v431, v433, v434, v435, v437, v439, v440, v441, v442, v443, v444, v445, v446, v447, v448, v449, v450]
def w1582 : List PyData := [v451, v452, v453, v454, v455, v456, v457, v459, v461, v462, v463, v465, v467, v468, v469, v470, v471, v472, v473, v474, v475, v477, v479, v480]
def w1583 : List PyData := [v481, v483, v485, v486, v487, v488, v489, v490, v491, v492, v493, v494, v495, v496, v497, v498, v499, v500, v501, v502, v503, v504, v505, v506]
def w1584 : List PyData := [v507, v508, v509, v511, v514, v515, v516, v517, v520, v523, v524, v525, v526, v527, v528, v529, v530, v531, v532, v533, v534, v535, v538, v541]
def w1585 : List PyData := [v542, v543, v544, v547, v551, v553, v554, v555, v557, v559, v560, v561, v562, v563, v564, v565, v566, v567, v569, v571, v572, v573, v575, v577]
def w1586 : List PyData := [v578, v579, v580, v581, v582, v583, v584, v585, v586, v587, v588, v589, v592, v595, v596, v597, v598, v601, v605, v607, v608, v609, v611, v613]
def w1587 : List PyData := [v614, v615, v616, v619, v623, v625]
def v1416 : PyData := .list (w1581 ++ w1582 ++ w1583 ++ w1584 ++ w1585 ++ w1586 ++ w1587)
def w1589 : List PyData := [v641, v644, v647, v650, v659, v662, v671, v674, v678, v681, v683, v684, v685, v686, v687, v688, v689, v692, v696, v698, v699, v700, v701, v704]
def w1590 : List PyData := [v707, v710, v713, v714, v715, v716, v717, v718, v719, v721, v724, v728, v731, v732, v733, v734, v736, v740, v749, v752, v761, v765, v767, v768]
def w1591 : List PyData := [v769, v770, v773, v776, v779, v780, v781, v782, v784, v788, v797, v800, v809, v812, v816, v819, v821, v822, v823, v824, v825, v826, v827, v830]
def w1592 : List PyData := [v834, v836, v837, v838, v839, v842, v846, v849, v858, v861, v867, v873, v881, v882, v883, v884, v885, v886, v887, v888, v891, v895, v898, v902]
def w1593 : List PyData := [v903, v904, v905, v906, v910, v914, v920, v924, v926, v927, v928, v929, v932, v936, v942, v950, v951, v952, v953, v954, v958, v962, v968, v974]
def w1594 : List PyData := [v983, v986, v989, v990, v991, v992, v993, v994, v995, v997, v1000, v1004, v1007, v1008, v1009, v1010, v1012, v1016, v1019, v1020, v1021, v1022, v1023, v1024]
def w1595 : List PyData := [v1025, v1026, v1029, v1033, v1036, v1040, v1041, v1042, v1043, v1044, v1048, v1052, v1057, v1060, v1063, v1066, v1078, v1081, v1094, v1097, v1098, v1099, v1100, v1102]
def w1596 : List PyData := [v1106, v1109, v1110, v1111, v1112, v1113, v1117, v1121, v1126, v1129, v1142, v1145, v1163, v1166, v1175, v1179, v1181, v1182, v1183, v1184, v1187, v1190, v1193, v1194]
def w1597 : List PyData := [v1195, v1196, v1198, v1202, v1211, v1214, v1223, v1227, v1229, v1230, v1231, v1232, v1235, v1239, v1245, v1253, v1254, v1255, v1256, v1257, v1261, v1265, v1271, v1277]
def w1598 : List PyData := [v1286, v1289, v1290, v1291, v1292, v1294, v1298, v1301, v1302, v1303, v1304, v1305, v1309, v1313, v1318, v1321, v1334, v1337, v1355, v1358, v1367, v1373, v1382, v1385]
def v1417 : PyData := .list (w1589 ++ w1590 ++ w1591 ++ w1592 ++ w1593 ++ w1594 ++ w1595 ++ w1596 ++ w1597 ++ w1598)
def w1600 : List PyData := [v172, v174, v176, v177, v178, v179, v180, v182, v184, v185, v186, v188, v190, v191, v192, v193, v194, v195, v197, v200, v201, v202, v203, v206]
def w1601 : List PyData := [v210, v212, v213, v214, v216, v218, v219, v220, v221, v224, v228, v230]
def w1602 : List PyData := [v389, v390, v391, v392, v393, v394, v395, v396, v397, v398, v399, v400, v401, v402, v403, v404, v405, v406, v407, v408, v409, v410, v411, v412]
def w1603 : List PyData := [v413, v414, v415, v416, v417, v418]
def w1604 : List PyData := [v421, v423, v425, v426, v427, v428, v429, v431, v433, v434, v435, v437, v439, v440, v441, v442, v443, v444, v445, v446, v447, v448, v449, v450]
def w1605 : List PyData := [v451, v452, v453, v454, v455, v456, v457, v459, v461, v462, v463, v465, v467, v468, v469, v470, v471, v472, v473, v474, v475, v477, v479, v480]
def w1606 : List PyData := [v481, v483, v485, v486, v487, v488, v489, v490, v491, v492, v493, v494, v495, v496, v497, v498, v499, v500, v501, v502, v503, v504, v505, v506]
def w1607 : List PyData := [v507, v508, v509, v511, v514, v515, v516, v517, v520, v523, v524, v525, v526, v527, v528, v529, v530, v531, v532, v533, v534, v535, v538, v541]
def w1608 : List PyData := [v542, v543, v544, v547, v551, v553, v554, v555, v557, v559, v560, v561, v562, v563, v564, v565, v566, v567, v569, v571, v572, v573, v575, v577]
def w1609 : List PyData := [v578, v579, v580, v581, v582, v583, v584, v585, v586, v587, v588, v589, v592, v595, v596, v597, v598, v601, v605, v607, v608, v609, v611, v613]
def w1610 : List PyData := [v614, v615, v616, v619, v623, v625]
def v1418 : PyData := .list (w1604 ++ w1605 ++ w1606 ++ w1607 ++ w1608 ++ w1609 ++ w1610)
def w1612 : List PyData := [v641, v644, v647, v650, v659, v662, v671, v674, v678, v681, v683, v684, v685, v686, v687, v688, v689, v692, v696, v698, v699, v700, v701, v704]
def w1613 : List PyData := [v707, v710, v713, v714, v715, v716, v717, v718, v719, v721, v724, v728, v731, v732, v733, v734, v736, v740, v749, v752, v761, v765, v767, v768]
def w1614 : List PyData := [v769, v770, v773, v776, v779, v780, v781, v782, v784, v788, v797, v800, v809, v812, v816, v819, v821, v822, v823, v824, v825, v826, v827, v830]
def w1615 : List PyData := [v834, v836, v837, v838, v839, v842, v846, v849, v858, v861, v867, v873, v881, v882, v883, v884, v885, v886, v887, v888, v891, v895, v898, v902]
def w1616 : List PyData := [v903, v904, v905, v906, v910, v914, v920, v924, v926, v927, v928, v929, v932, v936, v942, v950, v951, v952, v953, v954, v958, v962, v968, v974]
def w1617 : List PyData := [v983, v986, v989, v990, v991, v992, v993, v994, v995, v997, v1000, v1004, v1007, v1008, v1009, v1010, v1012, v1016, v1019, v1020, v1021, v1022, v1023, v1024]
def w1618 : List PyData := [v1025, v1026, v1029, v1033, v1036, v1040, v1041, v1042, v1043, v1044, v1048, v1052, v1057, v1060, v1063, v1066, v1078, v1081, v1094, v1097, v1098, v1099, v1100, v1102]
def w1619 : List PyData := [v1106, v1109, v1110, v1111, v1112, v1113, v1117, v1121, v1126, v1129, v1142, v1145, v1163, v1166, v1175, v1179, v1181, v1182, v1183, v1184, v1187, v1190, v1193, v1194]
def w1620 : List PyData := [v1195, v1196, v1198, v1202, v1211, v1214, v1223, v1227, v1229, v1230, v1231, v1232, v1235, v1239, v1245, v1253, v1254, v1255, v1256, v1257, v1261, v1265, v1271, v1277]
def w1621 : List PyData := [v1286, v1289, v1290, v1291, v1292, v1294, v1298, v1301, v1302, v1303, v1304, v1305, v1309, v1313, v1318, v1321, v1334, v1337, v1355, v1358, v1367, v1373, v1382, v1385]
def v1419 : PyData := .list (w1612 ++ w1613 ++ w1614 ++ w1615 ++ w1616 ++ w1617 ++ w1618 ++ w1619 ++ w1620 ++ w1621)
def w1623 : List PyData := [v172, v174, v176, v177, v178, v179, v180, v182, v184, v185, v186, v188, v190, v191, v192, v193, v194, v195, v197, v200, v201, v202, v203, v206]
def w1624 : List PyData := [v210, v212, v213, v214, v216, v218, v219, v220, v221, v224, v228, v230]
def w1625 : List PyData := [v27, v28, v29, v30, v31, v32, v33, v34, v35, v36, v37, v38, v39, v40, v41, v42, v43, v44, v45, v46, v47, v48, v49, v50]
def w1626 : List PyData := [v51, v52, v53, v54, v55, v56, v57, v58, v59, v60, v61, v62, v63, v64, v65, v66, v67, v68, v69, v70, v71, v72, v73, v74]
def w1627 : List PyData := [v75, v76, v77, v78, v79, v80, v81, v82, v83, v84, v85, v86, v87, v88, v89, v90, v91, v92, v93, v94, v95, v96, v97, v98]
def w1628 : List PyData := [v99, v100, v101, v102, v103, v104, v105, v106, v107, v108, v109, v110, v111, v112, v113, v114, v115, v116, v117, v118, v119, v120, v121, v122]
def w1629 : List PyData := [v123, v124, v125, v126, v127, v128, v129, v130, v131, v132, v133, v134, v135, v136, v137, v138, v139, v140, v141, v142, v143, v144, v145, v146]
def w1630 : List PyData := [v27, v28, v29, v30, v31, v32, v33, v34, v35, v36, v37, v38, v39, v40, v41, v42, v43, v44, v45, v46, v47, v48, v49, v50]
def w1631 : List PyData := [v51, v52, v53, v54, v55, v56, v57, v58, v59, v60, v61, v62, v63, v64, v65, v66, v67, v68, v69, v70, v71, v72, v73, v74]
def w1632 : List PyData := [v75, v76, v77, v78, v79, v80, v81, v82, v83, v84, v85, v86, v87, v88, v89, v90, v91, v92, v93, v94, v95, v96, v97, v98]
def w1633 : List PyData := [v99, v100, v101, v102, v103, v104, v105, v106, v107, v108, v109, v110, v111, v112, v113, v114, v115, v116, v117, v118, v119, v120, v121, v122]
def w1634 : List PyData := [v123, v124, v125, v126, v127, v128, v129, v130, v131, v132, v133, v134, v135, v136, v137, v138, v139, v140, v141, v142, v143, v144, v145, v146]
def w1635 : List PyData := [v27, v28, v29, v30, v31, v32, v33, v34, v35, v36, v37, v38, v39, v40, v41, v42, v43, v44, v45, v46, v47, v48, v49, v50]
def w1636 : List PyData := [v51, v52, v53, v54, v55, v56, v57, v58, v59, v60, v61, v62, v63, v64, v65, v66, v67, v68, v69, v70, v71, v72, v73, v74]
def w1637 : List PyData := [v75, v76, v77, v78, v79, v80, v81, v82, v83, v84, v85, v86, v87, v88, v89, v90, v91, v92, v93, v94, v95, v96, v97, v98]
def w1638 : List PyData := [v99, v100, v101, v102, v103, v104, v105, v106, v107, v108, v109, v110, v111, v112, v113, v114, v115, v116, v117, v118, v119, v120, v121, v122]
def w1639 : List PyData := [v123, v124, v125, v126, v127, v128, v129, v130, v131, v132, v133, v134, v135, v136, v137, v138, v139, v140, v141, v142, v143, v144, v145, v146]
def w1640 : List PyData := [v389, v390, v391, v392, v393, v394, v395, v396, v397, v398, v399, v400, v401, v402, v403, v404, v405, v406, v407, v408, v409, v410, v411, v412]
def w1641 : List PyData := [v413, v414, v415, v416, v417, v418]
def w1642 : List PyData := [v27, v28, v29, v30, v31, v32, v33, v34, v35, v36, v37, v38, v39, v40, v41, v42, v43, v44, v45, v46, v47, v48, v49, v50]
def w1643 : List PyData := [v51, v52, v53, v54, v55, v56, v57, v58, v59, v60, v61, v62, v63, v64, v65, v66, v67, v68, v69, v70, v71, v72, v73, v74]
def w1644 : List PyData := [v75, v76, v77, v78, v79, v80, v81, v82, v83, v84, v85, v86, v87, v88, v89, v90, v91, v92, v93, v94, v95, v96, v97, v98]
def w1645 : List PyData := [v99, v100, v101, v102, v103, v104, v105, v106, v107, v108, v109, v110, v111, v112, v113, v114, v115, v116, v117, v118, v119, v120, v121, v122]
def w1646 : List PyData := [v123, v124, v125, v126, v127, v128, v129, v130, v131, v132, v133, v134, v135, v136, v137, v138, v139, v140, v141, v142, v143, v144, v145, v146]
def w1647 : List PyData := [v421, v423, v425, v426, v427, v428, v429, v431, v433, v434, v435, v437, v439, v440, v441, v442, v443, v444, v445, v446, v447, v448, v449, v450]
def w1648 : List PyData := [v451, v452, v453, v454, v455, v456, v457, v459, v461, v462, v463, v465, v467, v468, v469, v470, v471, v472, v473, v474, v475, v477, v479, v480]
def w1649 : List PyData := [v481, v483, v485, v486, v487, v488, v489, v490, v491, v492, v493, v494, v495, v496, v497, v498, v499, v500, v501, v502, v503, v504, v505, v506]
def w1650 : List PyData := [v507, v508, v509, v511, v514, v515, v516, v517, v520, v523, v524, v525, v526, v527, v528, v529, v530, v531, v532, v533, v534, v535, v538, v541]
def w1651 : List PyData := [v542, v543, v544, v547, v551, v553, v554, v555, v557, v559, v560, v561, v562, v563, v564, v565, v566, v567, v569, v571, v572, v573, v575, v577]
def w1652 : List PyData := [v578, v579, v580, v581, v582, v583, v584, v585, v586, v587, v588, v589, v592, v595, v596, v597, v598, v601, v605, v607, v608, v609, v611, v613]
def w1653 : List PyData := [v614, v615, v616, v619, v623, v625]
def v1420 : PyData := .list (w1647 ++ w1648 ++ w1649 ++ w1650 ++ w1651 ++ w1652 ++ w1653)
def w1655 : List PyData := [v27, v28, v29, v30, v31, v32, v33, v34, v35, v36, v37, v38, v39, v40, v41, v42, v43, v44, v45, v46, v47, v48, v49, v50]
def w1656 : List PyData := [v51, v52, v53, v54, v55, v56, v57, v58, v59, v60, v61, v62, v63, v64, v65, v66, v67, v68, v69, v70, v71, v72, v73, v74]
def w1657 : List PyData := [v75, v76, v77, v78, v79, v80, v81, v82, v83, v84, v85, v86, v87, v88, v89, v90, v91, v92, v93, v94, v95, v96, v97, v98]
def w1658 : List PyData := [v99, v100, v101, v102, v103, v104, v105, v106, v107, v108, v109, v110, v111, v112, v113, v114, v115, v116, v117, v118, v119, v120, v121, v122]
def w1659 : List PyData := [v123, v124, v125, v126, v127, v128, v129, v130, v131, v132, v133, v134, v135, v136, v137, v138, v139, v140, v141, v142, v143, v144, v145, v146]
def w1660 : List PyData := [v641, v644, v647, v650, v659, v662, v671, v674, v678, v681, v683, v684, v685, v686, v687, v688, v689, v692, v696, v698, v699, v700, v701, v704]
def w1661 : List PyData := [v707, v710, v713, v714, v715, v716, v717, v718, v719, v721, v724, v728, v731, v732, v733, v734, v736, v740, v749, v752, v761, v765, v767, v768]
def w1662 : List PyData := [v769, v770, v773, v776, v779, v780, v781, v782, v784, v788, v797, v800, v809, v812, v816, v819, v821, v822, v823, v824, v825, v826, v827, v830]
def w1663 : List PyData := [v834, v836, v837, v838, v839, v842, v846, v849, v858, v861, v867, v873, v881, v882, v883, v884, v885, v886, v887, v888, v891, v895, v898, v902]
def w1664 : List PyData := [v903, v904, v905, v906, v910, v914, v920, v924, v926, v927, v928, v929, v932, v936, v942, v950, v951, v952, v953, v954, v958, v962, v968, v974]
def w1665 : List PyData := [v983, v986, v989, v990, v991, v992, v993, v994, v995, v997, v1000, v1004, v1007, v1008, v1009, v1010, v1012, v1016, v1019, v1020, v1021, v1022, v1023, v1024]
def w1666 : List PyData := [v1025, v1026, v1029, v1033, v1036, v1040, v1041, v1042, v1043, v1044, v1048, v1052, v1057, v1060, v1063, v1066, v1078, v1081, v1094, v1097, v1098, v1099, v1100, v1102]
def w1667 : List PyData := [v1106, v1109, v1110, v1111, v1112, v1113, v1117, v1121, v1126, v1129, v1142, v1145, v1163, v1166, v1175, v1179, v1181, v1182, v1183, v1184, v1187, v1190, v1193, v1194]
def w1668 : List PyData := [v1195, v1196, v1198, v1202, v1211, v1214, v1223, v1227, v1229, v1230, v1231, v1232, v1235, v1239, v1245, v1253, v1254, v1255, v1256, v1257, v1261, v1265, v1271, v1277]
def w1669 : List PyData := [v1286, v1289, v1290, v1291, v1292, v1294, v1298, v1301, v1302, v1303, v1304, v1305, v1309, v1313, v1318, v1321, v1334, v1337, v1355, v1358, v1367, v1373, v1382, v1385]
def v1421 : PyData := .list (w1660 ++ w1661 ++ w1662 ++ w1663 ++ w1664 ++ w1665 ++ w1666 ++ w1667 ++ w1668 ++ w1669)
def w1671 : List PyData := [v27, v28, v29, v30, v31, v32, v33, v34, v35, v36, v37, v38, v39, v40, v41, v42, v43, v44, v45, v46, v47, v48, v49, v50]
def w1672 : List PyData := [v51, v52, v53, v54, v55, v56, v57, v58, v59, v60, v61, v62, v63, v64, v65, v66, v67, v68, v69, v70, v71, v72, v73, v74]
def w1673 : List PyData := [v75, v76, v77, v78, v79, v80, v81, v82, v83, v84, v85, v86, v87, v88, v89, v90, v91, v92, v93, v94, v95, v96, v97, v98]
def w1674 : List PyData := [v99, v100, v101, v102, v103, v104, v105, v106, v107, v108, v109, v110, v111, v112, v113, v114, v115, v116, v117, v118, v119, v120, v121, v122]
def w1675 : List PyData := [v123, v124, v125, v126, v127, v128, v129, v130, v131, v132, v133, v134, v135, v136, v137, v138, v139, v140, v141, v142, v143, v144, v145, v146]
def w1676 : List PyData := [v27, v28, v29, v30, v31, v32, v33, v34, v35, v36, v37, v38, v39, v40, v41, v42, v43, v44, v45, v46, v47, v48, v49, v50]
def w1677 : List PyData := [v51, v52, v53, v54, v55, v56, v57, v58, v59, v60, v61, v62, v63, v64, v65, v66, v67, v68, v69, v70, v71, v72, v73, v74]
def w1678 : List PyData := [v75, v76, v77, v78, v79, v80, v81, v82, v83, v84, v85, v86, v87, v88, v89, v90, v91, v92, v93, v94, v95, v96, v97, v98]
def w1679 : List PyData := [v99, v100, v101, v102, v103, v104, v105, v106, v107, v108, v109, v110, v111, v112, v113, v114, v115, v116, v117, v118, v119, v120, v121, v122]
def w1680 : List PyData := [v123, v124, v125, v126, v127, v128, v129, v130, v131, v132, v133, v134, v135, v136, v137, v138, v139, v140, v141, v142, v143, v144, v145, v146]
def w1681 : List PyData := [v27, v28, v29, v30, v31, v32, v33, v34, v35, v36, v37, v38, v39, v40, v41, v42, v43, v44, v45, v46, v47, v48, v49, v50]
def w1682 : List PyData := [v51, v52, v53, v54, v55, v56, v57, v58, v59, v60, v61, v62, v63, v64, v65, v66, v67, v68, v69, v70, v71, v72, v73, v74]
def w1683 : List PyData := [v75, v76, v77, v78, v79, v80, v81, v82, v83, v84, v85, v86, v87, v88, v89, v90, v91, v92, v93, v94, v95, v96, v97, v98]
def w1684 : List PyData := [v99, v100, v101, v102, v103, v104, v105, v106, v107, v108, v109, v110, v111, v112, v113, v114, v115, v116, v117, v118, v119, v120, v121, v122]
def w1685 : List PyData := [v123, v124, v125, v126, v127, v128, v129, v130, v131, v132, v133, v134, v135, v136, v137, v138, v139, v140, v141, v142, v143, v144, v145, v146]
def w1686 : List PyData := [v27, v28, v29, v30, v31, v32, v33, v34, v35, v36, v37, v38, v39, v40, v41, v42, v43, v44, v45, v46, v47, v48, v49, v50]
def w1687 : List PyData := [v51, v52, v53, v54, v55, v56, v57, v58, v59, v60, v61, v62, v63, v64, v65, v66, v67, v68, v69, v70, v71, v72, v73, v74]
def w1688 : List PyData := [v75, v76, v77, v78, v79, v80, v81, v82, v83, v84, v85, v86, v87, v88, v89, v90, v91, v92, v93, v94, v95, v96, v97, v98]
def w1689 : List PyData := [v99, v100, v101, v102, v103, v104, v105, v106, v107, v108, v109, v110, v111, v112, v113, v114, v115, v116, v117, v118, v119, v120, v121, v122]
def w1690 : List PyData := [v123, v124, v125, v126, v127, v128, v129, v130, v131, v132, v133, v134, v135, v136, v137, v138, v139, v140, v141, v142, v143, v144, v145, v146]
def w1691 : List PyData := [v27, v28, v29, v30, v31, v32, v33, v34, v35, v36, v37, v38, v39, v40, v41, v42, v43, v44, v45, v46, v47, v48, v49, v50]
def w1692 : List PyData := [v51, v52, v53, v54, v55, v56, v57, v58, v59, v60, v61, v62, v63, v64, v65, v66, v67, v68, v69, v70, v71, v72, v73, v74]
def w1693 : List PyData := [v75, v76, v77, v78, v79, v80, v81, v82, v83, v84, v85, v86, v87, v88, v89, v90, v91, v92, v93, v94, v95, v96, v97, v98]
def w1694 : List PyData := [v99, v100, v101, v102, v103, v104, v105, v106, v107, v108, v109, v110, v111, v112, v113, v114, v115, v116, v117, v118, v119, v120, v121, v122]
def w1695 : List PyData := [v123, v124, v125, v126, v127, v128, v129, v130, v131, v132, v133, v134, v135, v136, v137, v138, v139, v140, v141, v142, v143, v144, v145, v146]
def w1696 : List PyData := [v27, v28, v29, v30, v31, v32, v33, v34, v35, v36, v37, v38, v39, v40, v41, v42, v43, v44, v45, v46, v47, v48, v49, v50]
def w1697 : List PyData := [v51, v52, v53, v54, v55, v56, v57, v58, v59, v60, v61, v62, v63, v64, v65, v66, v67, v68, v69, v70, v71, v72, v73, v74]
def w1698 : List PyData := [v75, v76, v77, v78, v79, v80, v81, v82, v83, v84, v85, v86, v87, v88, v89, v90, v91, v92, v93, v94, v95, v96, v97, v98]
def w1699 : List PyData := [v99, v100, v101, v102, v103, v104, v105, v106, v107, v108, v109, v110, v111, v112, v113, v114, v115, v116, v117, v118, v119, v120, v121, v122]
def w1700 : List PyData := [v123, v124, v125, v126, v127, v128, v129, v130, v131, v132, v133, v134, v135, v136, v137, v138, v139, v140, v141, v142, v143, v144, v145, v146]
def w1701 : List PyData := [v27, v28, v29, v30, v31, v32, v33, v34, v35, v36, v37, v38, v39, v40, v41, v42, v43, v44, v45, v46, v47, v48, v49, v50]
def w1702 : List PyData := [v51, v52, v53, v54, v55, v56, v57, v58, v59, v60, v61, v62, v63, v64, v65, v66, v67, v68, v69, v70, v71, v72, v73, v74]
def w1703 : List PyData := [v75, v76, v77, v78, v79, v80, v81, v82, v83, v84, v85, v86, v87, v88, v89, v90, v91, v92, v93, v94, v95, v96, v97, v98]
def w1704 : List PyData := [v99, v100, v101, v102, v103, v104, v105, v106, v107, v108, v109, v110, v111, v112, v113, v114, v115, v116, v117, v118, v119, v120, v121, v122]
def w1705 : List PyData := [v123, v124, v125, v126, v127, v128, v129, v130, v131, v132, v133, v134, v135, v136, v137, v138, v139, v140, v141, v142, v143, v144, v145, v146]
def w1706 : List PyData := [v27, v28, v29, v30, v31, v32, v33, v34, v35, v36, v37, v38, v39, v40, v41, v42, v43, v44, v45, v46, v47, v48, v49, v50]
def w1707 : List PyData := [v51, v52, v53, v54, v55, v56, v57, v58, v59, v60, v61, v62, v63, v64, v65, v66, v67, v68, v69, v70, v71, v72, v73, v74]
def w1708 : List PyData := [v75, v76, v77, v78, v79, v80, v81, v82, v83, v84, v85, v86, v87, v88, v89, v90, v91, v92, v93, v94, v95, v96, v97, v98]
def w1709 : List PyData := [v99, v100, v101, v102, v103, v104, v105, v106, v107, v108, v109, v110, v111, v112, v113, v114, v115, v116, v117, v118, v119, v120, v121, v122]
def w1710 : List PyData := [v123, v124, v125, v126, v127, v128, v129, v130, v131, v132, v133, v134, v135, v136, v137, v138, v139, v140, v141, v142, v143, v144, v145, v146]
def w1711 : List PyData := [v27, v28, v29, v30, v31, v32, v33, v34, v35, v36, v37, v38, v39, v40, v41, v42, v43, v44, v45, v46, v47, v48, v49, v50]
def w1712 : List PyData := [v51, v52, v53, v54, v55, v56, v57, v58, v59, v60, v61, v62, v63, v64, v65, v66, v67, v68, v69, v70, v71, v72, v73, v74]
def w1713 : List PyData := [v75, v76, v77, v78, v79, v80, v81, v82, v83, v84, v85, v86, v87, v88, v89, v90, v91, v92, v93, v94, v95, v96, v97, v98]
def w1714 : List PyData := [v99, v100, v101, v102, v103, v104, v105, v106, v107, v108, v109, v110, v111, v112, v113, v114, v115, v116, v117, v118, v119, v120, v121, v122]
def w1715 : List PyData := [v123, v124, v125, v126, v127, v128, v129, v130, v131, v132, v133, v134, v135, v136, v137, v138, v139, v140, v141, v142, v143, v144, v145, v146]
def w1716 : List PyData := [v27, v28, v29, v30, v31, v32, v33, v34, v35, v36, v37, v38, v39, v40, v41, v42, v43, v44, v45, v46, v47, v48, v49, v50]
def w1717 : List PyData := [v51, v52, v53, v54, v55, v56, v57, v58, v59, v60, v61, v62, v63, v64, v65, v66, v67, v68, v69, v70, v71, v72, v73, v74]
def w1718 : List PyData := [v75, v76, v77, v78, v79, v80, v81, v82, v83, v84, v85, v86, v87, v88, v89, v90, v91, v92, v93, v94, v95, v96, v97, v98]
def w1719 : List PyData := [v99, v100, v101, v102, v103, v104, v105, v106, v107, v108, v109, v110, v111, v112, v113, v114, v115, v116, v117, v118, v119, v120, v121, v122]
def w1720 : List PyData := [v123, v124, v125, v126, v127, v128, v129, v130, v131, v132, v133, v134, v135, v136, v137, v138, v139, v140, v141, v142, v143, v144, v145, v146]
def w1721 : List PyData := [v27, v28, v29, v30, v31, v32, v33, v34, v35, v36, v37, v38, v39, v40, v41, v42, v43, v44, v45, v46, v47, v48, v49, v50]
def w1722 : List PyData := [v51, v52, v53, v54, v55, v56, v57, v58, v59, v60, v61, v62, v63, v64, v65, v66, v67, v68, v69, v70, v71, v72, v73, v74]
def w1723 : List PyData := [v75, v76, v77, v78, v79, v80, v81, v82, v83, v84, v85, v86, v87, v88, v89, v90, v91, v92, v93, v94, v95, v96, v97, v98]
def w1724 : List PyData := [v99, v100, v101, v102, v103, v104, v105, v106, v107, v108, v109, v110, v111, v112, v113, v114, v115, v116, v117, v118, v119, v120, v121, v122]
def w1725 : List PyData := [v123, v124, v125, v126, v127, v128, v129, v130, v131, v132, v133, v134, v135, v136, v137, v138, v139, v140, v141, v142, v143, v144, v145, v146]
def w1726 : List PyData := [v27, v28, v29, v30, v31, v32, v33, v34, v35, v36, v37, v38, v39, v40, v41, v42, v43, v44, v45, v46, v47, v48, v49, v50]
def w1727 : List PyData := [v51, v52, v53, v54, v55, v56, v57, v58, v59, v60, v61, v62, v63, v64, v65, v66, v67, v68, v69, v70, v71, v72, v73, v74]
def w1728 : List PyData := [v75, v76, v77, v78, v79, v80, v81, v82, v83, v84, v85, v86, v87, v88, v89, v90, v91, v92, v93, v94, v95, v96, v97, v98]
def w1729 : List PyData := [v99, v100, v101, v102, v103, v104, v105, v106, v107, v108, v109, v110, v111, v112, v113, v114, v115, v116, v117, v118, v119, v120, v121, v122]
def w1730 : List PyData := [v123, v124, v125, v126, v127, v128, v129, v130, v131, v132, v133, v134, v135, v136, v137, v138, v139, v140, v141, v142, v143, v144, v145, v146]
def w1731 : List PyData := [v27, v28, v29, v30, v31, v32, v33, v34, v35, v36, v37, v38, v39, v40, v41, v42, v43, v44, v45, v46, v47, v48, v49, v50]
def w1732 : List PyData := [v51, v52, v53, v54, v55, v56, v57, v58, v59, v60, v61, v62, v63, v64, v65, v66, v67, v68, v69, v70, v71, v72, v73, v74]
def w1733 : List PyData := [v75, v76, v77, v78, v79, v80, v81, v82, v83, v84, v85, v86, v87, v88, v89, v90, v91, v92, v93, v94, v95, v96, v97, v98]
def w1734 : List PyData := [v99, v100, v101, v102, v103, v104, v105, v106, v107, v108, v109, v110, v111, v112, v113, v114, v115, v116, v117, v118, v119, v120, v121, v122]
def w1735 : List PyData := [v123, v124, v125, v126, v127, v128, v129, v130, v131, v132, v133, v134, v135, v136, v137, v138, v139, v140, v141, v142, v143, v144, v145, v146]
def w1736 : List PyData := [v27, v28, v29, v30, v31, v32, v33, v34, v35, v36, v37, v38, v39, v40, v41, v42, v43, v44, v45, v46, v47, v48, v49, v50]
def w1737 : List PyData := [v51, v52, v53, v54, v55, v56, v57, v58, v59, v60, v61, v62, v63, v64, v65, v66, v67, v68, v69, v70, v71, v72, v73, v74]
def w1738 : List PyData := [v75, v76, v77, v78, v79, v80, v81, v82, v83, v84, v85, v86, v87, v88, v89, v90, v91, v92, v93, v94, v95, v96, v97, v98]
def w1739 : List PyData := [v99, v100, v101, v102, v103, v104, v105, v106, v107, v108, v109, v110, v111, v112, v113, v114, v115, v116, v117, v118, v119, v120, v121, v122]
def w1740 : List PyData := [v123, v124, v125, v126, v127, v128, v129, v130, v131, v132, v133, v134, v135, v136, v137, v138, v139, v140, v141, v142, v143, v144, v145, v146]
def w1741 : List PyData := [v27, v28, v29, v30, v31, v32, v33, v34, v35, v36, v37, v38, v39, v40, v41, v42, v43, v44, v45, v46, v47, v48, v49, v50]
def w1742 : List PyData := [v51, v52, v53, v54, v55, v56, v57, v58, v59, v60, v61, v62, v63, v64, v65, v66, v67, v68, v69, v70, v71, v72, v73, v74]
def w1743 : List PyData := [v75, v76, v77, v78, v79, v80, v81, v82, v83, v84, v85, v86, v87, v88, v89, v90, v91, v92, v93, v94, v95, v96, v97, v98]
def w1744 : List PyData := [v99, v100, v101, v102, v103, v104, v105, v106, v107, v108, v109, v110, v111, v112, v113, v114, v115, v116, v117, v118, v119, v120, v121, v122]
def w1745 : List PyData := [v123, v124, v125, v126, v127, v128, v129, v130, v131, v132, v133, v134, v135, v136, v137, v138, v139, v140, v141, v142, v143, v144, v145, v146]
def w1746 : List PyData := [v27, v28, v29, v30, v31, v32, v33, v34, v35, v36, v37, v38, v39, v40, v41, v42, v43, v44, v45, v46, v47, v48, v49, v50]
def w1747 : List PyData := [v51, v52, v53, v54, v55, v56, v57, v58, v59, v60, v61, v62, v63, v64, v65, v66, v67, v68, v69, v70, v71, v72, v73, v74]
def w1748 : List PyData := [v75, v76, v77, v78, v79, v80, v81, v82, v83, v84, v85, v86, v87, v88, v89, v90, v91, v92, v93, v94, v95, v96, v97, v98]
def w1749 : List PyData := [v99, v100, v101, v102, v103, v104, v105, v106, v107, v108, v109, v110, v111, v112, v113, v114, v115, v116, v117, v118, v119, v120, v121, v122]
def w1750 : List PyData := [v123, v124, v125, v126, v127, v128, v129, v130, v131, v132, v133, v134, v135, v136, v137, v138, v139, v140, v141, v142, v143, v144, v145, v146]
def w1751 : List PyData := [v27, v28, v29, v30, v31, v32, v33, v34, v35, v36, v37, v38, v39, v40, v41, v42, v43, v44, v45, v46, v47, v48, v49, v50]
def w1752 : List PyData := [v51, v52, v53, v54, v55, v56, v57, v58, v59, v60, v61, v62, v63, v64, v65, v66, v67, v68, v69, v70, v71, v72, v73, v74]
def w1753 : List PyData := [v75, v76, v77, v78, v79, v80, v81, v82, v83, v84, v85, v86, v87, v88, v89, v90, v91, v92, v93, v94, v95, v96, v97, v98]
def w1754 : List PyData := [v99, v100, v101, v102, v103, v104, v105, v106, v107, v108, v109, v110, v111, v112, v113, v114, v115, v116, v117, v118, v119, v120, v121, v122]
def w1755 : List PyData := [v123, v124, v125, v126, v127, v128, v129, v130, v131, v132, v133, v134, v135, v136, v137, v138, v139, v140, v141, v142, v143, v144, v145, v146]
def w1756 : List PyData := [v27, v28, v29, v30, v31, v32, v33, v34, v35, v36, v37, v38, v39, v40, v41, v42, v43, v44, v45, v46, v47, v48, v49, v50]
def w1757 : List PyData := [v51, v52, v53, v54, v55, v56, v57, v58, v59, v60, v61, v62, v63, v64, v65, v66, v67, v68, v69, v70, v71, v72, v73, v74]
def w1758 : List PyData := [v75, v76, v77, v78, v79, v80, v81, v82, v83, v84, v85, v86, v87, v88, v89, v90, v91, v92, v93, v94, v95, v96, v97, v98]
def w1759 : List PyData := [v99, v100, v101, v102, v103, v104, v105, v106, v107, v108, v109, v110, v111, v112, v113, v114, v115, v116, v117, v118, v119, v120, v121, v122]
def w1760 : List PyData := [v123, v124, v125, v126, v127, v128, v129, v130, v131, v132, v133, v134, v135, v136, v137, v138, v139, v140, v141, v142, v143, v144, v145, v146]
def w1761 : List PyData := [v27, v28, v29, v30, v31, v32, v33, v34, v35, v36, v37, v38, v39, v40, v41, v42, v43, v44, v45, v46, v47, v48, v49, v50]
def w1762 : List PyData := [v51, v52, v53, v54, v55, v56, v57, v58, v59, v60, v61, v62, v63, v64, v65, v66, v67, v68, v69, v70, v71, v72, v73, v74]
def w1763 : List PyData := [v75, v76, v77, v78, v79, v80, v81, v82, v83, v84, v85, v86, v87, v88, v89, v90, v91, v92, v93, v94, v95, v96, v97, v98]
def w1764 : List PyData := [v99, v100, v101, v102, v103, v104, v105, v106, v107, v108, v109, v110, v111, v112, v113, v114, v115, v116, v117, v118, v119, v120, v121, v122]
def w1765 : List PyData := [v123, v124, v125, v126, v127, v128, v129, v130, v131, v132, v133, v134, v135, v136, v137, v138, v139, v140, v141, v142, v143, v144, v145, v146]
def w1766 : List PyData := [v27, v28, v29, v30, v31, v32, v33, v34, v35, v36, v37, v38, v39, v40, v41, v42, v43, v44, v45, v46, v47, v48, v49, v50]
def w1767 : List PyData := [v51, v52, v53, v54, v55, v56, v57, v58, v59, v60, v61, v62, v63, v64, v65, v66, v67, v68, v69, v70, v71, v72, v73, v74]
def w1768 : List PyData := [v75, v76, v77, v78, v79, v80, v81, v82, v83, v84, v85, v86, v87, v88, v89, v90, v91, v92, v93, v94, v95, v96, v97, v98]
def w1769 : List PyData := [v99, v100, v101, v102, v103, v104, v105, v106, v107, v108, v109, v110, v111, v112, v113, v114, v115, v116, v117, v118, v119, v120, v121, v122]
def w1770 : List PyData := [v123, v124, v125, v126, v127, v128, v129, v130, v131, v132, v133, v134, v135, v136, v137, v138, v139, v140, v141, v142, v143, v144, v145, v146]
def v1422 : PyData := .list [.int (.ofNat 0), .int (.ofNat 1), .int (.ofNat 1), .int (.ofNat 2), .int (.ofNat 2), .int (.ofNat 3)]
def v1423 : PyData := .list [.int (.ofNat 0), .int (.ofNat 1), .int (.ofNat 1), .int (.ofNat 2), .int (.ofNat 2), .int (.ofNat 3), .int (.ofNat 1), .int (.ofNat 2), .int (.ofNat 2), .int (.ofNat 3), .int (.ofNat 3), .int (.ofNat 4), .int (.ofNat 2), .int (.ofNat 3), .int (.ofNat 3), .int (.ofNat 4), .int (.ofNat 4), .int (.ofNat 5), .int (.ofNat 3), .int (.ofNat 4), .int (.ofNat 4), .int (.ofNat 5), .int (.ofNat 5), .int (.ofNat 6)]
def w1773 : List PyData := [.int (.ofNat 0), .int (.ofNat 1), .int (.ofNat 1), .int (.ofNat 2), .int (.ofNat 2), .int (.ofNat 3), .int (.ofNat 1), .int (.ofNat 2), .int (.ofNat 2), .int (.ofNat 3), .int (.ofNat 3), .int (.ofNat 4), .int (.ofNat 2), .int (.ofNat 3), .int (.ofNat 3), .int (.ofNat 4), .int (.ofNat 4), .int (.ofNat 5), .int (.ofNat 3), .int (.ofNat 4), .int (.ofNat 4), .int (.ofNat 5), .int (.ofNat 5), .int (.ofNat 6)]
def w1774 : List PyData := [.int (.ofNat 1), .int (.ofNat 2), .int (.ofNat 2), .int (.ofNat 3), .int (.ofNat 3), .int (.ofNat 4), .int (.ofNat 2), .int (.ofNat 3), .int (.ofNat 3), .int (.ofNat 4), .int (.ofNat 4), .int (.ofNat 5), .int (.ofNat 3), .int (.ofNat 4), .int (.ofNat 4), .int (.ofNat 5), .int (.ofNat 5), .int (.ofNat 6), .int (.ofNat 4), .int (.ofNat 5), .int (.ofNat 5), .int (.ofNat 6), .int (.ofNat 6), .int (.ofNat 7)]
def w1775 : List PyData := [.int (.ofNat 2), .int (.ofNat 3), .int (.ofNat 3), .int (.ofNat 4), .int (.ofNat 4), .int (.ofNat 5), .int (.ofNat 3), .int (.ofNat 4), .int (.ofNat 4), .int (.ofNat 5), .int (.ofNat 5), .int (.ofNat 6), .int (.ofNat 4), .int (.ofNat 5), .int (.ofNat 5), .int (.ofNat 6), .int (.ofNat 6), .int (.ofNat 7), .int (.ofNat 5), .int (.ofNat 6), .int (.ofNat 6), .int (.ofNat 7), .int (.ofNat 7), .int (.ofNat 8)]
def w1776 : List PyData := [.int (.ofNat 3), .int (.ofNat 4), .int (.ofNat 4), .int (.ofNat 5), .int (.ofNat 5), .int (.ofNat 6), .int (.ofNat 4), .int (.ofNat 5), .int (.ofNat 5), .int (.ofNat 6), .int (.ofNat 6), .int (.ofNat 7), .int (.ofNat 5), .int (.ofNat 6), .int (.ofNat 6), .int (.ofNat 7), .int (.ofNat 7), .int (.ofNat 8), .int (.ofNat 6), .int (.ofNat 7), .int (.ofNat 7), .int (.ofNat 8), .int (.ofNat 8), .int (.ofNat 9)]
def w1777 : List PyData := [.int (.ofNat 4), .int (.ofNat 5), .int (.ofNat 5), .int (.ofNat 6), .int (.ofNat 6), .int (.ofNat 7), .int (.ofNat 5), .int (.ofNat 6), .int (.ofNat 6), .int (.ofNat 7), .int (.ofNat 7), .int (.ofNat 8), .int (.ofNat 6), .int (.ofNat 7), .int (.ofNat 7), .int (.ofNat 8), .int (.ofNat 8), .int (.ofNat 9), .int (.ofNat 7), .int (.ofNat 8), .int (.ofNat 8), .int (.ofNat 9), .int (.ofNat 9), .int (.ofNat 10)]
def w1778 : List PyData := [.int (.ofNat 0), .int (.ofNat 1), .int (.ofNat 1), .int (.ofNat 2), .int (.ofNat 2), .int (.ofNat 3), .int (.ofNat 1), .int (.ofNat 2), .int (.ofNat 2), .int (.ofNat 3), .int (.ofNat 3), .int (.ofNat 4), .int (.ofNat 2), .int (.ofNat 3), .int (.ofNat 3), .int (.ofNat 4), .int (.ofNat 4), .int (.ofNat 5), .int (.ofNat 3), .int (.ofNat 4), .int (.ofNat 4), .int (.ofNat 5), .int (.ofNat 5), .int (.ofNat 6)]
def w1779 : List PyData := [.int (.ofNat 1), .int (.ofNat 2), .int (.ofNat 2), .int (.ofNat 3), .int (.ofNat 3), .int (.ofNat 4), .int (.ofNat 2), .int (.ofNat 3), .int (.ofNat 3), .int (.ofNat 4), .int (.ofNat 4), .int (.ofNat 5), .int (.ofNat 3), .int (.ofNat 4), .int (.ofNat 4), .int (.ofNat 5), .int (.ofNat 5), .int (.ofNat 6), .int (.ofNat 4), .int (.ofNat 5), .int (.ofNat 5), .int (.ofNat 6), .int (.ofNat 6), .int (.ofNat 7)]
def w1780 : List PyData := [.int (.ofNat 2), .int (.ofNat 3), .int (.ofNat 3), .int (.ofNat 4), .int (.ofNat 4), .int (.ofNat 5), .int (.ofNat 3), .int (.ofNat 4), .int (.ofNat 4), .int (.ofNat 5), .int (.ofNat 5), .int (.ofNat 6), .int (.ofNat 4), .int (.ofNat 5), .int (.ofNat 5), .int (.ofNat 6), .int (.ofNat 6), .int (.ofNat 7), .int (.ofNat 5), .int (.ofNat 6), .int (.ofNat 6), .int (.ofNat 7), .int (.ofNat 7), .int (.ofNat 8)]
def w1781 : List PyData := [.int (.ofNat 3), .int (.ofNat 4), .int (.ofNat 4), .int (.ofNat 5), .int (.ofNat 5), .int (.ofNat 6), .int (.ofNat 4), .int (.ofNat 5), .int (.ofNat 5), .int (.ofNat 6), .int (.ofNat 6), .int (.ofNat 7), .int (.ofNat 5), .int (.ofNat 6), .int (.ofNat 6), .int (.ofNat 7), .int (.ofNat 7), .int (.ofNat 8), .int (.ofNat 6), .int (.ofNat 7), .int (.ofNat 7), .int (.ofNat 8), .int (.ofNat 8), .int (.ofNat 9)]
def w1782 : List PyData := [.int (.ofNat 4), .int (.ofNat 5), .int (.ofNat 5), .int (.ofNat 6), .int (.ofNat 6), .int (.ofNat 7), .int (.ofNat 5), .int (.ofNat 6), .int (.ofNat 6), .int (.ofNat 7), .int (.ofNat 7), .int (.ofNat 8), .int (.ofNat 6), .int (.ofNat 7), .int (.ofNat 7), .int (.ofNat 8), .int (.ofNat 8), .int (.ofNat 9), .int (.ofNat 7), .int (.ofNat 8), .int (.ofNat 8), .int (.ofNat 9), .int (.ofNat 9), .int (.ofNat 10)]
def w1783 : List PyData := [.int (.ofNat 0), .int (.ofNat 1), .int (.ofNat 1), .int (.ofNat 2), .int (.ofNat 2), .int (.ofNat 3), .int (.ofNat 1), .int (.ofNat 2), .int (.ofNat 2), .int (.ofNat 3), .int (.ofNat 3), .int (.ofNat 4), .int (.ofNat 2), .int (.ofNat 3), .int (.ofNat 3), .int (.ofNat 4), .int (.ofNat 4), .int (.ofNat 5), .int (.ofNat 3), .int (.ofNat 4), .int (.ofNat 4), .int (.ofNat 5), .int (.ofNat 5), .int (.ofNat 6)]
def w1784 : List PyData := [.int (.ofNat 1), .int (.ofNat 2), .int (.ofNat 2), .int (.ofNat 3), .int (.ofNat 3), .int (.ofNat 4), .int (.ofNat 2), .int (.ofNat 3), .int (.ofNat 3), .int (.ofNat 4), .int (.ofNat 4), .int (.ofNat 5), .int (.ofNat 3), .int (.ofNat 4), .int (.ofNat 4), .int (.ofNat 5), .int (.ofNat 5), .int (.ofNat 6), .int (.ofNat 4), .int (.ofNat 5), .int (.ofNat 5), .int (.ofNat 6), .int (.ofNat 6), .int (.ofNat 7)]
def w1785 : List PyData := [.int (.ofNat 2), .int (.ofNat 3), .int (.ofNat 3), .int (.ofNat 4), .int (.ofNat 4), .int (.ofNat 5), .int (.ofNat 3), .int (.ofNat 4), .int (.ofNat 4), .int (.ofNat 5), .int (.ofNat 5), .int (.ofNat 6), .int (.ofNat 4), .int (.ofNat 5), .int (.ofNat 5), .int (.ofNat 6), .int (.ofNat 6), .int (.ofNat 7), .int (.ofNat 5), .int (.ofNat 6), .int (.ofNat 6), .int (.ofNat 7), .int (.ofNat 7), .int (.ofNat 8)]
def w1786 : List PyData := [.int (.ofNat 3), .int (.ofNat 4), .int (.ofNat 4), .int (.ofNat 5), .int (.ofNat 5), .int (.ofNat 6), .int (.ofNat 4), .int (.ofNat 5), .int (.ofNat 5), .int (.ofNat 6), .int (.ofNat 6), .int (.ofNat 7), .int (.ofNat 5), .int (.ofNat 6), .int (.ofNat 6), .int (.ofNat 7), .int (.ofNat 7), .int (.ofNat 8), .int (.ofNat 6), .int (.ofNat 7), .int (.ofNat 7), .int (.ofNat 8), .int (.ofNat 8), .int (.ofNat 9)]
def w1787 : List PyData := [.int (.ofNat 4), .int (.ofNat 5), .int (.ofNat 5), .int (.ofNat 6), .int (.ofNat 6), .int (.ofNat 7), .int (.ofNat 5), .int (.ofNat 6), .int (.ofNat 6), .int (.ofNat 7), .int (.ofNat 7), .int (.ofNat 8), .int (.ofNat 6), .int (.ofNat 7), .int (.ofNat 7), .int (.ofNat 8), .int (.ofNat 8), .int (.ofNat 9), .int (.ofNat 7), .int (.ofNat 8), .int (.ofNat 8), .int (.ofNat 9), .int (.ofNat 9), .int (.ofNat 10)]
def w1788 : List PyData := [.int (.ofNat 0), .int (.ofNat 1), .int (.ofNat 1), .int (.ofNat 2), .int (.ofNat 2), .int (.ofNat 3), .int (.ofNat 1), .int (.ofNat 2), .int (.ofNat 2), .int (.ofNat 3), .int (.ofNat 3), .int (.ofNat 4), .int (.ofNat 2), .int (.ofNat 3), .int (.ofNat 3), .int (.ofNat 4), .int (.ofNat 4), .int (.ofNat 5), .int (.ofNat 3), .int (.ofNat 4), .int (.ofNat 4), .int (.ofNat 5), .int (.ofNat 5), .int (.ofNat 6)]
def w1789 : List PyData := [.int (.ofNat 1), .int (.ofNat 2), .int (.ofNat 2), .int (.ofNat 3), .int (.ofNat 3), .int (.ofNat 4), .int (.ofNat 2), .int (.ofNat 3), .int (.ofNat 3), .int (.ofNat 4), .int (.ofNat 4), .int (.ofNat 5), .int (.ofNat 3), .int (.ofNat 4), .int (.ofNat 4), .int (.ofNat 5), .int (.ofNat 5), .int (.ofNat 6), .int (.ofNat 4), .int (.ofNat 5), .int (.ofNat 5), .int (.ofNat 6), .int (.ofNat 6), .int (.ofNat 7)]
def w1790 : List PyData := [.int (.ofNat 2), .int (.ofNat 3), .int (.ofNat 3), .int (.ofNat 4), .int (.ofNat 4), .int (.ofNat 5), .int (.ofNat 3), .int (.ofNat 4), .int (.ofNat 4), .int (.ofNat 5), .int (.ofNat 5), .int (.ofNat 6), .int (.ofNat 4), .int (.ofNat 5), .int (.ofNat 5), .int (.ofNat 6), .int (.ofNat 6), .int (.ofNat 7), .int (.ofNat 5), .int (.ofNat 6), .int (.ofNat 6), .int (.ofNat 7), .int (.ofNat 7), .int (.ofNat 8)]
def w1791 : List PyData := [.int (.ofNat 3), .int (.ofNat 4), .int (.ofNat 4), .int (.ofNat 5), .int (.ofNat 5), .int (.ofNat 6), .int (.ofNat 4), .int (.ofNat 5), .int (.ofNat 5), .int (.ofNat 6), .int (.ofNat 6), .int (.ofNat 7), .int (.ofNat 5), .int (.ofNat 6), .int (.ofNat 6), .int (.ofNat 7), .int (.ofNat 7), .int (.ofNat 8), .int (.ofNat 6), .int (.ofNat 7), .int (.ofNat 7), .int (.ofNat 8), .int (.ofNat 8), .int (.ofNat 9)]
def w1792 : List PyData := [.int (.ofNat 4), .int (.ofNat 5), .int (.ofNat 5), .int (.ofNat 6), .int (.ofNat 6), .int (.ofNat 7), .int (.ofNat 5), .int (.ofNat 6), .int (.ofNat 6), .int (.ofNat 7), .int (.ofNat 7), .int (.ofNat 8), .int (.ofNat 6), .int (.ofNat 7), .int (.ofNat 7), .int (.ofNat 8), .int (.ofNat 8), .int (.ofNat 9), .int (.ofNat 7), .int (.ofNat 8), .int (.ofNat 8), .int (.ofNat 9), .int (.ofNat 9), .int (.ofNat 10)]
def w1793 : List PyData := [.int (.ofNat 0), .int (.ofNat 1), .int (.ofNat 1), .int (.ofNat 2), .int (.ofNat 2), .int (.ofNat 3), .int (.ofNat 1), .int (.ofNat 2), .int (.ofNat 2), .int (.ofNat 3), .int (.ofNat 3), .int (.ofNat 4), .int (.ofNat 2), .int (.ofNat 3), .int (.ofNat 3), .int (.ofNat 4), .int (.ofNat 4), .int (.ofNat 5), .int (.ofNat 3), .int (.ofNat 4), .int (.ofNat 4), .int (.ofNat 5), .int (.ofNat 5), .int (.ofNat 6)]
def w1794 : List PyData := [.int (.ofNat 1), .int (.ofNat 2), .int (.ofNat 2), .int (.ofNat 3), .int (.ofNat 3), .int (.ofNat 4), .int (.ofNat 2), .int (.ofNat 3), .int (.ofNat 3), .int (.ofNat 4), .int (.ofNat 4), .int (.ofNat 5), .int (.ofNat 3), .int (.ofNat 4), .int (.ofNat 4), .int (.ofNat 5), .int (.ofNat 5), .int (.ofNat 6), .int (.ofNat 4), .int (.ofNat 5), .int (.ofNat 5), .int (.ofNat 6), .int (.ofNat 6), .int (.ofNat 7)]
def w1795 : List PyData := [.int (.ofNat 2), .int (.ofNat 3), .int (.ofNat 3), .int (.ofNat 4), .int (.ofNat 4), .int (.ofNat 5), .int (.ofNat 3), .int (.ofNat 4), .int (.ofNat 4), .int (.ofNat 5), .int (.ofNat 5), .int (.ofNat 6), .int (.ofNat 4), .int (.ofNat 5), .int (.ofNat 5), .int (.ofNat 6), .int (.ofNat 6), .int (.ofNat 7), .int (.ofNat 5), .int (.ofNat 6), .int (.ofNat 6), .int (.ofNat 7), .int (.ofNat 7), .int (.ofNat 8)]
def w1796 : List PyData := [.int (.ofNat 3), .int (.ofNat 4), .int (.ofNat 4), .int (.ofNat 5), .int (.ofNat 5), .int (.ofNat 6), .int (.ofNat 4), .int (.ofNat 5), .int (.ofNat 5), .int (.ofNat 6), .int (.ofNat 6), .int (.ofNat 7), .int (.ofNat 5), .int (.ofNat 6), .int (.ofNat 6), .int (.ofNat 7), .int (.ofNat 7), .int (.ofNat 8), .int (.ofNat 6), .int (.ofNat 7), .int (.ofNat 7), .int (.ofNat 8), .int (.ofNat 8), .int (.ofNat 9)]
def w1797 : List PyData := [.int (.ofNat 4), .int (.ofNat 5), .int (.ofNat 5), .int (.ofNat 6), .int (.ofNat 6), .int (.ofNat 7), .int (.ofNat 5), .int (.ofNat 6), .int (.ofNat 6), .int (.ofNat 7), .int (.ofNat 7), .int (.ofNat 8), .int (.ofNat 6), .int (.ofNat 7), .int (.ofNat 7), .int (.ofNat 8), .int (.ofNat 8), .int (.ofNat 9), .int (.ofNat 7), .int (.ofNat 8), .int (.ofNat 8), .int (.ofNat 9), .int (.ofNat 9), .int (.ofNat 10)]
def w1798 : List PyData := [.int (.ofNat 0), .int (.ofNat 1), .int (.ofNat 1), .int (.ofNat 2), .int (.ofNat 2), .int (.ofNat 3), .int (.ofNat 1), .int (.ofNat 2), .int (.ofNat 2), .int (.ofNat 3), .int (.ofNat 3), .int (.ofNat 4), .int (.ofNat 2), .int (.ofNat 3), .int (.ofNat 3), .int (.ofNat 4), .int (.ofNat 4), .int (.ofNat 5), .int (.ofNat 3), .int (.ofNat 4), .int (.ofNat 4), .int (.ofNat 5), .int (.ofNat 5), .int (.ofNat 6)]
def w1799 : List PyData := [.int (.ofNat 1), .int (.ofNat 2), .int (.ofNat 2), .int (.ofNat 3), .int (.ofNat 3), .int (.ofNat 4), .int (.ofNat 2), .int (.ofNat 3), .int (.ofNat 3), .int (.ofNat 4), .int (.ofNat 4), .int (.ofNat 5), .int (.ofNat 3), .int (.ofNat 4), .int (.ofNat 4), .int (.ofNat 5), .int (.ofNat 5), .int (.ofNat 6), .int (.ofNat 4), .int (.ofNat 5), .int (.ofNat 5), .int (.ofNat 6), .int (.ofNat 6), .int (.ofNat 7)]
def w1800 : List PyData := [.int (.ofNat 2), .int (.ofNat 3), .int (.ofNat 3), .int (.ofNat 4), .int (.ofNat 4), .int (.ofNat 5), .int (.ofNat 3), .int (.ofNat 4), .int (.ofNat 4), .int (.ofNat 5), .int (.ofNat 5), .int (.ofNat 6), .int (.ofNat 4), .int (.ofNat 5), .int (.ofNat 5), .int (.ofNat 6), .int (.ofNat 6), .int (.ofNat 7), .int (.ofNat 5), .int (.ofNat 6), .int (.ofNat 6), .int (.ofNat 7), .int (.ofNat 7), .int (.ofNat 8)]
def w1801 : List PyData := [.int (.ofNat 3), .int (.ofNat 4), .int (.ofNat 4), .int (.ofNat 5), .int (.ofNat 5), .int (.ofNat 6), .int (.ofNat 4), .int (.ofNat 5), .int (.ofNat 5), .int (.ofNat 6), .int (.ofNat 6), .int (.ofNat 7), .int (.ofNat 5), .int (.ofNat 6), .int (.ofNat 6), .int (.ofNat 7), .int (.ofNat 7), .int (.ofNat 8), .int (.ofNat 6), .int (.ofNat 7), .int (.ofNat 7), .int (.ofNat 8), .int (.ofNat 8), .int (.ofNat 9)]
def w1802 : List PyData := [.int (.ofNat 4), .int (.ofNat 5), .int (.ofNat 5), .int (.ofNat 6), .int (.ofNat 6), .int (.ofNat 7), .int (.ofNat 5), .int (.ofNat 6), .int (.ofNat 6), .int (.ofNat 7), .int (.ofNat 7), .int (.ofNat 8), .int (.ofNat 6), .int (.ofNat 7), .int (.ofNat 7), .int (.ofNat 8), .int (.ofNat 8), .int (.ofNat 9), .int (.ofNat 7), .int (.ofNat 8), .int (.ofNat 8), .int (.ofNat 9), .int (.ofNat 9), .int (.ofNat 10)]
def v1424 : PyData := .list [.tuple [.int (.ofNat 1), .int (.ofNat 1)], .tuple [.int (.ofNat 2), .int (.ofNat 0)]]
def v1425 : PyData := .list [.tuple [.int (.ofNat 1), .int (.ofNat 1), .int (.ofNat 1)]]
def v1426 : PyData := .list [.tuple [.int (.ofNat 1), .int (.ofNat 1), .int (.ofNat 1)], .tuple [.int (.ofNat 2), .int (.ofNat 1), .int (.ofNat 0)]]
def v1427 : PyData := .list [.tuple [.int (.ofNat 1), .int (.ofNat 1), .int (.ofNat 1)], .tuple [.int (.ofNat 2), .int (.ofNat 1), .int (.ofNat 0)], .tuple [.int (.ofNat 3), .int (.ofNat 0), .int (.ofNat 0)]]
def v1428 : PyData := .tuple [.int (.ofNat 4), .int (.ofNat 0), .int (.ofNat 0), .int (.ofNat 0)]
def v1429 : PyData := .tuple [.int (.ofNat 4), .int (.ofNat 1), .int (.ofNat 0), .int (.ofNat 0), .int (.ofNat 0)]
def v1430 : PyData := .tuple [.int (.negSucc 0), .int (.negSucc 0), .int (.negSucc 0)]
def v1431 : PyData := .list [.tuple [.int (.ofNat 1), .int (.negSucc 0)], .tuple [.int (.negSucc 0), .int (.ofNat 1)]]
def v1432 : PyData := .tuple [.int (.ofNat 1), .int (.negSucc 0), .int (.negSucc 0)]
def v1433 : PyData := .tuple [.int (.negSucc 0), .int (.ofNat 1), .int (.negSucc 0)]
def v1434 : PyData := .tuple [.int (.negSucc 0), .int (.negSucc 0), .int (.ofNat 1)]
def v1435 : PyData := .tuple [.int (.ofNat 1), .int (.negSucc 0), .int (.negSucc 0), .int (.negSucc 0)]
def v1436 : PyData := .tuple [.int (.negSucc 0), .int (.ofNat 1), .int (.negSucc 0), .int (.negSucc 0)]
def v1437 : PyData := .tuple [.int (.negSucc 0), .int (.negSucc 0), .int (.ofNat 1), .int (.negSucc 0)]
def v1438 : PyData := .tuple [.int (.negSucc 0), .int (.negSucc 0), .int (.negSucc 0), .int (.ofNat 1)]
def v1439 : PyData := .list [.tuple [.int (.ofNat 1), .int (.ofNat 1), .int (.negSucc 0)], .tuple [.int (.ofNat 1), .int (.negSucc 0), .int (.ofNat 1)], .tuple [.int (.negSucc 0), .int (.ofNat 1), .int (.ofNat 1)]]
def v1440 : PyData := .tuple [.int (.ofNat 1), .int (.ofNat 1), .int (.negSucc 0), .int (.negSucc 0)]
def v1441 : PyData := .tuple [.int (.ofNat 1), .int (.negSucc 0), .int (.ofNat 1), .int (.negSucc 0)]
def v1442 : PyData := .tuple [.int (.ofNat 1), .int (.negSucc 0), .int (.negSucc 0), .int (.ofNat 1)]
def v1443 : PyData := .tuple [.int (.negSucc 0), .int (.ofNat 1), .int (.ofNat 1), .int (.negSucc 0)]
def v1444 : PyData := .tuple [.int (.negSucc 0), .int (.ofNat 1), .int (.negSucc 0), .int (.ofNat 1)]
def v1445 : PyData := .tuple [.int (.negSucc 0), .int (.negSucc 0), .int (.ofNat 1), .int (.ofNat 1)]
def v1446 : PyData := .tuple [.int (.ofNat 1), .int (.ofNat 1), .int (.negSucc 0), .int (.negSucc 0), .int (.negSucc 0)]
def v1447 : PyData := .tuple [.int (.ofNat 1), .int (.negSucc 0), .int (.ofNat 1), .int (.negSucc 0), .int (.negSucc 0)]
def v1448 : PyData := .tuple [.int (.ofNat 1), .int (.negSucc 0), .int (.negSucc 0), .int (.ofNat 1), .int (.negSucc 0)]
def v1449 : PyData := .tuple [.int (.ofNat 1), .int (.negSucc 0), .int (.negSucc 0), .int (.negSucc 0), .int (.ofNat 1)]
def v1450 : PyData := .tuple [.int (.negSucc 0), .int (.ofNat 1), .int (.ofNat 1), .int (.negSucc 0), .int (.negSucc 0)]
def v1451 : PyData := .tuple [.int (.negSucc 0), .int (.ofNat 1), .int (.negSucc 0), .int (.ofNat 1), .int (.negSucc 0)]
def v1452 : PyData := .tuple [.int (.negSucc 0), .int (.ofNat 1), .int (.negSucc 0), .int (.negSucc 0), .int (.ofNat 1)]
def v1453 : PyData := .tuple [.int (.negSucc 0), .int (.negSucc 0), .int (.ofNat 1), .int (.ofNat 1), .int (.negSucc 0)]
def v1454 : PyData := .tuple [.int (.negSucc 0), .int (.negSucc 0), .int (.ofNat 1), .int (.negSucc 0), .int (.ofNat 1)]
def v1455 : PyData := .tuple [.int (.negSucc 0), .int (.negSucc 0), .int (.negSucc 0), .int (.ofNat 1), .int (.ofNat 1)]
def v1456 : PyData := .list [v1446, v1447, v1448, v1449, v1450, v1451, v1452, v1453, v1454, v1455]
def v1457 : PyData := .tuple [.int (.ofNat 1), .int (.ofNat 1), .int (.ofNat 1), .int (.negSucc 0)]
def v1458 : PyData := .tuple [.int (.ofNat 1), .int (.ofNat 1), .int (.negSucc 0), .int (.ofNat 1)]
def v1459 : PyData := .tuple [.int (.ofNat 1), .int (.negSucc 0), .int (.ofNat 1), .int (.ofNat 1)]
def v1460 : PyData := .tuple [.int (.negSucc 0), .int (.ofNat 1), .int (.ofNat 1), .int (.ofNat 1)]
def v1461 : PyData := .tuple [.int (.ofNat 1), .int (.ofNat 1), .int (.ofNat 1), .int (.negSucc 0), .int (.negSucc 0)]
def v1462 : PyData := .tuple [.int (.ofNat 1), .int (.ofNat 1), .int (.negSucc 0), .int (.ofNat 1), .int (.negSucc 0)]
def v1463 : PyData := .tuple [.int (.ofNat 1), .int (.ofNat 1), .int (.negSucc 0), .int (.negSucc 0), .int (.ofNat 1)]
def v1464 : PyData := .tuple [.int (.ofNat 1), .int (.negSucc 0), .int (.ofNat 1), .int (.ofNat 1), .int (.negSucc 0)]
def v1465 : PyData := .tuple [.int (.ofNat 1), .int (.negSucc 0), .int (.ofNat 1), .int (.negSucc 0), .int (.ofNat 1)]
def v1466 : PyData := .tuple [.int (.ofNat 1), .int (.negSucc 0), .int (.negSucc 0), .int (.ofNat 1), .int (.ofNat 1)]
def v1467 : PyData := .tuple [.int (.negSucc 0), .int (.ofNat 1), .int (.ofNat 1), .int (.ofNat 1), .int (.negSucc 0)]
def v1468 : PyData := .tuple [.int (.negSucc 0), .int (.ofNat 1), .int (.ofNat 1), .int (.negSucc 0), .int (.ofNat 1)]
def v1469 : PyData := .tuple [.int (.negSucc 0), .int (.ofNat 1), .int (.negSucc 0), .int (.ofNat 1), .int (.ofNat 1)]
def v1470 : PyData := .tuple [.int (.negSucc 0), .int (.negSucc 0), .int (.ofNat 1), .int (.ofNat 1), .int (.ofNat 1)]
def v1471 : PyData := .list [v1461, v1462, v1463, v1464, v1465, v1466, v1467, v1468, v1469, v1470]
def v1472 : PyData := .tuple [.int (.ofNat 1), .int (.ofNat 1), .int (.ofNat 1), .int (.negSucc 0), .int (.negSucc 0), .int (.negSucc 0)]
def v1473 : PyData := .tuple [.int (.ofNat 1), .int (.ofNat 1), .int (.negSucc 0), .int (.ofNat 1), .int (.negSucc 0), .int (.negSucc 0)]
def v1474 : PyData := .tuple [.int (.ofNat 1), .int (.ofNat 1), .int (.negSucc 0), .int (.negSucc 0), .int (.ofNat 1), .int (.negSucc 0)]
def v1475 : PyData := .tuple [.int (.ofNat 1), .int (.ofNat 1), .int (.negSucc 0), .int (.negSucc 0), .int (.negSucc 0), .int (.ofNat 1)]
def v1476 : PyData := .tuple [.int (.ofNat 1), .int (.negSucc 0), .int (.ofNat 1), .int (.ofNat 1), .int (.negSucc 0), .int (.negSucc 0)]
def v1477 : PyData := .tuple [.int (.ofNat 1), .int (.negSucc 0), .int (.ofNat 1), .int (.negSucc 0), .int (.ofNat 1), .int (.negSucc 0)]
def v1478 : PyData := .tuple [.int (.ofNat 1), .int (.negSucc 0), .int (.ofNat 1), .int (.negSucc 0), .int (.negSucc 0), .int (.ofNat 1)]
def v1479 : PyData := .tuple [.int (.ofNat 1), .int (.negSucc 0), .int (.negSucc 0), .int (.ofNat 1), .int (.ofNat 1), .int (.negSucc 0)]
def v1480 : PyData := .tuple [.int (.ofNat 1), .int (.negSucc 0), .int (.negSucc 0), .int (.ofNat 1), .int (.negSucc 0), .int (.ofNat 1)]
def v1481 : PyData := .tuple [.int (.ofNat 1), .int (.negSucc 0), .int (.negSucc 0), .int (.negSucc 0), .int (.ofNat 1), .int (.ofNat 1)]
def v1482 : PyData := .tuple [.int (.negSucc 0), .int (.ofNat 1), .int (.ofNat 1), .int (.ofNat 1), .int (.negSucc 0), .int (.negSucc 0)]
def v1483 : PyData := .tuple [.int (.negSucc 0), .int (.ofNat 1), .int (.ofNat 1), .int (.negSucc 0), .int (.ofNat 1), .int (.negSucc 0)]
def v1484 : PyData := .tuple [.int (.negSucc 0), .int (.ofNat 1), .int (.ofNat 1), .int (.negSucc 0), .int (.negSucc 0), .int (.ofNat 1)]
def v1485 : PyData := .tuple [.int (.negSucc 0), .int (.ofNat 1), .int (.negSucc 0), .int (.ofNat 1), .int (.ofNat 1), .int (.negSucc 0)]
def v1486 : PyData := .tuple [.int (.negSucc 0), .int (.ofNat 1), .int (.negSucc 0), .int (.ofNat 1), .int (.negSucc 0), .int (.ofNat 1)]
def v1487 : PyData := .tuple [.int (.negSucc 0), .int (.ofNat 1), .int (.negSucc 0), .int (.negSucc 0), .int (.ofNat 1), .int (.ofNat 1)]
def v1488 : PyData := .tuple [.int (.negSucc 0), .int (.negSucc 0), .int (.ofNat 1), .int (.ofNat 1), .int (.ofNat 1), .int (.negSucc 0)]
def v1489 : PyData := .tuple [.int (.negSucc 0), .int (.negSucc 0), .int (.ofNat 1), .int (.ofNat 1), .int (.negSucc 0), .int (.ofNat 1)]
def v1490 : PyData := .tuple [.int (.negSucc 0), .int (.negSucc 0), .int (.ofNat 1), .int (.negSucc 0), .int (.ofNat 1), .int (.ofNat 1)]
def v1491 : PyData := .tuple [.int (.negSucc 0), .int (.negSucc 0), .int (.negSucc 0), .int (.ofNat 1), .int (.ofNat 1), .int (.ofNat 1)]
def v1492 : PyData := .list [v1472, v1473, v1474, v1475, v1476, v1477, v1478, v1479, v1480, v1481, v1482, v1483, v1484, v1485, v1486, v1487, v1488, v1489, v1490, v1491]
def v1493 : PyData := .tuple [.int (.ofNat 1), .int (.ofNat 1), .int (.ofNat 1), .int (.ofNat 1), .int (.negSucc 0)]
def v1494 : PyData := .tuple [.int (.ofNat 1), .int (.ofNat 1), .int (.ofNat 1), .int (.negSucc 0), .int (.ofNat 1)]
def v1495 : PyData := .tuple [.int (.ofNat 1), .int (.ofNat 1), .int (.negSucc 0), .int (.ofNat 1), .int (.ofNat 1)]
def v1496 : PyData := .tuple [.int (.ofNat 1), .int (.negSucc 0), .int (.ofNat 1), .int (.ofNat 1), .int (.ofNat 1)]
def v1497 : PyData := .tuple [.int (.negSucc 0), .int (.ofNat 1), .int (.ofNat 1), .int (.ofNat 1), .int (.ofNat 1)]
def v1498 : PyData := .tuple [.int (.ofNat 1), .int (.ofNat 1), .int (.ofNat 1), .int (.ofNat 1), .int (.negSucc 0), .int (.negSucc 0)]
def v1499 : PyData := .tuple [.int (.ofNat 1), .int (.ofNat 1), .int (.ofNat 1), .int (.negSucc 0), .int (.ofNat 1), .int (.negSucc 0)]
def v1500 : PyData := .tuple [.int (.ofNat 1), .int (.ofNat 1), .int (.ofNat 1), .int (.negSucc 0), .int (.negSucc 0), .int (.ofNat 1)]
def v1501 : PyData := .tuple [.int (.ofNat 1), .int (.ofNat 1), .int (.negSucc 0), .int (.ofNat 1), .int (.ofNat 1), .int (.negSucc 0)]
def v1502 : PyData := .tuple [.int (.ofNat 1), .int (.ofNat 1), .int (.negSucc 0), .int (.ofNat 1), .int (.negSucc 0), .int (.ofNat 1)]
def v1503 : PyData := .tuple [.int (.ofNat 1), .int (.ofNat 1), .int (.negSucc 0), .int (.negSucc 0), .int (.ofNat 1), .int (.ofNat 1)]
def v1504 : PyData := .tuple [.int (.ofNat 1), .int (.negSucc 0), .int (.ofNat 1), .int (.ofNat 1), .int (.ofNat 1), .int (.negSucc 0)]
def v1505 : PyData := .tuple [.int (.ofNat 1), .int (.negSucc 0), .int (.ofNat 1), .int (.ofNat 1), .int (.negSucc 0), .int (.ofNat 1)]
def v1506 : PyData := .tuple [.int (.ofNat 1), .int (.negSucc 0), .int (.ofNat 1), .int (.negSucc 0), .int (.ofNat 1), .int (.ofNat 1)]
def v1507 : PyData := .tuple [.int (.ofNat 1), .int (.negSucc 0), .int (.negSucc 0), .int (.ofNat 1), .int (.ofNat 1), .int (.ofNat 1)]
def v1508 : PyData := .tuple [.int (.negSucc 0), .int (.ofNat 1), .int (.ofNat 1), .int (.ofNat 1), .int (.ofNat 1), .int (.negSucc 0)]
def v1509 : PyData := .tuple [.int (.negSucc 0), .int (.ofNat 1), .int (.ofNat 1), .int (.ofNat 1), .int (.negSucc 0), .int (.ofNat 1)]
def v1510 : PyData := .tuple [.int (.negSucc 0), .int (.ofNat 1), .int (.ofNat 1), .int (.negSucc 0), .int (.ofNat 1), .int (.ofNat 1)]
def v1511 : PyData := .tuple [.int (.negSucc 0), .int (.ofNat 1), .int (.negSucc 0), .int (.ofNat 1), .int (.ofNat 1), .int (.ofNat 1)]
def v1512 : PyData := .tuple [.int (.negSucc 0), .int (.negSucc 0), .int (.ofNat 1), .int (.ofNat 1), .int (.ofNat 1), .int (.ofNat 1)]
def v1513 : PyData := .list [v1498, v1499, v1500, v1501, v1502, v1503, v1504, v1505, v1506, v1507, v1508, v1509, v1510, v1511, v1512]
def v1514 : PyData := .tuple [.int (.ofNat 1), .int (.ofNat 1), .int (.ofNat 1), .int (.ofNat 1), .int (.negSucc 0), .int (.negSucc 0), .int (.negSucc 0)]
def v1515 : PyData := .tuple [.int (.ofNat 1), .int (.ofNat 1), .int (.ofNat 1), .int (.negSucc 0), .int (.ofNat 1), .int (.negSucc 0), .int (.negSucc 0)]
def v1516 : PyData := .tuple [.int (.ofNat 1), .int (.ofNat 1), .int (.ofNat 1), .int (.negSucc 0), .int (.negSucc 0), .int (.ofNat 1), .int (.negSucc 0)]
def v1517 : PyData := .tuple [.int (.ofNat 1), .int (.ofNat 1), .int (.ofNat 1), .int (.negSucc 0), .int (.negSucc 0), .int (.negSucc 0), .int (.ofNat 1)]
def v1518 : PyData := .tuple [.int (.ofNat 1), .int (.ofNat 1), .int (.negSucc 0), .int (.ofNat 1), .int (.ofNat 1), .int (.negSucc 0), .int (.negSucc 0)]
def v1519 : PyData := .tuple [.int (.ofNat 1), .int (.ofNat 1), .int (.negSucc 0), .int (.ofNat 1), .int (.negSucc 0), .int (.ofNat 1), .int (.negSucc 0)]
def v1520 : PyData := .tuple [.int (.ofNat 1), .int (.ofNat 1), .int (.negSucc 0), .int (.ofNat 1), .int (.negSucc 0), .int (.negSucc 0), .int (.ofNat 1)]
def v1521 : PyData := .tuple [.int (.ofNat 1), .int (.ofNat 1), .int (.negSucc 0), .int (.negSucc 0), .int (.ofNat 1), .int (.ofNat 1), .int (.negSucc 0)]
def v1522 : PyData := .tuple [.int (.ofNat 1), .int (.ofNat 1), .int (.negSucc 0), .int (.negSucc 0), .int (.ofNat 1), .int (.negSucc 0), .int (.ofNat 1)]
def v1523 : PyData := .tuple [.int (.ofNat 1), .int (.ofNat 1), .int (.negSucc 0), .int (.negSucc 0), .int (.negSucc 0), .int (.ofNat 1), .int (.ofNat 1)]
def v1524 : PyData := .tuple [.int (.ofNat 1), .int (.negSucc 0), .int (.ofNat 1), .int (.ofNat 1), .int (.ofNat 1), .int (.negSucc 0), .int (.negSucc 0)]
def v1525 : PyData := .tuple [.int (.ofNat 1), .int (.negSucc 0), .int (.ofNat 1), .int (.ofNat 1), .int (.negSucc 0), .int (.ofNat 1), .int (.negSucc 0)]
def v1526 : PyData := .tuple [.int (.ofNat 1), .int (.negSucc 0), .int (.ofNat 1), .int (.ofNat 1), .int (.negSucc 0), .int (.negSucc 0), .int (.ofNat 1)]
def v1527 : PyData := .tuple [.int (.ofNat 1), .int (.negSucc 0), .int (.ofNat 1), .int (.negSucc 0), .int (.ofNat 1), .int (.ofNat 1), .int (.negSucc 0)]
def v1528 : PyData := .tuple [.int (.ofNat 1), .int (.negSucc 0), .int (.ofNat 1), .int (.negSucc 0), .int (.ofNat 1), .int (.negSucc 0), .int (.ofNat 1)]
def v1529 : PyData := .tuple [.int (.ofNat 1), .int (.negSucc 0), .int (.ofNat 1), .int (.negSucc 0), .int (.negSucc 0), .int (.ofNat 1), .int (.ofNat 1)]
def v1530 : PyData := .tuple [.int (.ofNat 1), .int (.negSucc 0), .int (.negSucc 0), .int (.ofNat 1), .int (.ofNat 1), .int (.ofNat 1), .int (.negSucc 0)]
def v1531 : PyData := .tuple [.int (.ofNat 1), .int (.negSucc 0), .int (.negSucc 0), .int (.ofNat 1), .int (.ofNat 1), .int (.negSucc 0), .int (.ofNat 1)]
def v1532 : PyData := .tuple [.int (.ofNat 1), .int (.negSucc 0), .int (.negSucc 0), .int (.ofNat 1), .int (.negSucc 0), .int (.ofNat 1), .int (.ofNat 1)]
def v1533 : PyData := .tuple [.int (.ofNat 1), .int (.negSucc 0), .int (.negSucc 0), .int (.negSucc 0), .int (.ofNat 1), .int (.ofNat 1), .int (.ofNat 1)]
def v1534 : PyData := .tuple [.int (.negSucc 0), .int (.ofNat 1), .int (.ofNat 1), .int (.ofNat 1), .int (.ofNat 1), .int (.negSucc 0), .int (.negSucc 0)]
def v1535 : PyData := .tuple [.int (.negSucc 0), .int (.ofNat 1), .int (.ofNat 1), .int (.ofNat 1), .int (.negSucc 0), .int (.ofNat 1), .int (.negSucc 0)]
def v1536 : PyData := .tuple [.int (.negSucc 0), .int (.ofNat 1), .int (.ofNat 1), .int (.ofNat 1), .int (.negSucc 0), .int (.negSucc 0), .int (.ofNat 1)]
def v1537 : PyData := .tuple [.int (.negSucc 0), .int (.ofNat 1), .int (.ofNat 1), .int (.negSucc 0), .int (.ofNat 1), .int (.ofNat 1), .int (.negSucc 0)]
def v1538 : PyData := .tuple [.int (.negSucc 0), .int (.ofNat 1), .int (.ofNat 1), .int (.negSucc 0), .int (.ofNat 1), .int (.negSucc 0), .int (.ofNat 1)]
def v1539 : PyData := .tuple [.int (.negSucc 0), .int (.ofNat 1), .int (.ofNat 1), .int (.negSucc 0), .int (.negSucc 0), .int (.ofNat 1), .int (.ofNat 1)]
def v1540 : PyData := .tuple [.int (.negSucc 0), .int (.ofNat 1), .int (.negSucc 0), .int (.ofNat 1), .int (.ofNat 1), .int (.ofNat 1), .int (.negSucc 0)]
def v1541 : PyData := .tuple [.int (.negSucc 0), .int (.ofNat 1), .int (.negSucc 0), .int (.ofNat 1), .int (.ofNat 1), .int (.negSucc 0), .int (.ofNat 1)]
def v1542 : PyData := .tuple [.int (.negSucc 0), .int (.ofNat 1), .int (.negSucc 0), .int (.ofNat 1), .int (.negSucc 0), .int (.ofNat 1), .int (.ofNat 1)]
def v1543 : PyData := .tuple [.int (.negSucc 0), .int (.ofNat 1), .int (.negSucc 0), .int (.negSucc 0), .int (.ofNat 1), .int (.ofNat 1), .int (.ofNat 1)]
def v1544 : PyData := .tuple [.int (.negSucc 0), .int (.negSucc 0), .int (.ofNat 1), .int (.ofNat 1), .int (.ofNat 1), .int (.ofNat 1), .int (.negSucc 0)]
def v1545 : PyData := .tuple [.int (.negSucc 0), .int (.negSucc 0), .int (.ofNat 1), .int (.ofNat 1), .int (.ofNat 1), .int (.negSucc 0), .int (.ofNat 1)]
def v1546 : PyData := .tuple [.int (.negSucc 0), .int (.negSucc 0), .int (.ofNat 1), .int (.ofNat 1), .int (.negSucc 0), .int (.ofNat 1), .int (.ofNat 1)]
def v1547 : PyData := .tuple [.int (.negSucc 0), .int (.negSucc 0), .int (.ofNat 1), .int (.negSucc 0), .int (.ofNat 1), .int (.ofNat 1), .int (.ofNat 1)]
def v1548 : PyData := .tuple [.int (.negSucc 0), .int (.negSucc 0), .int (.negSucc 0), .int (.ofNat 1), .int (.ofNat 1), .int (.ofNat 1), .int (.ofNat 1)]
def w1928 : List PyData := [v1514, v1515, v1516, v1517, v1518, v1519, v1520, v1521, v1522, v1523, v1524, v1525, v1526, v1527, v1528, v1529, v1530, v1531, v1532, v1533, v1534, v1535, v1536, v1537]
def w1929 : List PyData := [v1538, v1539, v1540, v1541, v1542, v1543, v1544, v1545, v1546, v1547, v1548]
def w1930 : List PyData := [v1514, v1515, v1516, v1517, v1518, v1519, v1520, v1521, v1522, v1523, v1524, v1525, v1526, v1527, v1528, v1529, v1530, v1531, v1532, v1533, v1534, v1535, v1536, v1537]
def w1931 : List PyData := [v1538, v1539, v1540, v1541, v1542, v1543, v1544, v1545, v1546, v1547, v1548]
instance : Swf sw_flat r_law_flat := swf_flat
def m0_law_all : MS := (mSeq (mAsg (bName 2) (mLst (maCons (mTup maNil) maNil)))
  (mSeq (mFor (miR rg1 (maCons (mVar 1) maNil)) (bName 3) (mAsg (bName 2) (mCall 1 sw_flat (maCons (mComp [4] (miSeq (mVar 2)) (bName 4) mtYes (mComp [5] (miSeq (mVar 0)) (bName 5) mtYes (mOp iAddA (mVar 4) (mTup (maCons (mVar 5) maNil))))) maNil))))
  (mRet (mVar 2))))
def q_law_all : List PyData → R PyData := fun ds => bif Nat.ble ds.length 6 then runS 6 m0_law_all ds else .stuck
instance : Swf q_law_all r_law_all := by
  haveI : SimS orc 99 m0_law_all m_law_all := by
    unfold m0_law_all m_law_all
    infer_instance
  exact swf_def (by decide) inferInstance
def m0_law_orders : MS := (mSeq (mAsg (bName 1) (mLst (maCons (mTup maNil) maNil)))
  (mSeq (mFor (miR rg1 (maCons (mVar 0) maNil)) (bName 2) (mAsg (bName 1) (mCall 1 sw_flat (maCons (mComp [3] (miSeq (mVar 1)) (bName 3) mtYes (mComp [4] (miR rg1 (maCons (mVar 0) maNil)) (bName 4) (mtB (mOp (iInF true) (mVar 4) (mVar 3))) (mOp iAddA (mVar 3) (mTup (maCons (mVar 4) maNil))))) maNil))))
  (mRet (mVar 1))))
def q_law_orders : List PyData → R PyData := fun ds => bif Nat.ble ds.length 5 then runS 5 m0_law_orders ds else .stuck
instance : Swf q_law_orders r_law_orders := by
  haveI : SimS orc 99 m0_law_orders m_law_orders := by
    unfold m0_law_orders m_law_orders
    infer_instance
  exact swf_def (by decide) inferInstance
def s0 : MS := (mAsg (bTup 2 (bCons (bName 11) (bCons (bName 12) bNil))) (mTup (maCons (mCallM 1 r_law_roll 1 (maCons (mC (.int 6)) maNil)) (maCons (mCallM 1 r_law_roll 1 (maCons (mC (.int 5)) maNil)) maNil))))
def s0o : MS := (mAsg (bTup 2 (bCons (bName 11) (bCons (bName 12) bNil))) (mTup (maCons (mCallM 1 orc 1 (maCons (mC (.int 6)) maNil)) (maCons (mCallM 1 orc 1 (maCons (mC (.int 5)) maNil)) maNil))))
def S0_0 : List LEnv := [[none, some (.ow true []), none, none, none, none, none, none, none, none, none, none, none, none, none, none, none, none, none, none, none]]
def S0 : List LEnv := S0_0
def P0_0 : List (List (Path × Nat)) := [[([(6, 0), (5, 0)], 0), ([(6, 0), (5, 1)], 1), ([(6, 0), (5, 2)], 2), ([(6, 0), (5, 3)], 3), ([(6, 0), (5, 4)], 4), ([(6, 1), (5, 0)], 5), ([(6, 1), (5, 1)], 6), ([(6, 1), (5, 2)], 7), ([(6, 1), (5, 3)], 8), ([(6, 1), (5, 4)], 9), ([(6, 2), (5, 0)], 10), ([(6, 2), (5, 1)], 11), ([(6, 2), (5, 2)], 12), ([(6, 2), (5, 3)], 13), ([(6, 2), (5, 4)], 14), ([(6, 3), (5, 0)], 15), ([(6, 3), (5, 1)], 16), ([(6, 3), (5, 2)], 17), ([(6, 3), (5, 3)], 18), ([(6, 3), (5, 4)], 19), ([(6, 4), (5, 0)], 20), ([(6, 4), (5, 1)], 21), ([(6, 4), (5, 2)], 22), ([(6, 4), (5, 3)], 23), ([(6, 4), (5, 4)], 24), ([(6, 5), (5, 0)], 25), ([(6, 5), (5, 1)], 26), ([(6, 5), (5, 2)], 27), ([(6, 5), (5, 3)], 28), ([(6, 5), (5, 4)], 29)]]
def s1 : MS := (mAsg (bName 3) (mCall 1 r_law_orders (maCons (mVar 11) maNil)))
def s1o : MS := (mAsg (bName 3) (mCall 1 q_law_orders (maCons (mVar 11) maNil)))
def S1_0 : List LEnv := [[none, some (.ow true []), none, none, none, none, none, none, none, none, none, some (.sh (.int (.ofNat 0))), some (.sh (.int (.ofNat 0))), none, none, none, none, none, none, none, none],
  [none, some (.ow true []), none, none, none, none, none, none, none, none, none, some (.sh (.int (.ofNat 0))), some (.sh (.int (.ofNat 1))), none, none, none, none, none, none, none, none],
  [none, some (.ow true []), none, none, none, none, none, none, none, none, none, some (.sh (.int (.ofNat 0))), some (.sh (.int (.ofNat 2))), none, none, none, none, none, none, none, none],
  [none, some (.ow true []), none, none, none, none, none, none, none, none, none, some (.sh (.int (.ofNat 0))), some (.sh (.int (.ofNat 3))), none, none, none, none, none, none, none, none],
  [none, some (.ow true []), none, none, none, none, none, none, none, none, none, some (.sh (.int (.ofNat 0))), some (.sh (.int (.ofNat 4))), none, none, none, none, none, none, none, none],
  [none, some (.ow true []), none, none, none, none, none, none, none, none, none, some (.sh (.int (.ofNat 1))), some (.sh (.int (.ofNat 0))), none, none, none, none, none, none, none, none],
  [none, some (.ow true []), none, none, none, none, none, none, none, none, none, some (.sh (.int (.ofNat 1))), some (.sh (.int (.ofNat 1))), none, none, none, none, none, none, none, none],
  [none, some (.ow true []), none, none, none, none, none, none, none, none, none, some (.sh (.int (.ofNat 1))), some (.sh (.int (.ofNat 2))), none, none, none, none, none, none, none, none],
  [none, some (.ow true []), none, none, none, none, none, none, none, none, none, some (.sh (.int (.ofNat 1))), some (.sh (.int (.ofNat 3))), none, none, none, none, none, none, none, none],
  [none, some (.ow true []), none, none, none, none, none, none, none, none, none, some (.sh (.int (.ofNat 1))), some (.sh (.int (.ofNat 4))), none, none, none, none, none, none, none, none],
  [none, some (.ow true []), none, none, none, none, none, none, none, none, none, some (.sh (.int (.ofNat 2))), some (.sh (.int (.ofNat 0))), none, none, none, none, none, none, none, none],
  [none, some (.ow true []), none, none, none, none, none, none, none, none, none, some (.sh (.int (.ofNat 2))), some (.sh (.int (.ofNat 1))), none, none, none, none, none, none, none, none],
  [none, some (.ow true []), none, none, none, none, none, none, none, none, none, some (.sh (.int (.ofNat 2))), some (.sh (.int (.ofNat 2))), none, none, none, none, none, none, none, none],
  [none, some (.ow true []), none, none, none, none, none, none, none, none, none, some (.sh (.int (.ofNat 2))), some (.sh (.int (.ofNat 3))), none, none, none, none, none, none, none, none],
  [none, some (.ow true []), none, none, none, none, none, none, none, none, none, some (.sh (.int (.ofNat 2))), some (.sh (.int (.ofNat 4))), none, none, none, none, none, none, none, none],
  [none, some (.ow true []), none, none, none, none, none, none, none, none, none, some (.sh (.int (.ofNat 3))), some (.sh (.int (.ofNat 0))), none, none, none, none, none, none, none, none],
  [none, some (.ow true []), none, none, none, none, none, none, none, none, none, some (.sh (.int (.ofNat 3))), some (.sh (.int (.ofNat 1))), none, none, none, none, none, none, none, none],
  [none, some (.ow true []), none, none, none, none, none, none, none, none, none, some (.sh (.int (.ofNat 3))), some (.sh (.int (.ofNat 2))), none, none, none, none, none, none, none, none],
  [none, some (.ow true []), none, none, none, none, none, none, none, none, none, some (.sh (.int (.ofNat 3))), some (.sh (.int (.ofNat 3))), none, none, none, none, none, none, none, none],
  [none, some (.ow true []), none, none, none, none, none, none, none, none, none, some (.sh (.int (.ofNat 3))), some (.sh (.int (.ofNat 4))), none, none, none, none, none, none, none, none]]
def S1_1 : List LEnv := [[none, some (.ow true []), none, none, none, none, none, none, none, none, none, some (.sh (.int (.ofNat 4))), some (.sh (.int (.ofNat 0))), none, none, none, none, none, none, none, none],
  [none, some (.ow true []), none, none, none, none, none, none, none, none, none, some (.sh (.int (.ofNat 4))), some (.sh (.int (.ofNat 1))), none, none, none, none, none, none, none, none],
  [none, some (.ow true []), none, none, none, none, none, none, none, none, none, some (.sh (.int (.ofNat 4))), some (.sh (.int (.ofNat 2))), none, none, none, none, none, none, none, none],
  [none, some (.ow true []), none, none, none, none, none, none, none, none, none, some (.sh (.int (.ofNat 4))), some (.sh (.int (.ofNat 3))), none, none, none, none, none, none, none, none]]
def S1_2 : List LEnv := [[none, some (.ow true []), none, none, none, none, none, none, none, none, none, some (.sh (.int (.ofNat 4))), some (.sh (.int (.ofNat 4))), none, none, none, none, none, none, none, none]]
def S1_3 : List LEnv := [[none, some (.ow true []), none, none, none, none, none, none, none, none, none, some (.sh (.int (.ofNat 5))), some (.sh (.int (.ofNat 0))), none, none, none, none, none, none, none, none]]
def S1_4 : List LEnv := [[none, some (.ow true []), none, none, none, none, none, none, none, none, none, some (.sh (.int (.ofNat 5))), some (.sh (.int (.ofNat 1))), none, none, none, none, none, none, none, none]]
def S1_5 : List LEnv := [[none, some (.ow true []), none, none, none, none, none, none, none, none, none, some (.sh (.int (.ofNat 5))), some (.sh (.int (.ofNat 2))), none, none, none, none, none, none, none, none]]
def S1_6 : List LEnv := [[none, some (.ow true []), none, none, none, none, none, none, none, none, none, some (.sh (.int (.ofNat 5))), some (.sh (.int (.ofNat 3))), none, none, none, none, none, none, none, none]]
def S1_7 : List LEnv := [[none, some (.ow true []), none, none, none, none, none, none, none, none, none, some (.sh (.int (.ofNat 5))), some (.sh (.int (.ofNat 4))), none, none, none, none, none, none, none, none]]
def S1 : List LEnv := S1_0 ++ (S1_1 ++ (S1_2 ++ (S1_3 ++ (S1_4 ++ (S1_5 ++ (S1_6 ++ (S1_7)))))))
def P1_0 : List (List (Path × Nat)) := [[([], 0)],
  [([], 1)],
  [([], 2)],
  [([], 3)],
  [([], 4)],
  [([], 5)],
  [([], 6)],
  [([], 7)],
  [([], 8)],
  [([], 9)],
  [([], 10)],
  [([], 11)],
  [([], 12)],
  [([], 13)],
  [([], 14)],
  [([], 15)],
  [([], 16)],
  [([], 17)],
  [([], 18)],
  [([], 19)]]
def P1_1 : List (List (Path × Nat)) := [[([], 20)],
  [([], 21)],
  [([], 22)],
  [([], 23)]]
def P1_2 : List (List (Path × Nat)) := [[([], 24)]]
def P1_3 : List (List (Path × Nat)) := [[([], 25)]]
def P1_4 : List (List (Path × Nat)) := [[([], 26)]]
def P1_5 : List (List (Path × Nat)) := [[([], 27)]]
def P1_6 : List (List (Path × Nat)) := [[([], 28)]]
def P1_7 : List (List (Path × Nat)) := [[([], 29)]]
def c2_0 : MT := (mtB (mOp iNe (mCall 1 r_factorial (maCons (mVar 11) maNil)) (mCa cLenA (maCons (mVar 3) maNil))))
def c2_0o : MT := (mtB (mOp iNe (mCall 1 r_factorial (maCons (mVar 11) maNil)) (mCa cLenA (maCons (mVar 3) maNil))))
def Q2_0_0 : List LEnv := [[none, some (.ow true []), none, some (.sh (.list [.tuple []])), none, none, none, none, none, none, none, some (.sh (.int (.ofNat 0))), none, none, none, none, none, none, none, none, none],
  [none, some (.ow true []), none, some (.sh (.list [.tuple [.int (.ofNat 0)]])), none, none, none, none, none, none, none, some (.sh (.int (.ofNat 1))), none, none, none, none, none, none, none, none, none],
  [none, some (.ow true []), none, some (.sh (v0)), none, none, none, none, none, none, none, some (.sh (.int (.ofNat 2))), none, none, none, none, none, none, none, none, none],
  [none, some (.ow true []), none, some (.sh (v1)), none, none, none, none, none, none, none, some (.sh (.int (.ofNat 3))), none, none, none, none, none, none, none, none, none]]
def Q2_0_1 : List LEnv := [[none, some (.ow true []), none, some (.sh (v26)), none, none, none, none, none, none, none, some (.sh (.int (.ofNat 4))), none, none, none, none, none, none, none, none, none]]
def Q2_0_2 : List LEnv := [[none, some (.ow true []), none, some (.sh (.list (w147 ++ w148 ++ w149 ++ w150 ++ w151))), none, none, none, none, none, none, none, some (.sh (.int (.ofNat 5))), none, none, none, none, none, none, none, none, none]]
def Q2_0 : List LEnv := Q2_0_0 ++ (Q2_0_1 ++ (Q2_0_2))
def c2_1 : MT := (mtB (mOp iNe (mCall 1 r_none_home (maCons (mVar 11) maNil)) (mCa cLenA (maCons (mComp [15] (miSeq (mVar 3)) (bName 15) (mtB (mOp iEq (mComp [16] (miR rg1 (maCons (mVar 11) maNil)) (bName 16) (mtB (mOp iEq (mIxV 15 (mVar 16)) (mVar 16))) (mVar 16)) (mLst maNil))) (mVar 15)) maNil))))
def c2_1o : MT := (mtB (mOp iNe (mCall 1 r_none_home (maCons (mVar 11) maNil)) (mCa cLenA (maCons (mComp [15] (miSeq (mVar 3)) (bName 15) (mtB (mOp iEq (mComp [16] (miR rg1 (maCons (mVar 11) maNil)) (bName 16) (mtB (mOp iEq (mIxV 15 (mVar 16)) (mVar 16))) (mVar 16)) (mLst maNil))) (mVar 15)) maNil))))
def Q2_1_0 : List LEnv := [[none, some (.ow true []), none, some (.sh (.list [.tuple []])), none, none, none, none, none, none, none, some (.sh (.int (.ofNat 0))), none, none, none, none, none, none, none, none, none],
  [none, some (.ow true []), none, some (.sh (.list [.tuple [.int (.ofNat 0)]])), none, none, none, none, none, none, none, some (.sh (.int (.ofNat 1))), none, none, none, none, none, none, none, none, none],
  [none, some (.ow true []), none, some (.sh (v0)), none, none, none, none, none, none, none, some (.sh (.int (.ofNat 2))), none, none, none, none, none, none, none, none, none],
  [none, some (.ow true []), none, some (.sh (v1)), none, none, none, none, none, none, none, some (.sh (.int (.ofNat 3))), none, none, none, none, none, none, none, none, none]]
def Q2_1_1 : List LEnv := [[none, some (.ow true []), none, some (.sh (v26)), none, none, none, none, none, none, none, some (.sh (.int (.ofNat 4))), none, none, none, none, none, none, none, none, none]]
def Q2_1_2 : List LEnv := [[none, some (.ow true []), none, some (.sh (.list (w152 ++ w153 ++ w154 ++ w155 ++ w156))), none, none, none, none, none, none, none, some (.sh (.int (.ofNat 5))), none, none, none, none, none, none, none, none, none]]
def Q2_1 : List LEnv := Q2_1_0 ++ (Q2_1_1 ++ (Q2_1_2))
def s2 : MS := mIfS (mtOr c2_0 (c2_1)) (mRet (mC (.bool false))) mNext
def S2_0 : List LEnv := [[none, some (.ow true []), none, some (.sh (.list [.tuple []])), none, none, none, none, none, none, none, some (.sh (.int (.ofNat 0))), some (.sh (.int (.ofNat 0))), none, none, none, none, none, none, none, none],
  [none, some (.ow true []), none, some (.sh (.list [.tuple []])), none, none, none, none, none, none, none, some (.sh (.int (.ofNat 0))), some (.sh (.int (.ofNat 1))), none, none, none, none, none, none, none, none],
  [none, some (.ow true []), none, some (.sh (.list [.tuple []])), none, none, none, none, none, none, none, some (.sh (.int (.ofNat 0))), some (.sh (.int (.ofNat 2))), none, none, none, none, none, none, none, none],
  [none, some (.ow true []), none, some (.sh (.list [.tuple []])), none, none, none, none, none, none, none, some (.sh (.int (.ofNat 0))), some (.sh (.int (.ofNat 3))), none, none, none, none, none, none, none, none],
  [none, some (.ow true []), none, some (.sh (.list [.tuple []])), none, none, none, none, none, none, none, some (.sh (.int (.ofNat 0))), some (.sh (.int (.ofNat 4))), none, none, none, none, none, none, none, none],
  [none, some (.ow true []), none, some (.sh (.list [.tuple [.int (.ofNat 0)]])), none, none, none, none, none, none, none, some (.sh (.int (.ofNat 1))), some (.sh (.int (.ofNat 0))), none, none, none, none, none, none, none, none],
  [none, some (.ow true []), none, some (.sh (.list [.tuple [.int (.ofNat 0)]])), none, none, none, none, none, none, none, some (.sh (.int (.ofNat 1))), some (.sh (.int (.ofNat 1))), none, none, none, none, none, none, none, none],
  [none, some (.ow true []), none, some (.sh (.list [.tuple [.int (.ofNat 0)]])), none, none, none, none, none, none, none, some (.sh (.int (.ofNat 1))), some (.sh (.int (.ofNat 2))), none, none, none, none, none, none, none, none],
  [none, some (.ow true []), none, some (.sh (.list [.tuple [.int (.ofNat 0)]])), none, none, none, none, none, none, none, some (.sh (.int (.ofNat 1))), some (.sh (.int (.ofNat 3))), none, none, none, none, none, none, none, none],
  [none, some (.ow true []), none, some (.sh (.list [.tuple [.int (.ofNat 0)]])), none, none, none, none, none, none, none, some (.sh (.int (.ofNat 1))), some (.sh (.int (.ofNat 4))), none, none, none, none, none, none, none, none],
  [none, some (.ow true []), none, some (.sh (v0)), none, none, none, none, none, none, none, some (.sh (.int (.ofNat 2))), some (.sh (.int (.ofNat 0))), none, none, none, none, none, none, none, none],
  [none, some (.ow true []), none, some (.sh (v0)), none, none, none, none, none, none, none, some (.sh (.int (.ofNat 2))), some (.sh (.int (.ofNat 1))), none, none, none, none, none, none, none, none],
  [none, some (.ow true []), none, some (.sh (v0)), none, none, none, none, none, none, none, some (.sh (.int (.ofNat 2))), some (.sh (.int (.ofNat 2))), none, none, none, none, none, none, none, none],
  [none, some (.ow true []), none, some (.sh (v0)), none, none, none, none, none, none, none, some (.sh (.int (.ofNat 2))), some (.sh (.int (.ofNat 3))), none, none, none, none, none, none, none, none],
  [none, some (.ow true []), none, some (.sh (v0)), none, none, none, none, none, none, none, some (.sh (.int (.ofNat 2))), some (.sh (.int (.ofNat 4))), none, none, none, none, none, none, none, none],
  [none, some (.ow true []), none, some (.sh (v1)), none, none, none, none, none, none, none, some (.sh (.int (.ofNat 3))), some (.sh (.int (.ofNat 0))), none, none, none, none, none, none, none, none],
  [none, some (.ow true []), none, some (.sh (v1)), none, none, none, none, none, none, none, some (.sh (.int (.ofNat 3))), some (.sh (.int (.ofNat 1))), none, none, none, none, none, none, none, none],
  [none, some (.ow true []), none, some (.sh (v1)), none, none, none, none, none, none, none, some (.sh (.int (.ofNat 3))), some (.sh (.int (.ofNat 2))), none, none, none, none, none, none, none, none],
  [none, some (.ow true []), none, some (.sh (v1)), none, none, none, none, none, none, none, some (.sh (.int (.ofNat 3))), some (.sh (.int (.ofNat 3))), none, none, none, none, none, none, none, none],
  [none, some (.ow true []), none, some (.sh (v1)), none, none, none, none, none, none, none, some (.sh (.int (.ofNat 3))), some (.sh (.int (.ofNat 4))), none, none, none, none, none, none, none, none],
  [none, some (.ow true []), none, some (.sh (v26)), none, none, none, none, none, none, none, some (.sh (.int (.ofNat 4))), some (.sh (.int (.ofNat 0))), none, none, none, none, none, none, none, none],
  [none, some (.ow true []), none, some (.sh (v26)), none, none, none, none, none, none, none, some (.sh (.int (.ofNat 4))), some (.sh (.int (.ofNat 1))), none, none, none, none, none, none, none, none],
  [none, some (.ow true []), none, some (.sh (v26)), none, none, none, none, none, none, none, some (.sh (.int (.ofNat 4))), some (.sh (.int (.ofNat 2))), none, none, none, none, none, none, none, none],
  [none, some (.ow true []), none, some (.sh (v26)), none, none, none, none, none, none, none, some (.sh (.int (.ofNat 4))), some (.sh (.int (.ofNat 3))), none, none, none, none, none, none, none, none],
  [none, some (.ow true []), none, some (.sh (v26)), none, none, none, none, none, none, none, some (.sh (.int (.ofNat 4))), some (.sh (.int (.ofNat 4))), none, none, none, none, none, none, none, none],
  [none, some (.ow true []), none, some (.sh (.list (w157 ++ w158 ++ w159 ++ w160 ++ w161))), none, none, none, none, none, none, none, some (.sh (.int (.ofNat 5))), some (.sh (.int (.ofNat 0))), none, none, none, none, none, none, none, none],
  [none, some (.ow true []), none, some (.sh (.list (w162 ++ w163 ++ w164 ++ w165 ++ w166))), none, none, none, none, none, none, none, some (.sh (.int (.ofNat 5))), some (.sh (.int (.ofNat 1))), none, none, none, none, none, none, none, none],
  [none, some (.ow true []), none, some (.sh (.list (w167 ++ w168 ++ w169 ++ w170 ++ w171))), none, none, none, none, none, none, none, some (.sh (.int (.ofNat 5))), some (.sh (.int (.ofNat 2))), none, none, none, none, none, none, none, none],
  [none, some (.ow true []), none, some (.sh (.list (w172 ++ w173 ++ w174 ++ w175 ++ w176))), none, none, none, none, none, none, none, some (.sh (.int (.ofNat 5))), some (.sh (.int (.ofNat 3))), none, none, none, none, none, none, none, none],
  [none, some (.ow true []), none, some (.sh (.list (w177 ++ w178 ++ w179 ++ w180 ++ w181))), none, none, none, none, none, none, none, some (.sh (.int (.ofNat 5))), some (.sh (.int (.ofNat 4))), none, none, none, none, none, none, none, none]]
def S2 : List LEnv := S2_0
def s3 : MS := (mAsg (bName 4) (mCall 2 r_law_all (maCons (mLiR1 (mVar 12)) (maCons (mVar 11) maNil))))
def s3o : MS := (mAsg (bName 4) (mCall 2 q_law_all (maCons (mLiR1 (mVar 12)) (maCons (mVar 11) maNil))))
def S3_0 : List LEnv := [[none, some (.ow true []), none, some (.sh (.list [.tuple []])), none, none, none, none, none, none, none, some (.sh (.int (.ofNat 0))), some (.sh (.int (.ofNat 0))), none, none, none, none, none, none, none, none],
  [none, some (.ow true []), none, some (.sh (.list [.tuple []])), none, none, none, none, none, none, none, some (.sh (.int (.ofNat 0))), some (.sh (.int (.ofNat 1))), none, none, none, none, none, none, none, none],
  [none, some (.ow true []), none, some (.sh (.list [.tuple []])), none, none, none, none, none, none, none, some (.sh (.int (.ofNat 0))), some (.sh (.int (.ofNat 2))), none, none, none, none, none, none, none, none],
  [none, some (.ow true []), none, some (.sh (.list [.tuple []])), none, none, none, none, none, none, none, some (.sh (.int (.ofNat 0))), some (.sh (.int (.ofNat 3))), none, none, none, none, none, none, none, none],
  [none, some (.ow true []), none, some (.sh (.list [.tuple []])), none, none, none, none, none, none, none, some (.sh (.int (.ofNat 0))), some (.sh (.int (.ofNat 4))), none, none, none, none, none, none, none, none],
  [none, some (.ow true []), none, some (.sh (.list [.tuple [.int (.ofNat 0)]])), none, none, none, none, none, none, none, some (.sh (.int (.ofNat 1))), some (.sh (.int (.ofNat 0))), none, none, none, none, none, none, none, none],
  [none, some (.ow true []), none, some (.sh (.list [.tuple [.int (.ofNat 0)]])), none, none, none, none, none, none, none, some (.sh (.int (.ofNat 1))), some (.sh (.int (.ofNat 1))), none, none, none, none, none, none, none, none],
  [none, some (.ow true []), none, some (.sh (.list [.tuple [.int (.ofNat 0)]])), none, none, none, none, none, none, none, some (.sh (.int (.ofNat 1))), some (.sh (.int (.ofNat 2))), none, none, none, none, none, none, none, none],
  [none, some (.ow true []), none, some (.sh (.list [.tuple [.int (.ofNat 0)]])), none, none, none, none, none, none, none, some (.sh (.int (.ofNat 1))), some (.sh (.int (.ofNat 3))), none, none, none, none, none, none, none, none],
  [none, some (.ow true []), none, some (.sh (.list [.tuple [.int (.ofNat 0)]])), none, none, none, none, none, none, none, some (.sh (.int (.ofNat 1))), some (.sh (.int (.ofNat 4))), none, none, none, none, none, none, none, none],
  [none, some (.ow true []), none, some (.sh (v0)), none, none, none, none, none, none, none, some (.sh (.int (.ofNat 2))), some (.sh (.int (.ofNat 0))), none, none, none, none, none, none, none, none],
  [none, some (.ow true []), none, some (.sh (v0)), none, none, none, none, none, none, none, some (.sh (.int (.ofNat 2))), some (.sh (.int (.ofNat 1))), none, none, none, none, none, none, none, none],
  [none, some (.ow true []), none, some (.sh (v0)), none, none, none, none, none, none, none, some (.sh (.int (.ofNat 2))), some (.sh (.int (.ofNat 2))), none, none, none, none, none, none, none, none],
  [none, some (.ow true []), none, some (.sh (v0)), none, none, none, none, none, none, none, some (.sh (.int (.ofNat 2))), some (.sh (.int (.ofNat 3))), none, none, none, none, none, none, none, none]]
def S3_1 : List LEnv := [[none, some (.ow true []), none, some (.sh (v0)), none, none, none, none, none, none, none, some (.sh (.int (.ofNat 2))), some (.sh (.int (.ofNat 4))), none, none, none, none, none, none, none, none],
  [none, some (.ow true []), none, some (.sh (v1)), none, none, none, none, none, none, none, some (.sh (.int (.ofNat 3))), some (.sh (.int (.ofNat 0))), none, none, none, none, none, none, none, none],
  [none, some (.ow true []), none, some (.sh (v1)), none, none, none, none, none, none, none, some (.sh (.int (.ofNat 3))), some (.sh (.int (.ofNat 1))), none, none, none, none, none, none, none, none],
  [none, some (.ow true []), none, some (.sh (v1)), none, none, none, none, none, none, none, some (.sh (.int (.ofNat 3))), some (.sh (.int (.ofNat 2))), none, none, none, none, none, none, none, none]]
def S3_2 : List LEnv := [[none, some (.ow true []), none, some (.sh (v1)), none, none, none, none, none, none, none, some (.sh (.int (.ofNat 3))), some (.sh (.int (.ofNat 3))), none, none, none, none, none, none, none, none],
  [none, some (.ow true []), none, some (.sh (v1)), none, none, none, none, none, none, none, some (.sh (.int (.ofNat 3))), some (.sh (.int (.ofNat 4))), none, none, none, none, none, none, none, none]]
def S3_3 : List LEnv := [[none, some (.ow true []), none, some (.sh (v26)), none, none, none, none, none, none, none, some (.sh (.int (.ofNat 4))), some (.sh (.int (.ofNat 0))), none, none, none, none, none, none, none, none]]
def S3_4 : List LEnv := [[none, some (.ow true []), none, some (.sh (v26)), none, none, none, none, none, none, none, some (.sh (.int (.ofNat 4))), some (.sh (.int (.ofNat 1))), none, none, none, none, none, none, none, none]]
def S3_5 : List LEnv := [[none, some (.ow true []), none, some (.sh (v26)), none, none, none, none, none, none, none, some (.sh (.int (.ofNat 4))), some (.sh (.int (.ofNat 2))), none, none, none, none, none, none, none, none]]
def S3_6 : List LEnv := [[none, some (.ow true []), none, some (.sh (v26)), none, none, none, none, none, none, none, some (.sh (.int (.ofNat 4))), some (.sh (.int (.ofNat 3))), none, none, none, none, none, none, none, none]]
def S3_7 : List LEnv := [[none, some (.ow true []), none, some (.sh (v26)), none, none, none, none, none, none, none, some (.sh (.int (.ofNat 4))), some (.sh (.int (.ofNat 4))), none, none, none, none, none, none, none, none]]
def S3_8 : List LEnv := [[none, some (.ow true []), none, some (.sh (.list (w182 ++ w183 ++ w184 ++ w185 ++ w186))), none, none, none, none, none, none, none, some (.sh (.int (.ofNat 5))), some (.sh (.int (.ofNat 0))), none, none, none, none, none, none, none, none]]
def S3_9 : List LEnv := [[none, some (.ow true []), none, some (.sh (.list (w187 ++ w188 ++ w189 ++ w190 ++ w191))), none, none, none, none, none, none, none, some (.sh (.int (.ofNat 5))), some (.sh (.int (.ofNat 1))), none, none, none, none, none, none, none, none]]
def S3_10 : List LEnv := [[none, some (.ow true []), none, some (.sh (.list (w192 ++ w193 ++ w194 ++ w195 ++ w196))), none, none, none, none, none, none, none, some (.sh (.int (.ofNat 5))), some (.sh (.int (.ofNat 2))), none, none, none, none, none, none, none, none]]
def S3_11 : List LEnv := [[none, some (.ow true []), none, some (.sh (.list (w197 ++ w198 ++ w199 ++ w200 ++ w201))), none, none, none, none, none, none, none, some (.sh (.int (.ofNat 5))), some (.sh (.int (.ofNat 3))), none, none, none, none, none, none, none, none]]
def S3_12 : List LEnv := [[none, some (.ow true []), none, some (.sh (.list (w202 ++ w203 ++ w204 ++ w205 ++ w206))), none, none, none, none, none, none, none, some (.sh (.int (.ofNat 5))), some (.sh (.int (.ofNat 4))), none, none, none, none, none, none, none, none]]
def S3 : List LEnv := S3_0 ++ (S3_1 ++ (S3_2 ++ (S3_3 ++ (S3_4 ++ (S3_5 ++ (S3_6 ++ (S3_7 ++ (S3_8 ++ (S3_9 ++ (S3_10 ++ (S3_11 ++ (S3_12))))))))))))
def P3_0 : List (List (Path × Nat)) := [[([], 0)],
  [([], 1)],
  [([], 2)],
  [([], 3)],
  [([], 4)],
  [([], 5)],
  [([], 6)],
  [([], 7)],
  [([], 8)],
  [([], 9)],
  [([], 10)],
  [([], 11)],
  [([], 12)],
  [([], 13)]]
def P3_1 : List (List (Path × Nat)) := [[([], 14)],
  [([], 15)],
  [([], 16)],
  [([], 17)]]
def P3_2 : List (List (Path × Nat)) := [[([], 18)],
  [([], 19)]]
def P3_3 : List (List (Path × Nat)) := [[([], 20)]]
def P3_4 : List (List (Path × Nat)) := [[([], 21)]]
def P3_5 : List (List (Path × Nat)) := [[([], 22)]]
def P3_6 : List (List (Path × Nat)) := [[([], 23)]]
def P3_7 : List (List (Path × Nat)) := [[([], 24)]]
def P3_8 : List (List (Path × Nat)) := [[([], 25)]]
def P3_9 : List (List (Path × Nat)) := [[([], 26)]]
def P3_10 : List (List (Path × Nat)) := [[([], 27)]]
def P3_11 : List (List (Path × Nat)) := [[([], 28)]]
def P3_12 : List (List (Path × Nat)) := [[([], 29)]]
def s4 : MS := (mAsg (bName 5) (mComp [15] (miSeq (mVar 4)) (bName 15) (mtB (mOp iEq (mCa cLenA (maCons (mCa cDict (maCons (mComp [20] (miSeq (mVar 15)) (bName 20) mtYes (mTup (maCons (mVar 20) (maCons (mC (.int 1)) maNil)))) maNil)) maNil)) (mVar 12))) (mVar 15)))
def s4o : MS := (mAsg (bName 5) (mComp [15] (miSeq (mVar 4)) (bName 15) (mtB (mOp iEq (mCa cLenA (maCons (mCa cDict (maCons (mComp [20] (miSeq (mVar 15)) (bName 20) mtYes (mTup (maCons (mVar 20) (maCons (mC (.int 1)) maNil)))) maNil)) maNil)) (mVar 12))) (mVar 15)))
def S4_0 : List LEnv := [[none, some (.ow true []), none, some (.sh (.list [.tuple []])), some (.sh (.list [.tuple []])), none, none, none, none, none, none, some (.sh (.int (.ofNat 0))), some (.sh (.int (.ofNat 0))), none, none, none, none, none, none, none, none],
  [none, some (.ow true []), none, some (.sh (.list [.tuple []])), some (.sh (.list [.tuple []])), none, none, none, none, none, none, some (.sh (.int (.ofNat 0))), some (.sh (.int (.ofNat 1))), none, none, none, none, none, none, none, none],
  [none, some (.ow true []), none, some (.sh (.list [.tuple []])), some (.sh (.list [.tuple []])), none, none, none, none, none, none, some (.sh (.int (.ofNat 0))), some (.sh (.int (.ofNat 2))), none, none, none, none, none, none, none, none],
  [none, some (.ow true []), none, some (.sh (.list [.tuple []])), some (.sh (.list [.tuple []])), none, none, none, none, none, none, some (.sh (.int (.ofNat 0))), some (.sh (.int (.ofNat 3))), none, none, none, none, none, none, none, none],
  [none, some (.ow true []), none, some (.sh (.list [.tuple []])), some (.sh (.list [.tuple []])), none, none, none, none, none, none, some (.sh (.int (.ofNat 0))), some (.sh (.int (.ofNat 4))), none, none, none, none, none, none, none, none],
  [none, some (.ow true []), none, some (.sh (.list [.tuple [.int (.ofNat 0)]])), some (.sh (.list [])), none, none, none, none, none, none, some (.sh (.int (.ofNat 1))), some (.sh (.int (.ofNat 0))), none, none, none, none, none, none, none, none],
  [none, some (.ow true []), none, some (.sh (.list [.tuple [.int (.ofNat 0)]])), some (.sh (.list [.tuple [.int (.ofNat 0)]])), none, none, none, none, none, none, some (.sh (.int (.ofNat 1))), some (.sh (.int (.ofNat 1))), none, none, none, none, none, none, none, none],
  [none, some (.ow true []), none, some (.sh (.list [.tuple [.int (.ofNat 0)]])), some (.sh (.list [.tuple [.int (.ofNat 0)], .tuple [.int (.ofNat 1)]])), none, none, none, none, none, none, some (.sh (.int (.ofNat 1))), some (.sh (.int (.ofNat 2))), none, none, none, none, none, none, none, none],
  [none, some (.ow true []), none, some (.sh (.list [.tuple [.int (.ofNat 0)]])), some (.sh (v147)), none, none, none, none, none, none, some (.sh (.int (.ofNat 1))), some (.sh (.int (.ofNat 3))), none, none, none, none, none, none, none, none],
  [none, some (.ow true []), none, some (.sh (.list [.tuple [.int (.ofNat 0)]])), some (.sh (v148)), none, none, none, none, none, none, some (.sh (.int (.ofNat 1))), some (.sh (.int (.ofNat 4))), none, none, none, none, none, none, none, none],
  [none, some (.ow true []), none, some (.sh (v0)), some (.sh (.list [])), none, none, none, none, none, none, some (.sh (.int (.ofNat 2))), some (.sh (.int (.ofNat 0))), none, none, none, none, none, none, none, none]]
def S4_1 : List LEnv := [[none, some (.ow true []), none, some (.sh (v0)), some (.sh (.list [.tuple [.int (.ofNat 0), .int (.ofNat 0)]])), none, none, none, none, none, none, some (.sh (.int (.ofNat 2))), some (.sh (.int (.ofNat 1))), none, none, none, none, none, none, none, none],
  [none, some (.ow true []), none, some (.sh (v0)), some (.sh (v149)), none, none, none, none, none, none, some (.sh (.int (.ofNat 2))), some (.sh (.int (.ofNat 2))), none, none, none, none, none, none, none, none],
  [none, some (.ow true []), none, some (.sh (v0)), some (.sh (v150)), none, none, none, none, none, none, some (.sh (.int (.ofNat 2))), some (.sh (.int (.ofNat 3))), none, none, none, none, none, none, none, none]]
def S4_2 : List LEnv := [[none, some (.ow true []), none, some (.sh (v0)), some (.sh (v151)), none, none, none, none, none, none, some (.sh (.int (.ofNat 2))), some (.sh (.int (.ofNat 4))), none, none, none, none, none, none, none, none],
  [none, some (.ow true []), none, some (.sh (v1)), some (.sh (.list [])), none, none, none, none, none, none, some (.sh (.int (.ofNat 3))), some (.sh (.int (.ofNat 0))), none, none, none, none, none, none, none, none]]
def S4_3 : List LEnv := [[none, some (.ow true []), none, some (.sh (v1)), some (.sh (v152)), none, none, none, none, none, none, some (.sh (.int (.ofNat 3))), some (.sh (.int (.ofNat 1))), none, none, none, none, none, none, none, none],
  [none, some (.ow true []), none, some (.sh (v1)), some (.sh (v153)), none, none, none, none, none, none, some (.sh (.int (.ofNat 3))), some (.sh (.int (.ofNat 2))), none, none, none, none, none, none, none, none]]
def S4_4 : List LEnv := [[none, some (.ow true []), none, some (.sh (v1)), some (.sh (.list (w214 ++ w215))), none, none, none, none, none, none, some (.sh (.int (.ofNat 3))), some (.sh (.int (.ofNat 3))), none, none, none, none, none, none, none, none]]
def S4_5 : List LEnv := [[none, some (.ow true []), none, some (.sh (v1)), some (.sh (.list (w216 ++ w217 ++ w218))), none, none, none, none, none, none, some (.sh (.int (.ofNat 3))), some (.sh (.int (.ofNat 4))), none, none, none, none, none, none, none, none]]
def S4_6 : List LEnv := [[none, some (.ow true []), none, some (.sh (v26)), some (.sh (.list [])), none, none, none, none, none, none, some (.sh (.int (.ofNat 4))), some (.sh (.int (.ofNat 0))), none, none, none, none, none, none, none, none]]
def S4_7 : List LEnv := [[none, some (.ow true []), none, some (.sh (v26)), some (.sh (.list [v154])), none, none, none, none, none, none, some (.sh (.int (.ofNat 4))), some (.sh (.int (.ofNat 1))), none, none, none, none, none, none, none, none]]
def S4_8 : List LEnv := [[none, some (.ow true []), none, some (.sh (v26)), some (.sh (v170)), none, none, none, none, none, none, some (.sh (.int (.ofNat 4))), some (.sh (.int (.ofNat 2))), none, none, none, none, none, none, none, none]]
def S4_9 : List LEnv := [[none, some (.ow true []), none, some (.sh (v26)), some (.sh (.list (w301 ++ w302 ++ w303 ++ w304))), none, none, none, none, none, none, some (.sh (.int (.ofNat 4))), some (.sh (.int (.ofNat 3))), none, none, none, none, none, none, none, none]]
def S4_10 : List LEnv := [[none, some (.ow true []), none, some (.sh (v26)), some (.sh (v387)), none, none, none, none, none, none, some (.sh (.int (.ofNat 4))), some (.sh (.int (.ofNat 4))), none, none, none, none, none, none, none, none]]
def S4_11 : List LEnv := [[none, some (.ow true []), none, some (.sh (.list (w468 ++ w469 ++ w470 ++ w471 ++ w472))), some (.sh (.list [])), none, none, none, none, none, none, some (.sh (.int (.ofNat 5))), some (.sh (.int (.ofNat 0))), none, none, none, none, none, none, none, none]]
def S4_12 : List LEnv := [[none, some (.ow true []), none, some (.sh (.list (w473 ++ w474 ++ w475 ++ w476 ++ w477))), some (.sh (.list [v388])), none, none, none, none, none, none, some (.sh (.int (.ofNat 5))), some (.sh (.int (.ofNat 1))), none, none, none, none, none, none, none, none]]
def S4_13 : List LEnv := [[none, some (.ow true []), none, some (.sh (.list (w479 ++ w480 ++ w481 ++ w482 ++ w483))), some (.sh (.list (w515 ++ w516))), none, none, none, none, none, none, some (.sh (.int (.ofNat 5))), some (.sh (.int (.ofNat 2))), none, none, none, none, none, none, none, none]]
def S4_14 : List LEnv := [[none, some (.ow true []), none, some (.sh (.list (w517 ++ w518 ++ w519 ++ w520 ++ w521))), some (.sh (v631)), none, none, none, none, none, none, some (.sh (.int (.ofNat 5))), some (.sh (.int (.ofNat 3))), none, none, none, none, none, none, none, none]]
def S4_15 : List LEnv := [[none, some (.ow true []), none, some (.sh (.list (w745 ++ w746 ++ w747 ++ w748 ++ w749))), some (.sh (v1413)), none, none, none, none, none, none, some (.sh (.int (.ofNat 5))), some (.sh (.int (.ofNat 4))), none, none, none, none, none, none, none, none]]
def S4 : List LEnv := S4_0 ++ (S4_1 ++ (S4_2 ++ (S4_3 ++ (S4_4 ++ (S4_5 ++ (S4_6 ++ (S4_7 ++ (S4_8 ++ (S4_9 ++ (S4_10 ++ (S4_11 ++ (S4_12 ++ (S4_13 ++ (S4_14 ++ (S4_15)))))))))))))))
def P4_0 : List (List (Path × Nat)) := [[([], 0)],
  [([], 1)],
  [([], 2)],
  [([], 3)],
  [([], 4)],
  [([], 5)],
  [([], 6)],
  [([], 7)],
  [([], 8)],
  [([], 9)],
  [([], 10)]]
def P4_1 : List (List (Path × Nat)) := [[([], 11)],
  [([], 12)],
  [([], 13)]]
def P4_2 : List (List (Path × Nat)) := [[([], 14)],
  [([], 15)]]
def P4_3 : List (List (Path × Nat)) := [[([], 16)],
  [([], 17)]]
def P4_4 : List (List (Path × Nat)) := [[([], 18)]]
def P4_5 : List (List (Path × Nat)) := [[([], 19)]]
def P4_6 : List (List (Path × Nat)) := [[([], 20)]]
def P4_7 : List (List (Path × Nat)) := [[([], 21)]]
def P4_8 : List (List (Path × Nat)) := [[([], 22)]]
def P4_9 : List (List (Path × Nat)) := [[([], 23)]]
def P4_10 : List (List (Path × Nat)) := [[([], 24)]]
def P4_11 : List (List (Path × Nat)) := [[([], 25)]]
def P4_12 : List (List (Path × Nat)) := [[([], 26)]]
def P4_13 : List (List (Path × Nat)) := [[([], 27)]]
def P4_14 : List (List (Path × Nat)) := [[([], 28)]]
def P4_15 : List (List (Path × Nat)) := [[([], 29)]]
def c5_0 : MT := (mtB (mOp iNe (mCall 2 r_onto (maCons (mVar 11) (maCons (mVar 12) maNil))) (mCa cLenA (maCons (mVar 5) maNil))))
def c5_0o : MT := (mtB (mOp iNe (mCall 2 r_onto (maCons (mVar 11) (maCons (mVar 12) maNil))) (mCa cLenA (maCons (mVar 5) maNil))))
def Q5_0_0 : List LEnv := [[none, some (.ow true []), none, none, none, some (.sh (.list [.tuple []])), none, none, none, none, none, some (.sh (.int (.ofNat 0))), some (.sh (.int (.ofNat 0))), none, none, none, none, none, none, none, none],
  [none, some (.ow true []), none, none, none, some (.sh (.list [])), none, none, none, none, none, some (.sh (.int (.ofNat 0))), some (.sh (.int (.ofNat 1))), none, none, none, none, none, none, none, none],
  [none, some (.ow true []), none, none, none, some (.sh (.list [])), none, none, none, none, none, some (.sh (.int (.ofNat 0))), some (.sh (.int (.ofNat 2))), none, none, none, none, none, none, none, none],
  [none, some (.ow true []), none, none, none, some (.sh (.list [])), none, none, none, none, none, some (.sh (.int (.ofNat 0))), some (.sh (.int (.ofNat 3))), none, none, none, none, none, none, none, none],
  [none, some (.ow true []), none, none, none, some (.sh (.list [])), none, none, none, none, none, some (.sh (.int (.ofNat 0))), some (.sh (.int (.ofNat 4))), none, none, none, none, none, none, none, none],
  [none, some (.ow true []), none, none, none, some (.sh (.list [])), none, none, none, none, none, some (.sh (.int (.ofNat 1))), some (.sh (.int (.ofNat 0))), none, none, none, none, none, none, none, none],
  [none, some (.ow true []), none, none, none, some (.sh (.list [.tuple [.int (.ofNat 0)]])), none, none, none, none, none, some (.sh (.int (.ofNat 1))), some (.sh (.int (.ofNat 1))), none, none, none, none, none, none, none, none],
  [none, some (.ow true []), none, none, none, some (.sh (.list [])), none, none, none, none, none, some (.sh (.int (.ofNat 1))), some (.sh (.int (.ofNat 2))), none, none, none, none, none, none, none, none],
  [none, some (.ow true []), none, none, none, some (.sh (.list [])), none, none, none, none, none, some (.sh (.int (.ofNat 1))), some (.sh (.int (.ofNat 3))), none, none, none, none, none, none, none, none],
  [none, some (.ow true []), none, none, none, some (.sh (.list [])), none, none, none, none, none, some (.sh (.int (.ofNat 1))), some (.sh (.int (.ofNat 4))), none, none, none, none, none, none, none, none],
  [none, some (.ow true []), none, none, none, some (.sh (.list [])), none, none, none, none, none, some (.sh (.int (.ofNat 2))), some (.sh (.int (.ofNat 0))), none, none, none, none, none, none, none, none],
  [none, some (.ow true []), none, none, none, some (.sh (.list [.tuple [.int (.ofNat 0), .int (.ofNat 0)]])), none, none, none, none, none, some (.sh (.int (.ofNat 2))), some (.sh (.int (.ofNat 1))), none, none, none, none, none, none, none, none],
  [none, some (.ow true []), none, none, none, some (.sh (v0)), none, none, none, none, none, some (.sh (.int (.ofNat 2))), some (.sh (.int (.ofNat 2))), none, none, none, none, none, none, none, none]]
def Q5_0_1 : List LEnv := [[none, some (.ow true []), none, none, none, some (.sh (.list [])), none, none, none, none, none, some (.sh (.int (.ofNat 2))), some (.sh (.int (.ofNat 3))), none, none, none, none, none, none, none, none],
  [none, some (.ow true []), none, none, none, some (.sh (.list [])), none, none, none, none, none, some (.sh (.int (.ofNat 2))), some (.sh (.int (.ofNat 4))), none, none, none, none, none, none, none, none],
  [none, some (.ow true []), none, none, none, some (.sh (.list [])), none, none, none, none, none, some (.sh (.int (.ofNat 3))), some (.sh (.int (.ofNat 0))), none, none, none, none, none, none, none, none],
  [none, some (.ow true []), none, none, none, some (.sh (v152)), none, none, none, none, none, some (.sh (.int (.ofNat 3))), some (.sh (.int (.ofNat 1))), none, none, none, none, none, none, none, none],
  [none, some (.ow true []), none, none, none, some (.sh (v1414)), none, none, none, none, none, some (.sh (.int (.ofNat 3))), some (.sh (.int (.ofNat 2))), none, none, none, none, none, none, none, none],
  [none, some (.ow true []), none, none, none, some (.sh (v1)), none, none, none, none, none, some (.sh (.int (.ofNat 3))), some (.sh (.int (.ofNat 3))), none, none, none, none, none, none, none, none],
  [none, some (.ow true []), none, none, none, some (.sh (.list [])), none, none, none, none, none, some (.sh (.int (.ofNat 3))), some (.sh (.int (.ofNat 4))), none, none, none, none, none, none, none, none]]
def Q5_0_2 : List LEnv := [[none, some (.ow true []), none, none, none, some (.sh (.list [])), none, none, none, none, none, some (.sh (.int (.ofNat 4))), some (.sh (.int (.ofNat 0))), none, none, none, none, none, none, none, none],
  [none, some (.ow true []), none, none, none, some (.sh (.list [v154])), none, none, none, none, none, some (.sh (.int (.ofNat 4))), some (.sh (.int (.ofNat 1))), none, none, none, none, none, none, none, none],
  [none, some (.ow true []), none, none, none, some (.sh (v1415)), none, none, none, none, none, some (.sh (.int (.ofNat 4))), some (.sh (.int (.ofNat 2))), none, none, none, none, none, none, none, none]]
def Q5_0_3 : List LEnv := [[none, some (.ow true []), none, none, none, some (.sh (.list (w1577 ++ w1578))), none, none, none, none, none, some (.sh (.int (.ofNat 4))), some (.sh (.int (.ofNat 3))), none, none, none, none, none, none, none, none]]
def Q5_0_4 : List LEnv := [[none, some (.ow true []), none, none, none, some (.sh (v26)), none, none, none, none, none, some (.sh (.int (.ofNat 4))), some (.sh (.int (.ofNat 4))), none, none, none, none, none, none, none, none]]
def Q5_0_5 : List LEnv := [[none, some (.ow true []), none, none, none, some (.sh (.list [])), none, none, none, none, none, some (.sh (.int (.ofNat 5))), some (.sh (.int (.ofNat 0))), none, none, none, none, none, none, none, none],
  [none, some (.ow true []), none, none, none, some (.sh (.list [v388])), none, none, none, none, none, some (.sh (.int (.ofNat 5))), some (.sh (.int (.ofNat 1))), none, none, none, none, none, none, none, none]]
def Q5_0_6 : List LEnv := [[none, some (.ow true []), none, none, none, some (.sh (.list (w1579 ++ w1580))), none, none, none, none, none, some (.sh (.int (.ofNat 5))), some (.sh (.int (.ofNat 2))), none, none, none, none, none, none, none, none]]
def Q5_0_7 : List LEnv := [[none, some (.ow true []), none, none, none, some (.sh (v1416)), none, none, none, none, none, some (.sh (.int (.ofNat 5))), some (.sh (.int (.ofNat 3))), none, none, none, none, none, none, none, none]]
def Q5_0_8 : List LEnv := [[none, some (.ow true []), none, none, none, some (.sh (v1417)), none, none, none, none, none, some (.sh (.int (.ofNat 5))), some (.sh (.int (.ofNat 4))), none, none, none, none, none, none, none, none]]
def Q5_0 : List LEnv := Q5_0_0 ++ (Q5_0_1 ++ (Q5_0_2 ++ (Q5_0_3 ++ (Q5_0_4 ++ (Q5_0_5 ++ (Q5_0_6 ++ (Q5_0_7 ++ (Q5_0_8))))))))
def c5_1 : MT := (mtB (mOp iNe (mOp iMulA (mCall 2 r_lots (maCons (mVar 11) (maCons (mVar 12) maNil))) (mCall 1 r_factorial (maCons (mVar 12) maNil))) (mCa cLenA (maCons (mVar 5) maNil))))
def c5_1o : MT := (mtB (mOp iNe (mOp iMulA (mCall 2 r_lots (maCons (mVar 11) (maCons (mVar 12) maNil))) (mCall 1 r_factorial (maCons (mVar 12) maNil))) (mCa cLenA (maCons (mVar 5) maNil))))
def Q5_1_0 : List LEnv := [[none, some (.ow true []), none, none, none, some (.sh (.list [.tuple []])), none, none, none, none, none, some (.sh (.int (.ofNat 0))), some (.sh (.int (.ofNat 0))), none, none, none, none, none, none, none, none],
  [none, some (.ow true []), none, none, none, some (.sh (.list [])), none, none, none, none, none, some (.sh (.int (.ofNat 0))), some (.sh (.int (.ofNat 1))), none, none, none, none, none, none, none, none],
  [none, some (.ow true []), none, none, none, some (.sh (.list [])), none, none, none, none, none, some (.sh (.int (.ofNat 0))), some (.sh (.int (.ofNat 2))), none, none, none, none, none, none, none, none],
  [none, some (.ow true []), none, none, none, some (.sh (.list [])), none, none, none, none, none, some (.sh (.int (.ofNat 0))), some (.sh (.int (.ofNat 3))), none, none, none, none, none, none, none, none],
  [none, some (.ow true []), none, none, none, some (.sh (.list [])), none, none, none, none, none, some (.sh (.int (.ofNat 0))), some (.sh (.int (.ofNat 4))), none, none, none, none, none, none, none, none],
  [none, some (.ow true []), none, none, none, some (.sh (.list [])), none, none, none, none, none, some (.sh (.int (.ofNat 1))), some (.sh (.int (.ofNat 0))), none, none, none, none, none, none, none, none],
  [none, some (.ow true []), none, none, none, some (.sh (.list [.tuple [.int (.ofNat 0)]])), none, none, none, none, none, some (.sh (.int (.ofNat 1))), some (.sh (.int (.ofNat 1))), none, none, none, none, none, none, none, none],
  [none, some (.ow true []), none, none, none, some (.sh (.list [])), none, none, none, none, none, some (.sh (.int (.ofNat 1))), some (.sh (.int (.ofNat 2))), none, none, none, none, none, none, none, none],
  [none, some (.ow true []), none, none, none, some (.sh (.list [])), none, none, none, none, none, some (.sh (.int (.ofNat 1))), some (.sh (.int (.ofNat 3))), none, none, none, none, none, none, none, none],
  [none, some (.ow true []), none, none, none, some (.sh (.list [])), none, none, none, none, none, some (.sh (.int (.ofNat 1))), some (.sh (.int (.ofNat 4))), none, none, none, none, none, none, none, none],
  [none, some (.ow true []), none, none, none, some (.sh (.list [])), none, none, none, none, none, some (.sh (.int (.ofNat 2))), some (.sh (.int (.ofNat 0))), none, none, none, none, none, none, none, none],
  [none, some (.ow true []), none, none, none, some (.sh (.list [.tuple [.int (.ofNat 0), .int (.ofNat 0)]])), none, none, none, none, none, some (.sh (.int (.ofNat 2))), some (.sh (.int (.ofNat 1))), none, none, none, none, none, none, none, none]]
def Q5_1_1 : List LEnv := [[none, some (.ow true []), none, none, none, some (.sh (v0)), none, none, none, none, none, some (.sh (.int (.ofNat 2))), some (.sh (.int (.ofNat 2))), none, none, none, none, none, none, none, none],
  [none, some (.ow true []), none, none, none, some (.sh (.list [])), none, none, none, none, none, some (.sh (.int (.ofNat 2))), some (.sh (.int (.ofNat 3))), none, none, none, none, none, none, none, none],
  [none, some (.ow true []), none, none, none, some (.sh (.list [])), none, none, none, none, none, some (.sh (.int (.ofNat 2))), some (.sh (.int (.ofNat 4))), none, none, none, none, none, none, none, none],
  [none, some (.ow true []), none, none, none, some (.sh (.list [])), none, none, none, none, none, some (.sh (.int (.ofNat 3))), some (.sh (.int (.ofNat 0))), none, none, none, none, none, none, none, none],
  [none, some (.ow true []), none, none, none, some (.sh (v152)), none, none, none, none, none, some (.sh (.int (.ofNat 3))), some (.sh (.int (.ofNat 1))), none, none, none, none, none, none, none, none],
  [none, some (.ow true []), none, none, none, some (.sh (v1414)), none, none, none, none, none, some (.sh (.int (.ofNat 3))), some (.sh (.int (.ofNat 2))), none, none, none, none, none, none, none, none]]
def Q5_1_2 : List LEnv := [[none, some (.ow true []), none, none, none, some (.sh (v1)), none, none, none, none, none, some (.sh (.int (.ofNat 3))), some (.sh (.int (.ofNat 3))), none, none, none, none, none, none, none, none],
  [none, some (.ow true []), none, none, none, some (.sh (.list [])), none, none, none, none, none, some (.sh (.int (.ofNat 3))), some (.sh (.int (.ofNat 4))), none, none, none, none, none, none, none, none],
  [none, some (.ow true []), none, none, none, some (.sh (.list [])), none, none, none, none, none, some (.sh (.int (.ofNat 4))), some (.sh (.int (.ofNat 0))), none, none, none, none, none, none, none, none],
  [none, some (.ow true []), none, none, none, some (.sh (.list [v154])), none, none, none, none, none, some (.sh (.int (.ofNat 4))), some (.sh (.int (.ofNat 1))), none, none, none, none, none, none, none, none]]
def Q5_1_3 : List LEnv := [[none, some (.ow true []), none, none, none, some (.sh (v1415)), none, none, none, none, none, some (.sh (.int (.ofNat 4))), some (.sh (.int (.ofNat 2))), none, none, none, none, none, none, none, none]]
def Q5_1_4 : List LEnv := [[none, some (.ow true []), none, none, none, some (.sh (.list (w1600 ++ w1601))), none, none, none, none, none, some (.sh (.int (.ofNat 4))), some (.sh (.int (.ofNat 3))), none, none, none, none, none, none, none, none]]
def Q5_1_5 : List LEnv := [[none, some (.ow true []), none, none, none, some (.sh (v26)), none, none, none, none, none, some (.sh (.int (.ofNat 4))), some (.sh (.int (.ofNat 4))), none, none, none, none, none, none, none, none]]
def Q5_1_6 : List LEnv := [[none, some (.ow true []), none, none, none, some (.sh (.list [])), none, none, none, none, none, some (.sh (.int (.ofNat 5))), some (.sh (.int (.ofNat 0))), none, none, none, none, none, none, none, none],
  [none, some (.ow true []), none, none, none, some (.sh (.list [v388])), none, none, none, none, none, some (.sh (.int (.ofNat 5))), some (.sh (.int (.ofNat 1))), none, none, none, none, none, none, none, none]]
def Q5_1_7 : List LEnv := [[none, some (.ow true []), none, none, none, some (.sh (.list (w1602 ++ w1603))), none, none, none, none, none, some (.sh (.int (.ofNat 5))), some (.sh (.int (.ofNat 2))), none, none, none, none, none, none, none, none]]
def Q5_1_8 : List LEnv := [[none, some (.ow true []), none, none, none, some (.sh (v1418)), none, none, none, none, none, some (.sh (.int (.ofNat 5))), some (.sh (.int (.ofNat 3))), none, none, none, none, none, none, none, none]]
def Q5_1_9 : List LEnv := [[none, some (.ow true []), none, none, none, some (.sh (v1419)), none, none, none, none, none, some (.sh (.int (.ofNat 5))), some (.sh (.int (.ofNat 4))), none, none, none, none, none, none, none, none]]
def Q5_1 : List LEnv := Q5_1_0 ++ (Q5_1_1 ++ (Q5_1_2 ++ (Q5_1_3 ++ (Q5_1_4 ++ (Q5_1_5 ++ (Q5_1_6 ++ (Q5_1_7 ++ (Q5_1_8 ++ (Q5_1_9)))))))))
def s5 : MS := mIfS (mtOr c5_0 (c5_1)) (mRet (mC (.bool false))) mNext
def S5_0 : List LEnv := [[none, some (.ow true []), none, some (.sh (.list [.tuple []])), none, some (.sh (.list [.tuple []])), none, none, none, none, none, some (.sh (.int (.ofNat 0))), some (.sh (.int (.ofNat 0))), none, none, none, none, none, none, none, none],
  [none, some (.ow true []), none, some (.sh (.list [.tuple []])), none, some (.sh (.list [])), none, none, none, none, none, some (.sh (.int (.ofNat 0))), some (.sh (.int (.ofNat 1))), none, none, none, none, none, none, none, none],
  [none, some (.ow true []), none, some (.sh (.list [.tuple []])), none, some (.sh (.list [])), none, none, none, none, none, some (.sh (.int (.ofNat 0))), some (.sh (.int (.ofNat 2))), none, none, none, none, none, none, none, none],
  [none, some (.ow true []), none, some (.sh (.list [.tuple []])), none, some (.sh (.list [])), none, none, none, none, none, some (.sh (.int (.ofNat 0))), some (.sh (.int (.ofNat 3))), none, none, none, none, none, none, none, none],
  [none, some (.ow true []), none, some (.sh (.list [.tuple []])), none, some (.sh (.list [])), none, none, none, none, none, some (.sh (.int (.ofNat 0))), some (.sh (.int (.ofNat 4))), none, none, none, none, none, none, none, none],
  [none, some (.ow true []), none, some (.sh (.list [.tuple [.int (.ofNat 0)]])), none, some (.sh (.list [])), none, none, none, none, none, some (.sh (.int (.ofNat 1))), some (.sh (.int (.ofNat 0))), none, none, none, none, none, none, none, none],
  [none, some (.ow true []), none, some (.sh (.list [.tuple [.int (.ofNat 0)]])), none, some (.sh (.list [.tuple [.int (.ofNat 0)]])), none, none, none, none, none, some (.sh (.int (.ofNat 1))), some (.sh (.int (.ofNat 1))), none, none, none, none, none, none, none, none],
  [none, some (.ow true []), none, some (.sh (.list [.tuple [.int (.ofNat 0)]])), none, some (.sh (.list [])), none, none, none, none, none, some (.sh (.int (.ofNat 1))), some (.sh (.int (.ofNat 2))), none, none, none, none, none, none, none, none],
  [none, some (.ow true []), none, some (.sh (.list [.tuple [.int (.ofNat 0)]])), none, some (.sh (.list [])), none, none, none, none, none, some (.sh (.int (.ofNat 1))), some (.sh (.int (.ofNat 3))), none, none, none, none, none, none, none, none],
  [none, some (.ow true []), none, some (.sh (.list [.tuple [.int (.ofNat 0)]])), none, some (.sh (.list [])), none, none, none, none, none, some (.sh (.int (.ofNat 1))), some (.sh (.int (.ofNat 4))), none, none, none, none, none, none, none, none],
  [none, some (.ow true []), none, some (.sh (v0)), none, some (.sh (.list [])), none, none, none, none, none, some (.sh (.int (.ofNat 2))), some (.sh (.int (.ofNat 0))), none, none, none, none, none, none, none, none],
  [none, some (.ow true []), none, some (.sh (v0)), none, some (.sh (.list [.tuple [.int (.ofNat 0), .int (.ofNat 0)]])), none, none, none, none, none, some (.sh (.int (.ofNat 2))), some (.sh (.int (.ofNat 1))), none, none, none, none, none, none, none, none],
  [none, some (.ow true []), none, some (.sh (v0)), none, some (.sh (v0)), none, none, none, none, none, some (.sh (.int (.ofNat 2))), some (.sh (.int (.ofNat 2))), none, none, none, none, none, none, none, none],
  [none, some (.ow true []), none, some (.sh (v0)), none, some (.sh (.list [])), none, none, none, none, none, some (.sh (.int (.ofNat 2))), some (.sh (.int (.ofNat 3))), none, none, none, none, none, none, none, none],
  [none, some (.ow true []), none, some (.sh (v0)), none, some (.sh (.list [])), none, none, none, none, none, some (.sh (.int (.ofNat 2))), some (.sh (.int (.ofNat 4))), none, none, none, none, none, none, none, none],
  [none, some (.ow true []), none, some (.sh (v1)), none, some (.sh (.list [])), none, none, none, none, none, some (.sh (.int (.ofNat 3))), some (.sh (.int (.ofNat 0))), none, none, none, none, none, none, none, none],
  [none, some (.ow true []), none, some (.sh (v1)), none, some (.sh (v152)), none, none, none, none, none, some (.sh (.int (.ofNat 3))), some (.sh (.int (.ofNat 1))), none, none, none, none, none, none, none, none],
  [none, some (.ow true []), none, some (.sh (v1)), none, some (.sh (v1414)), none, none, none, none, none, some (.sh (.int (.ofNat 3))), some (.sh (.int (.ofNat 2))), none, none, none, none, none, none, none, none],
  [none, some (.ow true []), none, some (.sh (v1)), none, some (.sh (v1)), none, none, none, none, none, some (.sh (.int (.ofNat 3))), some (.sh (.int (.ofNat 3))), none, none, none, none, none, none, none, none],
  [none, some (.ow true []), none, some (.sh (v1)), none, some (.sh (.list [])), none, none, none, none, none, some (.sh (.int (.ofNat 3))), some (.sh (.int (.ofNat 4))), none, none, none, none, none, none, none, none],
  [none, some (.ow true []), none, some (.sh (v26)), none, some (.sh (.list [])), none, none, none, none, none, some (.sh (.int (.ofNat 4))), some (.sh (.int (.ofNat 0))), none, none, none, none, none, none, none, none],
  [none, some (.ow true []), none, some (.sh (v26)), none, some (.sh (.list [v154])), none, none, none, none, none, some (.sh (.int (.ofNat 4))), some (.sh (.int (.ofNat 1))), none, none, none, none, none, none, none, none],
  [none, some (.ow true []), none, some (.sh (v26)), none, some (.sh (v1415)), none, none, none, none, none, some (.sh (.int (.ofNat 4))), some (.sh (.int (.ofNat 2))), none, none, none, none, none, none, none, none],
  [none, some (.ow true []), none, some (.sh (v26)), none, some (.sh (.list (w1623 ++ w1624))), none, none, none, none, none, some (.sh (.int (.ofNat 4))), some (.sh (.int (.ofNat 3))), none, none, none, none, none, none, none, none],
  [none, some (.ow true []), none, some (.sh (v26)), none, some (.sh (v26)), none, none, none, none, none, some (.sh (.int (.ofNat 4))), some (.sh (.int (.ofNat 4))), none, none, none, none, none, none, none, none],
  [none, some (.ow true []), none, some (.sh (.list (w1625 ++ w1626 ++ w1627 ++ w1628 ++ w1629))), none, some (.sh (.list [])), none, none, none, none, none, some (.sh (.int (.ofNat 5))), some (.sh (.int (.ofNat 0))), none, none, none, none, none, none, none, none],
  [none, some (.ow true []), none, some (.sh (.list (w1630 ++ w1631 ++ w1632 ++ w1633 ++ w1634))), none, some (.sh (.list [v388])), none, none, none, none, none, some (.sh (.int (.ofNat 5))), some (.sh (.int (.ofNat 1))), none, none, none, none, none, none, none, none],
  [none, some (.ow true []), none, some (.sh (.list (w1635 ++ w1636 ++ w1637 ++ w1638 ++ w1639))), none, some (.sh (.list (w1640 ++ w1641))), none, none, none, none, none, some (.sh (.int (.ofNat 5))), some (.sh (.int (.ofNat 2))), none, none, none, none, none, none, none, none],
  [none, some (.ow true []), none, some (.sh (.list (w1642 ++ w1643 ++ w1644 ++ w1645 ++ w1646))), none, some (.sh (v1420)), none, none, none, none, none, some (.sh (.int (.ofNat 5))), some (.sh (.int (.ofNat 3))), none, none, none, none, none, none, none, none],
  [none, some (.ow true []), none, some (.sh (.list (w1655 ++ w1656 ++ w1657 ++ w1658 ++ w1659))), none, some (.sh (v1421)), none, none, none, none, none, some (.sh (.int (.ofNat 5))), some (.sh (.int (.ofNat 4))), none, none, none, none, none, none, none, none]]
def S5 : List LEnv := S5_0
def c6_0 : MT := (mtB (mOp iNe (mCall 2 r_choose (maCons (mVar 11) (maCons (mVar 12) maNil))) (mCa cLenA (maCons (mComp [15] (miSeq (mCall 2 r_law_all (maCons (mLst (maCons (mC (.int 0)) (maCons (mC (.int 1)) maNil))) (maCons (mVar 11) maNil)))) (bName 15) (mtB (mOp iEq (mCa cSum2 (maCons (mVar 15) maNil)) (mVar 12))) (mVar 15)) maNil))))
def c6_0o : MT := (mtB (mOp iNe (mCall 2 r_choose (maCons (mVar 11) (maCons (mVar 12) maNil))) (mCa cLenA (maCons (mComp [15] (miSeq (mCall 2 q_law_all (maCons (mLst (maCons (mC (.int 0)) (maCons (mC (.int 1)) maNil))) (maCons (mVar 11) maNil)))) (bName 15) (mtB (mOp iEq (mCa cSum2 (maCons (mVar 15) maNil)) (mVar 12))) (mVar 15)) maNil))))
def Q6_0_0 : List LEnv := [[none, some (.ow true []), none, none, none, none, none, none, none, none, none, some (.sh (.int (.ofNat 0))), some (.sh (.int (.ofNat 0))), none, none, none, none, none, none, none, none],
  [none, some (.ow true []), none, none, none, none, none, none, none, none, none, some (.sh (.int (.ofNat 0))), some (.sh (.int (.ofNat 1))), none, none, none, none, none, none, none, none],
  [none, some (.ow true []), none, none, none, none, none, none, none, none, none, some (.sh (.int (.ofNat 0))), some (.sh (.int (.ofNat 2))), none, none, none, none, none, none, none, none],
  [none, some (.ow true []), none, none, none, none, none, none, none, none, none, some (.sh (.int (.ofNat 0))), some (.sh (.int (.ofNat 3))), none, none, none, none, none, none, none, none],
  [none, some (.ow true []), none, none, none, none, none, none, none, none, none, some (.sh (.int (.ofNat 0))), some (.sh (.int (.ofNat 4))), none, none, none, none, none, none, none, none],
  [none, some (.ow true []), none, none, none, none, none, none, none, none, none, some (.sh (.int (.ofNat 1))), some (.sh (.int (.ofNat 0))), none, none, none, none, none, none, none, none],
  [none, some (.ow true []), none, none, none, none, none, none, none, none, none, some (.sh (.int (.ofNat 1))), some (.sh (.int (.ofNat 1))), none, none, none, none, none, none, none, none],
  [none, some (.ow true []), none, none, none, none, none, none, none, none, none, some (.sh (.int (.ofNat 1))), some (.sh (.int (.ofNat 2))), none, none, none, none, none, none, none, none],
  [none, some (.ow true []), none, none, none, none, none, none, none, none, none, some (.sh (.int (.ofNat 1))), some (.sh (.int (.ofNat 3))), none, none, none, none, none, none, none, none],
  [none, some (.ow true []), none, none, none, none, none, none, none, none, none, some (.sh (.int (.ofNat 1))), some (.sh (.int (.ofNat 4))), none, none, none, none, none, none, none, none],
  [none, some (.ow true []), none, none, none, none, none, none, none, none, none, some (.sh (.int (.ofNat 2))), some (.sh (.int (.ofNat 0))), none, none, none, none, none, none, none, none],
  [none, some (.ow true []), none, none, none, none, none, none, none, none, none, some (.sh (.int (.ofNat 2))), some (.sh (.int (.ofNat 1))), none, none, none, none, none, none, none, none],
  [none, some (.ow true []), none, none, none, none, none, none, none, none, none, some (.sh (.int (.ofNat 2))), some (.sh (.int (.ofNat 2))), none, none, none, none, none, none, none, none],
  [none, some (.ow true []), none, none, none, none, none, none, none, none, none, some (.sh (.int (.ofNat 2))), some (.sh (.int (.ofNat 3))), none, none, none, none, none, none, none, none],
  [none, some (.ow true []), none, none, none, none, none, none, none, none, none, some (.sh (.int (.ofNat 2))), some (.sh (.int (.ofNat 4))), none, none, none, none, none, none, none, none],
  [none, some (.ow true []), none, none, none, none, none, none, none, none, none, some (.sh (.int (.ofNat 3))), some (.sh (.int (.ofNat 0))), none, none, none, none, none, none, none, none],
  [none, some (.ow true []), none, none, none, none, none, none, none, none, none, some (.sh (.int (.ofNat 3))), some (.sh (.int (.ofNat 1))), none, none, none, none, none, none, none, none],
  [none, some (.ow true []), none, none, none, none, none, none, none, none, none, some (.sh (.int (.ofNat 3))), some (.sh (.int (.ofNat 2))), none, none, none, none, none, none, none, none],
  [none, some (.ow true []), none, none, none, none, none, none, none, none, none, some (.sh (.int (.ofNat 3))), some (.sh (.int (.ofNat 3))), none, none, none, none, none, none, none, none],
  [none, some (.ow true []), none, none, none, none, none, none, none, none, none, some (.sh (.int (.ofNat 3))), some (.sh (.int (.ofNat 4))), none, none, none, none, none, none, none, none],
  [none, some (.ow true []), none, none, none, none, none, none, none, none, none, some (.sh (.int (.ofNat 4))), some (.sh (.int (.ofNat 0))), none, none, none, none, none, none, none, none]]
def Q6_0_1 : List LEnv := [[none, some (.ow true []), none, none, none, none, none, none, none, none, none, some (.sh (.int (.ofNat 4))), some (.sh (.int (.ofNat 1))), none, none, none, none, none, none, none, none],
  [none, some (.ow true []), none, none, none, none, none, none, none, none, none, some (.sh (.int (.ofNat 4))), some (.sh (.int (.ofNat 2))), none, none, none, none, none, none, none, none],
  [none, some (.ow true []), none, none, none, none, none, none, none, none, none, some (.sh (.int (.ofNat 4))), some (.sh (.int (.ofNat 3))), none, none, none, none, none, none, none, none],
  [none, some (.ow true []), none, none, none, none, none, none, none, none, none, some (.sh (.int (.ofNat 4))), some (.sh (.int (.ofNat 4))), none, none, none, none, none, none, none, none],
  [none, some (.ow true []), none, none, none, none, none, none, none, none, none, some (.sh (.int (.ofNat 5))), some (.sh (.int (.ofNat 0))), none, none, none, none, none, none, none, none],
  [none, some (.ow true []), none, none, none, none, none, none, none, none, none, some (.sh (.int (.ofNat 5))), some (.sh (.int (.ofNat 1))), none, none, none, none, none, none, none, none],
  [none, some (.ow true []), none, none, none, none, none, none, none, none, none, some (.sh (.int (.ofNat 5))), some (.sh (.int (.ofNat 2))), none, none, none, none, none, none, none, none]]
def Q6_0_2 : List LEnv := [[none, some (.ow true []), none, none, none, none, none, none, none, none, none, some (.sh (.int (.ofNat 5))), some (.sh (.int (.ofNat 3))), none, none, none, none, none, none, none, none],
  [none, some (.ow true []), none, none, none, none, none, none, none, none, none, some (.sh (.int (.ofNat 5))), some (.sh (.int (.ofNat 4))), none, none, none, none, none, none, none, none]]
def Q6_0 : List LEnv := Q6_0_0 ++ (Q6_0_1 ++ (Q6_0_2))
def c6_1 : MT := (mtB (mOp iNe (mCall 2 r_falling (maCons (mVar 11) (maCons (mVar 12) maNil))) (mCa cLenA (maCons (mComp [15] (miSeq (mCall 2 r_law_all (maCons (mLiR1 (mVar 11)) (maCons (mVar 12) maNil)))) (bName 15) (mtB (mOp iEq (mCa cLenA (maCons (mCa cDict (maCons (mComp [20] (miSeq (mVar 15)) (bName 20) mtYes (mTup (maCons (mVar 20) (maCons (mC (.int 1)) maNil)))) maNil)) maNil)) (mVar 12))) (mVar 15)) maNil))))
def c6_1o : MT := (mtB (mOp iNe (mCall 2 r_falling (maCons (mVar 11) (maCons (mVar 12) maNil))) (mCa cLenA (maCons (mComp [15] (miSeq (mCall 2 q_law_all (maCons (mLiR1 (mVar 11)) (maCons (mVar 12) maNil)))) (bName 15) (mtB (mOp iEq (mCa cLenA (maCons (mCa cDict (maCons (mComp [20] (miSeq (mVar 15)) (bName 20) mtYes (mTup (maCons (mVar 20) (maCons (mC (.int 1)) maNil)))) maNil)) maNil)) (mVar 12))) (mVar 15)) maNil))))
def Q6_1_0 : List LEnv := [[none, some (.ow true []), none, none, none, none, none, none, none, none, none, some (.sh (.int (.ofNat 0))), some (.sh (.int (.ofNat 0))), none, none, none, none, none, none, none, none],
  [none, some (.ow true []), none, none, none, none, none, none, none, none, none, some (.sh (.int (.ofNat 0))), some (.sh (.int (.ofNat 1))), none, none, none, none, none, none, none, none],
  [none, some (.ow true []), none, none, none, none, none, none, none, none, none, some (.sh (.int (.ofNat 0))), some (.sh (.int (.ofNat 2))), none, none, none, none, none, none, none, none],
  [none, some (.ow true []), none, none, none, none, none, none, none, none, none, some (.sh (.int (.ofNat 0))), some (.sh (.int (.ofNat 3))), none, none, none, none, none, none, none, none],
  [none, some (.ow true []), none, none, none, none, none, none, none, none, none, some (.sh (.int (.ofNat 0))), some (.sh (.int (.ofNat 4))), none, none, none, none, none, none, none, none],
  [none, some (.ow true []), none, none, none, none, none, none, none, none, none, some (.sh (.int (.ofNat 1))), some (.sh (.int (.ofNat 0))), none, none, none, none, none, none, none, none],
  [none, some (.ow true []), none, none, none, none, none, none, none, none, none, some (.sh (.int (.ofNat 1))), some (.sh (.int (.ofNat 1))), none, none, none, none, none, none, none, none],
  [none, some (.ow true []), none, none, none, none, none, none, none, none, none, some (.sh (.int (.ofNat 1))), some (.sh (.int (.ofNat 2))), none, none, none, none, none, none, none, none],
  [none, some (.ow true []), none, none, none, none, none, none, none, none, none, some (.sh (.int (.ofNat 1))), some (.sh (.int (.ofNat 3))), none, none, none, none, none, none, none, none],
  [none, some (.ow true []), none, none, none, none, none, none, none, none, none, some (.sh (.int (.ofNat 1))), some (.sh (.int (.ofNat 4))), none, none, none, none, none, none, none, none],
  [none, some (.ow true []), none, none, none, none, none, none, none, none, none, some (.sh (.int (.ofNat 2))), some (.sh (.int (.ofNat 0))), none, none, none, none, none, none, none, none],
  [none, some (.ow true []), none, none, none, none, none, none, none, none, none, some (.sh (.int (.ofNat 2))), some (.sh (.int (.ofNat 1))), none, none, none, none, none, none, none, none],
  [none, some (.ow true []), none, none, none, none, none, none, none, none, none, some (.sh (.int (.ofNat 2))), some (.sh (.int (.ofNat 2))), none, none, none, none, none, none, none, none],
  [none, some (.ow true []), none, none, none, none, none, none, none, none, none, some (.sh (.int (.ofNat 2))), some (.sh (.int (.ofNat 3))), none, none, none, none, none, none, none, none],
  [none, some (.ow true []), none, none, none, none, none, none, none, none, none, some (.sh (.int (.ofNat 2))), some (.sh (.int (.ofNat 4))), none, none, none, none, none, none, none, none],
  [none, some (.ow true []), none, none, none, none, none, none, none, none, none, some (.sh (.int (.ofNat 3))), some (.sh (.int (.ofNat 0))), none, none, none, none, none, none, none, none],
  [none, some (.ow true []), none, none, none, none, none, none, none, none, none, some (.sh (.int (.ofNat 3))), some (.sh (.int (.ofNat 1))), none, none, none, none, none, none, none, none],
  [none, some (.ow true []), none, none, none, none, none, none, none, none, none, some (.sh (.int (.ofNat 3))), some (.sh (.int (.ofNat 2))), none, none, none, none, none, none, none, none]]
def Q6_1_1 : List LEnv := [[none, some (.ow true []), none, none, none, none, none, none, none, none, none, some (.sh (.int (.ofNat 3))), some (.sh (.int (.ofNat 3))), none, none, none, none, none, none, none, none],
  [none, some (.ow true []), none, none, none, none, none, none, none, none, none, some (.sh (.int (.ofNat 3))), some (.sh (.int (.ofNat 4))), none, none, none, none, none, none, none, none],
  [none, some (.ow true []), none, none, none, none, none, none, none, none, none, some (.sh (.int (.ofNat 4))), some (.sh (.int (.ofNat 0))), none, none, none, none, none, none, none, none],
  [none, some (.ow true []), none, none, none, none, none, none, none, none, none, some (.sh (.int (.ofNat 4))), some (.sh (.int (.ofNat 1))), none, none, none, none, none, none, none, none],
  [none, some (.ow true []), none, none, none, none, none, none, none, none, none, some (.sh (.int (.ofNat 4))), some (.sh (.int (.ofNat 2))), none, none, none, none, none, none, none, none]]
def Q6_1_2 : List LEnv := [[none, some (.ow true []), none, none, none, none, none, none, none, none, none, some (.sh (.int (.ofNat 4))), some (.sh (.int (.ofNat 3))), none, none, none, none, none, none, none, none]]
def Q6_1_3 : List LEnv := [[none, some (.ow true []), none, none, none, none, none, none, none, none, none, some (.sh (.int (.ofNat 4))), some (.sh (.int (.ofNat 4))), none, none, none, none, none, none, none, none]]
def Q6_1_4 : List LEnv := [[none, some (.ow true []), none, none, none, none, none, none, none, none, none, some (.sh (.int (.ofNat 5))), some (.sh (.int (.ofNat 0))), none, none, none, none, none, none, none, none],
  [none, some (.ow true []), none, none, none, none, none, none, none, none, none, some (.sh (.int (.ofNat 5))), some (.sh (.int (.ofNat 1))), none, none, none, none, none, none, none, none],
  [none, some (.ow true []), none, none, none, none, none, none, none, none, none, some (.sh (.int (.ofNat 5))), some (.sh (.int (.ofNat 2))), none, none, none, none, none, none, none, none],
  [none, some (.ow true []), none, none, none, none, none, none, none, none, none, some (.sh (.int (.ofNat 5))), some (.sh (.int (.ofNat 3))), none, none, none, none, none, none, none, none]]
def Q6_1_5 : List LEnv := [[none, some (.ow true []), none, none, none, none, none, none, none, none, none, some (.sh (.int (.ofNat 5))), some (.sh (.int (.ofNat 4))), none, none, none, none, none, none, none, none]]
def Q6_1 : List LEnv := Q6_1_0 ++ (Q6_1_1 ++ (Q6_1_2 ++ (Q6_1_3 ++ (Q6_1_4 ++ (Q6_1_5)))))
def s6 : MS := mIfS (mtOr c6_0 (c6_1)) (mRet (mC (.bool false))) mNext
def S6_0 : List LEnv := [[none, some (.ow true []), none, some (.sh (.list [.tuple []])), none, none, none, none, none, none, none, some (.sh (.int (.ofNat 0))), some (.sh (.int (.ofNat 0))), none, none, none, none, none, none, none, none],
  [none, some (.ow true []), none, some (.sh (.list [.tuple []])), none, none, none, none, none, none, none, some (.sh (.int (.ofNat 0))), some (.sh (.int (.ofNat 1))), none, none, none, none, none, none, none, none],
  [none, some (.ow true []), none, some (.sh (.list [.tuple []])), none, none, none, none, none, none, none, some (.sh (.int (.ofNat 0))), some (.sh (.int (.ofNat 2))), none, none, none, none, none, none, none, none],
  [none, some (.ow true []), none, some (.sh (.list [.tuple []])), none, none, none, none, none, none, none, some (.sh (.int (.ofNat 0))), some (.sh (.int (.ofNat 3))), none, none, none, none, none, none, none, none],
  [none, some (.ow true []), none, some (.sh (.list [.tuple []])), none, none, none, none, none, none, none, some (.sh (.int (.ofNat 0))), some (.sh (.int (.ofNat 4))), none, none, none, none, none, none, none, none],
  [none, some (.ow true []), none, some (.sh (.list [.tuple [.int (.ofNat 0)]])), none, none, none, none, none, none, none, some (.sh (.int (.ofNat 1))), some (.sh (.int (.ofNat 0))), none, none, none, none, none, none, none, none],
  [none, some (.ow true []), none, some (.sh (.list [.tuple [.int (.ofNat 0)]])), none, none, none, none, none, none, none, some (.sh (.int (.ofNat 1))), some (.sh (.int (.ofNat 1))), none, none, none, none, none, none, none, none],
  [none, some (.ow true []), none, some (.sh (.list [.tuple [.int (.ofNat 0)]])), none, none, none, none, none, none, none, some (.sh (.int (.ofNat 1))), some (.sh (.int (.ofNat 2))), none, none, none, none, none, none, none, none],
  [none, some (.ow true []), none, some (.sh (.list [.tuple [.int (.ofNat 0)]])), none, none, none, none, none, none, none, some (.sh (.int (.ofNat 1))), some (.sh (.int (.ofNat 3))), none, none, none, none, none, none, none, none],
  [none, some (.ow true []), none, some (.sh (.list [.tuple [.int (.ofNat 0)]])), none, none, none, none, none, none, none, some (.sh (.int (.ofNat 1))), some (.sh (.int (.ofNat 4))), none, none, none, none, none, none, none, none],
  [none, some (.ow true []), none, some (.sh (v0)), none, none, none, none, none, none, none, some (.sh (.int (.ofNat 2))), some (.sh (.int (.ofNat 0))), none, none, none, none, none, none, none, none],
  [none, some (.ow true []), none, some (.sh (v0)), none, none, none, none, none, none, none, some (.sh (.int (.ofNat 2))), some (.sh (.int (.ofNat 1))), none, none, none, none, none, none, none, none],
  [none, some (.ow true []), none, some (.sh (v0)), none, none, none, none, none, none, none, some (.sh (.int (.ofNat 2))), some (.sh (.int (.ofNat 2))), none, none, none, none, none, none, none, none],
  [none, some (.ow true []), none, some (.sh (v0)), none, none, none, none, none, none, none, some (.sh (.int (.ofNat 2))), some (.sh (.int (.ofNat 3))), none, none, none, none, none, none, none, none],
  [none, some (.ow true []), none, some (.sh (v0)), none, none, none, none, none, none, none, some (.sh (.int (.ofNat 2))), some (.sh (.int (.ofNat 4))), none, none, none, none, none, none, none, none],
  [none, some (.ow true []), none, some (.sh (v1)), none, none, none, none, none, none, none, some (.sh (.int (.ofNat 3))), some (.sh (.int (.ofNat 0))), none, none, none, none, none, none, none, none],
  [none, some (.ow true []), none, some (.sh (v1)), none, none, none, none, none, none, none, some (.sh (.int (.ofNat 3))), some (.sh (.int (.ofNat 1))), none, none, none, none, none, none, none, none],
  [none, some (.ow true []), none, some (.sh (v1)), none, none, none, none, none, none, none, some (.sh (.int (.ofNat 3))), some (.sh (.int (.ofNat 2))), none, none, none, none, none, none, none, none],
  [none, some (.ow true []), none, some (.sh (v1)), none, none, none, none, none, none, none, some (.sh (.int (.ofNat 3))), some (.sh (.int (.ofNat 3))), none, none, none, none, none, none, none, none],
  [none, some (.ow true []), none, some (.sh (v1)), none, none, none, none, none, none, none, some (.sh (.int (.ofNat 3))), some (.sh (.int (.ofNat 4))), none, none, none, none, none, none, none, none],
  [none, some (.ow true []), none, some (.sh (v26)), none, none, none, none, none, none, none, some (.sh (.int (.ofNat 4))), some (.sh (.int (.ofNat 0))), none, none, none, none, none, none, none, none],
  [none, some (.ow true []), none, some (.sh (v26)), none, none, none, none, none, none, none, some (.sh (.int (.ofNat 4))), some (.sh (.int (.ofNat 1))), none, none, none, none, none, none, none, none],
  [none, some (.ow true []), none, some (.sh (v26)), none, none, none, none, none, none, none, some (.sh (.int (.ofNat 4))), some (.sh (.int (.ofNat 2))), none, none, none, none, none, none, none, none],
  [none, some (.ow true []), none, some (.sh (v26)), none, none, none, none, none, none, none, some (.sh (.int (.ofNat 4))), some (.sh (.int (.ofNat 3))), none, none, none, none, none, none, none, none],
  [none, some (.ow true []), none, some (.sh (v26)), none, none, none, none, none, none, none, some (.sh (.int (.ofNat 4))), some (.sh (.int (.ofNat 4))), none, none, none, none, none, none, none, none],
  [none, some (.ow true []), none, some (.sh (.list (w1671 ++ w1672 ++ w1673 ++ w1674 ++ w1675))), none, none, none, none, none, none, none, some (.sh (.int (.ofNat 5))), some (.sh (.int (.ofNat 0))), none, none, none, none, none, none, none, none],
  [none, some (.ow true []), none, some (.sh (.list (w1676 ++ w1677 ++ w1678 ++ w1679 ++ w1680))), none, none, none, none, none, none, none, some (.sh (.int (.ofNat 5))), some (.sh (.int (.ofNat 1))), none, none, none, none, none, none, none, none],
  [none, some (.ow true []), none, some (.sh (.list (w1681 ++ w1682 ++ w1683 ++ w1684 ++ w1685))), none, none, none, none, none, none, none, some (.sh (.int (.ofNat 5))), some (.sh (.int (.ofNat 2))), none, none, none, none, none, none, none, none],
  [none, some (.ow true []), none, some (.sh (.list (w1686 ++ w1687 ++ w1688 ++ w1689 ++ w1690))), none, none, none, none, none, none, none, some (.sh (.int (.ofNat 5))), some (.sh (.int (.ofNat 3))), none, none, none, none, none, none, none, none],
  [none, some (.ow true []), none, some (.sh (.list (w1691 ++ w1692 ++ w1693 ++ w1694 ++ w1695))), none, none, none, none, none, none, none, some (.sh (.int (.ofNat 5))), some (.sh (.int (.ofNat 4))), none, none, none, none, none, none, none, none]]
def S6 : List LEnv := S6_0
def c7_0 : MT := (mtB (mOp iNe (mCall 2 r_cycles (maCons (mVar 11) (maCons (mVar 12) maNil))) (mCa cLenA (maCons (mComp [15] (miSeq (mVar 3)) (bName 15) (mtB (mOp iEq (mCall 1 r_law_rings (maCons (mVar 15) maNil)) (mVar 12))) (mVar 15)) maNil))))
def c7_0o : MT := (mtB (mOp iNe (mCall 2 r_cycles (maCons (mVar 11) (maCons (mVar 12) maNil))) (mCa cLenA (maCons (mComp [15] (miSeq (mVar 3)) (bName 15) (mtB (mOp iEq (mCall 1 r_law_rings (maCons (mVar 15) maNil)) (mVar 12))) (mVar 15)) maNil))))
def Q7_0_0 : List LEnv := [[none, some (.ow true []), none, some (.sh (.list [.tuple []])), none, none, none, none, none, none, none, some (.sh (.int (.ofNat 0))), some (.sh (.int (.ofNat 0))), none, none, none, none, none, none, none, none],
  [none, some (.ow true []), none, some (.sh (.list [.tuple []])), none, none, none, none, none, none, none, some (.sh (.int (.ofNat 0))), some (.sh (.int (.ofNat 1))), none, none, none, none, none, none, none, none],
  [none, some (.ow true []), none, some (.sh (.list [.tuple []])), none, none, none, none, none, none, none, some (.sh (.int (.ofNat 0))), some (.sh (.int (.ofNat 2))), none, none, none, none, none, none, none, none],
  [none, some (.ow true []), none, some (.sh (.list [.tuple []])), none, none, none, none, none, none, none, some (.sh (.int (.ofNat 0))), some (.sh (.int (.ofNat 3))), none, none, none, none, none, none, none, none],
  [none, some (.ow true []), none, some (.sh (.list [.tuple []])), none, none, none, none, none, none, none, some (.sh (.int (.ofNat 0))), some (.sh (.int (.ofNat 4))), none, none, none, none, none, none, none, none],
  [none, some (.ow true []), none, some (.sh (.list [.tuple [.int (.ofNat 0)]])), none, none, none, none, none, none, none, some (.sh (.int (.ofNat 1))), some (.sh (.int (.ofNat 0))), none, none, none, none, none, none, none, none],
  [none, some (.ow true []), none, some (.sh (.list [.tuple [.int (.ofNat 0)]])), none, none, none, none, none, none, none, some (.sh (.int (.ofNat 1))), some (.sh (.int (.ofNat 1))), none, none, none, none, none, none, none, none],
  [none, some (.ow true []), none, some (.sh (.list [.tuple [.int (.ofNat 0)]])), none, none, none, none, none, none, none, some (.sh (.int (.ofNat 1))), some (.sh (.int (.ofNat 2))), none, none, none, none, none, none, none, none],
  [none, some (.ow true []), none, some (.sh (.list [.tuple [.int (.ofNat 0)]])), none, none, none, none, none, none, none, some (.sh (.int (.ofNat 1))), some (.sh (.int (.ofNat 3))), none, none, none, none, none, none, none, none],
  [none, some (.ow true []), none, some (.sh (.list [.tuple [.int (.ofNat 0)]])), none, none, none, none, none, none, none, some (.sh (.int (.ofNat 1))), some (.sh (.int (.ofNat 4))), none, none, none, none, none, none, none, none],
  [none, some (.ow true []), none, some (.sh (v0)), none, none, none, none, none, none, none, some (.sh (.int (.ofNat 2))), some (.sh (.int (.ofNat 0))), none, none, none, none, none, none, none, none],
  [none, some (.ow true []), none, some (.sh (v0)), none, none, none, none, none, none, none, some (.sh (.int (.ofNat 2))), some (.sh (.int (.ofNat 1))), none, none, none, none, none, none, none, none],
  [none, some (.ow true []), none, some (.sh (v0)), none, none, none, none, none, none, none, some (.sh (.int (.ofNat 2))), some (.sh (.int (.ofNat 2))), none, none, none, none, none, none, none, none]]
def Q7_0_1 : List LEnv := [[none, some (.ow true []), none, some (.sh (v0)), none, none, none, none, none, none, none, some (.sh (.int (.ofNat 2))), some (.sh (.int (.ofNat 3))), none, none, none, none, none, none, none, none],
  [none, some (.ow true []), none, some (.sh (v0)), none, none, none, none, none, none, none, some (.sh (.int (.ofNat 2))), some (.sh (.int (.ofNat 4))), none, none, none, none, none, none, none, none],
  [none, some (.ow true []), none, some (.sh (v1)), none, none, none, none, none, none, none, some (.sh (.int (.ofNat 3))), some (.sh (.int (.ofNat 0))), none, none, none, none, none, none, none, none],
  [none, some (.ow true []), none, some (.sh (v1)), none, none, none, none, none, none, none, some (.sh (.int (.ofNat 3))), some (.sh (.int (.ofNat 1))), none, none, none, none, none, none, none, none]]
def Q7_0_2 : List LEnv := [[none, some (.ow true []), none, some (.sh (v1)), none, none, none, none, none, none, none, some (.sh (.int (.ofNat 3))), some (.sh (.int (.ofNat 2))), none, none, none, none, none, none, none, none],
  [none, some (.ow true []), none, some (.sh (v1)), none, none, none, none, none, none, none, some (.sh (.int (.ofNat 3))), some (.sh (.int (.ofNat 3))), none, none, none, none, none, none, none, none],
  [none, some (.ow true []), none, some (.sh (v1)), none, none, none, none, none, none, none, some (.sh (.int (.ofNat 3))), some (.sh (.int (.ofNat 4))), none, none, none, none, none, none, none, none]]
def Q7_0_3 : List LEnv := [[none, some (.ow true []), none, some (.sh (v26)), none, none, none, none, none, none, none, some (.sh (.int (.ofNat 4))), some (.sh (.int (.ofNat 0))), none, none, none, none, none, none, none, none]]
def Q7_0_4 : List LEnv := [[none, some (.ow true []), none, some (.sh (v26)), none, none, none, none, none, none, none, some (.sh (.int (.ofNat 4))), some (.sh (.int (.ofNat 1))), none, none, none, none, none, none, none, none]]
def Q7_0_5 : List LEnv := [[none, some (.ow true []), none, some (.sh (v26)), none, none, none, none, none, none, none, some (.sh (.int (.ofNat 4))), some (.sh (.int (.ofNat 2))), none, none, none, none, none, none, none, none]]
def Q7_0_6 : List LEnv := [[none, some (.ow true []), none, some (.sh (v26)), none, none, none, none, none, none, none, some (.sh (.int (.ofNat 4))), some (.sh (.int (.ofNat 3))), none, none, none, none, none, none, none, none]]
def Q7_0_7 : List LEnv := [[none, some (.ow true []), none, some (.sh (v26)), none, none, none, none, none, none, none, some (.sh (.int (.ofNat 4))), some (.sh (.int (.ofNat 4))), none, none, none, none, none, none, none, none]]
def Q7_0_8 : List LEnv := [[none, some (.ow true []), none, some (.sh (.list (w1696 ++ w1697 ++ w1698 ++ w1699 ++ w1700))), none, none, none, none, none, none, none, some (.sh (.int (.ofNat 5))), some (.sh (.int (.ofNat 0))), none, none, none, none, none, none, none, none]]
def Q7_0_9 : List LEnv := [[none, some (.ow true []), none, some (.sh (.list (w1701 ++ w1702 ++ w1703 ++ w1704 ++ w1705))), none, none, none, none, none, none, none, some (.sh (.int (.ofNat 5))), some (.sh (.int (.ofNat 1))), none, none, none, none, none, none, none, none]]
def Q7_0_10 : List LEnv := [[none, some (.ow true []), none, some (.sh (.list (w1706 ++ w1707 ++ w1708 ++ w1709 ++ w1710))), none, none, none, none, none, none, none, some (.sh (.int (.ofNat 5))), some (.sh (.int (.ofNat 2))), none, none, none, none, none, none, none, none]]
def Q7_0_11 : List LEnv := [[none, some (.ow true []), none, some (.sh (.list (w1711 ++ w1712 ++ w1713 ++ w1714 ++ w1715))), none, none, none, none, none, none, none, some (.sh (.int (.ofNat 5))), some (.sh (.int (.ofNat 3))), none, none, none, none, none, none, none, none]]
def Q7_0_12 : List LEnv := [[none, some (.ow true []), none, some (.sh (.list (w1716 ++ w1717 ++ w1718 ++ w1719 ++ w1720))), none, none, none, none, none, none, none, some (.sh (.int (.ofNat 5))), some (.sh (.int (.ofNat 4))), none, none, none, none, none, none, none, none]]
def Q7_0 : List LEnv := Q7_0_0 ++ (Q7_0_1 ++ (Q7_0_2 ++ (Q7_0_3 ++ (Q7_0_4 ++ (Q7_0_5 ++ (Q7_0_6 ++ (Q7_0_7 ++ (Q7_0_8 ++ (Q7_0_9 ++ (Q7_0_10 ++ (Q7_0_11 ++ (Q7_0_12))))))))))))
def s7 : MS := mIfS (c7_0) (mRet (mC (.bool false))) mNext
def S7_0 : List LEnv := [[none, some (.ow true []), none, some (.sh (.list [.tuple []])), none, none, none, none, none, none, none, some (.sh (.int (.ofNat 0))), some (.sh (.int (.ofNat 0))), none, none, none, none, none, none, none, none],
  [none, some (.ow true []), none, some (.sh (.list [.tuple []])), none, none, none, none, none, none, none, some (.sh (.int (.ofNat 0))), some (.sh (.int (.ofNat 1))), none, none, none, none, none, none, none, none],
  [none, some (.ow true []), none, some (.sh (.list [.tuple []])), none, none, none, none, none, none, none, some (.sh (.int (.ofNat 0))), some (.sh (.int (.ofNat 2))), none, none, none, none, none, none, none, none],
  [none, some (.ow true []), none, some (.sh (.list [.tuple []])), none, none, none, none, none, none, none, some (.sh (.int (.ofNat 0))), some (.sh (.int (.ofNat 3))), none, none, none, none, none, none, none, none],
  [none, some (.ow true []), none, some (.sh (.list [.tuple []])), none, none, none, none, none, none, none, some (.sh (.int (.ofNat 0))), some (.sh (.int (.ofNat 4))), none, none, none, none, none, none, none, none],
  [none, some (.ow true []), none, some (.sh (.list [.tuple [.int (.ofNat 0)]])), none, none, none, none, none, none, none, some (.sh (.int (.ofNat 1))), some (.sh (.int (.ofNat 0))), none, none, none, none, none, none, none, none],
  [none, some (.ow true []), none, some (.sh (.list [.tuple [.int (.ofNat 0)]])), none, none, none, none, none, none, none, some (.sh (.int (.ofNat 1))), some (.sh (.int (.ofNat 1))), none, none, none, none, none, none, none, none],
  [none, some (.ow true []), none, some (.sh (.list [.tuple [.int (.ofNat 0)]])), none, none, none, none, none, none, none, some (.sh (.int (.ofNat 1))), some (.sh (.int (.ofNat 2))), none, none, none, none, none, none, none, none],
  [none, some (.ow true []), none, some (.sh (.list [.tuple [.int (.ofNat 0)]])), none, none, none, none, none, none, none, some (.sh (.int (.ofNat 1))), some (.sh (.int (.ofNat 3))), none, none, none, none, none, none, none, none],
  [none, some (.ow true []), none, some (.sh (.list [.tuple [.int (.ofNat 0)]])), none, none, none, none, none, none, none, some (.sh (.int (.ofNat 1))), some (.sh (.int (.ofNat 4))), none, none, none, none, none, none, none, none],
  [none, some (.ow true []), none, some (.sh (v0)), none, none, none, none, none, none, none, some (.sh (.int (.ofNat 2))), some (.sh (.int (.ofNat 0))), none, none, none, none, none, none, none, none],
  [none, some (.ow true []), none, some (.sh (v0)), none, none, none, none, none, none, none, some (.sh (.int (.ofNat 2))), some (.sh (.int (.ofNat 1))), none, none, none, none, none, none, none, none],
  [none, some (.ow true []), none, some (.sh (v0)), none, none, none, none, none, none, none, some (.sh (.int (.ofNat 2))), some (.sh (.int (.ofNat 2))), none, none, none, none, none, none, none, none],
  [none, some (.ow true []), none, some (.sh (v0)), none, none, none, none, none, none, none, some (.sh (.int (.ofNat 2))), some (.sh (.int (.ofNat 3))), none, none, none, none, none, none, none, none],
  [none, some (.ow true []), none, some (.sh (v0)), none, none, none, none, none, none, none, some (.sh (.int (.ofNat 2))), some (.sh (.int (.ofNat 4))), none, none, none, none, none, none, none, none],
  [none, some (.ow true []), none, some (.sh (v1)), none, none, none, none, none, none, none, some (.sh (.int (.ofNat 3))), some (.sh (.int (.ofNat 0))), none, none, none, none, none, none, none, none],
  [none, some (.ow true []), none, some (.sh (v1)), none, none, none, none, none, none, none, some (.sh (.int (.ofNat 3))), some (.sh (.int (.ofNat 1))), none, none, none, none, none, none, none, none],
  [none, some (.ow true []), none, some (.sh (v1)), none, none, none, none, none, none, none, some (.sh (.int (.ofNat 3))), some (.sh (.int (.ofNat 2))), none, none, none, none, none, none, none, none],
  [none, some (.ow true []), none, some (.sh (v1)), none, none, none, none, none, none, none, some (.sh (.int (.ofNat 3))), some (.sh (.int (.ofNat 3))), none, none, none, none, none, none, none, none],
  [none, some (.ow true []), none, some (.sh (v1)), none, none, none, none, none, none, none, some (.sh (.int (.ofNat 3))), some (.sh (.int (.ofNat 4))), none, none, none, none, none, none, none, none],
  [none, some (.ow true []), none, some (.sh (v26)), none, none, none, none, none, none, none, some (.sh (.int (.ofNat 4))), some (.sh (.int (.ofNat 0))), none, none, none, none, none, none, none, none],
  [none, some (.ow true []), none, some (.sh (v26)), none, none, none, none, none, none, none, some (.sh (.int (.ofNat 4))), some (.sh (.int (.ofNat 1))), none, none, none, none, none, none, none, none],
  [none, some (.ow true []), none, some (.sh (v26)), none, none, none, none, none, none, none, some (.sh (.int (.ofNat 4))), some (.sh (.int (.ofNat 2))), none, none, none, none, none, none, none, none],
  [none, some (.ow true []), none, some (.sh (v26)), none, none, none, none, none, none, none, some (.sh (.int (.ofNat 4))), some (.sh (.int (.ofNat 3))), none, none, none, none, none, none, none, none],
  [none, some (.ow true []), none, some (.sh (v26)), none, none, none, none, none, none, none, some (.sh (.int (.ofNat 4))), some (.sh (.int (.ofNat 4))), none, none, none, none, none, none, none, none],
  [none, some (.ow true []), none, some (.sh (.list (w1721 ++ w1722 ++ w1723 ++ w1724 ++ w1725))), none, none, none, none, none, none, none, some (.sh (.int (.ofNat 5))), some (.sh (.int (.ofNat 0))), none, none, none, none, none, none, none, none],
  [none, some (.ow true []), none, some (.sh (.list (w1726 ++ w1727 ++ w1728 ++ w1729 ++ w1730))), none, none, none, none, none, none, none, some (.sh (.int (.ofNat 5))), some (.sh (.int (.ofNat 1))), none, none, none, none, none, none, none, none],
  [none, some (.ow true []), none, some (.sh (.list (w1731 ++ w1732 ++ w1733 ++ w1734 ++ w1735))), none, none, none, none, none, none, none, some (.sh (.int (.ofNat 5))), some (.sh (.int (.ofNat 2))), none, none, none, none, none, none, none, none],
  [none, some (.ow true []), none, some (.sh (.list (w1736 ++ w1737 ++ w1738 ++ w1739 ++ w1740))), none, none, none, none, none, none, none, some (.sh (.int (.ofNat 5))), some (.sh (.int (.ofNat 3))), none, none, none, none, none, none, none, none],
  [none, some (.ow true []), none, some (.sh (.list (w1741 ++ w1742 ++ w1743 ++ w1744 ++ w1745))), none, none, none, none, none, none, none, some (.sh (.int (.ofNat 5))), some (.sh (.int (.ofNat 4))), none, none, none, none, none, none, none, none]]
def S7 : List LEnv := S7_0
def s8 : MS := (mAsg (bName 6) (mComp [15] (miSeq (mVar 3)) (bName 15) mtYes (mCa cLenA (maCons (mCall 1 r_law_flat (maCons (mComp [18] (miR rg1 (maCons (mVar 11) maNil)) (bName 18) mtYes (mComp [19] (miR rg1 (maCons (mVar 18) maNil)) (bName 19) (mtB (mOp (iCmp fun i j => decide (j < i)) (mIxV 15 (mVar 19)) (mIxV 15 (mVar 18)))) (mC (.int 1)))) maNil)) maNil))))
def s8o : MS := (mAsg (bName 6) (mComp [15] (miSeq (mVar 3)) (bName 15) mtYes (mCa cLenA (maCons (mCall 1 sw_flat (maCons (mComp [18] (miR rg1 (maCons (mVar 11) maNil)) (bName 18) mtYes (mComp [19] (miR rg1 (maCons (mVar 18) maNil)) (bName 19) (mtB (mOp (iCmp fun i j => decide (j < i)) (mIxV 15 (mVar 19)) (mIxV 15 (mVar 18)))) (mC (.int 1)))) maNil)) maNil))))
def S8_0 : List LEnv := [[none, some (.ow true []), none, some (.sh (.list [.tuple []])), none, none, none, none, none, none, none, some (.sh (.int (.ofNat 0))), some (.sh (.int (.ofNat 0))), none, none, none, none, none, none, none, none],
  [none, some (.ow true []), none, some (.sh (.list [.tuple []])), none, none, none, none, none, none, none, some (.sh (.int (.ofNat 0))), some (.sh (.int (.ofNat 1))), none, none, none, none, none, none, none, none],
  [none, some (.ow true []), none, some (.sh (.list [.tuple []])), none, none, none, none, none, none, none, some (.sh (.int (.ofNat 0))), some (.sh (.int (.ofNat 2))), none, none, none, none, none, none, none, none],
  [none, some (.ow true []), none, some (.sh (.list [.tuple []])), none, none, none, none, none, none, none, some (.sh (.int (.ofNat 0))), some (.sh (.int (.ofNat 3))), none, none, none, none, none, none, none, none],
  [none, some (.ow true []), none, some (.sh (.list [.tuple []])), none, none, none, none, none, none, none, some (.sh (.int (.ofNat 0))), some (.sh (.int (.ofNat 4))), none, none, none, none, none, none, none, none],
  [none, some (.ow true []), none, some (.sh (.list [.tuple [.int (.ofNat 0)]])), none, none, none, none, none, none, none, some (.sh (.int (.ofNat 1))), some (.sh (.int (.ofNat 0))), none, none, none, none, none, none, none, none],
  [none, some (.ow true []), none, some (.sh (.list [.tuple [.int (.ofNat 0)]])), none, none, none, none, none, none, none, some (.sh (.int (.ofNat 1))), some (.sh (.int (.ofNat 1))), none, none, none, none, none, none, none, none],
  [none, some (.ow true []), none, some (.sh (.list [.tuple [.int (.ofNat 0)]])), none, none, none, none, none, none, none, some (.sh (.int (.ofNat 1))), some (.sh (.int (.ofNat 2))), none, none, none, none, none, none, none, none],
  [none, some (.ow true []), none, some (.sh (.list [.tuple [.int (.ofNat 0)]])), none, none, none, none, none, none, none, some (.sh (.int (.ofNat 1))), some (.sh (.int (.ofNat 3))), none, none, none, none, none, none, none, none],
  [none, some (.ow true []), none, some (.sh (.list [.tuple [.int (.ofNat 0)]])), none, none, none, none, none, none, none, some (.sh (.int (.ofNat 1))), some (.sh (.int (.ofNat 4))), none, none, none, none, none, none, none, none],
  [none, some (.ow true []), none, some (.sh (v0)), none, none, none, none, none, none, none, some (.sh (.int (.ofNat 2))), some (.sh (.int (.ofNat 0))), none, none, none, none, none, none, none, none],
  [none, some (.ow true []), none, some (.sh (v0)), none, none, none, none, none, none, none, some (.sh (.int (.ofNat 2))), some (.sh (.int (.ofNat 1))), none, none, none, none, none, none, none, none],
  [none, some (.ow true []), none, some (.sh (v0)), none, none, none, none, none, none, none, some (.sh (.int (.ofNat 2))), some (.sh (.int (.ofNat 2))), none, none, none, none, none, none, none, none],
  [none, some (.ow true []), none, some (.sh (v0)), none, none, none, none, none, none, none, some (.sh (.int (.ofNat 2))), some (.sh (.int (.ofNat 3))), none, none, none, none, none, none, none, none]]
def S8_1 : List LEnv := [[none, some (.ow true []), none, some (.sh (v0)), none, none, none, none, none, none, none, some (.sh (.int (.ofNat 2))), some (.sh (.int (.ofNat 4))), none, none, none, none, none, none, none, none],
  [none, some (.ow true []), none, some (.sh (v1)), none, none, none, none, none, none, none, some (.sh (.int (.ofNat 3))), some (.sh (.int (.ofNat 0))), none, none, none, none, none, none, none, none],
  [none, some (.ow true []), none, some (.sh (v1)), none, none, none, none, none, none, none, some (.sh (.int (.ofNat 3))), some (.sh (.int (.ofNat 1))), none, none, none, none, none, none, none, none]]
def S8_2 : List LEnv := [[none, some (.ow true []), none, some (.sh (v1)), none, none, none, none, none, none, none, some (.sh (.int (.ofNat 3))), some (.sh (.int (.ofNat 2))), none, none, none, none, none, none, none, none],
  [none, some (.ow true []), none, some (.sh (v1)), none, none, none, none, none, none, none, some (.sh (.int (.ofNat 3))), some (.sh (.int (.ofNat 3))), none, none, none, none, none, none, none, none],
  [none, some (.ow true []), none, some (.sh (v1)), none, none, none, none, none, none, none, some (.sh (.int (.ofNat 3))), some (.sh (.int (.ofNat 4))), none, none, none, none, none, none, none, none]]
def S8_3 : List LEnv := [[none, some (.ow true []), none, some (.sh (v26)), none, none, none, none, none, none, none, some (.sh (.int (.ofNat 4))), some (.sh (.int (.ofNat 0))), none, none, none, none, none, none, none, none]]
def S8_4 : List LEnv := [[none, some (.ow true []), none, some (.sh (v26)), none, none, none, none, none, none, none, some (.sh (.int (.ofNat 4))), some (.sh (.int (.ofNat 1))), none, none, none, none, none, none, none, none]]
def S8_5 : List LEnv := [[none, some (.ow true []), none, some (.sh (v26)), none, none, none, none, none, none, none, some (.sh (.int (.ofNat 4))), some (.sh (.int (.ofNat 2))), none, none, none, none, none, none, none, none]]
def S8_6 : List LEnv := [[none, some (.ow true []), none, some (.sh (v26)), none, none, none, none, none, none, none, some (.sh (.int (.ofNat 4))), some (.sh (.int (.ofNat 3))), none, none, none, none, none, none, none, none]]
def S8_7 : List LEnv := [[none, some (.ow true []), none, some (.sh (v26)), none, none, none, none, none, none, none, some (.sh (.int (.ofNat 4))), some (.sh (.int (.ofNat 4))), none, none, none, none, none, none, none, none]]
def S8_8 : List LEnv := [[none, some (.ow true []), none, some (.sh (.list (w1746 ++ w1747 ++ w1748 ++ w1749 ++ w1750))), none, none, none, none, none, none, none, some (.sh (.int (.ofNat 5))), some (.sh (.int (.ofNat 0))), none, none, none, none, none, none, none, none]]
def S8_9 : List LEnv := [[none, some (.ow true []), none, some (.sh (.list (w1751 ++ w1752 ++ w1753 ++ w1754 ++ w1755))), none, none, none, none, none, none, none, some (.sh (.int (.ofNat 5))), some (.sh (.int (.ofNat 1))), none, none, none, none, none, none, none, none]]
def S8_10 : List LEnv := [[none, some (.ow true []), none, some (.sh (.list (w1756 ++ w1757 ++ w1758 ++ w1759 ++ w1760))), none, none, none, none, none, none, none, some (.sh (.int (.ofNat 5))), some (.sh (.int (.ofNat 2))), none, none, none, none, none, none, none, none]]
def S8_11 : List LEnv := [[none, some (.ow true []), none, some (.sh (.list (w1761 ++ w1762 ++ w1763 ++ w1764 ++ w1765))), none, none, none, none, none, none, none, some (.sh (.int (.ofNat 5))), some (.sh (.int (.ofNat 3))), none, none, none, none, none, none, none, none]]
def S8_12 : List LEnv := [[none, some (.ow true []), none, some (.sh (.list (w1766 ++ w1767 ++ w1768 ++ w1769 ++ w1770))), none, none, none, none, none, none, none, some (.sh (.int (.ofNat 5))), some (.sh (.int (.ofNat 4))), none, none, none, none, none, none, none, none]]
def S8 : List LEnv := S8_0 ++ (S8_1 ++ (S8_2 ++ (S8_3 ++ (S8_4 ++ (S8_5 ++ (S8_6 ++ (S8_7 ++ (S8_8 ++ (S8_9 ++ (S8_10 ++ (S8_11 ++ (S8_12))))))))))))
def P8_0 : List (List (Path × Nat)) := [[([], 0)],
  [([], 1)],
  [([], 2)],
  [([], 3)],
  [([], 4)],
  [([], 5)],
  [([], 6)],
  [([], 7)],
  [([], 8)],
  [([], 9)],
  [([], 10)],
  [([], 11)],
  [([], 12)],
  [([], 13)]]
def P8_1 : List (List (Path × Nat)) := [[([], 14)],
  [([], 15)],
  [([], 16)]]
def P8_2 : List (List (Path × Nat)) := [[([], 17)],
  [([], 18)],
  [([], 19)]]
def P8_3 : List (List (Path × Nat)) := [[([], 20)]]
def P8_4 : List (List (Path × Nat)) := [[([], 21)]]
def P8_5 : List (List (Path × Nat)) := [[([], 22)]]
def P8_6 : List (List (Path × Nat)) := [[([], 23)]]
def P8_7 : List (List (Path × Nat)) := [[([], 24)]]
def P8_8 : List (List (Path × Nat)) := [[([], 25)]]
def P8_9 : List (List (Path × Nat)) := [[([], 26)]]
def P8_10 : List (List (Path × Nat)) := [[([], 27)]]
def P8_11 : List (List (Path × Nat)) := [[([], 28)]]
def P8_12 : List (List (Path × Nat)) := [[([], 29)]]
def c9_0 : MT := (mtB (mOp iNe (mCa cListOf (maCons (mCall 1 r_crossings (maCons (mVar 11) maNil)) maNil)) (mComp [16] (miR rg1 (maCons (mOp iAddA (mCa cMax (maCons (mVar 6) maNil)) (mC (.int 1))) maNil)) (bName 16) mtYes (mCnt (mVar 6) (mVar 16)))))
def c9_0o : MT := (mtB (mOp iNe (mCa cListOf (maCons (mCall 1 r_crossings (maCons (mVar 11) maNil)) maNil)) (mComp [16] (miR rg1 (maCons (mOp iAddA (mCa cMax (maCons (mVar 6) maNil)) (mC (.int 1))) maNil)) (bName 16) mtYes (mCnt (mVar 6) (mVar 16)))))
def Q9_0_0 : List LEnv := [[none, some (.ow true []), none, none, none, none, some (.sh (.list [.int (.ofNat 0)])), none, none, none, none, some (.sh (.int (.ofNat 0))), none, none, none, none, none, none, none, none, none],
  [none, some (.ow true []), none, none, none, none, some (.sh (.list [.int (.ofNat 0)])), none, none, none, none, some (.sh (.int (.ofNat 1))), none, none, none, none, none, none, none, none, none],
  [none, some (.ow true []), none, none, none, none, some (.sh (.list [.int (.ofNat 0), .int (.ofNat 1)])), none, none, none, none, some (.sh (.int (.ofNat 2))), none, none, none, none, none, none, none, none, none],
  [none, some (.ow true []), none, none, none, none, some (.sh (v1422)), none, none, none, none, some (.sh (.int (.ofNat 3))), none, none, none, none, none, none, none, none, none],
  [none, some (.ow true []), none, none, none, none, some (.sh (v1423)), none, none, none, none, some (.sh (.int (.ofNat 4))), none, none, none, none, none, none, none, none, none]]
def Q9_0_1 : List LEnv := [[none, some (.ow true []), none, none, none, none, some (.sh (.list (w1773 ++ w1774 ++ w1775 ++ w1776 ++ w1777))), none, none, none, none, some (.sh (.int (.ofNat 5))), none, none, none, none, none, none, none, none, none]]
def Q9_0 : List LEnv := Q9_0_0 ++ (Q9_0_1)
def s9 : MS := mIfS (c9_0) (mRet (mC (.bool false))) mNext
def S9_0 : List LEnv := [[none, some (.ow true []), none, none, none, none, some (.sh (.list [.int (.ofNat 0)])), none, none, none, none, some (.sh (.int (.ofNat 0))), some (.sh (.int (.ofNat 0))), none, none, none, none, none, none, none, none],
  [none, some (.ow true []), none, none, none, none, some (.sh (.list [.int (.ofNat 0)])), none, none, none, none, some (.sh (.int (.ofNat 0))), some (.sh (.int (.ofNat 1))), none, none, none, none, none, none, none, none],
  [none, some (.ow true []), none, none, none, none, some (.sh (.list [.int (.ofNat 0)])), none, none, none, none, some (.sh (.int (.ofNat 0))), some (.sh (.int (.ofNat 2))), none, none, none, none, none, none, none, none],
  [none, some (.ow true []), none, none, none, none, some (.sh (.list [.int (.ofNat 0)])), none, none, none, none, some (.sh (.int (.ofNat 0))), some (.sh (.int (.ofNat 3))), none, none, none, none, none, none, none, none],
  [none, some (.ow true []), none, none, none, none, some (.sh (.list [.int (.ofNat 0)])), none, none, none, none, some (.sh (.int (.ofNat 0))), some (.sh (.int (.ofNat 4))), none, none, none, none, none, none, none, none],
  [none, some (.ow true []), none, none, none, none, some (.sh (.list [.int (.ofNat 0)])), none, none, none, none, some (.sh (.int (.ofNat 1))), some (.sh (.int (.ofNat 0))), none, none, none, none, none, none, none, none],
  [none, some (.ow true []), none, none, none, none, some (.sh (.list [.int (.ofNat 0)])), none, none, none, none, some (.sh (.int (.ofNat 1))), some (.sh (.int (.ofNat 1))), none, none, none, none, none, none, none, none],
  [none, some (.ow true []), none, none, none, none, some (.sh (.list [.int (.ofNat 0)])), none, none, none, none, some (.sh (.int (.ofNat 1))), some (.sh (.int (.ofNat 2))), none, none, none, none, none, none, none, none],
  [none, some (.ow true []), none, none, none, none, some (.sh (.list [.int (.ofNat 0)])), none, none, none, none, some (.sh (.int (.ofNat 1))), some (.sh (.int (.ofNat 3))), none, none, none, none, none, none, none, none],
  [none, some (.ow true []), none, none, none, none, some (.sh (.list [.int (.ofNat 0)])), none, none, none, none, some (.sh (.int (.ofNat 1))), some (.sh (.int (.ofNat 4))), none, none, none, none, none, none, none, none],
  [none, some (.ow true []), none, none, none, none, some (.sh (.list [.int (.ofNat 0), .int (.ofNat 1)])), none, none, none, none, some (.sh (.int (.ofNat 2))), some (.sh (.int (.ofNat 0))), none, none, none, none, none, none, none, none],
  [none, some (.ow true []), none, none, none, none, some (.sh (.list [.int (.ofNat 0), .int (.ofNat 1)])), none, none, none, none, some (.sh (.int (.ofNat 2))), some (.sh (.int (.ofNat 1))), none, none, none, none, none, none, none, none],
  [none, some (.ow true []), none, none, none, none, some (.sh (.list [.int (.ofNat 0), .int (.ofNat 1)])), none, none, none, none, some (.sh (.int (.ofNat 2))), some (.sh (.int (.ofNat 2))), none, none, none, none, none, none, none, none],
  [none, some (.ow true []), none, none, none, none, some (.sh (.list [.int (.ofNat 0), .int (.ofNat 1)])), none, none, none, none, some (.sh (.int (.ofNat 2))), some (.sh (.int (.ofNat 3))), none, none, none, none, none, none, none, none],
  [none, some (.ow true []), none, none, none, none, some (.sh (.list [.int (.ofNat 0), .int (.ofNat 1)])), none, none, none, none, some (.sh (.int (.ofNat 2))), some (.sh (.int (.ofNat 4))), none, none, none, none, none, none, none, none],
  [none, some (.ow true []), none, none, none, none, some (.sh (v1422)), none, none, none, none, some (.sh (.int (.ofNat 3))), some (.sh (.int (.ofNat 0))), none, none, none, none, none, none, none, none],
  [none, some (.ow true []), none, none, none, none, some (.sh (v1422)), none, none, none, none, some (.sh (.int (.ofNat 3))), some (.sh (.int (.ofNat 1))), none, none, none, none, none, none, none, none],
  [none, some (.ow true []), none, none, none, none, some (.sh (v1422)), none, none, none, none, some (.sh (.int (.ofNat 3))), some (.sh (.int (.ofNat 2))), none, none, none, none, none, none, none, none],
  [none, some (.ow true []), none, none, none, none, some (.sh (v1422)), none, none, none, none, some (.sh (.int (.ofNat 3))), some (.sh (.int (.ofNat 3))), none, none, none, none, none, none, none, none],
  [none, some (.ow true []), none, none, none, none, some (.sh (v1422)), none, none, none, none, some (.sh (.int (.ofNat 3))), some (.sh (.int (.ofNat 4))), none, none, none, none, none, none, none, none],
  [none, some (.ow true []), none, none, none, none, some (.sh (v1423)), none, none, none, none, some (.sh (.int (.ofNat 4))), some (.sh (.int (.ofNat 0))), none, none, none, none, none, none, none, none],
  [none, some (.ow true []), none, none, none, none, some (.sh (v1423)), none, none, none, none, some (.sh (.int (.ofNat 4))), some (.sh (.int (.ofNat 1))), none, none, none, none, none, none, none, none],
  [none, some (.ow true []), none, none, none, none, some (.sh (v1423)), none, none, none, none, some (.sh (.int (.ofNat 4))), some (.sh (.int (.ofNat 2))), none, none, none, none, none, none, none, none],
  [none, some (.ow true []), none, none, none, none, some (.sh (v1423)), none, none, none, none, some (.sh (.int (.ofNat 4))), some (.sh (.int (.ofNat 3))), none, none, none, none, none, none, none, none],
  [none, some (.ow true []), none, none, none, none, some (.sh (v1423)), none, none, none, none, some (.sh (.int (.ofNat 4))), some (.sh (.int (.ofNat 4))), none, none, none, none, none, none, none, none],
  [none, some (.ow true []), none, none, none, none, some (.sh (.list (w1778 ++ w1779 ++ w1780 ++ w1781 ++ w1782))), none, none, none, none, some (.sh (.int (.ofNat 5))), some (.sh (.int (.ofNat 0))), none, none, none, none, none, none, none, none],
  [none, some (.ow true []), none, none, none, none, some (.sh (.list (w1783 ++ w1784 ++ w1785 ++ w1786 ++ w1787))), none, none, none, none, some (.sh (.int (.ofNat 5))), some (.sh (.int (.ofNat 1))), none, none, none, none, none, none, none, none],
  [none, some (.ow true []), none, none, none, none, some (.sh (.list (w1788 ++ w1789 ++ w1790 ++ w1791 ++ w1792))), none, none, none, none, some (.sh (.int (.ofNat 5))), some (.sh (.int (.ofNat 2))), none, none, none, none, none, none, none, none],
  [none, some (.ow true []), none, none, none, none, some (.sh (.list (w1793 ++ w1794 ++ w1795 ++ w1796 ++ w1797))), none, none, none, none, some (.sh (.int (.ofNat 5))), some (.sh (.int (.ofNat 3))), none, none, none, none, none, none, none, none],
  [none, some (.ow true []), none, none, none, none, some (.sh (.list (w1798 ++ w1799 ++ w1800 ++ w1801 ++ w1802))), none, none, none, none, some (.sh (.int (.ofNat 5))), some (.sh (.int (.ofNat 4))), none, none, none, none, none, none, none, none]]
def S9 : List LEnv := S9_0
def c10_0 : MT := (mtB (mOp iNe (mCall 2 r_sums (maCons (mVar 11) (maCons (mVar 12) maNil))) (mCa cLenA (maCons (mComp [15] (miSeq (mCall 2 r_law_all (maCons (mLiR1 (mOp iAddA (mVar 11) (mC (.int 1)))) (maCons (mVar 12) maNil)))) (bName 15) (mtB (mOp iEq (mCa cSum2 (maCons (mVar 15) maNil)) (mVar 11))) (mVar 15)) maNil))))
def c10_0o : MT := (mtB (mOp iNe (mCall 2 r_sums (maCons (mVar 11) (maCons (mVar 12) maNil))) (mCa cLenA (maCons (mComp [15] (miSeq (mCall 2 q_law_all (maCons (mLiR1 (mOp iAddA (mVar 11) (mC (.int 1)))) (maCons (mVar 12) maNil)))) (bName 15) (mtB (mOp iEq (mCa cSum2 (maCons (mVar 15) maNil)) (mVar 11))) (mVar 15)) maNil))))
def Q10_0_0 : List LEnv := [[none, some (.ow true []), none, none, none, none, none, none, none, none, none, some (.sh (.int (.ofNat 0))), some (.sh (.int (.ofNat 0))), none, none, none, none, none, none, none, none],
  [none, some (.ow true []), none, none, none, none, none, none, none, none, none, some (.sh (.int (.ofNat 0))), some (.sh (.int (.ofNat 1))), none, none, none, none, none, none, none, none],
  [none, some (.ow true []), none, none, none, none, none, none, none, none, none, some (.sh (.int (.ofNat 0))), some (.sh (.int (.ofNat 2))), none, none, none, none, none, none, none, none],
  [none, some (.ow true []), none, none, none, none, none, none, none, none, none, some (.sh (.int (.ofNat 0))), some (.sh (.int (.ofNat 3))), none, none, none, none, none, none, none, none],
  [none, some (.ow true []), none, none, none, none, none, none, none, none, none, some (.sh (.int (.ofNat 0))), some (.sh (.int (.ofNat 4))), none, none, none, none, none, none, none, none],
  [none, some (.ow true []), none, none, none, none, none, none, none, none, none, some (.sh (.int (.ofNat 1))), some (.sh (.int (.ofNat 0))), none, none, none, none, none, none, none, none],
  [none, some (.ow true []), none, none, none, none, none, none, none, none, none, some (.sh (.int (.ofNat 1))), some (.sh (.int (.ofNat 1))), none, none, none, none, none, none, none, none],
  [none, some (.ow true []), none, none, none, none, none, none, none, none, none, some (.sh (.int (.ofNat 1))), some (.sh (.int (.ofNat 2))), none, none, none, none, none, none, none, none],
  [none, some (.ow true []), none, none, none, none, none, none, none, none, none, some (.sh (.int (.ofNat 1))), some (.sh (.int (.ofNat 3))), none, none, none, none, none, none, none, none],
  [none, some (.ow true []), none, none, none, none, none, none, none, none, none, some (.sh (.int (.ofNat 1))), some (.sh (.int (.ofNat 4))), none, none, none, none, none, none, none, none],
  [none, some (.ow true []), none, none, none, none, none, none, none, none, none, some (.sh (.int (.ofNat 2))), some (.sh (.int (.ofNat 0))), none, none, none, none, none, none, none, none],
  [none, some (.ow true []), none, none, none, none, none, none, none, none, none, some (.sh (.int (.ofNat 2))), some (.sh (.int (.ofNat 1))), none, none, none, none, none, none, none, none],
  [none, some (.ow true []), none, none, none, none, none, none, none, none, none, some (.sh (.int (.ofNat 2))), some (.sh (.int (.ofNat 2))), none, none, none, none, none, none, none, none],
  [none, some (.ow true []), none, none, none, none, none, none, none, none, none, some (.sh (.int (.ofNat 2))), some (.sh (.int (.ofNat 3))), none, none, none, none, none, none, none, none],
  [none, some (.ow true []), none, none, none, none, none, none, none, none, none, some (.sh (.int (.ofNat 2))), some (.sh (.int (.ofNat 4))), none, none, none, none, none, none, none, none]]
def Q10_0_1 : List LEnv := [[none, some (.ow true []), none, none, none, none, none, none, none, none, none, some (.sh (.int (.ofNat 3))), some (.sh (.int (.ofNat 0))), none, none, none, none, none, none, none, none],
  [none, some (.ow true []), none, none, none, none, none, none, none, none, none, some (.sh (.int (.ofNat 3))), some (.sh (.int (.ofNat 1))), none, none, none, none, none, none, none, none],
  [none, some (.ow true []), none, none, none, none, none, none, none, none, none, some (.sh (.int (.ofNat 3))), some (.sh (.int (.ofNat 2))), none, none, none, none, none, none, none, none],
  [none, some (.ow true []), none, none, none, none, none, none, none, none, none, some (.sh (.int (.ofNat 3))), some (.sh (.int (.ofNat 3))), none, none, none, none, none, none, none, none],
  [none, some (.ow true []), none, none, none, none, none, none, none, none, none, some (.sh (.int (.ofNat 3))), some (.sh (.int (.ofNat 4))), none, none, none, none, none, none, none, none],
  [none, some (.ow true []), none, none, none, none, none, none, none, none, none, some (.sh (.int (.ofNat 4))), some (.sh (.int (.ofNat 0))), none, none, none, none, none, none, none, none],
  [none, some (.ow true []), none, none, none, none, none, none, none, none, none, some (.sh (.int (.ofNat 4))), some (.sh (.int (.ofNat 1))), none, none, none, none, none, none, none, none],
  [none, some (.ow true []), none, none, none, none, none, none, none, none, none, some (.sh (.int (.ofNat 4))), some (.sh (.int (.ofNat 2))), none, none, none, none, none, none, none, none]]
def Q10_0_2 : List LEnv := [[none, some (.ow true []), none, none, none, none, none, none, none, none, none, some (.sh (.int (.ofNat 4))), some (.sh (.int (.ofNat 3))), none, none, none, none, none, none, none, none]]
def Q10_0_3 : List LEnv := [[none, some (.ow true []), none, none, none, none, none, none, none, none, none, some (.sh (.int (.ofNat 4))), some (.sh (.int (.ofNat 4))), none, none, none, none, none, none, none, none]]
def Q10_0_4 : List LEnv := [[none, some (.ow true []), none, none, none, none, none, none, none, none, none, some (.sh (.int (.ofNat 5))), some (.sh (.int (.ofNat 0))), none, none, none, none, none, none, none, none],
  [none, some (.ow true []), none, none, none, none, none, none, none, none, none, some (.sh (.int (.ofNat 5))), some (.sh (.int (.ofNat 1))), none, none, none, none, none, none, none, none],
  [none, some (.ow true []), none, none, none, none, none, none, none, none, none, some (.sh (.int (.ofNat 5))), some (.sh (.int (.ofNat 2))), none, none, none, none, none, none, none, none],
  [none, some (.ow true []), none, none, none, none, none, none, none, none, none, some (.sh (.int (.ofNat 5))), some (.sh (.int (.ofNat 3))), none, none, none, none, none, none, none, none]]
def Q10_0_5 : List LEnv := [[none, some (.ow true []), none, none, none, none, none, none, none, none, none, some (.sh (.int (.ofNat 5))), some (.sh (.int (.ofNat 4))), none, none, none, none, none, none, none, none]]
def Q10_0 : List LEnv := Q10_0_0 ++ (Q10_0_1 ++ (Q10_0_2 ++ (Q10_0_3 ++ (Q10_0_4 ++ (Q10_0_5)))))
def s10 : MS := mIfS (c10_0) (mRet (mC (.bool false))) mNext
def S10_0 : List LEnv := [[none, some (.ow true []), none, none, none, none, none, none, none, none, none, some (.sh (.int (.ofNat 0))), some (.sh (.int (.ofNat 0))), none, none, none, none, none, none, none, none],
  [none, some (.ow true []), none, none, none, none, none, none, none, none, none, some (.sh (.int (.ofNat 0))), some (.sh (.int (.ofNat 1))), none, none, none, none, none, none, none, none],
  [none, some (.ow true []), none, none, none, none, none, none, none, none, none, some (.sh (.int (.ofNat 0))), some (.sh (.int (.ofNat 2))), none, none, none, none, none, none, none, none],
  [none, some (.ow true []), none, none, none, none, none, none, none, none, none, some (.sh (.int (.ofNat 0))), some (.sh (.int (.ofNat 3))), none, none, none, none, none, none, none, none],
  [none, some (.ow true []), none, none, none, none, none, none, none, none, none, some (.sh (.int (.ofNat 0))), some (.sh (.int (.ofNat 4))), none, none, none, none, none, none, none, none],
  [none, some (.ow true []), none, none, none, none, none, none, none, none, none, some (.sh (.int (.ofNat 1))), some (.sh (.int (.ofNat 0))), none, none, none, none, none, none, none, none],
  [none, some (.ow true []), none, none, none, none, none, none, none, none, none, some (.sh (.int (.ofNat 1))), some (.sh (.int (.ofNat 1))), none, none, none, none, none, none, none, none],
  [none, some (.ow true []), none, none, none, none, none, none, none, none, none, some (.sh (.int (.ofNat 1))), some (.sh (.int (.ofNat 2))), none, none, none, none, none, none, none, none],
  [none, some (.ow true []), none, none, none, none, none, none, none, none, none, some (.sh (.int (.ofNat 1))), some (.sh (.int (.ofNat 3))), none, none, none, none, none, none, none, none],
  [none, some (.ow true []), none, none, none, none, none, none, none, none, none, some (.sh (.int (.ofNat 1))), some (.sh (.int (.ofNat 4))), none, none, none, none, none, none, none, none],
  [none, some (.ow true []), none, none, none, none, none, none, none, none, none, some (.sh (.int (.ofNat 2))), some (.sh (.int (.ofNat 0))), none, none, none, none, none, none, none, none],
  [none, some (.ow true []), none, none, none, none, none, none, none, none, none, some (.sh (.int (.ofNat 2))), some (.sh (.int (.ofNat 1))), none, none, none, none, none, none, none, none],
  [none, some (.ow true []), none, none, none, none, none, none, none, none, none, some (.sh (.int (.ofNat 2))), some (.sh (.int (.ofNat 2))), none, none, none, none, none, none, none, none],
  [none, some (.ow true []), none, none, none, none, none, none, none, none, none, some (.sh (.int (.ofNat 2))), some (.sh (.int (.ofNat 3))), none, none, none, none, none, none, none, none],
  [none, some (.ow true []), none, none, none, none, none, none, none, none, none, some (.sh (.int (.ofNat 2))), some (.sh (.int (.ofNat 4))), none, none, none, none, none, none, none, none],
  [none, some (.ow true []), none, none, none, none, none, none, none, none, none, some (.sh (.int (.ofNat 3))), some (.sh (.int (.ofNat 0))), none, none, none, none, none, none, none, none],
  [none, some (.ow true []), none, none, none, none, none, none, none, none, none, some (.sh (.int (.ofNat 3))), some (.sh (.int (.ofNat 1))), none, none, none, none, none, none, none, none],
  [none, some (.ow true []), none, none, none, none, none, none, none, none, none, some (.sh (.int (.ofNat 3))), some (.sh (.int (.ofNat 2))), none, none, none, none, none, none, none, none],
  [none, some (.ow true []), none, none, none, none, none, none, none, none, none, some (.sh (.int (.ofNat 3))), some (.sh (.int (.ofNat 3))), none, none, none, none, none, none, none, none],
  [none, some (.ow true []), none, none, none, none, none, none, none, none, none, some (.sh (.int (.ofNat 3))), some (.sh (.int (.ofNat 4))), none, none, none, none, none, none, none, none],
  [none, some (.ow true []), none, none, none, none, none, none, none, none, none, some (.sh (.int (.ofNat 4))), some (.sh (.int (.ofNat 0))), none, none, none, none, none, none, none, none],
  [none, some (.ow true []), none, none, none, none, none, none, none, none, none, some (.sh (.int (.ofNat 4))), some (.sh (.int (.ofNat 1))), none, none, none, none, none, none, none, none],
  [none, some (.ow true []), none, none, none, none, none, none, none, none, none, some (.sh (.int (.ofNat 4))), some (.sh (.int (.ofNat 2))), none, none, none, none, none, none, none, none],
  [none, some (.ow true []), none, none, none, none, none, none, none, none, none, some (.sh (.int (.ofNat 4))), some (.sh (.int (.ofNat 3))), none, none, none, none, none, none, none, none],
  [none, some (.ow true []), none, none, none, none, none, none, none, none, none, some (.sh (.int (.ofNat 4))), some (.sh (.int (.ofNat 4))), none, none, none, none, none, none, none, none],
  [none, some (.ow true []), none, none, none, none, none, none, none, none, none, some (.sh (.int (.ofNat 5))), some (.sh (.int (.ofNat 0))), none, none, none, none, none, none, none, none],
  [none, some (.ow true []), none, none, none, none, none, none, none, none, none, some (.sh (.int (.ofNat 5))), some (.sh (.int (.ofNat 1))), none, none, none, none, none, none, none, none],
  [none, some (.ow true []), none, none, none, none, none, none, none, none, none, some (.sh (.int (.ofNat 5))), some (.sh (.int (.ofNat 2))), none, none, none, none, none, none, none, none],
  [none, some (.ow true []), none, none, none, none, none, none, none, none, none, some (.sh (.int (.ofNat 5))), some (.sh (.int (.ofNat 3))), none, none, none, none, none, none, none, none],
  [none, some (.ow true []), none, none, none, none, none, none, none, none, none, some (.sh (.int (.ofNat 5))), some (.sh (.int (.ofNat 4))), none, none, none, none, none, none, none, none]]
def S10 : List LEnv := S10_0
def s11 : MS := (mAsg (bName 7) (mCallM 1 r_law_roll 1 (maCons (mC (.int 5)) maNil)))
def s11o : MS := (mAsg (bName 7) (mCallM 1 orc 1 (maCons (mC (.int 5)) maNil)))
def S11_0 : List LEnv := [[none, some (.ow true []), none, none, none, none, none, none, none, none, none, some (.sh (.int (.ofNat 0))), none, none, none, none, none, none, none, none, none],
  [none, some (.ow true []), none, none, none, none, none, none, none, none, none, some (.sh (.int (.ofNat 1))), none, none, none, none, none, none, none, none, none],
  [none, some (.ow true []), none, none, none, none, none, none, none, none, none, some (.sh (.int (.ofNat 2))), none, none, none, none, none, none, none, none, none],
  [none, some (.ow true []), none, none, none, none, none, none, none, none, none, some (.sh (.int (.ofNat 3))), none, none, none, none, none, none, none, none, none],
  [none, some (.ow true []), none, none, none, none, none, none, none, none, none, some (.sh (.int (.ofNat 4))), none, none, none, none, none, none, none, none, none],
  [none, some (.ow true []), none, none, none, none, none, none, none, none, none, some (.sh (.int (.ofNat 5))), none, none, none, none, none, none, none, none, none]]
def S11 : List LEnv := S11_0
def P11_0 : List (List (Path × Nat)) := [[([(5, 0)], 0), ([(5, 1)], 1), ([(5, 2)], 2), ([(5, 3)], 3), ([(5, 4)], 4)],
  [([(5, 0)], 5), ([(5, 1)], 6), ([(5, 2)], 7), ([(5, 3)], 8), ([(5, 4)], 9)],
  [([(5, 0)], 10), ([(5, 1)], 11), ([(5, 2)], 12), ([(5, 3)], 13), ([(5, 4)], 14)],
  [([(5, 0)], 15), ([(5, 1)], 16), ([(5, 2)], 17), ([(5, 3)], 18), ([(5, 4)], 19)],
  [([(5, 0)], 20), ([(5, 1)], 21), ([(5, 2)], 22), ([(5, 3)], 23), ([(5, 4)], 24)],
  [([(5, 0)], 25), ([(5, 1)], 26), ([(5, 2)], 27), ([(5, 3)], 28), ([(5, 4)], 29)]]
def s12 : MS := (mAsg (bName 8) (mComp [15] (miSeq (mCall 2 r_law_all (maCons (mLiR1 (mOp iAddA (mVar 7) (mC (.int 1)))) (maCons (mVar 11) maNil)))) (bName 15) (mtAnd (mtB (mOp iEq (mCa cSum2 (maCons (mVar 15) maNil)) (mVar 11))) (mtB (mOp iEq (mCa cListOf (maCons (mVar 15) maNil)) (mSortKw true (mVar 15))))) (mVar 15)))
def s12o : MS := (mAsg (bName 8) (mComp [15] (miSeq (mCall 2 q_law_all (maCons (mLiR1 (mOp iAddA (mVar 7) (mC (.int 1)))) (maCons (mVar 11) maNil)))) (bName 15) (mtAnd (mtB (mOp iEq (mCa cSum2 (maCons (mVar 15) maNil)) (mVar 11))) (mtB (mOp iEq (mCa cListOf (maCons (mVar 15) maNil)) (mSortKw true (mVar 15))))) (mVar 15)))
def S12_0 : List LEnv := [[none, some (.ow true []), none, none, none, none, none, some (.sh (.int (.ofNat 0))), none, none, none, some (.sh (.int (.ofNat 0))), none, none, none, none, none, none, none, none, none],
  [none, some (.ow true []), none, none, none, none, none, some (.sh (.int (.ofNat 1))), none, none, none, some (.sh (.int (.ofNat 0))), none, none, none, none, none, none, none, none, none],
  [none, some (.ow true []), none, none, none, none, none, some (.sh (.int (.ofNat 2))), none, none, none, some (.sh (.int (.ofNat 0))), none, none, none, none, none, none, none, none, none],
  [none, some (.ow true []), none, none, none, none, none, some (.sh (.int (.ofNat 3))), none, none, none, some (.sh (.int (.ofNat 0))), none, none, none, none, none, none, none, none, none],
  [none, some (.ow true []), none, none, none, none, none, some (.sh (.int (.ofNat 4))), none, none, none, some (.sh (.int (.ofNat 0))), none, none, none, none, none, none, none, none, none],
  [none, some (.ow true []), none, none, none, none, none, some (.sh (.int (.ofNat 0))), none, none, none, some (.sh (.int (.ofNat 1))), none, none, none, none, none, none, none, none, none],
  [none, some (.ow true []), none, none, none, none, none, some (.sh (.int (.ofNat 1))), none, none, none, some (.sh (.int (.ofNat 1))), none, none, none, none, none, none, none, none, none],
  [none, some (.ow true []), none, none, none, none, none, some (.sh (.int (.ofNat 2))), none, none, none, some (.sh (.int (.ofNat 1))), none, none, none, none, none, none, none, none, none],
  [none, some (.ow true []), none, none, none, none, none, some (.sh (.int (.ofNat 3))), none, none, none, some (.sh (.int (.ofNat 1))), none, none, none, none, none, none, none, none, none],
  [none, some (.ow true []), none, none, none, none, none, some (.sh (.int (.ofNat 4))), none, none, none, some (.sh (.int (.ofNat 1))), none, none, none, none, none, none, none, none, none],
  [none, some (.ow true []), none, none, none, none, none, some (.sh (.int (.ofNat 0))), none, none, none, some (.sh (.int (.ofNat 2))), none, none, none, none, none, none, none, none, none],
  [none, some (.ow true []), none, none, none, none, none, some (.sh (.int (.ofNat 1))), none, none, none, some (.sh (.int (.ofNat 2))), none, none, none, none, none, none, none, none, none],
  [none, some (.ow true []), none, none, none, none, none, some (.sh (.int (.ofNat 2))), none, none, none, some (.sh (.int (.ofNat 2))), none, none, none, none, none, none, none, none, none],
  [none, some (.ow true []), none, none, none, none, none, some (.sh (.int (.ofNat 3))), none, none, none, some (.sh (.int (.ofNat 2))), none, none, none, none, none, none, none, none, none],
  [none, some (.ow true []), none, none, none, none, none, some (.sh (.int (.ofNat 4))), none, none, none, some (.sh (.int (.ofNat 2))), none, none, none, none, none, none, none, none, none],
  [none, some (.ow true []), none, none, none, none, none, some (.sh (.int (.ofNat 0))), none, none, none, some (.sh (.int (.ofNat 3))), none, none, none, none, none, none, none, none, none],
  [none, some (.ow true []), none, none, none, none, none, some (.sh (.int (.ofNat 1))), none, none, none, some (.sh (.int (.ofNat 3))), none, none, none, none, none, none, none, none, none],
  [none, some (.ow true []), none, none, none, none, none, some (.sh (.int (.ofNat 2))), none, none, none, some (.sh (.int (.ofNat 3))), none, none, none, none, none, none, none, none, none],
  [none, some (.ow true []), none, none, none, none, none, some (.sh (.int (.ofNat 3))), none, none, none, some (.sh (.int (.ofNat 3))), none, none, none, none, none, none, none, none, none]]
def S12_1 : List LEnv := [[none, some (.ow true []), none, none, none, none, none, some (.sh (.int (.ofNat 4))), none, none, none, some (.sh (.int (.ofNat 3))), none, none, none, none, none, none, none, none, none],
  [none, some (.ow true []), none, none, none, none, none, some (.sh (.int (.ofNat 0))), none, none, none, some (.sh (.int (.ofNat 4))), none, none, none, none, none, none, none, none, none],
  [none, some (.ow true []), none, none, none, none, none, some (.sh (.int (.ofNat 1))), none, none, none, some (.sh (.int (.ofNat 4))), none, none, none, none, none, none, none, none, none],
  [none, some (.ow true []), none, none, none, none, none, some (.sh (.int (.ofNat 2))), none, none, none, some (.sh (.int (.ofNat 4))), none, none, none, none, none, none, none, none, none]]
def S12_2 : List LEnv := [[none, some (.ow true []), none, none, none, none, none, some (.sh (.int (.ofNat 3))), none, none, none, some (.sh (.int (.ofNat 4))), none, none, none, none, none, none, none, none, none]]
def S12_3 : List LEnv := [[none, some (.ow true []), none, none, none, none, none, some (.sh (.int (.ofNat 4))), none, none, none, some (.sh (.int (.ofNat 4))), none, none, none, none, none, none, none, none, none]]
def S12_4 : List LEnv := [[none, some (.ow true []), none, none, none, none, none, some (.sh (.int (.ofNat 0))), none, none, none, some (.sh (.int (.ofNat 5))), none, none, none, none, none, none, none, none, none],
  [none, some (.ow true []), none, none, none, none, none, some (.sh (.int (.ofNat 1))), none, none, none, some (.sh (.int (.ofNat 5))), none, none, none, none, none, none, none, none, none],
  [none, some (.ow true []), none, none, none, none, none, some (.sh (.int (.ofNat 2))), none, none, none, some (.sh (.int (.ofNat 5))), none, none, none, none, none, none, none, none, none]]
def S12_5 : List LEnv := [[none, some (.ow true []), none, none, none, none, none, some (.sh (.int (.ofNat 3))), none, none, none, some (.sh (.int (.ofNat 5))), none, none, none, none, none, none, none, none, none]]
def S12_6 : List LEnv := [[none, some (.ow true []), none, none, none, none, none, some (.sh (.int (.ofNat 4))), none, none, none, some (.sh (.int (.ofNat 5))), none, none, none, none, none, none, none, none, none]]
def S12 : List LEnv := S12_0 ++ (S12_1 ++ (S12_2 ++ (S12_3 ++ (S12_4 ++ (S12_5 ++ (S12_6))))))
def P12_0 : List (List (Path × Nat)) := [[([], 0)],
  [([], 1)],
  [([], 2)],
  [([], 3)],
  [([], 4)],
  [([], 5)],
  [([], 6)],
  [([], 7)],
  [([], 8)],
  [([], 9)],
  [([], 10)],
  [([], 11)],
  [([], 12)],
  [([], 13)],
  [([], 14)],
  [([], 15)],
  [([], 16)],
  [([], 17)],
  [([], 18)]]
def P12_1 : List (List (Path × Nat)) := [[([], 19)],
  [([], 20)],
  [([], 21)],
  [([], 22)]]
def P12_2 : List (List (Path × Nat)) := [[([], 23)]]
def P12_3 : List (List (Path × Nat)) := [[([], 24)]]
def P12_4 : List (List (Path × Nat)) := [[([], 25)],
  [([], 26)],
  [([], 27)]]
def P12_5 : List (List (Path × Nat)) := [[([], 28)]]
def P12_6 : List (List (Path × Nat)) := [[([], 29)]]
def c13_0 : MT := (mtB (mOp iNe (mCall 2 r_parts_of (maCons (mVar 11) (maCons (mVar 7) maNil))) (mCa cLenA (maCons (mVar 8) maNil))))
def c13_0o : MT := (mtB (mOp iNe (mCall 2 r_parts_of (maCons (mVar 11) (maCons (mVar 7) maNil))) (mCa cLenA (maCons (mVar 8) maNil))))
def Q13_0_0 : List LEnv := [[none, some (.ow true []), none, none, none, none, none, some (.sh (.int (.ofNat 0))), some (.sh (.list [.tuple []])), none, none, some (.sh (.int (.ofNat 0))), none, none, none, none, none, none, none, none, none],
  [none, some (.ow true []), none, none, none, none, none, some (.sh (.int (.ofNat 1))), some (.sh (.list [.tuple []])), none, none, some (.sh (.int (.ofNat 0))), none, none, none, none, none, none, none, none, none],
  [none, some (.ow true []), none, none, none, none, none, some (.sh (.int (.ofNat 2))), some (.sh (.list [.tuple []])), none, none, some (.sh (.int (.ofNat 0))), none, none, none, none, none, none, none, none, none],
  [none, some (.ow true []), none, none, none, none, none, some (.sh (.int (.ofNat 3))), some (.sh (.list [.tuple []])), none, none, some (.sh (.int (.ofNat 0))), none, none, none, none, none, none, none, none, none],
  [none, some (.ow true []), none, none, none, none, none, some (.sh (.int (.ofNat 4))), some (.sh (.list [.tuple []])), none, none, some (.sh (.int (.ofNat 0))), none, none, none, none, none, none, none, none, none],
  [none, some (.ow true []), none, none, none, none, none, some (.sh (.int (.ofNat 0))), some (.sh (.list [])), none, none, some (.sh (.int (.ofNat 1))), none, none, none, none, none, none, none, none, none],
  [none, some (.ow true []), none, none, none, none, none, some (.sh (.int (.ofNat 1))), some (.sh (.list [.tuple [.int (.ofNat 1)]])), none, none, some (.sh (.int (.ofNat 1))), none, none, none, none, none, none, none, none, none],
  [none, some (.ow true []), none, none, none, none, none, some (.sh (.int (.ofNat 2))), some (.sh (.list [.tuple [.int (.ofNat 1)]])), none, none, some (.sh (.int (.ofNat 1))), none, none, none, none, none, none, none, none, none],
  [none, some (.ow true []), none, none, none, none, none, some (.sh (.int (.ofNat 3))), some (.sh (.list [.tuple [.int (.ofNat 1)]])), none, none, some (.sh (.int (.ofNat 1))), none, none, none, none, none, none, none, none, none],
  [none, some (.ow true []), none, none, none, none, none, some (.sh (.int (.ofNat 4))), some (.sh (.list [.tuple [.int (.ofNat 1)]])), none, none, some (.sh (.int (.ofNat 1))), none, none, none, none, none, none, none, none, none],
  [none, some (.ow true []), none, none, none, none, none, some (.sh (.int (.ofNat 0))), some (.sh (.list [])), none, none, some (.sh (.int (.ofNat 2))), none, none, none, none, none, none, none, none, none],
  [none, some (.ow true []), none, none, none, none, none, some (.sh (.int (.ofNat 1))), some (.sh (.list [.tuple [.int (.ofNat 1), .int (.ofNat 1)]])), none, none, some (.sh (.int (.ofNat 2))), none, none, none, none, none, none, none, none, none],
  [none, some (.ow true []), none, none, none, none, none, some (.sh (.int (.ofNat 2))), some (.sh (v1424)), none, none, some (.sh (.int (.ofNat 2))), none, none, none, none, none, none, none, none, none],
  [none, some (.ow true []), none, none, none, none, none, some (.sh (.int (.ofNat 3))), some (.sh (v1424)), none, none, some (.sh (.int (.ofNat 2))), none, none, none, none, none, none, none, none, none],
  [none, some (.ow true []), none, none, none, none, none, some (.sh (.int (.ofNat 4))), some (.sh (v1424)), none, none, some (.sh (.int (.ofNat 2))), none, none, none, none, none, none, none, none, none],
  [none, some (.ow true []), none, none, none, none, none, some (.sh (.int (.ofNat 0))), some (.sh (.list [])), none, none, some (.sh (.int (.ofNat 3))), none, none, none, none, none, none, none, none, none]]
def Q13_0_1 : List LEnv := [[none, some (.ow true []), none, none, none, none, none, some (.sh (.int (.ofNat 1))), some (.sh (v1425)), none, none, some (.sh (.int (.ofNat 3))), none, none, none, none, none, none, none, none, none],
  [none, some (.ow true []), none, none, none, none, none, some (.sh (.int (.ofNat 2))), some (.sh (v1426)), none, none, some (.sh (.int (.ofNat 3))), none, none, none, none, none, none, none, none, none],
  [none, some (.ow true []), none, none, none, none, none, some (.sh (.int (.ofNat 3))), some (.sh (v1427)), none, none, some (.sh (.int (.ofNat 3))), none, none, none, none, none, none, none, none, none],
  [none, some (.ow true []), none, none, none, none, none, some (.sh (.int (.ofNat 4))), some (.sh (v1427)), none, none, some (.sh (.int (.ofNat 3))), none, none, none, none, none, none, none, none, none],
  [none, some (.ow true []), none, none, none, none, none, some (.sh (.int (.ofNat 0))), some (.sh (.list [])), none, none, some (.sh (.int (.ofNat 4))), none, none, none, none, none, none, none, none, none],
  [none, some (.ow true []), none, none, none, none, none, some (.sh (.int (.ofNat 1))), some (.sh (.list [v169])), none, none, some (.sh (.int (.ofNat 4))), none, none, none, none, none, none, none, none, none],
  [none, some (.ow true []), none, none, none, none, none, some (.sh (.int (.ofNat 2))), some (.sh (.list [v169, v221, v227])), none, none, some (.sh (.int (.ofNat 4))), none, none, none, none, none, none, none, none, none],
  [none, some (.ow true []), none, none, none, none, none, some (.sh (.int (.ofNat 3))), some (.sh (.list [v169, v221, v227, v343])), none, none, some (.sh (.int (.ofNat 4))), none, none, none, none, none, none, none, none, none]]
def Q13_0_2 : List LEnv := [[none, some (.ow true []), none, none, none, none, none, some (.sh (.int (.ofNat 4))), some (.sh (.list [v169, v221, v227, v343, v1428])), none, none, some (.sh (.int (.ofNat 4))), none, none, none, none, none, none, none, none, none],
  [none, some (.ow true []), none, none, none, none, none, some (.sh (.int (.ofNat 0))), some (.sh (.list [])), none, none, some (.sh (.int (.ofNat 5))), none, none, none, none, none, none, none, none, none],
  [none, some (.ow true []), none, none, none, none, none, some (.sh (.int (.ofNat 1))), some (.sh (.list [v419])), none, none, some (.sh (.int (.ofNat 5))), none, none, none, none, none, none, none, none, none],
  [none, some (.ow true []), none, none, none, none, none, some (.sh (.int (.ofNat 2))), some (.sh (.list [v419, v589, v613])), none, none, some (.sh (.int (.ofNat 5))), none, none, none, none, none, none, none, none, none],
  [none, some (.ow true []), none, none, none, none, none, some (.sh (.int (.ofNat 3))), some (.sh (.list [v419, v589, v613, v1237, v1285])), none, none, some (.sh (.int (.ofNat 5))), none, none, none, none, none, none, none, none, none]]
def Q13_0_3 : List LEnv := [[none, some (.ow true []), none, none, none, none, none, some (.sh (.int (.ofNat 4))), some (.sh (.list [v419, v589, v613, v1237, v1285, v1429])), none, none, some (.sh (.int (.ofNat 5))), none, none, none, none, none, none, none, none, none]]
def Q13_0 : List LEnv := Q13_0_0 ++ (Q13_0_1 ++ (Q13_0_2 ++ (Q13_0_3)))
def s13 : MS := mIfS (c13_0) (mRet (mC (.bool false))) mNext
def S13_0 : List LEnv := [[none, some (.ow true []), none, none, none, none, none, some (.sh (.int (.ofNat 0))), some (.sh (.list [.tuple []])), none, none, some (.sh (.int (.ofNat 0))), none, none, none, none, none, none, none, none, none],
  [none, some (.ow true []), none, none, none, none, none, some (.sh (.int (.ofNat 1))), some (.sh (.list [.tuple []])), none, none, some (.sh (.int (.ofNat 0))), none, none, none, none, none, none, none, none, none],
  [none, some (.ow true []), none, none, none, none, none, some (.sh (.int (.ofNat 2))), some (.sh (.list [.tuple []])), none, none, some (.sh (.int (.ofNat 0))), none, none, none, none, none, none, none, none, none],
  [none, some (.ow true []), none, none, none, none, none, some (.sh (.int (.ofNat 3))), some (.sh (.list [.tuple []])), none, none, some (.sh (.int (.ofNat 0))), none, none, none, none, none, none, none, none, none],
  [none, some (.ow true []), none, none, none, none, none, some (.sh (.int (.ofNat 4))), some (.sh (.list [.tuple []])), none, none, some (.sh (.int (.ofNat 0))), none, none, none, none, none, none, none, none, none],
  [none, some (.ow true []), none, none, none, none, none, some (.sh (.int (.ofNat 0))), some (.sh (.list [])), none, none, some (.sh (.int (.ofNat 1))), none, none, none, none, none, none, none, none, none],
  [none, some (.ow true []), none, none, none, none, none, some (.sh (.int (.ofNat 1))), some (.sh (.list [.tuple [.int (.ofNat 1)]])), none, none, some (.sh (.int (.ofNat 1))), none, none, none, none, none, none, none, none, none],
  [none, some (.ow true []), none, none, none, none, none, some (.sh (.int (.ofNat 2))), some (.sh (.list [.tuple [.int (.ofNat 1)]])), none, none, some (.sh (.int (.ofNat 1))), none, none, none, none, none, none, none, none, none],
  [none, some (.ow true []), none, none, none, none, none, some (.sh (.int (.ofNat 3))), some (.sh (.list [.tuple [.int (.ofNat 1)]])), none, none, some (.sh (.int (.ofNat 1))), none, none, none, none, none, none, none, none, none],
  [none, some (.ow true []), none, none, none, none, none, some (.sh (.int (.ofNat 4))), some (.sh (.list [.tuple [.int (.ofNat 1)]])), none, none, some (.sh (.int (.ofNat 1))), none, none, none, none, none, none, none, none, none],
  [none, some (.ow true []), none, none, none, none, none, some (.sh (.int (.ofNat 0))), some (.sh (.list [])), none, none, some (.sh (.int (.ofNat 2))), none, none, none, none, none, none, none, none, none],
  [none, some (.ow true []), none, none, none, none, none, some (.sh (.int (.ofNat 1))), some (.sh (.list [.tuple [.int (.ofNat 1), .int (.ofNat 1)]])), none, none, some (.sh (.int (.ofNat 2))), none, none, none, none, none, none, none, none, none],
  [none, some (.ow true []), none, none, none, none, none, some (.sh (.int (.ofNat 2))), some (.sh (v1424)), none, none, some (.sh (.int (.ofNat 2))), none, none, none, none, none, none, none, none, none],
  [none, some (.ow true []), none, none, none, none, none, some (.sh (.int (.ofNat 3))), some (.sh (v1424)), none, none, some (.sh (.int (.ofNat 2))), none, none, none, none, none, none, none, none, none],
  [none, some (.ow true []), none, none, none, none, none, some (.sh (.int (.ofNat 4))), some (.sh (v1424)), none, none, some (.sh (.int (.ofNat 2))), none, none, none, none, none, none, none, none, none],
  [none, some (.ow true []), none, none, none, none, none, some (.sh (.int (.ofNat 0))), some (.sh (.list [])), none, none, some (.sh (.int (.ofNat 3))), none, none, none, none, none, none, none, none, none],
  [none, some (.ow true []), none, none, none, none, none, some (.sh (.int (.ofNat 1))), some (.sh (v1425)), none, none, some (.sh (.int (.ofNat 3))), none, none, none, none, none, none, none, none, none],
  [none, some (.ow true []), none, none, none, none, none, some (.sh (.int (.ofNat 2))), some (.sh (v1426)), none, none, some (.sh (.int (.ofNat 3))), none, none, none, none, none, none, none, none, none],
  [none, some (.ow true []), none, none, none, none, none, some (.sh (.int (.ofNat 3))), some (.sh (v1427)), none, none, some (.sh (.int (.ofNat 3))), none, none, none, none, none, none, none, none, none],
  [none, some (.ow true []), none, none, none, none, none, some (.sh (.int (.ofNat 4))), some (.sh (v1427)), none, none, some (.sh (.int (.ofNat 3))), none, none, none, none, none, none, none, none, none],
  [none, some (.ow true []), none, none, none, none, none, some (.sh (.int (.ofNat 0))), some (.sh (.list [])), none, none, some (.sh (.int (.ofNat 4))), none, none, none, none, none, none, none, none, none],
  [none, some (.ow true []), none, none, none, none, none, some (.sh (.int (.ofNat 1))), some (.sh (.list [v169])), none, none, some (.sh (.int (.ofNat 4))), none, none, none, none, none, none, none, none, none],
  [none, some (.ow true []), none, none, none, none, none, some (.sh (.int (.ofNat 2))), some (.sh (.list [v169, v221, v227])), none, none, some (.sh (.int (.ofNat 4))), none, none, none, none, none, none, none, none, none],
  [none, some (.ow true []), none, none, none, none, none, some (.sh (.int (.ofNat 3))), some (.sh (.list [v169, v221, v227, v343])), none, none, some (.sh (.int (.ofNat 4))), none, none, none, none, none, none, none, none, none],
  [none, some (.ow true []), none, none, none, none, none, some (.sh (.int (.ofNat 4))), some (.sh (.list [v169, v221, v227, v343, v1428])), none, none, some (.sh (.int (.ofNat 4))), none, none, none, none, none, none, none, none, none],
  [none, some (.ow true []), none, none, none, none, none, some (.sh (.int (.ofNat 0))), some (.sh (.list [])), none, none, some (.sh (.int (.ofNat 5))), none, none, none, none, none, none, none, none, none],
  [none, some (.ow true []), none, none, none, none, none, some (.sh (.int (.ofNat 1))), some (.sh (.list [v419])), none, none, some (.sh (.int (.ofNat 5))), none, none, none, none, none, none, none, none, none],
  [none, some (.ow true []), none, none, none, none, none, some (.sh (.int (.ofNat 2))), some (.sh (.list [v419, v589, v613])), none, none, some (.sh (.int (.ofNat 5))), none, none, none, none, none, none, none, none, none],
  [none, some (.ow true []), none, none, none, none, none, some (.sh (.int (.ofNat 3))), some (.sh (.list [v419, v589, v613, v1237, v1285])), none, none, some (.sh (.int (.ofNat 5))), none, none, none, none, none, none, none, none, none],
  [none, some (.ow true []), none, none, none, none, none, some (.sh (.int (.ofNat 4))), some (.sh (.list [v419, v589, v613, v1237, v1285, v1429])), none, none, some (.sh (.int (.ofNat 5))), none, none, none, none, none, none, none, none, none]]
def S13 : List LEnv := S13_0
def s14 : MS := (mAsg (bName 9) (mComp [16] (miR rg1 (maCons (mCallM 1 r_law_roll 1 (maCons (mC (.int 3)) maNil)) maNil)) (bName 16) mtYes (mCallM 1 r_law_roll 1 (maCons (mC (.int 3)) maNil))))
def s14o : MS := (mAsg (bName 9) (mComp [16] (miR rg1 (maCons (mCallM 1 orc 1 (maCons (mC (.int 3)) maNil)) maNil)) (bName 16) mtYes (mCallM 1 orc 1 (maCons (mC (.int 3)) maNil))))
def S14_0 : List LEnv := [[none, some (.ow true []), none, none, none, none, none, none, none, none, none, none, none, none, none, none, none, none, none, none, none]]
def S14 : List LEnv := S14_0
def P14_0 : List (List (Path × Nat)) := [[([(3, 0)], 0), ([(3, 1), (3, 0)], 1), ([(3, 1), (3, 1)], 2), ([(3, 1), (3, 2)], 3), ([(3, 2), (3, 0), (3, 0)], 4), ([(3, 2), (3, 0), (3, 1)], 5), ([(3, 2), (3, 0), (3, 2)], 6), ([(3, 2), (3, 1), (3, 0)], 7), ([(3, 2), (3, 1), (3, 1)], 8), ([(3, 2), (3, 1), (3, 2)], 9), ([(3, 2), (3, 2), (3, 0)], 10), ([(3, 2), (3, 2), (3, 1)], 11), ([(3, 2), (3, 2), (3, 2)], 12)]]
def c15_0 : MT := (mtB (mOp iNe (mCall 1 r_split_ways (maCons (mVar 9) maNil)) (mCa cLenA (maCons (mComp [15] (miSeq (mCall 2 r_law_all (maCons (mLiR1 (mCa cLenA (maCons (mVar 9) maNil))) (maCons (mCa cSum2 (maCons (mVar 9) maNil)) maNil)))) (bName 15) (mtB (mOp iEq (mComp [16] (miR rg1 (maCons (mCa cLenA (maCons (mVar 9) maNil)) maNil)) (bName 16) mtYes (mCntT (mVar 15) (mVar 16))) (mVar 9))) (mVar 15)) maNil))))
def c15_0o : MT := (mtB (mOp iNe (mCall 1 r_split_ways (maCons (mVar 9) maNil)) (mCa cLenA (maCons (mComp [15] (miSeq (mCall 2 q_law_all (maCons (mLiR1 (mCa cLenA (maCons (mVar 9) maNil))) (maCons (mCa cSum2 (maCons (mVar 9) maNil)) maNil)))) (bName 15) (mtB (mOp iEq (mComp [16] (miR rg1 (maCons (mCa cLenA (maCons (mVar 9) maNil)) maNil)) (bName 16) mtYes (mCntT (mVar 15) (mVar 16))) (mVar 9))) (mVar 15)) maNil))))
def Q15_0_0 : List LEnv := [[none, some (.ow true []), none, none, none, none, none, none, none, some (.sh (.list [])), none, none, none, none, none, none, none, none, none, none, none],
  [none, some (.ow true []), none, none, none, none, none, none, none, some (.sh (.list [.int (.ofNat 0)])), none, none, none, none, none, none, none, none, none, none, none],
  [none, some (.ow true []), none, none, none, none, none, none, none, some (.sh (.list [.int (.ofNat 1)])), none, none, none, none, none, none, none, none, none, none, none],
  [none, some (.ow true []), none, none, none, none, none, none, none, some (.sh (.list [.int (.ofNat 2)])), none, none, none, none, none, none, none, none, none, none, none],
  [none, some (.ow true []), none, none, none, none, none, none, none, some (.sh (.list [.int (.ofNat 0), .int (.ofNat 0)])), none, none, none, none, none, none, none, none, none, none, none],
  [none, some (.ow true []), none, none, none, none, none, none, none, some (.sh (.list [.int (.ofNat 0), .int (.ofNat 1)])), none, none, none, none, none, none, none, none, none, none, none],
  [none, some (.ow true []), none, none, none, none, none, none, none, some (.sh (.list [.int (.ofNat 0), .int (.ofNat 2)])), none, none, none, none, none, none, none, none, none, none, none],
  [none, some (.ow true []), none, none, none, none, none, none, none, some (.sh (.list [.int (.ofNat 1), .int (.ofNat 0)])), none, none, none, none, none, none, none, none, none, none, none],
  [none, some (.ow true []), none, none, none, none, none, none, none, some (.sh (.list [.int (.ofNat 1), .int (.ofNat 1)])), none, none, none, none, none, none, none, none, none, none, none],
  [none, some (.ow true []), none, none, none, none, none, none, none, some (.sh (.list [.int (.ofNat 1), .int (.ofNat 2)])), none, none, none, none, none, none, none, none, none, none, none],
  [none, some (.ow true []), none, none, none, none, none, none, none, some (.sh (.list [.int (.ofNat 2), .int (.ofNat 0)])), none, none, none, none, none, none, none, none, none, none, none],
  [none, some (.ow true []), none, none, none, none, none, none, none, some (.sh (.list [.int (.ofNat 2), .int (.ofNat 1)])), none, none, none, none, none, none, none, none, none, none, none],
  [none, some (.ow true []), none, none, none, none, none, none, none, some (.sh (.list [.int (.ofNat 2), .int (.ofNat 2)])), none, none, none, none, none, none, none, none, none, none, none]]
def Q15_0 : List LEnv := Q15_0_0
def s15 : MS := mIfS (c15_0) (mRet (mC (.bool false))) mNext
def S15_0 : List LEnv := [[none, some (.ow true []), none, none, none, none, none, none, none, some (.sh (.list [])), none, none, none, none, none, none, none, none, none, none, none],
  [none, some (.ow true []), none, none, none, none, none, none, none, some (.sh (.list [.int (.ofNat 0)])), none, none, none, none, none, none, none, none, none, none, none],
  [none, some (.ow true []), none, none, none, none, none, none, none, some (.sh (.list [.int (.ofNat 1)])), none, none, none, none, none, none, none, none, none, none, none],
  [none, some (.ow true []), none, none, none, none, none, none, none, some (.sh (.list [.int (.ofNat 2)])), none, none, none, none, none, none, none, none, none, none, none],
  [none, some (.ow true []), none, none, none, none, none, none, none, some (.sh (.list [.int (.ofNat 0), .int (.ofNat 0)])), none, none, none, none, none, none, none, none, none, none, none],
  [none, some (.ow true []), none, none, none, none, none, none, none, some (.sh (.list [.int (.ofNat 0), .int (.ofNat 1)])), none, none, none, none, none, none, none, none, none, none, none],
  [none, some (.ow true []), none, none, none, none, none, none, none, some (.sh (.list [.int (.ofNat 0), .int (.ofNat 2)])), none, none, none, none, none, none, none, none, none, none, none],
  [none, some (.ow true []), none, none, none, none, none, none, none, some (.sh (.list [.int (.ofNat 1), .int (.ofNat 0)])), none, none, none, none, none, none, none, none, none, none, none],
  [none, some (.ow true []), none, none, none, none, none, none, none, some (.sh (.list [.int (.ofNat 1), .int (.ofNat 1)])), none, none, none, none, none, none, none, none, none, none, none],
  [none, some (.ow true []), none, none, none, none, none, none, none, some (.sh (.list [.int (.ofNat 1), .int (.ofNat 2)])), none, none, none, none, none, none, none, none, none, none, none],
  [none, some (.ow true []), none, none, none, none, none, none, none, some (.sh (.list [.int (.ofNat 2), .int (.ofNat 0)])), none, none, none, none, none, none, none, none, none, none, none],
  [none, some (.ow true []), none, none, none, none, none, none, none, some (.sh (.list [.int (.ofNat 2), .int (.ofNat 1)])), none, none, none, none, none, none, none, none, none, none, none],
  [none, some (.ow true []), none, none, none, none, none, none, none, some (.sh (.list [.int (.ofNat 2), .int (.ofNat 2)])), none, none, none, none, none, none, none, none, none, none, none]]
def S15 : List LEnv := S15_0
def s16 : MS := (mAsg (bTup 2 (bCons (bName 13) (bCons (bName 14) bNil))) (mTup (maCons (mCallM 1 r_law_roll 1 (maCons (mC (.int 5)) maNil)) (maCons (mCallM 1 r_law_roll 1 (maCons (mC (.int 4)) maNil)) maNil))))
def s16o : MS := (mAsg (bTup 2 (bCons (bName 13) (bCons (bName 14) bNil))) (mTup (maCons (mCallM 1 orc 1 (maCons (mC (.int 5)) maNil)) (maCons (mCallM 1 orc 1 (maCons (mC (.int 4)) maNil)) maNil))))
def S16_0 : List LEnv := [[none, some (.ow true []), none, none, none, none, none, none, none, none, none, none, none, none, none, none, none, none, none, none, none]]
def S16 : List LEnv := S16_0
def P16_0 : List (List (Path × Nat)) := [[([(5, 0), (4, 0)], 0), ([(5, 0), (4, 1)], 1), ([(5, 0), (4, 2)], 2), ([(5, 0), (4, 3)], 3), ([(5, 1), (4, 0)], 4), ([(5, 1), (4, 1)], 5), ([(5, 1), (4, 2)], 6), ([(5, 1), (4, 3)], 7), ([(5, 2), (4, 0)], 8), ([(5, 2), (4, 1)], 9), ([(5, 2), (4, 2)], 10), ([(5, 2), (4, 3)], 11), ([(5, 3), (4, 0)], 12), ([(5, 3), (4, 1)], 13), ([(5, 3), (4, 2)], 14), ([(5, 3), (4, 3)], 15), ([(5, 4), (4, 0)], 16), ([(5, 4), (4, 1)], 17), ([(5, 4), (4, 2)], 18), ([(5, 4), (4, 3)], 19)]]
def s17 : MS := (mAsg (bName 10) (mComp [15] (miSeq (mCall 2 r_law_all (maCons (mLst (maCons (mC (.int 1)) (maCons (mOp iSub (mC (.int 0)) (mC (.int 1))) maNil))) (maCons (mOp iAddA (mVar 13) (mVar 14)) maNil)))) (bName 15) (mtB (mOp iEq (mCntT (mVar 15) (mC (.int 1))) (mVar 13))) (mVar 15)))
def s17o : MS := (mAsg (bName 10) (mComp [15] (miSeq (mCall 2 q_law_all (maCons (mLst (maCons (mC (.int 1)) (maCons (mOp iSub (mC (.int 0)) (mC (.int 1))) maNil))) (maCons (mOp iAddA (mVar 13) (mVar 14)) maNil)))) (bName 15) (mtB (mOp iEq (mCntT (mVar 15) (mC (.int 1))) (mVar 13))) (mVar 15)))
def S17_0 : List LEnv := [[none, some (.ow true []), none, none, none, none, none, none, none, none, none, none, none, some (.sh (.int (.ofNat 0))), some (.sh (.int (.ofNat 0))), none, none, none, none, none, none],
  [none, some (.ow true []), none, none, none, none, none, none, none, none, none, none, none, some (.sh (.int (.ofNat 0))), some (.sh (.int (.ofNat 1))), none, none, none, none, none, none],
  [none, some (.ow true []), none, none, none, none, none, none, none, none, none, none, none, some (.sh (.int (.ofNat 0))), some (.sh (.int (.ofNat 2))), none, none, none, none, none, none],
  [none, some (.ow true []), none, none, none, none, none, none, none, none, none, none, none, some (.sh (.int (.ofNat 0))), some (.sh (.int (.ofNat 3))), none, none, none, none, none, none],
  [none, some (.ow true []), none, none, none, none, none, none, none, none, none, none, none, some (.sh (.int (.ofNat 1))), some (.sh (.int (.ofNat 0))), none, none, none, none, none, none],
  [none, some (.ow true []), none, none, none, none, none, none, none, none, none, none, none, some (.sh (.int (.ofNat 1))), some (.sh (.int (.ofNat 1))), none, none, none, none, none, none],
  [none, some (.ow true []), none, none, none, none, none, none, none, none, none, none, none, some (.sh (.int (.ofNat 1))), some (.sh (.int (.ofNat 2))), none, none, none, none, none, none],
  [none, some (.ow true []), none, none, none, none, none, none, none, none, none, none, none, some (.sh (.int (.ofNat 1))), some (.sh (.int (.ofNat 3))), none, none, none, none, none, none],
  [none, some (.ow true []), none, none, none, none, none, none, none, none, none, none, none, some (.sh (.int (.ofNat 2))), some (.sh (.int (.ofNat 0))), none, none, none, none, none, none],
  [none, some (.ow true []), none, none, none, none, none, none, none, none, none, none, none, some (.sh (.int (.ofNat 2))), some (.sh (.int (.ofNat 1))), none, none, none, none, none, none],
  [none, some (.ow true []), none, none, none, none, none, none, none, none, none, none, none, some (.sh (.int (.ofNat 2))), some (.sh (.int (.ofNat 2))), none, none, none, none, none, none],
  [none, some (.ow true []), none, none, none, none, none, none, none, none, none, none, none, some (.sh (.int (.ofNat 2))), some (.sh (.int (.ofNat 3))), none, none, none, none, none, none],
  [none, some (.ow true []), none, none, none, none, none, none, none, none, none, none, none, some (.sh (.int (.ofNat 3))), some (.sh (.int (.ofNat 0))), none, none, none, none, none, none],
  [none, some (.ow true []), none, none, none, none, none, none, none, none, none, none, none, some (.sh (.int (.ofNat 3))), some (.sh (.int (.ofNat 1))), none, none, none, none, none, none]]
def S17_1 : List LEnv := [[none, some (.ow true []), none, none, none, none, none, none, none, none, none, none, none, some (.sh (.int (.ofNat 3))), some (.sh (.int (.ofNat 2))), none, none, none, none, none, none],
  [none, some (.ow true []), none, none, none, none, none, none, none, none, none, none, none, some (.sh (.int (.ofNat 3))), some (.sh (.int (.ofNat 3))), none, none, none, none, none, none],
  [none, some (.ow true []), none, none, none, none, none, none, none, none, none, none, none, some (.sh (.int (.ofNat 4))), some (.sh (.int (.ofNat 0))), none, none, none, none, none, none],
  [none, some (.ow true []), none, none, none, none, none, none, none, none, none, none, none, some (.sh (.int (.ofNat 4))), some (.sh (.int (.ofNat 1))), none, none, none, none, none, none],
  [none, some (.ow true []), none, none, none, none, none, none, none, none, none, none, none, some (.sh (.int (.ofNat 4))), some (.sh (.int (.ofNat 2))), none, none, none, none, none, none]]
def S17_2 : List LEnv := [[none, some (.ow true []), none, none, none, none, none, none, none, none, none, none, none, some (.sh (.int (.ofNat 4))), some (.sh (.int (.ofNat 3))), none, none, none, none, none, none]]
def S17 : List LEnv := S17_0 ++ (S17_1 ++ (S17_2))
def P17_0 : List (List (Path × Nat)) := [[([], 0)],
  [([], 1)],
  [([], 2)],
  [([], 3)],
  [([], 4)],
  [([], 5)],
  [([], 6)],
  [([], 7)],
  [([], 8)],
  [([], 9)],
  [([], 10)],
  [([], 11)],
  [([], 12)],
  [([], 13)]]
def P17_1 : List (List (Path × Nat)) := [[([], 14)],
  [([], 15)],
  [([], 16)],
  [([], 17)],
  [([], 18)]]
def P17_2 : List (List (Path × Nat)) := [[([], 19)]]
def c18_0 : MT := (mtB (mOp iNe (mCall 2 r_ahead_ways (maCons (mVar 13) (maCons (mVar 14) maNil))) (mCa cLenA (maCons (mComp [15] (miSeq (mVar 10)) (bName 15) (mtB (mOp iEq (mComp [16] (miR rg2 (maCons (mC (.int 1)) (maCons (mOp iAddA (mOp iAddA (mVar 13) (mVar 14)) (mC (.int 1))) maNil))) (bName 16) (mtB (mOp (iCmp fun i j => decide (i ≤ j)) (mCa cSum2 (maCons (mSl (mVar 15) mNoPart (mPart (mVar 16))) maNil)) (mC (.int 0)))) (mVar 16)) (mLst maNil))) (mVar 15)) maNil))))
def c18_0o : MT := (mtB (mOp iNe (mCall 2 r_ahead_ways (maCons (mVar 13) (maCons (mVar 14) maNil))) (mCa cLenA (maCons (mComp [15] (miSeq (mVar 10)) (bName 15) (mtB (mOp iEq (mComp [16] (miR rg2 (maCons (mC (.int 1)) (maCons (mOp iAddA (mOp iAddA (mVar 13) (mVar 14)) (mC (.int 1))) maNil))) (bName 16) (mtB (mOp (iCmp fun i j => decide (i ≤ j)) (mCa cSum2 (maCons (mSl (mVar 15) mNoPart (mPart (mVar 16))) maNil)) (mC (.int 0)))) (mVar 16)) (mLst maNil))) (mVar 15)) maNil))))
def Q18_0_0 : List LEnv := [[none, some (.ow true []), none, none, none, none, none, none, none, none, some (.sh (.list [.tuple []])), none, none, some (.sh (.int (.ofNat 0))), some (.sh (.int (.ofNat 0))), none, none, none, none, none, none],
  [none, some (.ow true []), none, none, none, none, none, none, none, none, some (.sh (.list [.tuple [.int (.negSucc 0)]])), none, none, some (.sh (.int (.ofNat 0))), some (.sh (.int (.ofNat 1))), none, none, none, none, none, none],
  [none, some (.ow true []), none, none, none, none, none, none, none, none, some (.sh (.list [.tuple [.int (.negSucc 0), .int (.negSucc 0)]])), none, none, some (.sh (.int (.ofNat 0))), some (.sh (.int (.ofNat 2))), none, none, none, none, none, none],
  [none, some (.ow true []), none, none, none, none, none, none, none, none, some (.sh (.list [v1430])), none, none, some (.sh (.int (.ofNat 0))), some (.sh (.int (.ofNat 3))), none, none, none, none, none, none],
  [none, some (.ow true []), none, none, none, none, none, none, none, none, some (.sh (.list [.tuple [.int (.ofNat 1)]])), none, none, some (.sh (.int (.ofNat 1))), some (.sh (.int (.ofNat 0))), none, none, none, none, none, none],
  [none, some (.ow true []), none, none, none, none, none, none, none, none, some (.sh (v1431)), none, none, some (.sh (.int (.ofNat 1))), some (.sh (.int (.ofNat 1))), none, none, none, none, none, none],
  [none, some (.ow true []), none, none, none, none, none, none, none, none, some (.sh (.list [v1432, v1433, v1434])), none, none, some (.sh (.int (.ofNat 1))), some (.sh (.int (.ofNat 2))), none, none, none, none, none, none],
  [none, some (.ow true []), none, none, none, none, none, none, none, none, some (.sh (.list [v1435, v1436, v1437, v1438])), none, none, some (.sh (.int (.ofNat 1))), some (.sh (.int (.ofNat 3))), none, none, none, none, none, none],
  [none, some (.ow true []), none, none, none, none, none, none, none, none, some (.sh (.list [.tuple [.int (.ofNat 1), .int (.ofNat 1)]])), none, none, some (.sh (.int (.ofNat 2))), some (.sh (.int (.ofNat 0))), none, none, none, none, none, none]]
def Q18_0_1 : List LEnv := [[none, some (.ow true []), none, none, none, none, none, none, none, none, some (.sh (v1439)), none, none, some (.sh (.int (.ofNat 2))), some (.sh (.int (.ofNat 1))), none, none, none, none, none, none],
  [none, some (.ow true []), none, none, none, none, none, none, none, none, some (.sh (.list [v1440, v1441, v1442, v1443, v1444, v1445])), none, none, some (.sh (.int (.ofNat 2))), some (.sh (.int (.ofNat 2))), none, none, none, none, none, none]]
def Q18_0_2 : List LEnv := [[none, some (.ow true []), none, none, none, none, none, none, none, none, some (.sh (v1456)), none, none, some (.sh (.int (.ofNat 2))), some (.sh (.int (.ofNat 3))), none, none, none, none, none, none],
  [none, some (.ow true []), none, none, none, none, none, none, none, none, some (.sh (v1425)), none, none, some (.sh (.int (.ofNat 3))), some (.sh (.int (.ofNat 0))), none, none, none, none, none, none],
  [none, some (.ow true []), none, none, none, none, none, none, none, none, some (.sh (.list [v1457, v1458, v1459, v1460])), none, none, some (.sh (.int (.ofNat 3))), some (.sh (.int (.ofNat 1))), none, none, none, none, none, none]]
def Q18_0_3 : List LEnv := [[none, some (.ow true []), none, none, none, none, none, none, none, none, some (.sh (v1471)), none, none, some (.sh (.int (.ofNat 3))), some (.sh (.int (.ofNat 2))), none, none, none, none, none, none]]
def Q18_0_4 : List LEnv := [[none, some (.ow true []), none, none, none, none, none, none, none, none, some (.sh (v1492)), none, none, some (.sh (.int (.ofNat 3))), some (.sh (.int (.ofNat 3))), none, none, none, none, none, none]]
def Q18_0_5 : List LEnv := [[none, some (.ow true []), none, none, none, none, none, none, none, none, some (.sh (.list [v169])), none, none, some (.sh (.int (.ofNat 4))), some (.sh (.int (.ofNat 0))), none, none, none, none, none, none],
  [none, some (.ow true []), none, none, none, none, none, none, none, none, some (.sh (.list [v1493, v1494, v1495, v1496, v1497])), none, none, some (.sh (.int (.ofNat 4))), some (.sh (.int (.ofNat 1))), none, none, none, none, none, none]]
def Q18_0_6 : List LEnv := [[none, some (.ow true []), none, none, none, none, none, none, none, none, some (.sh (v1513)), none, none, some (.sh (.int (.ofNat 4))), some (.sh (.int (.ofNat 2))), none, none, none, none, none, none]]
def Q18_0_7 : List LEnv := [[none, some (.ow true []), none, none, none, none, none, none, none, none, some (.sh (.list (w1928 ++ w1929))), none, none, some (.sh (.int (.ofNat 4))), some (.sh (.int (.ofNat 3))), none, none, none, none, none, none]]
def Q18_0 : List LEnv := Q18_0_0 ++ (Q18_0_1 ++ (Q18_0_2 ++ (Q18_0_3 ++ (Q18_0_4 ++ (Q18_0_5 ++ (Q18_0_6 ++ (Q18_0_7)))))))
def s18 : MS := mIfS (c18_0) (mRet (mC (.bool false))) mNext
def S18_0 : List LEnv := [[none, some (.ow true []), none, none, none, none, none, none, none, none, some (.sh (.list [.tuple []])), none, none, some (.sh (.int (.ofNat 0))), some (.sh (.int (.ofNat 0))), none, none, none, none, none, none],
  [none, some (.ow true []), none, none, none, none, none, none, none, none, some (.sh (.list [.tuple [.int (.negSucc 0)]])), none, none, some (.sh (.int (.ofNat 0))), some (.sh (.int (.ofNat 1))), none, none, none, none, none, none],
  [none, some (.ow true []), none, none, none, none, none, none, none, none, some (.sh (.list [.tuple [.int (.negSucc 0), .int (.negSucc 0)]])), none, none, some (.sh (.int (.ofNat 0))), some (.sh (.int (.ofNat 2))), none, none, none, none, none, none],
  [none, some (.ow true []), none, none, none, none, none, none, none, none, some (.sh (.list [v1430])), none, none, some (.sh (.int (.ofNat 0))), some (.sh (.int (.ofNat 3))), none, none, none, none, none, none],
  [none, some (.ow true []), none, none, none, none, none, none, none, none, some (.sh (.list [.tuple [.int (.ofNat 1)]])), none, none, some (.sh (.int (.ofNat 1))), some (.sh (.int (.ofNat 0))), none, none, none, none, none, none],
  [none, some (.ow true []), none, none, none, none, none, none, none, none, some (.sh (v1431)), none, none, some (.sh (.int (.ofNat 1))), some (.sh (.int (.ofNat 1))), none, none, none, none, none, none],
  [none, some (.ow true []), none, none, none, none, none, none, none, none, some (.sh (.list [v1432, v1433, v1434])), none, none, some (.sh (.int (.ofNat 1))), some (.sh (.int (.ofNat 2))), none, none, none, none, none, none],
  [none, some (.ow true []), none, none, none, none, none, none, none, none, some (.sh (.list [v1435, v1436, v1437, v1438])), none, none, some (.sh (.int (.ofNat 1))), some (.sh (.int (.ofNat 3))), none, none, none, none, none, none],
  [none, some (.ow true []), none, none, none, none, none, none, none, none, some (.sh (.list [.tuple [.int (.ofNat 1), .int (.ofNat 1)]])), none, none, some (.sh (.int (.ofNat 2))), some (.sh (.int (.ofNat 0))), none, none, none, none, none, none],
  [none, some (.ow true []), none, none, none, none, none, none, none, none, some (.sh (v1439)), none, none, some (.sh (.int (.ofNat 2))), some (.sh (.int (.ofNat 1))), none, none, none, none, none, none],
  [none, some (.ow true []), none, none, none, none, none, none, none, none, some (.sh (.list [v1440, v1441, v1442, v1443, v1444, v1445])), none, none, some (.sh (.int (.ofNat 2))), some (.sh (.int (.ofNat 2))), none, none, none, none, none, none],
  [none, some (.ow true []), none, none, none, none, none, none, none, none, some (.sh (v1456)), none, none, some (.sh (.int (.ofNat 2))), some (.sh (.int (.ofNat 3))), none, none, none, none, none, none],
  [none, some (.ow true []), none, none, none, none, none, none, none, none, some (.sh (v1425)), none, none, some (.sh (.int (.ofNat 3))), some (.sh (.int (.ofNat 0))), none, none, none, none, none, none],
  [none, some (.ow true []), none, none, none, none, none, none, none, none, some (.sh (.list [v1457, v1458, v1459, v1460])), none, none, some (.sh (.int (.ofNat 3))), some (.sh (.int (.ofNat 1))), none, none, none, none, none, none],
  [none, some (.ow true []), none, none, none, none, none, none, none, none, some (.sh (v1471)), none, none, some (.sh (.int (.ofNat 3))), some (.sh (.int (.ofNat 2))), none, none, none, none, none, none],
  [none, some (.ow true []), none, none, none, none, none, none, none, none, some (.sh (v1492)), none, none, some (.sh (.int (.ofNat 3))), some (.sh (.int (.ofNat 3))), none, none, none, none, none, none],
  [none, some (.ow true []), none, none, none, none, none, none, none, none, some (.sh (.list [v169])), none, none, some (.sh (.int (.ofNat 4))), some (.sh (.int (.ofNat 0))), none, none, none, none, none, none],
  [none, some (.ow true []), none, none, none, none, none, none, none, none, some (.sh (.list [v1493, v1494, v1495, v1496, v1497])), none, none, some (.sh (.int (.ofNat 4))), some (.sh (.int (.ofNat 1))), none, none, none, none, none, none],
  [none, some (.ow true []), none, none, none, none, none, none, none, none, some (.sh (v1513)), none, none, some (.sh (.int (.ofNat 4))), some (.sh (.int (.ofNat 2))), none, none, none, none, none, none],
  [none, some (.ow true []), none, none, none, none, none, none, none, none, some (.sh (.list (w1930 ++ w1931))), none, none, some (.sh (.int (.ofNat 4))), some (.sh (.int (.ofNat 3))), none, none, none, none, none, none]]
def S18 : List LEnv := S18_0
def S19_0 : List LEnv := [[none, some (.ow true []), none, none, none, none, none, none, none, none, none, none, none, none, none, none, none, none, none, none, none]]
def S19 : List LEnv := S19_0
end K2

namespace K2
open PySem PySem.Spec PyProof.Rows L2 LW
theorem t0_0 : runAll 1 s0o S1 S0_0 P0_0 = true := by kernel_rfl
theorem t4_9 : runAll 1 s4o S5 S4_9 P4_9 = true := by kernel_rfl
theorem h6 : covSub 1 S7 S6 [0, 1, 2, 3, 4, 5, 6, 7, 8, 9, 10, 11, 12, 13, 14, 15, 16, 17, 18, 19, 20, 21, 22, 23, 24, 25, 26, 27, 28, 29] = true := by kernel_rfl
theorem h10 : covSub 1 S11 S10 [0, 0, 0, 0, 0, 1, 1, 1, 1, 1, 2, 2, 2, 2, 2, 3, 3, 3, 3, 3, 4, 4, 4, 4, 4, 5, 5, 5, 5, 5] = true := by kernel_rfl
end K2

namespace K2
open PySem PySem.Spec PyProof.Rows L2 LW
theorem t1_0 : runAll 1 s1o S2 S1_0 P1_0 = true := by kernel_rfl
theorem t4_10 : runAll 1 s4o S5 S4_10 P4_10 = true := by kernel_rfl
theorem t7_0_0 : chkAll 1 c7_0o Q7_0_0 = true := by kernel_rfl
theorem t11_0 : runAll 1 s11o S12 S11_0 P11_0 = true := by kernel_rfl
end K2

namespace K2
open PySem PySem.Spec PyProof.Rows L2 LW
theorem t1_1 : runAll 1 s1o S2 S1_1 P1_1 = true := by kernel_rfl
theorem t4_11 : runAll 1 s4o S5 S4_11 P4_11 = true := by kernel_rfl
theorem t7_0_1 : chkAll 1 c7_0o Q7_0_1 = true := by kernel_rfl
theorem t12_0 : runAll 1 s12o S13 S12_0 P12_0 = true := by kernel_rfl
end K2

namespace K2
open PySem PySem.Spec PyProof.Rows L2 LW
theorem t1_2 : runAll 1 s1o S2 S1_2 P1_2 = true := by kernel_rfl
theorem t4_12 : runAll 1 s4o S5 S4_12 P4_12 = true := by kernel_rfl
theorem t7_0_2 : chkAll 1 c7_0o Q7_0_2 = true := by kernel_rfl
theorem t12_1 : runAll 1 s12o S13 S12_1 P12_1 = true := by kernel_rfl
end K2

namespace K2
open PySem PySem.Spec PyProof.Rows L2 LW
theorem t1_3 : runAll 1 s1o S2 S1_3 P1_3 = true := by kernel_rfl
theorem t4_13 : runAll 1 s4o S5 S4_13 P4_13 = true := by kernel_rfl
theorem t7_0_3 : chkAll 1 c7_0o Q7_0_3 = true := by kernel_rfl
theorem t12_2 : runAll 1 s12o S13 S12_2 P12_2 = true := by kernel_rfl
end K2

namespace K2
open PySem PySem.Spec PyProof.Rows L2 LW
theorem t1_4 : runAll 1 s1o S2 S1_4 P1_4 = true := by kernel_rfl
theorem t4_14 : runAll 1 s4o S5 S4_14 P4_14 = true := by kernel_rfl
theorem t7_0_4 : chkAll 1 c7_0o Q7_0_4 = true := by kernel_rfl
theorem t12_3 : runAll 1 s12o S13 S12_3 P12_3 = true := by kernel_rfl
end K2

namespace K2
open PySem PySem.Spec PyProof.Rows L2 LW
theorem t1_5 : runAll 1 s1o S2 S1_5 P1_5 = true := by kernel_rfl
theorem t4_15 : runAll 1 s4o S5 S4_15 P4_15 = true := by kernel_rfl
theorem t7_0_5 : chkAll 1 c7_0o Q7_0_5 = true := by kernel_rfl
theorem t12_4 : runAll 1 s12o S13 S12_4 P12_4 = true := by kernel_rfl
end K2

namespace K2
open PySem PySem.Spec PyProof.Rows L2 LW
theorem t1_6 : runAll 1 s1o S2 S1_6 P1_6 = true := by kernel_rfl
theorem t5_0_0 : chkAll 1 c5_0o Q5_0_0 = true := by kernel_rfl
theorem t7_0_6 : chkAll 1 c7_0o Q7_0_6 = true := by kernel_rfl
theorem t12_5 : runAll 1 s12o S13 S12_5 P12_5 = true := by kernel_rfl
end K2

namespace K2
open PySem PySem.Spec PyProof.Rows L2 LW
theorem t1_7 : runAll 1 s1o S2 S1_7 P1_7 = true := by kernel_rfl
theorem t5_0_1 : chkAll 1 c5_0o Q5_0_1 = true := by kernel_rfl
theorem t7_0_7 : chkAll 1 c7_0o Q7_0_7 = true := by kernel_rfl
theorem t12_6 : runAll 1 s12o S13 S12_6 P12_6 = true := by kernel_rfl
end K2

namespace K2
open PySem PySem.Spec PyProof.Rows L2 LW
theorem t2_0_0 : chkAll 1 c2_0o Q2_0_0 = true := by kernel_rfl
theorem t5_0_2 : chkAll 1 c5_0o Q5_0_2 = true := by kernel_rfl
theorem t7_0_8 : chkAll 1 c7_0o Q7_0_8 = true := by kernel_rfl
theorem t13_0_0 : chkAll 1 c13_0o Q13_0_0 = true := by kernel_rfl
end K2

namespace K2
open PySem PySem.Spec PyProof.Rows L2 LW
theorem t2_0_1 : chkAll 1 c2_0o Q2_0_1 = true := by kernel_rfl
theorem t5_0_3 : chkAll 1 c5_0o Q5_0_3 = true := by kernel_rfl
theorem t7_0_9 : chkAll 1 c7_0o Q7_0_9 = true := by kernel_rfl
theorem t13_0_1 : chkAll 1 c13_0o Q13_0_1 = true := by kernel_rfl
end K2

namespace K2
open PySem PySem.Spec PyProof.Rows L2 LW
theorem t2_0_2 : chkAll 1 c2_0o Q2_0_2 = true := by kernel_rfl
theorem t5_0_4 : chkAll 1 c5_0o Q5_0_4 = true := by kernel_rfl
theorem t7_0_10 : chkAll 1 c7_0o Q7_0_10 = true := by kernel_rfl
theorem t13_0_2 : chkAll 1 c13_0o Q13_0_2 = true := by kernel_rfl
end K2

namespace K2
open PySem PySem.Spec PyProof.Rows L2 LW
theorem u2_0 : covAll 1 Q2_0 S2 [0, 0, 0, 0, 0, 1, 1, 1, 1, 1, 2, 2, 2, 2, 2, 3, 3, 3, 3, 3, 4, 4, 4, 4, 4, 5, 5, 5, 5, 5] = true := by kernel_rfl
theorem t5_0_5 : chkAll 1 c5_0o Q5_0_5 = true := by kernel_rfl
theorem t7_0_11 : chkAll 1 c7_0o Q7_0_11 = true := by kernel_rfl
theorem t13_0_3 : chkAll 1 c13_0o Q13_0_3 = true := by kernel_rfl
end K2

namespace K2
open PySem PySem.Spec PyProof.Rows L2 LW
theorem t2_1_0 : chkAll 1 c2_1o Q2_1_0 = true := by kernel_rfl
theorem t5_0_6 : chkAll 1 c5_0o Q5_0_6 = true := by kernel_rfl
theorem t7_0_12 : chkAll 1 c7_0o Q7_0_12 = true := by kernel_rfl
theorem u13_0 : covAll 1 Q13_0 S13 [0, 1, 2, 3, 4, 5, 6, 7, 8, 9, 10, 11, 12, 13, 14, 15, 16, 17, 18, 19, 20, 21, 22, 23, 24, 25, 26, 27, 28, 29] = true := by kernel_rfl
end K2

namespace K2
open PySem PySem.Spec PyProof.Rows L2 LW
theorem t2_1_1 : chkAll 1 c2_1o Q2_1_1 = true := by kernel_rfl
theorem t5_0_7 : chkAll 1 c5_0o Q5_0_7 = true := by kernel_rfl
theorem u7_0 : covAll 1 Q7_0 S7 [0, 1, 2, 3, 4, 5, 6, 7, 8, 9, 10, 11, 12, 13, 14, 15, 16, 17, 18, 19, 20, 21, 22, 23, 24, 25, 26, 27, 28, 29] = true := by kernel_rfl
theorem h13 : covSub 1 S14 S13 [0, 0, 0, 0, 0, 0, 0, 0, 0, 0, 0, 0, 0, 0, 0, 0, 0, 0, 0, 0, 0, 0, 0, 0, 0, 0, 0, 0, 0, 0] = true := by kernel_rfl
end K2

namespace K2
open PySem PySem.Spec PyProof.Rows L2 LW
theorem t2_1_2 : chkAll 1 c2_1o Q2_1_2 = true := by kernel_rfl
theorem t5_0_8 : chkAll 1 c5_0o Q5_0_8 = true := by kernel_rfl
theorem h7 : covSub 1 S8 S7 [0, 1, 2, 3, 4, 5, 6, 7, 8, 9, 10, 11, 12, 13, 14, 15, 16, 17, 18, 19, 20, 21, 22, 23, 24, 25, 26, 27, 28, 29] = true := by kernel_rfl
theorem t14_0 : runAll 1 s14o S15 S14_0 P14_0 = true := by kernel_rfl
end K2

namespace K2
open PySem PySem.Spec PyProof.Rows L2 LW
theorem u2_1 : covAll 1 Q2_1 S2 [0, 0, 0, 0, 0, 1, 1, 1, 1, 1, 2, 2, 2, 2, 2, 3, 3, 3, 3, 3, 4, 4, 4, 4, 4, 5, 5, 5, 5, 5] = true := by kernel_rfl
theorem u5_0 : covAll 1 Q5_0 S5 [0, 1, 2, 3, 4, 5, 6, 7, 8, 9, 10, 11, 12, 13, 14, 15, 16, 17, 18, 19, 20, 21, 22, 23, 24, 25, 26, 27, 28, 29] = true := by kernel_rfl
theorem t8_0 : runAll 1 s8o S9 S8_0 P8_0 = true := by kernel_rfl
theorem t15_0_0 : chkAll 1 c15_0o Q15_0_0 = true := by kernel_rfl
end K2

namespace K2
open PySem PySem.Spec PyProof.Rows L2 LW
theorem h2 : covSub 1 S3 S2 [0, 1, 2, 3, 4, 5, 6, 7, 8, 9, 10, 11, 12, 13, 14, 15, 16, 17, 18, 19, 20, 21, 22, 23, 24, 25, 26, 27, 28, 29] = true := by kernel_rfl
theorem t5_1_0 : chkAll 1 c5_1o Q5_1_0 = true := by kernel_rfl
theorem t8_1 : runAll 1 s8o S9 S8_1 P8_1 = true := by kernel_rfl
theorem u15_0 : covAll 1 Q15_0 S15 [0, 1, 2, 3, 4, 5, 6, 7, 8, 9, 10, 11, 12] = true := by kernel_rfl
end K2

namespace K2
open PySem PySem.Spec PyProof.Rows L2 LW
theorem t3_0 : runAll 1 s3o S4 S3_0 P3_0 = true := by kernel_rfl
theorem t5_1_1 : chkAll 1 c5_1o Q5_1_1 = true := by kernel_rfl
theorem t8_2 : runAll 1 s8o S9 S8_2 P8_2 = true := by kernel_rfl
theorem h15 : covSub 1 S16 S15 [0, 0, 0, 0, 0, 0, 0, 0, 0, 0, 0, 0, 0] = true := by kernel_rfl
end K2

namespace K2
open PySem PySem.Spec PyProof.Rows L2 LW
theorem t3_1 : runAll 1 s3o S4 S3_1 P3_1 = true := by kernel_rfl
theorem t5_1_2 : chkAll 1 c5_1o Q5_1_2 = true := by kernel_rfl
theorem t8_3 : runAll 1 s8o S9 S8_3 P8_3 = true := by kernel_rfl
theorem t16_0 : runAll 1 s16o S17 S16_0 P16_0 = true := by kernel_rfl
end K2

namespace K2
open PySem PySem.Spec PyProof.Rows L2 LW
theorem t3_2 : runAll 1 s3o S4 S3_2 P3_2 = true := by kernel_rfl
theorem t5_1_3 : chkAll 1 c5_1o Q5_1_3 = true := by kernel_rfl
theorem t8_4 : runAll 1 s8o S9 S8_4 P8_4 = true := by kernel_rfl
theorem t17_0 : runAll 1 s17o S18 S17_0 P17_0 = true := by kernel_rfl
end K2

namespace K2
open PySem PySem.Spec PyProof.Rows L2 LW
theorem t3_3 : runAll 1 s3o S4 S3_3 P3_3 = true := by kernel_rfl
theorem t5_1_4 : chkAll 1 c5_1o Q5_1_4 = true := by kernel_rfl
theorem t8_5 : runAll 1 s8o S9 S8_5 P8_5 = true := by kernel_rfl
theorem t17_1 : runAll 1 s17o S18 S17_1 P17_1 = true := by kernel_rfl
end K2

namespace K2
open PySem PySem.Spec PyProof.Rows L2 LW
theorem t3_4 : runAll 1 s3o S4 S3_4 P3_4 = true := by kernel_rfl
theorem t5_1_5 : chkAll 1 c5_1o Q5_1_5 = true := by kernel_rfl
theorem t8_6 : runAll 1 s8o S9 S8_6 P8_6 = true := by kernel_rfl
theorem t17_2 : runAll 1 s17o S18 S17_2 P17_2 = true := by kernel_rfl
end K2

namespace K2
open PySem PySem.Spec PyProof.Rows L2 LW
theorem t3_5 : runAll 1 s3o S4 S3_5 P3_5 = true := by kernel_rfl
theorem t5_1_6 : chkAll 1 c5_1o Q5_1_6 = true := by kernel_rfl
theorem t8_7 : runAll 1 s8o S9 S8_7 P8_7 = true := by kernel_rfl
theorem t18_0_0 : chkAll 1 c18_0o Q18_0_0 = true := by kernel_rfl
end K2

namespace K2
open PySem PySem.Spec PyProof.Rows L2 LW
theorem t3_6 : runAll 1 s3o S4 S3_6 P3_6 = true := by kernel_rfl
theorem t5_1_7 : chkAll 1 c5_1o Q5_1_7 = true := by kernel_rfl
theorem t8_8 : runAll 1 s8o S9 S8_8 P8_8 = true := by kernel_rfl
theorem t18_0_1 : chkAll 1 c18_0o Q18_0_1 = true := by kernel_rfl
end K2

namespace K2
open PySem PySem.Spec PyProof.Rows L2 LW
theorem t3_7 : runAll 1 s3o S4 S3_7 P3_7 = true := by kernel_rfl
theorem t5_1_8 : chkAll 1 c5_1o Q5_1_8 = true := by kernel_rfl
theorem t8_9 : runAll 1 s8o S9 S8_9 P8_9 = true := by kernel_rfl
theorem t18_0_2 : chkAll 1 c18_0o Q18_0_2 = true := by kernel_rfl
end K2

namespace K2
open PySem PySem.Spec PyProof.Rows L2 LW
theorem t3_8 : runAll 1 s3o S4 S3_8 P3_8 = true := by kernel_rfl
theorem t5_1_9 : chkAll 1 c5_1o Q5_1_9 = true := by kernel_rfl
theorem t8_10 : runAll 1 s8o S9 S8_10 P8_10 = true := by kernel_rfl
theorem t18_0_3 : chkAll 1 c18_0o Q18_0_3 = true := by kernel_rfl
end K2

namespace K2
open PySem PySem.Spec PyProof.Rows L2 LW
theorem t3_9 : runAll 1 s3o S4 S3_9 P3_9 = true := by kernel_rfl
theorem u5_1 : covAll 1 Q5_1 S5 [0, 1, 2, 3, 4, 5, 6, 7, 8, 9, 10, 11, 12, 13, 14, 15, 16, 17, 18, 19, 20, 21, 22, 23, 24, 25, 26, 27, 28, 29] = true := by kernel_rfl
theorem t8_11 : runAll 1 s8o S9 S8_11 P8_11 = true := by kernel_rfl
theorem t18_0_4 : chkAll 1 c18_0o Q18_0_4 = true := by kernel_rfl
end K2

namespace K2
open PySem PySem.Spec PyProof.Rows L2 LW
theorem t3_10 : runAll 1 s3o S4 S3_10 P3_10 = true := by kernel_rfl
theorem h5 : covSub 1 S6 S5 [0, 1, 2, 3, 4, 5, 6, 7, 8, 9, 10, 11, 12, 13, 14, 15, 16, 17, 18, 19, 20, 21, 22, 23, 24, 25, 26, 27, 28, 29] = true := by kernel_rfl
theorem t8_12 : runAll 1 s8o S9 S8_12 P8_12 = true := by kernel_rfl
theorem t18_0_5 : chkAll 1 c18_0o Q18_0_5 = true := by kernel_rfl
end K2

namespace K2
open PySem PySem.Spec PyProof.Rows L2 LW
theorem t3_11 : runAll 1 s3o S4 S3_11 P3_11 = true := by kernel_rfl
theorem t6_0_0 : chkAll 1 c6_0o Q6_0_0 = true := by kernel_rfl
theorem t9_0_0 : chkAll 1 c9_0o Q9_0_0 = true := by kernel_rfl
theorem t18_0_6 : chkAll 1 c18_0o Q18_0_6 = true := by kernel_rfl
end K2

namespace K2
open PySem PySem.Spec PyProof.Rows L2 LW
theorem t3_12 : runAll 1 s3o S4 S3_12 P3_12 = true := by kernel_rfl
theorem t6_0_1 : chkAll 1 c6_0o Q6_0_1 = true := by kernel_rfl
theorem t9_0_1 : chkAll 1 c9_0o Q9_0_1 = true := by kernel_rfl
theorem t18_0_7 : chkAll 1 c18_0o Q18_0_7 = true := by kernel_rfl
end K2

namespace K2
open PySem PySem.Spec PyProof.Rows L2 LW
theorem t4_0 : runAll 1 s4o S5 S4_0 P4_0 = true := by kernel_rfl
theorem t6_0_2 : chkAll 1 c6_0o Q6_0_2 = true := by kernel_rfl
theorem u9_0 : covAll 1 Q9_0 S9 [0, 0, 0, 0, 0, 1, 1, 1, 1, 1, 2, 2, 2, 2, 2, 3, 3, 3, 3, 3, 4, 4, 4, 4, 4, 5, 5, 5, 5, 5] = true := by kernel_rfl
theorem u18_0 : covAll 1 Q18_0 S18 [0, 1, 2, 3, 4, 5, 6, 7, 8, 9, 10, 11, 12, 13, 14, 15, 16, 17, 18, 19] = true := by kernel_rfl
end K2

namespace K2
open PySem PySem.Spec PyProof.Rows L2 LW
theorem t4_1 : runAll 1 s4o S5 S4_1 P4_1 = true := by kernel_rfl
theorem u6_0 : covAll 1 Q6_0 S6 [0, 1, 2, 3, 4, 5, 6, 7, 8, 9, 10, 11, 12, 13, 14, 15, 16, 17, 18, 19, 20, 21, 22, 23, 24, 25, 26, 27, 28, 29] = true := by kernel_rfl
theorem h9 : covSub 1 S10 S9 [0, 1, 2, 3, 4, 5, 6, 7, 8, 9, 10, 11, 12, 13, 14, 15, 16, 17, 18, 19, 20, 21, 22, 23, 24, 25, 26, 27, 28, 29] = true := by kernel_rfl
theorem h18 : covSub 1 S19 S18 [0, 0, 0, 0, 0, 0, 0, 0, 0, 0, 0, 0, 0, 0, 0, 0, 0, 0, 0, 0] = true := by kernel_rfl
end K2

namespace K2
open PySem PySem.Spec PyProof.Rows L2 LW
theorem t4_2 : runAll 1 s4o S5 S4_2 P4_2 = true := by kernel_rfl
theorem t6_1_0 : chkAll 1 c6_1o Q6_1_0 = true := by kernel_rfl
theorem t10_0_0 : chkAll 1 c10_0o Q10_0_0 = true := by kernel_rfl
end K2

namespace K2
open PySem PySem.Spec PyProof.Rows L2 LW
theorem t4_3 : runAll 1 s4o S5 S4_3 P4_3 = true := by kernel_rfl
theorem t6_1_1 : chkAll 1 c6_1o Q6_1_1 = true := by kernel_rfl
theorem t10_0_1 : chkAll 1 c10_0o Q10_0_1 = true := by kernel_rfl
end K2

namespace K2
open PySem PySem.Spec PyProof.Rows L2 LW
theorem t4_4 : runAll 1 s4o S5 S4_4 P4_4 = true := by kernel_rfl
theorem t6_1_2 : chkAll 1 c6_1o Q6_1_2 = true := by kernel_rfl
theorem t10_0_2 : chkAll 1 c10_0o Q10_0_2 = true := by kernel_rfl
end K2

namespace K2
open PySem PySem.Spec PyProof.Rows L2 LW
theorem t4_5 : runAll 1 s4o S5 S4_5 P4_5 = true := by kernel_rfl
theorem t6_1_3 : chkAll 1 c6_1o Q6_1_3 = true := by kernel_rfl
theorem t10_0_3 : chkAll 1 c10_0o Q10_0_3 = true := by kernel_rfl
end K2

namespace K2
open PySem PySem.Spec PyProof.Rows L2 LW
theorem t4_6 : runAll 1 s4o S5 S4_6 P4_6 = true := by kernel_rfl
theorem t6_1_4 : chkAll 1 c6_1o Q6_1_4 = true := by kernel_rfl
theorem t10_0_4 : chkAll 1 c10_0o Q10_0_4 = true := by kernel_rfl
end K2

namespace K2
open PySem PySem.Spec PyProof.Rows L2 LW
theorem t4_7 : runAll 1 s4o S5 S4_7 P4_7 = true := by kernel_rfl
theorem t6_1_5 : chkAll 1 c6_1o Q6_1_5 = true := by kernel_rfl
theorem t10_0_5 : chkAll 1 c10_0o Q10_0_5 = true := by kernel_rfl
end K2

namespace K2
open PySem PySem.Spec PyProof.Rows L2 LW
theorem t4_8 : runAll 1 s4o S5 S4_8 P4_8 = true := by kernel_rfl
theorem u6_1 : covAll 1 Q6_1 S6 [0, 1, 2, 3, 4, 5, 6, 7, 8, 9, 10, 11, 12, 13, 14, 15, 16, 17, 18, 19, 20, 21, 22, 23, 24, 25, 26, 27, 28, 29] = true := by kernel_rfl
theorem u10_0 : covAll 1 Q10_0 S10 [0, 1, 2, 3, 4, 5, 6, 7, 8, 9, 10, 11, 12, 13, 14, 15, 16, 17, 18, 19, 20, 21, 22, 23, 24, 25, 26, 27, 28, 29] = true := by kernel_rfl
end K2

namespace K2
open PySem PySem.Spec PyProof.Rows L2 LW
theorem g0 : Good kr_roll 1 S0 s0 S1 := by
  haveI : SimS kr_roll 1 s0o s0 := by
    show SimS r_law_roll 1 _ _
    unfold s0o s0
    infer_instance
  exact (good_run dice_gen t0_0)
theorem g1 : Good kr_roll 1 S1 s1 S2 := by
  haveI : SimS kr_roll 1 s1o s1 := by
    show SimS r_law_roll 1 _ _
    unfold s1o s1
    infer_instance
  exact (good_app (good_run dice_gen t1_0) (good_app (good_run dice_gen t1_1) (good_app (good_run dice_gen t1_2) (good_app (good_run dice_gen t1_3) (good_app (good_run dice_gen t1_4) (good_app (good_run dice_gen t1_5) (good_app (good_run dice_gen t1_6) (good_run dice_gen t1_7))))))))
theorem n2_0 : No kr_roll 1 S2 c2_0 := by
  haveI : Sim kr_roll 1 c2_0o c2_0 := by
    show Sim r_law_roll 1 _ _
    unfold c2_0o c2_0
    infer_instance
  exact no_chk u2_0 (chk_app t2_0_0 (chk_app t2_0_1 t2_0_2))
theorem n2_1 : No kr_roll 1 S2 c2_1 := by
  haveI : Sim kr_roll 1 c2_1o c2_1 := by
    show Sim r_law_roll 1 _ _
    unfold c2_1o c2_1
    infer_instance
  exact no_chk u2_1 (chk_app t2_1_0 (chk_app t2_1_1 t2_1_2))
theorem g2 : Good kr_roll 1 S2 s2 S2 := good_if (no_or n2_0 n2_1)
theorem g3 : Good kr_roll 1 S3 s3 S4 := by
  haveI : SimS kr_roll 1 s3o s3 := by
    show SimS r_law_roll 1 _ _
    unfold s3o s3
    infer_instance
  exact (good_app (good_run dice_gen t3_0) (good_app (good_run dice_gen t3_1) (good_app (good_run dice_gen t3_2) (good_app (good_run dice_gen t3_3) (good_app (good_run dice_gen t3_4) (good_app (good_run dice_gen t3_5) (good_app (good_run dice_gen t3_6) (good_app (good_run dice_gen t3_7) (good_app (good_run dice_gen t3_8) (good_app (good_run dice_gen t3_9) (good_app (good_run dice_gen t3_10) (good_app (good_run dice_gen t3_11) (good_run dice_gen t3_12)))))))))))))
theorem g4 : Good kr_roll 1 S4 s4 S5 := by
  haveI : SimS kr_roll 1 s4o s4 := by
    show SimS r_law_roll 1 _ _
    unfold s4o s4
    infer_instance
  exact (good_app (good_run dice_gen t4_0) (good_app (good_run dice_gen t4_1) (good_app (good_run dice_gen t4_2) (good_app (good_run dice_gen t4_3) (good_app (good_run dice_gen t4_4) (good_app (good_run dice_gen t4_5) (good_app (good_run dice_gen t4_6) (good_app (good_run dice_gen t4_7) (good_app (good_run dice_gen t4_8) (good_app (good_run dice_gen t4_9) (good_app (good_run dice_gen t4_10) (good_app (good_run dice_gen t4_11) (good_app (good_run dice_gen t4_12) (good_app (good_run dice_gen t4_13) (good_app (good_run dice_gen t4_14) (good_run dice_gen t4_15))))))))))))))))
theorem n5_0 : No kr_roll 1 S5 c5_0 := by
  haveI : Sim kr_roll 1 c5_0o c5_0 := by
    show Sim r_law_roll 1 _ _
    unfold c5_0o c5_0
    infer_instance
  exact no_chk u5_0 (chk_app t5_0_0 (chk_app t5_0_1 (chk_app t5_0_2 (chk_app t5_0_3 (chk_app t5_0_4 (chk_app t5_0_5 (chk_app t5_0_6 (chk_app t5_0_7 t5_0_8))))))))
theorem n5_1 : No kr_roll 1 S5 c5_1 := by
  haveI : Sim kr_roll 1 c5_1o c5_1 := by
    show Sim r_law_roll 1 _ _
    unfold c5_1o c5_1
    infer_instance
  exact no_chk u5_1 (chk_app t5_1_0 (chk_app t5_1_1 (chk_app t5_1_2 (chk_app t5_1_3 (chk_app t5_1_4 (chk_app t5_1_5 (chk_app t5_1_6 (chk_app t5_1_7 (chk_app t5_1_8 t5_1_9)))))))))
theorem g5 : Good kr_roll 1 S5 s5 S5 := good_if (no_or n5_0 n5_1)
theorem n6_0 : No kr_roll 1 S6 c6_0 := by
  haveI : Sim kr_roll 1 c6_0o c6_0 := by
    show Sim r_law_roll 1 _ _
    unfold c6_0o c6_0
    infer_instance
  exact no_chk u6_0 (chk_app t6_0_0 (chk_app t6_0_1 t6_0_2))
theorem n6_1 : No kr_roll 1 S6 c6_1 := by
  haveI : Sim kr_roll 1 c6_1o c6_1 := by
    show Sim r_law_roll 1 _ _
    unfold c6_1o c6_1
    infer_instance
  exact no_chk u6_1 (chk_app t6_1_0 (chk_app t6_1_1 (chk_app t6_1_2 (chk_app t6_1_3 (chk_app t6_1_4 t6_1_5)))))
theorem g6 : Good kr_roll 1 S6 s6 S6 := good_if (no_or n6_0 n6_1)
theorem n7_0 : No kr_roll 1 S7 c7_0 := by
  haveI : Sim kr_roll 1 c7_0o c7_0 := by
    show Sim r_law_roll 1 _ _
    unfold c7_0o c7_0
    infer_instance
  exact no_chk u7_0 (chk_app t7_0_0 (chk_app t7_0_1 (chk_app t7_0_2 (chk_app t7_0_3 (chk_app t7_0_4 (chk_app t7_0_5 (chk_app t7_0_6 (chk_app t7_0_7 (chk_app t7_0_8 (chk_app t7_0_9 (chk_app t7_0_10 (chk_app t7_0_11 t7_0_12))))))))))))
theorem g7 : Good kr_roll 1 S7 s7 S7 := good_if n7_0
theorem g8 : Good kr_roll 1 S8 s8 S9 := by
  haveI : SimS kr_roll 1 s8o s8 := by
    show SimS r_law_roll 1 _ _
    unfold s8o s8
    infer_instance
  exact (good_app (good_run dice_gen t8_0) (good_app (good_run dice_gen t8_1) (good_app (good_run dice_gen t8_2) (good_app (good_run dice_gen t8_3) (good_app (good_run dice_gen t8_4) (good_app (good_run dice_gen t8_5) (good_app (good_run dice_gen t8_6) (good_app (good_run dice_gen t8_7) (good_app (good_run dice_gen t8_8) (good_app (good_run dice_gen t8_9) (good_app (good_run dice_gen t8_10) (good_app (good_run dice_gen t8_11) (good_run dice_gen t8_12)))))))))))))
theorem n9_0 : No kr_roll 1 S9 c9_0 := by
  haveI : Sim kr_roll 1 c9_0o c9_0 := by
    show Sim r_law_roll 1 _ _
    unfold c9_0o c9_0
    infer_instance
  exact no_chk u9_0 (chk_app t9_0_0 t9_0_1)
theorem g9 : Good kr_roll 1 S9 s9 S9 := good_if n9_0
theorem n10_0 : No kr_roll 1 S10 c10_0 := by
  haveI : Sim kr_roll 1 c10_0o c10_0 := by
    show Sim r_law_roll 1 _ _
    unfold c10_0o c10_0
    infer_instance
  exact no_chk u10_0 (chk_app t10_0_0 (chk_app t10_0_1 (chk_app t10_0_2 (chk_app t10_0_3 (chk_app t10_0_4 t10_0_5)))))
theorem g10 : Good kr_roll 1 S10 s10 S10 := good_if n10_0
theorem g11 : Good kr_roll 1 S11 s11 S12 := by
  haveI : SimS kr_roll 1 s11o s11 := by
    show SimS r_law_roll 1 _ _
    unfold s11o s11
    infer_instance
  exact (good_run dice_gen t11_0)
theorem g12 : Good kr_roll 1 S12 s12 S13 := by
  haveI : SimS kr_roll 1 s12o s12 := by
    show SimS r_law_roll 1 _ _
    unfold s12o s12
    infer_instance
  exact (good_app (good_run dice_gen t12_0) (good_app (good_run dice_gen t12_1) (good_app (good_run dice_gen t12_2) (good_app (good_run dice_gen t12_3) (good_app (good_run dice_gen t12_4) (good_app (good_run dice_gen t12_5) (good_run dice_gen t12_6)))))))
theorem n13_0 : No kr_roll 1 S13 c13_0 := by
  haveI : Sim kr_roll 1 c13_0o c13_0 := by
    show Sim r_law_roll 1 _ _
    unfold c13_0o c13_0
    infer_instance
  exact no_chk u13_0 (chk_app t13_0_0 (chk_app t13_0_1 (chk_app t13_0_2 t13_0_3)))
theorem g13 : Good kr_roll 1 S13 s13 S13 := good_if n13_0
theorem g14 : Good kr_roll 1 S14 s14 S15 := by
  haveI : SimS kr_roll 1 s14o s14 := by
    show SimS r_law_roll 1 _ _
    unfold s14o s14
    infer_instance
  exact (good_run dice_gen t14_0)
theorem n15_0 : No kr_roll 1 S15 c15_0 := by
  haveI : Sim kr_roll 1 c15_0o c15_0 := by
    show Sim r_law_roll 1 _ _
    unfold c15_0o c15_0
    infer_instance
  exact no_chk u15_0 t15_0_0
theorem g15 : Good kr_roll 1 S15 s15 S15 := good_if n15_0
theorem g16 : Good kr_roll 1 S16 s16 S17 := by
  haveI : SimS kr_roll 1 s16o s16 := by
    show SimS r_law_roll 1 _ _
    unfold s16o s16
    infer_instance
  exact (good_run dice_gen t16_0)
theorem g17 : Good kr_roll 1 S17 s17 S18 := by
  haveI : SimS kr_roll 1 s17o s17 := by
    show SimS r_law_roll 1 _ _
    unfold s17o s17
    infer_instance
  exact (good_app (good_run dice_gen t17_0) (good_app (good_run dice_gen t17_1) (good_run dice_gen t17_2)))
theorem n18_0 : No kr_roll 1 S18 c18_0 := by
  haveI : Sim kr_roll 1 c18_0o c18_0 := by
    show Sim r_law_roll 1 _ _
    unfold c18_0o c18_0
    infer_instance
  exact no_chk u18_0 (chk_app t18_0_0 (chk_app t18_0_1 (chk_app t18_0_2 (chk_app t18_0_3 (chk_app t18_0_4 (chk_app t18_0_5 (chk_app t18_0_6 t18_0_7)))))))
theorem g18 : Good kr_roll 1 S18 s18 S18 := good_if n18_0
theorem m_law_eq : m_law = mSeq s0 (mSeq s1 (mSeq s2 (mSeq s3 (mSeq s4 (mSeq s5 (mSeq s6 (mSeq s7 (mSeq s8 (mSeq s9 (mSeq s10 (mSeq s11 (mSeq s12 (mSeq s13 (mSeq s14 (mSeq s15 (mSeq s16 (mSeq s17 (s18)))))))))))))))))) := rfl
theorem body_good : Good kr_roll 1 S0 m_law S19 := by
  rw [m_law_eq]
  exact (good_seq g0
  (good_seq g1
  (good_seq (good_up g2 h2)
  (good_seq g3
  (good_seq g4
  (good_seq (good_up g5 h5)
  (good_seq (good_up g6 h6)
  (good_seq (good_up g7 h7)
  (good_seq g8
  (good_seq (good_up g9 h9)
  (good_seq (good_up g10 h10)
  (good_seq g11
  (good_seq g12
  (good_seq (good_up g13 h13)
  (good_seq g14
  (good_seq (good_up g15 h15)
  (good_seq g16
  (good_seq g17
  (good_up g18 h18)))))))))))))))))))
theorem math2 (z : Int) (_ : Builtin.Int.intBits z ≤ 1048576) : ∃ e, m_law (startL 21 (diceOf z)) = .nx e ∧ e.length = 21 := cov_end body_good (cov_start 21 z (by decide)) (by kernel_rfl)
theorem math0 : ∃ e, m_law_rounds [none, some (.sh (.int 1)), some (.sh (.list [])), none] = .rt e (.list [.list (intsD (diceOf 0))]) := rounds0
theorem math1 (z : Int) : ∃ e, m_law_rounds [none, some (.sh (.int 1)), some (.sh (.list [.int z])), none] = .rt e (.list [.list (intsD (diceOf z))]) := rounds1 z
end K2

namespace K2
open PySem PySem.Spec PyProof.Rows L2 LW
abbrev hk : PySem.W.Hook := He.hookX 4 fa fn [] tf ex
def ob (s : PySem.W.SharedT) : He.AlX := He.obsX 4 fa fn [] tf ex (HandSHeadRun.getT s)
theorem ob_eq (s : PySem.W.SharedT) : ob s = hk.obs s.abs := He.obsX_eq (HandSHeadRun.getT_eq s)
theorem run (w : World) : HandSHeadRun.RunEqI RR (PySem.W.view RR.prog [0, 37]) hk ob 4000 loose w := by
  unfold HandSHeadRun.RunEqI
  kernel_rfl
end K2

open PySem PySem.W PySem.Calls PyProof.Rows
theorem PySem.Challenge.cw_luckwright_k02_how_many_ways_holds : PySem.Challenge.rw_luckwright_k02_how_many_ways.Holds := by
  w_on; o_law
  refine HandSHeadRun.head_imp (r := K2.RR) (q := view K2.RR.prog [0, 37]) (H := K2.hk) (ob := K2.ob) (M := 4000) (loose := K2.loose) (d := HandSHeadRun.topDef K2.RR.prog 37) (kwd := []) K2.ob_eq K2.run
    (by kernel_rfl) (by kernel_rfl) (by kernel_rfl) (by rfl) (by first | assumption | decide +kernel) (by decide +kernel) ⟨rfl, rfl, rfl, rfl, rfl, by decide +kernel⟩ ?hw ?hc
  case hw => w_witness2
  case hc =>
    refine LamX.walk_ofTsE (l := K2.RWL) (n := 63) (k := 9) (x := "script") (CX := fun w => L2.CX K2.RWL.prog w) rfl (by decide) (by kernel_rfl) ⟨rfl, by decide, by decide⟩ ?F (fun w H s e s' z => ?hCX)
    case F =>
      intro w mg fa h Y G hmg0
      obtain ⟨K, KX, c⟩ := Y
      have hmg : mg ("law" : PySem.Str) = some (.ref fa) := by
        have e : (HandSHeadRun.topDef K2.RR.prog 37).name = ("law" : PySem.Str) := by kernel_rfl
        rw [← e]
        exact hmg0
      exact ⟨K, KX, K2.facts KX G hmg c K2.math0 K2.math1 K2.math2⟩
    case hCX =>
      obtain ⟨_, _, _, _, _, _, _, _, _, _, _, _, hE⟩ := z
      exact hE
