import PyProof.Rows.All
import Wide.All
import OpenK.AllK
import HandS.Call
import HandS.List
import HandS.Dict
import KE.KDictOf
import HandS.DictSub
import HandS.DictSubMake
import HandS.Records
import HandS.BoundDict
import Wide.FinOn
import HandS.ForMost
import HandS.WordsExc
import HandS.Deep
import HandS.CallSlots
import HandS.TryMany
import HandS.Gcd
import HandS.Flow
import HandS.Lambda
import HandS.HeadHook1
import HandS.Star
import HandS.FStr
import HandS.HeadHook2
import HandS.HeadHook4
import HandS.HeadWalk
import HandS.TupAny
import KE.KMathGC
import HandS.SetFor
import HandS.Conv
import HandS.SortKw
import KE.KTupSum
import HandS.Head2
import HandS.Iter
import HandS.DictComp
import KE.KDictSum
import HandS.SortInts
import PyProof.ConsumeS
import PyProof.TupleOps
import KE.KDictZip
import KE.GoesEnum
import KE.GoesMore
import KE.GoesZip
import HandS.RepeatKit
import HandS.Head3
import PySem.Challenge.RW_luckwright_k10_orders_by_luck
set_option Elab.async false
set_option linter.all false
set_option maxRecDepth 100000
set_option maxHeartbeats 0
namespace PySem
open PyProof.Rows
namespace F
theorem dd_mro : mroOf (.type "collections.defaultdict") = pure [.type "collections.defaultdict", .type "dict", .type "object"] := by rw [mroOf_type]; kernel_rfl
theorem dd_new : typeLookup (.type "collections.defaultdict") "__new__" = pure (some (.builtin "dict.__new__")) := by rw [typeLookup_type, builtinLookup_eq_fast]; kernel_rfl
theorem dd_sub : isSubtype (.type "collections.defaultdict") (.type "collections.defaultdict") = pure true := by rw [isSubtype_type]; kernel_rfl
theorem dd_subd : isSubtype (.type "collections.defaultdict") (.type "dict") = pure true := by rw [isSubtype_type]; kernel_rfl
theorem dd_slot_init : Slot "collections.defaultdict" "__init__" "collections.defaultdict.__init__" :=
  .of (owner := "collections.defaultdict") (n := "__init__") (by rw [typeLookup_type, builtinLookup_eq_fast]; kernel_rfl) (by decide +kernel) (by decide +kernel) (by decide +kernel)
    (by first | exact .inl (by decide +kernel) | exact .inr (by decide +kernel)) (by rw [isSubtype_type]; kernel_rfl)
theorem dd_slot_item : Slot "collections.defaultdict" "__getitem__" "dict.__getitem__" :=
  .of (owner := "dict") (n := "__getitem__") (by rw [typeLookup_type, builtinLookup_eq_fast]; kernel_rfl) (by decide +kernel) (by decide +kernel) (by decide +kernel)
    (by first | exact .inl (by decide +kernel) | exact .inr (by decide +kernel)) (by rw [isSubtype_type]; kernel_rfl)
theorem dd_slot_set : Slot "collections.defaultdict" "__setitem__" "dict.__setitem__" :=
  .of (owner := "dict") (n := "__setitem__") (by rw [typeLookup_type, builtinLookup_eq_fast]; kernel_rfl) (by decide +kernel) (by decide +kernel) (by decide +kernel)
    (by first | exact .inl (by decide +kernel) | exact .inr (by decide +kernel)) (by rw [isSubtype_type]; kernel_rfl)
theorem dd_slot_miss : Slot "collections.defaultdict" "__missing__" "collections.defaultdict.__missing__" :=
  .of (owner := "collections.defaultdict") (n := "__missing__") (by rw [typeLookup_type, builtinLookup_eq_fast]; kernel_rfl) (by decide +kernel) (by decide +kernel) (by decide +kernel)
    (by first | exact .inl (by decide +kernel) | exact .inr (by decide +kernel)) (by rw [isSubtype_type]; kernel_rfl)
theorem dd_slot_iter : Slot "collections.defaultdict" "__iter__" "dict.__iter__" :=
  .of (owner := "dict") (n := "__iter__") (by rw [typeLookup_type, builtinLookup_eq_fast]; kernel_rfl) (by decide +kernel) (by decide +kernel) (by decide +kernel)
    (by first | exact .inl (by decide +kernel) | exact .inr (by decide +kernel)) (by rw [isSubtype_type]; kernel_rfl)
theorem dd_called : TypeCalled "collections.defaultdict" "dict.__new__" "collections.defaultdict.__init__" :=
  ⟨by decide +kernel, by decide +kernel, ⟨_, _, dd_mro⟩, madeBy_type dd_mro dd_new (by decide +kernel), by decide +kernel, dd_sub, dd_slot_init⟩
theorem dd_typeCall1 (v : Value) : checkTypeCall "collections.defaultdict" ⟨[v], []⟩ = pure () := by first | kernel_rfl | rfl
theorem dd_newCall1 (v : Value) : checkBuiltinCall "dict.__new__" ⟨[.type "collections.defaultdict", v], []⟩ = pure () := by first | kernel_rfl | rfl
theorem dd_entry_init : entryFor table "collections.defaultdict.__init__" = some Builtin.«collections.defaultdict.__init__» := entryFor_of_tree (by kernel_rfl)
theorem dd_entry_miss : entryFor table "collections.defaultdict.__missing__" = some Builtin.«collections.defaultdict.__missing__» := entryFor_of_tree (by kernel_rfl)
theorem dd_args_init (a v : Value) : argsOk "collections.defaultdict.__init__" ⟨[a, v], []⟩ := by unfold argsOk; kernel_rfl
theorem dd_args_miss (a v : Value) : argsOk "collections.defaultdict.__missing__" ⟨[a, v], []⟩ := by unfold argsOk; kernel_rfl
end F
def ddO (es : Array DictEntry) (ep : Nat) : Obj := { cls := .type "collections.defaultdict", data := .dict es ep, slots := #[some (.type "int")] }
def dd00 : Obj := { cls := .type "collections.defaultdict", data := .dict #[] 0 }
end PySem

namespace PySem
open PyProof.Rows
section
variable {M : Model} {A : Around} {E : Value → Shared → Prop} {s : Shared}
theorem wpAny_borrowed {f : Value} {pos : List Value} {Q : Value → Shared → Prop} (h : wpAny M A (call f pos) Q E s) : wpAny M A (callBorrowed f pos) Q E s := fun Γ p hΓ => by
  have q := h Γ p hΓ
  rw [Sem.wp_cmd_call] at q
  unfold callBorrowed
  rw [Sem.wp_call]
  refine Eq.mp ?_ q
  congr 1
  funext r s'
  cases r with
  | error e => rfl
  | ok f => cases f <;> rfl
end
namespace F
theorem int_typeCall0 : checkTypeCall "int" ⟨[], []⟩ = pure () := by first | kernel_rfl | rfl
theorem int_newCall0 : checkBuiltinCall "int.__new__" ⟨[.type "int"], []⟩ = pure () := by first | kernel_rfl | rfl
theorem int_plain_new : plainId "int.__new__" = true := by decide +kernel
theorem int_args_init (a : Value) : argsOk "object.__init__" ⟨[a], []⟩ := by unfold argsOk; kernel_rfl
theorem int_entry_init : entryFor table "object.__init__" = some Builtin.«object.__init__» := entryFor_of_tree (by kernel_rfl)
theorem dn_plain_new : plainId "dict.__new__" = true := by decide +kernel
end F
section
variable {prog : Program} {w : World} {A : Around} {E : Value → Shared → Prop} {s : Shared}
theorem int_code_new {Q₁ : Value → Shared → Prop} (h : Q₁ (.int 0 s.toks) { s with toks := s.toks + 1 }) :
    codeAny (model prog w) A (.call (.builtin "int.__new__") ⟨[.type "int"], []⟩) (wants Q₁ E) s := by
  refine codeAny_call_builtin F.int_plain_new F.entry_int_new (wpAny_of_eq F.int_newCall0 ?_)
  obtain ⟨hp, g, d, tk, os⟩ := s
  have f1 := F.conv_sub_int
  have f2 := F.madeHere_int
  unfold Builtin.«int.__new__»
  repeat (any_goals (first | assumption | wp_step))
theorem int_call0 {Q : Value → Shared → Prop} (h : Q (.int 0 s.toks) { s with toks := s.toks + 1 }) : wpAny (model prog w) A (call (.type "int") []) Q E s := by
  refine callType_codes (Q₁ := fun obj s₁ => obj = .int 0 s.toks ∧ s₁ = { s with toks := s.toks + 1 }) F.called_int F.int_typeCall0 F.int_entry_init (int_code_new ⟨rfl, rfl⟩) ?_
  rintro obj s₁ ⟨rfl, rfl⟩
  refine ⟨rfl, F.int_args_init _, ?_⟩
  exact wpAny_pure ⟨rfl, h⟩
theorem dd_code_new (v : Value) {Q₁ : Value → Shared → Prop} (h : Q₁ (.ref s.heap.objs.size) { s with heap := s.heap.push dd00 }) :
    codeAny (model prog w) A (.call (.builtin "dict.__new__") ⟨[.type "collections.defaultdict", v], []⟩) (wants Q₁ E) s := by
  refine codeAny_call_builtin F.dn_plain_new F.kt_entry_dict_new (wpAny_of_eq (F.dd_newCall1 v) ?_)
  unfold Builtin.«dict.__new__»
  refine wpAny_bind (wpAny_of_eq (a := true) rfl ?_)
  refine PySem.W.KFB.if_not rfl ?_
  refine wpAny_bind (wpAny_of_eq (a := true) F.dd_subd ?_)
  refine PySem.W.KFB.if_not rfl ?_
  refine wpAny_bind (wpAny_of_eq F.dd_mro ?_)
  show wpAny _ _ (if false = true then _ else _) _ _ _
  rw [if_neg (by decide)]
  refine wpAny_bind ?_
  exact wpAny_newObj_type (wpAny_pure h) (by show (0 : Nat) ≤ _; exact Nat.zero_le _)
end
end PySem

namespace PySem
open PyProof.Rows
theorem F.type_callable : typeLookup (.type "type") "__call__" = pure (some (.builtin "type.__call__")) := by rw [typeLookup_type, builtinLookup_eq_fast]; kernel_rfl
section
variable {prog : Program} {w : World} {A : Around} {E : Value → Shared → Prop} {s : Shared}
theorem dd_notOrd {name : String} {args : Args} {Q : Unit → Shared → Prop} (hT : s.TypeIs (args.pos.headD .none) "collections.defaultdict") (h : Q () s) :
    wpAny (model prog w) A (Builtin.Dict.notOrdered name args) Q E s := by
  unfold Builtin.Dict.notOrdered
  split
  · refine wpAny_bind (wpAny_typeOf hT ?_)
    rw [if_pos (by decide)]
    have f : isSubtype (.type "collections.defaultdict") (.type "collections.OrderedDict") = pure false := by rw [isSubtype_type]; kernel_rfl
    refine wpAny_bind (wpAny_isInstance hT f ?_)
    exact wpAny_pure h
  · exact wpAny_pure h
theorem dd_call1 {Q : Value → Shared → Prop} (h : ∀ h', h'.get? s.heap.objs.size = some (ddO #[] 0) → (∀ b o, s.heap.get? b = some o → h'.get? b = some o) → Q (.ref s.heap.objs.size) { s with heap := h' }) :
    wpAny (model prog w) A (call (.type "collections.defaultdict") [.type "int"]) Q E s := by
  refine callType_codes (Q₁ := fun obj s₁ => obj = .ref s.heap.objs.size ∧ s₁ = { s with heap := s.heap.push dd00 }) F.dd_called (F.dd_typeCall1 _) F.dd_entry_init (dd_code_new _ ⟨rfl, rfl⟩) ?_
  rintro obj s₁ ⟨rfl, rfl⟩
  have hg : (s.heap.push dd00).get? s.heap.objs.size = some dd00 := Heap.get?_push_size _ rfl
  have hT : ({ s with heap := s.heap.push dd00 } : Shared).TypeIs (.ref s.heap.objs.size) "collections.defaultdict" := ⟨_, hg, rfl⟩
  refine ⟨hT, F.dd_args_init _ _, ?_⟩
  unfold Builtin.«collections.defaultdict.__init__»
  have hI : ({ s with heap := s.heap.push dd00 } : Shared).TypeIs (.type "int") "type" := rfl
  refine wpAny_bind (m := specialOf (.type "int") "__call__") (wpAny_specialOf hI F.type_callable ?_)
  show wpAny _ _ (slotAt s.heap.objs.size 0 >>= _) _ _ _
  refine wpAny_bind ?_
  unfold slotAt
  refine wpAny_bind (wpAny_loadPart hg (wpAny_pure ?_))
  refine wpAny_bind ?_
  unfold Builtin.Collections_defaultdict.setFactory
  show wpAny _ _ (slotAt s.heap.objs.size 0 >>= _) _ _ _
  refine wpAny_bind ?_
  unfold slotAt
  refine wpAny_bind (wpAny_loadPart hg (wpAny_pure ?_))
  refine wpAny_bind (wpAny_pure ?_)
  show wpAny _ _ (setSlotAt s.heap.objs.size 0 (some (.type "int"))) _ _ _
  unfold setSlotAt
  rw [if_neg (by decide)]
  refine wpAny_bind (wpAny_pure ?_)
  refine wpAny_updatePart hg ?_
  have hu : ((s.heap.push dd00).update s.heap.objs.size fun o => { o with slots := (o.slots ++ Array.replicate (0 + 1 - o.slots.size) none).setIfInBounds 0 (some (.type "int")) }).get? s.heap.objs.size = some (ddO #[] 0) := Heap.get?_update_self _ hg rfl
  have hT2 : ({ s with heap := ((s.heap.push dd00).update s.heap.objs.size fun o => { o with slots := (o.slots ++ Array.replicate (0 + 1 - o.slots.size) none).setIfInBounds 0 (some (.type "int")) }) } : Shared).TypeIs (.ref s.heap.objs.size) "collections.defaultdict" := ⟨_, hu, rfl⟩
  refine wpAny_bind ?_
  show wpAny _ _ (runValue (.builtin "dict.__init__" ⟨[.ref s.heap.objs.size], []⟩)) _ _ _
  refine wpAny_runValue (codeAny_builtin F.entry_dict_init ?_)
  unfold Builtin.«dict.__init__»
  refine wpAny_bind ?_
  unfold Builtin.Dict.selfAndRest
  refine wpAny_bind (dd_notOrd hT2 ?_)
  refine wpAny_bind (wpAny_pure (wpAny_pure ?_))
  show wpAny _ _ (Builtin.Dict.addKeywords s.heap.objs.size [] >>= fun _ => ret .none) _ _ _
  refine wpAny_bind (wpAny_pure (wpAny_pure ?_))
  refine wpAny_pure ⟨rfl, ?_⟩
  refine h _ hu fun b o e => ?_
  have hb : b ≠ s.heap.objs.size := fun z => by
    have hl := Heap.lt_size e
    rw [z] at hl
    exact absurd hl (Nat.lt_irrefl _)
  exact (Heap.get?_update_other _ _ (Ne.symm hb)).trans (Heap.get?_push_of_some _ e)
end
end PySem

namespace PySem
/-- a special method that goes on as another text -/
theorem spec_again {prog : Program} {w : World} {A : Around} {E : Value → Shared → Prop} {s : Shared} {T : String} {name : Str} {id : String} {B : Builtin} {self : Value} {us : List Value} {Q : Value → Shared → Prop}
    (sl : Slot T name id) (ty : s.TypeIs self T) (en : entryFor table id = some B) (ok : argsOk id ⟨self :: us, []⟩)
    (run : wpAny (model prog w) A.in1 (B ⟨self :: us, []⟩) (fun fin t => match fin with
      | .done (.ret v) => Q v t
      | .done _ => False
      | .again c => c.quiet = true ∧ codeAny (model prog w) A c (fun r u => match r with | .ok (.ret v) => Q v u | .ok _ => False | .error e => E e u) t) E s) :
    wpAny (model prog w) A (call (.builtin id) (self :: us)) Q E s := by
  refine wpAny_call (codeAny_call_builtin sl.plain en (sl.check _ _ _ _ _ _ _ _ ty ok ?_))
  refine wpAny_mono run (fun fin t q => ?_) fun _ _ q => q
  cases fin with
  | done f => cases f <;> exact q
  | again c => exact q
end PySem
namespace DDict
open PySem PyProof.Rows
section
variable {prog : Program} {w : World} {κ : Type} [DecidableEq κ] {knd : KeyKind prog w κ} {es : Array DictEntry} {kvs : List (κ × Value)} {k : κ} {key v : Value}
/-! ### tables of entries, by themselves -/
def Tb (knd : KeyKind prog w κ) (es : Array DictEntry) (kvs : List (κ × Value)) : Prop := KeysOf knd es ∧ Pairs knd es.toList kvs ∧ (kvs.map (·.1)).Nodup
theorem Tb.size (t : Tb knd es kvs) : es.size = kvs.length := by rw [← t.2.1.length, Array.length_toList]
theorem Tb.idx (t : Tb knd es kvs) (k : κ) : (es.findIdx? fun e => knd.is k e.key) = kvs.findIdx? fun p => decide (p.1 = k) := by
  rw [← t.2.1.findIdx k]; obtain ⟨l⟩ := es; simp
/-- found: what stands there -/
theorem Tb.hit (t : Tb knd es kvs) {i : Nat} (e : (es.findIdx? fun x => knd.is k x.key) = some i) : ∃ x, es[i]? = some x ∧ valueAt kvs k = some x.val := by
  obtain ⟨l⟩ := es
  have q : (l.findIdx? fun x => knd.is k x.key) = some i := by simpa using e
  obtain ⟨x, a, _, c⟩ := t.2.1.at q
  exact ⟨x, by simpa using a, c⟩
/-- not found -/
theorem Tb.out (t : Tb knd es kvs) (e : (es.findIdx? fun x => knd.is k x.key) = none) : valueAt kvs k = none := by
  rw [t.idx k] at e
  unfold valueAt
  rw [List.find?_eq_none.mpr fun p hp => by have z := List.findIdx?_eq_none_iff.mp e p hp; simpa using z]
  rfl
theorem Tb.miss (t : Tb knd es kvs) (e : valueAt kvs k = none) : (es.findIdx? fun x => knd.is k x.key) = none := by
  cases z : es.findIdx? fun x => knd.is k x.key with
  | none => rfl
  | some i => obtain ⟨x, _, c⟩ := t.hit z; rw [e] at c; cases c
theorem Tb.new (t : Tb knd es kvs) (hk : knd.is k key = true) (e : valueAt kvs k = none) : Tb knd (es.push ⟨knd.hash k, key, v⟩) (kvs ++ [(k, v)]) := by
  refine ⟨t.1.push hk v, ?_, ?_⟩
  · have q := t.2.1.append hk (knd.hash k) v; obtain ⟨l⟩ := es; simpa using q
  · have out : k ∉ kvs.map (·.1) := not_mem_of_findIdx_none ((t.idx k).symm.trans (t.miss e))
    rw [List.map_append]
    refine List.nodup_append.mpr ⟨t.2.2, by simp, fun a ha b hb z => out ?_⟩
    have y : b = k := by simpa using hb
    rw [← y, ← z]
    exact ha
theorem Tb.old (t : Tb knd es kvs) {i : Nat} (e : (es.findIdx? fun x => knd.is k x.key) = some i) : Tb knd (es.modify i fun x => { x with val := v }) (stored kvs k v) := by
  have st : stored kvs k v = kvs.map fun p => if p.1 = k then (p.1, v) else p := by unfold stored; exact if_pos (any_of_findIdx_some ((t.idx k).symm.trans e))
  rw [st]
  refine ⟨t.1.modify i v, ?_, (keys_map_store kvs k v).symm ▸ t.2.2⟩
  obtain ⟨l⟩ := es
  have q : (l.findIdx? fun x => knd.is k x.key) = some i := by simpa using e
  simpa using t.2.1.modify t.2.2 q v
/-! ### an object that keeps such a table, whatever its class -/
def At (knd : KeyKind prog w κ) (h : Heap) (a : Addr) (o : Obj) (kvs : List (κ × Value)) : Prop := ∃ es ep, h.get? a = some o ∧ o.data = .dict es ep ∧ Tb knd es kvs
/-- but for its entries the same -/
def Like (o o' : Obj) : Prop := o'.cls = o.cls ∧ o'.dict = o.dict ∧ o'.slots = o.slots
variable {A : Around} {E : Value → Shared → Prop} {s : Shared} {a : Addr} {o : Obj}
theorem like_md {f : Array DictEntry → Array DictEntry} : Like o (o.mapDict f) := by
  obtain ⟨c, d, dt, sl⟩ := o
  cases dt <;> exact ⟨rfl, rfl, rfl⟩
theorem like_mk {f : Array DictEntry → Array DictEntry} : Like o (o.mapDictKeys f) := by
  obtain ⟨c, d, dt, sl⟩ := o
  cases dt <;> exact ⟨rfl, rfl, rfl⟩
theorem at_put (x : At knd s.heap a o kvs) (hk : knd.is k key = true) (hz : kvs.length ≤ sizeLine) {Q : Unit → Shared → Prop}
    (q : ∀ h' o', At knd h' a o' (stored kvs k v) → Like o o' → Heap.SameBut a s.heap h' → Q () { s with heap := h' }) : wpAny (model prog w) A (dictSetHashed a key (knd.hash k) v) Q E s := by
  obtain ⟨es, ep, ho, hd, t⟩ := x
  unfold dictSetHashed
  try with_reducible refine wpAny_holding ?_
  refine wpAny_bind (wpAny_dictFind_of hk ho hd t.1 ?_)
  cases e : es.findIdx? fun x => knd.is k x.key with
  | some i =>
    refine wpAny_bind (wpAny_rule (wpAny_bind (wpAny_updateDict ho hd (wpAny_point ?_))))
    exact q _ _ ⟨_, ep, Heap.get?_update_self _ ho (Obj.isFreed_of_dict (Obj.data_mapDict hd _)), Obj.data_mapDict hd _, t.old e⟩ like_md (Heap.SameBut.update ..)
  | none =>
    have z := t.out e
    refine wpAny_bind (wpAny_rule (wpAny_updateDictKeys (hz := by rw [t.size]; exact hz) ho hd ?_))
    refine q _ _ ⟨_, ep + 1, Heap.get?_update_self _ ho (Obj.isFreed_of_dict (Obj.data_mapDictKeys hd _)), Obj.data_mapDictKeys hd _, ?_⟩ like_mk (Heap.SameBut.update ..)
    rw [stored_absent z]
    exact t.new hk z
theorem at_set (x : At knd s.heap a o kvs) (hk : knd.is k key = true) (hz : kvs.length ≤ sizeLine) {Q : Unit → Shared → Prop}
    (q : ∀ h' o', At knd h' a o' (stored kvs k v) → Like o o' → Heap.SameBut a s.heap h' → Q () { s with heap := h', toks := s.toks + 1 }) : wpAny (model prog w) A (dictSet a key v) Q E s := by
  unfold dictSet
  try with_reducible refine wpAny_holding ?_
  exact wpAny_bind (knd.pyHash hk (at_put (s := { s with toks := s.toks + 1 }) x hk hz q))
theorem at_get (x : At knd s.heap a o kvs) (hk : knd.is k key = true) {Q : Option Value → Shared → Prop} (q : Q (valueAt kvs k) { s with toks := s.toks + 1 }) : wpAny (model prog w) A (dictGet a key) Q E s := by
  obtain ⟨es, ep, ho, hd, t⟩ := x
  unfold dictGet
  try with_reducible refine wpAny_holding ?_
  refine wpAny_bind (knd.pyHash hk (wpAny_bind (wpAny_dictFind_of (s := { s with toks := s.toks + 1 }) hk ho hd t.1 ?_)))
  cases e : es.findIdx? fun x => knd.is k x.key with
  | none => rw [t.out e] at q; exact wpAny_pure q
  | some i =>
    obtain ⟨y, g, c⟩ := t.hit e
    rw [c] at q
    refine wpAny_bind (wpAny_dictEntries (s := { s with toks := s.toks + 1 }) ho hd (wpAny_pure ?_))
    rw [g]
    exact q
theorem at_dflt (x : At knd s.heap a o kvs) (hk : knd.is k key = true) (hz : kvs.length ≤ sizeLine) (hv : valueAt kvs k = none) {Q : Value → Shared → Prop}
    (q : ∀ h' o', At knd h' a o' (stored kvs k v) → Like o o' → Heap.SameBut a s.heap h' → Q v { s with heap := h', toks := s.toks + 1 }) : wpAny (model prog w) A (dictSetDefault a key v) Q E s := by
  obtain ⟨es, ep, ho, hd, t⟩ := x
  unfold dictSetDefault
  try with_reducible refine wpAny_holding ?_
  refine wpAny_bind (knd.pyHash hk (wpAny_bind (wpAny_dictFind_of (s := { s with toks := s.toks + 1 }) hk ho hd t.1 ?_)))
  rw [t.miss hv]
  refine wpAny_bind (wpAny_rule (wpAny_bind (wpAny_updateDictKeys (s := { s with toks := s.toks + 1 }) (hz := by rw [t.size]; exact hz) ho hd (wpAny_pure ?_))))
  refine q _ _ ⟨_, ep + 1, Heap.get?_update_self _ ho (Obj.isFreed_of_dict (Obj.data_mapDictKeys hd _)), Obj.data_mapDictKeys hd _, ?_⟩ like_mk (Heap.SameBut.update ..)
  rw [stored_absent hv]
  exact t.new hk hv
/-! ### a defaultdict(int) -/
def IsDD (o : Obj) : Prop := Like (ddO #[] 0) o
def Dd (knd : KeyKind prog w κ) (h : Heap) (a : Addr) (kvs : List (κ × Value)) : Prop := ∃ o, IsDD o ∧ At knd h a o kvs
theorem Dd.ext {h h' : Heap} (x : Dd knd h a kvs) (e : ∀ o, h.get? a = some o → h'.get? a = some o) : Dd knd h' a kvs := let ⟨o, l, es, ep, ho, r⟩ := x; ⟨o, l, es, ep, e _ ho, r⟩
theorem Dd.ty (x : Dd knd s.heap a kvs) : s.TypeIs (.ref a) "collections.defaultdict" := let ⟨_, l, _, _, ho, _⟩ := x; ⟨_, ho, l.1⟩
theorem dd_nil {h : Heap} (ho : h.get? a = some (ddO #[] 0)) : Dd knd h a [] := ⟨_, ⟨rfl, rfl, rfl⟩, #[], 0, ho, rfl, fun _ z => by simp at z, Pairs.nil, List.nodup_nil⟩
theorem IsDD.trans {o o' : Obj} (l : IsDD o) (m : Like o o') : IsDD o' := ⟨m.1.trans l.1, m.2.1.trans l.2.1, m.2.2.trans l.2.2⟩
/-- d[k] = v -/
theorem dd_setI {Q : Unit → Shared → Prop} (x : Dd knd s.heap a kvs) (hk : knd.is k key = true) (hz : kvs.length ≤ sizeLine)
    (q : ∀ h' t, Dd knd h' a (stored kvs k v) → Heap.SameBut a s.heap h' → Q () { s with heap := h', toks := t }) : wpAny (model prog w) A (setItem (.ref a) key v) Q E s := by
  have ty := x.ty
  obtain ⟨o, l, x⟩ := x
  unfold setItem
  try with_reducible refine wpAny_holding ?_
  refine wpAny_bind (wpAny_sequenceKey ty (by decide) (wpAny_bind (wpAny_callSpecial?_slot (name := Str.ofString "__setitem__") ty F.dd_slot_set (wpAny_call_entry F.dd_slot_set ty F.entry_dict_setitem ?_ (F.args_dict_setitem_3 _ _ _)))))
  refine wpAny_bind (m := Builtin.Dict.notOrdered _ _) (dd_notOrd ty ?_)
  refine wpAny_bind (m := dictSet a key v) (at_set x hk hz fun h' o' y m sb => ?_)
  exact wpAny_pure ⟨.none, rfl, wpAny_pure (q h' _ ⟨o', l.trans m, y⟩ sb)⟩
/-- d[k], there -/
theorem dd_getI {Q : Value → Shared → Prop} {u : Value} (x : Dd knd s.heap a kvs) (hk : knd.is k key = true) (hv : valueAt kvs k = some u) (q : ∀ t, Q u { s with toks := t }) : wpAny (model prog w) A (getItem (.ref a) key) Q E s := by
  have ty := x.ty
  obtain ⟨o, l, x⟩ := x
  unfold getItem
  try with_reducible refine wpAny_holding ?_
  refine wpAny_bind (wpAny_sequenceKey ty (by decide) (wpAny_bind (wpAny_callSpecial?_slot (name := Str.ofString "__getitem__") ty F.dd_slot_item (wpAny_call_entry F.dd_slot_item ty F.entry_dict_getitem ?_ (F.args_dict_getitem_2 _ _)))))
  refine wpAny_bind (m := dictGet a key) (at_get x hk ?_)
  rw [hv]
  exact wpAny_pure ⟨u, rfl, wpAny_pure (q _)⟩
/-- d[k], not there: nought is laid -/
theorem dd_getI0 {Q : Value → Shared → Prop} (hm : (a == sysModules) = false) (x : Dd knd s.heap a kvs) (hk : knd.is k key = true) (hz : kvs.length ≤ sizeLine) (hv : valueAt kvs k = none)
    (q : ∀ h' u t, Dd knd h' a (stored kvs k (.int 0 u)) → Heap.SameBut a s.heap h' → Q (.int 0 u) { s with heap := h', toks := t }) : wpAny (model prog w) A (getItem (.ref a) key) Q E s := by
  have ty := x.ty
  obtain ⟨o, l, x⟩ := x
  unfold getItem
  try with_reducible refine wpAny_holding ?_
  refine wpAny_bind (wpAny_sequenceKey ty (by decide) (wpAny_bind (wpAny_callSpecial?_slot (name := Str.ofString "__getitem__") ty F.dd_slot_item (wpAny_call_entry F.dd_slot_item ty F.entry_dict_getitem ?_ (F.args_dict_getitem_2 _ _)))))
  refine wpAny_bind (m := dictGet a key) (at_get x hk ?_)
  rw [hv]
  refine wpAny_bind (m := Builtin.Dict.missed a key) (wpAny_missed_other hm ?_)
  have ty1 : ({ s with toks := s.toks + 1 } : Shared).TypeIs (.ref a) "collections.defaultdict" := ty
  refine wpAny_bind (wpAny_typeOf ty1 ?_)
  rw [if_pos (by decide)]
  refine wpAny_bind (wpAny_callSpecial?_slot (name := Str.ofString "__missing__") ty1 F.dd_slot_miss (spec_again F.dd_slot_miss ty1 F.dd_entry_miss (F.dd_args_miss _ _) ?_))
  unfold Builtin.«collections.defaultdict.__missing__»
  refine wpAny_bind (m := selfAndOne "defaultdict.__missing__" _) (wpAny_pure (wpAny_bind ?_))
  unfold Builtin.Collections_defaultdict.factory?
  have sl : o.slots = #[some (.type "int")] := l.2.2
  obtain ⟨es, ep, ho, hd, t⟩ := id x
  refine wpAny_bind (m := PySem.slotAt a 0) ?_
  unfold PySem.slotAt
  refine wpAny_bind (wpAny_loadPart ho (wpAny_pure ?_))
  rw [sl]
  refine wpAny_pure (wpAny_bind (m := callOutOfASlot (.type "int")) ?_)
  unfold callOutOfASlot
  refine wpAny_bind (m := borrowsExactly (.type "int")) (wpAny_pure ?_)
  rw [if_pos rfl]
  refine wpAny_borrowed (int_call0 (wpAny_pure ⟨plainId_quiet (by decide +kernel) _, codeAny_builtin PySem.F.entry_dict_setdefault ?_⟩))
  rw [Around.under_plainId (by decide +kernel) _]
  unfold Builtin.«dict.setdefault»
  refine wpAny_bind ?_
  unfold Builtin.Dict.keyAndDefault
  have ty2 : ({ s with toks := s.toks + 1 + 1 } : Shared).TypeIs (.ref a) "collections.defaultdict" := ty
  refine wpAny_bind (dd_notOrd ty2 (wpAny_bind (wpAny_pure ?_)))
  refine wpAny_bind (m := selfAndSome _ _ _ _ _) (wpAny_pure (wpAny_pure ?_))
  show wpAny _ _ (if (a == sysModules) = true then _ else _) _ _ _
  rw [hm, if_neg Bool.false_ne_true]
  have x2 : At knd ({ s with toks := s.toks + 1 + 1 } : Shared).heap a o kvs := x
  refine wpAny_bind (at_dflt (v := .int 0 (s.toks + 1)) x2 hk hz hv fun h' o' y m sb => wpAny_pure ?_)
  exact wpAny_bind (wpAny_rule (wpAny_pure ⟨_, rfl, wpAny_pure (q h' _ _ ⟨o', l.trans m, y⟩ sb)⟩))
end
end DDict

namespace PySem.F
theorem dd_slot_ga : Slot "collections.defaultdict" "__getattribute__" "collections.defaultdict.__getattribute__" :=
  .of (owner := "collections.defaultdict") (n := "__getattribute__") (by rw [typeLookup_type, builtinLookup_eq_fast]; kernel_rfl) (by decide +kernel) (by decide +kernel) (by decide +kernel)
    (by first | exact .inl (by decide +kernel) | exact .inr (by decide +kernel)) (by rw [isSubtype_type]; kernel_rfl)
theorem dd_entry_ga : entryFor table "collections.defaultdict.__getattribute__" = some Builtin.«object.__getattribute__» :=
  entryFor_alias (id' := "object.__getattribute__") (by kernel_rfl) (by decide +kernel) (by decide +kernel) (by kernel_rfl)
theorem dd_args_ga (a b : Value) : argsOk "collections.defaultdict.__getattribute__" ⟨[a, b], []⟩ := by unfold argsOk; kernel_rfl
end PySem.F
namespace DDict
open PySem PySem.Spec PyProof.Rows L2 DSub
theorem m_ddkeys : Bnd.TMeth "collections.defaultdict" "keys" "dict.keys" "collections.defaultdict.__getattribute__" where
  look := by rw [typeLookup_type, builtinLookup_eq_fast]; kernel_rfl
  kind := by first | kernel_rfl | rfl
  owner := by
    rw [show ".".intercalate ("dict.keys".cutAt '.').dropLast = "dict" by first | decide +kernel | kernel_rfl, isSubtype_type]
    kernel_rfl
  plainName := by decide +kernel
  gaS := F.dd_slot_ga
  gaE := F.dd_entry_ga
  gaA := F.dd_args_ga
theorem own_dd {h : Heap} {a : Addr} {o : Obj} {es : Array DictEntry} {n : Nat} (l : IsDD o) (hd : o.data = .dict es n) (hx : h.get? a = some o) : Bnd.OwnNone h a := by
  obtain ⟨c, d, dt, sl⟩ := o
  obtain ⟨l1, l2, l3⟩ := l
  cases l1; cases l2; cases l3; cases hd
  intro M A E Q g dr t os hq
  unfold Builtin.ObjectAttr.ownDict
  repeat (any_goals (first | assumption | wp_step))
section
variable {prog : Program} {w : World} {A : Around} {E : Value → Shared → Prop} {h : Heap} {g : Array GenState} {d : Drawn} {t : Nat} {os : OsState} {a : Addr} {o : Obj} {T : String} {name : Str} {id ga : String}
/-- getattr, asked for whether it is there -/
theorem ask_T {Q : Option Value → Shared → Prop} (m : Bnd.TMeth T name id ga) (hx : h.get? a = some o) (hc : o.cls = .type T) (hown : Bnd.OwnNone h a)
    (hq : Q (some (.ref h.objs.size)) ⟨h.push (SreS.bndO id (.ref a)), g, d, t + 1, os⟩) : wpAny (model prog w) A (getAttr? (.ref a) name) Q E ⟨h, g, d, t, os⟩ := by
  unfold getAttr? getAttrBy?
  refine wpAny_bind (wpAny_mkText ?_)
  refine wpAny_bind (wpAny_attempt ?_)
  unfold getAttrBy
  refine wpAny_holding (wpAny_bind (wpAny_typeOf (show (⟨h, g, d, t + 1, os⟩ : Shared).TypeIs (.ref a) T from ⟨_, hx, hc⟩) (wpAny_bind ?_)))
  rw [m.gaS.lookup]
  refine wpAny_pure ?_
  show wpAny _ _ (if (onTheHeap (Value.type T) && Value.builtin ga == Value.builtin "object.__getattribute__") = true then _ else _) _ _ _
  refine PySem.W.KFB.if_not rfl ?_
  unfold getAttrByItsOwn hookBefore
  refine wpAny_bind ?_
  refine PySem.W.KFB.if_not rfl ?_
  refine wpAny_pure ?_
  refine wpAny_bind (wpAny_attempt (wpAny_holding ?_))
  unfold callGetattribute
  rw [show (false && onTheHeap (Value.builtin ga)) = false from rfl, if_neg Bool.false_ne_true]
  unfold boundAndCalled
  rw [m.gaS.bind (.ref a)]
  refine wpAny_bind (wpAny_pure ?_)
  show wpAny _ _ (call (.builtin ga) [.ref a, .str name t]) _ _ _
  refine wpAny_call (Bnd.call_T m hx hc hown ?_)
  show wpAny _ _ (handedOut (.ref h.objs.size)) _ _ _
  rw [PySem.W.handedOut_of (v := .ref h.objs.size) rfl]
  exact wpAny_pure (wpAny_pure hq)
end
end DDict

namespace DDict
open PySem PySem.Spec PyProof.Rows L2
section
variable {prog : Program} {w : World} {κ : Type} [DecidableEq κ] {knd : KeyKind prog w κ}
variable {A : Around} {E : Value → Shared → Prop} {s : Shared} {c o : Addr} {so : Obj} {kvs : List (κ × Value)}
theorem stored_next {i : Nat} {p : κ × Value} (n : (kvs.map (·.1)).Nodup) (e : kvs[i]? = some p) : stored (kvs.take i) p.1 p.2 = kvs.take (i + 1) := by
  have out : valueAt (kvs.take i) p.1 = none := by
    unfold valueAt
    rw [List.find?_eq_none.mpr]
    · rfl
    · intro r hr
      obtain ⟨j, hj⟩ := List.mem_iff_getElem?.mp hr
      rw [List.getElem?_take] at hj
      split at hj
      · rename_i lt
        intro z
        have z : r.1 = p.1 := by simpa using z
        have a1 : (kvs.map (·.1))[j]? = some r.1 := by rw [List.getElem?_map, hj]; rfl
        have a2 : (kvs.map (·.1))[i]? = some p.1 := by rw [List.getElem?_map, e]; rfl
        obtain ⟨lj, e1⟩ := List.getElem?_eq_some_iff.mp a1
        obtain ⟨li, e2⟩ := List.getElem?_eq_some_iff.mp a2
        have := (List.getElem_inj n).mp (e1.trans (z.trans e2.symm))
        omega
      · cases hj
  rw [stored_absent out, List.take_add_one, e]
  rfl
/-- an empty dict takes over what an object with a table holds -/
theorem fill {nm : String} (hc : c ≠ o) (ho : (o == sysModules) = false) (hd : s.heap.DictOf knd c []) (x : At knd s.heap o so kvs) (hz : kvs.length ≤ sizeLine) {Q : Unit → Shared → Prop}
    (q : ∀ h', h'.DictOf knd c kvs → Heap.SameBut c s.heap h' → Q () { s with heap := h' }) : wpAny (model prog w) A (Builtin.Dict.mergeDict nm c o) Q E s := by
  obtain ⟨es, ep, go, dt, t⟩ := x
  unfold Builtin.Dict.mergeDict
  rw [if_neg (fun z => hc (by simpa using z))]
  refine wpAny_bind ?_
  unfold Builtin.Dict.showsAll
  rw [ho, if_neg Bool.false_ne_true]
  refine wpAny_pure (wpAny_bind (wpAny_dictEntries go dt ?_))
  obtain ⟨co, ces, cep, gc, cc, cd, ck, cp, cn⟩ := id hd
  have c0 : ces = #[] := by
    have z := cp.length
    rw [Array.length_toList] at z
    exact Array.size_eq_zero_iff.mp z
  subst c0
  dsimp only
  split
  · refine wpAny_bind (wpAny_dictEntries gc cd ?_)
    rw [if_pos (show (#[] : Array DictEntry).isEmpty = true from rfl)]
    refine wpAny_bind (wpAny_entriesForEmpty (knd := knd) go dt t.1 ?_)
    split
    · have big : es.size ≤ sizeLine + 1 := by rw [t.size]; omega
      refine wpAny_bind (wpAny_updateDictKeysTo gc cd (wpAny_pure (q _ ?_ (Heap.SameBut.update ..))) big)
      exact ⟨_, es, cep + 1, Heap.get?_update_self _ gc (Obj.isFreed_of_dict (Obj.data_mapDictKeys cd _)), cc.mapDictKeys _, Obj.data_mapDictKeys cd _, t⟩
    · rename_i none
      have e0 : es = #[] := Array.isEmpty_iff.mp (by simpa using none)
      have k0 : kvs = [] := List.length_eq_zero_iff.mp (by rw [← t.size, e0]; rfl)
      subst k0
      exact wpAny_pure (q _ hd (Heap.SameBut.refl _ _))
  · refine wpAny_bind (wpAny_dictEpoch go dt (wpAny_bind (wpAny_dictEntries go dt (wpAny_bind ?_))))
    rw [Std.Legacy.Range.forIn_eq_forIn_range']
    simp only [Std.Legacy.Range.size, Nat.sub_zero, Nat.add_sub_cancel, Nat.div_one]
    refine wpAny_forIn_list _ (fun left _ u => ∃ (h' : Heap) (i : Nat), u = { s with heap := h' } ∧ left = List.range' i (es.size - i) ∧ i ≤ es.size ∧ h'.DictOf knd c (kvs.take i) ∧ h'.get? o = some so ∧ Heap.SameBut c s.heap h') _ ?_ ?_ _ _ ⟨s.heap, 0, rfl, by simp, Nat.zero_le _, hd, go, Heap.SameBut.refl _ _⟩
    · rintro j left _ u ⟨h', i, rfl, e, le, dh, gh, sb⟩
      obtain ⟨m, em⟩ : ∃ m, es.size - i = m + 1 := by
        cases z : es.size - i with
        | zero => rw [z] at e; cases e
        | succ m => exact ⟨m, rfl⟩
      rw [em, List.range'_succ] at e
      obtain ⟨e1, e2⟩ := List.cons.inj e
      rw [e1, e2]
      have lt : i < es.size := by omega
      have ltk : i < kvs.length := by rw [← t.size]; exact lt
      refine wpAny_bind (wpAny_dictEntries gh dt ?_)
      rw [Array.getElem?_eq_getElem lt]
      have ek : kvs[i]? = some (kvs[i].1, kvs[i].2) := List.getElem?_eq_getElem ltk
      obtain ⟨isk, vk⟩ := t.2.1.get? (e := es[i]) (by simp [lt]) ek
      obtain ⟨k', is', hh⟩ := t.1 es[i] (Array.getElem_mem lt)
      have same : k' = kvs[i].1 := knd.inj _ _ _ is' isk
      rw [same] at hh
      refine wpAny_bind (m := holding [es[i].key, es[i].val] (dictSetHashed c es[i].key es[i].hash es[i].val)) ?_
      rw [hh, vk]
      refine wpAny_holding (wpAny_dictSetHashed_pairs (hsz := by rw [List.length_take]; omega) isk dh fun h2 d2 sb2 => ?_)
      have g2 : h2.get? o = some so := (sb2.2 o (Ne.symm hc)).trans gh
      refine wpAny_bind (wpAny_dictEpoch g2 dt ?_)
      rw [if_neg (by simp)]
      refine wpAny_pure ⟨h2, i + 1, rfl, by rw [show es.size - (i + 1) = m by omega], lt, ?_, g2, sb.trans sb2⟩
      rw [← stored_next t.2.2 ek]
      exact d2
    · rintro _ u ⟨h', i, rfl, e, le, dh, gh, sb⟩
      have full : i = es.size := by
        cases z : es.size - i with
        | zero => omega
        | succ m => rw [z, List.range'_succ] at e; cases e
      refine wpAny_pure (q h' ?_ sb)
      rw [full, t.size, List.take_length] at dh
      exact dh
/-- dict(d), d a defaultdict -/
theorem dict_of_dd {Q : Value → Shared → Prop} (hm : (o == sysModules) = false) (x : Dd knd s.heap o kvs) (hz : kvs.length ≤ sizeLine)
    (q : ∀ h' t, h'.DictOf knd s.heap.objs.size kvs → (∀ b u, s.heap.get? b = some u → h'.get? b = some u) → Q (.ref s.heap.objs.size) { s with heap := h', toks := t }) : wpAny (model prog w) A (call (.type "dict") [.ref o]) Q E s := by
  let h1 := s.heap.push { cls := .type "dict", data := .dict #[] }
  refine callType_codes (Q₁ := fun r u => r = .ref s.heap.objs.size ∧ u = { s with heap := h1 }) F.kt_called_dict (F.kt_typeCall_dict_1 _) F.entry_dict_init (kt_code_dict_new _ ⟨rfl, rfl⟩) ?_
  rintro r u ⟨rfl, rfl⟩
  have new : h1.DictOf knd s.heap.objs.size [] := Heap.DictOf.new s.heap
  have y : Dd knd h1 o kvs := x.ext fun _ e => Heap.get?_push_of_some _ e
  have ty : ({ s with heap := h1 } : Shared).TypeIs (.ref o) "collections.defaultdict" := Dd.ty (s := { s with heap := h1 }) y
  have apart : s.heap.objs.size ≠ o := by
    obtain ⟨_, _, _, _, g, _⟩ := x
    exact fun z => absurd (Heap.lt_size g) (by rw [z]; exact Nat.lt_irrefl _)
  refine ⟨new.typeIs, F.args_dict_init_2 _ _, ?_⟩
  unfold Builtin.«dict.__init__»
  refine wpAny_bind ?_
  unfold Builtin.Dict.selfAndRest
  refine wpAny_bind (wpAny_notOrdered_dict new.typeIs (wpAny_pure ?_))
  show wpAny _ _ (Builtin.Dict.updateFrom "dict.__init__" s.heap.objs.size (.ref o) [] .none) _ _ _
  unfold Builtin.Dict.updateFrom
  refine wpAny_bind (wpAny_typeOf ty ?_)
  rw [if_pos (by decide)]
  obtain ⟨so, l, a⟩ := y
  obtain ⟨es, ep, g, dt, t⟩ := id a
  refine wpAny_bind (ask_T m_ddkeys g l.1 (own_dd l dt g) ?_)
  rw [if_neg (by simp)]
  have keep : ∀ b v, h1.get? b = some v → (h1.push (SreS.bndO "dict.keys" (.ref o))).get? b = some v := fun b v e => Heap.get?_push_of_some _ e
  have a2 : At knd (h1.push (SreS.bndO "dict.keys" (.ref o))) o so kvs := ⟨es, ep, keep _ _ g, dt, t⟩
  have new2 : (h1.push (SreS.bndO "dict.keys" (.ref o))).DictOf knd s.heap.objs.size [] := new.push _
  have ty2 : ({ s with heap := h1.push (SreS.bndO "dict.keys" (.ref o)), toks := s.toks + 1 } : Shared).TypeIs (.ref o) "collections.defaultdict" := ⟨_, keep _ _ g, l.1⟩
  refine wpAny_bind ?_
  unfold Builtin.Dict.merge
  refine wpAny_bind ?_
  unfold Builtin.Dict.readDirectly
  refine wpAny_bind (wpAny_isInstance ty2 F.dd_subd ?_)
  rw [if_neg (by simp)]
  refine wpAny_bind (wpAny_specialOf ty2 F.dd_slot_iter.lookup (wpAny_pure ?_))
  rw [if_pos (by simp)]
  refine wpAny_bind (wpAny_pure (fill apart hm new2 a2 hz fun h' dh sb => ?_))
  refine wpAny_bind (m := Builtin.Dict.addKeywords _ []) (wpAny_pure (wpAny_pure ⟨rfl, q h' _ dh fun b v e => ?_⟩))
  have lt := Heap.lt_size e
  exact (sb.2 b (fun z => absurd lt (by rw [z]; exact Nat.lt_irrefl _))).trans (keep _ _ (Heap.get?_push_of_some _ e))
end
end DDict

namespace LW
open PySem PySem.Spec PyProof.Rows L2
/-! ### xs[i:j] = ys at the model's level -/
section
variable {prog : Program} {w : World} {A : Around} {E : Value → Shared → Prop} {s : Shared}
theorem bounds_nn (i j n : Nat) : PySem.sliceBounds (some (i : Int)) (some (j : Int)) none n = (((min i n : Nat) : Int), ((min j n : Nat) : Int), 1) := by
  unfold PySem.sliceBounds
  have h1 : ¬ ((i : Int) < 0) := by omega
  have h2 : ¬ ((j : Int) < 0) := by omega
  simp only [Option.getD_none, h1, h2, if_false, if_true, gt_iff_lt, Int.zero_lt_one]
  refine Prod.ext ?_ (Prod.ext ?_ rfl)
  · show max 0 (min (i : Int) (n : Int)) = ((min i n : Nat) : Int)
    omega
  · show max 0 (min (j : Int) (n : Int)) = ((min j n : Nat) : Int)
    omega
theorem wp_setSlice {l sl b : Addr} {items new : Array Value} {n n' : Nat} {vl vu : Value} {i j : Nat} {Q : Unit → Shared → Prop} (ho : s.heap.get? l = some (PySem.W.listOf items n)) (hb : s.heap.get? b = some (PySem.W.listOf new n')) (hs : s.heap.IsSliceOf sl vl vu .none) (pl : IsPart vl (some (i : Int))) (pu : IsPart vu (some (j : Int)))
    (hij : i ≤ j) (hz : items.size + new.size ≤ sizeLine) (nb : l ≠ b) (hQ : ∀ f : Array Value → Array Value, f items = items.extract 0 (min i items.size) ++ new ++ items.extract (min j items.size) items.size → Q () { s with heap := s.heap.update l (Obj.mapSeq f) }) :
    wpAny (model prog w) A (setItem (.ref l) (.ref sl) (.ref b)) Q E s := by
  have hl : s.heap.IsList l items := PySem.IsL.isList (n := n) ho
  have hbl : s.heap.IsList b new := PySem.IsL.isList (n := n') hb
  obtain ⟨os, hos, hcs, hds⟩ := id hs
  have hTs : s.TypeIs (.ref sl) "slice" := ⟨os, hos, hcs⟩
  unfold setItem
  try with_reducible refine wpAny_holding ?_
  first | refine wpAny_bind (wpAny_pure ?_) | skip
  refine wpAny_bind (wpAny_sequenceKey hl.typeIs (by decide) ?_)
  refine wpAny_bind (wpAny_callSpecial?_slot (name := Str.ofString "__setitem__") hl.typeIs slot_list_setitem
    (wpAny_call_entry slot_list_setitem hl.typeIs entry_list_setitem ?_ (args_list_setitem _ _ _)))
  show wpAny _ _ (Builtin.List.listSubscript? (.ref sl) >>= _) _ _ s
  refine wpAny_bind ?_
  unfold Builtin.List.listSubscript?
  refine wpAny_bind (wpAny_specialOf hTs slice_no_index ?_)
  simp only [Option.isNone_none, if_true]
  refine wpAny_pure ?_
  show wpAny _ _ (typeOf (.ref sl) >>= _) _ _ s
  refine wpAny_bind (wpAny_typeOf hTs ?_)
  rw [if_neg (by decide)]
  rw [listSliceParts_eq]
  refine wpAny_bind (wpAny_bind (wpAny_field hos hds (x := .none) rfl (wpAny_bind (wpAny_listPart .none ?_))))
  rw [if_neg (by exact Bool.false_ne_true)]
  refine wpAny_bind (wpAny_field hos hds (x := vl) rfl (wpAny_bind (wpAny_listPart pl ?_)))
  refine wpAny_bind (wpAny_field hos hds (x := vu) rfl (wpAny_bind (wpAny_listPart pu (wpAny_pure ?_))))
  rw [if_neg (by
    intro h
    exact nb (of_decide_eq_true h))]
  refine wpAny_bind (m := Builtin.List.listAllItems (.ref b) _) ?_
  unfold Builtin.List.listAllItems
  refine wpAny_bind (wpAny_typeOf hbl.typeIs ?_)
  rw [if_pos (by rfl)]
  unfold Builtin.List.listItems
  refine wpAny_bind (wpAny_seqItems hb rfl (wpAny_pure ?_))
  refine wpAny_bind (wpAny_bind (wpAny_seqItems ho rfl (wpAny_pure ?_)))
  refine wpAny_bind (wpAny_of_eq (sliceIndices_raw (some (i : Int)) (some (j : Int)) none items.size (by simp)) ?_)
  rw [bounds_nn]
  rw [if_pos (by rfl)]
  refine wpAny_bind (wpAny_rule ?_)
  rw [if_neg (by
    intro h
    have h : sizeLine < items.size + new.size := of_decide_eq_true h
    omega)]
  have hs1 : items.size ≤ sizeLine := by omega
  refine wpAny_bind ?_
  refine wpAny_updateSeq ho rfl ?_ hs1 ?_
  · refine wpAny_bind (wpAny_letGo ?_)
    refine wpAny_pure ⟨_, rfl, wpAny_pure (hQ _ ?_)⟩
    have e : (max ((min i items.size : Nat) : Int) ((min j items.size : Nat) : Int)).toNat = min j items.size := by omega
    show items.extract 0 ((min i items.size : Nat) : Int).toNat ++ new ++ items.extract (max ((min i items.size : Nat) : Int) ((min j items.size : Nat) : Int)).toNat items.size = _
    rw [e, Int.toNat_natCast]
  · have e : (max ((min i items.size : Nat) : Int) ((min j items.size : Nat) : Int)).toNat = min j items.size := by omega
    show (items.extract 0 ((min i items.size : Nat) : Int).toNat ++ new ++ items.extract (max ((min i items.size : Nat) : Int) ((min j items.size : Nat) : Int)).toNat items.size).size ≤ sizeLine + 1
    rw [e, Int.toNat_natCast]
    simp only [Array.size_append, Array.size_extract]
    omega
end
end LW

/-! LwA: a program's pure parts by what they reckon: plain functions over data (PyData), and that readings of HandS follow them. -/
namespace LW
open PySem PySem.Spec PyProof.Rows L2

/-! ### values known as data -/
/-- a tuple whose object has no dict of its own -/
def TyT (K : PySem.W.Frag) (G : Hp) (a : Addr) : Prop := (∃ o, K.lookup a = some o ∧ o.cls = .type "tuple" ∧ o.dict = none) ∨ ∃ o u, G a = some (.frz o u) ∧ o.cls = .type "tuple" ∧ o.dict = none
def TpT (K : PySem.W.Frag) (G : Hp) (a : Addr) (xs : List V) : Prop := SqT K G a xs ∧ TyT K G a
def keyD : Key → PyData
  | .inl i => .int i
  | .inr s => .str s
mutual
inductive Rp (K : PySem.W.Frag) (G : Hp) : V → PyData → Prop
  | non : Rp K G .non .none
  | bl (b : Bool) : Rp K G (.bl b) (.bool b)
  | int (i : Int) : Rp K G (.int i) (.int i)
  | str (x : Str) : Rp K G (.str x) (.str x)
  | lst {a : Addr} {xs : List V} {ds : List PyData} : G a = some (.lst xs) → RpA K G xs ds → Rp K G (.ref a) (.list ds)
  | tup {a : Addr} {xs : List V} {ds : List PyData} : TpT K G a xs → RpA K G xs ds → Rp K G (.ref a) (.tuple ds)
  | dct {a : Addr} {o : Obj} {kvs : List (Key × V)} {ds : List (PyData × PyData)} : G a = some (.frz o (.dK kvs)) → RpK K G kvs ds → Rp K G (.ref a) (.dict ds)
  | ins {a C dx : Addr} {fs : List (Str × V)} {ds : List (PyData × PyData)} : G a = some (.ins C dx fs) → RpO K G C fs ds → Rp K G (.ref a) (.dict ds)
inductive RpA (K : PySem.W.Frag) (G : Hp) : List V → List PyData → Prop
  | nil : RpA K G [] []
  | cons {v : V} {vs : List V} {d : PyData} {ds : List PyData} : Rp K G v d → RpA K G vs ds → RpA K G (v :: vs) (d :: ds)
inductive RpK (K : PySem.W.Frag) (G : Hp) : List (Key × V) → List (PyData × PyData) → Prop
  | nil : RpK K G [] []
  | cons {k : Key} {v : V} {kvs : List (Key × V)} {d : PyData} {ds : List (PyData × PyData)} : Rp K G v d → RpK K G kvs ds → RpK K G ((k, v) :: kvs) ((keyD k, d) :: ds)
/-- an instance's fields -/
inductive RpF (K : PySem.W.Frag) (G : Hp) : List (Str × V) → List (PyData × PyData) → Prop
  | nil : RpF K G [] []
  | cons {f : Str} {v : V} {fs : List (Str × V)} {d : PyData} {ds : List (PyData × PyData)} : Rp K G v d → RpF K G fs ds → RpF K G ((f, v) :: fs) ((.str f, d) :: ds)
/-- an instance as data: its class's name at the key None, its fields -/
inductive RpO (K : PySem.W.Frag) (G : Hp) : Addr → List (Str × V) → List (PyData × PyData) → Prop
  | mk {nm : Str} {fs : List (Str × V)} {ds : List (PyData × PyData)} : RpF K G fs ds → RpO K G (He.ga K nm) fs ((.none, .str nm) :: ds)
end
section
variable {K : PySem.W.Frag} {G G' : Hp}
theorem sqt_same {a : Addr} {xs : List V} (s : Same G G') (h : TpT K G a xs) : SqT K G' a xs := by
  rcases h.1 with (h | ⟨o, h⟩) | h
  · exact .inl (.inl (s _ _ h))
  · exact .inl (.inr ⟨o, s _ _ h⟩)
  · exact .inr h
theorem tpt_same {a : Addr} {xs : List V} (s : Same G G') (h : TpT K G a xs) : TpT K G' a xs := by
  refine ⟨sqt_same s h, ?_⟩
  rcases h.2 with h | ⟨o, u, h1, h2⟩
  · exact .inl h
  · exact .inr ⟨o, u, s _ _ h1, h2⟩
theorem tpt_new {p : Addr} {o : Obj} {xs : List V} (h1 : o.cls = .type "tuple") (h2 : o.dict = none) : TpT K (upd G p (.frz o (.tup xs))) p xs := ⟨.inl (.inr ⟨o, upd_same⟩), .inr ⟨o, _, upd_same, h1, h2⟩⟩
mutual
theorem Rp.mono (s : Same G G') : ∀ (d : PyData) (v : V), Rp K G v d → Rp K G' v d
  | .none, _, h => by cases h; exact .non
  | .bool b, _, h => by cases h; exact .bl b
  | .int i, _, h => by cases h; exact .int i
  | .str x, _, h => by cases h; exact .str x
  | .list ds, _, h => by
    cases h with
    | lst h1 h2 => exact .lst (s _ _ h1) (RpA.mono s ds _ h2)
  | .tuple ds, _, h => by
    cases h with
    | tup h1 h2 => exact .tup (tpt_same s h1) (RpA.mono s ds _ h2)
  | .dict ds, _, h => by
    cases h with
    | dct h1 h2 => exact .dct (s _ _ h1) (RpK.mono s ds _ h2)
    | ins h1 h2 => exact .ins (s _ _ h1) (RpO.mono s ds _ _ h2)
theorem RpA.mono (s : Same G G') : ∀ (ds : List PyData) (vs : List V), RpA K G vs ds → RpA K G' vs ds
  | [], _, h => by cases h; exact .nil
  | d :: ds, _, h => by
    cases h with
    | cons h1 h2 => exact .cons (Rp.mono s d _ h1) (RpA.mono s ds _ h2)
theorem RpK.mono (s : Same G G') : ∀ (ds : List (PyData × PyData)) (vs : List (Key × V)), RpK K G vs ds → RpK K G' vs ds
  | [], _, h => by cases h; exact .nil
  | (e, d) :: ds, _, h => by
    cases h with
    | cons h1 h2 => exact .cons (Rp.mono s d _ h1) (RpK.mono s ds _ h2)
theorem RpF.mono (s : Same G G') : ∀ (ds : List (PyData × PyData)) (fs : List (Str × V)), RpF K G fs ds → RpF K G' fs ds
  | [], _, h => by cases h; exact .nil
  | (e, d) :: ds, _, h => by
    cases h with
    | cons h1 h2 => exact .cons (Rp.mono s d _ h1) (RpF.mono s ds _ h2)
theorem RpO.mono (s : Same G G') : ∀ (ds : List (PyData × PyData)) (C : Addr) (fs : List (Str × V)), RpO K G C fs ds → RpO K G' C fs ds
  | [], _, _, h => by cases h
  | (e, d) :: ds, _, _, h => by
    cases h with
    | mk h1 => exact .mk (RpF.mono s ds _ h1)
end
mutual
theorem Rp.dp : ∀ (d : PyData) (v : V), d.canLay0 = true → Rp K G v d → Dp K G v d
  | .none, _, _, h => by cases h; exact .non
  | .bool b, _, _, h => by cases h; exact .bl b
  | .int i, _, _, h => by cases h; exact .int i
  | .str x, _, _, h => by cases h; exact .str x
  | .list ds, _, c, h => by
    cases h with
    | lst h1 h2 => exact .lst (SqL.of h1) (RpA.dp ds _ (by simpa [PyData.canLay0] using c) h2)
  | .tuple ds, _, c, h => by
    cases h with
    | tup h1 h2 => exact .tup h1.1 (RpA.dp ds _ (by simpa [PyData.canLay0] using c) h2)
  | .dict _, _, c, h => by simp [PyData.canLay0] at c
theorem RpA.dp : ∀ (ds : List PyData) (vs : List V), PyData.canLayAll0 ds = true → RpA K G vs ds → DpAll K G vs ds
  | [], _, _, h => by cases h; exact .nil
  | d :: ds, _, c, h => by
    have c' : d.canLay0 = true ∧ PyData.canLayAll0 ds = true := by simpa [PyData.canLayAll0] using c
    cases h with
    | cons h1 h2 => exact .cons (Rp.dp d _ c'.1 h1) (RpA.dp ds _ c'.2 h2)
end
theorem RpA.length {vs : List V} {ds : List PyData} (h : RpA K G vs ds) : vs.length = ds.length := by
  induction ds generalizing vs with
  | nil => cases h; rfl
  | cons d ds ih =>
    cases h with
    | cons h1 h2 => simp [ih h2]
theorem RpA.get {vs : List V} {ds : List PyData} (h : RpA K G vs ds) {i : Nat} {d : PyData} (e : ds[i]? = some d) : ∃ v, vs[i]? = some v ∧ Rp K G v d := by
  induction ds generalizing vs i with
  | nil => cases e
  | cons d0 ds ih =>
    cases h with
    | cons h1 h2 =>
      cases i with
      | zero => cases e; exact ⟨_, rfl, h1⟩
      | succ i => exact ih h2 e
theorem RpA.getV {vs : List V} {ds : List PyData} (h : RpA K G vs ds) {i : Nat} {v : V} (e : vs[i]? = some v) : ∃ d, ds[i]? = some d ∧ Rp K G v d := by
  induction ds generalizing vs i with
  | nil => cases h; cases e
  | cons d0 ds ih =>
    cases h with
    | cons h1 h2 =>
      cases i with
      | zero => cases e; exact ⟨_, rfl, h1⟩
      | succ i => exact ih h2 e
theorem RpA.append {vs ws : List V} {ds es : List PyData} (h : RpA K G vs ds) (h' : RpA K G ws es) : RpA K G (vs ++ ws) (ds ++ es) := by
  induction ds generalizing vs with
  | nil => cases h; exact h'
  | cons d ds ih =>
    cases h with
    | cons h1 h2 => exact .cons h1 (ih h2)
theorem RpA.set {vs : List V} {ds : List PyData} (h : RpA K G vs ds) (i : Nat) {v : V} {d : PyData} (hv : Rp K G v d) : RpA K G (vs.set i v) (ds.set i d) := by
  induction ds generalizing vs i with
  | nil => cases h; exact .nil
  | cons d0 ds ih =>
    cases h with
    | cons h1 h2 =>
      cases i with
      | zero => exact .cons hv h2
      | succ i => exact .cons h1 (ih h2 i)
theorem RpA.drop {vs : List V} {ds : List PyData} (h : RpA K G vs ds) (n : Nat) : RpA K G (vs.drop n) (ds.drop n) := by
  induction ds generalizing vs n with
  | nil => cases h; simp; exact .nil
  | cons d0 ds ih =>
    cases n with
    | zero => exact h
    | succ n =>
      cases h with
      | cons h1 h2 => exact ih h2 n
theorem RpA.take {vs : List V} {ds : List PyData} (h : RpA K G vs ds) (n : Nat) : RpA K G (vs.take n) (ds.take n) := by
  induction ds generalizing vs n with
  | nil => cases h; simp; exact .nil
  | cons d0 ds ih =>
    cases n with
    | zero => exact .nil
    | succ n =>
      cases h with
      | cons h1 h2 => exact .cons h1 (ih h2 n)
end

/-! ### answers -/
inductive R (α : Type) where
  | ok (a : α)
  | rai (c : Nat)
  | stuck
def R.bind {α β : Type} (r : R α) (f : α → R β) : R β := match r with
  | .ok a => f a
  | .rai c => .rai c
  | .stuck => .stuck
/-- what a slot holds: data, or a list of the def's own (m: handed in to be changed) -/
inductive Sl where
  | sh (d : PyData)
  | ow (m : Bool) (ds : List PyData)
abbrev LEnv := List (Option Sl)
abbrev RE (α : Type) := R (LEnv × α)
abbrev M := LEnv → RE PyData
abbrev MA := LEnv → RE (List PyData)
abbrev MT := LEnv → RE Bool
inductive RS where
  | nx (e : LEnv)
  | rt (e : LEnv) (d : PyData)
  | bk (e : LEnv)
  | ct (e : LEnv)
  | rai (c : Nat)
  | stuck
abbrev MS := LEnv → RS
def nth {α : Type} : List α → Nat → Option α
  | [], _ => none
  | a :: _, 0 => some a
  | _ :: l, n + 1 => nth l n
theorem nth_eq {α : Type} : ∀ (l : List α) (n : Nat), nth l n = l[n]?
  | [], n => by simp [nth]
  | a :: l, 0 => by simp [nth]
  | a :: l, n + 1 => by simp [nth, nth_eq l n]

/-- no table of code objects -/
def nt (o : HO) : Prop := ∀ ps, o ≠ .tbl ps
theorem nt_lst {xs : List V} : nt (.lst xs) := fun _ h => nomatch h
theorem nt_tup {xs : List V} : nt (.tup xs) := fun _ h => nomatch h
theorem nt_frz {o : Obj} {u : HO} : nt (.frz o u) := fun _ h => nomatch h
/-- a table of counts (defaultdict(int), whole numbers to whole numbers) -/
def CntV : List (Int × Int) → List (Int × Value) → Prop := Paired fun p q => p.1 = q.1 ∧ ∃ t, q.2 = .int p.2 t
def DdP (h : Heap) (a : Addr) (kvs : List (Int × Int)) : Prop := kvs.length ≤ sizeLine ∧ (a == sysModules) = false ∧ ∃ (P : Program) (w : World) (vs : List (Int × Value)), CntV kvs vs ∧ DDict.Dd (PySem.intKind P w) h a vs
def DdO (a : Addr) (kvs : List (Int × Int)) : HO := .ext fun h => DdP h a kvs
def cntD : List (Int × Int) → List (PyData × PyData)
  | [] => []
  | p :: l => (.int p.1, .int p.2) :: cntD l
/-- what an object of one's own holds: a list; a dict (marked by a key True); an instance that is being made (marked so) -/
inductive OwR (K : PySem.W.Frag) (G : Hp) (p : Addr) : HO → List PyData → Prop
  | lst {vs : List V} {ds : List PyData} : RpA K G vs ds → OwR K G p (.lst vs) ds
  | dct {kvs : List (Key × V)} {es : List (PyData × PyData)} : RpK K G kvs es → OwR K G p (.dK kvs) [.dict ((.bool true, .int 0) :: es)]
  | ins {dx : Addr} {nm : Str} {fs : List (Str × V)} {es : List (PyData × PyData)} : RpF K G fs es → OwR K G p (.ins (He.ga K nm) dx fs) [.dict ((.bool true, .str nm) :: es)]
  | cnt {kvs : List (Int × Int)} : OwR K G p (DdO p kvs) [.dict ((.bool true, .bool true) :: cntD kvs)]
/-- a list, by what is said of it -/
def isL : List PyData → Bool
  | [.dict ((.bool true, _) :: _)] => false
  | _ => true
section
variable {K : PySem.W.Frag} {G G' : Hp} {p : Addr} {o : HO} {ds : List PyData}
theorem OwR.nt (h : OwR K G p o ds) : nt o := by cases h <;> exact fun _ z => nomatch z
theorem OwR.mono (s : Same G G') (h : OwR K G p o ds) : OwR K G' p o ds := by
  cases h with
  | lst h => exact .lst (RpA.mono s _ _ h)
  | dct h => exact .dct (RpK.mono s _ _ h)
  | ins h => exact .ins (RpF.mono s _ _ h)
  | cnt => exact .cnt
theorem OwR.lst_of (h : OwR K G p o ds) (c : isL ds = true) : ∃ vs, o = .lst vs ∧ RpA K G vs ds := by
  cases h with
  | lst h => exact ⟨_, rfl, h⟩
  | dct h => cases c
  | ins h => cases c
  | cnt => cases c
end
def Own (env : LEnv) (i : Nat) : Prop := ∃ m ds, env[i]? = some (some (.ow m ds))
/-- the errors' classes by number; the tables of the defs that hold lambdas -/
structure Cl where
  cl : Nat → Value
  T : List (Addr × Str)
/-- all but the lists that may change, and the tables, stand as at the start -/
structure Fz (T : List (Addr × Str)) (ch : Addr → Prop) (H0 H : Hp) : Prop where
  k : ∀ b o, ¬ ch b → nt o → H0 b = some o → H b = some o
  tb : LamX.Tabs T H
/-- nothing but a table stands there -/
def Nw (H : Hp) (a : Addr) : Prop := ∀ u, nt u → H a ≠ some u
theorem nw_of {H : Hp} {a : Addr} (e : H a = none) : Nw H a := fun u _ z => by rw [e] at z; cases z
theorem Fz.nw {T : List (Addr × Str)} {ch : Addr → Prop} {H0 H : Hp} (f : Fz T ch H0 H) {a : Addr} (hc : ¬ ch a) (e : Nw H a) : Nw H0 a := fun u n z => e u n (f.k a u hc n z)
theorem Fz.refl {T : List (Addr × Str)} {ch : Addr → Prop} {H : Hp} (t : LamX.Tabs T H) : Fz T ch H H := ⟨fun _ _ _ _ e => e, t⟩
theorem Fz.same {T : List (Addr × Str)} {ch : Addr → Prop} {H0 H H' : Hp} (f : Fz T ch H0 H) (s : Same H H') : Fz T ch H0 H' := ⟨fun b o m n e => s _ _ (f.k b o m n e), f.tb.ext s⟩
theorem Fz.trans {T : List (Addr × Str)} {ch : Addr → Prop} {H0 H H' : Hp} (f : Fz T ch H0 H) (s : Fz T (fun _ => False) H H') : Fz T ch H0 H' :=
  ⟨fun b o m n e => s.k b o (fun z => z) n (f.k b o m n e), s.tb⟩
/-- the tables ask nothing of lists -/
theorem tabs_but {T : List (Addr × Str)} {H H' : Hp} (t : LamX.Tabs T H) (k : ∀ b o, H b = some o → (∀ xs, o ≠ .lst xs) → H' b = some o) : LamX.Tabs T H' := fun p hp => by
  obtain ⟨ps, a1, a2, a3⟩ := t p hp
  refine ⟨ps, k _ _ a1 (fun _ z => by cases z), a2, fun pos cv hcv => ?_⟩
  obtain ⟨c, e, hc⟩ := a3 pos cv hcv
  exact ⟨c, e, k _ _ hc fun xs z => by unfold LamX.CodeO at z; cases z⟩
/-- the lists that may be changed; those among them that were handed in -/
structure Mu where
  ch : Addr → Prop
  fl : Addr → Prop
  sub : ∀ a, fl a → ch a
def mu0 : Mu := ⟨fun _ => False, fun _ => False, fun _ h => h⟩
/-- the state: G what may be read as data, H all; σ the slots; G0, H0 those of the def's start; mu the lists handed in to be changed -/
structure StR (K : PySem.W.Frag) (C : Cl) (mu : Mu) (G0 H0 : Hp) (env : LEnv) (σ : L2.St) (G H : Hp) : Prop where
  sub : Same G H
  ng : ∀ a o, G a = some o → nt o
  g0 : Same G0 G
  fz : Fz C.T mu.ch H0 H
  new : ∀ a o, G a = some o → G0 a = some o ∨ ((mu.ch a ∨ Nw H0 a) ∧ nt o)
  mh : ∀ a, mu.ch a → ∃ o, nt o ∧ H a = some o
  len : env.length = σ.length
  sh : ∀ (i : Nat) d, env[i]? = some (some (.sh d)) → ∃ v, σ[i]? = some (some v) ∧ Rp K G v d
  ol : ∀ (i : Nat) m ds, env[i]? = some (some (.ow m ds)) → ∃ p o, σ[i]? = some (some (.ref p)) ∧ H p = some o ∧ OwR K G p o ds ∧ G p = none ∧ (if m = true then mu.fl p else mu.ch p ∨ Nw H0 p)
  ow : ∀ (i j : Nat) p, Own env i → Own env j → σ[i]? = some (some (.ref p)) → σ[j]? = some (some (.ref p)) → i = j
/-- more objects; those that may be read among them are new -/
structure Xt (T : List (Addr × Str)) (G H G' H' : Hp) : Prop where
  g : Same G G'
  s : Same G' H'
  h : Fz T (fun _ => False) H H'
  n : ∀ a o, G' a = some o → G a = some o ∨ (Nw H a ∧ nt o)
theorem Xt.trans {T : List (Addr × Str)} {G H G1 H1 G2 H2 : Hp} (a : Xt T G H G1 H1) (b : Xt T G1 H1 G2 H2) : Xt T G H G2 H2 := ⟨a.g.trans b.g, b.s, a.h.trans b.h, fun p o e => by
  rcases b.n p o e with e | e
  · exact a.n p o e
  · exact .inr ⟨a.h.nw (fun z => z) e.1, e.2⟩⟩
theorem same_new {H : Hp} {p : Addr} {o : HO} (hp : H p = none) : Same H (upd H p o) := fun a u e => by rw [upd_ne (ne_of_none e hp)]; exact e
/-- a new object that may be read -/
theorem Xt.new {T : List (Addr × Str)} {G H : Hp} {p : Addr} {o : HO} (s : Same G H) (t : LamX.Tabs T H) (hp : H p = none) (ho : nt o) : Xt T G H (upd G p o) (upd H p o) := by
  have gp : G p = none := s.free hp
  refine ⟨same_new gp, fun a u e => ?_, (Fz.refl t).same (same_new hp), fun a u e => ?_⟩
  · by_cases h : a = p
    · subst h; rw [upd_same] at e ⊢; exact e
    · rw [upd_ne h] at e ⊢; exact s _ _ e
  · by_cases h : a = p
    · subst h; rw [upd_same] at e; cases e; exact .inr ⟨nw_of hp, ho⟩
    · rw [upd_ne h] at e; exact .inl e
/-- a new object that may not be read -/
theorem Xt.hid {T : List (Addr × Str)} {G H : Hp} {p : Addr} {o : HO} (s : Same G H) (t : LamX.Tabs T H) (hp : H p = none) : Xt T G H G (upd H p o) :=
  ⟨.refl _, fun a u e => by rw [upd_ne (ne_of_none (s _ _ e) hp)]; exact s _ _ e, (Fz.refl t).same (same_new hp), fun _ _ h => .inl h⟩
section
variable {K : PySem.W.Frag} {C : Cl} {mu : Mu} {G0 H0 G H G' H' : Hp} {env : LEnv} {σ : L2.St}
theorem StR.noch (S : StR K C mu G0 H0 env σ G H) {a : Addr} (e : Nw H a) : ¬ mu.ch a := fun z => by
  obtain ⟨o, n, h⟩ := S.mh a z
  exact e _ n h
theorem StR.none0 (S : StR K C mu G0 H0 env σ G H) {a : Addr} (e : Nw H a) : Nw H0 a := S.fz.nw (S.noch e) e
theorem StR.olL (S : StR K C mu G0 H0 env σ G H) {i : Nat} {m : Bool} {ds : List PyData} (e : env[i]? = some (some (.ow m ds))) (c : isL ds = true) :
    ∃ p vs, σ[i]? = some (some (.ref p)) ∧ H p = some (.lst vs) ∧ RpA K G vs ds ∧ G p = none ∧ (if m = true then mu.fl p else mu.ch p ∨ Nw H0 p) := by
  obtain ⟨p, o, h1, h2, h3, h4, h5⟩ := S.ol i m ds e
  obtain ⟨vs, rfl, h6⟩ := h3.lst_of c
  exact ⟨p, vs, h1, h2, h6, h4, h5⟩
theorem StR.ext (S : StR K C mu G0 H0 env σ G H) (x : Xt C.T G H G' H') : StR K C mu G0 H0 env σ G' H' where
  sub := x.s
  ng := fun a o e => by
    rcases x.n a o e with e | e
    · exact S.ng a o e
    · exact e.2
  g0 := S.g0.trans x.g
  fz := S.fz.trans x.h
  new := fun a o e => by
    rcases x.n a o e with e | e
    · exact S.new a o e
    · exact .inr ⟨.inr (S.none0 e.1), e.2⟩
  mh := fun a m => let ⟨o, n, e⟩ := S.mh a m; ⟨o, n, x.h.k a _ (fun z => z) n e⟩
  len := S.len
  sh := fun i d e => let ⟨v, h1, h2⟩ := S.sh i d e; ⟨v, h1, Rp.mono x.g d v h2⟩
  ol := fun i m ds e => by
    obtain ⟨p, vs, h1, h2, h3, h4, h5⟩ := S.ol i m ds e
    refine ⟨p, vs, h1, x.h.k p _ (fun z => z) h3.nt h2, h3.mono x.g, ?_, h5⟩
    cases q : G' p with
    | none => rfl
    | some o =>
      rcases x.n p o q with z | z
      · rw [h4] at z; cases z
      · exact (z.1 _ h3.nt h2).elim
  ow := S.ow
end
end LW

namespace LW
open PySem PySem.Spec PyProof.Rows L2
section
variable {K : PySem.W.Frag} {mu : Mu} {G0 H0 G H G' H' : Hp} {env : LEnv} {σ : L2.St} {C : Cl} {E : XK} {α β γ δ : Type}
/-- what an answer owes to what is wished -/
def Post (Rl : Hp → β → α → Prop) (K : PySem.W.Frag) (C : Cl) (E : XK) (mu : Mu) (G0 H0 : Hp) (σ : L2.St) (G : Hp) : RE α → (β → Hp → Prop) → Prop
  | .ok p, Q => ∀ v G' H', StR K C mu G0 H0 p.1 σ G' H' → Same G G' → Rl G' v p.2 → Q v H'
  | .rai c, _ => ∀ H', Fz C.T mu.ch H0 H' → E (C.cl c) none H'
  | .stuck, _ => False
theorem Post.mono {Rl : Hp → β → α → Prop} {r : RE α} {Q : β → Hp → Prop} (s : Same G G') (h : Post Rl K C E mu G0 H0 σ G r Q) : Post Rl K C E mu G0 H0 σ G' r Q := by
  cases r with
  | ok p => exact fun v G2 H2 S s2 r => h v G2 H2 S (s.trans s2) r
  | rai c => exact h
  | stuck => exact h
theorem Post.bind {Rl1 : Hp → β → α → Prop} {Rl2 : Hp → δ → γ → Prop} {r : RE α} {f : LEnv × α → RE γ} {Q : δ → Hp → Prop} {Q1 : β → Hp → Prop} (h : Post Rl2 K C E mu G0 H0 σ G (r.bind f) Q)
    (k : ∀ p v G' H', StR K C mu G0 H0 p.1 σ G' H' → Same G G' → Rl1 G' v p.2 → Post Rl2 K C E mu G0 H0 σ G' (f p) Q → Q1 v H') : Post Rl1 K C E mu G0 H0 σ G r Q1 := by
  cases r with
  | ok p =>
    intro v G' H' S s r
    refine k p v G' H' S s r ?_
    have h : Post Rl2 K C E mu G0 H0 σ G (f p) Q := h
    cases e : f p with
    | ok q => rw [e] at h; exact fun v2 G2 H2 S2 s2 r2 => h v2 G2 H2 S2 (s.trans s2) r2
    | rai c => rw [e] at h; exact h
    | stuck => rw [e] at h; exact h
  | rai c => exact h
  | stuck => exact h
/-- only where a check holds -/
def gd {α : Type} (c : Bool) (r : R α) : R α := match c with
  | true => r
  | false => .stuck
theorem Post.gd {Rl : Hp → β → α → Prop} {c : Bool} {r : RE α} {Q : β → Hp → Prop} (h : Post Rl K C E mu G0 H0 σ G (gd c r) Q) : c = true ∧ Post Rl K C E mu G0 H0 σ G r Q := by
  cases c with
  | true => exact ⟨rfl, h⟩
  | false => exact h.elim
def lif {α : Type} (env : LEnv) (r : R α) : RE α := r.bind fun a => .ok (env, a)
theorem Post.gdL {Rl : Hp → β → α → Prop} {c : Bool} {r : R α} {Q : β → Hp → Prop} (h : Post Rl K C E mu G0 H0 σ G (lif env (LW.gd c r)) Q) : c = true ∧ Post Rl K C E mu G0 H0 σ G (lif env r) Q := by
  cases c with
  | true => exact ⟨rfl, h⟩
  | false => exact h.elim
abbrev RlE (K : PySem.W.Frag) : Hp → V → PyData → Prop := fun G v d => Rp K G v d
abbrev RlA (K : PySem.W.Frag) : Hp → List V → List PyData → Prop := fun G v d => RpA K G v d
abbrev RlT : Hp → Bool → Bool → Prop := fun _ b c => b = c
abbrev PostE (K : PySem.W.Frag) := Post (RlE K) K
def Snd (K : PySem.W.Frag) (C : Cl) (E : XK) (te : TE) (m : M) : Prop := ∀ mu G0 H0 env σ G H Q, StR K C mu G0 H0 env σ G H → Post (RlE K) K C E mu G0 H0 σ G (m env) Q → te σ H Q
def SndA (K : PySem.W.Frag) (C : Cl) (E : XK) (ta : TA) (m : MA) : Prop := ∀ mu G0 H0 env σ G H Q, StR K C mu G0 H0 env σ G H → Post (RlA K) K C E mu G0 H0 σ G (m env) Q → ta σ H Q
def SndT (K : PySem.W.Frag) (C : Cl) (E : XK) (tt : TT) (m : MT) : Prop := ∀ mu G0 H0 env σ G H Q, StR K C mu G0 H0 env σ G H → Post RlT K C E mu G0 H0 σ G (m env) Q → tt σ H Q
/-- an operation of two values -/
def OpS (K : PySem.W.Frag) (C : Cl) (E : XK) (r : R2) (op : PyData → PyData → R PyData) : Prop := ∀ mu G0 H0 env σ G H x y dx dy Q, StR K C mu G0 H0 env σ G H → Rp K G x dx → Rp K G y dy → Post (RlE K) K C E mu G0 H0 σ G (lif env (op dx dy)) Q → r x y H Q
def UnS (K : PySem.W.Frag) (C : Cl) (E : XK) (r : V → Hp → VK → Prop) (op : PyData → R PyData) : Prop := ∀ mu G0 H0 env σ G H x dx Q, StR K C mu G0 H0 env σ G H → Rp K G x dx → Post (RlE K) K C E mu G0 H0 σ G (lif env (op dx)) Q → r x H Q
def CaS (K : PySem.W.Frag) (C : Cl) (E : XK) (r : List V → Hp → VK → Prop) (op : List PyData → R PyData) : Prop := ∀ mu G0 H0 env σ G H xs ds Q, StR K C mu G0 H0 env σ G H → RpA K G xs ds → Post (RlE K) K C E mu G0 H0 σ G (lif env (op ds)) Q → r xs H Q
/-- an answer by the same heap -/
theorem post_here {Rl : Hp → β → α → Prop} {env : LEnv} {a : α} {Q : β → Hp → Prop} (S : StR K C mu G0 H0 env σ G H) (h : Post Rl K C E mu G0 H0 σ G (.ok (env, a)) Q) {v : β} (r : Rl G v a) : Q v H := h v G H S (.refl _) r
/-- an answer by a new object -/
theorem post_new {Rl : Hp → β → α → Prop} {env : LEnv} {a : α} {Q : β → Hp → Prop} (S : StR K C mu G0 H0 env σ G H) (h : Post Rl K C E mu G0 H0 σ G (.ok (env, a)) Q) {p : Addr} (hp : H p = none) (o : HO) (ho : nt o) {v : β} (r : Rl (upd G p o) v a) : Q v (upd H p o) := 
  let x := Xt.new (o := o) S.sub S.fz.tb hp ho
  h v _ _ (S.ext x) x.g r

/-! ### names, constants, operations -/
def mVar (i : Nat) : M := fun env => match nth env i with
  | some (some (.sh d)) => .ok (env, d)
  | _ => .stuck
theorem snd_var {i : Nat} : Snd K C E (tVar i) (mVar i) := by
  intro mu G0 H0 env σ G H Q S h
  unfold mVar at h
  rw [nth_eq] at h
  split at h
  · rename_i d e
    obtain ⟨v, h1, h2⟩ := S.sh i d e
    exact ⟨v, h1, post_here S h h2⟩
  · exact h.elim
def mC (d : PyData) : M := fun env => .ok (env, d)
theorem snd_c {v : V} {d : PyData} (r : ∀ G : Hp, Rp K G v d) : Snd K C E (tC v) (mC d) := fun mu G0 H0 env σ G H Q S h => post_here S h (r G)
def mOp (op : PyData → PyData → R PyData) (f g : M) : M := fun env => (f env).bind fun p => (g p.1).bind fun q => lif q.1 (op p.2 q.2)
theorem snd_op {r : R2} {op : PyData → PyData → R PyData} {ta tb : TE} {f g : M} (hr : OpS K C E r op) (ha : Snd K C E ta f) (hb : Snd K C E tb g) : Snd K C E (tOp r ta tb) (mOp op f g) := by
  intro mu G0 H0 env σ G H Q S h
  refine ha _ _ _ _ _ _ _ _ S (h.bind fun p x G1 H1 S1 s1 r1 h1 => ?_)
  refine hb _ _ _ _ _ _ _ _ S1 (h1.bind fun q y G2 H2 S2 s2 r2 h2 => ?_)
  exact hr _ _ _ _ _ _ _ _ _ _ _ _ S2 (Rp.mono s2 _ _ r1) r2 h2
def mUn (op : PyData → R PyData) (f : M) : M := fun env => (f env).bind fun p => lif p.1 (op p.2)
theorem snd_un {r : V → Hp → VK → Prop} {op : PyData → R PyData} {ta : TE} {f : M} (hr : UnS K C E r op) (ha : Snd K C E ta f) : Snd K C E (tUn r ta) (mUn op f) := by
  intro mu G0 H0 env σ G H Q S h
  refine ha _ _ _ _ _ _ _ _ S (h.bind fun p x G1 H1 S1 s1 r1 h1 => ?_)
  exact hr _ _ _ _ _ _ _ _ _ _ S1 r1 h1
theorem OpS.or {r r' : R2} {op op' : PyData → PyData → R PyData} {sel : PyData → PyData → Bool} (h : OpS K C E r op) (h' : OpS K C E r' op') :
    OpS K C E (fun x y H Q => r x y H Q ∨ r' x y H Q) (fun a b => bif sel a b then op a b else op' a b) := by
  intro mu G0 H0 env σ G H x y dx dy Q S rx ry q
  have q : Post (RlE K) K C E mu G0 H0 σ G (lif env (bif sel dx dy then op dx dy else op' dx dy)) Q := q
  cases e : sel dx dy with
  | true => rw [e] at q; exact .inl (h _ _ _ _ _ _ _ _ _ _ _ _ S rx ry q)
  | false => rw [e] at q; exact .inr (h' _ _ _ _ _ _ _ _ _ _ _ _ S rx ry q)

/-! ### lists of arguments, displays -/
def maNil : MA := fun env => .ok (env, [])
def maCons (f : M) (g : MA) : MA := fun env => (f env).bind fun p => (g p.1).bind fun q => .ok (q.1, p.2 :: q.2)
theorem snda_nil : SndA K C E tNil maNil := fun mu G0 H0 env σ G H Q S h => post_here S h .nil
theorem snda_cons {te : TE} {ta : TA} {f : M} {g : MA} (h1 : Snd K C E te f) (h2 : SndA K C E ta g) : SndA K C E (tCons te ta) (maCons f g) := by
  intro mu G0 H0 env σ G H Q S h
  refine h1 _ _ _ _ _ _ _ _ S (h.bind fun p x G1 H1 S1 s1 r1 h1' => ?_)
  refine h2 _ _ _ _ _ _ _ _ S1 (h1'.bind fun q y G2 H2 S2 s2 r2 h2' => ?_)
  exact post_here S2 h2' (RpA.cons (Rp.mono s2 _ _ r1) r2)
def small : Nat := 1000000
theorem small_le : small ≤ sizeLine := by rw [sizeLine_eq]; decide
def mTup (g : MA) : M := fun env => (g env).bind fun q => gd (Nat.ble q.2.length small) (.ok (q.1, .tuple q.2))
/-- a tuple, by its very object -/
def tTupF (t : TA) : TE := fun σ H Q => t σ H fun xs H1 => xs.length ≤ sizeLine ∧ ∀ p o, H1 p = none → o.cls = .type "tuple" → o.dict = none → Q (.ref p) (upd H1 p (.frz o (.tup xs)))
theorem pe_tupF {X : Cx} {es : List Expr} {t : TA} {pos : Pos} {x1} (h : PA X es t) : PE X (.Tuple es x1 pos) (tTupF t) := by
  refine ⟨fun pn s σ H Q I hw => ?_⟩
  refine wpAny_Tuple_spliced (thn (h.run pos pn s σ H _ I hw) fun ws sa ⟨xs, Ha, Ia, r, z, q⟩ => ⟨by rw [← r.length]; exact z, ?_⟩)
  have hn : Ha sa.heap.objs.size = none := Ia.hok.fresh (Nat.le_refl _)
  refine ⟨.ref sa.heap.objs.size, upd Ha sa.heap.objs.size (.frz { cls := .type "tuple", data := .seq ws.toArray } (.tup xs)), Ia.laid (t' := sa.toks) (fun b u e => Heap.get?_push_of_some _ e) (Nat.le_refl _) ?_, rfl, q _ _ hn rfl rfl⟩
  exact ⟨Heap.get?_push_size _ rfl, z, ws, r, ⟨_, Heap.get?_push_size _ rfl, rfl, _, rfl⟩⟩
theorem snd_tup {ta : TA} {g : MA} (h : SndA K C E ta g) : Snd K C E (tTupF ta) (mTup g) := by
  intro mu G0 H0 env σ G H Q S hh
  refine h _ _ _ _ _ _ _ _ S (hh.bind fun q xs G1 H1 S1 s1 r1 h1 => ?_)
  obtain ⟨l, h1⟩ := Post.gd h1
  · refine ⟨by rw [r1.length]; exact Nat.le_trans (Nat.le_of_ble_eq_true l) small_le, fun p o hp hc hd => ?_⟩
    exact post_new S1 h1 hp _ nt_frz (.tup (tpt_new hc hd) (RpA.mono (Xt.new (o := .frz o (.tup xs)) S1.sub S1.fz.tb hp nt_frz).g _ _ r1))
def mLst (g : MA) : M := fun env => (g env).bind fun q => gd (Nat.ble q.2.length small) (.ok (q.1, .list q.2))
theorem snd_lst {ta : TA} {g : MA} (h : SndA K C E ta g) : Snd K C E (tLst ta) (mLst g) := by
  intro mu G0 H0 env σ G H Q S hh
  refine h _ _ _ _ _ _ _ _ S (hh.bind fun q xs G1 H1 S1 s1 r1 h1 => ?_)
  obtain ⟨l, h1⟩ := Post.gd h1
  · refine ⟨by rw [r1.length]; exact Nat.le_trans (Nat.le_of_ble_eq_true l) small_le, fun p hp => ?_⟩
    exact post_new S1 h1 hp _ nt_lst (.lst upd_same (RpA.mono (Xt.new (o := .lst xs) S1.sub S1.fz.tb hp nt_lst).g _ _ r1))

/-! ### operators of values -/
def iAdd : PyData → PyData → R PyData
  | .int a, .int b => .ok (.int (a + b))
  | _, _ => .stuck
theorem ops_addI : OpS K C E (rI0 fun i j => .int (i + j)) iAdd := by
  intro mu G0 H0 env σ G H x y dx dy Q S rx ry h
  cases rx <;> cases ry <;> first | exact h.elim | exact ⟨_, _, rfl, rfl, post_here S h (.int _)⟩
def iSub : PyData → PyData → R PyData
  | .int a, .int b => .ok (.int (a - b))
  | _, _ => .stuck
theorem ops_subI : OpS K C E (rI0 fun i j => .int (i - j)) iSub := by
  intro mu G0 H0 env σ G H x y dx dy Q S rx ry h
  cases rx <;> cases ry <;> first | exact h.elim | exact ⟨_, _, rfl, rfl, post_here S h (.int _)⟩
/-- below 2 ^ 64 on either side -/
def lowI (a : Int) : Bool := Nat.blt a.natAbs 18446744073709551616
theorem lowI_is {a : Int} (h : lowI a = true) : -(2 ^ 64) < a ∧ a < 2 ^ 64 := by
  have h : a.natAbs < 18446744073709551616 := by
    have := Nat.le_of_ble_eq_true h
    omega
  omega
def iMul : PyData → PyData → R PyData
  | .int a, .int b => gd (lowI a || lowI b) (.ok (.int (a * b)))
  | _, _ => .stuck
theorem ops_mulI : OpS K C E (rI CMul fun i j => .int (i * j)) iMul := by
  intro mu G0 H0 env σ G H x y dx dy Q S rx ry h
  cases rx <;> cases ry <;> first | exact h.elim | skip
  rename_i a b
  obtain ⟨c, h⟩ := Post.gdL h
  · skip
    refine ⟨_, _, rfl, rfl, ?_, post_here S h (.int _)⟩
    rcases Bool.or_eq_true_iff.mp c with c | c
    · exact .inl (lowI_is c)
    · exact .inr (lowI_is c)
def divOk (b : Int) : Bool := (match b with | .ofNat 0 => false | _ => true) && Nat.blt b.natAbs 1073741824
theorem divOk_is {b : Int} (h : divOk b = true) : b ≠ 0 ∧ b.natAbs < 1073741824 := by
  unfold divOk at h
  rw [Bool.and_eq_true] at h
  refine ⟨fun z => by subst z; exact absurd h.1 (by decide), ?_⟩
  have := Nat.le_of_ble_eq_true h.2
  omega
def iDiv : PyData → PyData → R PyData
  | .int a, .int b => gd (divOk b) (.ok (.int (a.fdiv b)))
  | _, _ => .stuck
theorem ops_divI : OpS K C E (rI CDivN fun i j => .int (i.fdiv j)) iDiv := by
  intro mu G0 H0 env σ G H x y dx dy Q S rx ry h
  cases rx <;> cases ry <;> first | exact h.elim | skip
  rename_i a b
  obtain ⟨c, h⟩ := Post.gdL h
  · skip
    exact ⟨_, _, rfl, rfl, divOk_is c, post_here S h (.int _)⟩
def notZ (b : Int) : Bool := match b with | .ofNat 0 => false | _ => true
theorem notZ_is {b : Int} (h : notZ b = true) : b ≠ 0 := fun z => by subst z; exact absurd h (by decide)
def iMod : PyData → PyData → R PyData
  | .int a, .int b => gd (notZ b) (.ok (.int (a.fmod b)))
  | _, _ => .stuck
theorem ops_modI : OpS K C E (rI (fun _ j => j ≠ 0) fun i j => .int (i.fmod j)) iMod := by
  intro mu G0 H0 env σ G H x y dx dy Q S rx ry h
  cases rx <;> cases ry <;> first | exact h.elim | skip
  rename_i a b
  obtain ⟨c, h⟩ := Post.gdL h
  · skip
    exact ⟨_, _, rfl, rfl, notZ_is c, post_here S h (.int _)⟩
def iAnd : PyData → PyData → R PyData
  | .int a, .int b => .ok (.int (Builtin.bitAnd a b))
  | _, _ => .stuck
theorem ops_andI : OpS K C E (rI0 fun i j => .int (Builtin.bitAnd i j)) iAnd := by
  intro mu G0 H0 env σ G H x y dx dy Q S rx ry h
  cases rx <;> cases ry <;> first | exact h.elim | exact ⟨_, _, rfl, rfl, post_here S h (.int _)⟩
def uNeg : PyData → R PyData
  | .int a => .ok (.int (-a))
  | _ => .stuck
theorem uns_neg : UnS K C E (rU fun i => .int (-i)) uNeg := by
  intro mu G0 H0 env σ G H x dx Q S rx h
  cases rx <;> first | exact h.elim | exact ⟨_, rfl, post_here S h (.int _)⟩
/-- comparisons of ints -/
def iCmp (p : Int → Int → Bool) : PyData → PyData → R PyData
  | .int a, .int b => .ok (.bool (p a b))
  | _, _ => .stuck
theorem ops_cmp {p : Int → Int → Bool} : OpS K C E (rI0 fun i j => .bl (p i j)) (iCmp p) := by
  intro mu G0 H0 env σ G H x y dx dy Q S rx ry h
  cases rx <;> cases ry <;> first | exact h.elim | exact ⟨_, _, rfl, rfl, post_here S h (.bl _)⟩
/-! == of data -/
def eqA (eq : PyData → PyData → Bool) : List PyData → List PyData → Bool
  | [], [] => true
  | x :: xs, y :: ys => eq x y && eqA eq xs ys
  | _, _ => false
def eqF : Nat → PyData → PyData → Bool
  | _, .int a, .int b => a == b
  | _, .str a, .str b => a == b
  | n + 1, .tuple xs, .tuple ys => eqA (eqF n) xs ys
  | n + 1, .list xs, .list ys => eqA (eqF n) xs ys
  | _, .bool a, .bool b => a == b
  | _, .none, .none => true
  | _, a, b => PyData.eqv a b
def shA (sh : PyData → Bool) : List PyData → Bool
  | [] => true
  | x :: xs => sh x && shA sh xs
def shF : Nat → PyData → Bool
  | _, .int _ => true
  | _, .str x => PyData.strOk x
  | n + 1, .tuple xs => shA (shF n) xs
  | n + 1, .list xs => shA (shF n) xs
  | _, .bool _ => true
  | _, .none => true
  | _, _ => false
theorem eqv_list (xs ys : List PyData) : PyData.eqv (.list xs) (.list ys) = PyData.eqvAll xs ys := by simp [PyData.eqv]
theorem eqA_all {n : Nat} (ih : ∀ d e, shF n d = true → eqF n d e = PyData.eqv d e) : ∀ xs ys, shA (shF n) xs = true → eqA (eqF n) xs ys = PyData.eqvAll xs ys
  | [], [], _ => by simp [eqA, PyData.eqvAll]
  | [], _ :: _, _ => by simp [eqA, PyData.eqvAll]
  | _ :: _, [], _ => by simp [eqA, PyData.eqvAll]
  | x :: xs, y :: ys, h => by
    have h : (shF n x && shA (shF n) xs) = true := h
    rw [Bool.and_eq_true] at h
    simp only [eqA, PyData.eqvAll, ih x y h.1, eqA_all ih xs ys h.2]
theorem eqF_eqv : ∀ (n : Nat) (d e : PyData), shF n d = true → eqF n d e = PyData.eqv d e
  | 0, d, e, h => by
    cases d <;> cases e <;> first | rfl | (exfalso; exact absurd h (by simp [shF])) | simp [eqF, PyData.eqv]
  | n + 1, d, e, h => by
    cases d <;> cases e <;> first
      | (simp only [eqF, PyData.eqv]; exact eqA_all (eqF_eqv n) _ _ h)
      | rfl
      | (simp [eqF, PyData.eqv])
theorem shA_lay {n : Nat} (ih : ∀ d, shF n d = true → d.canLay0 = true ∧ d.depth ≤ n) : ∀ xs, shA (shF n) xs = true → PyData.canLayAll0 xs = true ∧ PyData.depthAll xs ≤ n
  | [], _ => by simp [PyData.canLayAll0, PyData.depthAll]
  | x :: xs, h => by
    have h : (shF n x && shA (shF n) xs) = true := h
    rw [Bool.and_eq_true] at h
    have h1 := ih x h.1
    have h2 := shA_lay ih xs h.2
    simp only [PyData.canLayAll0, PyData.depthAll]
    exact ⟨by rw [h1.1, h2.1]; rfl, by omega⟩
theorem shF_lay : ∀ (n : Nat) (d : PyData), shF n d = true → d.canLay0 = true ∧ d.depth ≤ n
  | 0, d, h => by cases d <;> simp_all [shF, PyData.canLay0, PyData.depth]
  | n + 1, d, h => by
    cases d with
    | list xs =>
      have := shA_lay (shF_lay n) xs h
      simp only [PyData.canLay0, PyData.depth]
      exact ⟨this.1, by omega⟩
    | tuple xs =>
      have := shA_lay (shF_lay n) xs h
      simp only [PyData.canLay0, PyData.depth]
      exact ⟨this.1, by omega⟩
    | _ => simp_all [shF, PyData.canLay0, PyData.depth]
theorem shF_shaped {n : Nat} (hn : n ≤ 64) {d : PyData} (h : shF n d = true) : SeqAt.shaped d = true := by
  have := shF_lay n d h
  unfold SeqAt.shaped
  rw [this.1, Bool.true_and, decide_eq_true_eq]
  omega
def deep : Nat := 12
def iEq : PyData → PyData → R PyData := fun a b => gd (shF deep a && shF deep b) (.ok (.bool (eqF deep a b)))
def iNe : PyData → PyData → R PyData := fun a b => gd (shF deep a && shF deep b) (.ok (.bool (!eqF deep a b)))
theorem ops_eq : OpS K C E (rEqD K) iEq := by
  intro mu G0 H0 env σ G H x y dx dy Q S rx ry h
  obtain ⟨c, h⟩ := Post.gdL h
  · skip
    rw [Bool.and_eq_true] at c
    rw [eqF_eqv deep dx dy c.1] at h
    exact ⟨dx, dy, (Rp.mono S.sub _ _ rx).dp _ _ (shF_lay _ _ c.1).1, (Rp.mono S.sub _ _ ry).dp _ _ (shF_lay _ _ c.2).1, shF_shaped (by decide) c.1, shF_shaped (by decide) c.2, post_here S h (.bl _)⟩
theorem ops_ne : OpS K C E (rNeD K) iNe := by
  intro mu G0 H0 env σ G H x y dx dy Q S rx ry h
  obtain ⟨c, h⟩ := Post.gdL h
  · skip
    rw [Bool.and_eq_true] at c
    rw [eqF_eqv deep dx dy c.1] at h
    exact ⟨dx, dy, (Rp.mono S.sub _ _ rx).dp _ _ (shF_lay _ _ c.1).1, (Rp.mono S.sub _ _ ry).dp _ _ (shF_lay _ _ c.2).1, shF_shaped (by decide) c.1, shF_shaped (by decide) c.2, post_here S h (.bl _)⟩
end
end LW

namespace LW
open PySem PySem.Spec PyProof.Rows L2
section
variable {K : PySem.W.Frag} {mu : Mu} {G0 H0 G H G' H' : Hp} {env : LEnv} {σ : L2.St} {C : Cl} {E : XK} {α β γ δ : Type}
/-! ### tests -/
/-- a value that is True or False, as a test (pt_cmpR) -/
def mtB (f : M) : MT := fun env => (f env).bind fun p => match p.2 with
  | .bool b => .ok (p.1, b)
  | _ => .stuck
theorem sndt_test {te : TE} {f : M} (h : Snd K C E te f) : SndT K C E (tTest te) (mtB f) := by
  intro mu G0 H0 env σ G H Q S hh
  refine h _ _ _ _ _ _ _ _ S (hh.bind fun p x G1 H1 S1 s1 r1 h1 => ?_)
  obtain ⟨e, d⟩ := p
  cases r1 <;> first | exact h1.elim | exact ⟨_, rfl, post_here S1 h1 rfl⟩
theorem sndt_B {te : TE} {f : M} (h : Snd K C E te f) : SndT K C E (tB te) (mtB f) := by
  intro mu G0 H0 env σ G H Q S hh
  refine h _ _ _ _ _ _ _ _ S (hh.bind fun p x G1 H1 S1 s1 r1 h1 => ?_)
  obtain ⟨e, d⟩ := p
  cases r1 <;> first | exact h1.elim | exact ⟨_, rfl, post_here S1 h1 rfl⟩
/-- truth of an int, a bool, a list, a tuple -/
def truD : PyData → R Bool
  | .bool b => .ok b
  | .int i => .ok (i != 0)
  | .list xs => .ok (!xs.isEmpty)
  | .tuple xs => .ok (!xs.isEmpty)
  | .none => .ok false
  | _ => .stuck
def mtTru (f : M) : MT := fun env => (f env).bind fun p => lif p.1 (truD p.2)
theorem RpA.isEmpty {vs : List V} {ds : List PyData} (h : RpA K G vs ds) : vs.isEmpty = ds.isEmpty := by cases h <;> rfl
theorem sndt_tru {te : TE} {f : M} (h : Snd K C E te f) : SndT K C E (fun σ H Q => te σ H fun x H' => ∃ k, TruV K x H' k ∧ Q k H') (mtTru f) := by
  intro mu G0 H0 env σ G H Q S hh
  refine h _ _ _ _ _ _ _ _ S (hh.bind fun p x G1 H1 S1 s1 r1 h1 => ?_)
  obtain ⟨e, d⟩ := p
  cases r1 with
  | non => exact ⟨_, rfl, post_here S1 h1 rfl⟩
  | bl b => exact ⟨_, rfl, post_here S1 h1 rfl⟩
  | int i => exact ⟨_, rfl, post_here S1 h1 rfl⟩
  | str x => exact h1.elim
  | lst a b => exact ⟨_, .inl ⟨_, SqL.of (S1.sub _ _ a), rfl⟩, post_here S1 h1 (by rw [b.isEmpty])⟩
  | tup a b => exact ⟨_, .inr (.inl ⟨_, sqt_same S1.sub a, rfl⟩), post_here S1 h1 (by rw [b.isEmpty])⟩
  | dct a b => exact h1.elim
  | ins a b => exact h1.elim
def mtAnd (f g : MT) : MT := fun env => (f env).bind fun p => bif p.2 then g p.1 else .ok (p.1, false)
theorem sndt_and {t u : TT} {f g : MT} (h1 : SndT K C E t f) (h2 : SndT K C E u g) : SndT K C E (tAnd t u) (mtAnd f g) := by
  intro mu G0 H0 env σ G H Q S hh
  refine h1 _ _ _ _ _ _ _ _ S (hh.bind fun p x G1 H1 S1 s1 r1 h1' => ?_)
  obtain ⟨e, b⟩ := p
  obtain rfl : x = b := r1
  cases x with
  | true => exact iteT (h2 _ _ _ _ _ _ _ _ S1 h1')
  | false => exact iteF (post_here S1 h1' rfl)
def mtOr (f g : MT) : MT := fun env => (f env).bind fun p => bif p.2 then .ok (p.1, true) else g p.1
theorem sndt_or {t u : TT} {f g : MT} (h1 : SndT K C E t f) (h2 : SndT K C E u g) : SndT K C E (tOr t u) (mtOr f g) := by
  intro mu G0 H0 env σ G H Q S hh
  refine h1 _ _ _ _ _ _ _ _ S (hh.bind fun p x G1 H1 S1 s1 r1 h1' => ?_)
  obtain ⟨e, b⟩ := p
  obtain rfl : x = b := r1
  cases x with
  | true => exact iteT (post_here S1 h1' rfl)
  | false => exact iteF (h2 _ _ _ _ _ _ _ _ S1 h1')
def mtNot (f : MT) : MT := fun env => (f env).bind fun p => .ok (p.1, !p.2)
theorem sndt_not {t : TT} {f : MT} (h1 : SndT K C E t f) : SndT K C E (tNot t) (mtNot f) := by
  intro mu G0 H0 env σ G H Q S hh
  refine h1 _ _ _ _ _ _ _ _ S (hh.bind fun p x G1 H1 S1 s1 r1 h1' => ?_)
  obtain ⟨e, b⟩ := p
  obtain rfl : x = b := r1
  exact post_here S1 h1' rfl
/-- and, or as values -/
def mAndV (f g : M) : M := fun env => (f env).bind fun p => match p.2 with
  | .bool true => g p.1
  | .bool false => .ok (p.1, .bool false)
  | _ => .stuck
theorem snd_andV {ta tb : TE} {f g : M} (h1 : Snd K C E ta f) (h2 : Snd K C E tb g) : Snd K C E (tAndV ta tb) (mAndV f g) := by
  intro mu G0 H0 env σ G H Q S hh
  refine h1 _ _ _ _ _ _ _ _ S (hh.bind fun p x G1 H1 S1 s1 r1 h1' => ?_)
  obtain ⟨e, d⟩ := p
  cases r1 with
  | bl b =>
    refine ⟨b, rfl, ?_⟩
    cases b with
    | true => exact iteT (h2 _ _ _ _ _ _ _ _ S1 h1')
    | false => exact iteF (post_here S1 h1' (.bl _))
  | _ => exact h1'.elim
def mIf (c : MT) (f g : M) : M := fun env => (c env).bind fun p => bif p.2 then f p.1 else g p.1
theorem snd_if {t : TT} {ta tb : TE} {c : MT} {f g : M} (h0 : SndT K C E t c) (h1 : Snd K C E ta f) (h2 : Snd K C E tb g) : Snd K C E (tIf t ta tb) (mIf c f g) := by
  intro mu G0 H0 env σ G H Q S hh
  refine h0 _ _ _ _ _ _ _ _ S (hh.bind fun p x G1 H1 S1 s1 r1 h1' => ?_)
  obtain ⟨e, b⟩ := p
  obtain rfl : x = b := r1
  cases x with
  | true => exact iteT (h1 _ _ _ _ _ _ _ _ S1 h1')
  | false => exact iteF (h2 _ _ _ _ _ _ _ _ S1 h1')

/-! ### items, lengths -/
def ixD (i : Int) (ds : List PyData) : R PyData := match i with
  | .ofNat n => match nth ds n with | some d => .ok d | none => .stuck
  | .negSucc n => bif Nat.blt n ds.length then (match nth ds (ds.length - (n + 1)) with | some d => .ok d | none => .stuck) else .stuck
theorem ixD_at {i : Int} {vs : List V} {ds : List PyData} (h : RpA K G vs ds) {d : PyData} (e : ixD i ds = .ok d) : ∃ v, atI vs i = some v ∧ Rp K G v d := by
  have hl := h.length
  cases i with
  | ofNat n =>
    unfold ixD at e
    dsimp only at e
    rw [nth_eq] at e
    cases q : ds[n]? with
    | none => rw [q] at e; cases e
    | some d' =>
      rw [q] at e
      cases e
      obtain ⟨v, h1, h2⟩ := h.get q
      have hlt : n < vs.length := (List.getElem?_eq_some_iff.mp h1).1
      refine ⟨v, ?_, h2⟩
      show (ixN vs.length (n : Int)).bind _ = _
      unfold ixN
      rw [if_pos (Int.natCast_nonneg n), if_pos (by omega)]
      exact h1
  | negSucc n =>
    unfold ixD at e
    dsimp only at e
    cases c : Nat.blt n ds.length with
    | false => rw [c] at e; cases e
    | true =>
      rw [c] at e
      have c' := Nat.le_of_ble_eq_true c
      have e : (match nth ds (ds.length - (n + 1)) with | some d => R.ok d | none => R.stuck) = R.ok d := e
      rw [nth_eq] at e
      cases q : ds[ds.length - (n + 1)]? with
      | none => rw [q] at e; cases e
      | some d' =>
        rw [q] at e
        cases e
        obtain ⟨v, h1, h2⟩ := h.get q
        refine ⟨v, ?_, h2⟩
        show (ixN vs.length (Int.negSucc n)).bind _ = _
        unfold ixN
        rw [if_neg (by omega), if_pos (by omega), show (Int.negSucc n + (vs.length : Int)).toNat = ds.length - (n + 1) from by omega]
        exact h1
def iIx : PyData → PyData → R PyData
  | .list ds, .int i => ixD i ds
  | .tuple ds, .int i => ixD i ds
  | _, _ => .stuck
theorem ops_ix : OpS K C E (rIx K) iIx := by
  intro mu G0 H0 env σ G H x y dx dy Q S rx ry h
  cases rx with
  | lst a b =>
    cases ry with
    | int i =>
      rename_i xs ds
      have h : Post (RlE K) K C E mu G0 H0 σ G (lif env (ixD i ds)) Q := h
      cases e : ixD i ds with
      | ok d =>
        rw [e] at h
        obtain ⟨v, h1, h2⟩ := ixD_at b e
        exact .inl ⟨_, _, _, v, rfl, rfl, SqL.of (S.sub _ _ a), h1, post_here S h h2⟩
      | rai c =>
        exfalso
        unfold ixD at e
        split at e
        · split at e <;> cases e
        · cases hb : Nat.blt _ ds.length <;> rw [hb] at e
          · cases e
          · simp only [cond_true] at e
            split at e <;> cases e
      | stuck => rw [e] at h; exact h.elim
    | _ => exact h.elim
  | tup a b =>
    cases ry with
    | int i =>
      rename_i xs ds
      have h : Post (RlE K) K C E mu G0 H0 σ G (lif env (ixD i ds)) Q := h
      cases e : ixD i ds with
      | ok d =>
        rw [e] at h
        obtain ⟨v, h1, h2⟩ := ixD_at b e
        exact .inr (.inl ⟨_, _, _, v, rfl, rfl, sqt_same S.sub a, h1, post_here S h h2⟩)
      | rai c =>
        exfalso
        unfold ixD at e
        split at e
        · split at e <;> cases e
        · cases hb : Nat.blt _ ds.length <;> rw [hb] at e
          · cases e
          · simp only [cond_true] at e
            split at e <;> cases e
      | stuck => rw [e] at h; exact h.elim
    | _ => exact h.elim
  | _ => exact h.elim
/-! ### calls of built-ins -/
def mCa (op : List PyData → R PyData) (g : MA) : M := fun env => (g env).bind fun q => lif q.1 (op q.2)
theorem snd_cb {r : List V → Hp → VK → Prop} {op : List PyData → R PyData} {ta : TA} {g : MA} (hr : CaS K C E r op) (ha : SndA K C E ta g) : Snd K C E (tCB r ta) (mCa op g) := by
  intro mu G0 H0 env σ G H Q S h
  refine ha _ _ _ _ _ _ _ _ S (h.bind fun p xs G1 H1 S1 s1 r1 h1 => ?_)
  exact hr _ _ _ _ _ _ _ _ _ _ S1 r1 h1
def cLen : List PyData → R PyData
  | [.list ds] => .ok (.int (ds.length : Nat))
  | [.tuple ds] => .ok (.int (ds.length : Nat))
  | _ => .stuck
theorem cas_len : CaS K C E (fun xs H Q => ∃ p ys, xs = [.ref p] ∧ (SqL K H p ys ∨ SqT K H p ys) ∧ Q (.int ys.length) H) cLen := by
  intro mu G0 H0 env σ G H xs ds Q S r h
  cases r with
  | nil => exact h.elim
  | cons r1 r2 =>
    cases r2 with
    | cons _ _ => cases r1 <;> exact h.elim
    | nil =>
      cases r1 with
      | lst a b => exact ⟨_, _, rfl, .inl (SqL.of (S.sub _ _ a)), post_here S h (by rw [b.length]; exact .int _)⟩
      | tup a b => exact ⟨_, _, rfl, .inr (sqt_same S.sub a), post_here S h (by rw [b.length]; exact .int _)⟩
      | _ => exact h.elim
def cAbs : List PyData → R PyData
  | [.int i] => .ok (.int (if i < 0 then -i else i))
  | _ => .stuck
theorem cas_abs : CaS K C E (fun xs H Q => ∃ i, xs = [.int i] ∧ Q (.int (if i < 0 then -i else i)) H) cAbs := by
  intro mu G0 H0 env σ G H xs ds Q S r h
  cases r with
  | nil => exact h.elim
  | cons r1 r2 =>
    cases r2 with
    | cons _ _ => cases r1 <;> exact h.elim
    | nil => cases r1 <;> first | exact h.elim | exact ⟨_, rfl, post_here S h (.int _)⟩
def cInt : List PyData → R PyData
  | [.int i] => .ok (.int i)
  | [.bool b] => .ok (.int (if b then 1 else 0))
  | _ => .stuck
theorem cas_int : CaS K C E (fun xs H Q => (∃ i, xs = [.int i] ∧ Q (.int i) H) ∨ ∃ k, xs = [.bl k] ∧ Q (.int (if k then 1 else 0)) H) cInt := by
  intro mu G0 H0 env σ G H xs ds Q S r h
  cases r with
  | nil => exact h.elim
  | cons r1 r2 =>
    cases r2 with
    | cons _ _ => cases r1 <;> exact h.elim
    | nil => cases r1 <;> first | exact h.elim | exact .inl ⟨_, rfl, post_here S h (.int _)⟩ | exact .inr ⟨_, rfl, post_here S h (.int _)⟩
def cGcd : List PyData → R PyData
  | [.int a, .int b] => .ok (.int ((Nat.gcd a.natAbs b.natAbs : Nat) : Int))
  | _ => .stuck
theorem cas_gcd : CaS K C E rGcd cGcd := by
  intro mu G0 H0 env σ G H xs ds Q S r h
  cases r with
  | nil => exact h.elim
  | cons r1 r2 =>
    cases r2 with
    | nil => cases r1 <;> exact h.elim
    | cons r2 r3 =>
      cases r3 with
      | cons _ _ => cases r1 <;> cases r2 <;> exact h.elim
      | nil => cases r1 <;> cases r2 <;> first | exact h.elim | exact ⟨_, _, rfl, post_here S h (.int _)⟩
end
end LW

namespace LW
open PySem PySem.Spec PyProof.Rows L2
section
variable {K : PySem.W.Frag} {mu : Mu} {G0 H0 G H G' H' : Hp} {env env' : LEnv} {σ σ' : L2.St} {C : Cl} {E : XK} {α β γ δ : Type}
/-! ### slots -/
theorem StR.of (S : StR K C mu G0 H0 env σ G H) (hl : env'.length = σ'.length)
    (h : ∀ (i : Nat) s, env'[i]? = some (some s) → (env[i]? = some (some s) ∧ σ'[i]? = σ[i]?) ∨ (∃ d v, s = .sh d ∧ σ'[i]? = some (some v) ∧ Rp K G v d)) : StR K C mu G0 H0 env' σ' G H where
  sub := S.sub
  ng := S.ng
  g0 := S.g0
  fz := S.fz
  new := S.new
  mh := S.mh
  len := hl
  sh := fun i d e => by
    rcases h i _ e with ⟨e1, e2⟩ | ⟨d', v, e1, e2, e3⟩
    · rw [e2]; exact S.sh i d e1
    · cases e1; exact ⟨v, e2, e3⟩
  ol := fun i m ds e => by
    rcases h i _ e with ⟨e1, e2⟩ | ⟨d', v, e1, e2, e3⟩
    · rw [e2]; exact S.ol i m ds e1
    · cases e1
  ow := fun i j p ⟨m1, d1, o1⟩ ⟨m2, d2, o2⟩ a b => by
    rcases h i _ o1 with ⟨e1, e2⟩ | ⟨d', v, e1, e2, e3⟩
    · rcases h j _ o2 with ⟨f1, f2⟩ | ⟨d', v, f1, f2, f3⟩
      · rw [e2] at a; rw [f2] at b
        exact S.ow i j p ⟨m1, d1, e1⟩ ⟨m2, d2, f1⟩ a b
      · cases f1
    · cases e1
theorem get_set {α : Type} {l : List α} {i j : Nat} {x : α} : (l.set i x)[j]? = if i = j then (if i < l.length then some x else none) else l[j]? := by
  by_cases h : i = j
  · subst h
    rw [if_pos rfl]
    by_cases hl : i < l.length
    · rw [if_pos hl, List.getElem?_set_self hl]
    · rw [if_neg hl, List.getElem?_eq_none (by rw [List.length_set]; omega)]
  · rw [if_neg h, List.getElem?_set_ne h]
theorem StR.set_sh (S : StR K C mu G0 H0 env σ G H) (i : Nat) {v : V} {d : PyData} (r : Rp K G v d) : StR K C mu G0 H0 (env.set i (some (.sh d))) (σ.set i (some v)) G H := by
  refine S.of (by rw [List.length_set, List.length_set]; exact S.len) fun j s e => ?_
  rw [get_set] at e
  by_cases h : i = j
  · subst h
    rw [if_pos rfl] at e
    by_cases hl : i < env.length
    · rw [if_pos hl] at e
      cases e
      exact .inr ⟨d, v, rfl, by rw [get_set, if_pos rfl, if_pos (by rw [← S.len]; exact hl)], r⟩
    · rw [if_neg hl] at e; cases e
  · rw [if_neg h] at e
    exact .inl ⟨e, by rw [get_set, if_neg h]⟩
theorem StR.drop_at (S : StR K C mu G0 H0 env σ G H) (i : Nat) (x : Option V) : StR K C mu G0 H0 (env.set i none) (σ.set i x) G H := by
  refine S.of (by rw [List.length_set, List.length_set]; exact S.len) fun j s e => ?_
  rw [get_set] at e
  by_cases h : i = j
  · subst h
    rw [if_pos rfl] at e
    split at e <;> cases e
  · rw [if_neg h] at e
    exact .inl ⟨e, by rw [get_set, if_neg h]⟩
/-- less known -/
theorem StR.forget (S : StR K C mu G0 H0 env σ G H) (i : Nat) : StR K C mu G0 H0 (env.set i none) σ G H := by
  refine S.of (by rw [List.length_set]; exact S.len) fun j s e => ?_
  rw [get_set] at e
  by_cases h : i = j
  · subst h
    rw [if_pos rfl] at e
    split at e <;> cases e
  · rw [if_neg h] at e
    exact .inl ⟨e, rfl⟩
def wipeE : LEnv → List Nat → LEnv
  | e, [] => e
  | e, v :: vs => (wipeE e vs).set v none
theorem StR.wipe (S : StR K C mu G0 H0 env σ G H) : ∀ vs : List Nat, StR K C mu G0 H0 (wipeE env vs) (L2.wipe σ vs) G H
  | [] => S
  | v :: vs => (StR.wipe S vs).drop_at v none
theorem wipe_get (σ : L2.St) (vs : List Nat) (j : Nat) : (L2.wipe σ vs)[j]? = if j ∈ vs then (if j < σ.length then some none else none) else σ[j]? := by
  induction vs with
  | nil => simp [L2.wipe]
  | cons v vs ih =>
    unfold L2.wipe
    rw [get_set, ih, wipe_length]
    by_cases h : v = j
    · subst h; simp
    · have h' : ¬ j = v := fun q => h q.symm
      simp only [List.mem_cons, h, h', if_false, false_or]
theorem wipe_same {σ σ' : L2.St} {vs : List Nat} (hl : σ'.length = σ.length) (h : ∀ (j : Nat), j ∉ vs → σ'[j]? = σ[j]?) : L2.wipe σ' vs = L2.wipe σ vs := by
  apply List.ext_getElem?
  intro j
  rw [wipe_get, wipe_get, hl]
  by_cases hj : j ∈ vs
  · rw [if_pos hj, if_pos hj]
  · rw [if_neg hj, if_neg hj]; exact h j hj

/-! ### statements -/
def PostS (K : PySem.W.Frag) (C : Cl) (E : XK) (mu : Mu) (G0 H0 : Hp) (G : Hp) : RS → Ends → Prop
  | .nx e, D => ∀ σ' G' H', StR K C mu G0 H0 e σ' G' H' → Same G G' → D.nx σ' H'
  | .ct e, D => ∀ σ' G' H', StR K C mu G0 H0 e σ' G' H' → Same G G' → D.ct σ' H'
  | .bk e, D => ∀ σ' G' H', StR K C mu G0 H0 e σ' G' H' → Same G G' → D.bk σ' H'
  | .rt e d, D => ∀ v σ' G' H', StR K C mu G0 H0 e σ' G' H' → Same G G' → Rp K G' v d → D.rt v H'
  | .rai c, _ => ∀ H', Fz C.T mu.ch H0 H' → E (C.cl c) none H'
  | .stuck, _ => False
theorem PostS.mono {r : RS} {D : Ends} (s : Same G G') (h : PostS K C E mu G0 H0 G r D) : PostS K C E mu G0 H0 G' r D := by
  cases r with
  | nx e => exact fun σ' G2 H2 S s2 => h σ' G2 H2 S (s.trans s2)
  | ct e => exact fun σ' G2 H2 S s2 => h σ' G2 H2 S (s.trans s2)
  | bk e => exact fun σ' G2 H2 S s2 => h σ' G2 H2 S (s.trans s2)
  | rt e d => exact fun v σ' G2 H2 S s2 r => h v σ' G2 H2 S (s.trans s2) r
  | rai c => exact h
  | stuck => exact h
def SndS (K : PySem.W.Frag) (C : Cl) (E : XK) (ts : TS) (ms : MS) : Prop := ∀ mu G0 H0 env σ G H D, StR K C mu G0 H0 env σ G H → PostS K C E mu G0 H0 G (ms env) D → ts D σ H
def bindS {α : Type} (r : RE α) (f : LEnv × α → RS) : RS := match r with
  | .ok p => f p
  | .rai c => .rai c
  | .stuck => .stuck
theorem PostS.bind {Rl : Hp → β → α → Prop} {r : RE α} {f : LEnv × α → RS} {D : Ends} {Q1 : β → Hp → Prop} (h : PostS K C E mu G0 H0 G (bindS r f) D)
    (k : ∀ p v G' H', StR K C mu G0 H0 p.1 σ G' H' → Same G G' → Rl G' v p.2 → PostS K C E mu G0 H0 G' (f p) D → Q1 v H') : Post Rl K C E mu G0 H0 σ G r Q1 := by
  cases r with
  | ok p => exact fun v G' H' S s r => k p v G' H' S s r (PostS.mono s h)
  | rai c => exact h
  | stuck => exact h
def mNext : MS := fun env => .nx env
theorem snds_next : SndS K C E tNext mNext := fun mu G0 H0 env σ G H D S h => h σ G H S (.refl _)
def mSeq (a b : MS) : MS := fun env => match a env with
  | .nx e => b e
  | x => x
theorem snds_seq {t u : TS} {a b : MS} (h1 : SndS K C E t a) (h2 : SndS K C E u b) : SndS K C E (tSeq t u) (mSeq a b) := by
  intro mu G0 H0 env σ G H D S h
  refine h1 _ _ _ _ _ _ _ _ S ?_
  have h : PostS K C E mu G0 H0 G (match a env with | .nx e => b e | x => x) D := h
  cases e : a env with
  | nx e' =>
    rw [e] at h
    exact fun σ' G' H' S' s' => h2 _ _ _ _ _ _ _ _ S' (PostS.mono s' h)
  | ct e' => rw [e] at h; exact h
  | bk e' => rw [e] at h; exact h
  | rt e' d => rw [e] at h; exact h
  | rai c => rw [e] at h; exact h
  | stuck => rw [e] at h; exact h
def mIfS (c : MT) (a b : MS) : MS := fun env => bindS (c env) fun p => bif p.2 then a p.1 else b p.1
theorem snds_if {tc : TT} {t u : TS} {c : MT} {a b : MS} (h0 : SndT K C E tc c) (h1 : SndS K C E t a) (h2 : SndS K C E u b) : SndS K C E (tIfS tc t u) (mIfS c a b) := by
  intro mu G0 H0 env σ G H D S h
  refine h0 _ _ _ _ _ _ _ _ S (h.bind fun p x G1 H1 S1 s1 r1 h1' => ?_)
  obtain ⟨e, bb⟩ := p
  obtain rfl : x = bb := r1
  cases x with
  | true => exact iteT (h1 _ _ _ _ _ _ _ _ S1 h1')
  | false => exact iteF (h2 _ _ _ _ _ _ _ _ S1 h1')
def mRet (f : M) : MS := fun env => bindS (f env) fun p => .rt p.1 p.2
theorem snds_ret {te : TE} {f : M} (h1 : Snd K C E te f) : SndS K C E (tRet te) (mRet f) := by
  intro mu G0 H0 env σ G H D S h
  refine h1 _ _ _ _ _ _ _ _ S (h.bind fun p x G1 H1 S1 s1 r1 h1' => ?_)
  exact h1' x σ G1 H1 S1 (.refl _) r1
def mDrop (f : M) : MS := fun env => bindS (f env) fun p => .nx p.1
theorem snds_drop {te : TE} {f : M} (h1 : Snd K C E te f) : SndS K C E (tDrop te) (mDrop f) := by
  intro mu G0 H0 env σ G H D S h
  refine h1 _ _ _ _ _ _ _ _ S (h.bind fun p x G1 H1 S1 s1 r1 h1' => ?_)
  exact h1' σ G1 H1 S1 (.refl _)
def mRai (c : Nat) : MS := fun _ => .rai c
theorem snds_rai {c : Nat} {cv : Value} (hc : C.cl c = cv) : SndS K C E (fun _ σ H => (fun _ H Q => Q cv none H : L2.St → Hp → XK → Prop) σ H fun cls d H' => E cls d H') (mRai c) := by
  subst hc
  exact fun mu G0 H0 env σ G H D S h => h H S.fz
def mBreak : MS := fun env => .bk env
theorem snds_break : SndS K C E tBreak mBreak := fun mu G0 H0 env σ G H D S h => h σ G H S (.refl _)
def mCont : MS := fun env => .ct env
theorem snds_cont : SndS K C E tCont mCont := fun mu G0 H0 env σ G H D S h => h σ G H S (.refl _)

/-! ### targets -/
abbrev Bi := PyData → LEnv → R LEnv
def PostG (K : PySem.W.Frag) (C : Cl) (mu : Mu) (G0 H0 : Hp) (σ : L2.St) (G H : Hp) (is : List Nat) : R LEnv → (L2.St → Hp → Prop) → Prop
  | .ok e, Q => ∀ σ', StR K C mu G0 H0 e σ' G H → σ'.length = σ.length → (∀ (j : Nat), j ∉ is → σ'[j]? = σ[j]?) → Q σ' H
  | _, _ => False
def SndG (K : PySem.W.Frag) (C : Cl) (g : TG) (b : Bi) (is : List Nat) : Prop := ∀ mu G0 H0 env σ G H v d Q, StR K C mu G0 H0 env σ G H → Rp K G v d → PostG K C mu G0 H0 σ G H is (b d env) Q → g v σ H Q
def bName (i : Nat) : Bi := fun d env => .ok (env.set i (some (.sh d)))
theorem sndg_name {i : Nat} : SndG K C (gName i) (bName i) [i] := by
  intro mu G0 H0 env σ G H v d Q S r h
  exact h _ (S.set_sh i r) (List.length_set ..) fun j hj => by rw [List.getElem?_set_ne]; intro q; exact hj (by rw [q]; exact List.mem_singleton.mpr rfl)
abbrev BiA := List PyData → LEnv → R LEnv
def SndGs (K : PySem.W.Frag) (C : Cl) (g : TGs) (b : BiA) (is : List Nat) : Prop := ∀ mu G0 H0 env σ G H vs ds Q, StR K C mu G0 H0 env σ G H → RpA K G vs ds → PostG K C mu G0 H0 σ G H is (b ds env) Q → g vs σ H Q
def bNil : BiA := fun ds env => match ds with
  | [] => .ok env
  | _ => .stuck
def bCons (b : Bi) (r : BiA) : BiA := fun ds env => match ds with
  | d :: ds => (b d env).bind fun e => r ds e
  | [] => .stuck
theorem sndgs_nil : SndGs K C gNil bNil [] := by
  intro mu G0 H0 env σ G H vs ds Q S r h
  cases r with
  | nil => exact ⟨rfl, h σ S rfl fun _ _ => rfl⟩
  | cons _ _ => exact h.elim
theorem sndgs_cons {g : TG} {gs : TGs} {b : Bi} {bs : BiA} {is js : List Nat} (h1 : SndG K C g b is) (h2 : SndGs K C gs bs js) : SndGs K C (gCons g gs) (bCons b bs) (is ++ js) := by
  intro mu G0 H0 env σ G H vs ds Q S r h
  cases r with
  | nil => exact h.elim
  | @cons v vs d ds r1 r2 =>
    refine ⟨v, vs, rfl, h1 _ _ _ _ _ _ _ _ _ _ S r1 ?_⟩
    have h : PostG K C mu G0 H0 σ G H (is ++ js) ((b d env).bind fun e => bs ds e) Q := h
    cases e : b d env with
    | ok e1 =>
      rw [e] at h
      intro σ1 S1 l1 k1
      refine h2 _ _ _ _ _ _ _ _ _ _ S1 r2 ?_
      have h : PostG K C mu G0 H0 σ G H (is ++ js) (bs ds e1) Q := h
      cases e2 : bs ds e1 with
      | ok e3 =>
        rw [e2] at h
        exact fun σ2 S2 l2 k2 => h σ2 S2 (l2.trans l1) fun j hj => by
          rw [List.mem_append, not_or] at hj
          rw [k2 j hj.2, k1 j hj.1]
      | rai c => rw [e2] at h; exact h
      | stuck => rw [e2] at h; exact h
    | rai c => rw [e] at h; exact h
    | stuck => rw [e] at h; exact h
def bTup (n : Nat) (bs : BiA) : Bi := fun d env => match d with
  | .tuple ds => gd (Nat.beq ds.length n) (bs ds env)
  | _ => .stuck
theorem sndg_tup {n : Nat} {gs : TGs} {bs : BiA} {is : List Nat} (h : SndGs K C gs bs is) : SndG K C (gTup K n gs) (bTup n bs) is := by
  intro mu G0 H0 env σ G H v d Q S r hh
  cases r with
  | tup a b =>
    rename_i xs ds
    have hh : PostG K C mu G0 H0 σ G H is (gd (Nat.beq ds.length n) (bs ds env)) Q := hh
    cases c : Nat.beq ds.length n with
    | true =>
      rw [c] at hh
      exact ⟨_, _, rfl, sqt_same S.sub a, by rw [b.length]; exact Nat.eq_of_beq_eq_true c, h _ _ _ _ _ _ _ _ _ _ S b hh⟩
    | false => rw [c] at hh; exact hh.elim
  | _ => exact hh.elim
def mAsg (b : Bi) (f : M) : MS := fun env => bindS (f env) fun p => match b p.2 p.1 with
  | .ok e => .nx e
  | _ => .stuck
theorem snds_asg {te : TE} {g : TG} {f : M} {b : Bi} {is : List Nat} (h1 : Snd K C E te f) (h2 : SndG K C g b is) : SndS K C E (tAsg te g) (mAsg b f) := by
  intro mu G0 H0 env σ G H D S h
  refine h1 _ _ _ _ _ _ _ _ S (h.bind fun p x G1 H1 S1 s1 r1 h1' => ?_)
  refine h2 _ _ _ _ _ _ _ _ _ _ S1 r1 ?_
  have h1' : PostS K C E mu G0 H0 G1 (match b p.2 p.1 with | .ok e => .nx e | _ => .stuck) D := h1'
  cases e : b p.2 p.1 with
  | ok e1 => rw [e] at h1'; exact fun σ' S' _ _ => h1' σ' G1 H1 S' (.refl _)
  | rai c => rw [e] at h1'; exact h1'
  | stuck => rw [e] at h1'; exact h1'
def mPar (i j : Nat) (g : MA) : MS := fun env => bindS (g env) fun p => match p.2 with
  | [a, b] => .nx ((p.1.set i (some (.sh a))).set j (some (.sh b)))
  | _ => .stuck
theorem snds_par {i j : Nat} {ta : TA} {g : MA} (h1 : SndA K C E ta g) : SndS K C E (tPar i j ta) (mPar i j g) := by
  intro mu G0 H0 env σ G H D S h
  refine h1 _ _ _ _ _ _ _ _ S (h.bind fun p x G1 H1 S1 s1 r1 h1' => ?_)
  obtain ⟨e, ds⟩ := p
  cases r1 with
  | nil => exact h1'.elim
  | cons ra r2 =>
    cases r2 with
    | nil => exact h1'.elim
    | cons rb r3 =>
      cases r3 with
      | nil => exact ⟨_, _, rfl, h1' _ G1 H1 ((S1.set_sh i ra).set_sh j rb) (.refl _)⟩
      | cons _ _ => exact h1'.elim

/-! ### what is walked -/
structure ItOk (K : PySem.W.Frag) (J : It) (G : Hp) (ds : List PyData) : Prop where
  ex : ∃ vs : List V, RpA K G vs ds ∧ (∀ i H, Same G H → i < vs.length → J.go i H) ∧ (∀ i H, Same G H → vs.length ≤ i → J.stop i H) ∧ ∀ i H x H', Same G H → J.yld i H x H' → i < vs.length → H' = H ∧ vs[i]? = some x
abbrev RlI (K : PySem.W.Frag) : Hp → It → List PyData → Prop := fun G J ds => ItOk K J G ds
def SndI (K : PySem.W.Frag) (C : Cl) (E : XK) (wi : TI) (mi : MA) : Prop := ∀ mu G0 H0 env σ G H R, StR K C mu G0 H0 env σ G H → Post (RlI K) K C E mu G0 H0 σ G (mi env) R → wi σ H R
def seqOf : PyData → R (List PyData)
  | .list ds => .ok ds
  | .tuple ds => .ok ds
  | _ => .stuck
def miSeq (f : M) : MA := fun env => (f env).bind fun p => lif p.1 (seqOf p.2)
def iSeq (K : PySem.W.Frag) (te : TE) : TI := fun σ H R => iList K te σ H R ∨ iTup K te σ H R
theorem pi_seq {X : Cx} {tg l : Expr} {tl : TE} (hl : PE X l tl) : PI X tg l (iSeq X.K tl) := ⟨fun pins s σ H R I h => by
  rcases h with h | h
  · exact (pi_list hl).run pins s σ H R I h
  · exact (pi_tup hl).run pins s σ H R I h⟩
theorem itok_list {a : Addr} {xs : List V} {ds : List PyData} (h : G a = some (.lst xs)) (r : RpA K G xs ds) : ItOk K (Itl K a) G ds :=
  ⟨xs, r, fun i H s hi => ⟨xs, xs[i], SqL.of (s _ _ h), List.getElem?_eq_getElem hi⟩, fun i H s hi => ⟨xs, SqL.of (s _ _ h), hi⟩, fun i H x H' s y _ => ⟨y.1, y.2 xs (SqL.of (s _ _ h))⟩⟩
theorem itok_tup {a : Addr} {xs : List V} {ds : List PyData} (h : TpT K G a xs) (r : RpA K G xs ds) : ItOk K (Itt K a) G ds :=
  ⟨xs, r, fun i H s hi => ⟨xs, xs[i], sqt_same s h, List.getElem?_eq_getElem hi⟩, fun i H s hi => ⟨xs, sqt_same s h, hi⟩, fun i H x H' s y _ => ⟨y.1, y.2 xs (sqt_same s h)⟩⟩
theorem sndi_seq {te : TE} {f : M} (h : Snd K C E te f) : SndI K C E (iSeq K te) (miSeq f) := by
  intro mu G0 H0 env σ G H R S hh
  have go : ∀ e d, f env = .ok (e, d) → Post (RlI K) K C E mu G0 H0 σ G (lif e (seqOf d)) R → iSeq K te σ H R := by
    intro e d ef h1
    cases d with
    | list ds =>
      refine .inl (h _ _ _ _ _ _ _ _ S ?_)
      rw [ef]
      intro v G' H' S' s' r
      cases r with
      | lst a b => exact ⟨_, rfl, ⟨_, SqL.of (S'.sub _ _ a)⟩, h1 _ G' H' S' s' (itok_list a b)⟩
    | tuple ds =>
      refine .inr (h _ _ _ _ _ _ _ _ S ?_)
      rw [ef]
      intro v G' H' S' s' r
      cases r with
      | tup a b => exact ⟨_, rfl, ⟨_, sqt_same S'.sub a⟩, h1 _ G' H' S' s' (itok_tup a b)⟩
    | _ => exact h1.elim
  have hh : Post (RlI K) K C E mu G0 H0 σ G ((f env).bind fun p => lif p.1 (seqOf p.2)) R := hh
  cases e : f env with
  | ok p => rw [e] at hh; exact go p.1 p.2 e hh
  | rai c => 
    refine .inl (h _ _ _ _ _ _ _ _ S ?_)
    rw [e] at hh ⊢
    exact hh
  | stuck => rw [e] at hh; exact hh.elim
/-- lo, lo + 1, .. -/
def upFrom : Int → Nat → List PyData
  | _, 0 => []
  | lo, n + 1 => .int lo :: upFrom (lo + 1) n
theorem upFrom_length : ∀ (lo : Int) (n : Nat), (upFrom lo n).length = n
  | _, 0 => rfl
  | lo, n + 1 => by simp [upFrom, upFrom_length (lo + 1) n]
def upV : Int → Nat → List V
  | _, 0 => []
  | lo, n + 1 => .int lo :: upV (lo + 1) n
theorem upV_length : ∀ (lo : Int) (n : Nat), (upV lo n).length = n
  | _, 0 => rfl
  | lo, n + 1 => by simp [upV, upV_length (lo + 1) n]
theorem upV_get : ∀ (lo : Int) (n i : Nat), i < n → (upV lo n)[i]? = some (V.int (lo + i))
  | lo, n + 1, 0, _ => by simp [upV]
  | lo, n + 1, i + 1, h => by
    have := upV_get (lo + 1) n i (by omega)
    show (upV (lo + 1) n)[i]? = _
    rw [this]
    congr 2
    omega
theorem rpa_up : ∀ (lo : Int) (n : Nat), RpA K G (upV lo n) (upFrom lo n)
  | _, 0 => .nil
  | lo, n + 1 => .cons (.int _) (rpa_up (lo + 1) n)
theorem itok_range {lo : Int} {n : Nat} : ItOk K (Itr lo n) G (upFrom lo n) :=
  ⟨upV lo n, rpa_up lo n, fun i H _ hi => by rw [upV_length] at hi; exact hi, fun i H _ hi => by rw [upV_length] at hi; exact hi, fun i H x H' _ y hi => ⟨y.1, by rw [upV_length] at hi; rw [upV_get lo n i hi, y.2]⟩⟩
/-- within a million either way -/
def near (i : Int) : Bool := Nat.ble i.natAbs small
theorem near_is {i : Int} (h : near i = true) : -(1000000 : Int) ≤ i ∧ i ≤ 1000000 := by
  have := Nat.le_of_ble_eq_true h
  unfold small at this
  omega
def rg1 : List PyData → R (List PyData)
  | [.int j] => gd (near j) (.ok (upFrom 0 j.toNat))
  | _ => .stuck
def rg2 : List PyData → R (List PyData)
  | [.int i, .int j] => gd (near i && near j) (.ok (upFrom i (j - i).toNat))
  | _ => .stuck
def miR (rg : List PyData → R (List PyData)) (g : MA) : MA := fun env => (g env).bind fun p => lif p.1 (rg p.2)
theorem sndi_rg1 {ta : TA} {g : MA} (h : SndA K C E ta g) : SndI K C E (iRng1 ta) (miR rg1 g) := by
  intro mu G0 H0 env σ G H R S hh
  refine h _ _ _ _ _ _ _ _ S (hh.bind fun p xs G1 H1 S1 s1 r1 h1 => ?_)
  obtain ⟨e, ds⟩ := p
  cases r1 with
  | nil => exact h1.elim
  | cons ra r2 =>
    cases r2 with
    | cons _ _ => cases ra <;> exact h1.elim
    | nil =>
      cases ra with
      | int j =>
        obtain ⟨c, h1⟩ := Post.gdL h1
        have := near_is c
        exact ⟨j, rfl, by omega, by omega, post_here S1 h1 itok_range⟩
      | _ => exact h1.elim
theorem sndi_rg2 {ta : TA} {g : MA} (h : SndA K C E ta g) : SndI K C E (iRng2 ta) (miR rg2 g) := by
  intro mu G0 H0 env σ G H R S hh
  refine h _ _ _ _ _ _ _ _ S (hh.bind fun p xs G1 H1 S1 s1 r1 h1 => ?_)
  obtain ⟨e, ds⟩ := p
  cases r1 with
  | nil => exact h1.elim
  | cons ra r2 =>
    cases r2 with
    | nil => cases ra <;> exact h1.elim
    | cons rb r3 =>
      cases r3 with
      | cons _ _ => cases ra <;> cases rb <;> exact h1.elim
      | nil =>
        cases ra with
        | int i =>
          cases rb with
          | int j =>
            obtain ⟨c, h1⟩ := Post.gdL h1
            rw [Bool.and_eq_true] at c
            have := near_is c.1
            have := near_is c.2
            exact ⟨i, j, rfl, ⟨by omega, by omega, by omega, by omega⟩, post_here S1 h1 itok_range⟩
          | _ => exact h1.elim
        | _ => cases rb <;> exact h1.elim

/-! ### turns: what is walked, with its target -/
structure Turns (K : PySem.W.Frag) (C : Cl) (g : TG) (b : Bi) (is : List Nat) (J : It) (G : Hp) (ds : List PyData) : Prop where
  go : ∀ i H, Same G H → i < ds.length → J.go i H
  st : ∀ i H, Same G H → i = ds.length → J.stop i H
  yl : ∀ i H x H', Same G H → J.yld i H x H' → ∀ d, ds[i]? = some d → ∀ mu G0 H0 env σ G2, StR K C mu G0 H0 env σ G2 H → Same G G2 → ∃ G3, Same G2 G3 ∧ ∀ Q, PostG K C mu G0 H0 σ G3 H' is (b d env) Q → g x σ H' Q
def SndIT (K : PySem.W.Frag) (C : Cl) (E : XK) (wi : TI) (mi : MA) (g : TG) (b : Bi) (is : List Nat) : Prop := ∀ mu G0 H0 env σ G H R, StR K C mu G0 H0 env σ G H → Post (fun G J ds => Turns K C g b is J G ds) K C E mu G0 H0 σ G (mi env) R → wi σ H R
theorem sndit_of {wi : TI} {mi : MA} {g : TG} {b : Bi} {is : List Nat} (hi : SndI K C E wi mi) (hg : SndG K C g b is) : SndIT K C E wi mi g b is := by
  intro mu G0 H0 env σ G H R S hh
  refine hi _ _ _ _ _ _ _ _ S ?_
  cases e : mi env with
  | rai c => rw [e] at hh; exact hh
  | stuck => rw [e] at hh; exact hh
  | ok p =>
    rw [e] at hh
    intro J G1 H1 S1 s1 r1
    obtain ⟨vs, rv, hgo, hst, hy⟩ := r1.ex
    have hl : vs.length = p.2.length := rv.length
    refine hh J G1 H1 S1 s1 ⟨fun i H s lt => hgo i H s (by rw [hl]; exact lt), fun i H s le => hst i H s (by rw [hl]; exact Nat.le_of_eq le.symm), fun i H x H' s y d hd => ?_⟩
    have lt : i < vs.length := by rw [hl]; exact (List.getElem?_eq_some_iff.mp hd).1
    obtain ⟨rfl, hx⟩ := hy i H x H' s y lt
    intro mu G0 H0 env σ G2 S2 s2
    refine ⟨G2, .refl _, fun Q q => ?_⟩
    obtain ⟨d', hd', rd⟩ := rv.getV hx
    rw [hd] at hd'; cases hd'
    exact hg _ _ _ _ _ _ _ _ _ _ S2 (Rp.mono s2 _ _ rd) q
/-- a new tuple is taken to pieces -/
def SndGT (K : PySem.W.Frag) (C : Cl) (g : TG) (b : Bi) (is : List Nat) : Prop := ∀ mu G0 H0 env σ G H T us es Q, StR K C mu G0 H0 env σ G H → SqT K H T us → RpA K G us es → PostG K C mu G0 H0 σ G H is (b (.tuple es) env) Q → g (.ref T) σ H Q
theorem sndgt_tup {n : Nat} {gs : TGs} {bs : BiA} {is : List Nat} (h : SndGs K C gs bs is) : SndGT K C (gTup K n gs) (bTup n bs) is := by
  intro mu G0 H0 env σ G H T us es Q S a b hh
  have hh : PostG K C mu G0 H0 σ G H is (gd (Nat.beq es.length n) (bs es env)) Q := hh
  cases c : Nat.beq es.length n with
  | true =>
    rw [c] at hh
    exact ⟨_, _, rfl, a, by rw [b.length]; exact Nat.eq_of_beq_eq_true c, h _ _ _ _ _ _ _ _ _ _ S b hh⟩
  | false => rw [c] at hh; exact hh.elim
/-- each turn lays a new tuple -/
structure ItOkP (K : PySem.W.Frag) (J : It) (G : Hp) (ds : List PyData) : Prop where
  go : ∀ i H, Same G H → i < ds.length → J.go i H
  st : ∀ i H, Same G H → i = ds.length → J.stop i H
  yl : ∀ i H x H', Same G H → J.yld i H x H' → i < ds.length → ∃ T us es, x = .ref T ∧ H T = none ∧ H' = upd H T (.tup us) ∧ ds[i]? = some (.tuple es) ∧ RpA K G us es
def SndIP (K : PySem.W.Frag) (C : Cl) (E : XK) (wi : TI) (mi : MA) : Prop := ∀ mu G0 H0 env σ G H R, StR K C mu G0 H0 env σ G H → Post (fun G J ds => ItOkP K J G ds) K C E mu G0 H0 σ G (mi env) R → wi σ H R
theorem sndit_ofP {wi : TI} {mi : MA} {g : TG} {b : Bi} {is : List Nat} (hi : SndIP K C E wi mi) (hg : SndGT K C g b is) : SndIT K C E wi mi g b is := by
  intro mu G0 H0 env σ G H R S hh
  refine hi _ _ _ _ _ _ _ _ S ?_
  cases e : mi env with
  | rai c => rw [e] at hh; exact hh
  | stuck => rw [e] at hh; exact hh
  | ok p =>
    rw [e] at hh
    intro J G1 H1 S1 s1 r1
    refine hh J G1 H1 S1 s1 ⟨r1.go, r1.st, fun i H x H' s y d hd => ?_⟩
    obtain ⟨T, us, es, rfl, hT, rfl, hd', ra⟩ := r1.yl i H x H' s y (List.getElem?_eq_some_iff.mp hd).1
    rw [hd] at hd'; cases hd'
    exact fun mu G0 H0 env σ G2 S2 s2 => ⟨G2, .refl _, fun Q q => hg _ _ _ _ _ _ _ _ _ _ _ (S2.ext (Xt.hid S2.sub S2.fz.tb hT)) (.inl (.inl upd_same)) (RpA.mono s2 _ _ ra) q⟩
/-- each turn lays a new tuple that is kept -/
structure ItOkN (K : PySem.W.Frag) (J : It) (G : Hp) (ds : List PyData) : Prop where
  go : ∀ i H, Same G H → i < ds.length → J.go i H
  st : ∀ i H, Same G H → i = ds.length → J.stop i H
  yl : ∀ i H x H', Same G H → J.yld i H x H' → i < ds.length → ∃ T o us es, x = .ref T ∧ H T = none ∧ H' = upd H T (.frz o (.tup us)) ∧ o.cls = .type "tuple" ∧ o.dict = none ∧ ds[i]? = some (.tuple es) ∧ RpA K G us es
def SndIN (K : PySem.W.Frag) (C : Cl) (E : XK) (wi : TI) (mi : MA) : Prop := ∀ mu G0 H0 env σ G H R, StR K C mu G0 H0 env σ G H → Post (fun G J ds => ItOkN K J G ds) K C E mu G0 H0 σ G (mi env) R → wi σ H R
theorem sndit_ofN {wi : TI} {mi : MA} {g : TG} {b : Bi} {is : List Nat} (hi : SndIN K C E wi mi) (hg : SndG K C g b is) : SndIT K C E wi mi g b is := by
  intro mu G0 H0 env σ G H R S hh
  refine hi _ _ _ _ _ _ _ _ S ?_
  cases e : mi env with
  | rai c => rw [e] at hh; exact hh
  | stuck => rw [e] at hh; exact hh
  | ok p =>
    rw [e] at hh
    intro J G1 H1 S1 s1 r1
    refine hh J G1 H1 S1 s1 ⟨r1.go, r1.st, fun i H x H' s y d hd => ?_⟩
    obtain ⟨T, o, us, es, rfl, hT, rfl, c1, c2, hd', ra⟩ := r1.yl i H x H' s y (List.getElem?_eq_some_iff.mp hd).1
    rw [hd] at hd'; cases hd'
    intro mu G0 H0 env σ G2 S2 s2
    have gT : G2 T = none := S2.sub.free hT
    refine ⟨upd G2 T (.frz o (.tup us)), same_new gT, fun Q q => hg _ _ _ _ _ _ _ _ _ _ (S2.ext (Xt.new S2.sub S2.fz.tb hT nt_frz)) (.tup (tpt_new c1 c2) (RpA.mono (s2.trans (same_new gT)) _ _ ra)) q⟩

/-! ### loops -/
def forL (b : Bi) (body : MS) : List PyData → LEnv → RS
  | [], e => .nx e
  | d :: r, e => match b d e with
    | .ok e1 => match body e1 with
      | .nx e2 => forL b body r e2
      | .ct e2 => forL b body r e2
      | .bk e2 => .nx e2
      | .rt e2 d2 => .rt e2 d2
      | .rai c => .rai c
      | .stuck => .stuck
    | _ => .stuck
def mFor (mi : MA) (b : Bi) (body : MS) : MS := fun env => bindS (mi env) fun p => forL b body p.2 p.1
theorem snds_forT {wi : TI} {g : TG} {tb : TS} {mi : MA} {b : Bi} {is : List Nat} {body : MS} (hi : SndIT K C E wi mi g b is) (hb : SndS K C E tb body) : SndS K C E (tFor wi g tb) (mFor mi b body) := by
  intro mu G0 H0 env σ G H D S h
  refine hi _ _ _ _ _ _ _ _ S (h.bind fun p J G1 H1 S1 s1 r1 h1 => ?_)
  obtain ⟨e, ds⟩ := p
  obtain ⟨hgo, hst, hy⟩ := r1
  refine ⟨fun i m σ H => m = ds.length - i ∧ i ≤ ds.length ∧ ∃ e G, StR K C mu G0 H0 e σ G H ∧ Same G1 G ∧ PostS K C E mu G0 H0 G (forL b body (ds.drop i) e) D, ⟨_, rfl, Nat.zero_le _, e, G1, S1, .refl _, h1⟩, ?_⟩
  rintro i m σ2 H2 ⟨rfl, hle, e2, G2, S2, s2, p2⟩
  by_cases hlt : i < ds.length
  · refine .inr ⟨hgo i H2 (s2.trans S2.sub) hlt, fun σ' H' => i + 1 ≤ ds.length ∧ ∃ e G, StR K C mu G0 H0 e σ' G H' ∧ Same G1 G ∧ PostS K C E mu G0 H0 G (forL b body (ds.drop (i + 1)) e) D, fun σ' H' n => ⟨ds.length - (i + 1), by omega, rfl, n.1, n.2⟩, fun x H' y => ?_⟩
    obtain ⟨d, hd⟩ : ∃ d, ds[i]? = some d := ⟨ds[i], List.getElem?_eq_getElem hlt⟩
    obtain ⟨G3, s3, hg⟩ := hy i H2 x H' (s2.trans S2.sub) y d hd _ _ _ _ _ _ S2 s2
    replace p2 := PostS.mono s3 p2
    replace s2 := s2.trans s3
    have ed : ds.drop i = d :: ds.drop (i + 1) := by
      obtain ⟨hlt', e'⟩ := List.getElem?_eq_some_iff.mp hd
      rw [List.drop_eq_getElem_cons hlt', e']
    rw [ed] at p2
    refine hg _ ?_
    have p2 : PostS K C E mu G0 H0 G3 (match b d e2 with
      | .ok e1 => match body e1 with
        | .nx e2 => forL b body (ds.drop (i + 1)) e2
        | .ct e2 => forL b body (ds.drop (i + 1)) e2
        | .bk e2 => .nx e2
        | .rt e2 d2 => .rt e2 d2
        | .rai c => .rai c
        | .stuck => .stuck
      | _ => .stuck) D := p2
    cases eb : b d e2 with
    | ok e3 =>
      rw [eb] at p2
      intro σ3 S3 _ _
      refine hb _ _ _ _ _ _ _ _ S3 ?_
      dsimp only at p2
      cases em : body e3 with
      | nx e4 => rw [em] at p2; exact fun σ4 G4 H4 S4 s4 => ⟨hlt, e4, G4, S4, s2.trans s4, PostS.mono s4 p2⟩
      | ct e4 => rw [em] at p2; exact fun σ4 G4 H4 S4 s4 => ⟨hlt, e4, G4, S4, s2.trans s4, PostS.mono s4 p2⟩
      | bk e4 => rw [em] at p2; exact p2
      | rt e4 d4 => rw [em] at p2; exact p2
      | rai c => rw [em] at p2; exact p2
      | stuck => rw [em] at p2; exact p2
    | rai c => rw [eb] at p2; exact p2
    | stuck => rw [eb] at p2; exact p2
  · refine .inl ⟨hst i H2 (s2.trans S2.sub) (by show i = ds.length; omega), ?_⟩
    rw [List.drop_eq_nil_of_le (by omega)] at p2
    exact p2 σ2 G2 H2 S2 (.refl _)
theorem snds_for {wi : TI} {g : TG} {tb : TS} {mi : MA} {b : Bi} {is : List Nat} {body : MS} (hi : SndI K C E wi mi) (hg : SndG K C g b is) (hb : SndS K C E tb body) : SndS K C E (tFor wi g tb) (mFor mi b body) := snds_forT (sndit_of hi hg) hb
def whileL (c : MT) (body : MS) : Nat → LEnv → RS
  | 0, _ => .stuck
  | n + 1, e => bindS (c e) fun p => bif p.2 then (match body p.1 with
      | .nx e2 => whileL c body n e2
      | .ct e2 => whileL c body n e2
      | .bk e2 => .nx e2
      | .rt e2 d2 => .rt e2 d2
      | .rai c => .rai c
      | .stuck => .stuck) else .nx p.1
def mWhile (n : Nat) (c : MT) (body : MS) : MS := fun env => whileL c body n env
theorem snds_while {tc : TT} {tb : TS} {c : MT} {body : MS} {n : Nat} (hc : SndT K C E tc c) (hb : SndS K C E tb body) : SndS K C E (tWhile tc tb) (mWhile n c body) := by
  intro mu G0 H0 env σ G H D S h
  refine ⟨fun m σ H => ∃ e G, StR K C mu G0 H0 e σ G H ∧ PostS K C E mu G0 H0 G (whileL c body m e) D, ⟨n, env, G, S, h⟩, ?_⟩
  rintro m σ2 H2 ⟨e2, G2, S2, p2⟩
  cases m with
  | zero => exact p2.elim
  | succ m =>
    have p2 : PostS K C E mu G0 H0 G2 (bindS (c e2) fun p => bif p.2 then (match body p.1 with
      | .nx e2 => whileL c body m e2
      | .ct e2 => whileL c body m e2
      | .bk e2 => .nx e2
      | .rt e2 d2 => .rt e2 d2
      | .rai c => .rai c
      | .stuck => .stuck) else .nx p.1) D := p2
    refine hc _ _ _ _ _ _ _ _ S2 (p2.bind fun p x G3 H3 S3 s3 r3 p3 => ?_)
    obtain ⟨e3, bb⟩ := p
    obtain rfl : x = bb := r3
    cases x with
    | false => exact iteF (p3 σ2 G3 H3 S3 (.refl _))
    | true =>
      refine iteT ⟨fun σ' H' => ∃ e G, StR K C mu G0 H0 e σ' G H' ∧ PostS K C E mu G0 H0 G (whileL c body m e) D, fun σ' H' n => ⟨m, Nat.lt_succ_self m, n⟩, ?_⟩
      refine hb _ _ _ _ _ _ _ _ S3 ?_
      simp only [cond_true] at p3
      cases em : body e3 with
      | nx e4 => rw [em] at p3; exact fun σ4 G4 H4 S4 s4 => ⟨e4, G4, S4, PostS.mono s4 p3⟩
      | ct e4 => rw [em] at p3; exact fun σ4 G4 H4 S4 s4 => ⟨e4, G4, S4, PostS.mono s4 p3⟩
      | bk e4 => rw [em] at p3; exact p3
      | rt e4 d4 => rw [em] at p3; exact p3
      | rai c => rw [em] at p3; exact p3
      | stuck => rw [em] at p3; exact p3
end
end LW

namespace LW
open PySem PySem.Spec PyProof.Rows L2
section
variable {K : PySem.W.Frag} {mu : Mu} {G0 H0 G H G' H' : Hp} {env env' : LEnv} {σ σ' : L2.St} {C : Cl} {E : XK} {α β γ δ : Type}
/-! ### a state as another's start -/
def Mu.plus (mu : Mu) (e : LEnv) (σ : L2.St) : Mu := ⟨fun a => mu.ch a ∨ ∃ j : Nat, Own e j ∧ σ[j]? = some (some (.ref a)), mu.fl, fun a h => .inl (mu.sub a h)⟩
theorem StR.rebase (S : StR K C mu G0 H0 env σ G H) : StR K C (mu.plus env σ) G H env σ G H where
  sub := S.sub
  ng := S.ng
  g0 := .refl _
  fz := .refl S.fz.tb
  new := fun _ _ e => .inl e
  mh := fun a m => by
    rcases m with m | ⟨j, ⟨m, ds, oj⟩, hj⟩
    · exact S.mh a m
    · obtain ⟨p, o, e1, e2, e3, _⟩ := S.ol j m ds oj
      rw [e1] at hj; cases hj
      exact ⟨_, e3.nt, e2⟩
  len := S.len
  sh := S.sh
  ol := fun i m ds e => by
    obtain ⟨p, vs, h1, h2, h3, h4, h5⟩ := S.ol i m ds e
    refine ⟨p, vs, h1, h2, h3, h4, ?_⟩
    cases m with
    | true => exact h5
    | false => exact .inl (.inr ⟨i, ⟨_, _, e⟩, h1⟩)
  ow := S.ow
theorem StR.unbase {G1 H1 : Hp} (S : StR K C mu G0 H0 env σ G H) (T : StR K C (mu.plus env σ) G H env' σ' G1 H1) : StR K C mu G0 H0 env' σ' G1 H1 := by
  have own : ∀ b o, ¬ mu.ch b → nt o → H0 b = some o → ¬ (mu.plus env σ).ch b := fun b o m n e z => by
    rcases z with z | ⟨j, ⟨m', ds, oj⟩, hj⟩
    · exact m z
    · obtain ⟨p, vs, e1, e2, e3, e4, e5⟩ := S.ol j m' ds oj
      rw [e1] at hj; cases hj
      cases m' with
      | true => exact m (mu.sub _ e5)
      | false =>
        rcases e5 with e5 | e5
        · exact m e5
        · exact e5 _ n e
  exact {
    sub := T.sub
    ng := T.ng
    g0 := S.g0.trans T.g0
    fz := ⟨fun b o m n e => T.fz.k b o (own b o m n e) n (S.fz.k b o m n e), T.fz.tb⟩
    new := fun a o e => by
      rcases T.new a o e with e | ⟨(e | ⟨j, ⟨m', ds, oj⟩, hj⟩) | e, n⟩
      · exact S.new a o e
      · exact .inr ⟨.inl e, n⟩
      · obtain ⟨p, vs, e1, e2, e3, e4, e5⟩ := S.ol j m' ds oj
        rw [e1] at hj; cases hj
        cases m' with
        | true => exact .inr ⟨.inl (mu.sub _ e5), n⟩
        | false => exact .inr ⟨e5, n⟩
      · exact .inr ⟨.inr (S.none0 e), n⟩
    mh := fun a m => T.mh a (.inl m)
    len := T.len
    sh := T.sh
    ol := fun i m ds e => by
      obtain ⟨p, vs, h1, h2, h3, h4, h5⟩ := T.ol i m ds e
      refine ⟨p, vs, h1, h2, h3, h4, ?_⟩
      cases m with
      | true => exact h5
      | false =>
        rcases h5 with (h5 | ⟨j, ⟨m', ds', oj⟩, hj⟩) | h5
        · exact .inl h5
        · obtain ⟨p', vs', e1, e2, e3, e4, e5⟩ := S.ol j m' ds' oj
          rw [e1] at hj; cases hj
          cases m' with
          | true => exact .inl (mu.sub _ e5)
          | false => exact e5
        · exact .inr (S.none0 h5)
    ow := T.ow }
/-- an object of no slot, that may not be read, changes -/
theorem StR.upd_hid {D : Addr} {xs ys : List V} (S : StR K C mu G0 H0 env σ G H) (hD : H D = some (.lst xs)) (hG : G D = none) (h0 : Nw H0 D) (hw : ∀ j : Nat, Own env j → σ[j]? ≠ some (some (.ref D))) : StR K C mu G0 H0 env σ G (upd H D (.lst ys)) where
  sub := fun a u e => by rw [upd_ne (ne_of_none e hG)]; exact S.sub _ _ e
  ng := S.ng
  g0 := S.g0
  fz := ⟨fun b u m n e => by
      rw [upd_ne (fun z => h0 u n (by rw [← z]; exact e))]; exact S.fz.k b u m n e, tabs_but S.fz.tb fun b o e n => by
      rw [upd_ne (fun z => by subst z; rw [hD] at e; cases e; exact n _ rfl)]; exact e⟩
  new := S.new
  mh := fun a m => by
    by_cases h : a = D
    · subst h; exact ⟨_, nt_lst, upd_same⟩
    · obtain ⟨u, n, e⟩ := S.mh a m; exact ⟨u, n, by rw [upd_ne h]; exact e⟩
  len := S.len
  sh := S.sh
  ol := fun i m ds e => by
    obtain ⟨p, vs, h1, h2, h3⟩ := S.ol i m ds e
    have : p ≠ D := fun q => hw i ⟨m, ds, e⟩ (by rw [h1, q])
    exact ⟨p, vs, h1, by rw [upd_ne this]; exact h2, h3⟩
  ow := S.ow
/-- .. and may be read from now on -/
theorem StR.showO {D : Addr} {o : HO} (ho : nt o) (S : StR K C mu G0 H0 env σ G H) (hD : H D = some o) (hG : G D = none) (h0 : mu.ch D ∨ Nw H0 D) (hw : ∀ j : Nat, Own env j → σ[j]? ≠ some (some (.ref D))) : StR K C mu G0 H0 env σ (upd G D o) H := by
  have s : Same G (upd G D o) := fun a u e => by rw [upd_ne (ne_of_none e hG)]; exact e
  exact {
    sub := fun a u e => by
      by_cases h : a = D
      · subst h; rw [upd_same] at e; cases e; exact hD
      · rw [upd_ne h] at e; exact S.sub _ _ e
    ng := fun a u e => by
      by_cases h : a = D
      · subst h; rw [upd_same] at e; cases e; exact ho
      · rw [upd_ne h] at e; exact S.ng _ _ e
    g0 := S.g0.trans s
    fz := S.fz
    new := fun a u e => by
      by_cases h : a = D
      · subst h; rw [upd_same] at e; cases e; exact .inr ⟨h0, ho⟩
      · rw [upd_ne h] at e; exact S.new _ _ e
    mh := S.mh
    len := S.len
    sh := fun i d e => let ⟨v, h1, h2⟩ := S.sh i d e; ⟨v, h1, Rp.mono s _ _ h2⟩
    ol := fun i m ds e => by
      obtain ⟨p, vs, h1, h2, h3, h4, h5⟩ := S.ol i m ds e
      have : p ≠ D := fun q => hw i ⟨m, ds, e⟩ (by rw [h1, q])
      exact ⟨p, vs, h1, h2, h3.mono s, by rw [upd_ne this]; exact h4, h5⟩
    ow := S.ow }
theorem StR.show {D : Addr} {o : HO} (ho : nt o) (S : StR K C mu G0 H0 env σ G H) (hD : H D = some o) (hG : G D = none) (h0 : Nw H0 D) (hw : ∀ j : Nat, Own env j → σ[j]? ≠ some (some (.ref D))) : StR K C mu G0 H0 env σ (upd G D o) H := StR.showO ho S hD hG (.inr h0) hw
/-! ### comprehensions -/
/-- what raises within a comprehension has no rule -/
def noRai {α : Type} (r : R α) : R α := match r with
  | .ok a => .ok a
  | _ => .stuck
theorem post_noRai {Rl : Hp → β → α → Prop} {Q : β → Hp → Prop} {r : RE α} (h : Post Rl K C E mu G0 H0 σ G (noRai r) Q) : Post Rl K C (fun _ _ _ => False) mu G0 H0 σ G r Q := by
  cases r with
  | ok p => exact h
  | rai c => exact h.elim
  | stuck => exact h
def compL (vs : List Nat) (b : Bi) (tt : MT) (f : M) : List PyData → LEnv → RE (List PyData)
  | [], e => .ok (e, [])
  | d :: r, e => match b d e with
    | .ok e1 => (noRai (tt e1)).bind fun t => bif t.2 then (noRai (f t.1)).bind fun y => (compL vs b tt f r (wipeE y.1 vs)).bind fun z => .ok (z.1, y.2 :: z.2) else compL vs b tt f r (wipeE t.1 vs)
    | _ => .stuck
def keepSh (s : Option (Option Sl)) : Option Sl := match s with
  | some (some (.sh d)) => some (.sh d)
  | _ => none
def restore (env : LEnv) (e : LEnv) : List Nat → LEnv
  | [] => e
  | v :: vs => (restore env e vs).set v (keepSh (nth env v))
theorem restore_length (env e : LEnv) : ∀ vs, (restore env e vs).length = e.length
  | [] => rfl
  | v :: vs => by unfold restore; rw [List.length_set, restore_length env e vs]
theorem restore_get (env e : LEnv) (vs : List Nat) (j : Nat) : (restore env e vs)[j]? = if j ∈ vs then (if j < e.length then some (keepSh env[j]?) else none) else e[j]? := by
  induction vs with
  | nil => simp [restore]
  | cons v vs ih =>
    unfold restore
    rw [get_set, ih, restore_length, nth_eq]
    by_cases h : v = j
    · subst h; simp
    · have h' : ¬ j = v := fun q => h q.symm
      simp only [List.mem_cons, h, h', if_false, false_or]
theorem StR.restore {e : LEnv} {vs : List Nat} {G1 H1 : Hp} (S1 : StR K C mu G0 H0 env σ G1 H1) (S : StR K C mu G0 H0 e (L2.wipe σ vs) G H) (s : Same G1 G) : StR K C mu G0 H0 (restore env e vs) σ G H := by
  have hl : e.length = σ.length := by rw [S.len, wipe_length]
  refine StR.of S (by rw [restore_length]; exact hl) fun i sl q => ?_
  rw [restore_get] at q
  by_cases h : i ∈ vs
  · rw [if_pos h] at q
    split at q
    · cases hk : env[i]? with
      | none => rw [hk] at q; cases q
      | some o =>
        cases o with
        | none => rw [hk] at q; cases q
        | some s0 =>
          cases s0 with
          | ow m ds => rw [hk] at q; cases q
          | sh d =>
            rw [hk] at q
            cases q
            obtain ⟨v, h1, h2⟩ := S1.sh i d hk
            exact .inr ⟨d, v, rfl, h1, Rp.mono s _ _ h2⟩
    · cases q
  · rw [if_neg h] at q
    exact .inl ⟨q, by rw [wipe_get, if_neg h]⟩
def mtYes : MT := fun env => .ok (env, true)
theorem sndt_yes : SndT K C E tYes mtYes := fun mu G0 H0 env σ G H Q S h => post_here S h rfl
def mComp (vs : List Nat) (mi : MA) (b : Bi) (tt : MT) (f : M) : M := fun env => (mi env).bind fun p => gd (Nat.blt p.2.length small) ((compL vs b tt f p.2 (wipeE p.1 vs)).bind fun z => .ok (restore p.1 z.1 vs, .list z.2))
theorem compL_rai {vs : List Nat} {b : Bi} {tt : MT} {f : M} {c : Nat} : ∀ (ds : List PyData) (e : LEnv), compL vs b tt f ds e ≠ .rai c
  | [], e => by simp [compL]
  | d :: r, e => by
    intro q
    unfold compL at q
    cases eb : b d e with
    | ok e1 =>
      rw [eb] at q
      dsimp only at q
      cases et : tt e1 with
      | ok t =>
        rw [et] at q
        have q : (bif t.2 then (noRai (f t.1)).bind fun y => (compL vs b tt f r (wipeE y.1 vs)).bind fun z => R.ok (z.1, y.2 :: z.2) else compL vs b tt f r (wipeE t.1 vs)) = R.rai c := q
        cases ht : t.2 with
        | true =>
          rw [ht] at q
          have q : ((noRai (f t.1)).bind fun y => (compL vs b tt f r (wipeE y.1 vs)).bind fun z => R.ok (z.1, y.2 :: z.2)) = R.rai c := q
          cases ef : f t.1 with
          | ok y =>
            rw [ef] at q
            have q : ((compL vs b tt f r (wipeE y.1 vs)).bind fun z => R.ok (z.1, y.2 :: z.2)) = R.rai c := q
            cases ec : compL vs b tt f r (wipeE y.1 vs) with
            | ok z => rw [ec] at q; cases q
            | rai c' => exact compL_rai r _ ec
            | stuck => rw [ec] at q; cases q
          | rai c' => rw [ef] at q; cases q
          | stuck => rw [ef] at q; cases q
        | false => rw [ht] at q; exact compL_rai r _ q
      | rai c' => rw [et] at q; cases q
      | stuck => rw [et] at q; cases q
    | rai c' => rw [eb] at q; cases q
    | stuck => rw [eb] at q; cases q
theorem snd_compT {wi : TI} {g : TG} {tt : TT} {te : TE} {vs : List Nat} {mi : MA} {b : Bi} {is : List Nat} {mt : MT} {f : M} (hi : SndIT K C E wi mi g b is) (his : ∀ i ∈ is, i ∈ vs) (ht : SndT K C (fun _ _ _ => False) tt mt)
    (he : Snd K C (fun _ _ _ => False) te f) : Snd K C E (tLc wi g tt te vs) (mComp vs mi b mt f) := by
  intro mu G0 H0 env σ G H Q S h
  refine hi _ _ _ _ _ _ _ _ S (h.bind fun p J G1 H1 S1 s1 r1 h1 => ?_)
  obtain ⟨e0, ds⟩ := p
  obtain ⟨hlen, h1⟩ := Post.gd h1
  obtain ⟨hgo, hst, hy⟩ := r1
  have hsm : ds.length < sizeLine := Nat.lt_of_lt_of_le (Nat.le_of_ble_eq_true hlen) small_le
  intro D hD
  have gD : G1 D = none := S1.sub.free hD
  have h0D : Nw H0 D := S1.none0 (nw_of hD)
  refine ⟨fun i m H => m = ds.length - i ∧ i ≤ ds.length ∧ ∃ e G acc ad, StR K C mu G0 H0 e (L2.wipe σ vs) G H ∧ Same G1 G ∧ H D = some (.lst acc) ∧ G D = none ∧ RpA K G acc ad ∧ acc.length ≤ i ∧ (∀ j, Own e j → (L2.wipe σ vs)[j]? ≠ some (some (.ref D))) ∧
      Post (RlE K) K C E mu G0 H0 σ G ((compL vs b mt f (ds.drop i) e).bind fun z => .ok (restore e0 z.1 vs, .list (ad ++ z.2))) Q, ⟨_, rfl, Nat.zero_le _, wipeE e0 vs, G1, [], [], ?_, .refl _, upd_same, gD, .nil, Nat.le_refl _, ?_, h1⟩, ?_⟩
  · exact (S1.wipe vs).ext (Xt.hid S1.sub S1.fz.tb hD)
  · intro j ⟨m, dd, hj⟩ q
    obtain ⟨p, ws, e1, e2, _⟩ := (S1.wipe vs).ol j m dd hj
    rw [e1] at q
    cases q
    rw [hD] at e2; cases e2
  rintro i m H2 ⟨rfl, hle, e2, G2, acc, ad, S2, s2, hacc, hG2, racc, hil, hown, p2⟩
  by_cases hlt : i < ds.length
  · refine .inr ⟨hgo i H2 (s2.trans S2.sub) hlt, fun H' => i + 1 ≤ ds.length ∧ ∃ e G acc ad, StR K C mu G0 H0 e (L2.wipe σ vs) G H' ∧ Same G1 G ∧ H' D = some (.lst acc) ∧ G D = none ∧ RpA K G acc ad ∧ acc.length ≤ i + 1 ∧ (∀ j, Own e j → (L2.wipe σ vs)[j]? ≠ some (some (.ref D))) ∧
      Post (RlE K) K C E mu G0 H0 σ G ((compL vs b mt f (ds.drop (i + 1)) e).bind fun z => .ok (restore e0 z.1 vs, .list (ad ++ z.2))) Q, fun H' n => ⟨ds.length - (i + 1), by omega, rfl, n.1, n.2⟩, fun x H' y => ?_⟩
    obtain ⟨d, hd⟩ : ∃ d, ds[i]? = some d := ⟨ds[i], List.getElem?_eq_getElem hlt⟩
    obtain ⟨G3, s3, hg⟩ := hy i H2 x H' (s2.trans S2.sub) y d hd _ _ _ _ _ _ S2.rebase s2
    replace p2 := p2.mono s3
    replace s2 := s2.trans s3
    replace racc := RpA.mono s3 _ _ racc
    have ed : ds.drop i = d :: ds.drop (i + 1) := by
      obtain ⟨hlt', e'⟩ := List.getElem?_eq_some_iff.mp hd
      rw [List.drop_eq_getElem_cons hlt', e']
    rw [ed] at p2
    refine hg _ ?_
    have p2 : Post (RlE K) K C E mu G0 H0 σ G3 ((match b d e2 with
      | .ok e1 => (noRai (mt e1)).bind fun t => bif t.2 then (noRai (f t.1)).bind fun y => (compL vs b mt f (ds.drop (i + 1)) (wipeE y.1 vs)).bind fun z => .ok (z.1, y.2 :: z.2) else compL vs b mt f (ds.drop (i + 1)) (wipeE t.1 vs)
      | _ => .stuck).bind fun z => .ok (restore e0 z.1 vs, .list (ad ++ z.2))) Q := p2
    cases eb : b d e2 with
    | rai c => rw [eb] at p2; exact p2
    | stuck => rw [eb] at p2; exact p2
    | ok e3 =>
      rw [eb] at p2
      intro σ3 S3 l3 k3
      have hw : L2.wipe σ3 vs = L2.wipe (L2.wipe σ vs) vs := wipe_same l3 fun j hj => k3 j fun q => hj (his j q)
      have hww : L2.wipe (L2.wipe σ vs) vs = L2.wipe σ vs := wipe_same (wipe_length _ _) fun j hj => by rw [wipe_get, if_neg hj]
      refine ⟨hw.trans hww, ?_⟩
      have noch : ¬ (mu.plus e2 (L2.wipe σ vs)).ch D := fun z => by
        rcases z with z | ⟨j, oj, hj⟩
        · exact S1.noch (nw_of hD) z
        · exact hown j oj hj
      -- D's list stands through the turn, hidden, and no slot has it
      have stands : ∀ {e G H}, StR K C (mu.plus e2 (L2.wipe σ vs)) G2 H2 e σ3 G H → H D = some (.lst acc) ∧ G D = none ∧ ∀ j : Nat, Own e j → σ3[j]? ≠ some (some (.ref D)) := fun {e G H} S => by
        refine ⟨S.fz.k D _ noch nt_lst hacc, ?_, fun j ⟨m, dd, oj⟩ q => ?_⟩
        · cases q : G D with
          | none => rfl
          | some u =>
            rcases S.new D u q with z | ⟨z | z, _⟩
            · rw [hG2] at z; cases z
            · exact (noch z).elim
            · exact (z _ nt_lst hacc).elim
        · obtain ⟨p, ws, e1, e2', e3', e4', e5'⟩ := S.ol j m dd oj
          rw [e1] at q
          cases q
          cases m with
          | true => exact noch (.inl (mu.sub _ e5'))
          | false =>
            rcases e5' with z | z
            · exact noch z
            · exact z _ nt_lst hacc
      -- the next turn's state
      have wiped : ∀ {e G H}, StR K C mu G0 H0 e σ3 G H → StR K C mu G0 H0 (wipeE e vs) (L2.wipe σ vs) G H := fun {e G H} S => by
        have := S.wipe vs
        rw [hw, hww] at this
        exact this
      have wipedOwn : ∀ {e}, (∀ j : Nat, Own e j → σ3[j]? ≠ some (some (.ref D))) → ∀ j : Nat, Own (wipeE e vs) j → (L2.wipe σ vs)[j]? ≠ some (some (.ref D)) := fun {e} h j oj q => by
        have wg : ∀ (e : LEnv) (vs : List Nat) (j : Nat) (s : Sl), (wipeE e vs)[j]? = some (some s) → e[j]? = some (some s) ∧ j ∉ vs := by
          intro e vs
          induction vs with
          | nil => intro j s h; exact ⟨h, by simp⟩
          | cons v vs ih =>
            intro j s h
            unfold wipeE at h
            rw [get_set] at h
            by_cases hv : v = j
            · subst hv; rw [if_pos rfl] at h; split at h <;> cases h
            · rw [if_neg hv] at h
              obtain ⟨h1, h2⟩ := ih j s h
              exact ⟨h1, by simp only [List.mem_cons, not_or]; exact ⟨fun z => hv z.symm, h2⟩⟩
        obtain ⟨m, dd, oj⟩ := oj
        obtain ⟨o1, o2⟩ := wg e vs j _ oj
        refine h j ⟨m, dd, o1⟩ ?_
        rw [← hww, ← hw, wipe_get, if_neg o2] at q
        exact q
      have p2 : Post (RlE K) K C E mu G0 H0 σ G3 (((noRai (mt e3)).bind fun t => bif t.2 then (noRai (f t.1)).bind fun y => (compL vs b mt f (ds.drop (i + 1)) (wipeE y.1 vs)).bind fun z => .ok (z.1, y.2 :: z.2) else compL vs b mt f (ds.drop (i + 1)) (wipeE t.1 vs)).bind fun z => .ok (restore e0 z.1 vs, .list (ad ++ z.2))) Q := p2
      refine ht _ _ _ _ _ _ _ _ S3 ?_
      cases et : mt e3 with
      | rai c => rw [et] at p2; exact p2.elim
      | stuck => rw [et] at p2; exact p2
      | ok t =>
        rw [et] at p2
        obtain ⟨e4, tb⟩ := t
        intro bv G4 H4 S4 s4 rb
        have S4 : StR K C (mu.plus e2 (L2.wipe σ vs)) G2 H2 e4 σ3 G4 H4 := S4
        obtain rfl : bv = tb := rb
        have p2 : Post (RlE K) K C E mu G0 H0 σ G3 ((bif bv then (noRai (f e4)).bind fun y => (compL vs b mt f (ds.drop (i + 1)) (wipeE y.1 vs)).bind fun z => .ok (z.1, y.2 :: z.2) else compL vs b mt f (ds.drop (i + 1)) (wipeE e4 vs)).bind fun z => .ok (restore e0 z.1 vs, .list (ad ++ z.2))) Q := p2
        cases bv with
        | false =>
          refine iteF ⟨hlt, wipeE e4 vs, G4, acc, ad, wiped (StR.unbase S2 S4), s2.trans s4, (stands S4).1, (stands S4).2.1, RpA.mono s4 _ _ racc, by omega, wipedOwn (stands S4).2.2, ?_⟩
          exact p2.mono s4
        | true =>
          refine iteT ?_
          have p2 : Post (RlE K) K C E mu G0 H0 σ G3 (((noRai (f e4)).bind fun y => (compL vs b mt f (ds.drop (i + 1)) (wipeE y.1 vs)).bind fun z => .ok (z.1, y.2 :: z.2)).bind fun z => .ok (restore e0 z.1 vs, .list (ad ++ z.2))) Q := p2
          refine he _ _ _ _ _ _ _ _ S4 ?_
          cases ef : f e4 with
          | rai c => rw [ef] at p2; exact p2.elim
          | stuck => rw [ef] at p2; exact p2
          | ok y =>
            rw [ef] at p2
            obtain ⟨e5, dy⟩ := y
            intro yv G5 H5 S5 s5 ry
            have S5 : StR K C (mu.plus e2 (L2.wipe σ vs)) G2 H2 e5 σ3 G5 H5 := S5
            have ry : Rp K G5 yv dy := ry
            obtain ⟨st1, st2, st3⟩ := stands S5
            have U := StR.unbase S2 S5
            refine ⟨acc, st1, by omega, hlt, wipeE e5 vs, G5, acc ++ [yv], ad ++ [dy], wiped (U.upd_hid st1 st2 h0D st3), (s2.trans s4).trans s5, upd_same, st2, (RpA.mono (s4.trans s5) _ _ racc).append (.cons ry .nil), by rw [List.length_append]; show acc.length + 1 ≤ i + 1; omega, wipedOwn st3, ?_⟩
            have p2 : Post (RlE K) K C E mu G0 H0 σ G3 (((compL vs b mt f (ds.drop (i + 1)) (wipeE e5 vs)).bind fun z => .ok (z.1, dy :: z.2)).bind fun z => .ok (restore e0 z.1 vs, .list (ad ++ z.2))) Q := p2
            cases ec : compL vs b mt f (ds.drop (i + 1)) (wipeE e5 vs) with
            | rai c => exact absurd ec (compL_rai _ _)
            | stuck => rw [ec] at p2; exact p2
            | ok z =>
              rw [ec] at p2
              have p2 : Post (RlE K) K C E mu G0 H0 σ G3 (.ok (restore e0 z.1 vs, .list (ad ++ dy :: z.2))) Q := p2
              have p3 : Post (RlE K) K C E mu G0 H0 σ G3 (.ok (restore e0 z.1 vs, .list ((ad ++ [dy]) ++ z.2))) Q := by
                rw [List.append_assoc]
                exact p2
              exact p3.mono (s4.trans s5)
  · refine .inl ⟨hst i H2 (s2.trans S2.sub) (by show i = ds.length; omega), ?_⟩
    rw [List.drop_eq_nil_of_le (by omega)] at p2
    have p2 : Post (RlE K) K C E mu G0 H0 σ G2 (.ok (restore e0 e2 vs, .list (ad ++ []))) Q := p2
    rw [List.append_nil] at p2
    have S4 := StR.restore (vs := vs) S1 S2 s2
    have hw4 : ∀ j : Nat, Own (restore e0 e2 vs) j → σ[j]? ≠ some (some (.ref D)) := fun j ⟨m, dd, oj⟩ q => by
      rw [restore_get] at oj
      by_cases hj : j ∈ vs
      · rw [if_pos hj] at oj
        split at oj
        · cases hk : e0[j]? with
          | none => rw [hk] at oj; cases oj
          | some o =>
            cases o with
            | none => rw [hk] at oj; cases oj
            | some s0 => cases s0 <;> (rw [hk] at oj; cases oj)
        · cases oj
      · rw [if_neg hj] at oj
        exact hown j ⟨m, dd, oj⟩ (by rw [wipe_get, if_neg hj]; exact q)
    have sG : Same G2 (upd G2 D (.lst acc)) := fun a u e => by rw [upd_ne (ne_of_none e hG2)]; exact e
    exact p2 (.ref D) (upd G2 D (.lst acc)) H2 (StR.show nt_lst S4 hacc hG2 h0D hw4) sG (.lst upd_same (RpA.mono sG _ _ racc))
theorem snd_comp {wi : TI} {g : TG} {tt : TT} {te : TE} {vs : List Nat} {mi : MA} {b : Bi} {is : List Nat} {mt : MT} {f : M} (hi : SndI K C E wi mi) (hg : SndG K C g b is) (his : ∀ i ∈ is, i ∈ vs) (ht : SndT K C (fun _ _ _ => False) tt mt)
    (he : Snd K C (fun _ _ _ => False) te f) : Snd K C E (tLc wi g tt te vs) (mComp vs mi b mt f) := snd_compT (sndit_of hi hg) his ht he
end
end LW

namespace LW
open PySem PySem.Spec PyProof.Rows L2
section
variable {K : PySem.W.Frag} {mu : Mu} {G0 H0 G H G' H' : Hp} {env env' : LEnv} {σ σ' : L2.St} {C : Cl} {E : XK} {α β γ δ : Type}
/-! ### defs -/
def PostR (K : PySem.W.Frag) (C : Cl) (E : XK) (G H : Hp) : R PyData → VK → Prop
  | .ok d, Q => ∀ v G' H', Xt C.T G H G' H' → Rp K G' v d → Q v H'
  | .rai c, _ => ∀ H', Fz C.T (fun _ => False) H H' → E (C.cl c) none H'
  | .stuck, _ => False
/-- what a def of data promises: its answer by run -/
def spP (K : PySem.W.Frag) (C : Cl) (n : Nat) (run : List PyData → R PyData) : Sp := fun vs H Q E => vs.length = n ∧ LamX.Tabs C.T H ∧ ∃ G ds, Same G H ∧ (∀ a o, G a = some o → nt o) ∧ RpA K G vs ds ∧ PostR K C E G H (run ds) Q
def startE (n : Nat) (ds : List PyData) : LEnv := ds.map (fun d => some (.sh d)) ++ List.replicate (n - ds.length) none
def outS : RS → R PyData
  | .rt _ d => .ok d
  | .nx _ => .ok .none
  | .rai c => .rai c
  | _ => .stuck
def runS (n : Nat) (ms : MS) : List PyData → R PyData := fun ds => outS (ms (startE n ds))
theorem start_get {N : List Str} {vs : List V} (i : Nat) : (L2.start N vs)[i]? = if i < vs.length then (vs[i]?).map some else if i < N.length then some none else none := by
  unfold L2.start
  by_cases h : i < vs.length
  · rw [if_pos h, List.getElem?_append_left (by rw [List.length_map]; exact h), List.getElem?_map]
  · rw [if_neg h, List.getElem?_append_right (by rw [List.length_map]; omega), List.length_map, List.getElem?_replicate]
    by_cases h2 : i < N.length
    · rw [if_pos h2, if_pos (by omega)]
    · rw [if_neg h2, if_neg (by omega)]
theorem startE_get {n : Nat} {ds : List PyData} (i : Nat) : (startE n ds)[i]? = if i < ds.length then (ds[i]?).map (fun d => some (.sh d)) else if i < n then some none else none := by
  unfold startE
  by_cases h : i < ds.length
  · rw [if_pos h, List.getElem?_append_left (by rw [List.length_map]; exact h), List.getElem?_map]
  · rw [if_neg h, List.getElem?_append_right (by rw [List.length_map]; omega), List.length_map, List.getElem?_replicate]
    by_cases h2 : i < n
    · rw [if_pos h2, if_pos (by omega)]
    · rw [if_neg h2, if_neg (by omega)]
theorem StR.begin {N : List Str} {vs : List V} {ds : List PyData} (s : Same G H) (gn : ∀ a o, G a = some o → nt o) (tb : LamX.Tabs C.T H) (r : RpA K G vs ds) (hn : vs.length ≤ N.length) : StR K C mu0 G H (startE N.length ds) (L2.start N vs) G H where
  sub := s
  ng := gn
  g0 := .refl _
  fz := .refl tb
  new := fun _ _ e => .inl e
  mh := fun _ m => m.elim
  len := by
    unfold startE L2.start
    rw [List.length_append, List.length_append, List.length_map, List.length_map, List.length_replicate, List.length_replicate, r.length]
  sh := fun i d e => by
    have hl := r.length
    rw [startE_get] at e
    by_cases h : i < ds.length
    · rw [if_pos h] at e
      cases q : ds[i]? with
      | none => rw [q] at e; cases e
      | some d' =>
        rw [q] at e
        cases e
        obtain ⟨v, h1, h2⟩ := r.get q
        exact ⟨v, by rw [start_get, if_pos (by omega), h1]; rfl, h2⟩
    · rw [if_neg h] at e; split at e <;> cases e
  ol := fun i m ds' e => by
    rw [startE_get] at e
    split at e
    · cases q : ds[i]? with
      | none => rw [q] at e; cases e
      | some d' => rw [q] at e; cases e
    · split at e <;> cases e
  ow := fun i j p ⟨m, dd, e⟩ _ _ _ => by
    rw [startE_get] at e
    split at e
    · cases q : ds[i]? with
      | none => rw [q] at e; cases e
      | some d' => rw [q] at e; cases e
    · split at e <;> cases e
theorem StR.xt (S : StR K C mu0 G0 H0 env σ G H) : Xt C.T G0 H0 G H := ⟨S.g0, S.sub, S.fz, fun a o e => by
  rcases S.new a o e with z | ⟨z | z, n⟩
  · exact .inl z
  · exact z.elim
  · exact .inr ⟨z, n⟩⟩
section
variable {P : Program} {w : World} {mg : Str → Option Value} {base : Heap}
theorem fn_ok {x qual : Str} {st : Stmt} {f : Addr} {fd : FuncData} {N ps : List Str} {k : Nat} {ms : MS} (F : Fun K x qual st f fd) (S : FnScope N ps (defScope st)) (hn : ps.length ≤ N.length)
    (hb : ∀ (cdv : Value) (A : Around) (outer : List PySem.Env) (s : Shared) (H : Hp) (E : XK), Room k (A.deeper (envOfC qual (defScope st) s.heap.objs.size f cdv)) →
      ∃ t, PSs (cxOf (L2.CX P w) P w K mg base N qual (defScope st) f cdv A outer s H E) (defBody st) t ∧ SndS K C E t ms) : FnOk P w K mg base (L2.CX P w) (k + 1) f fd ps (spP K C ps.length (runS N.length ms)) := by
  refine F.okX S (fun vs H Q E h => h.1) fun cdv A outer s H vs Q E hr h => ?_
  obtain ⟨hl, tb, G, ds, sG, gn, r, p⟩ := h
  obtain ⟨t, ht, hs⟩ := hb cdv A outer s H E hr
  refine ⟨t, ht, hs _ _ _ _ _ _ _ _ (StR.begin sG gn tb r (by omega)) ?_⟩
  have p : PostR K C E G H (outS (ms (startE N.length ds))) Q := p
  cases e : ms (startE N.length ds) with
  | nx e' => rw [e] at p; exact fun σ' G' H' S' _ => p .non G' H' S'.xt .non
  | rt e' d => rw [e] at p; exact fun v σ' G' H' S' _ r' => p v G' H' S'.xt r'
  | rai c => rw [e] at p; exact fun H' fz => p H' fz
  | bk e' => rw [e] at p; exact p.elim
  | ct e' => rw [e] at p; exact p.elim
  | stuck => rw [e] at p; exact p
/-- a def as its callers know it -/
structure FnI (P : Program) (w : World) (K : PySem.W.Frag) (mg : Str → Option Value) (base : Heap) (C : Cl) (k : Nat) (x : Str) (n : Nat) (run : List PyData → R PyData) : Prop where
  ex : ∃ (f : Addr) (fd : FuncData) (ps : List Str), FnOk P w K mg base (L2.CX P w) k f fd ps (spP K C n run) ∧ mg x = some (.ref f) ∧ PySem.W.keepIn K (.ref f) = true ∧ Binds K fd ps []
theorem spP.imp {n : Nat} {run run' : List PyData → R PyData} (h : ∀ ds, run' ds ≠ .stuck → run ds = run' ds) {vs : List V} {H : Hp} {Q : VK} {E : XK} (q : spP K C n run' vs H Q E) : spP K C n run vs H Q E := by
  obtain ⟨hl, tb, G, ds, s, gn, r, p⟩ := q
  refine ⟨hl, tb, G, ds, s, gn, r, ?_⟩
  rw [h ds fun z => by rw [z] at p; exact p]
  exact p
/-- a swifter account of the same answers -/
theorem FnI.imp {k n : Nat} {x : Str} {run run' : List PyData → R PyData} (F : FnI P w K mg base C k x n run) (h : ∀ ds, run' ds ≠ .stuck → run ds = run' ds) : FnI P w K mg base C k x n run' := by
  obtain ⟨f, fd, ps, G, a, b, c⟩ := F.ex
  exact ⟨f, fd, ps, G.imp fun vs H Q E q => spP.imp h q, a, b, c⟩
end
def mCall (n : Nat) (run : List PyData → R PyData) (g : MA) : M := fun env => (g env).bind fun q => gd (Nat.beq q.2.length n) (lif q.1 (run q.2))
theorem snd_call {n : Nat} {run : List PyData → R PyData} {ta : TA} {g : MA} (h : SndA K C E ta g) : Snd K C E (tCallS (spP K C n run) (fun _ => E) ta) (mCall n run g) := by
  intro mu G0 H0 env σ G H Q S hh
  refine h _ _ _ _ _ _ _ _ S (hh.bind fun p xs G1 H1 S1 s1 r1 h1 => ?_)
  obtain ⟨e, ds⟩ := p
  obtain ⟨c, h1⟩ := Post.gd h1
  refine ⟨r1.length.trans (Nat.eq_of_beq_eq_true c), S1.fz.tb, G1, ds, S1.sub, S1.ng, r1, ?_⟩
  have h1 : Post (RlE K) K C E mu G0 H0 σ G1 (lif e (run ds)) Q := h1
  cases er : run ds with
  | ok d => rw [er] at h1; exact fun v G' H' x r => h1 v G' H' (S1.ext x) x.g r
  | rai c' => rw [er] at h1; exact fun H' s => h1 H' (S1.fz.trans s)
  | stuck => rw [er] at h1; exact h1.elim
/-- f(*e) -/
def mCallStar (n : Nat) (run : List PyData → R PyData) (f : M) : M := fun env => (f env).bind fun q => (seqOf q.2).bind fun ds => gd (Nat.beq ds.length n) (lif q.1 (run ds))
theorem snd_callStar {n : Nat} {run : List PyData → R PyData} {te : TE} {f : M} (h : Snd K C E te f) :
    Snd K C E (fun σ H Q => te σ H fun y H1 => ∃ a xs, y = V.ref a ∧ (SqT K H1 a xs ∨ SqL K H1 a xs) ∧ spP K C n run xs H1 Q E) (mCallStar n run f) := by
  intro mu G0 H0 env σ G H Q S hh
  refine h _ _ _ _ _ _ _ _ S (hh.bind fun p x G1 H1 S1 s1 r1 h1 => ?_)
  obtain ⟨e, d⟩ := p
  have go : ∀ (xs : List V) (ds : List PyData), RpA K G1 xs ds → Post (RlE K) K C E mu G0 H0 σ G1 (gd (Nat.beq ds.length n) (lif e (run ds))) Q → spP K C n run xs H1 Q E := fun xs ds r h1 => by
    obtain ⟨c, h1⟩ := Post.gd h1
    refine ⟨r.length.trans (Nat.eq_of_beq_eq_true c), S1.fz.tb, G1, ds, S1.sub, S1.ng, r, ?_⟩
    cases er : run ds with
    | ok d => rw [er] at h1; exact fun v G' H' x r => h1 v G' H' (S1.ext x) x.g r
    | rai c' => rw [er] at h1; exact fun H' s => h1 H' (S1.fz.trans s)
    | stuck => rw [er] at h1; exact h1.elim
  cases r1 with
  | lst a b => exact ⟨_, _, rfl, .inr (SqL.of (S1.sub _ _ a)), go _ _ b h1⟩
  | tup a b => exact ⟨_, _, rfl, .inl (sqt_same S1.sub a), go _ _ b h1⟩
  | _ => exact h1.elim
end
end LW

namespace LW
open PySem PySem.Spec PyProof.Rows L2
abbrev rAddI : R2 := rI0 fun i j => .int (i + j)
abbrev rSubI : R2 := rI0 fun i j => .int (i - j)
abbrev rMulI : R2 := rI CMul fun i j => .int (i * j)
abbrev rDivI : R2 := rI CDivN fun i j => .int (i.fdiv j)
abbrev rModI : R2 := rI (fun _ j => j ≠ 0) fun i j => .int (i.fmod j)
abbrev rAndI : R2 := rI0 fun i j => .int (Builtin.bitAnd i j)
abbrev rNegI : V → Hp → VK → Prop := rU fun i => .int (-i)
abbrev rLtI : R2 := rI0 fun i j => .bl (decide (i < j))
abbrev rLeI : R2 := rI0 fun i j => .bl (decide (i ≤ j))
abbrev rGtI : R2 := rI0 fun i j => .bl (decide (j < i))
abbrev rGeI : R2 := rI0 fun i j => .bl (decide (j ≤ i))
/-- what may leave, wherever one stands -/
abbrev WW (E : XK) : WX := fun cls d _ H => E cls d H
abbrev EX0 : XK := fun _ _ _ => False
structure ED (X : Cx) (C : Cl) (E : XK) (e : Expr) (te : TE) (m : M) : Prop where
  pe : PE X e te
  sd : Snd X.K C E te m
structure AD (X : Cx) (C : Cl) (E : XK) (es : List Expr) (ta : TA) (m : MA) : Prop where
  pe : PA X es ta
  sd : SndA X.K C E ta m
structure TD (X : Cx) (C : Cl) (E : XK) (e : Expr) (tt : TT) (m : MT) : Prop where
  pe : PT X e tt
  sd : SndT X.K C E tt m
structure WD (X : Cx) (C : Cl) (E : XK) (e : Expr) (tt : TT) (m : MT) : Prop where
  pe : PW X e tt
  sd : SndT X.K C E tt m
structure ID (X : Cx) (C : Cl) (E : XK) (tg e : Expr) (wi : TI) (m : MA) : Prop where
  pe : PI X tg e wi
  sd : SndI X.K C E wi m
structure GD (X : Cx) (C : Cl) (tg : Expr) (g : TG) (b : Bi) (is : List Nat) : Prop where
  pe : PG X tg g
  sd : SndG X.K C g b is
structure GDs (X : Cx) (C : Cl) (tg : List Expr) (g : TGs) (b : BiA) (is : List Nat) : Prop where
  pe : PGs X tg g
  sd : SndGs X.K C g b is
structure SD (X : Cx) (C : Cl) (E : XK) (s : Stmt) (ts : TS) (m : MS) : Prop where
  pe : PS X s ts
  sd : SndS X.K C E ts m
structure BD (X : Cx) (C : Cl) (E : XK) (s : List Stmt) (ts : TS) (m : MS) : Prop where
  pe : PSs X s ts
  sd : SndS X.K C E ts m
section
variable {X : Cx} {C : Cl} {E : XK} {a b c e : Expr} {es : List Expr} {ta tb tc te : TE} {taa : TA} {tt tu : TT} {f g h : M} {ma : MA} {mt mu' : MT} {pos p : Pos}
/-! ### expressions -/
theorem d_var (i : Nat) {x : Str} (hN : X.N[i]? = some x := by rfl) (hv : Vis X.env.scope x := by first | exact Or.inl rfl | exact Or.inr (Or.inl rfl) | exact Or.inr (Or.inr rfl)) (hd : (x == ("__debug__" : Str)) = false := by decide)
    (hcd : (x == ("__classdict__" : Str)) = false := by decide) : ED X C E (.Name x pos) (tVar i) (mVar i) := ⟨pe_var hN hv hd hcd, snd_var⟩
theorem d_int {i j} : ED X C E (.Constant (.int i) j pos) (tC (.int i)) (mC (.int i)) := ⟨pe_int, snd_c fun _ => .int _⟩
theorem d_bl {i j} : ED X C E (.Constant (.bool i) j pos) (tC (.bl i)) (mC (.bool i)) := ⟨pe_bl, snd_c fun _ => .bl _⟩
theorem d_str {i j} : ED X C E (.Constant (.str i) j pos) (tC (.str i)) (mC (.str i)) := ⟨pe_str, snd_c fun _ => .str _⟩
theorem d_non {j} : ED X C E (.Constant .none j pos) (tC .non) (mC .none) := ⟨pe_non, snd_c fun _ => .non⟩
theorem d_op {op : Operator} {r : R2} {o : PyData → PyData → R PyData} (ho : OpR X (binaryOp op) r) (hs : OpS X.K C E r o) (ha : ED X C E a ta f) (hb : ED X C E b tb g) : ED X C E (.BinOp a op b pos) (tOp r ta tb) (mOp o f g) := ⟨pe_op ho ha.pe hb.pe, snd_op hs ha.sd hb.sd⟩
theorem d_add (ha : ED X C E a ta f) (hb : ED X C E b tb g) : ED X C E (.BinOp a .Add b pos) (tOp rAddI ta tb) (mOp iAdd f g) := d_op op_add ops_addI ha hb
theorem d_sub (ha : ED X C E a ta f) (hb : ED X C E b tb g) : ED X C E (.BinOp a .Sub b pos) (tOp rSubI ta tb) (mOp iSub f g) := d_op op_sub ops_subI ha hb
theorem d_mul (ha : ED X C E a ta f) (hb : ED X C E b tb g) : ED X C E (.BinOp a .Mult b pos) (tOp rMulI ta tb) (mOp iMul f g) := d_op op_mul ops_mulI ha hb
theorem d_div (ha : ED X C E a ta f) (hb : ED X C E b tb g) : ED X C E (.BinOp a .FloorDiv b pos) (tOp rDivI ta tb) (mOp iDiv f g) := d_op op_fdivN ops_divI ha hb
theorem d_mod (ha : ED X C E a ta f) (hb : ED X C E b tb g) : ED X C E (.BinOp a .Mod b pos) (tOp rModI ta tb) (mOp iMod f g) := d_op op_modN ops_modI ha hb
theorem d_and (ha : ED X C E a ta f) (hb : ED X C E b tb g) : ED X C E (.BinOp a .BitAnd b pos) (tOp rAndI ta tb) (mOp iAnd f g) := d_op op_and ops_andI ha hb
theorem d_neg (ha : ED X C E a ta f) : ED X C E (.UnaryOp .USub a pos) (tUn rNegI ta) (mUn uNeg f) := ⟨pe_un un_neg ha.pe, snd_un uns_neg ha.sd⟩
theorem d_tup {x1} (h : AD X C E es taa ma) : ED X C E (.Tuple es x1 pos) (tTupF taa) (mTup ma) := ⟨pe_tupF h.pe, snd_tup h.sd⟩
theorem d_lst (h : AD X C E es taa ma) : ED X C E (.List es pos) (tLst taa) (mLst ma) := ⟨pe_lst h.pe, snd_lst h.sd⟩
theorem d_nil : AD X C E [] tNil maNil := ⟨pa_nil, snda_nil⟩
theorem d_cons (ha : ED X C E e te f) (hr : AD X C E es taa ma) (hs : starEach (e :: es) X.env = (false, eval e X.env) :: starEach es X.env := by rfl) : AD X C E (e :: es) (tCons te taa) (maCons f ma) := ⟨pa_cons ha.pe hr.pe hs, snda_cons ha.sd hr.sd⟩
theorem d_ix (ha : ED X C E a ta f) (hb : ED X C E b tb g) (hs : PlainIx b := by exact fun _ _ => rfl) : ED X C E (.Subscript a b pos) (tOp (rIx X.K) ta tb) (mOp iIx f g) := ⟨pe_ix ix_seq ha.pe hb.pe hs, snd_op ops_ix ha.sd hb.sd⟩
theorem d_cmpR {op : CmpOp} {r : R2} {o : PyData → PyData → R PyData} (ho : OpR X (compareOp op) r) (hs : OpS X.K C E r o) (hm : behindInMarks op b = false) (ha : ED X C E a ta f) (hb : ED X C E b tb g) : ED X C E (.Compare a [op] [b] pos) (tOp r ta tb) (mOp o f g) := ⟨pe_cmpR ho ha.pe hb.pe hm, snd_op hs ha.sd hb.sd⟩
theorem d_lt (ha : ED X C E a ta f) (hb : ED X C E b tb g) : ED X C E (.Compare a [.Lt] [b] pos) (tOp rLtI ta tb) (mOp (iCmp fun i j => decide (i < j)) f g) := d_cmpR op_lt ops_cmp (nomark _) ha hb
theorem d_le (ha : ED X C E a ta f) (hb : ED X C E b tb g) : ED X C E (.Compare a [.LtE] [b] pos) (tOp rLeI ta tb) (mOp (iCmp fun i j => decide (i ≤ j)) f g) := d_cmpR op_le ops_cmp (nomark _) ha hb
theorem d_gt (ha : ED X C E a ta f) (hb : ED X C E b tb g) : ED X C E (.Compare a [.Gt] [b] pos) (tOp rGtI ta tb) (mOp (iCmp fun i j => decide (j < i)) f g) := d_cmpR op_gt ops_cmp (nomark _) ha hb
theorem d_ge (ha : ED X C E a ta f) (hb : ED X C E b tb g) : ED X C E (.Compare a [.GtE] [b] pos) (tOp rGeI ta tb) (mOp (iCmp fun i j => decide (j ≤ i)) f g) := d_cmpR op_ge ops_cmp (nomark _) ha hb
theorem d_eq (hu : X.A.units + 64 < cLine) (ha : ED X C E a ta f) (hb : ED X C E b tb g) : ED X C E (.Compare a [.Eq] [b] pos) (tOp (rEqD X.K) ta tb) (mOp iEq f g) := d_cmpR (op_eqD hu) ops_eq (nomark _) ha hb
theorem d_ne (hu : X.A.units + 64 < cLine) (ha : ED X C E a ta f) (hb : ED X C E b tb g) : ED X C E (.Compare a [.NotEq] [b] pos) (tOp (rNeD X.K) ta tb) (mOp iNe f g) := d_cmpR (op_neD hu) ops_ne (nomark _) ha hb
theorem d_ifExp (hc : TD X C E c tt mt) (ha : ED X C E a ta f) (hb : ED X C E b tb g) : ED X C E (.IfExp c a b pos) (tIf tt ta tb) (mIf mt f g) := ⟨pe_ifExp hc.pe ha.pe hb.pe, snd_if hc.sd ha.sd hb.sd⟩
theorem d_andV (ha : ED X C E a ta f) (hb : ED X C E (.BoolOp .And (b :: es) pos) tb g) : ED X C E (.BoolOp .And (a :: b :: es) pos) (tAndV ta tb) (mAndV f g) := ⟨pe_and ha.pe hb.pe, snd_andV ha.sd hb.sd⟩
theorem d_one {op} (ha : ED X C E a ta f) : ED X C E (.BoolOp op [a] pos) ta f := ⟨pe_one ha.pe, ha.sd⟩
/-! ### tests -/
theorem t_cmp (h : ED X C E e te f) (he : ∀ whole, isTrue e X.env whole = (do let v ← whole; standAt e.pos; holding [v] (truthy v)) := by intro _; rfl) : TD X C E e (tB te) (mtB f) := ⟨pt_val h.pe he, sndt_B h.sd⟩
theorem t_cmpR {op : CmpOp} {r : R2} {o : PyData → PyData → R PyData} (ho : OpR X (compareOp op) r) (hs : OpS X.K C E r o) (hm : behindInMarks op b = false) (ha : ED X C E a ta f) (hb : ED X C E b tb g) : TD X C E (.Compare a [op] [b] pos) (tTest (tOp r ta tb)) (mtB (mOp o f g)) := ⟨pt_cmpR ho ha.pe hb.pe hm, sndt_test (snd_op hs ha.sd hb.sd)⟩
theorem t_lt (ha : ED X C E a ta f) (hb : ED X C E b tb g) : TD X C E (.Compare a [.Lt] [b] pos) (tTest (tOp rLtI ta tb)) (mtB (mOp (iCmp fun i j => decide (i < j)) f g)) := t_cmpR op_lt ops_cmp (nomark _) ha hb
theorem t_le (ha : ED X C E a ta f) (hb : ED X C E b tb g) : TD X C E (.Compare a [.LtE] [b] pos) (tTest (tOp rLeI ta tb)) (mtB (mOp (iCmp fun i j => decide (i ≤ j)) f g)) := t_cmpR op_le ops_cmp (nomark _) ha hb
theorem t_gt (ha : ED X C E a ta f) (hb : ED X C E b tb g) : TD X C E (.Compare a [.Gt] [b] pos) (tTest (tOp rGtI ta tb)) (mtB (mOp (iCmp fun i j => decide (j < i)) f g)) := t_cmpR op_gt ops_cmp (nomark _) ha hb
theorem t_ge (ha : ED X C E a ta f) (hb : ED X C E b tb g) : TD X C E (.Compare a [.GtE] [b] pos) (tTest (tOp rGeI ta tb)) (mtB (mOp (iCmp fun i j => decide (j ≤ i)) f g)) := t_cmpR op_ge ops_cmp (nomark _) ha hb
theorem t_eq (hu : X.A.units + 64 < cLine) (ha : ED X C E a ta f) (hb : ED X C E b tb g) : TD X C E (.Compare a [.Eq] [b] pos) (tTest (tOp (rEqD X.K) ta tb)) (mtB (mOp iEq f g)) := t_cmpR (op_eqD hu) ops_eq (nomark _) ha hb
theorem t_ne (hu : X.A.units + 64 < cLine) (ha : ED X C E a ta f) (hb : ED X C E b tb g) : TD X C E (.Compare a [.NotEq] [b] pos) (tTest (tOp (rNeD X.K) ta tb)) (mtB (mOp iNe f g)) := t_cmpR (op_neD hu) ops_ne (nomark _) ha hb
theorem t_tru (h : ED X C E e te f) (he : ∀ whole, isTrue e X.env whole = (do let v ← whole; standAt e.pos; holding [v] (truthy v)) := by intro _; rfl) : TD X C E e (fun σ H Q => te σ H fun x H' => ∃ k, TruV X.K x H' k ∧ Q k H') (mtTru f) := ⟨pt_truth h.pe he, sndt_tru h.sd⟩
theorem t_not (h : TD X C E a tt mt) : TD X C E (.UnaryOp .Not a pos) (tNot tt) (mtNot mt) := ⟨pt_not h.pe, sndt_not h.sd⟩
theorem w_and (ha : TD X C E a tt mt) (hb : WD X C E (.BoolOp .And (b :: es) pos) tu mu') : WD X C E (.BoolOp .And (a :: b :: es) pos) (tAnd tt tu) (mtAnd mt mu') := ⟨pw_and ha.pe hb.pe, sndt_and ha.sd hb.sd⟩
theorem w_or (ha : TD X C E a tt mt) (hb : WD X C E (.BoolOp .Or (b :: es) pos) tu mu') : WD X C E (.BoolOp .Or (a :: b :: es) pos) (tOr tt tu) (mtOr mt mu') := ⟨pw_or ha.pe hb.pe, sndt_or ha.sd hb.sd⟩
theorem w_and1 (ha : TD X C E a tt mt) : WD X C E (.BoolOp .And [a] pos) tt mt := ⟨pw_and1 ha.pe, ha.sd⟩
theorem w_or1 (ha : TD X C E a tt mt) : WD X C E (.BoolOp .Or [a] pos) tt mt := ⟨pw_or1 ha.pe, ha.sd⟩
theorem t_w (h : WD X C E e tt mt) : TD X C E e tt mt := ⟨h.pe.pt, h.sd⟩
/-! ### calls -/
theorem d_call {x : Str} {k n : Nat} {run : List PyData → R PyData} (F : FnI X.prog X.w X.K X.mg X.base C k x n run) (hr : Room k X.A) (tk : Takes X (WW E)) (hg : Gl X x) (ha : AD X C E (e :: es) taa ma)
    (hdb : (x == ("__debug__" : Str)) = false := by decide) (he : starEach (e :: es) X.env = (false, eval e X.env) :: starEach es X.env := by rfl) (hpl : (backTo pos (starEach es X.env)).any (·.1) = false := by rfl) :
    ED X C E (.Call (.Name x p) (e :: es) [] pos) (tCallS (spP X.K C n run) (fun _ => E) taa) (mCall n run ma) := by
  obtain ⟨f, fd, ps, G, hm, hk, hb⟩ := F.ex
  exact ⟨pe_callS G hr hg hm hk hb (fun σ => passAt tk σ) ha.pe hdb he hpl, snd_call ha.sd⟩
theorem d_cb {x : Str} {id : String} {r : List V → Hp → VK → Prop} {op : List PyData → R PyData} (hc : CallR X (.builtin id) r) (hs : CaS X.K C E r op) (hg : Gl X x) (hm : X.mg x = none) (hv : bootBuiltins x = some (.builtin id)) (ha : AD X C E (e :: es) taa ma) (hn : x ≠ "__name__" := by decide) (hdb : (x == ("__debug__" : Str)) = false := by decide)
    (he : starEach (e :: es) X.env = (false, eval e X.env) :: starEach es X.env := by rfl) (hpl : (backTo pos (starEach es X.env)).any (·.1) = false := by rfl) : ED X C E (.Call (.Name x p) (e :: es) [] pos) (tCB r taa) (mCa op ma) := ⟨pe_callB hc hg hm hv ha.pe hn hdb he hpl, snd_cb hs ha.sd⟩
theorem d_ct {x : Str} {id : String} {r : List V → Hp → VK → Prop} {op : List PyData → R PyData} (hc : CallR X (.type id) r) (hs : CaS X.K C E r op) (hg : Gl X x) (hm : X.mg x = none) (hv : bootBuiltins x = some (.type id)) (ha : AD X C E (e :: es) taa ma) (hn : x ≠ "__name__" := by decide) (hdb : (x == ("__debug__" : Str)) = false := by decide)
    (he : starEach (e :: es) X.env = (false, eval e X.env) :: starEach es X.env := by rfl) (hpl : (backTo pos (starEach es X.env)).any (·.1) = false := by rfl) : ED X C E (.Call (.Name x p) (e :: es) [] pos) (tCB r taa) (mCa op ma) := ⟨pe_callTy hc hg hm hv ha.pe hn hdb he hpl, snd_cb hs ha.sd⟩
theorem d_cf {x : Str} {id : String} {r : List V → Hp → VK → Prop} {op : List PyData → R PyData} (hc : CallR X (.builtin id) r) (hs : CaS X.K C E r op) (hg : Gl X x) (hm : X.mg x = some (.builtin id)) (ha : AD X C E (e :: es) taa ma) (hdb : (x == ("__debug__" : Str)) = false := by decide)
    (he : starEach (e :: es) X.env = (false, eval e X.env) :: starEach es X.env := by rfl) (hpl : (backTo pos (starEach es X.env)).any (·.1) = false := by rfl) : ED X C E (.Call (.Name x p) (e :: es) [] pos) (tCB r taa) (mCa op ma) := ⟨pe_callBfun hc hg hm ha.pe hdb he hpl, snd_cb hs ha.sd⟩
/-! ### statements -/
variable {st : Stmt} {sts sts' : List Stmt} {ts tsu : TS} {ms mv : MS}
theorem b_nil : BD X C E [] tNext mNext := ⟨pss_nil, snds_next⟩
theorem b_cons (h1 : SD X C E st ts ms) (h2 : BD X C E sts tsu mv) : BD X C E (st :: sts) (tSeq ts tsu) (mSeq ms mv) := ⟨pss_cons h1.pe h2.pe, snds_seq h1.sd h2.sd⟩
theorem b_one (h1 : SD X C E st ts ms) : BD X C E [st] ts ms := ⟨pss_one h1.pe, h1.sd⟩
theorem s_if (hc : TD X C E c tt mt) (ha : BD X C E sts ts ms) (hb : BD X C E sts' tsu mv) : SD X C E (.If c sts sts' pos) (tIfS tt ts tsu) (mIfS mt ms mv) := ⟨ps_if hc.pe ha.pe hb.pe, snds_if hc.sd ha.sd hb.sd⟩
theorem s_ret (h : ED X C E e te f) : SD X C E (.Return (some e) pos) (tRet te) (mRet f) := ⟨ps_ret h.pe, snds_ret h.sd⟩
theorem s_expr (h : ED X C E e te f) (hs : swapsWith e none pos.line X.env = pure false := by rfl) : SD X C E (.Expr e pos) (tDrop te) (mDrop f) := ⟨ps_expr h.pe hs, snds_drop h.sd⟩
theorem s_pass : SD X C E (.Pass pos) tNext mNext := ⟨ps_pass, snds_next⟩
theorem s_break : SD X C E (.Break pos) tBreak mBreak := ⟨ps_break, snds_break⟩
theorem s_continue : SD X C E (.Continue pos) tCont mCont := ⟨ps_continue, snds_cont⟩
theorem g_name (i : Nat) {x : Str} (hN : X.N.Nodup) (hi : X.N[i]? = some x := by rfl) (hx : Loc X.env.scope x := by first | exact Or.inl rfl | exact Or.inr rfl) (hf : X.fn x = true ∨ X.env.scope.names.lookup x = some .local := by first | exact .inl rfl | exact .inr rfl | assumption) : GD X C (.Name x pos) (gName i) (bName i) [i] := ⟨pg_name hN hi hx hf, sndg_name⟩
theorem g_nil : GDs X C [] gNil bNil [] := ⟨pgs_nil, sndgs_nil⟩
theorem g_cons {gg : TG} {gs : TGs} {bb : Bi} {bs : BiA} {is js : List Nat} (h1 : GD X C e gg bb is) (h2 : GDs X C es gs bs js)
    (hs : (assignEach (e :: es) X.env).map (·.2) = assign e X.env :: (assignEach es X.env).map (·.2) := by rfl) : GDs X C (e :: es) (gCons gg gs) (bCons bb bs) (is ++ js) := ⟨pgs_cons h1.pe h2.pe hs, sndgs_cons h1.sd h2.sd⟩
theorem g_tup {k n : Nat} {gs : TGs} {bs : BiA} {is : List Nat} (hc : X.calm = true) (h : GDs X C es gs bs is)
    (hn : (assignEach es X.env).length = n := by rfl) (hst : (assignEach es X.env).findIdx? (·.1) = none := by rfl) : GD X C (.Tuple es k pos) (gTup X.K n gs) (bTup n bs) is := ⟨pg_tup hc h.pe hn hst, sndg_tup h.sd⟩
theorem s_asg {tg : Expr} {gg : TG} {bb : Bi} {is : List Nat} (he : ED X C E e te f) (hg : GD X C tg gg bb is) (hs : swapsWithSole [tg] e pos.line X.env = pure false := by rfl) (hw : swappedStores [tg] e X.env = pure none := by rfl)
    (h1 : (assignEach [tg] X.env).map (·.2) = [assign tg X.env] := by rfl) : SD X C E (.Assign [tg] e pos) (tAsg te gg) (mAsg bb f) := ⟨ps_asg he.pe hg.pe hs hw h1, snds_asg he.sd hg.sd⟩
theorem s_par (i j : Nat) {x y : Str} {px py pt : Pos} {kt k2 pt2} (hc : X.calm = true) (hN : X.N.Nodup) (ha : AD X C E [a, b] taa ma) (hi : X.N[i]? = some x := by rfl) (hj : X.N[j]? = some y := by rfl) (hij : i ≠ j := by decide)
    (hx : X.env.scope.names.lookup x = some .local := by rfl) (hy : X.env.scope.names.lookup y = some .local := by rfl)
    (hw : swappedStores [.Tuple [.Name x px, .Name y py] kt pt] (.Tuple [a, b] k2 pt2) X.env = pure (some [x, y]) := by rfl)
    (hs : swapsWithSole [.Tuple [.Name x px, .Name y py] kt pt] (.Tuple [a, b] k2 pt2) pos.line X.env = pure false := by rfl) :
    SD X C E (.Assign [.Tuple [.Name x px, .Name y py] kt pt] (.Tuple [a, b] k2 pt2) pos) (tPar i j taa) (mPar i j ma) := ⟨ps_par hc hN hi hj hij hx hy ha.pe hw hs, snds_par ha.sd⟩
theorem i_seq {tg : Expr} (h : ED X C E e te f) : ID X C E tg e (iSeq X.K te) (miSeq f) := ⟨pi_seq h.pe, sndi_seq h.sd⟩
theorem i_rg1 {tg : Expr} (hg : Gl X "range") (hm : X.mg "range" = none) (ha : AD X C E [a] taa ma) (hs : starEach [a] X.env = [(false, eval a X.env)] := by rfl) : ID X C E tg (.Call (.Name "range" p) [a] [] pos) (iRng1 taa) (miR rg1 ma) := ⟨pi_range1 hg hm ha.pe hs, sndi_rg1 ha.sd⟩
theorem i_rg2 {tg : Expr} (hg : Gl X "range") (hm : X.mg "range" = none) (ha : AD X C E [a, b] taa ma) (hs : starEach [a, b] X.env = [(false, eval a X.env), (false, eval b X.env)] := by rfl) (hs2 : starEach [b] X.env = [(false, eval b X.env)] := by rfl) :
    ID X C E tg (.Call (.Name "range" p) [a, b] [] pos) (iRng2 taa) (miR rg2 ma) := ⟨pi_range2 hg hm ha.pe hs hs2, sndi_rg2 ha.sd⟩
theorem s_for {tg iter : Expr} {wi : TI} {gg : TG} {bb : Bi} {is : List Nat} (hp : PassesOwn (model X.prog X.w) X.A X.env X.xe) (hc : X.calm = true) (hi : ID X C E tg iter wi ma) (hg : GD X C tg gg bb is) (hb : BD X C E sts ts ms)
    (hs : ∀ x, foldedSetIterable iter X.env x = pure x := by intro _; rfl) : SD X C E (.For tg iter sts [] pos) (tFor wi gg ts) (mFor ma bb ms) := ⟨ps_for hp hc hi.pe hg.pe hb.pe hs, snds_for hi.sd hg.sd hb.sd⟩
theorem s_while (n : Nat) (hp : PassesOwn (model X.prog X.w) X.A X.env X.xe) (hc : TD X C E c tt mt) (hb : BD X C E sts ts ms) : SD X C E (.While c sts [] pos) (tWhile tt ts) (mWhile n mt ms) := ⟨ps_while hp hc.pe hb.pe, snds_while hc.sd hb.sd⟩
theorem s_rai {c : Nat} {a : Addr} {x m : Str} {j : Nat} {p2 pos' : Pos} {bm : List Value} (hc : X.calm = true) (tk : Takes X (WW E)) (q : PySem.W.excIn X.K a bm "ValueError.__new__" = true) (F : ExcBaseFacts "ValueError" "ValueError.__new__" "ValueError.__init__" bm) (gC : X.mg x = some (.ref a)) (kC : PySem.W.keepIn X.K (.ref a) = true) (r : Raises X (.ref a)) (hg : Gl X x) (eC : C.cl c = .ref a)
    (hdb : (x == ("__debug__" : Str)) = false := by decide) : SD X C E (.Raise (some (.Call (.Name x p) [.Constant (.str m) j p2] [] pos)) none pos') (fun _ σ H => (fun _ H Q => Q (.ref a) none H : L2.St → Hp → XK → Prop) σ H fun cls d H' => E cls d H') (mRai c) := ⟨ps_raise hc tk (pmk_own F q gC kC r hg hdb), snds_rai eC⟩
/-! ### comprehensions -/
theorem d_lc {tg iter elt : Expr} {scope : Scope} {own : List (Str × Nat)} {vs : List Nat} {wi : TI} {gg : TG} {bb : Bi} {is : List Nat} (hc : X.calm = true) (hN : X.N.Nodup) (ok : BlkOk X.N X.env.scope scope own) (hi : ID X C E tg iter wi ma)
    (hg : ∀ (s : Shared) (H : Hp) (B : Addr) (cl : List (Str × Addr)) (fp : List Addr), GD (X.blk s H scope (compEnvC scope cl B X.env) fp) C tg gg bb is)
    (he : ∀ (s : Shared) (H : Hp) (B : Addr) (cl : List (Str × Addr)) (fp : List Addr), ED (X.blk s H scope (compEnvC scope cl B X.env) fp) C EX0 elt te f) (hvs : own.map (·.2) = vs := by rfl) (his : ∀ i ∈ is, i ∈ vs := by decide) (hs : ∀ x, foldedSetIterable iter X.env x = pure x := by intro _; rfl) :
    ED X C E (.ListComp elt [⟨tg, iter, [], 0⟩] scope pos) (tLc wi gg tYes te vs) (mComp vs ma bb mtYes f) := by
  subst hvs
  exact ⟨pe_lc hc hN hi.pe ok (fun s H B cl fp => (hg s H B cl fp).pe) (fun _ _ _ _ _ => pts_nil) (fun s H B cl fp => (he s H B cl fp).pe) hs, snd_comp hi.sd (hg X.s_0 X.H_0 0 [] []).sd his sndt_yes (he X.s_0 X.H_0 0 [] []).sd⟩
theorem d_lcif {tg iter elt : Expr} {scope : Scope} {own : List (Str × Nat)} {vs : List Nat} {wi : TI} {gg : TG} {bb : Bi} {is : List Nat} (hc : X.calm = true) (hN : X.N.Nodup) (ok : BlkOk X.N X.env.scope scope own) (hi : ID X C E tg iter wi ma)
    (hg : ∀ (s : Shared) (H : Hp) (B : Addr) (cl : List (Str × Addr)) (fp : List Addr), GD (X.blk s H scope (compEnvC scope cl B X.env) fp) C tg gg bb is)
    (ht : ∀ (s : Shared) (H : Hp) (B : Addr) (cl : List (Str × Addr)) (fp : List Addr), TD (X.blk s H scope (compEnvC scope cl B X.env) fp) C EX0 c tt mt)
    (he : ∀ (s : Shared) (H : Hp) (B : Addr) (cl : List (Str × Addr)) (fp : List Addr), ED (X.blk s H scope (compEnvC scope cl B X.env) fp) C EX0 elt te f) (hvs : own.map (·.2) = vs := by rfl) (his : ∀ i ∈ is, i ∈ vs := by decide) (hs : ∀ x, foldedSetIterable iter X.env x = pure x := by intro _; rfl) :
    ED X C E (.ListComp elt [⟨tg, iter, [c], 0⟩] scope pos) (tLc wi gg tt te vs) (mComp vs ma bb mt f) := by
  subst hvs
  exact ⟨pe_lc hc hN hi.pe ok (fun s H B cl fp => (hg s H B cl fp).pe) (fun s H B cl fp => pts_one (ht s H B cl fp).pe) (fun s H B cl fp => (he s H B cl fp).pe) hs, snd_comp hi.sd (hg X.s_0 X.H_0 0 [] []).sd his (ht X.s_0 X.H_0 0 [] []).sd (he X.s_0 X.H_0 0 [] []).sd⟩
end
end LW

namespace LW
open PySem PySem.Spec PyProof.Rows L2
section
variable {K : PySem.W.Frag} {mu : Mu} {G0 H0 G H G' H' : Hp} {env env' : LEnv} {σ σ' : L2.St} {C : Cl} {E : XK} {α β γ δ : Type} {X : Cx}
theorem fn_okD {P : Program} {w : World} {mg : Str → Option Value} {base : Heap} {x qual : Str} {params : Arguments} {body : List Stmt} {scope : Scope} {dvs : List V} {f : Addr} {fd : FuncData} {N ps : List Str} {k : Nat} {ms : MS} (F : FunD K x qual params body scope dvs [] f fd) (S : FnScope N ps scope) (hn : ps.length ≤ N.length)
    (hb : ∀ (cdv : Value) (A : Around) (outer : List PySem.Env) (s : Shared) (H : Hp) (E : XK), Room k (A.deeper (envOfC qual scope s.heap.objs.size f cdv)) →
      ∃ t, BD (cxOf (L2.CX P w) P w K mg base N qual scope f cdv A outer s H E) C E body t ms) : FnOk P w K mg base (L2.CX P w) (k + 1) f fd ps (spP K C ps.length (runS N.length ms)) := by
  refine F.ok S (fun vs H Q E h => h.1) fun cdv A outer s H vs Q E hr h => ?_
  obtain ⟨hl, tb, G, ds, sG, gn, r, p⟩ := h
  obtain ⟨t, ht⟩ := hb cdv A outer s H E hr
  refine ⟨t, ht.pe, ht.sd _ _ _ _ _ _ _ _ (StR.begin sG gn tb r (by omega)) ?_⟩
  have p : PostR K C E G H (outS (ms (startE N.length ds))) Q := p
  cases e : ms (startE N.length ds) with
  | nx e' => rw [e] at p; exact fun σ' G' H' S' _ => p .non G' H' S'.xt .non
  | rt e' d => rw [e] at p; exact fun v σ' G' H' S' _ r' => p v G' H' S'.xt r'
  | rai c => rw [e] at p; exact fun H' fz => p H' fz
  | bk e' => rw [e] at p; exact p.elim
  | ct e' => rw [e] at p; exact p.elim
  | stuck => rw [e] at p; exact p
/-- an own error's class, as the defs that raise it know it -/
structure ExA (K : PySem.W.Frag) (mg : Str → Option Value) (C : Cl) (x : Str) (c : Nat) (a : Addr) : Prop where
  c : C.cl c = .ref a
  g : mg x = some (.ref a)
  k : PySem.W.keepIn K (.ref a) = true
  q : PySem.W.excIn K a He.veBase "ValueError.__new__" = true
  sb : PySem.W.subIn K (.ref a) (.type "BaseException") = some true
  ty : PySem.W.typeIn K (.ref a) = some (.type "type")
theorem ExA.r {X : Cx} {mg : Str → Option Value} {x : Str} {c : Nat} {a : Addr} (e : ExA X.K mg C x c a) : Raises X (.ref a) := raises_own e.sb e.ty
structure ExI (K : PySem.W.Frag) (mg : Str → Option Value) (C : Cl) (x : Str) (c : Nat) : Prop where
  ex : ∃ a, ExA K mg C x c a
/-- a tuple of the module's top -/
structure TupK (K : PySem.W.Frag) (a : Addr) (ds : List PyData) : Prop where
  ex : ∃ vs, (∀ H, TpT K H a vs) ∧ ∀ G, RpA K G vs ds
theorem d_glob {x : Str} {a : Addr} {ds : List PyData} {pos : Pos} (hm : X.mg x = some (.ref a)) (t : TupK X.K a ds) (hg : Gl X x) (hd : (x == ("__debug__" : Str)) = false := by decide) : ED X C E (.Name x pos) (tC (.ref a)) (mC (.tuple ds)) := by
  obtain ⟨vs, h1, h2⟩ := t.ex
  exact ⟨pe_glob hg hm rfl hd, snd_c fun G => .tup (h1 G) (h2 G)⟩
/-! ### a < b < c -/
def mChain (o o' : PyData → PyData → R PyData) (f g h : M) : M := fun env => (f env).bind fun p => (g p.1).bind fun q => (lif q.1 (o p.2 q.2)).bind fun z => match z.2 with
  | .bool true => (h z.1).bind fun u => lif u.1 (o' q.2 u.2)
  | .bool false => .ok (z.1, .bool false)
  | _ => .stuck
theorem snd_chain {r r' : R2} {o o' : PyData → PyData → R PyData} {ta tb tc : TE} {f g h : M} (hr : OpS K C E r o) (hr' : OpS K C E r' o') (ha : Snd K C E ta f) (hb : Snd K C E tb g) (hc : Snd K C E tc h) : Snd K C E (tChain r r' ta tb tc) (mChain o o' f g h) := by
  intro mu G0 H0 env σ G H Q S hh
  refine ha _ _ _ _ _ _ _ _ S (hh.bind fun p x G1 H1 S1 s1 r1 h1 => ?_)
  refine hb _ _ _ _ _ _ _ _ S1 (h1.bind fun q y G2 H2 S2 s2 r2 h2 => ?_)
  refine hr _ _ _ _ _ _ _ _ _ _ _ _ S2 (Rp.mono s2 _ _ r1) r2 (h2.bind fun z v G3 H3 S3 s3 r3 h3 => ?_)
  obtain ⟨e, d⟩ := z
  cases r3 with
  | bl b =>
    refine ⟨b, rfl, ?_⟩
    cases b with
    | false => exact iteF (post_here S3 h3 (.bl _))
    | true =>
      refine iteT (hc _ _ _ _ _ _ _ _ S3 (Post.bind (f := fun u => lif u.1 (o' q.2 u.2)) h3 fun u w G4 H4 S4 s4 r4 h4 => ?_))
      exact hr' _ _ _ _ _ _ _ _ _ _ _ _ S4 (Rp.mono (s3.trans s4) _ _ r2) r4 h4
  | _ => exact h3.elim
theorem d_chain {op op' : CmpOp} {r r' : R2} {o o' : PyData → PyData → R PyData} {a b c : Expr} {ta tb tc : TE} {f g h : M} {pos : Pos} (ho : OpR X (compareOp op) r) (hs : OpS X.K C E r o) (ho' : OpR X (compareOp op') r') (hs' : OpS X.K C E r' o') (ha : ED X C E a ta f) (hb : ED X C E b tb g) (hc : ED X C E c tc h)
    (hm : lastMarks [op, op'] [b, c] = false := by with_unfolding_all rfl) : ED X C E (.Compare a [op, op'] [b, c] pos) (tChain r r' ta tb tc) (mChain o o' f g h) := ⟨pe_chain ho ho' ha.pe hb.pe hc.pe hm, snd_chain hs hs' ha.sd hb.sd hc.sd⟩
theorem t_chain {op op' : CmpOp} {r r' : R2} {o o' : PyData → PyData → R PyData} {a b c : Expr} {ta tb tc : TE} {f g h : M} {pos : Pos} (ho : OpR X (compareOp op) r) (hs : OpS X.K C E r o) (ho' : OpR X (compareOp op') r') (hs' : OpS X.K C E r' o') (ha : ED X C E a ta f) (hb : ED X C E b tb g) (hc : ED X C E c tc h)
    (hm : lastMarks [op, op'] [b, c] = false := by with_unfolding_all rfl) : TD X C E (.Compare a [op, op'] [b, c] pos) (tTest (tChain r r' ta tb tc)) (mtB (mChain o o' f g h)) := ⟨pt_chain ho ho' ha.pe hb.pe hc.pe hm, sndt_test (snd_chain hs hs' ha.sd hb.sd hc.sd)⟩
/-! ### f(*e) -/
theorem d_callStar {x : Str} {k n : Nat} {run : List PyData → R PyData} {e : Expr} {te : TE} {f : M} {p sp_ pos : Pos} (F : FnI X.prog X.w X.K X.mg X.base C k x n run) (hr : Room k X.A) (tk : Takes X (WW E)) (hg : Gl X x) (he : ED X C E e te f) (hd : (x == ("__debug__" : Str)) = false := by decide)
    (hst : starEach [.Starred e sp_] X.env = [(true, eval e X.env)] := by rfl) : ED X C E (.Call (.Name x p) [.Starred e sp_] [] pos) (fun σ H Q => te σ H fun y H1 => ∃ a xs, y = V.ref a ∧ (SqT X.K H1 a xs ∨ SqL X.K H1 a xs) ∧ spP X.K C n run xs H1 Q E) (mCallStar n run f) := by
  obtain ⟨g, fd, ps, G, hm, hk, hb⟩ := F.ex
  have R1 := G.raw hb .nil
  have R2 : FnR X.prog X.w X.K X.mg X.base (L2.CX X.prog X.w) k g (spP X.K C n run) := R1.imp fun vs H Q E q => by rw [List.append_nil]; exact q
  exact ⟨StX.pe_callS1 R2 hr hk hg hm (passes_call tk fun _ _ _ _ h => h) he.pe hd hst, snd_callStar he.sd⟩
/-! ### texts -/
def cStr : List PyData → R PyData
  | [.int i] => gd (Nat.blt i.natAbs.log2 1920) (.ok (.str (toString i)))
  | _ => .stuck
theorem cas_str : CaS K C E (fun xs H Q => ∃ i : Int, xs = [.int i] ∧ i.natAbs.log2 < 1920 ∧ Q (.str (toString i)) H) cStr := by
  intro mu G0 H0 env σ G H xs ds Q S r h
  cases r with
  | nil => exact h.elim
  | cons r1 r2 =>
    cases r2 with
    | cons _ _ => cases r1 <;> exact h.elim
    | nil =>
      cases r1 <;> first | exact h.elim | skip
      obtain ⟨c, h⟩ := Post.gdL h
      exact ⟨_, rfl, Nat.le_of_ble_eq_true c, post_here S h (.str _)⟩
def mFmt (f : M) : M := fun env => (f env).bind fun p => match p.2 with
  | .int i => gd (Nat.blt i.natAbs.log2 1920) (.ok (p.1, .str (toString i)))
  | .str y => gd (Nat.ble y.length small) (.ok (p.1, .str y))
  | _ => .stuck
theorem snd_fmt {te : TE} {f : M} (h : Snd K C E te f) : Snd K C E (tFmt te) (mFmt f) := by
  intro mu G0 H0 env σ G H Q S hh
  refine h _ _ _ _ _ _ _ _ S (hh.bind fun p x G1 H1 S1 s1 r1 h1 => ?_)
  obtain ⟨e, d⟩ := p
  cases r1 with
  | int i =>
    obtain ⟨c, h1⟩ := Post.gd h1
    exact .inr ⟨i, rfl, Nat.le_of_ble_eq_true c, post_here S1 h1 (.str _)⟩
  | str y =>
    obtain ⟨c, h1⟩ := Post.gd h1
    exact .inl ⟨y, rfl, Nat.le_trans (Nat.le_of_ble_eq_true c) small_le, post_here S1 h1 (.str _)⟩
  | _ => exact h1.elim
theorem d_fmt {e : Expr} {te : TE} {f : M} {pos : Pos} (h : ED X C E e te f) : ED X C E (.FormattedValue e (-1) none pos) (tFmt te) (mFmt f) := ⟨pe_fmt h.pe, snd_fmt h.sd⟩
def joinL : List M → Str → LEnv → RE PyData
  | [], acc, env => .ok (env, .str acc)
  | f :: fs, acc, env => (f env).bind fun p => match p.2 with
    | .str y => gd (Nat.ble (acc ++ y).length small) (joinL fs (acc ++ y) p.1)
    | _ => .stuck
def mJoin (fs : List M) : M := fun env => joinL fs Str.empty env
inductive JD (X : Cx) (C : Cl) (E : XK) : List Expr → List TE → List M → Prop
  | nil : JD X C E [] [] []
  | cons {e : Expr} {t : TE} {f : M} {es : List Expr} {ts : List TE} {fs : List M} (h : ED X C E e t f) (r : JD X C E es ts fs) : JD X C E (e :: es) (t :: ts) (f :: fs)
theorem JD.pj {es : List Expr} {ts : List TE} {fs : List M} (h : JD X C E es ts fs) : PJ X es ts := by
  induction h with
  | nil => exact .nil
  | cons h _ ih => exact .cons h.pe ih
theorem JD.sd {es : List Expr} {ts : List TE} {fs : List M} (h : JD X C E es ts fs) : ∀ (acc : Str) mu G0 H0 env σ G H (Q : Str → Hp → Prop), StR X.K C mu G0 H0 env σ G H → Post (fun G v d => Rp X.K G v d) X.K C E mu G0 H0 σ G (joinL fs acc env) (fun v H => ∃ z, v = .str z ∧ Q z H) → tJs ts acc σ H Q := by
  induction h with
  | nil =>
    intro acc mu G0 H0 env σ G H Q S h
    obtain ⟨z, e, q⟩ := h (.str acc) G H S (.refl _) (.str _)
    cases e
    exact q
  | @cons e t f es ts fs he _ ih =>
    intro acc mu G0 H0 env σ G H Q S h
    refine he.sd _ _ _ _ _ _ _ _ S (Post.bind (Rl1 := RlE X.K) h fun p x G1 H1 S1 s1 r1 h1 => ?_)
    obtain ⟨e1, d⟩ := p
    cases r1 with
    | str y =>
      obtain ⟨c, h1⟩ := Post.gd h1
      exact ⟨y, rfl, Nat.le_trans (Nat.le_of_ble_eq_true c) small_le, ih _ _ _ _ _ _ _ _ _ S1 h1⟩
    | _ => exact h1.elim
theorem d_joined {v1 v2 : Expr} {rest : List Expr} {ts : List TE} {fs : List M} {pos : Pos} (h : JD X C E (v1 :: v2 :: rest) ts fs) : ED X C E (.JoinedStr (v1 :: v2 :: rest) pos) (fun σ H Q => tJs ts Str.empty σ H fun out H1 => Q (.str out) H1) (mJoin fs) :=
  ⟨pe_joined h.pj, fun mu G0 H0 env σ G H Q S q => h.sd _ _ _ _ _ _ _ _ _ S (by
    have q : Post (RlE X.K) X.K C E mu G0 H0 σ G (joinL fs Str.empty env) Q := q
    cases e : joinL fs Str.empty env with
    | rai c => rw [e] at q; exact q
    | stuck => rw [e] at q; exact q
    | ok p =>
      rw [e] at q
      intro v G' H' S' s' r
      have q1 := q v G' H' S' s' r
      -- the answer is a text
      have txt : ∀ (fs : List M) (acc : Str) (env : LEnv) p, joinL fs acc env = .ok p → ∃ z, p.2 = PyData.str z := by
        intro fs
        induction fs with
        | nil => intro acc env p h; cases h; exact ⟨_, rfl⟩
        | cons f fs ih =>
          intro acc env p h
          have h : ((f env).bind fun p => match p.2 with
            | .str y => gd (Nat.ble (acc ++ y).length small) (joinL fs (acc ++ y) p.1)
            | _ => .stuck) = R.ok p := h
          cases ef : f env with
          | rai c => rw [ef] at h; cases h
          | stuck => rw [ef] at h; cases h
          | ok u =>
            rw [ef] at h
            obtain ⟨u1, u2⟩ := u
            cases u2 with
            | str y =>
              have h : gd (Nat.ble (acc ++ y).length small) (joinL fs (acc ++ y) u1) = R.ok p := h
              cases c : Nat.ble (acc ++ y).length small with
              | true => rw [c] at h; exact ih _ _ _ h
              | false => rw [c] at h; cases h
            | _ => cases h
      obtain ⟨z, ez⟩ := txt fs _ _ p e
      have r : Rp X.K G' v p.2 := r
      rw [ez] at r
      cases r
      exact ⟨z, rfl, q1⟩)⟩
abbrev j_nil : JD X C E [] [] [] := .nil
end
theorem j_cons {X : Cx} {C : Cl} {E : XK} {e : Expr} {t : TE} {f : M} {es : List Expr} {ts : List TE} {fs : List M} (h : ED X C E e t f) (r : JD X C E es ts fs) : JD X C E (e :: es) (t :: ts) (f :: fs) := .cons h r
end LW

namespace LW
open PySem PySem.Spec PyProof.Rows L2
section
variable {K : PySem.W.Frag} {mu : Mu} {G0 H0 G H G' H' : Hp} {env env' : LEnv} {σ σ' : L2.St} {C : Cl} {E : XK} {α β γ δ : Type} {X : Cx}
/-! ### lists of the def's own, by slots -/
/-- the list of slot i has changed, more objects have come -/
theorem StR.own_to (S : StR K C mu G0 H0 env σ G H) {i : Nat} {m : Bool} {cs cs' : List PyData} {p : Addr} {o' : HO} (hi : env[i]? = some (some (.ow m cs))) (hs : σ[i]? = some (some (.ref p)))
    (hg : Same G G') (hG : Same G' H') (hk : Fz C.T (fun a => a = p) H H') (hn : ∀ a o, G' a = some o → G a = some o ∨ (Nw H a ∧ nt o)) (hp : H' p = some o') (hr : OwR K G' p o' cs') : StR K C mu G0 H0 (env.set i (some (.ow m cs'))) σ G' H' := by
  obtain ⟨p', vs, h1, h2, h3, h4, h5⟩ := S.ol i m cs hi
  rw [hs] at h1
  cases h1
  have hil : i < env.length := (List.getElem?_eq_some_iff.mp hi).1
  have noG : ∀ b o, nt o → H b = some o → G b = none → G' b = none := fun b o n e g => by
    cases q : G' b with
    | none => rfl
    | some u =>
      rcases hn b u q with z | z
      · rw [g] at z; cases z
      · exact (z.1 _ n e).elim
  exact {
    sub := hG
    ng := fun a o e => by
      rcases hn a o e with z | z
      · exact S.ng a o z
      · exact z.2
    g0 := S.g0.trans hg
    fz := ⟨fun b o mb n e => hk.k b o (fun z => by
      subst z
      cases m with
      | true => exact mb (mu.sub _ h5)
      | false =>
        rcases h5 with h5 | h5
        · exact mb h5
        · exact h5 _ n e) n (S.fz.k b o mb n e), hk.tb⟩
    new := fun a o e => by
      rcases hn a o e with z | z
      · exact S.new a o z
      · exact .inr ⟨.inr (S.none0 z.1), z.2⟩
    mh := fun a ma => by
      by_cases z : a = p
      · subst z; exact ⟨_, hr.nt, hp⟩
      · obtain ⟨o, n, e⟩ := S.mh a ma; exact ⟨o, n, hk.k a _ z n e⟩
    len := by rw [List.length_set]; exact S.len
    sh := fun j d e => by
      rw [get_set] at e
      by_cases z : i = j
      · subst z; rw [if_pos rfl, if_pos hil] at e; cases e
      · rw [if_neg z] at e
        obtain ⟨v, e1, e2⟩ := S.sh j d e
        exact ⟨v, e1, Rp.mono hg _ _ e2⟩
    ol := fun j m' ds e => by
      rw [get_set] at e
      by_cases z : i = j
      · subst z
        rw [if_pos rfl, if_pos hil] at e
        cases e
        exact ⟨p, o', hs, hp, hr, noG p _ h3.nt h2 h4, h5⟩
      · rw [if_neg z] at e
        obtain ⟨q, us, e1, e2, e3, e4, e5⟩ := S.ol j m' ds e
        have nq : q ≠ p := fun y => z (S.ow i j p ⟨_, _, hi⟩ ⟨_, _, e⟩ hs (by rw [e1, y]))
        exact ⟨q, us, e1, hk.k q _ nq e3.nt e2, e3.mono hg, noG q _ e3.nt e2 e4, e5⟩
    ow := fun j k q oj ok a b => by
      have up : ∀ j, Own (env.set i (some (.ow m cs'))) j → Own env j := fun j ⟨m', ds, e⟩ => by
        rw [get_set] at e
        by_cases z : i = j
        · subst z; exact ⟨_, _, hi⟩
        · rw [if_neg z] at e; exact ⟨_, _, e⟩
      exact S.ow j k q (up j oj) (up k ok) a b }
def mIxV (i : Nat) (g : M) : M := fun env => match nth env i with
  | some (some _) => (g env).bind fun q => match nth q.1 i with
    | some (some (.sh d)) => lif q.1 (iIx d q.2)
    | some (some (.ow _ ds)) => (match q.2 with
      | .int k => gd (isL ds) (lif q.1 (ixD k ds))
      | _ => .stuck)
    | _ => .stuck
  | _ => .stuck
theorem StR.some_at (S : StR K C mu G0 H0 env σ G H) {i : Nat} {s : Sl} (h : env[i]? = some (some s)) : ∃ v, σ[i]? = some (some v) := by
  cases s with
  | sh d => obtain ⟨v, e, _⟩ := S.sh i d h; exact ⟨v, e⟩
  | ow m ds => obtain ⟨p, vs, e, _⟩ := S.ol i m ds h; exact ⟨_, e⟩
theorem ixD_rai {i : Int} {ds : List PyData} {c : Nat} : ixD i ds ≠ .rai c := by
  intro e
  unfold ixD at e
  split at e
  · split at e <;> cases e
  · cases hb : Nat.blt _ ds.length <;> rw [hb] at e
    · cases e
    · simp only [cond_true] at e
      split at e <;> cases e
theorem snd_ixV {i : Nat} {tb : TE} {g : M} (hb : Snd K C E tb g) : Snd K C E (tOp (rIx K) (tVar i) tb) (mIxV i g) := by
  intro mu G0 H0 env σ G H Q S h
  unfold mIxV at h
  rw [nth_eq] at h
  cases e0 : env[i]? with
  | none => rw [e0] at h; exact h.elim
  | some o =>
    cases o with
    | none => rw [e0] at h; exact h.elim
    | some s =>
      rw [e0] at h
      obtain ⟨v, hv⟩ := S.some_at e0
      refine ⟨v, hv, hb _ _ _ _ _ _ _ _ S (Post.bind (Rl1 := RlE K) h fun q y G2 H2 S2 s2 r2 h2 => ?_)⟩
      have h2 : Post (RlE K) K C E mu G0 H0 σ G2 (match nth q.1 i with
        | some (some (.sh d)) => lif q.1 (iIx d q.2)
        | some (some (.ow _ ds)) => (match q.2 with
          | .int k => gd (isL ds) (lif q.1 (ixD k ds))
          | _ => .stuck)
        | _ => .stuck) Q := h2
      rw [nth_eq] at h2
      cases e1 : q.1[i]? with
      | none => rw [e1] at h2; exact h2.elim
      | some o =>
        cases o with
        | none => rw [e1] at h2; exact h2.elim
        | some s1 =>
          rw [e1] at h2
          cases s1 with
          | sh d =>
            obtain ⟨v', hv', rv⟩ := S2.sh i d e1
            rw [hv] at hv'
            cases hv'
            exact ops_ix _ _ _ _ _ _ _ _ _ _ _ _ S2 rv r2 h2
          | ow m ds =>
            obtain ⟨e', dq⟩ := q
            cases r2 with
            | int k =>
              have h2 : Post (RlE K) K C E mu G0 H0 σ G2 (gd (isL ds) (lif e' (ixD k ds))) Q := h2
              obtain ⟨cl, h2⟩ := Post.gd h2
              obtain ⟨p, ws, e2, e3, e4, _⟩ := S2.olL e1 cl
              rw [hv] at e2
              cases e2
              cases e : ixD k ds with
              | ok d =>
                rw [e] at h2
                obtain ⟨v, a1, a2⟩ := ixD_at e4 e
                exact .inl ⟨_, _, _, v, rfl, rfl, SqL.of e3, a1, post_here S2 h2 a2⟩
              | rai c => exact (ixD_rai e).elim
              | stuck => rw [e] at h2; exact h2.elim
            | _ => exact h2.elim
theorem d_ixV (i : Nat) {x : Str} {b : Expr} {tb : TE} {g : M} {p pos : Pos} (hb : ED X C E b tb g) (hN : X.N[i]? = some x := by rfl) (hv : Vis X.env.scope x := by first | exact Or.inl rfl | exact Or.inr (Or.inl rfl) | exact Or.inr (Or.inr rfl)) (hd : (x == ("__debug__" : Str)) = false := by decide)
    (hcd : (x == ("__classdict__" : Str)) = false := by decide) (hs : PlainIx b := by exact fun _ _ => rfl) : ED X C E (.Subscript (.Name x p) b pos) (tOp (rIx X.K) (tVar i) tb) (mIxV i g) := ⟨pe_ix ix_seq (pe_var hN hv hd hcd) hb.pe hs, snd_ixV hb.sd⟩
/-- xs[k] = e, xs a list of the def's own in slot i -/
def setAt (i : Nat) (e : LEnv) (k : PyData) (v : PyData) : RS := match nth e i, k with
  | some (some (.ow m ds)), .int (.ofNat k) => (match isL ds && Nat.blt k ds.length with
    | true => .nx (e.set i (some (.ow m (ds.set k v))))
    | false => .stuck)
  | _, _ => .stuck
def mSetV (i : Nat) (fi fe : M) : MS := fun env => bindS (fe env) fun p => bindS (match nth p.1 i with
  | some (some (.ow _ _)) => fi p.1
  | _ => .stuck) fun q => setAt i q.1 q.2 p.2
theorem snds_setV {i : Nat} {te ti : TE} {fe fi : M} (he : Snd K C E te fe) (hi : Snd K C E ti fi) : SndS K C E (tAsg te (gSub (tVar i) ti rSetL)) (mSetV i fi fe) := by
  intro mu G0 H0 env σ G H D S h
  refine he _ _ _ _ _ _ _ _ S (PostS.bind (Rl := RlE K) h fun p x G1 H1 S1 s1 r1 h1 => ?_)
  cases e1 : p.1[i]? with
  | none =>
    have h1 : PostS K C E mu G0 H0 G1 (bindS (match nth p.1 i with | some (some (.ow _ _)) => fi p.1 | _ => .stuck) _) D := h1
    rw [nth_eq, e1] at h1; exact h1.elim
  | some o =>
    cases o with
    | none =>
      have h1 : PostS K C E mu G0 H0 G1 (bindS (match nth p.1 i with | some (some (.ow _ _)) => fi p.1 | _ => .stuck) _) D := h1
      rw [nth_eq, e1] at h1; exact h1.elim
    | some s =>
      cases s with
      | sh d =>
        have h1 : PostS K C E mu G0 H0 G1 (bindS (match nth p.1 i with | some (some (.ow _ _)) => fi p.1 | _ => .stuck) _) D := h1
        rw [nth_eq, e1] at h1; exact h1.elim
      | ow m ds =>
        obtain ⟨a, ws, f1, f2, f3, f4, f5⟩ := S1.ol i m ds e1
        have h1 : PostS K C E mu G0 H0 G1 (bindS (fi p.1) fun q => setAt i q.1 q.2 p.2) D := by
          have h1 : PostS K C E mu G0 H0 G1 (bindS (match nth p.1 i with | some (some (.ow _ _)) => fi p.1 | _ => .stuck) _) D := h1
          rw [nth_eq, e1] at h1
          exact h1
        refine ⟨.ref a, f1, hi _ _ _ _ _ _ _ _ S1 (PostS.bind (Rl := RlE K) h1 fun q y G2 H2 S2 s2 r2 h2 => ?_)⟩
        obtain ⟨eq, dq⟩ := q
        have h2 : PostS K C E mu G0 H0 G2 (setAt i eq dq p.2) D := h2
        unfold setAt at h2
        rw [nth_eq] at h2
        cases g1 : eq[i]? with
        | none => rw [g1] at h2; exact h2.elim
        | some o =>
          cases o with
          | none => rw [g1] at h2; exact h2.elim
          | some s =>
            cases s with
            | sh d => rw [g1] at h2; exact h2.elim
            | ow m2 ds2 =>
              rw [g1] at h2
              cases r2 with
              | int kk =>
                cases kk with
                | negSucc _ => exact h2.elim
                | ofNat k =>
                  have h2 : PostS K C E mu G0 H0 G2 (match isL ds2 && Nat.blt k ds2.length with
                    | true => .nx (eq.set i (some (.ow m2 (ds2.set k p.2))))
                    | false => .stuck) D := h2
                  cases c : (isL ds2 && Nat.blt k ds2.length) with
                  | false => rw [c] at h2; exact h2.elim
                  | true =>
                    rw [c] at h2
                    obtain ⟨cl, c⟩ := Bool.and_eq_true_iff.mp c
                    obtain ⟨a2, ws2, k1, k2, k3, k4, k5⟩ := S2.olL g1 cl
                    rw [f1] at k1
                    cases k1
                    have hk : k < ws2.length := by
                      have := Nat.le_of_ble_eq_true c
                      rw [k3.length]
                      omega
                    refine ⟨a, ws2, (k : Int), k, rfl, rfl, k2, ?_, ?_⟩
                    · unfold ixN
                      rw [if_pos (Int.natCast_nonneg k), if_pos (by omega)]
                      rfl
                    · refine h2 σ G2 _ (StR.own_to (o' := .lst (ws2.set k x)) S2 g1 f1 (.refl _) (fun b u e => ?_) ⟨fun b o nb _ e => by rw [upd_ne nb]; exact e, tabs_but S2.fz.tb fun b o e n => ?_⟩ (fun _ _ e => .inl e) upd_same (.lst (k3.set k (Rp.mono s2 _ _ r1)))) (.refl _)
                      · rw [upd_ne (fun z => by rw [z, k4] at e; cases e)]; exact S2.sub _ _ e
                      · rw [upd_ne (fun z => by subst z; rw [k2] at e; cases e; exact n _ rfl)]; exact e
              | _ => exact h2.elim
theorem s_setV (i : Nat) {x : Str} {e b : Expr} {te tb : TE} {fe fb : M} {p p2 pos : Pos} (he : ED X C E e te fe) (hb : ED X C E b tb fb) (hN : X.N[i]? = some x := by rfl) (hv : Vis X.env.scope x := by first | exact Or.inl rfl | exact Or.inr (Or.inl rfl) | exact Or.inr (Or.inr rfl)) (hd : (x == ("__debug__" : Str)) = false := by decide)
    (hcd : (x == ("__classdict__" : Str)) = false := by decide)
    (ha : ∀ v, assign (.Subscript (.Name x p) b p2) X.env v = (do
      let ov ← holding [v] (eval (.Name x p) X.env)
      let iv ← holding [v, ov] (eval b X.env)
      standAt p2
      holding [v, ov, iv] (setItem ov iv v)
      release [v, ov, iv] []) := by intro _; rfl) (hs : swapsWithSole [.Subscript (.Name x p) b p2] e pos.line X.env = pure false := by rfl) (hw : swappedStores [.Subscript (.Name x p) b p2] e X.env = pure none := by rfl)
    (h1 : (assignEach [.Subscript (.Name x p) b p2] X.env).map (·.2) = [assign (.Subscript (.Name x p) b p2) X.env] := by rfl) :
    SD X C E (.Assign [.Subscript (.Name x p) b p2] e pos) (tAsg te (gSub (tVar i) tb rSetL)) (mSetV i fb fe) := ⟨ps_asg he.pe (pg_sub (pe_var hN hv hd hcd) hb.pe set_list ha) hs hw h1, snds_setV he.sd hb.sd⟩
/-! ### defs that change the list handed in first -/
abbrev RunM := List PyData → List PyData → R (List PyData × PyData)
def PostM (K : PySem.W.Frag) (C : Cl) (E : XK) (p : Addr) (G H : Hp) : R (List PyData × PyData) → VK → Prop
  | .ok z, Q => ∀ v G' H' ws', Same G G' → Same G' H' → Fz C.T (fun a => a = p) H H' → (∀ a o, G' a = some o → G a = some o ∨ (Nw H a ∧ nt o)) → H' p = some (.lst ws') → RpA K G' ws' z.1 → Rp K G' v z.2 → Q v H'
  | .rai c, _ => ∀ H', Fz C.T (fun a => a = p) H H' → E (C.cl c) none H'
  | .stuck, _ => False
def spM (K : PySem.W.Frag) (C : Cl) (n : Nat) (run : RunM) : Sp := fun vs H Q E => vs.length = n + 1 ∧ LamX.Tabs C.T H ∧ ∃ G p ws cs vs' ds, vs = .ref p :: vs' ∧ Same G H ∧ (∀ a o, G a = some o → nt o) ∧ G p = none ∧ H p = some (.lst ws) ∧ RpA K G ws cs ∧ RpA K G vs' ds ∧ PostM K C E p G H (run cs ds) Q
def startM (n : Nat) (cs ds : List PyData) : LEnv := some (.ow true cs) :: startE (n - 1) ds
def outT (e : LEnv) (d : PyData) : R (List PyData × PyData) := match e with
  | some (.ow true cs) :: _ => gd (isL cs) (.ok (cs, d))
  | _ => .stuck
def outM : RS → R (List PyData × PyData)
  | .rt e d => outT e d
  | .nx e => outT e .none
  | .rai c => .rai c
  | _ => .stuck
def runM (n : Nat) (ms : MS) : RunM := fun cs ds => outM (ms (startM n cs ds))
def muP (p : Addr) : Mu := ⟨fun a => a = p, fun a => a = p, fun _ h => h⟩
theorem StR.newP {p : Addr} (S : StR K C (muP p) G0 H0 env σ G H) (gp : G p = none) : ∀ a o, G a = some o → G0 a = some o ∨ (Nw H0 a ∧ nt o) := fun a o e => by
  rcases S.new a o e with z | ⟨z | z, n⟩
  · exact .inl z
  · have z : a = p := z
    subst z
    rw [gp] at e; cases e
  · exact .inr ⟨z, n⟩
theorem StR.beginM {N : List Str} {x : Str} {p : Addr} {ws vs : List V} {cs ds : List PyData} (s : Same G H) (gn : ∀ a o, G a = some o → nt o) (tb : LamX.Tabs C.T H) (gp : G p = none) (hp : H p = some (.lst ws)) (r : RpA K G vs ds) (rc : RpA K G ws cs) (hn : vs.length ≤ N.length) : StR K C (muP p) G H (startM (x :: N).length cs ds) (L2.start (x :: N) (.ref p :: vs)) G H := by
  have es : L2.start (x :: N) (.ref p :: vs) = some (.ref p) :: L2.start N vs := by
    unfold L2.start
    simp
  rw [es]
  have B := StR.begin (K := K) (C := C) (N := N) s gn tb r hn
  exact {
    sub := s
    ng := gn
    g0 := .refl _
    fz := .refl tb
    new := fun _ _ e => .inl e
    mh := fun a m => by
      have m : a = p := m
      subst m; exact ⟨_, nt_lst, hp⟩
    len := by
      show (startE N.length ds).length + 1 = (L2.start N vs).length + 1
      rw [B.len]
    sh := fun i d e => by
      cases i with
      | zero => cases e
      | succ i => exact B.sh i d e
    ol := fun i m ds' e => by
      cases i with
      | zero => cases e; exact ⟨p, _, rfl, hp, .lst rc, gp, rfl⟩
      | succ i =>
        obtain ⟨q, us, e1, e2, e3, e4, e5⟩ := B.ol i m ds' e
        exfalso
        have e : (startE N.length ds)[i]? = some (some (.ow m ds')) := e
        rw [startE_get] at e
        split at e
        · cases q : ds[i]? with
          | none => rw [q] at e; cases e
          | some d' => rw [q] at e; cases e
        · split at e <;> cases e
    ow := fun i j q oi oj _ _ => by
      have z : ∀ i, Own (startM (x :: N).length cs ds) i → i = 0 := fun i ⟨m, dd, e⟩ => by
        cases i with
        | zero => rfl
        | succ i =>
          exfalso
          have e : (startE N.length ds)[i]? = some (some (.ow m dd)) := e
          rw [startE_get] at e
          split at e
          · cases q : ds[i]? with
            | none => rw [q] at e; cases e
            | some d' => rw [q] at e; cases e
          · split at e <;> cases e
      rw [z i oi, z j oj] }
theorem fn_okM {P : Program} {w : World} {mg : Str → Option Value} {base : Heap} {x qual y : Str} {params : Arguments} {body : List Stmt} {scope : Scope} {dvs : List V} {f : Addr} {fd : FuncData} {N ps : List Str} {k n : Nat} {ms : MS} (F : FunD K x qual params body scope dvs [] f fd) (S : FnScope (y :: N) ps scope) (hn : n ≤ N.length) (hps : ps.length = n + 1)
    (hb : ∀ (cdv : Value) (A : Around) (outer : List PySem.Env) (s : Shared) (H : Hp) (E : XK), Room k (A.deeper (envOfC qual scope s.heap.objs.size f cdv)) →
      ∃ t, BD (cxOf (L2.CX P w) P w K mg base (y :: N) qual scope f cdv A outer s H E) C E body t ms) : FnOk P w K mg base (L2.CX P w) (k + 1) f fd ps (spM K C n (runM (y :: N).length ms)) := by
  refine F.ok S (fun vs H Q E h => by rw [h.1, hps]) fun cdv A outer s H vs Q E hr h => ?_
  obtain ⟨hl, tb, G, p, ws, cs, vs', ds, rfl, sG, gn, gp, hp, rc, rd, q⟩ := h
  obtain ⟨t, ht⟩ := hb cdv A outer s H E hr
  have hl' : vs'.length = n := by simpa using hl
  refine ⟨t, ht.pe, ht.sd _ _ _ _ _ _ _ _ (StR.beginM (N := N) (x := y) sG gn tb gp hp rd rc (by omega)) ?_⟩
  have q : PostM K C E p G H (outM (ms (startM (y :: N).length cs ds))) Q := q
  have fin : ∀ {e : LEnv} {σ' : L2.St} {G' H' : Hp} {cs' : List PyData} {r : LEnv} {v : V} {d : PyData}, e = some (.ow true cs') :: r → StR K C (muP p) G H e σ' G' H' → PostM K C E p G H (gd (isL cs') (.ok (cs', d))) Q → Rp K G' v d → Q v H' := fun {e σ' G' H' cs' r v d} he S' q r => by
    subst he
    have cl : isL cs' = true := by
      cases c : isL cs' with
      | true => rfl
      | false => rw [c] at q; exact q.elim
    rw [cl] at q
    obtain ⟨p', us, e1, e2, e3, e4, e5⟩ := S'.olL (i := 0) (m := true) (ds := cs') rfl cl
    have e5 : p' = p := e5
    subst e5
    exact q v G' H' us S'.g0 S'.sub S'.fz (S'.newP e4) e2 e3 r
  cases e : ms (startM (y :: N).length cs ds) with
  | nx e' =>
    rw [e] at q
    intro σ' G' H' S' _
    have q : PostM K C E p G H (outT e' .none) Q := q
    unfold outT at q
    split at q
    · exact fin rfl S' q .non
    · exact q.elim
  | rt e' d =>
    rw [e] at q
    intro v σ' G' H' S' _ r'
    have q : PostM K C E p G H (outT e' d) Q := q
    unfold outT at q
    split at q
    · exact fin rfl S' q r'
    · exact q.elim
  | rai c => rw [e] at q; exact fun H' fz => q H' fz
  | bk e' => rw [e] at q; exact q.elim
  | ct e' => rw [e] at q; exact q.elim
  | stuck => rw [e] at q; exact q
structure FnM (P : Program) (w : World) (K : PySem.W.Frag) (mg : Str → Option Value) (base : Heap) (C : Cl) (k : Nat) (x : Str) (n : Nat) (run : RunM) : Prop where
  ex : ∃ (f : Addr) (fd : FuncData) (ps : List Str), FnOk P w K mg base (L2.CX P w) k f fd ps (spM K C n run) ∧ mg x = some (.ref f) ∧ PySem.W.keepIn K (.ref f) = true ∧ Binds K fd ps []
theorem spM.imp {n : Nat} {run run' : RunM} (h : ∀ cs ds, run' cs ds ≠ .stuck → run cs ds = run' cs ds) {vs : List V} {H : Hp} {Q : VK} {E : XK} (q : spM K C n run' vs H Q E) : spM K C n run vs H Q E := by
  obtain ⟨hl, tb, G, p, ws, cs, vs', ds, e, s, gn, gp, hp, rc, rd, q⟩ := q
  refine ⟨hl, tb, G, p, ws, cs, vs', ds, e, s, gn, gp, hp, rc, rd, ?_⟩
  rw [h cs ds fun z => by rw [z] at q; exact q]
  exact q
theorem FnM.imp {P : Program} {w : World} {mg : Str → Option Value} {base : Heap} {k n : Nat} {x : Str} {run run' : RunM} (F : FnM P w K mg base C k x n run) (h : ∀ cs ds, run' cs ds ≠ .stuck → run cs ds = run' cs ds) : FnM P w K mg base C k x n run' := by
  obtain ⟨f, fd, ps, G, a, b, c⟩ := F.ex
  exact ⟨f, fd, ps, G.imp fun vs H Q E q => spM.imp h q, a, b, c⟩
def mCallM (n : Nat) (run : RunM) (i : Nat) (g : MA) : M := fun env => match nth env i with
  | some (some (.ow _ _)) => (g env).bind fun q => match nth q.1 i with
    | some (some (.ow m cs)) => gd (isL cs && Nat.beq q.2.length n) ((run cs q.2).bind fun z => .ok (q.1.set i (some (.ow m z.1)), z.2))
    | _ => .stuck
  | _ => .stuck
theorem snd_callM {n i : Nat} {run : RunM} {ta : TA} {g : MA} (h : SndA K C E ta g) : Snd K C E (tCallS (spM K C n run) (fun _ => E) (tCons (tVar i) ta)) (mCallM n run i g) := by
  intro mu G0 H0 env σ G H Q S hh
  unfold mCallM at hh
  rw [nth_eq] at hh
  cases e0 : env[i]? with
  | none => rw [e0] at hh; exact hh.elim
  | some o =>
    cases o with
    | none => rw [e0] at hh; exact hh.elim
    | some s =>
      cases s with
      | sh d => rw [e0] at hh; exact hh.elim
      | ow m0 cs0 =>
        rw [e0] at hh
        obtain ⟨p, ws0, f1, _⟩ := S.ol i m0 cs0 e0
        refine ⟨.ref p, f1, h _ _ _ _ _ _ _ _ S (Post.bind (Rl1 := RlA K) hh fun q xs G1 H1 S1 s1 r1 h1 => ?_)⟩
        obtain ⟨e, ds⟩ := q
        have h1 : Post (RlE K) K C E mu G0 H0 σ G1 (match nth e i with
          | some (some (.ow m cs)) => gd (isL cs && Nat.beq ds.length n) ((run cs ds).bind fun z => .ok (e.set i (some (.ow m z.1)), z.2))
          | _ => .stuck) Q := h1
        rw [nth_eq] at h1
        cases e1 : e[i]? with
        | none => rw [e1] at h1; exact h1.elim
        | some o =>
          cases o with
          | none => rw [e1] at h1; exact h1.elim
          | some s =>
            cases s with
            | sh d => rw [e1] at h1; exact h1.elim
            | ow m cs =>
              rw [e1] at h1
              obtain ⟨c, h1⟩ := Post.gd h1
              obtain ⟨cl, c⟩ := Bool.and_eq_true_iff.mp c
              obtain ⟨p', ws, k1, k2, k3, k4, k5⟩ := S1.olL e1 cl
              rw [f1] at k1
              cases k1
              have r1 : RpA K G1 xs ds := r1
              refine ⟨by rw [List.length_cons, r1.length, Nat.eq_of_beq_eq_true c], S1.fz.tb, G1, p, ws, cs, xs, ds, rfl, S1.sub, S1.ng, k4, k2, k3, r1, ?_⟩
              cases er : run cs ds with
              | ok z =>
                rw [er] at h1
                exact fun v G' H' ws' a1 a2 a3 a4 a5 a6 a7 => h1 v G' H' (S1.own_to e1 f1 a1 a2 a3 a4 a5 (.lst a6)) a1 a7
              | rai c' =>
                rw [er] at h1
                exact fun H' a => h1 H' ⟨fun b o mb n e => a.k b o (fun z => by
                  subst z
                  cases m with
                  | true => exact mb (mu.sub _ k5)
                  | false =>
                    rcases k5 with k5 | k5
                    · exact mb k5
                    · exact k5 _ n e) n (S1.fz.k b o mb n e), a.tb⟩
              | stuck => rw [er] at h1; exact h1.elim
theorem d_callM {x y : Str} {k n : Nat} {run : RunM} {es : List Expr} {taa : TA} {ma : MA} {p q pos : Pos} (i : Nat) (F : FnM X.prog X.w X.K X.mg X.base C k x n run) (hr : Room k X.A) (tk : Takes X (WW E)) (hg : Gl X x) (ha : AD X C E es taa ma)
    (hN : X.N[i]? = some y := by rfl) (hv : Vis X.env.scope y := by first | exact Or.inl rfl | exact Or.inr (Or.inl rfl) | exact Or.inr (Or.inr rfl)) (hd : (y == ("__debug__" : Str)) = false := by decide) (hcd : (y == ("__classdict__" : Str)) = false := by decide)
    (hdb : (x == ("__debug__" : Str)) = false := by decide) (hs : starEach (.Name y q :: es) X.env = (false, eval (.Name y q) X.env) :: starEach es X.env := by rfl) (hpl : (backTo pos (starEach es X.env)).any (·.1) = false := by rfl) :
    ED X C E (.Call (.Name x p) (.Name y q :: es) [] pos) (tCallS (spM X.K C n run) (fun _ => E) (tCons (tVar i) taa)) (mCallM n run i ma) := by
  obtain ⟨f, fd, ps, G, hm, hk, hb⟩ := F.ex
  exact ⟨pe_callS G hr hg hm hk hb (fun σ => passAt tk σ) (pa_cons (pe_var hN hv hd hcd) ha.pe hs) hdb hs hpl, snd_callM ha.sd⟩
/-! ### powers -/
def powOk (i j : Int) : Bool := match j with
  | .ofNat n => Nat.ble n 1000 && lowI i
  | _ => false
def iPow : PyData → PyData → R PyData
  | .int a, .int b => gd (powOk a b) (.ok (.int (a ^ b.toNat)))
  | _, _ => .stuck
abbrev rPowI : R2 := rI CPow fun i j => .int (i ^ j.toNat)
theorem ops_powI : OpS K C E rPowI iPow := by
  intro mu G0 H0 env σ G H x y dx dy Q S rx ry h
  cases rx <;> cases ry <;> first | exact h.elim | skip
  rename_i a b
  obtain ⟨c, h⟩ := Post.gdL h
  refine ⟨_, _, rfl, rfl, ?_, post_here S h (.int _)⟩
  cases b with
  | negSucc n => cases c
  | ofNat n =>
    have c : (Nat.ble n 1000 && lowI a) = true := c
    rw [Bool.and_eq_true] at c
    have h1 := Nat.le_of_ble_eq_true c.1
    have h2 := lowI_is c.2
    exact ⟨Int.natCast_nonneg n, by show (n : Int) ≤ 1000000; omega, by omega⟩
theorem d_pow {a b : Expr} {ta tb : TE} {f g : M} {pos : Pos} (ha : ED X C E a ta f) (hb : ED X C E b tb g) : ED X C E (.BinOp a .Pow b pos) (tOp rPowI ta tb) (mOp iPow f g) := d_op op_pow ops_powI ha hb
end
end LW

namespace LW
open PySem PySem.Spec PyProof.Rows L2 LamX
/-! ### lambdas that take nothing and capture nothing, kept and called later -/
def LamO (f c' : Addr) (q : Str) (params : Arguments) (body : Expr) (scope : Scope) : HO := .ext fun h => ∃ pm ctv, h.get? f = some (PySem.W.kla_obj "<lambda>" q params body scope [] pm c' ctv)
theorem lamO_ne {f c' : Addr} {q : Str} {params : Arguments} {body : Expr} {scope : Scope} (ps : Array Value) : LamO f c' q params body scope ≠ .tbl ps := fun z => by
  unfold LamO at z; cases z
theorem cloFrom_nil {cells : List (Str × Addr)} : ∀ {l : List (Str × NameKind)}, (∀ y ∈ l, y.2 ≠ .free) → cloFrom cells l [] = []
  | [], _ => rfl
  | (n, k) :: r, h => by
    have hk : (k == NameKind.free) = false := by
      have := h (n, k) List.mem_cons_self
      cases k <;> first | rfl | exact absurd rfl this
    unfold cloFrom
    rw [hk]
    exact cloFrom_nil fun y hy => h y (List.mem_cons_of_mem _ hy)
def tLamV (T : List (Addr × Str)) (q : Str) (params : Arguments) (body : Expr) (scope : Scope) : TE := fun σ H Q => Tabs T H ∧ ∀ f c' H1, ExtN H H1 → Tabs T H1 → H1 f = some (LamO f c' q params body scope) → H1 c' = some (CodeO c' q) → Q (.ref f) H1
section
variable {X : Cx}
theorem pe_lamV {T : List (Addr × Str)} {c P : Addr} {params : Arguments} {body : Expr} {scope : Scope} {pos : Pos} (TB : TabB X.base X.mg c P) (hcode : X.env.code = .ref c) (hm : (P, X.env.qual ++ "<lambda>") ∈ T) (hu : ∀ p ∈ T, p.1 = P → p.2 = X.env.qual ++ "<lambda>")
    (hdef : defaultsOf params X.env = ([], [])) (hfree : ∀ y ∈ scope.names, y.2 ≠ .free) : PE X (.Lambda params body scope pos) (tLamV T (X.env.qual ++ "<lambda>") params body scope) := by
  refine ⟨fun pins s σ H Q I hh => ?_⟩
  obtain ⟨hT, h⟩ := hh
  obtain ⟨ps, hP, ht, ha⟩ := hT _ hm
  have hP : H P = some (.tbl ps) := hP
  refine PySem.W.kla_eval hdef ?_
  have bP : s.heap.BuiltinsAt X.mg P := TB.bm.keeps I.bk
  have hP' := I.hok P _ hP
  have cl := closure_ok (scope := scope) (env := X.env) fun y hy e => absurd e (hfree y hy)
  rw [cloFrom_nil hfree] at cl
  -- the function's object, laid behind all that stands
  have fin : ∀ (h' : Heap) (tk : Tok) (c' : Addr) (ctv : Value) (H1 : Hp), Inv X pins σ H1 { s with heap := h', toks := tk } → ExtN H H1 → Tabs T H1 → H1 c' = some (CodeO c' (X.env.qual ++ "<lambda>")) →
      EP X pins σ Q (.ref h'.objs.size) { s with heap := h'.push (PySem.W.kla_obj "<lambda>" (X.env.qual ++ "<lambda>") params body scope [] ((X.mg "__name__").getD .none) c' ctv), toks := tk } := by
    intro h' tk c' ctv H1 I1 e1 t1 hc
    have nf : H1 h'.objs.size = none := I1.hok.fresh (Nat.le_refl _)
    have I2 := I1.laid (t' := tk) (h' := h'.push (PySem.W.kla_obj "<lambda>" (X.env.qual ++ "<lambda>") params body scope [] ((X.mg "__name__").getD .none) c' ctv)) (a := h'.objs.size) (o := LamO h'.objs.size c' (X.env.qual ++ "<lambda>") params body scope)
      (fun b u e => Heap.get?_push_of_some _ e) (Nat.le_refl _) ⟨⟨_, ctv, Heap.get?_push_size _ rfl⟩, ⟨_, Heap.get?_push_size _ rfl⟩, fun h1 h2 ⟨pm, ct, e⟩ k => ⟨pm, ct, k _ e⟩⟩
    have up : ∀ b o, H1 b = some o → upd H1 h'.objs.size (LamO h'.objs.size c' (X.env.qual ++ "<lambda>") params body scope) b = some o := fun b o e => by rw [upd_ne (ne_of_none e nf)]; exact e
    exact ⟨.ref _, _, I2, rfl, h _ c' _ (e1.trans (.of up)) (t1.ext up) upd_same (up _ _ hc)⟩
  cases hc : codeAmong pos ps.toList with
  | none =>
    refine PySem.W.kla_makeFunction (mg := X.mg) (c := c) (P := P) (ps := ps) cl I.ok.glob (I.mod.glob.keeps I.bk) hcode (TB.code.keeps I.bk) hP' ht hc TB.gP bP fun c' ctv h' tk hx hge _ hrec htb => ?_
    obtain ⟨c2, oc, vs, t, e2, hoc, hd, hv⟩ := hrec
    cases e2
    have nC : H c' = none := I.hok.fresh hge
    have I1 := inv_table (t' := tk) (more := #[rawInt pos.line, rawInt pos.col, .ref c']) I hP (fun b o hb e => hx b o hb e) htb hge ⟨oc, vs, t, hoc, hd, hv⟩
    have hE : ExtN H (upd (upd H P (.tbl (ps ++ #[rawInt pos.line, rawInt pos.col, .ref c']))) c' (CodeO c' (X.env.qual ++ "<lambda>"))) := fun b o e n => by
      rw [upd_ne (ne_of_none e nC)]
      have nb : b ≠ P := fun z => n ps (by rw [z] at e; exact Option.some.inj (e.symm.trans hP))
      rw [upd_ne nb]
      exact e
    have eL : (ps ++ #[rawInt pos.line, rawInt pos.col, .ref c']).toList = ps.toList ++ [rawInt pos.line, rawInt pos.col, .ref c'] := Array.toList_append ..
    refine fin h' tk c' ctv _ I1 hE (fun p hp => ?_) upd_same
    by_cases hb : p.1 = P
    · rw [hu p hp hb, hb]
      refine ⟨_, (upd_ne (ne_of_none hP nC)).trans upd_same, eL ▸ PySem.TriplesOk_snoc _ _ _ _ ht, fun p' cv hcv => ?_⟩
      rw [eL] at hcv
      rcases among_app _ ht hcv with z | z
      · obtain ⟨c0, q1, q2⟩ := ha p' cv z
        exact ⟨c0, q1, hE _ _ q2 codeO_ne⟩
      · exact ⟨c', z, upd_same⟩
    · obtain ⟨ps', a1, a2, a3⟩ := hT p hp
      refine ⟨ps', (upd_ne (ne_of_none a1 nC)).trans ((upd_ne hb).trans a1), a2, fun p' cv hcv => ?_⟩
      obtain ⟨c0, q1, q2⟩ := a3 p' cv hcv
      exact ⟨c0, q1, hE _ _ q2 codeO_ne⟩
  | some cv =>
    obtain ⟨c', e, hco⟩ := ha pos cv hc
    subst e
    exact PySem.W.kla_makeFunctionHit (mg := X.mg) (c := c) (P := P) (ps := ps) cl I.ok.glob (I.mod.glob.keeps I.bk) hcode (TB.code.keeps I.bk) hP' ht hc bP fun ctv h' tk hx _ =>
      fin h' tk c' ctv H (I.kept hx) (.refl H) hT hco
/-- x() of such a lambda in slot i -/
theorem pe_act0 {params : Arguments} {body : Expr} {scope : Scope} {q : Str} {k i : Nat} {a : Str} {E : XK} {t : XK → TE} {p1 p2 : Pos} (S : FnScope [] [] scope)
    (hbind : ∀ pm cv ctv, bindArgs (PySem.W.kla_fn "<lambda>" q params body scope [] pm cv ctv) ⟨[], []⟩ = pure []) (hx : Passes (L2.CX X.prog X.w) X E) (hr : Room (k + 1) X.A)
    (hbody : ∀ (A : Around) (outer : List PySem.Env) (s : Shared) (H : Hp) (E : XK) (f c' : Addr), Room k (A.deeper (envOfC q scope s.heap.objs.size f (.ref c'))) → PE (cxOf (L2.CX X.prog X.w) X.prog X.w X.K X.mg X.base [] q scope f (.ref c') A outer s H E) body (t E))
    (hN : X.N[i]? = some a) (hv : Vis X.env.scope a) (hd : (a == ("__debug__" : Str)) = false := by decide) (hcd : (a == ("__classdict__" : Str)) = false := by decide) :
    PE X (.Call (.Name a p1) [] [] p2) (fun σ H Q => ∃ f c', σ[i]? = some (some (.ref f)) ∧ H f = some (LamO f c' q params body scope) ∧ H c' = some (CodeO c' q) ∧ t E [] H Q) := by
  refine ⟨fun pins s σ H Q I hh => ?_⟩
  obtain ⟨f, c', hs, hf, hc, ht⟩ := hh
  refine wpAny_Call_Name_kw (thn ((pe_var (pos := p1) hN hv hd hcd).run pins s σ H (fun v H1 => v = .ref f ∧ H1 = H) I ⟨_, hs, rfl, rfl⟩) fun u s1 ⟨v, H1, I1, r1, q1⟩ => ?_)
  obtain ⟨ev, eH⟩ := q1
  subst ev
  rw [eH] at I1
  obtain rfl : u = Value.ref f := r1
  obtain ⟨⟨pm, ctv, of1⟩, _, _⟩ := I1.hok f _ hf
  obtain ⟨⟨oc, vs, tk, hoc, hdc, hvc⟩, _, _⟩ := I1.hok c' _ hc
  refine PySem.W.callWith_F0 ⟨_, _, _, _, of1⟩ ?_
  have rc : codeAny (model X.prog X.w) X.A (.call (.ref f) ⟨[], []⟩) (CR (L2.CX X.prog X.w) X.stack X.prog X.w H s1 Q E) s1 := by
    refine PySem.W.kla_callFunE hr.depth of1 rfl S.co S.gen rfl ⟨c', oc, vs, tk, rfl, hoc, hdc, hvc⟩ ?_
    rw [hbind]
    refine wpAny_pure (wpAny_newFunctionEnv_cells S.kind (fun y hy => absurd hy (by simp)) fun env he s2 x => ?_)
    subst he
    refine ⟨I1.nolimit.keeps x.toInCall.keep, ?_⟩
    have J : Inv (cxOf (L2.CX X.prog X.w) X.prog X.w X.K X.mg X.base [] q scope f (.ref c') X.A X.stack s1 H E) [] (L2.start [] []) H s2 := inv_start (ps := []) (us := []) S hr.hd I1.env0 rfl .nil x
    refine PySem.W.kla_codeExpr (wpAny_mono ((hbody X.A X.stack s1 H E f c' (hr.deeper _)).run [] s2 [] H Q J ht) (fun v s' hq => ?_) fun e s' hq => hq)
    obtain ⟨w', H', J', rv, qq⟩ := hq
    exact ⟨w', H', J'.os, J'.bare, J'.base, J'.hok, rv, qq⟩
  refine wpAny_call (codeAny_mono rc fun r s' hq => ?_)
  cases r with
  | error e => exact hx pins σ H s1 e s' I1 hq
  | ok fl =>
    cases fl with
    | ret u => exact I1.after hq
    | next => exact hq.elim
    | brk => exact hq.elim
    | cont => exact hq.elim
end
end LW

namespace LW
open PySem PySem.Spec PyProof.Rows L2 LamX
/-! ### try: return what() / except .. : return '..' -/
def wTold (K : PySem.W.Frag) (Q : VK) : List (Addr × Str) → XK
  | [] => fun _ _ _ => False
  | (a, s) :: r => fun cls d H => ∃ b, PySem.W.exmOne K cls (.ref a) = some b ∧ (b = true → Q (.str s) H) ∧ (b = false → wTold K Q r cls d H)
abbrev hdL (l : List (Addr × Str)) : List (Value × (Addr → Value → Option Addr → TS)) := l.map fun p => (.ref p.1, fun _ _ _ => tRet (tC (.str p.2)))
theorem wTold_many {K : PySem.W.Frag} {D : Ends} {σ : L2.St} {H : Hp} {cls : Value} {d : Option Addr} : ∀ {l : List (Addr × Str)}, wTold K D.rt l cls d H → wMany K (fun _ _ _ _ => False) D (hdL l) cls d σ H
  | [], h => h
  | (a, s) :: r, h => by
    obtain ⟨b, e, y, n⟩ := h
    exact ⟨b, e, fun hb _ _ => y hb, fun hb => wTold_many (n hb)⟩
section
variable {X : Cx}
theorem told_pss {hds : List ExceptHandler} {h₀ : ExceptHandler} {l : List (Addr × Str)} {a : Str} {p1 p2 p3 p8 : Pos} {tact : XK → TE} (hs : X.stack = X.env :: X.outer) (hf : X.env.frame = some X.env.locals) (hh : HdsOk X (h₀ :: hds) (hdL l))
    (act : ∀ (W : WX) (pn : List (Addr × Obj)) (xe : Value → Shared → Prop) (E : XK), Takes (X.tr pn xe) W → (∀ cls d σ' H', E cls d H' → W cls d σ' H') → PE (X.tr pn xe) (.Call (.Name a p1) [] [] p2) (tact E)) :
    PSs X [.Try [.Return (some (.Call (.Name a p1) [] [] p2)) p3] (h₀ :: hds) [] [] p8] (fun D σ H => tact (wTold X.K D.rt l) σ H D.rt) := by
  have h := ps_try_many (X := X) (pos := p8) (Wout := fun _ _ _ _ => False) (tb := fun W D σ H => ∃ E : XK, (∀ cls d σ' H', E cls d H' → W cls d σ' H') ∧ tact E σ H D.rt) hs hf L2.takes0 (fun W pn xe tk _ => (?_ : PSs (X.tr pn xe) [.Return (some (.Call (.Name a p1) [] [] p2)) p3] _)) hh
  · refine pss_one ⟨fun pins s σ H D I q => h.run pins s σ H D I ?_⟩
    exact ⟨_, fun cls d σ' H' w => wTold_many w, q⟩
  · refine ⟨fun pins s σ H D I q => ?_⟩
    obtain ⟨E, hE, q⟩ := q
    exact (pss_one (ps_ret (pos := p3) (act W pn xe E tk hE))).run pins s σ H D I q
/-- .. as the lambda's maker's caller sees it -/
theorem told_gives9 {Ng : List Str} {x a q : Str} {sg : Scope} {g : Addr} {cdg : Value} {l : List (Addr × Str)} {hds : List ExceptHandler} {h₀ : ExceptHandler} {p1 p2 p3 p8 : Pos}
    (hh : ∀ (A : Around) (outer : List PySem.Env) (s : Shared) (H : Hp), HdsOk (cxOf C8.CX0 X.prog X.w X.K X.mg X.base Ng x sg g cdg A outer s H C8.E0).nox (h₀ :: hds) (hdL l)) (h0 : ∀ f : Addr, (L2.start Ng [V.ref f])[0]? = some (some (V.ref f))) :
    GivesTo X Ng x sg g cdg [.Try [.Return (some (.Call (.Name a p1) [] [] p2)) p3] (h₀ :: hds) [] [] p8] a q (fun tl H Q => tl (wTold X.K Q l) H Q) := by
  intro f c' s H Q tl act hc h
  exact ⟨_, told_pss (X := (cxOf C8.CX0 X.prog X.w X.K X.mg X.base Ng x sg g cdg X.A X.stack s H C8.E0).nox) rfl rfl (hh _ _ _ _) (fun W pn xe E tk hW => act W pn xe E p1 p2 tk hW), h0 f, hc, h⟩
/-! ### the def that is told a lambda: its promise for lambdas kept -/
structure LamRun (P : Program) (w : World) (K : PySem.W.Frag) (mg : Str → Option Value) (base : Heap) (k : Nat) (q : Str) (params : Arguments) (body : Expr) (scope : Scope) (t : XK → TE) : Prop where
  sc : FnScope [] [] scope
  bind : ∀ pm cv ctv, bindArgs (PySem.W.kla_fn "<lambda>" q params body scope [] pm cv ctv) ⟨[], []⟩ = pure []
  run : ∀ (A : Around) (outer : List PySem.Env) (s : Shared) (H : Hp) (E : XK) (f c' : Addr), Room k (A.deeper (envOfC q scope s.heap.objs.size f (.ref c'))) → PE (cxOf (L2.CX P w) P w K mg base [] q scope f (.ref c') A outer s H E) body (t E)
def spTold (P : Program) (w : World) (K : PySem.W.Frag) (mg : Str → Option Value) (base : Heap) (k : Nat) (l : List (Addr × Str)) : Sp := fun vs H Q _ => ∃ f c' q params body scope t, vs = [.ref f] ∧ H f = some (LamO f c' q params body scope) ∧ H c' = some (CodeO c' q) ∧ LamRun P w K mg base k q params body scope t ∧ t (wTold K Q l) [] H Q
end
theorem told_ok {P : Program} {w : World} {K : PySem.W.Frag} {mg : Str → Option Value} {base : Heap} {x qual a : Str} {params : Arguments} {scope : Scope} {f : Addr} {fd : FuncData} {k : Nat} {l : List (Addr × Str)} {hds : List ExceptHandler} {h₀ : ExceptHandler} {p1 p2 p3 p8 : Pos} {N : List Str}
    (F : FunD K x qual params [.Try [.Return (some (.Call (.Name a p1) [] [] p2)) p3] (h₀ :: hds) [] [] p8] scope [] [] f fd) (S : FnScope N [a] scope) (hN : N[0]? = some a) (hv : Vis scope a) (hd : (a == ("__debug__" : Str)) = false) (hcd : (a == ("__classdict__" : Str)) = false)
    (hh : ∀ (cdv : Value) (A : Around) (outer : List PySem.Env) (s : Shared) (H : Hp), HdsOk (cxOf L2.CX0 P w K mg base N qual scope f cdv A outer s H L2.E0).nox (h₀ :: hds) (hdL l)) (h0 : ∀ f : Addr, (L2.start N [V.ref f])[0]? = some (some (V.ref f))) :
    FnOk P w K mg base L2.CX0 (k + 2) f fd [a] (spTold P w K mg base k l) := by
  refine F.ok S (fun vs H Q E h => ?_) fun cdv A outer s H vs Q E hr h => ?_
  · obtain ⟨f, c', q, params, body, scope, t, rfl, _⟩ := h
    rfl
  · obtain ⟨g, c', q, params', body, scope', t, rfl, hf, hc, L, ht⟩ := h
    refine ⟨_, PSs.nox (told_pss (X := (cxOf L2.CX0 P w K mg base N qual scope f cdv A outer s H E).nox) rfl rfl (hh cdv A outer s H) fun W pn xe E tk hW =>
      pe_act0 (i := 0) (t := t) L.sc L.bind (passes_call tk hW) hr L.run hN hv hd hcd), ?_⟩
    exact ⟨g, c', h0 g, hf, hc, ht⟩
end LW

namespace LW
open PySem PySem.Spec PyProof.Rows L2 LamX
section
variable {K : PySem.W.Frag} {mu : Mu} {G0 H0 G H G' H' H1 : Hp} {env env' : LEnv} {σ σ' : L2.St} {C : Cl} {E : XK} {X : Cx}
/-! ### a lambda handed on at once: what it answers, or the word for what it raises -/
theorem same_nt (ng : ∀ a o, G a = some o → nt o) (s : Same G H) (k : ∀ b o, nt o → H b = some o → H1 b = some o) : Same G H1 := fun a o e => k a o (ng a o e) (s a o e)
theorem StR.extN (S : StR K C mu G0 H0 env σ G H) (e : ExtN H H1) (t : Tabs C.T H1) : StR K C mu G0 H0 env σ G H1 :=
  S.ext ⟨.refl _, same_nt S.ng S.sub fun b o n h => e b o h n, ⟨fun b o _ n h => e b o h n, t⟩, fun _ _ h => .inl h⟩
def forget1 : Option Sl → Option Sl
  | some (.sh d) => some (.sh d)
  | _ => none
def forgetOwn (env : LEnv) : LEnv := env.map forget1
theorem forgetOwn_get {i : Nat} {s : Sl} (h : (forgetOwn env)[i]? = some (some s)) : ∃ d, s = .sh d ∧ env[i]? = some (some (.sh d)) := by
  unfold forgetOwn at h
  rw [List.getElem?_map] at h
  cases e : env[i]? with
  | none => rw [e] at h; cases h
  | some o =>
    rw [e] at h
    cases o with
    | none => cases h
    | some s0 =>
      cases s0 with
      | sh d => cases h; exact ⟨d, rfl, rfl⟩
      | ow m ds => cases h
theorem StR.fresh (S : StR K C mu G0 H0 env σ G H) : StR K C mu0 G H (forgetOwn env) σ G H where
  sub := S.sub
  ng := S.ng
  g0 := .refl _
  fz := .refl S.fz.tb
  new := fun _ _ e => .inl e
  mh := fun _ m => m.elim
  len := by unfold forgetOwn; rw [List.length_map]; exact S.len
  sh := fun i d e => by
    obtain ⟨d', e1, e2⟩ := forgetOwn_get e
    cases e1
    exact S.sh i d e2
  ol := fun i m ds e => by
    obtain ⟨d', e1, _⟩ := forgetOwn_get e
    cases e1
  ow := fun i j p ⟨m, ds, e⟩ _ _ _ => by
    obtain ⟨d', e1, _⟩ := forgetOwn_get e
    cases e1
def mTold (nm : Nat → Option Str) (m : M) : M := fun env => match m (forgetOwn env) with
  | .ok p => .ok (env, p.2)
  | .rai c => (match nm c with
    | some s => .ok (env, .str s)
    | none => .stuck)
  | .stuck => .stuck
def ToldL (K : PySem.W.Frag) (C : Cl) (nm : Nat → Option Str) (l : List (Addr × Str)) : Prop := ∀ c s, nm c = some s → ∀ (Q : VK) d H, Q (.str s) H → wTold K Q l (C.cl c) d H
theorem snd_told {t : XK → TE} {m : M} {l : List (Addr × Str)} {nm : Nat → Option Str} (hl : ToldL K C nm l) (h : ∀ E, Snd K C E (t E) m) : Snd K C E (tLam C.T (fun tl H Q => tl (wTold K Q l) H Q) t) (mTold nm m) := by
  intro mu G0 H0 env σ G H Q S hh
  refine ⟨S.fz.tb, fun H1 eN T1 => ?_⟩
  have S1 := S.extN eN T1
  show t (wTold K Q l) σ H1 Q
  refine h _ _ _ _ _ _ _ _ _ S1.fresh ?_
  unfold mTold at hh
  cases em : m (forgetOwn env) with
  | ok p =>
    rw [em] at hh
    exact fun v G' H' S' s r => hh v G' H' (S1.ext S'.xt) s r
  | rai c =>
    rw [em] at hh
    intro H' fz
    cases en : nm c with
    | none => simp only [en] at hh; exact hh.elim
    | some s =>
      simp only [en] at hh
      exact hl c s en _ _ _ (hh (.str s) G H' (S1.ext ⟨.refl _, same_nt S1.ng S1.sub fun b o n e => fz.k b o (fun z => z) n e, fz, fun _ _ h => .inl h⟩) (.refl _) (.str s))
  | stuck => rw [em] at hh; exact hh.elim
theorem d_told {t : XK → TE} {m : M} {l : List (Addr × Str)} {nm : Nat → Option Str} {x a : Str} {g c P : Addr} {k : Nat} {pg : Arguments} {hds : List ExceptHandler} {h₀ : ExceptHandler} {p1 p2 p3 p8 p lpos pos : Pos} {sg : Scope} {fd : FuncData} {Ng : List Str} {params : Arguments} {body : Expr} {scope : Scope}
    (hl : ToldL X.K C nm l) (hg : Gl X x) (hm : X.mg x = some (.ref g)) (F : FunD X.K x x pg [.Try [.Return (some (.Call (.Name a p1) [] [] p2)) p3] (h₀ :: hds) [] [] p8] sg [] [] g fd)
    (hb : ∀ (kV doc pm : Value) (an : Option Addr) (cdv ct : Value) (us : List Value), us.length = [a].length → bindArgs (PySem.W.fnOf x x pg [.Try [.Return (some (.Call (.Name a p1) [] [] p2)) p3] (h₀ :: hds) [] [] p8] sg .none kV doc pm an cdv ct) ⟨us, []⟩ = pure ([a].zip us))
    (Sg : FnScope Ng [a] sg) (hNg : Ng[0]? = some a) (hva : Vis sg a) (h0 : ∀ f : Addr, (L2.start Ng [V.ref f])[0]? = some (some (V.ref f)))
    (hh : ∀ (cdg : Value) (A : Around) (outer : List PySem.Env) (s : Shared) (H : Hp), HdsOk (cxOf C8.CX0 X.prog X.w X.K X.mg X.base Ng x sg g cdg A outer s H C8.E0).nox (h₀ :: hds) (hdL l))
    (TB : TabB X.base X.mg c P) (hcode : X.env.code = .ref c) (hmT : (P, X.env.qual ++ "<lambda>") ∈ C.T) (hu : ∀ p ∈ C.T, p.1 = P → p.2 = X.env.qual ++ "<lambda>") (hr : Room (k + 2) X.A) (L : LamS X.env.scope scope) (hdef : defaultsOf params X.env = ([], []))
    (hbind : ∀ (q : Str) (cl : List (Str × Addr)) (pm cv ctv : Value), bindArgs (PySem.W.kla_fn "<lambda>" q params body scope cl pm cv ctv) ⟨[], []⟩ = pure [])
    (hbody : ∀ (A : Around) (outer : List PySem.Env) (s : Shared) (H : Hp) (E : XK) (f c' : Addr), Room k (A.deeper (lamEnv X scope s.heap.objs.size f c')) → ED (lamCx X A outer s H E scope f c') C E body (t E) m)
    (hro : ∃ A : Around, ∀ (s : Shared) (f c' : Addr), Room k (A.deeper (lamEnv X scope s.heap.objs.size f c')))
    (hdb : (x == ("__debug__" : Str)) = false := by decide) (hd : (a == ("__debug__" : Str)) = false := by decide) (hcd : (a == ("__classdict__" : Str)) = false := by decide) :
    ED X C E (.Call (.Name x p) [.Lambda params body scope lpos] [] pos) (tLam C.T (fun tl H Q => tl (wTold X.K Q l) H Q) t) (mTold nm m) := by
  have b : Binds X.K fd [a] [] := FunD.bindsN F hb
  obtain ⟨oc, od, dV, kV, doc, pm, an, cdv, ct, osl, e, lk, hcd', hD, _⟩ := F.ex
  subst e
  obtain ⟨A, hA⟩ := hro
  refine ⟨pe_lamcall (T := C.T) (TT := fun tl H Q => tl (wTold X.K Q l) H Q) hg hm F.kp lk hcd' b Sg hNg hva (told_gives9 (hh cdv) h0) TB hcode hmT hu hr L hdef hbind (fun A outer s H E f c' r => (hbody A outer s H E f c' r).pe) hdb hd hcd, snd_told hl fun E => ?_⟩
  exact (hbody A [] X.s_0 X.H_0 E 0 0 (hA _ _ _)).sd
end
end LW

namespace LW
open PySem PySem.Spec PyProof.Rows L2 LamX
section
variable {K : PySem.W.Frag} {mu : Mu} {G0 H0 G H G' H' H1 : Hp} {env env' : LEnv} {σ σ' : L2.St} {C : Cl} {E : XK} {X : Cx}
/-! ### + and * of ints, texts, tuples, lists -/
def rAddS : R2 := fun x y H Q => ∃ i j, x = .str i ∧ y = .str j ∧ i.length + j.length ≤ sizeLine ∧ Q (.str (i ++ j)) H
/-- t + u, the new one by its very object -/
def rCatF (K : PySem.W.Frag) : R2 := fun x y H Q => ∃ a b xs ys, x = .ref a ∧ y = .ref b ∧ SqT K H a xs ∧ SqT K H b ys ∧ xs.length + ys.length ≤ sizeLine ∧
  (xs = [] → Q (.ref b) H) ∧ (xs ≠ [] → ys = [] → Q (.ref a) H) ∧ (xs ≠ [] → ys ≠ [] → ∀ p o, H p = none → o.cls = .type "tuple" → o.dict = none → Q (.ref p) (upd H p (.frz o (.tup (xs ++ ys)))))
theorem op_catF : OpR X (binaryOp .Add) (rCatF X.K) := by
  intro pn st σ H x y v u Q I rx ry h
  obtain ⟨a, b, xs, ys, rfl, rfl, ha, hb, hl, k0, k1, k2⟩ := h
  by_cases hn : xs = []
  · subst hn
    cases rx
    cases ry
    obtain ⟨is1, ra, pa, _⟩ := I.tuple ha
    obtain ⟨is2, rb, pb, _⟩ := I.tuple hb
    cases ra
    exact cat_tup0 pa pb ⟨.ref b, H, I, rfl, k0 rfl⟩
  · cases rx
    cases ry
    obtain ⟨is1, ra, pa, _⟩ := I.tuple ha
    obtain ⟨is2, rb, pb, _⟩ := I.tuple hb
    refine HT.cat_tup pa pb (fun z => hn (ra.nil_iff.mp z)) (fun z => ⟨.ref a, H, I, rfl, k1 hn (rb.nil_iff.mp z)⟩) (fun z => ?_) (by rw [← ra.length, ← rb.length]; exact hl)
    refine ⟨.ref st.heap.objs.size, _, I.laid (t' := st.toks) (o := .frz { cls := .type "tuple", data := .seq (is1 ++ is2).toArray } (.tup (xs ++ ys))) (fun b ob q => Heap.get?_push_of_some _ q) (Nat.le_refl _) ?_, rfl, k2 hn (fun w => z (rb.nil_iff.mpr w)) _ _ (I.hok.fresh (Nat.le_refl _)) rfl rfl⟩
    exact ⟨Heap.get?_push_size _ rfl, by rw [List.length_append]; exact hl, _, ra.append rb, IsTup.new _ _⟩
def rAddA (K : PySem.W.Frag) : R2 := fun x y H Q => (rI0 fun i j => .int (i + j)) x y H Q ∨ rAddS x y H Q ∨ rCatF K x y H Q ∨ rCat x y H Q
theorem op_addA : OpR X (binaryOp .Add) (rAddA X.K) := op_add.or (OpR.or (r := rAddS) op_add_str (op_catF.or op_cat))
def iAddA : PyData → PyData → R PyData
  | .int a, .int b => .ok (.int (a + b))
  | .str a, .str b => gd (Nat.ble (a.length + b.length) small) (.ok (.str (a ++ b)))
  | .list a, .list b => gd (Nat.ble (a.length + b.length) small) (.ok (.list (a ++ b)))
  | .tuple a, .tuple b => gd (Nat.ble (a.length + b.length) small) (.ok (.tuple (a ++ b)))
  | _, _ => .stuck
theorem ops_addA : OpS K C E (rAddA K) iAddA := by
  intro mu G0 H0 env σ G H x y dx dy Q S rx ry h
  cases rx with
  | int i => cases ry <;> first | exact h.elim | exact .inl ⟨_, _, rfl, rfl, post_here S h (.int _)⟩
  | str i =>
    cases ry <;> first | exact h.elim | skip
    obtain ⟨c, h⟩ := Post.gdL h
    exact .inr (.inl ⟨_, _, rfl, rfl, Nat.le_trans (Nat.le_of_ble_eq_true c) small_le, post_here S h (.str _)⟩)
  | lst a1 b1 =>
    cases ry <;> first | exact h.elim | skip
    rename_i a2 b2
    obtain ⟨c, h⟩ := Post.gdL h
    refine .inr (.inr (.inr ⟨_, _, _, _, rfl, rfl, S.sub _ _ a1, S.sub _ _ a2, ?_, fun p hp => ?_⟩))
    · rw [b1.length, b2.length]; exact Nat.le_trans (Nat.le_of_ble_eq_true c) small_le
    · exact post_new S h hp _ nt_lst (.lst upd_same (RpA.mono (same_new (S.sub.free hp)) _ _ (b1.append b2)))
  | tup a1 b1 =>
    cases ry <;> first | exact h.elim | skip
    rename_i a2 b2
    obtain ⟨c, h⟩ := Post.gdL h
    refine .inr (.inr (.inl ⟨_, _, _, _, rfl, rfl, sqt_same S.sub a1, sqt_same S.sub a2, ?_, ?_, ?_, fun _ _ p o hp hc hd => ?_⟩))
    · rw [b1.length, b2.length]; exact Nat.le_trans (Nat.le_of_ble_eq_true c) small_le
    · intro z
      subst z
      cases b1
      exact post_here S h (.tup a2 b2)
    · intro _ z
      subst z
      cases b2
      refine post_here S h (.tup a1 ?_)
      rw [List.append_nil]
      exact b1
    · exact post_new S h hp _ nt_frz (.tup (tpt_new hc hd) (RpA.mono (same_new (S.sub.free hp)) _ _ (b1.append b2)))
  | _ => cases ry <;> exact h.elim
theorem d_addA {a b : Expr} {ta tb : TE} {f g : M} {pos : Pos} (ha : ED X C E a ta f) (hb : ED X C E b tb g) : ED X C E (.BinOp a .Add b pos) (tOp (rAddA X.K) ta tb) (mOp iAddA f g) := d_op op_addA ops_addA ha hb
def rMulA : R2 := fun x y H Q => (rI CMul fun i j => .int (i * j)) x y H Q ∨ rRep x y H Q
theorem op_mulA : OpR X (binaryOp .Mult) rMulA := op_mul.or op_rep
def repD (n : Nat) (ds : List PyData) : List PyData := match n with
  | 0 => []
  | n + 1 => ds ++ repD n ds
theorem repD_eq (n : Nat) (ds : List PyData) : repD n ds = (List.replicate n ds).flatten := by
  induction n with
  | zero => rfl
  | succ n ih => rw [repD, ih, List.replicate_succ, List.flatten_cons]
theorem RpA.rep {vs : List V} {ds : List PyData} (h : RpA K G vs ds) : ∀ n, RpA K G (List.replicate n vs).flatten (repD n ds)
  | 0 => .nil
  | n + 1 => by
    rw [List.replicate_succ, List.flatten_cons]
    exact h.append (RpA.rep h n)
def iMulA : PyData → PyData → R PyData
  | .int a, .int b => gd (lowI a || lowI b) (.ok (.int (a * b)))
  | .list a, .int b => gd (near b && Nat.ble (a.length * b.toNat) small) (.ok (.list (repD b.toNat a)))
  | _, _ => .stuck
theorem ops_mulA : OpS K C E rMulA iMulA := by
  intro mu G0 H0 env σ G H x y dx dy Q S rx ry h
  cases rx with
  | int i =>
    cases ry <;> first | exact h.elim | skip
    rename_i j
    obtain ⟨c, h⟩ := Post.gdL h
    refine .inl ⟨_, _, rfl, rfl, ?_, post_here S h (.int _)⟩
    rcases Bool.or_eq_true_iff.mp c with c | c
    · exact .inl (lowI_is c)
    · exact .inr (lowI_is c)
  | lst a1 b1 =>
    cases ry <;> first | exact h.elim | skip
    rename_i k
    obtain ⟨c, h⟩ := Post.gdL h
    rw [Bool.and_eq_true] at c
    have := near_is c.1
    refine .inr ⟨_, _, _, rfl, rfl, S.sub _ _ a1, by omega, by omega, ?_, fun p hp => ?_⟩
    · rw [b1.length]; exact Nat.le_trans (Nat.le_of_ble_eq_true c.2) small_le
    · exact post_new S h hp _ nt_lst (.lst upd_same (RpA.mono (same_new (S.sub.free hp)) _ _ (b1.rep _)))
  | _ => cases ry <;> exact h.elim
theorem d_mulA {a b : Expr} {ta tb : TE} {f g : M} {pos : Pos} (ha : ED X C E a ta f) (hb : ED X C E b tb g) : ED X C E (.BinOp a .Mult b pos) (tOp rMulA ta tb) (mOp iMulA f g) := d_op op_mulA ops_mulA ha hb
/-! ### in a list -/
def anyEq (d : PyData) : List PyData → Bool
  | [] => false
  | z :: r => eqF deep z d || anyEq d r
theorem anyEq_is {d : PyData} : ∀ {ds : List PyData}, shA (shF (deep - 1)) ds = true → anyEq d ds = ds.any fun z => PyData.eqv z d
  | [], _ => rfl
  | z :: r, h => by
    have h : (shF (deep - 1) z && shA (shF (deep - 1)) r) = true := h
    rw [Bool.and_eq_true] at h
    have up : ∀ (n : Nat) (d : PyData), shF n d = true → shF (n + 1) d = true := by
      intro n
      induction n with
      | zero => intro d h; cases d <;> simp_all [shF]
      | succ n ih =>
        have ihA : ∀ xs, shA (shF n) xs = true → shA (shF (n + 1)) xs = true := by
          intro xs
          induction xs with
          | nil => intro _; rfl
          | cons x xs ihx =>
            intro h
            have h : (shF n x && shA (shF n) xs) = true := h
            rw [Bool.and_eq_true] at h
            show (shF (n + 1) x && shA (shF (n + 1)) xs) = true
            rw [ih x h.1, ihx h.2]; rfl
        intro d h
        cases d with
        | list xs => exact ihA xs h
        | tuple xs => exact ihA xs h
        | _ => simp_all [shF]
    show (eqF deep z d || anyEq d r) = (PyData.eqv z d || r.any fun z => PyData.eqv z d)
    rw [eqF_eqv deep z d (up _ _ h.1), anyEq_is h.2]
def iIn : PyData → PyData → R PyData
  | d, .list ds => gd (shF deep d && shF deep (.list ds)) (.ok (.bool (anyEq d ds)))
  | _, _ => .stuck
def iNi : PyData → PyData → R PyData
  | d, .list ds => gd (shF deep d && shF deep (.list ds)) (.ok (.bool (!anyEq d ds)))
  | _, _ => .stuck
theorem ops_in : OpS K C E (rInD K) iIn := by
  intro mu G0 H0 env σ G H x y dx dy Q S rx ry h
  cases ry with
  | lst a b =>
    rename_i xs ds
    have h : Post (RlE K) K C E mu G0 H0 σ G (lif env (gd (shF deep dx && shF deep (.list ds)) (.ok (.bool (anyEq dx ds))))) Q := by cases dx <;> exact h
    obtain ⟨c, h⟩ := Post.gdL h
    rw [Bool.and_eq_true] at c
    rw [anyEq_is c.2] at h
    exact ⟨dx, ds, (Rp.mono S.sub _ _ rx).dp _ _ (shF_lay _ _ c.1).1, Rp.dp _ _ (shF_lay _ _ c.2).1 (.lst (S.sub _ _ a) (RpA.mono S.sub _ _ b)), shF_shaped (by decide) c.1, shF_shaped (by decide) c.2, post_here S h (.bl _)⟩
  | _ => cases dx <;> exact h.elim
theorem ops_ni : OpS K C E (rNotInD K) iNi := by
  intro mu G0 H0 env σ G H x y dx dy Q S rx ry h
  cases ry with
  | lst a b =>
    rename_i xs ds
    have h : Post (RlE K) K C E mu G0 H0 σ G (lif env (gd (shF deep dx && shF deep (.list ds)) (.ok (.bool (!anyEq dx ds))))) Q := by cases dx <;> exact h
    obtain ⟨c, h⟩ := Post.gdL h
    rw [Bool.and_eq_true] at c
    rw [anyEq_is c.2] at h
    exact ⟨dx, ds, (Rp.mono S.sub _ _ rx).dp _ _ (shF_lay _ _ c.1).1, Rp.dp _ _ (shF_lay _ _ c.2).1 (.lst (S.sub _ _ a) (RpA.mono S.sub _ _ b)), shF_shaped (by decide) c.1, shF_shaped (by decide) c.2, post_here S h (.bl _)⟩
  | _ => cases dx <;> exact h.elim
theorem d_in {a b : Expr} {ta tb : TE} {f g : M} {pos : Pos} (hu : X.A.units + 65 < cLine) (ha : ED X C E a ta f) (hb : ED X C E b tb g) (hm : behindInMarks .In b = false := by rfl) : ED X C E (.Compare a [.In] [b] pos) (tOp (rInD X.K) ta tb) (mOp iIn f g) := d_cmpR (op_inD hu) ops_in hm ha hb
theorem d_ni {a b : Expr} {ta tb : TE} {f g : M} {pos : Pos} (hu : X.A.units + 65 < cLine) (ha : ED X C E a ta f) (hb : ED X C E b tb g) (hm : behindInMarks .NotIn b = false := by rfl) : ED X C E (.Compare a [.NotIn] [b] pos) (tOp (rNotInD X.K) ta tb) (mOp iNi f g) := d_cmpR (op_notInD hu) ops_ni hm ha hb
theorem t_in {a b : Expr} {ta tb : TE} {f g : M} {pos : Pos} (hu : X.A.units + 65 < cLine) (ha : ED X C E a ta f) (hb : ED X C E b tb g) (hm : behindInMarks .In b = false := by rfl) : TD X C E (.Compare a [.In] [b] pos) (tTest (tOp (rInD X.K) ta tb)) (mtB (mOp iIn f g)) := t_cmpR (op_inD hu) ops_in hm ha hb
theorem t_ni {a b : Expr} {ta tb : TE} {f g : M} {pos : Pos} (hu : X.A.units + 65 < cLine) (ha : ED X C E a ta f) (hb : ED X C E b tb g) (hm : behindInMarks .NotIn b = false := by rfl) : TD X C E (.Compare a [.NotIn] [b] pos) (tTest (tOp (rNotInD X.K) ta tb)) (mtB (mOp iNi f g)) := t_cmpR (op_notInD hu) ops_ni hm ha hb
theorem room65 {k : Nat} {A : Around} (hr : Room (k + 1) A) : A.units + 65 < cLine := by have := hr.un; omega
/-! ### y = [..], y a plain local name -/
theorem s_setLc (i : Nat) {y : Str} {py spos : Pos} {tg iter elt : Expr} {scope : Scope} {own : List (Str × Nat)} {vs : List Nat} {wi : TI} {gg : TG} {bb : Bi} {is : List Nat} {te : TE} {ma : MA} {f : M} {pos : Pos} (hc : X.calm = true) (hN : X.N.Nodup) (ok : BlkOk X.N X.env.scope scope own) (hi : ID X C E tg iter wi ma)
    (hg : ∀ (s : Shared) (H : Hp) (B : Addr) (cl : List (Str × Addr)) (fp : List Addr), GD (X.blk s H scope (compEnvC scope cl B X.env) fp) C tg gg bb is)
    (he : ∀ (s : Shared) (H : Hp) (B : Addr) (cl : List (Str × Addr)) (fp : List Addr), ED (X.blk s H scope (compEnvC scope cl B X.env) fp) C EX0 elt te f)
    (hsw : swapsWith (.ListComp elt [⟨tg, iter, [], 0⟩] scope pos) (some (.Name y py)) spos.line X.env = pure true)
    (hy : X.N[i]? = some y := by rfl) (hyl : X.env.scope.names.lookup y = some .local := by rfl) (hvs : own.map (·.2) = vs := by rfl) (his : ∀ i ∈ is, i ∈ vs := by decide) (hs : ∀ x, foldedSetIterable iter X.env x = pure x := by intro _; rfl) :
    SD X C E (.Assign [.Name y py] (.ListComp elt [⟨tg, iter, [], 0⟩] scope pos) spos) (tAsg (tLc wi gg tYes te vs) (gName i)) (mAsg (bName i) (mComp vs ma bb mtYes f)) := by
  subst hvs
  exact ⟨ps_setLc hc hN hy hyl hsw hi.pe ok (fun s H B cl fp => (hg s H B cl fp).pe) (fun _ _ _ _ _ => pts_nil) (fun s H B cl fp => (he s H B cl fp).pe) hs, snds_asg (snd_comp hi.sd (hg X.s_0 X.H_0 0 [] []).sd his sndt_yes (he X.s_0 X.H_0 0 [] []).sd) sndg_name⟩
theorem s_setLcif (i : Nat) {y : Str} {py spos : Pos} {tg iter elt cnd : Expr} {scope : Scope} {own : List (Str × Nat)} {vs : List Nat} {wi : TI} {gg : TG} {bb : Bi} {is : List Nat} {te : TE} {tt : TT} {mt : MT} {ma : MA} {f : M} {pos : Pos} (hc : X.calm = true) (hN : X.N.Nodup) (ok : BlkOk X.N X.env.scope scope own) (hi : ID X C E tg iter wi ma)
    (hg : ∀ (s : Shared) (H : Hp) (B : Addr) (cl : List (Str × Addr)) (fp : List Addr), GD (X.blk s H scope (compEnvC scope cl B X.env) fp) C tg gg bb is)
    (ht : ∀ (s : Shared) (H : Hp) (B : Addr) (cl : List (Str × Addr)) (fp : List Addr), TD (X.blk s H scope (compEnvC scope cl B X.env) fp) C EX0 cnd tt mt)
    (he : ∀ (s : Shared) (H : Hp) (B : Addr) (cl : List (Str × Addr)) (fp : List Addr), ED (X.blk s H scope (compEnvC scope cl B X.env) fp) C EX0 elt te f)
    (hsw : swapsWith (.ListComp elt [⟨tg, iter, [cnd], 0⟩] scope pos) (some (.Name y py)) spos.line X.env = pure true)
    (hy : X.N[i]? = some y := by rfl) (hyl : X.env.scope.names.lookup y = some .local := by rfl) (hvs : own.map (·.2) = vs := by rfl) (his : ∀ i ∈ is, i ∈ vs := by decide) (hs : ∀ x, foldedSetIterable iter X.env x = pure x := by intro _; rfl) :
    SD X C E (.Assign [.Name y py] (.ListComp elt [⟨tg, iter, [cnd], 0⟩] scope pos) spos) (tAsg (tLc wi gg tt te vs) (gName i)) (mAsg (bName i) (mComp vs ma bb mt f)) := by
  subst hvs
  exact ⟨ps_setLc hc hN hy hyl hsw hi.pe ok (fun s H B cl fp => (hg s H B cl fp).pe) (fun s H B cl fp => pts_one (ht s H B cl fp).pe) (fun s H B cl fp => (he s H B cl fp).pe) hs, snds_asg (snd_comp hi.sd (hg X.s_0 X.H_0 0 [] []).sd his (ht X.s_0 X.H_0 0 [] []).sd (he X.s_0 X.H_0 0 [] []).sd) sndg_name⟩
end
/-! ### the words for what is refused; parts of a law's text -/
def nmT : Nat → Option Str
  | 1 => some "part"
  | 2 => some "spread"
  | 3 => some "tree"
  | 4 => some "paper"
  | 5 => some "size"
  | 6 => some "text"
  | 7 => some "store"
  | 8 => some "no chance"
  | 9 => some "no such"
  | _ => none
def hdsOf : List Stmt → List ExceptHandler
  | .Try _ h _ _ _ :: _ => h
  | _ => []
/-- the first loop's body -/
def lawBody (s : Stmt) : List Stmt := match defBody s with
  | .For _ _ b _ _ :: _ => b
  | _ => []
/-! ### readings by name -/
abbrev rLenQ (K : PySem.W.Frag) : List V → Hp → VK → Prop := fun xs H Q => ∃ p ys, xs = [.ref p] ∧ (SqL K H p ys ∨ SqT K H p ys) ∧ Q (.int ys.length) H
abbrev rAbsQ : List V → Hp → VK → Prop := fun xs H Q => ∃ i, xs = [.int i] ∧ Q (.int (if i < 0 then -i else i)) H
abbrev rIntQ : List V → Hp → VK → Prop := fun xs H Q => (∃ i, xs = [.int i] ∧ Q (.int i) H) ∨ ∃ k, xs = [.bl k] ∧ Q (.int (if k then 1 else 0)) H
abbrev rStrQ : List V → Hp → VK → Prop := fun xs H Q => ∃ i : Int, xs = [.int i] ∧ i.natAbs.log2 < 1920 ∧ Q (.str (toString i)) H
abbrev tTruK (K : PySem.W.Frag) (te : TE) : TT := fun σ H Q => te σ H fun x H' => ∃ k, TruV K x H' k ∧ Q k H'
end LW

namespace LW
open PySem PySem.Spec PyProof.Rows L2 LamX
/-! ### the script's first cell as dice -/
section
variable {K : PySem.W.Frag} {G H : Hp} {C : Cl}
abbrev intsD (is : List Int) : List PyData := is.map PyData.int
theorem rpa_ints : ∀ (is : List Int) (vs : List V), RpA K G vs (intsD is) → vs = is.map V.int
  | [], vs, h => by cases h; rfl
  | i :: is, vs, h => by
    cases h with
    | cons h1 h2 =>
      cases h1
      rw [rpa_ints is _ h2]
      rfl
theorem ints_rpa : ∀ (is : List Int), RpA K G (is.map V.int) (intsD is)
  | [] => .nil
  | i :: is => .cons (.int i) (ints_rpa is)
theorem cut_first (ns : List Int) : cutV (ns.map V.int) none (some 1) = (ns.take 1).map V.int := by
  unfold cutV
  have e0 : HT.sIx (ns.map V.int).length (ns.map V.int).length (some 1) = min 1 (ns.map V.int).length := HT.sIx_nat _ _ 1
  rw [HT.sIx_none, e0]
  cases ns with
  | nil => rfl
  | cons n t =>
    have e : min 1 (((n :: t).map V.int).length) - 0 = 1 := by simp
    rw [e]; rfl
def spRounds (K : PySem.W.Frag) (C : Cl) (dice : Int → List Int) : Sp := fun vs H Q _ => ∃ (a : Addr) (ns : List Int), vs = [.ref a, .int 1] ∧ Tabs C.T H ∧ SqL K H a (ns.map V.int) ∧
  ∀ l q H', Tabs C.T H' → H' l = some (.lst [.ref q]) → H' q = some (.lst ((dice (ns.headD 0)).map V.int)) → Q (.ref l) H'
theorem rounds_ok {P : Program} {w : World} {mg : Str → Option Value} {base : Heap} {x qual : Str} {params : Arguments} {st : Stmt} {r : List Stmt} {scope : Scope} {f : Addr} {fd : FuncData} {k : Nat} {m : MS} {N : List Str} {dice : Int → List Int}
    (F : FunD K x qual params (st :: r) scope [] [] f fd) (S : FnScope N ["script", "most"] scope) (hN : N.length = 4)
    (hb : ∀ (cdv : Value) (A : Around) (outer : List PySem.Env) (s : Shared) (H : Hp) (E : XK), Room k (A.deeper (envOfC qual scope s.heap.objs.size f cdv)) →
      PS (cxOf (L2.CX P w) P w K mg base N qual scope f cdv A outer s H E) st (tAsg (tSl (rSlL K) (tVar 0) tNoPart (tPart (tVar 1))) (gName 2)) ∧ ∃ t, BD (cxOf (L2.CX P w) P w K mg base N qual scope f cdv A outer s H E) C E r t m)
    (h0 : ∃ e, m [none, some (.sh (.int 1)), some (.sh (.list [])), none] = .rt e (.list [.list (intsD (dice 0))]))
    (h1 : ∀ z, ∃ e, m [none, some (.sh (.int 1)), some (.sh (.list [.int z])), none] = .rt e (.list [.list (intsD (dice z))])) :
    FnOk P w K mg base (L2.CX P w) (k + 1) f fd ["script", "most"] (spRounds K C dice) := by
  refine F.ok S (fun vs H Q E h => by obtain ⟨a, ns, rfl, _⟩ := h; rfl) fun cdv A outer s H vs Q E hr h => ?_
  obtain ⟨a, ns, rfl, tb, hS, q⟩ := h
  obtain ⟨hp, t, ht⟩ := hb cdv A outer s H E hr
  obtain ⟨n0, n1, n2, n3, rfl⟩ : ∃ a b c d, N = [a, b, c, d] := by
    match N, hN with
    | [a, b, c, d], _ => exact ⟨a, b, c, d, rfl⟩
  have hm : ∃ e, m [none, some (.sh (.int 1)), some (.sh (.list (intsD (ns.take 1)))), none] = .rt e (.list [.list (intsD (dice (ns.headD 0)))]) := by
    cases ns with
    | nil => exact h0
    | cons z r => exact h1 z
  obtain ⟨e, hm⟩ := hm
  refine ⟨_, pss_cons hp ht.pe, ?_⟩
  refine ⟨.ref a, rfl, .int 1, rfl, 1, rfl, a, _, rfl, hS, fun p hpn => ?_⟩
  rw [cut_first]
  let G2 : Hp := fun b => if b = p then some (.lst ((ns.take 1).map V.int)) else none
  have gp : G2 p = some (.lst ((ns.take 1).map V.int)) := if_pos rfl
  have gi : ∀ b o, G2 b = some o → b = p ∧ o = .lst ((ns.take 1).map V.int) := fun b o e => by
    by_cases hb : b = p
    · subst hb; rw [gp] at e; exact ⟨rfl, (Option.some.inj e).symm⟩
    · have e : (if b = p then some (HO.lst ((ns.take 1).map V.int)) else none) = some o := e
      rw [if_neg hb] at e; cases e
  have S2 : StR K C mu0 G2 (upd H p (.lst ((ns.take 1).map V.int))) [none, some (.sh (.int 1)), some (.sh (.list (intsD (ns.take 1)))), none] [some (.ref a), some (.int 1), some (.ref p), none] G2 (upd H p (.lst ((ns.take 1).map V.int))) := {
    sub := fun b o e => by obtain ⟨rfl, rfl⟩ := gi b o e; exact upd_same
    ng := fun b o e => by obtain ⟨rfl, rfl⟩ := gi b o e; exact nt_lst
    g0 := .refl _
    fz := .refl (tb.ext fun b o e => by rw [upd_ne (ne_of_none e hpn)]; exact e)
    new := fun _ _ e => .inl e
    mh := fun _ m => m.elim
    len := rfl
    sh := fun i d e => by
      match i, e with
      | 1, e => cases e; exact ⟨_, rfl, .int 1⟩
      | 2, e => cases e; exact ⟨_, rfl, .lst gp (ints_rpa _)⟩
      | 0, e => cases e
      | 3, e => cases e
      | n + 4, e => cases e
    ol := fun i m ds e => by
      match i, e with
      | 0, e => cases e
      | 1, e => cases e
      | 2, e => cases e
      | 3, e => cases e
      | n + 4, e => cases e
    ow := fun i j z ⟨m, ds, e⟩ _ _ _ => by
      match i, e with
      | 0, e => cases e
      | 1, e => cases e
      | 2, e => cases e
      | 3, e => cases e
      | n + 4, e => cases e }
  refine ht.sd mu0 G2 _ _ [some (.ref a), some (.int 1), some (.ref p), none] _ _ _ S2 ?_
  rw [hm]
  intro v σ' G' H' S' _ rv
  cases rv with
  | lst e1 e2 =>
    cases e2 with
    | cons e3 e4 =>
      cases e4
      cases e3 with
      | lst e5 e6 =>
        rw [rpa_ints _ _ e6] at e5
        exact q _ _ _ S'.fz.tb (S'.sub _ _ e1) (S'.sub _ _ e5)
end
end LW
namespace LW
open PySem PySem.Spec PyProof.Rows L2 LamX
section
variable {K : PySem.W.Frag} {C : Cl}
/-! ### the law's loop over its one dice -/
def spLaw (K : PySem.W.Frag) (C : Cl) : Sp := fun vs H Q _ => ∃ (a : Addr) (ns : List Int), vs = [.ref a] ∧ (∀ z ∈ ns, Builtin.Int.intBits z ≤ 1048576) ∧ Tabs C.T H ∧ SqL K H a (ns.map V.int) ∧ ∀ H', Q (.bl true) H'
def TailOk (C : Cl) (n : Nat) (tt : TS) : Prop := ∀ (D : Ends) (σ : L2.St) (H : Hp), σ.length = n → Tabs C.T H → (∀ H', D.rt (.bl true) H') → tt D σ H
def startL (n : Nat) (is : List Int) : LEnv := none :: some (.ow true (intsD is)) :: List.replicate (n - 2) none
theorem startL_get {n : Nat} {is : List Int} {i : Nat} {s : Sl} (h : (startL n is)[i]? = some (some s)) : i = 1 ∧ s = .ow true (intsD is) := by
  unfold startL at h
  match i, h with
  | 0, h => cases h
  | 1, h => cases h; exact ⟨rfl, rfl⟩
  | i + 2, h =>
    rw [List.getElem?_cons_succ, List.getElem?_cons_succ, List.getElem?_replicate] at h
    split at h <;> cases h
theorem law_ok {P : Program} {w : World} {mg : Str → Option Value} {base : Heap} {x qual : Str} {params : Arguments} {tg iter : Expr} {body tail : List Stmt} {pos : Pos} {scope : Scope} {f c : Addr} {fd : FuncData} {k : Nat} {m : MS} {N : List Str} {dice : Int → List Int}
    (F : FunD K x qual params (.For tg iter body [] pos :: tail) scope [] [] f fd) (S : FnScope N ["script"] scope) (hN : 2 ≤ N.length) (hc : fd.code = .ref c)
    (hb : ∀ (A : Around) (outer : List PySem.Env) (s : Shared) (H : Hp) (E : XK), Room k (A.deeper (envOfC qual scope s.heap.objs.size f (.ref c))) →
      ∃ tb tt, PSs (cxOf (L2.CX P w) P w K mg base N qual scope f (.ref c) A outer s H E) (.For tg iter body [] pos :: tail) (tSeq (tFor (iSeq K (tCallS (spRounds K C dice) (fun _ => E) (tCons (tVar 0) (tCons (tC (.int 1)) tNil)))) (gName 1) tb) tt) ∧ SndS K C E tb m ∧ TailOk C N.length tt)
    (hm : ∀ z, Builtin.Int.intBits z ≤ 1048576 → ∃ e, m (startL N.length (dice z)) = .nx e ∧ e.length = N.length) :
    FnOk P w K mg base (L2.CX P w) (k + 1) f fd ["script"] (spLaw K C) := by
  obtain ⟨oc, od, dV, kV, doc, pm, an, cdv, ct, osl, rfl, lk, hcd, _, _⟩ := F.ex
  obtain rfl : cdv = Value.ref c := hc
  refine fn_of lk hcd S (fun vs H Q E h => by obtain ⟨a, ns, rfl, _⟩ := h; rfl) fun A outer s H vs Q E hr h => ?_
  obtain ⟨a, ns, rfl, hbits, tb, hS, q⟩ := h
  obtain ⟨tb', tt, hp, sd, hT⟩ := hb A outer s H E hr
  refine ⟨_, hp, ?_⟩
  have hz : Builtin.Int.intBits (ns.headD 0) ≤ 1048576 := by
    cases ns with
    | nil => decide
    | cons z r => exact hbits z List.mem_cons_self
  obtain ⟨e, hm, he⟩ := hm _ hz
  have hl0 : (L2.start N [V.ref a]).length = N.length := by
    unfold L2.start
    rw [List.length_append, List.length_map, List.length_replicate]
    simp only [List.length_cons, List.length_nil]
    omega
  refine .inl ⟨.ref a, by unfold L2.start; rfl, a, ns, rfl, tb, hS, fun l p H1 tb1 hl hq => ⟨l, rfl, ⟨[.ref p], SqL.of hl⟩, ?_⟩⟩
  refine for_list (xs := [.ref p]) (fun i σ' H' => (i = 0 ∧ σ' = L2.start N [V.ref a] ∧ H' = H1) ∨ (i = 1 ∧ σ'.length = N.length ∧ Tabs C.T H' ∧ H' l = some (.lst [.ref p]))) (.inl ⟨rfl, rfl, rfl⟩) (fun i σ' H' hi h => ?_) (fun i y σ' H' hy h => ?_) (fun σ' H' h => ?_)
  · rcases h with ⟨_, _, e3⟩ | ⟨_, _, _, h⟩
    · rw [e3]; exact SqL.of hl
    · exact SqL.of h
  · rcases h with ⟨e1, e2, e3⟩ | ⟨rfl, _⟩
    · rw [e1] at hy
      cases hy
      rw [e1, e2, e3]
      let σ1 : L2.St := (L2.start N [V.ref a]).set 1 (some (.ref p))
      have g1 : ∀ i v, σ1[i]? = some v → i = 1 → v = some (.ref p) := fun i v e1 ei => by
        subst ei
        rw [List.getElem?_set_self (by rw [hl0]; omega)] at e1
        exact (Option.some.inj e1).symm
      have g2 : σ1[1]? = some (some (.ref p)) := List.getElem?_set_self (by rw [hl0]; omega)
      have S1 : StR K C (muP p) (fun _ => none) H1 (startL N.length (dice (ns.headD 0))) σ1 (fun _ => none) H1 := {
        sub := fun b o e => nomatch e
        ng := fun b o e => nomatch e
        g0 := .refl _
        fz := .refl tb1
        new := fun b o e => nomatch e
        mh := fun b hb => by
          have hb : b = p := hb
          rw [hb]; exact ⟨_, nt_lst, hq⟩
        len := by
          show _ = ((L2.start N [V.ref a]).set 1 (some (.ref p))).length
          rw [List.length_set, hl0]
          unfold startL
          simp only [List.length_cons, List.length_replicate]
          omega
        sh := fun i d e => by obtain ⟨_, e2⟩ := startL_get e; cases e2
        ol := fun i m ds e => by
          obtain ⟨rfl, e2⟩ := startL_get e
          cases e2
          exact ⟨p, _, g2, hq, .lst (ints_rpa _), rfl, rfl⟩
        ow := fun i j z ⟨m1, d1, e1⟩ ⟨m2, d2, e2⟩ _ _ => by rw [(startL_get e1).1, (startL_get e2).1] }
      refine sd (muP p) _ _ _ σ1 _ _ _ S1 ?_
      rw [hm]
      intro σ2 G2 H2 S2 _
      have lp : l ≠ p := fun z => by
        rw [z, hq] at hl
        have e1 := Option.some.inj hl
        injection e1 with e2
        cases hd : dice (ns.headD 0) with
        | nil => rw [hd] at e2; cases e2
        | cons i r => rw [hd] at e2; cases e2
      exact .inr ⟨rfl, S2.len.symm.trans he, S2.fz.tb, S2.fz.k _ _ lp nt_lst hl⟩
    · cases hy
  · rcases h with ⟨h, _⟩ | ⟨_, hl2, tb2, _⟩
    · cases h
    · exact hT _ _ _ hl2 tb2 q
end
end LW

namespace LW
open PySem PySem.Spec PyProof.Rows L2
section
variable {K : PySem.W.Frag} {mu : Mu} {G0 H0 G H G' H' H1 : Hp} {env env' : LEnv} {σ σ' : L2.St} {C : Cl} {E : XK} {X : Cx}
/-! ### math.comb, math.perm -/
def rComb : List V → Hp → VK → Prop := fun vs H Q => ∃ a b : Int, vs = [.int a, .int b] ∧ 0 ≤ a ∧ 0 ≤ b ∧ a < 9000 ∧ Q (.int (PySem.W.mcComb a b)) H
theorem cr_comb : CallR X (.builtin "math.comb") rComb := by
  intro pins s σ H vs us Q I r h
  obtain ⟨a, b, rfl, ha, hb, hl, q⟩ := h
  obtain ⟨t, u, rfl⟩ := Vals.int2 r
  exact PySem.W.mc_comb ha hb (by omega) (.inr (by omega)) fun _ => ⟨.int _, H, I.tok _, ⟨_, rfl⟩, q⟩
def rPerm : List V → Hp → VK → Prop := fun vs H Q => ∃ a b : Int, vs = [.int a, .int b] ∧ 0 ≤ a ∧ 0 ≤ b ∧ a < 9000 ∧ b < 9000 ∧ Q (.int (PySem.W.mcPerm a b)) H
theorem cr_perm : CallR X (.builtin "math.perm") rPerm := by
  intro pins s σ H vs us Q I r h
  obtain ⟨a, b, rfl, ha, hb, hl, hl2, q⟩ := h
  obtain ⟨t, u, rfl⟩ := Vals.int2 r
  exact PySem.W.mc_perm ha hb (by omega) (by omega) fun _ => ⟨.int _, H, I.tok _, ⟨_, rfl⟩, q⟩
/-- from nought, below nine thousand -/
def nat9 (a : Int) : Bool := match a with
  | .ofNat n => Nat.blt n 9000
  | _ => false
theorem nat9_ok {a : Int} (h : nat9 a = true) : 0 ≤ a ∧ a < 9000 := by
  match a, h with
  | .ofNat n, h =>
    have : n < 9000 := Nat.le_of_ble_eq_true h
    exact ⟨Int.natCast_nonneg n, by show (n : Int) < 9000; omega⟩
def cComb : List PyData → R PyData
  | [.int a, .int b] => gd (nat9 a && nat9 b) (.ok (.int (PySem.W.mcComb a b)))
  | _ => .stuck
def cPerm : List PyData → R PyData
  | [.int a, .int b] => gd (nat9 a && nat9 b) (.ok (.int (PySem.W.mcPerm a b)))
  | _ => .stuck
theorem cas_comb : CaS K C E rComb cComb := by
  intro mu G0 H0 env σ G H xs ds Q S r h
  cases r with
  | nil => exact h.elim
  | cons r1 r2 =>
    cases r2 with
    | nil => cases r1 <;> exact h.elim
    | cons r2 r3 =>
      cases r3 with
      | cons _ _ => cases r1 <;> cases r2 <;> exact h.elim
      | nil =>
        cases r1 <;> cases r2 <;> first | exact h.elim | skip
        obtain ⟨c, h⟩ := Post.gdL h
        obtain ⟨c1, c2⟩ := Bool.and_eq_true_iff.mp c
        exact ⟨_, _, rfl, (nat9_ok c1).1, (nat9_ok c2).1, (nat9_ok c1).2, post_here S h (.int _)⟩
theorem cas_perm : CaS K C E rPerm cPerm := by
  intro mu G0 H0 env σ G H xs ds Q S r h
  cases r with
  | nil => exact h.elim
  | cons r1 r2 =>
    cases r2 with
    | nil => cases r1 <;> exact h.elim
    | cons r2 r3 =>
      cases r3 with
      | cons _ _ => cases r1 <;> cases r2 <;> exact h.elim
      | nil =>
        cases r1 <;> cases r2 <;> first | exact h.elim | skip
        obtain ⟨c, h⟩ := Post.gdL h
        obtain ⟨c1, c2⟩ := Bool.and_eq_true_iff.mp c
        exact ⟨_, _, rfl, (nat9_ok c1).1, (nat9_ok c2).1, (nat9_ok c1).2, (nat9_ok c2).2, post_here S h (.int _)⟩
/-! ### list(xs), tuple(xs) -/
abbrev rListOf (K : PySem.W.Frag) : List V → Hp → VK → Prop := fun xs H Q => ∃ p ys, xs = [.ref p] ∧ (SqL K H p ys ∨ SqT K H p ys) ∧ ∀ l, H l = none → Q (.ref l) (upd H l (.lst ys))
abbrev rTupOf (K : PySem.W.Frag) : List V → Hp → VK → Prop := fun xs H Q => ∃ p ys, xs = [.ref p] ∧ ((SqL K H p ys ∧ ∀ l o, H l = none → o.cls = .type "tuple" → o.dict = none → Q (.ref l) (upd H l (.frz o (.tup ys)))) ∨ (SqT K H p ys ∧ Q (.ref p) H))
theorem call_tupleF : CallR X (.type "tuple") (rTupOf X.K) := by
  intro pn st σ H xs us Q I r h
  obtain ⟨p, ys, rfl, h⟩ := h
  obtain ⟨u, rfl, rx⟩ := vals1 r
  cases rx
  rcases h with ⟨hk, q⟩ | ⟨hk, q⟩
  · obtain ⟨is1, rv, pz, hl⟩ := I.list hk
    have hlen := rv.length
    refine call_tuple_list pz.isList (fun h' kk => ?_) (by simp only [List.size_toArray] <;> omega)
    have Ia : Inv X pn σ H { st with heap := h' } := I.kept (t' := st.toks) kk
    have Ib : Inv X pn σ (upd H h'.objs.size (.frz { cls := .type "tuple", data := .seq is1.toArray } (.tup ys))) { st with heap := h'.push { cls := .type "tuple", data := .seq is1.toArray } } :=
      Ia.laid (t' := st.toks) (fun b o e => Heap.get?_push_of_some _ e) (Nat.le_refl _) (show ObjOk X.prog X.w _ _ _ (.frz _ (.tup ys)) from ⟨Heap.get?_push_size _ rfl, hl, is1, rv, IsTup.new _ _⟩)
    exact ⟨.ref h'.objs.size, _, Ib, rfl, q _ _ (Ia.hok.fresh (Nat.le_refl _)) rfl rfl⟩
  · obtain ⟨is1, rv, pz, hl⟩ := I.tuple hk
    exact call_tuple_same pz ⟨.ref p, H, I, rfl, q⟩
def cListOf : List PyData → R PyData
  | [.list ds] => .ok (.list ds)
  | [.tuple ds] => .ok (.list ds)
  | _ => .stuck
def cTupOf : List PyData → R PyData
  | [.list ds] => .ok (.tuple ds)
  | [.tuple ds] => .ok (.tuple ds)
  | _ => .stuck
theorem cas_listOf : CaS K C E (rListOf K) cListOf := by
  intro mu G0 H0 env σ G H xs ds Q S r h
  cases r with
  | nil => exact h.elim
  | cons r1 r2 =>
    cases r2 with
    | cons _ _ => cases r1 <;> exact h.elim
    | nil =>
      cases r1 with
      | lst a b => exact ⟨_, _, rfl, .inl (SqL.of (S.sub _ _ a)), fun p hp => post_new S h hp _ nt_lst (.lst upd_same (RpA.mono (same_new (S.sub.free hp)) _ _ b))⟩
      | tup a b => exact ⟨_, _, rfl, .inr (sqt_same S.sub a), fun p hp => post_new S h hp _ nt_lst (.lst upd_same (RpA.mono (same_new (S.sub.free hp)) _ _ b))⟩
      | _ => exact h.elim
theorem cas_tupOf : CaS K C E (rTupOf K) cTupOf := by
  intro mu G0 H0 env σ G H xs ds Q S r h
  cases r with
  | nil => exact h.elim
  | cons r1 r2 =>
    cases r2 with
    | cons _ _ => cases r1 <;> exact h.elim
    | nil =>
      cases r1 with
      | lst a b => exact ⟨_, _, rfl, .inl ⟨SqL.of (S.sub _ _ a), fun p o hp hc hd => post_new S h hp _ nt_frz (.tup (tpt_new hc hd) (RpA.mono (same_new (S.sub.free hp)) _ _ b))⟩⟩
      | tup a b => exact ⟨_, _, rfl, .inr ⟨sqt_same S.sub a, post_here S h (.tup a b)⟩⟩
      | _ => exact h.elim
/-! ### sum, max of a list of ints -/
def intsOf : List PyData → Option (List Int)
  | [] => some []
  | .int i :: r => (match intsOf r with
    | some l => some (i :: l)
    | none => none)
  | _ => none
theorem intsOf_eq : ∀ {ds : List PyData} {is : List Int}, intsOf ds = some is → ds = intsD is
  | [], is, h => by cases h; rfl
  | d :: r, is, h => by
    cases d with
    | int i =>
      unfold intsOf at h
      cases e : intsOf r with
      | none => rw [e] at h; cases h
      | some l => rw [e] at h; cases h; rw [intsOf_eq e]; rfl
    | _ => cases h
def sumI : List Int → Int
  | [] => 0
  | i :: r => i + sumI r
theorem sumI_eq : ∀ (l : List Int), sumI l = l.sum
  | [] => rfl
  | i :: r => by rw [List.sum_cons, ← sumI_eq r]; rfl
def cSum : List PyData → R PyData
  | [.list ds] => (match intsOf ds with
    | some l => .ok (.int (sumI l))
    | none => .stuck)
  | _ => .stuck
theorem cas_sum : CaS K C E (rSum K) cSum := by
  intro mu G0 H0 env σ G H xs ds Q S r h
  cases r with
  | nil => exact h.elim
  | cons r1 r2 =>
    cases r2 with
    | cons _ _ => cases r1 <;> exact h.elim
    | nil =>
      cases r1 with
      | lst a b =>
        rename_i p vs es
        cases e : intsOf es with
        | none => simp only [cSum, e] at h; exact h.elim
        | some l =>
          simp only [cSum, e] at h
          have eb := intsOf_eq e
          subst eb
          refine ⟨_, l, rfl, ?_, ?_⟩
          · rw [← rpa_ints l _ b]; exact SqL.of (S.sub _ _ a)
          · rw [← sumI_eq]; exact post_here S h (.int _)
      | _ => exact h.elim
end
end LW

namespace LW
open PySem PySem.Spec PyProof.Rows L2
section
variable {K : PySem.W.Frag} {mu : Mu} {G0 H0 G H G' H' H1 : Hp} {env env' : LEnv} {σ σ' : L2.St} {C : Cl} {E : XK} {X : Cx}
/-! ### max of a list of ints, min and max of two -/
def maxI : List Int → Int → Int
  | [], m => m
  | i :: r, m => maxI r (bif decide (m < i) then i else m)
theorem maxI_mem : ∀ (l : List Int) (m : Int), maxI l m ∈ m :: l
  | [], m => List.mem_singleton.mpr rfl
  | i :: r, m => by
    have h := maxI_mem r (bif decide (m < i) then i else m)
    show maxI r (bif decide (m < i) then i else m) ∈ m :: i :: r
    rcases List.mem_cons.mp h with h | h
    · rw [h]
      cases decide (m < i) with
      | true => exact List.mem_cons_of_mem _ List.mem_cons_self
      | false => exact List.mem_cons_self
    · exact List.mem_cons_of_mem _ (List.mem_cons_of_mem _ h)
theorem maxI_ge : ∀ (l : List Int) (m : Int), m ≤ maxI l m ∧ ∀ x ∈ l, x ≤ maxI l m
  | [], m => ⟨Int.le_refl _, fun x h => by cases h⟩
  | i :: r, m => by
    obtain ⟨h1, h2⟩ := maxI_ge r (bif decide (m < i) then i else m)
    have h3 : m ≤ (bif decide (m < i) then i else m) ∧ i ≤ (bif decide (m < i) then i else m) := by
      by_cases h : m < i
      · rw [decide_eq_true h]; simp only [cond_true]; omega
      · rw [decide_eq_false h]; simp only [cond_false]; omega
    show m ≤ maxI r _ ∧ ∀ x ∈ i :: r, x ≤ maxI r _
    refine ⟨by omega, fun x hx => ?_⟩
    rcases List.mem_cons.mp hx with rfl | hx
    · omega
    · exact h2 x hx
def cMax : List PyData → R PyData
  | [.list ds] => (match intsOf ds with
    | some (i :: l) => .ok (.int (maxI l i))
    | _ => .stuck)
  | [.int i, .int j] => .ok (.int (bif decide (i < j) then j else i))
  | _ => .stuck
def cMin : List PyData → R PyData
  | [.int i, .int j] => .ok (.int (bif decide (j < i) then j else i))
  | _ => .stuck
abbrev rMax2 (K : PySem.W.Frag) : List V → Hp → VK → Prop := fun xs H Q => (∃ i j, xs = [.int i, .int j] ∧ Q (.int (if j > i then j else i)) H) ∨ rMax K xs H Q
theorem call_maxA (hc : X.calm = true) : CallR X (.builtin "max") (rMax2 X.K) := by
  intro pins s σ H vs us Q I r h
  rcases h with h | h
  · exact call_max2 hc pins s σ H vs us Q I r h
  · exact cr_max hc pins s σ H vs us Q I r h
theorem cas_max : CaS K C E (rMax2 K) cMax := by
  intro mu G0 H0 env σ G H xs ds Q S r h
  cases r with
  | nil => exact h.elim
  | cons r1 r2 =>
    cases r2 with
    | cons r2 r3 =>
      cases r3 with
      | cons _ _ => cases r1 <;> cases r2 <;> exact h.elim
      | nil =>
        cases r1 <;> cases r2 <;> first | exact h.elim | skip
        rename_i i j
        refine .inl ⟨i, j, rfl, ?_⟩
        have e : (if j > i then j else i) = (bif decide (i < j) then j else i) := by
          by_cases h : i < j
          · rw [if_pos h, decide_eq_true h]; rfl
          · rw [if_neg h, decide_eq_false h]; rfl
        rw [e]
        exact post_here S h (.int _)
    | nil =>
      cases r1 with
      | lst a b =>
        rename_i p vs es
        cases e : intsOf es with
        | none => simp only [cMax, e] at h; exact h.elim
        | some l =>
          cases l with
          | nil => simp only [cMax, e] at h; exact h.elim
          | cons i l =>
            simp only [cMax, e] at h
            have eb := intsOf_eq e
            subst eb
            refine .inr ⟨_, i :: l, rfl, ?_, by simp, fun m hm hy => ?_⟩
            · rw [← rpa_ints _ _ b]; exact SqL.of (S.sub _ _ a)
            · have h1 := hy _ (maxI_mem l i)
              have h2 : m ≤ maxI l i := by
                rcases List.mem_cons.mp hm with rfl | hm
                · exact (maxI_ge l m).1
                · exact (maxI_ge l i).2 m hm
              have e2 : m = maxI l i := by omega
              rw [e2]
              exact post_here S h (.int _)
      | _ => exact h.elim
abbrev rMin2 : List V → Hp → VK → Prop := fun xs H Q => ∃ i j, xs = [.int i, .int j] ∧ Q (.int (if j < i then j else i)) H
theorem cas_min : CaS K C E rMin2 cMin := by
  intro mu G0 H0 env σ G H xs ds Q S r h
  cases r with
  | nil => exact h.elim
  | cons r1 r2 =>
    cases r2 with
    | nil => cases r1 <;> exact h.elim
    | cons r2 r3 =>
      cases r3 with
      | cons _ _ => cases r1 <;> cases r2 <;> exact h.elim
      | nil =>
        cases r1 <;> cases r2 <;> first | exact h.elim | skip
        rename_i i j
        refine ⟨i, j, rfl, ?_⟩
        have e : (if j < i then j else i) = (bif decide (j < i) then j else i) := by
          by_cases h : j < i
          · rw [if_pos h, decide_eq_true h]; rfl
          · rw [if_neg h, decide_eq_false h]; rfl
        rw [e]
        exact post_here S h (.int _)
/-! ### slices -/
def cutD (xs : List PyData) (lo hi : Option Int) : List PyData := (xs.drop (HT.sIx xs.length 0 lo)).take (HT.sIx xs.length xs.length hi - HT.sIx xs.length 0 lo)
theorem RpA.cut {vs : List V} {ds : List PyData} (h : RpA K G vs ds) (lo hi : Option Int) : RpA K G (cutV vs lo hi) (cutD ds lo hi) := by
  unfold cutV cutD
  rw [h.length]
  exact (h.drop _).take _
theorem cutD_whole {ds : List PyData} {lo hi : Option Int} (h : HT.sIx ds.length 0 lo = 0 ∧ HT.sIx ds.length ds.length hi = ds.length) : cutD ds lo hi = ds := by
  unfold cutD
  rw [h.1, h.2, List.drop_zero, Nat.sub_zero, List.take_length]
def iSl : PyData → Option Int → Option Int → R PyData
  | .list ds, lo, hi => .ok (.list (cutD ds lo hi))
  | .tuple ds, lo, hi => .ok (.tuple (cutD ds lo hi))
  | _, _, _ => .stuck
def rSlF (K : PySem.W.Frag) : V → Option Int → Option Int → Hp → VK → Prop := fun x lo hi H Q => ∃ a xs, x = .ref a ∧ SqT K H a xs ∧
  (HT.sIx xs.length 0 lo = 0 ∧ HT.sIx xs.length xs.length hi = xs.length → Q (.ref a) H) ∧ (¬ (HT.sIx xs.length 0 lo = 0 ∧ HT.sIx xs.length xs.length hi = xs.length) → ∀ p o, H p = none → o.cls = .type "tuple" → o.dict = none → Q (.ref p) (upd H p (.frz o (.tup (cutV xs lo hi)))))
theorem sl_tupF : SlR X (rSlF X.K) := by
  intro pn st σ H x v vl vu lo hi sl Q I rx hs pl pu h
  obtain ⟨a, xs, rfl, hs1, k1, k2⟩ := h
  cases rx
  obtain ⟨is1, rv, ht, hz⟩ := I.tuple hs1
  have hle : is1.toArray.size = xs.length := by rw [List.size_toArray]; exact rv.length.symm
  refine ⟨"tuple", _, PyProof.Rows.slot_tuple_getitem.lookup, ht.typeIs, ?_⟩
  by_cases hv : HT.sIx xs.length 0 lo = 0 ∧ HT.sIx xs.length xs.length hi = xs.length
  · exact getItem_tuple_whole ht hs pl pu (by rw [hle]; exact hv) ⟨.ref a, H, I, rfl, k1 hv⟩
  · refine HT.getItem_tuple_cut ht hs pl pu (by rw [hle]; exact hv) ?_ (by rw [hle]; exact hz)
    rw [hle]
    refine ⟨.ref st.heap.objs.size, _, I.laid (t' := st.toks) (o := .frz { cls := .type "tuple", data := .seq (List.take (HT.sIx xs.length xs.length hi - HT.sIx xs.length 0 lo) (List.drop (HT.sIx xs.length 0 lo) is1)).toArray } (.tup (cutV xs lo hi))) (fun b ob q => Heap.get?_push_of_some _ q) (Nat.le_refl _) ?_, rfl, k2 hv _ _ (I.hok.fresh (Nat.le_refl _)) rfl rfl⟩
    exact ⟨Heap.get?_push_size _ rfl, Nat.le_trans (cutV_length xs lo hi) hz, _, (rv.drop (HT.sIx xs.length 0 lo)).take (HT.sIx xs.length xs.length hi - HT.sIx xs.length 0 lo), IsTup.new _ _⟩
def rSl2 (K : PySem.W.Frag) : V → Option Int → Option Int → Hp → VK → Prop := fun x lo hi H Q => rSlL K x lo hi H Q ∨ rSlF K x lo hi H Q
theorem sl2 : SlR X (rSl2 X.K) := SlR.or sl_list sl_tupF
abbrev MP := LEnv → RE (Option Int)
def mNoPart : MP := fun env => .ok (env, none)
def mPart (g : M) : MP := fun env => (g env).bind fun p => match p.2 with
  | .int i => .ok (p.1, some i)
  | _ => .stuck
abbrev RlP : Hp → Option Int → Option Int → Prop := fun _ a b => a = b
def SndP (K : PySem.W.Frag) (C : Cl) (E : XK) (t : TO) (m : MP) : Prop := ∀ mu G0 H0 env σ G H Q, StR K C mu G0 H0 env σ G H → Post RlP K C E mu G0 H0 σ G (m env) Q → t σ H Q
theorem sndp_no : SndP K C E tNoPart mNoPart := by
  intro mu G0 H0 env σ G H Q S h
  exact post_here S h rfl
theorem sndp_some {te : TE} {g : M} (hg : Snd K C E te g) : SndP K C E (tPart te) (mPart g) := by
  intro mu G0 H0 env σ G H Q S hh
  refine hg _ _ _ _ _ _ _ _ S (hh.bind fun p x G1 H1 S1 s1 r1 h1 => ?_)
  obtain ⟨e, d⟩ := p
  cases r1 <;> first | exact h1.elim | exact ⟨_, rfl, post_here S1 h1 rfl⟩
def mSl (f : M) (lo hi : MP) : M := fun env => (f env).bind fun p => (lo p.1).bind fun q => (hi q.1).bind fun r => lif r.1 (iSl p.2 q.2 r.2)
theorem snd_sl {te : TE} {f : M} {tl th : TO} {lo hi : MP} (hf : Snd K C E te f) (hl : SndP K C E tl lo) (hh : SndP K C E th hi) : Snd K C E (tSl (rSl2 K) te tl th) (mSl f lo hi) := by
  intro mu G0 H0 env σ G H Q S h
  refine hf _ _ _ _ _ _ _ _ S (h.bind fun p x G1 H1 S1 s1 r1 h1 => ?_)
  obtain ⟨e1, d⟩ := p
  refine hl _ _ _ _ _ _ _ _ S1 (h1.bind fun q o G2 H2 S2 s2 r2 h2 => ?_)
  obtain ⟨e2, o2⟩ := q
  refine hh _ _ _ _ _ _ _ _ S2 (h2.bind fun q o3 G3 H3 S3 s3 r3 h3 => ?_)
  obtain ⟨e3, o4⟩ := q
  have r2 : o = o2 := r2
  have r3 : o3 = o4 := r3
  subst r2
  subst r3
  have r1 : Rp K G3 x d := Rp.mono (s2.trans s3) _ _ r1
  cases r1 with
  | lst a b =>
    exact .inl ⟨_, _, rfl, SqL.of (S3.sub _ _ a), fun p hp => post_new S3 h3 hp _ nt_lst (.lst upd_same (RpA.mono (same_new (S3.sub.free hp)) _ _ (b.cut _ _)))⟩
  | tup a b =>
    refine .inr ⟨_, _, rfl, sqt_same S3.sub a, fun w => ?_, fun w p o hp hc hd => ?_⟩
    · rw [b.length] at w
      have h3 : Post (RlE K) K C E mu G0 H0 σ G3 (.ok (e3, .tuple (cutD _ o o3))) Q := h3
      rw [cutD_whole w] at h3
      exact post_here S3 h3 (.tup a b)
    · exact post_new S3 h3 hp _ nt_frz (.tup (tpt_new hc hd) (RpA.mono (same_new (S3.sub.free hp)) _ _ (b.cut _ _)))
  | _ => exact h3.elim
structure PD (X : Cx) (C : Cl) (E : XK) (e : Option Expr) (t : TO) (m : MP) : Prop where
  pe : PO X e t
  sd : SndP X.K C E t m
theorem p_no : PD X C E none tNoPart mNoPart := ⟨po_none, sndp_no⟩
theorem p_some {e : Expr} {te : TE} {g : M} (h : ED X C E e te g) : PD X C E (some e) (tPart te) (mPart g) := ⟨po_some h.pe, sndp_some h.sd⟩
theorem d_slice {e : Expr} {lo hi : Option Expr} {te : TE} {f : M} {tl th : TO} {ml mh : MP} {pos p2 : Pos} (he : ED X C E e te f) (hl : PD X C E lo tl ml) (hh : PD X C E hi th mh) : ED X C E (.Subscript e (.Slice lo hi none p2) pos) (tSl (rSl2 X.K) te tl th) (mSl f ml mh) :=
  ⟨pe_slice sl2 he.pe hl.pe hh.pe, snd_sl he.sd hl.sd hh.sd⟩
end
end LW

namespace LW
open PySem PySem.Spec PyProof.Rows L2
section
variable {K : PySem.W.Frag} {mu : Mu} {G0 H0 G H G' H' H1 : Hp} {env env' : LEnv} {σ σ' : L2.St} {C : Cl} {E : XK} {X : Cx}
/-! ### list(range(n)), list(range(i, j)) -/
theorem rg_up (a b : Int) : rgV a b = upV a (b - a).toNat := by
  apply List.ext_getElem?
  intro i
  by_cases h : i < (b - a).toNat
  · rw [upV_get a _ i h]
    unfold rgV
    rw [List.getElem?_map, List.getElem?_range h]
    rfl
  · rw [List.getElem?_eq_none (by rw [rgV_length]; omega), List.getElem?_eq_none (by rw [upV_length]; omega)]
def mLiR1 (f : M) : M := fun env => (f env).bind fun p => match p.2 with
  | .int j => gd (near j) (.ok (p.1, .list (upFrom 0 j.toNat)))
  | _ => .stuck
def mLiR2 (f g : M) : M := fun env => (f env).bind fun p => (g p.1).bind fun q => match p.2, q.2 with
  | .int i, .int j => gd (near i && near j) (.ok (q.1, .list (upFrom i (j - i).toNat)))
  | _, _ => .stuck
theorem rgok {i j : Int} (h1 : near i = true) (h2 : near j = true) : RgOk i j := by
  have a := near_is h1
  have b := near_is h2
  exact ⟨by omega, by omega, by omega, by omega, by omega⟩
theorem snd_liR1 {ta : TE} {f : M} (h : Snd K C E ta f) : Snd K C E (tLstRg (tRg1 ta)) (mLiR1 f) := by
  intro mu G0 H0 env σ G H Q S hh
  refine h _ _ _ _ _ _ _ _ S (hh.bind fun p x G1 H1 S1 s1 r1 h1 => ?_)
  obtain ⟨e, d⟩ := p
  cases r1 <;> first | exact h1.elim | skip
  rename_i n
  obtain ⟨c, h1⟩ := Post.gd h1
  refine ⟨n, rfl, rgok rfl c, fun q hq => ?_⟩
  rw [rg_up, Int.sub_zero]
  exact post_new S1 h1 hq _ nt_lst (.lst upd_same (rpa_up 0 n.toNat))
theorem snd_liR2 {ta tb : TE} {f g : M} (hf : Snd K C E ta f) (hg : Snd K C E tb g) : Snd K C E (tLstRg (tRg2 ta tb)) (mLiR2 f g) := by
  intro mu G0 H0 env σ G H Q S hh
  refine hf _ _ _ _ _ _ _ _ S (hh.bind fun p x G1 H1 S1 s1 r1 h1 => ?_)
  obtain ⟨e, d⟩ := p
  refine hg _ _ _ _ _ _ _ _ S1 (h1.bind fun q y G2 H2 S2 s2 r2 h2 => ?_)
  obtain ⟨e2, d2⟩ := q
  cases r1 <;> cases r2 <;> first | exact h2.elim | skip
  rename_i i j
  obtain ⟨c, h2⟩ := Post.gd h2
  obtain ⟨c1, c2⟩ := Bool.and_eq_true_iff.mp c
  refine ⟨i, j, rfl, rfl, rgok c1 c2, fun q hq => ?_⟩
  rw [rg_up]
  exact post_new S2 h2 hq _ nt_lst (.lst upd_same (rpa_up i (j - i).toNat))
theorem d_liR1 {a : Expr} {ta : TE} {f : M} {p q pos pos2 : Pos} (hc : X.calm = true) (hgl : Gl X "list") (hml : X.mg "list" = none) (hg : Gl X "range") (hm : X.mg "range" = none) (h : ED X C E a ta f)
    (n1 : starEach [a] X.env = (false, eval a X.env) :: starEach [] X.env := by rfl) (n2 : starEach [Expr.Call (.Name "range" q) [a] [] pos2] X.env = (false, eval (Expr.Call (.Name "range" q) [a] [] pos2) X.env) :: starEach [] X.env := by rfl) :
    ED X C E (.Call (.Name "list" p) [.Call (.Name "range" q) [a] [] pos2] [] pos) (tLstRg (tRg1 ta)) (mLiR1 f) := ⟨pe_listRg hc hgl hml (prg_1 hg hm h.pe n1) n2, snd_liR1 h.sd⟩
theorem d_liR2 {a b : Expr} {ta tb : TE} {f g : M} {p q pos pos2 : Pos} (hc : X.calm = true) (hgl : Gl X "list") (hml : X.mg "list" = none) (hg : Gl X "range") (hm : X.mg "range" = none) (h : ED X C E a ta f) (h2 : ED X C E b tb g)
    (n1 : starEach [a, b] X.env = (false, eval a X.env) :: starEach [b] X.env := by rfl) (n2 : starEach [b] X.env = (false, eval b X.env) :: starEach [] X.env := by rfl) (n3 : (backTo pos2 (starEach [b] X.env)).any (·.1) = false := by rfl)
    (n4 : starEach [Expr.Call (.Name "range" q) [a, b] [] pos2] X.env = (false, eval (Expr.Call (.Name "range" q) [a, b] [] pos2) X.env) :: starEach [] X.env := by rfl) :
    ED X C E (.Call (.Name "list" p) [.Call (.Name "range" q) [a, b] [] pos2] [] pos) (tLstRg (tRg2 ta tb)) (mLiR2 f g) := ⟨pe_listRg hc hgl hml (prg_2 hg hm h.pe h2.pe n1 n2 n3) n4, snd_liR2 h.sd h2.sd⟩
/-! ### an int in a list or a tuple of ints -/
def hasI (i : Int) : List Int → Bool
  | [] => false
  | j :: r => (j == i) || hasI i r
theorem hasI_eq (i : Int) : ∀ (l : List Int), inV (.int i) (l.map V.int) = hasI i l
  | [] => rfl
  | j :: r => by
    have ih := hasI_eq i r
    unfold inV at ih ⊢
    rw [List.map_cons, List.any_cons, ih]
    rfl
theorem flat_ints : ∀ (l : List Int), (l.map V.int).all flatV = true
  | [] => rfl
  | i :: r => by rw [List.map_cons, List.all_cons, flat_ints r]; rfl
def iInF (neg : Bool) : PyData → PyData → R PyData
  | .int i, .list ds => (match intsOf ds with
    | some l => .ok (.bool (bif neg then !hasI i l else hasI i l))
    | none => .stuck)
  | .int i, .tuple ds => (match intsOf ds with
    | some l => .ok (.bool (bif neg then !hasI i l else hasI i l))
    | none => .stuck)
  | _, _ => .stuck
theorem if_b (neg a b : Bool) : (if neg then a else b) = (bif neg then a else b) := by cases neg <;> rfl
theorem ops_inF {neg : Bool} : OpS K C E (rIn K neg) (iInF neg) := by
  intro mu G0 H0 env σ G H x y dx dy Q S rx ry h
  cases rx with
  | int i =>
    cases ry with
    | lst a b =>
      rename_i p vs es
      cases e : intsOf es with
      | none => simp only [iInF, e] at h; exact h.elim
      | some l =>
        simp only [iInF, e] at h
        have eb := intsOf_eq e
        subst eb
        refine ⟨_, l.map V.int, rfl, .inl ?_, rfl, flat_ints l, ?_⟩
        · rw [← rpa_ints l _ b]; exact SqL.of (S.sub _ _ a)
        · rw [hasI_eq, if_b]; exact post_here S h (.bl _)
    | tup a b =>
      rename_i p vs es
      cases e : intsOf es with
      | none => simp only [iInF, e] at h; exact h.elim
      | some l =>
        simp only [iInF, e] at h
        have eb := intsOf_eq e
        subst eb
        refine ⟨_, l.map V.int, rfl, .inr ?_, rfl, flat_ints l, ?_⟩
        · rw [← rpa_ints l _ b]; exact sqt_same S.sub a
        · rw [hasI_eq, if_b]; exact post_here S h (.bl _)
    | _ => exact h.elim
  | _ => cases ry <;> exact h.elim
theorem t_inF {a b : Expr} {ta tb : TE} {f g : M} {pos : Pos} (ha : ED X C E a ta f) (hb : ED X C E b tb g) (hm : behindInMarks .In b = false := by rfl) : TD X C E (.Compare a [.In] [b] pos) (tTest (tOp (rIn X.K false) ta tb)) (mtB (mOp (iInF false) f g)) := t_cmpR op_in_seq ops_inF hm ha hb
theorem t_niF {a b : Expr} {ta tb : TE} {f g : M} {pos : Pos} (ha : ED X C E a ta f) (hb : ED X C E b tb g) (hm : behindInMarks .NotIn b = false := by rfl) : TD X C E (.Compare a [.NotIn] [b] pos) (tTest (tOp (rIn X.K true) ta tb)) (mtB (mOp (iInF true) f g)) := t_cmpR op_notIn_seq ops_inF hm ha hb
end
end LW

namespace LW
open PySem PySem.Spec PyProof.Rows L2
section
variable {K : PySem.W.Frag} {mu : Mu} {G0 H0 G H G' H' H1 : Hp} {env env' : LEnv} {σ σ' : L2.St} {C : Cl} {E : XK} {X : Cx}
/-! ### a new list for a slot of one's own -/
theorem StR.mk_own (S : StR K C mu G0 H0 env σ G H) {i : Nat} {p : Addr} {o' : HO} {ds : List PyData} (hi : i < env.length) (hp : H p = none) (r : OwR K G p o' ds) : StR K C mu G0 H0 (env.set i (some (.ow false ds))) (σ.set i (some (.ref p))) G (upd H p o') := by
  have hσ : i < σ.length := by rw [← S.len]; exact hi
  have nch : ¬ mu.ch p := fun z => by
    obtain ⟨xs, _, e⟩ := S.mh p z
    rw [hp] at e; cases e
  have hl : ∀ (j : Nat) m ds', env[j]? = some (some (.ow m ds')) → ∃ q, σ[j]? = some (some (.ref q)) ∧ q ≠ p := fun j m ds' e => by
    obtain ⟨q, vs', h1, h2, _⟩ := S.ol j m ds' e
    exact ⟨q, h1, fun z => by rw [z, hp] at h2; cases h2⟩
  exact {
    sub := fun a o e => same_new hp a o (S.sub a o e)
    ng := S.ng
    g0 := S.g0
    fz := S.fz.same (same_new hp)
    new := S.new
    mh := fun a m => by
      obtain ⟨xs, n, e⟩ := S.mh a m
      exact ⟨xs, n, same_new hp _ _ e⟩
    len := by rw [List.length_set, List.length_set, S.len]
    sh := fun j d e => by
      by_cases z : i = j
      · subst z
        rw [List.getElem?_set_self hi] at e; cases e
      · rw [List.getElem?_set_ne z] at e ⊢
        exact S.sh j d e
    ol := fun j m ds' e => by
      by_cases z : i = j
      · subst z
        rw [List.getElem?_set_self hi] at e
        cases e
        refine ⟨p, o', List.getElem?_set_self hσ, upd_same, r, ?_, ?_⟩
        · cases q : G p with
          | none => rfl
          | some o => have := S.sub _ _ q; rw [hp] at this; cases this
        · exact .inr fun u n q => by
            have := S.fz.k p u nch n q
            rw [hp] at this; cases this
      · rw [List.getElem?_set_ne z] at e ⊢
        obtain ⟨q, vs', h1, h2, h3, h4, h5⟩ := S.ol j m ds' e
        exact ⟨q, vs', h1, same_new hp _ _ h2, h3, h4, h5⟩
    ow := fun j k q ⟨m1, d1, e1⟩ ⟨m2, d2, e2⟩ s1 s2 => by
      by_cases zj : i = j
      · by_cases zk : i = k
        · rw [← zj, ← zk]
        · subst zj
          rw [List.getElem?_set_self hσ] at s1
          rw [List.getElem?_set_ne zk] at e2 s2
          obtain ⟨q', h1, h2⟩ := hl k m2 d2 e2
          rw [s2] at h1
          have e3 : q = q' := by injection Option.some.inj (Option.some.inj h1)
          have e4 : p = q := by injection Option.some.inj (Option.some.inj s1)
          exact absurd (by rw [← e3, e4]) h2
      · by_cases zk : i = k
        · subst zk
          rw [List.getElem?_set_self hσ] at s2
          rw [List.getElem?_set_ne zj] at e1 s1
          obtain ⟨q', h1, h2⟩ := hl j m1 d1 e1
          rw [s1] at h1
          have e3 : q = q' := by injection Option.some.inj (Option.some.inj h1)
          have e4 : p = q := by injection Option.some.inj (Option.some.inj s2)
          exact absurd (by rw [← e3, e4]) h2
        · rw [List.getElem?_set_ne zj] at e1 s1
          rw [List.getElem?_set_ne zk] at e2 s2
          exact S.ow j k q ⟨m1, d1, e1⟩ ⟨m2, d2, e2⟩ s1 s2 }
/-- what makes a new list: its reading lays it anywhere new -/
def PostN (K : PySem.W.Frag) (C : Cl) (E : XK) (mu : Mu) (G0 H0 : Hp) (σ : L2.St) (G : Hp) : RE (List PyData) → VK → Prop
  | .ok p, Q => ∀ G' H' vs q, StR K C mu G0 H0 p.1 σ G' H' → Same G G' → RpA K G' vs p.2 → H' q = none → Q (.ref q) (upd H' q (.lst vs))
  | .rai c, _ => ∀ H', Fz C.T mu.ch H0 H' → E (C.cl c) none H'
  | .stuck, _ => False
def SndN (K : PySem.W.Frag) (C : Cl) (E : XK) (te : TE) (m : MA) : Prop := ∀ mu G0 H0 env σ G H Q, StR K C mu G0 H0 env σ G H → PostN K C E mu G0 H0 σ G (m env) Q → te σ H Q
def mOwn (i : Nat) (m : MA) : MS := fun env => bindS (m env) fun p => match Nat.blt i p.1.length with
  | true => .nx (p.1.set i (some (.ow false p.2)))
  | false => .stuck
theorem snds_own {i : Nat} {te : TE} {m : MA} (h : SndN K C E te m) : SndS K C E (tAsg te (gName i)) (mOwn i m) := by
  intro mu G0 H0 env σ G H D S hh
  refine h _ _ _ _ _ _ _ _ S ?_
  unfold mOwn at hh
  cases e : m env with
  | ok p =>
    rw [e] at hh
    intro G' H' vs q S' s r hq
    have hh : PostS K C E mu G0 H0 G (match Nat.blt i p.1.length with | true => .nx (p.1.set i (some (.ow false p.2))) | false => .stuck) D := hh
    cases c : Nat.blt i p.1.length with
    | true =>
      rw [c] at hh
      exact hh _ _ _ (S'.mk_own (Nat.le_of_ble_eq_true c) hq (.lst r)) s
    | false => rw [c] at hh; exact hh.elim
  | rai c => rw [e] at hh; exact hh
  | stuck => rw [e] at hh; exact hh.elim
structure ND (X : Cx) (C : Cl) (E : XK) (e : Expr) (te : TE) (m : MA) : Prop where
  pe : PE X e te
  sd : SndN X.K C E te m
theorem postN_bind {β γ : Type} {Rl : Hp → β → γ → Prop} {r : RE γ} {f : LEnv × γ → RE (List PyData)} {Q : VK} {Q1 : β → Hp → Prop} (h : PostN K C E mu G0 H0 σ G (r.bind f) Q)
    (k : ∀ p v G' H', StR K C mu G0 H0 p.1 σ G' H' → Same G G' → Rl G' v p.2 → PostN K C E mu G0 H0 σ G' (f p) Q → Q1 v H') : Post Rl K C E mu G0 H0 σ G r Q1 := by
  cases r with
  | ok p =>
    intro v G' H' S s r
    refine k p v G' H' S s r ?_
    have h : PostN K C E mu G0 H0 σ G (f p) Q := h
    cases e : f p with
    | ok q => rw [e] at h; exact fun G2 H2 vs a S2 s2 => h G2 H2 vs a S2 (s.trans s2)
    | rai c => rw [e] at h; exact h
    | stuck => rw [e] at h; exact h.elim
  | rai c => exact h
  | stuck => exact h.elim
theorem PostN.gd {c : Bool} {r : RE (List PyData)} {Q : VK} (h : PostN K C E mu G0 H0 σ G (gd c r) Q) : c = true ∧ PostN K C E mu G0 H0 σ G r Q := by
  cases c with
  | true => exact ⟨rfl, h⟩
  | false => exact h.elim
def nLst (g : MA) : MA := fun env => (g env).bind fun q => gd (Nat.ble q.2.length small) (.ok (q.1, q.2))
theorem sndn_lst {ta : TA} {g : MA} (h : SndA K C E ta g) : SndN K C E (tLst ta) (nLst g) := by
  intro mu G0 H0 env σ G H Q S hh
  refine h _ _ _ _ _ _ _ _ S (postN_bind hh fun p xs G1 H1 S1 s1 r1 h1 => ?_)
  obtain ⟨c, h1⟩ := h1.gd
  exact ⟨by rw [r1.length]; exact Nat.le_trans (Nat.le_of_ble_eq_true c) small_le, fun q hq => h1 G1 H1 xs q S1 (.refl _) r1 hq⟩
def nCat (f g : M) : MA := fun env => (f env).bind fun p => (g p.1).bind fun q => match p.2, q.2 with
  | .list a, .list b => gd (Nat.ble (a.length + b.length) small) (.ok (q.1, a ++ b))
  | _, _ => .stuck
theorem sndn_cat {ta tb : TE} {f g : M} (hf : Snd K C E ta f) (hg : Snd K C E tb g) : SndN K C E (tOp (rAddA K) ta tb) (nCat f g) := by
  intro mu G0 H0 env σ G H Q S hh
  refine hf _ _ _ _ _ _ _ _ S (postN_bind hh fun p x G1 H1 S1 s1 r1 h1 => ?_)
  obtain ⟨e1, d1⟩ := p
  refine hg _ _ _ _ _ _ _ _ S1 (postN_bind h1 fun q y G2 H2 S2 s2 r2 h2 => ?_)
  obtain ⟨e2, d2⟩ := q
  have r1 : Rp K G2 x d1 := Rp.mono s2 _ _ r1
  cases r1 with
  | lst a1 b1 =>
    cases r2 with
    | lst a2 b2 =>
      obtain ⟨c, h2⟩ := PostN.gd h2
      refine .inr (.inr (.inr ⟨_, _, _, _, rfl, rfl, S2.sub _ _ a1, S2.sub _ _ a2, ?_, fun p hp => h2 G2 H2 _ p S2 (.refl _) (b1.append b2) hp⟩))
      rw [b1.length, b2.length]
      exact Nat.le_trans (Nat.le_of_ble_eq_true c) small_le
    | _ => exact h2.elim
  | _ => cases r2 <;> exact h2.elim
def nLiR1 (f : M) : MA := fun env => (f env).bind fun p => match p.2 with
  | .int j => gd (near j) (.ok (p.1, upFrom 0 j.toNat))
  | _ => .stuck
theorem sndn_liR1 {ta : TE} {f : M} (h : Snd K C E ta f) : SndN K C E (tLstRg (tRg1 ta)) (nLiR1 f) := by
  intro mu G0 H0 env σ G H Q S hh
  refine h _ _ _ _ _ _ _ _ S (postN_bind hh fun p x G1 H1 S1 s1 r1 h1 => ?_)
  obtain ⟨e, d⟩ := p
  cases r1 <;> first | exact h1.elim | skip
  rename_i n
  obtain ⟨c, h1⟩ := PostN.gd h1
  refine ⟨n, rfl, rgok rfl c, fun q hq => ?_⟩
  rw [rg_up, Int.sub_zero]
  exact h1 G1 H1 _ q S1 (.refl _) (rpa_up 0 n.toNat) hq
theorem n_lst {es : List Expr} {taa : TA} {ma : MA} {pos : Pos} (h : AD X C E es taa ma) : ND X C E (.List es pos) (tLst taa) (nLst ma) := ⟨pe_lst h.pe, sndn_lst h.sd⟩
theorem n_cat {a b : Expr} {ta tb : TE} {f g : M} {pos : Pos} (ha : ED X C E a ta f) (hb : ED X C E b tb g) : ND X C E (.BinOp a .Add b pos) (tOp (rAddA X.K) ta tb) (nCat f g) := ⟨pe_op op_addA ha.pe hb.pe, sndn_cat ha.sd hb.sd⟩
theorem n_liR1 {a : Expr} {ta : TE} {f : M} {p q pos pos2 : Pos} (hc : X.calm = true) (hgl : Gl X "list") (hml : X.mg "list" = none) (hg : Gl X "range") (hm : X.mg "range" = none) (h : ED X C E a ta f)
    (n1 : starEach [a] X.env = (false, eval a X.env) :: starEach [] X.env := by rfl) (n2 : starEach [Expr.Call (.Name "range" q) [a] [] pos2] X.env = (false, eval (Expr.Call (.Name "range" q) [a] [] pos2) X.env) :: starEach [] X.env := by rfl) :
    ND X C E (.Call (.Name "list" p) [.Call (.Name "range" q) [a] [] pos2] [] pos) (tLstRg (tRg1 ta)) (nLiR1 f) := ⟨pe_listRg hc hgl hml (prg_1 hg hm h.pe n1) n2, sndn_liR1 h.sd⟩
theorem s_own (i : Nat) {y : Str} {e : Expr} {te : TE} {m : MA} {py pos : Pos} (he : ND X C E e te m) (hg : GD X C (.Name y py) (gName i) (bName i) [i]) (hs : swapsWithSole [.Name y py] e pos.line X.env = pure false := by rfl) (hw : swappedStores [.Name y py] e X.env = pure none := by rfl)
    (h1 : (assignEach [.Name y py] X.env).map (·.2) = [assign (.Name y py) X.env] := by rfl) : SD X C E (.Assign [.Name y py] e pos) (tAsg te (gName i)) (mOwn i m) := ⟨ps_asg he.pe hg.pe hs hw h1, snds_own he.sd⟩
end
end LW

namespace LW
open PySem PySem.Spec PyProof.Rows L2
section
variable {K : PySem.W.Frag} {mu : Mu} {G0 H0 G H G' H' H1 : Hp} {env env' : LEnv} {σ σ' : L2.St} {C : Cl} {E : XK} {X : Cx}
/-! ### an int in a list of one's own; one taken out of it -/
def mInO (neg : Bool) (i : Nat) (f : M) : M := fun env => (f env).bind fun p => match nth p.1 i with
  | some (some (.ow _ ds)) => gd (isL ds) (lif p.1 (iInF neg p.2 (.list ds)))
  | _ => .stuck
theorem snd_inO {neg : Bool} {i : Nat} {ta : TE} {f : M} (ha : Snd K C E ta f) : Snd K C E (tOp (rIn K neg) ta (tVar i)) (mInO neg i f) := by
  intro mu G0 H0 env σ G H Q S h
  refine ha _ _ _ _ _ _ _ _ S (h.bind fun p x G1 H1 S1 s1 r1 h1 => ?_)
  obtain ⟨e, d⟩ := p
  have h1 : Post (RlE K) K C E mu G0 H0 σ G1 (match nth e i with
    | some (some (.ow _ ds)) => gd (isL ds) (lif e (iInF neg d (.list ds)))
    | _ => .stuck) Q := h1
  rw [nth_eq] at h1
  cases e1 : e[i]? with
  | none => rw [e1] at h1; exact h1.elim
  | some o =>
    cases o with
    | none => rw [e1] at h1; exact h1.elim
    | some s =>
      rw [e1] at h1
      cases s with
      | sh d' => exact h1.elim
      | ow m ds =>
        obtain ⟨cl, h2⟩ := Post.gd (show Post (RlE K) K C E mu G0 H0 σ G1 (gd (isL ds) (lif e (iInF neg d (.list ds)))) Q from h1)
        obtain ⟨q, ws, e2, e3, e4, _⟩ := S1.olL e1 cl
        cases r1 with
        | int k =>
          cases ei : intsOf ds with
          | none => simp only [iInF, ei] at h2; exact h2.elim
          | some l =>
            simp only [iInF, ei] at h2
            have eb := intsOf_eq ei
            subst eb
            refine ⟨.ref q, e2, q, l.map V.int, rfl, .inl ?_, rfl, flat_ints l, ?_⟩
            · rw [← rpa_ints l _ e4]; exact SqL.of e3
            · rw [hasI_eq, if_b]; exact post_here S1 h2 (.bl _)
        | _ => exact h2.elim
theorem t_inO (i : Nat) {neg : Bool} {op : CmpOp} {a : Expr} {y : Str} {ta : TE} {f : M} {p pos : Pos} (ho : OpR X (compareOp op) (rIn X.K neg)) (ha : ED X C E a ta f) (hN : X.N[i]? = some y := by rfl) (hv : Vis X.env.scope y := by first | exact Or.inl rfl | exact Or.inr (Or.inl rfl) | exact Or.inr (Or.inr rfl)) (hd : (y == ("__debug__" : Str)) = false := by decide)
    (hcd : (y == ("__classdict__" : Str)) = false := by decide) (hm : behindInMarks op (.Name y p) = false := by rfl) : TD X C E (.Compare a [op] [.Name y p] pos) (tTest (tOp (rIn X.K neg) ta (tVar i))) (mtB (mInO neg i f)) :=
  ⟨pt_cmpR ho ha.pe (pe_var hN hv hd hcd) hm, sndt_test (snd_inO ha.sd)⟩
/-- without the first of a number -/
def cutI (k : Int) : List Int → Option (List Int)
  | [] => none
  | j :: r => bif j == k then some r else (match cutI k r with
    | some l => some (j :: l)
    | none => none)
theorem cutI_at {k : Int} : ∀ {l l' : List Int}, cutI k l = some l' → ∃ j : Nat, l[j]? = some k ∧ (∀ m : Nat, m < j → l[m]? ≠ some k) ∧ l' = l.eraseIdx j
  | [], _, h => by cases h
  | i :: r, l', h => by
    unfold cutI at h
    cases c : (i == k) with
    | true =>
      rw [c] at h
      cases h
      exact ⟨0, by rw [eq_of_beq c]; rfl, fun m hm => absurd hm (by omega), rfl⟩
    | false =>
      rw [c] at h
      have h : (match cutI k r with | some l => some (i :: l) | none => none) = some l' := h
      cases e : cutI k r with
      | none => rw [e] at h; cases h
      | some l2 =>
        rw [e] at h
        cases h
        obtain ⟨j, h1, h2, h3⟩ := cutI_at e
        refine ⟨j + 1, h1, fun m hm z => ?_, by rw [h3]; rfl⟩
        cases m with
        | zero =>
          have : i = k := Option.some.inj z
          rw [this] at c
          simp at c
        | succ m => exact h2 m (by omega) z
def mRem (i : Nat) (f : M) : MS := fun env => bindS (f env) fun p => match nth p.1 i, p.2 with
  | some (some (.ow m ds)), .int k => (match (intsOf ds).bind (cutI k) with
    | some l => .nx (p.1.set i (some (.ow m (intsD l))))
    | none => .stuck)
  | _, _ => .stuck
theorem isL_ints (l : List Int) : isL (intsD l) = true := by cases l <;> rfl
theorem eraseIdx_up (l : List Int) (j : Nat) : RpA K G ((l.eraseIdx j).map V.int) (intsD (l.eraseIdx j)) := ints_rpa _
theorem snds_rem {i : Nat} {ta : TE} {f : M} (ha : Snd K C E ta f) : SndS K C E (tDrop (tBM K "list" rRemI (tVar i) (tCons ta tNil))) (fun env => match nth env i with | some (some (.ow _ ds)) => (match isL ds with | true => mRem i f env | false => .stuck) | _ => .stuck) := by
  intro mu G0 H0 env σ G H D S h
  have h : PostS K C E mu G0 H0 G (match nth env i with | some (some (.ow _ ds)) => (match isL ds with | true => mRem i f env | false => .stuck) | _ => .stuck) D := h
  rw [nth_eq] at h
  cases e0 : env[i]? with
  | none => rw [e0] at h; exact h.elim
  | some o =>
    cases o with
    | none => rw [e0] at h; exact h.elim
    | some s =>
      rw [e0] at h
      cases s with
      | sh d => exact h.elim
      | ow m0 ds0 =>
        have h : PostS K C E mu G0 H0 G (match isL ds0 with | true => mRem i f env | false => .stuck) D := h
        have cl : isL ds0 = true := by
          cases c : isL ds0 with
          | true => rfl
          | false => rw [c] at h; exact h.elim
        rw [cl] at h
        have h : PostS K C E mu G0 H0 G (mRem i f env) D := h
        obtain ⟨q, vs0, a1, a2, a3, _⟩ := S.olL e0 cl
        refine ⟨.ref q, a1, .inl ⟨rfl, vs0, SqL.of a2⟩, ?_⟩
        refine ha _ _ _ _ _ _ _ _ S (h.bind fun p x G1 H1 S1 s1 r1 h1 => ?_)
        obtain ⟨e, d⟩ := p
        have h1 : PostS K C E mu G0 H0 G1 (match (generalizing := false) nth e i, d with
          | some (some (.ow m ds)), .int k => (match (intsOf ds).bind (cutI k) with
            | some l => .nx (e.set i (some (.ow m (intsD l))))
            | none => .stuck)
          | _, _ => .stuck) D := h1
        rw [nth_eq] at h1
        cases e1 : e[i]? with
        | none => rw [e1] at h1; exact h1.elim
        | some o =>
          cases o with
          | none => rw [e1] at h1; exact h1.elim
          | some s =>
            rw [e1] at h1
            cases s with
            | sh d' => cases r1 <;> exact h1.elim
            | ow m ds =>
              cases r1 with
              | int k =>
                have h2 : PostS K C E mu G0 H0 G1 (match (intsOf ds).bind (cutI k) with
                  | some l => .nx (e.set i (some (.ow m (intsD l))))
                  | none => .stuck) D := h1
                cases ei : intsOf ds with
                | none => simp only [ei, Option.bind] at h2; exact h2.elim
                | some l =>
                  cases ec : cutI k l with
                  | none => simp only [ei, Option.bind, ec] at h2; exact h2.elim
                  | some l' =>
                    simp only [ei, Option.bind, ec] at h2
                    have eb := intsOf_eq ei
                    subst eb
                    obtain ⟨q', ws, b1, b2, b3, b4, _⟩ := S1.olL e1 (isL_ints l)
                    rw [a1] at b1
                    cases b1
                    obtain ⟨j, j1, j2, j3⟩ := cutI_at ec
                    refine ⟨q, l, k, j, rfl, rfl, ?_, j1, j2, ?_⟩
                    · rw [← rpa_ints l _ b3]; exact b2
                    · subst j3
                      refine h2 _ _ _ (S1.own_to (G' := G1) e1 a1 (.refl _) ?_ ⟨?_, ?_⟩ (fun a o z => .inl z) upd_same (.lst (ints_rpa _))) (.refl _)
                      · intro a o z
                        have : a ≠ q := fun y => by rw [y, b4] at z; cases z
                        rw [upd_ne this]
                        exact S1.sub a o z
                      · intro b o nb _ z
                        rw [upd_ne nb]; exact z
                      · refine tabs_but S1.fz.tb fun b o z nl => ?_
                        have : b ≠ q := fun y => by rw [y, b2] at z; exact nl _ (Option.some.inj z).symm
                        rw [upd_ne this]; exact z
              | _ => exact h1.elim
def mRemG (i : Nat) (f : M) : MS := fun env => match nth env i with
  | some (some (.ow _ ds)) => (match isL ds with | true => mRem i f env | false => .stuck)
  | _ => .stuck
theorem s_rem (i : Nat) {y : Str} {e : Expr} {te : TE} {f : M} {p apos cpos spos : Pos} (he : ED X C E e te f) (hN : X.N[i]? = some y := by rfl) (hv : Vis X.env.scope y := by first | exact Or.inl rfl | exact Or.inr (Or.inl rfl) | exact Or.inr (Or.inr rfl)) (hd : (y == ("__debug__" : Str)) = false := by decide)
    (hcd : (y == ("__classdict__" : Str)) = false := by decide) (hbase : attributeBase (.Name y p) "remove" X.env (eval (.Name y p) X.env) = eval (.Name y p) X.env := by rfl)
    (hfew : ((backTo cpos (starEach [e] X.env)).all (fun x => !x.1) && (backToKw cpos (keywordEach [] X.env)).all (fun x => x.1.isSome) && decide ([e].length + ([] : List Keyword).length + (if ([] : List Keyword).isEmpty then 0 else 1) < 30)) = true := by rfl)
    (hline : (apos.endLine == cpos.line) = true := by rfl) (hs : starEach [e] X.env = (false, eval e X.env) :: starEach [] X.env := by rfl) (hplain : (backTo cpos (starEach [] X.env)).any (·.1) = false := by rfl)
    (hsw : swapsWith (.Call (.Attribute (.Name y p) "remove" apos) [e] [] cpos) none spos.line X.env = pure false := by rfl) :
    SD X C E (.Expr (.Call (.Attribute (.Name y p) "remove" apos) [e] [] cpos) spos) (tDrop (tBM X.K "list" rRemI (tVar i) (tCons te tNil))) (mRemG i f) :=
  ⟨ps_expr (pe_bm PySem.F.plainAttrs_list PySem.F.slot_list_remove PySem.F.type_list_remove mt_remove (pe_var hN hv hd hcd) (pa_cons he.pe pa_nil hs) hbase hfew hline hs hplain) hsw, snds_rem he.sd⟩
/-- xs.count(k), xs a list of ints -/
def iCnt (ds : List PyData) : PyData → R PyData
  | .int k => (match intsOf ds with
    | some l => .ok (.int (l.count k : Nat))
    | none => .stuck)
  | _ => .stuck
def mCnt (f g : M) : M := fun env => (f env).bind fun p => match p.2 with
  | .list ds => (g p.1).bind fun q => lif q.1 (iCnt ds q.2)
  | _ => .stuck
theorem snd_cnt {to te : TE} {f g : M} (hf : Snd K C E to f) (hg : Snd K C E te g) : Snd K C E (tBM K "list" (rCntI K) to (tCons te tNil)) (mCnt f g) := by
  intro mu G0 H0 env σ G H Q S h
  refine hf _ _ _ _ _ _ _ _ S (h.bind fun p x G1 H1 S1 s1 r1 h1 => ?_)
  obtain ⟨e1, d1⟩ := p
  cases r1 with
  | lst a b =>
    rename_i es
    have h1 : Post (RlE K) K C E mu G0 H0 σ G1 ((g e1).bind fun q => lif q.1 (iCnt es q.2)) Q := h1
    refine ⟨.inl ⟨rfl, _, SqL.of (S1.sub _ _ a)⟩, ?_⟩
    refine hg _ _ _ _ _ _ _ _ S1 (h1.bind fun q y G2 H2 S2 s2 r2 h2 => ?_)
    obtain ⟨e2, d2⟩ := q
    cases r2 with
    | int k =>
      cases ei : intsOf es with
      | none => simp only [iCnt, ei] at h2; exact h2.elim
      | some l =>
        simp only [iCnt, ei] at h2
        have eb := intsOf_eq ei
        subst eb
        refine ⟨_, l, k, rfl, rfl, ?_, post_here S2 h2 (.int _)⟩
        rw [← rpa_ints l _ b]; exact SqL.of (S2.sub _ _ (s2 _ _ a))
    | _ => exact h2.elim
  | _ => exact h1.elim
theorem d_cnt {o e : Expr} {to te : TE} {f g : M} {apos cpos : Pos} (ho : ED X C E o to f) (he : ED X C E e te g) (hbase : attributeBase o "count" X.env (eval o X.env) = eval o X.env := by rfl)
    (hfew : ((backTo cpos (starEach [e] X.env)).all (fun x => !x.1) && (backToKw cpos (keywordEach [] X.env)).all (fun x => x.1.isSome) && decide ([e].length + ([] : List Keyword).length + (if ([] : List Keyword).isEmpty then 0 else 1) < 30)) = true := by rfl)
    (hline : (apos.endLine == cpos.line) = true := by rfl) (hs : starEach [e] X.env = (false, eval e X.env) :: starEach [] X.env := by rfl) (hplain : (backTo cpos (starEach [] X.env)).any (·.1) = false := by rfl) :
    ED X C E (.Call (.Attribute o "count" apos) [e] [] cpos) (tBM X.K "list" (rCntI X.K) to (tCons te tNil)) (mCnt f g) :=
  ⟨pe_bm PySem.F.plainAttrs_list PySem.F.slot_list_count PySem.F.type_list_count mt_lcount ho.pe (pa_cons he.pe pa_nil hs) hbase hfew hline hs hplain, snd_cnt ho.sd he.sd⟩
end
end LW

namespace LW
open PySem PySem.Spec PyProof.Rows L2
section
variable {K : PySem.W.Frag} {mu : Mu} {G0 H0 G H G' H' H1 : Hp} {env env' : LEnv} {σ σ' : L2.St} {C : Cl} {E : XK} {X : Cx}
/-! ### a method of a tuple -/
theorem tyT_is {pn : List (Addr × Obj)} {st : Shared} {p : Addr} (I : Inv X pn σ H st) (ty : TyT X.K H p) : st.TypeIs (.ref p) "tuple" ∧ ∀ a, Value.ref p = .ref a → ∃ ob, st.heap.get? a = some ob ∧ ob.dict = none := by
  obtain ⟨o, e, c, d⟩ : ∃ o, st.heap.get? p = some o ∧ o.cls = .type "tuple" ∧ o.dict = none := by
    rcases ty with ⟨o, hk, hc, hd⟩ | ⟨o, u, hg, hc, hd⟩
    · exact ⟨o, I.kIn p o hk, hc, hd⟩
    · exact ⟨o, (I.hok p _ hg).1, hc, hd⟩
  refine ⟨⟨o, e, c⟩, fun a z => ?_⟩
  cases z
  exact ⟨o, e, d⟩
def tBT (K : PySem.W.Frag) (r : V → List V → Hp → VK → Prop) (to : TE) (t : TA) : TE := fun σ H Q => to σ H fun x Ha => ∃ p, x = .ref p ∧ TyT K Ha p ∧ t σ Ha fun xs Hb => r x xs Hb Q
theorem pe_bt {o e : Expr} {es : List Expr} {to : TE} {t : TA} {name : Str} {apos cpos : Pos} {id : String} {r : V → List V → Hp → VK → Prop} (slot : Slot "tuple" name id) (hty : typeOf (.builtin id) = pure (.type "method_descriptor")) (hm : MtR X id r) (ho : PE X o to) (ha : PA X (e :: es) t)
    (hbase : attributeBase o name X.env (eval o X.env) = eval o X.env)
    (hfew : ((backTo cpos (starEach (e :: es) X.env)).all (fun x => !x.1) && (backToKw cpos (keywordEach [] X.env)).all (fun x => x.1.isSome) && decide ((e :: es).length + ([] : List Keyword).length + (if ([] : List Keyword).isEmpty then 0 else 1) < 30)) = true)
    (hline : (apos.endLine == cpos.line) = true) (hs : starEach (e :: es) X.env = (false, eval e X.env) :: starEach es X.env) (hplain : (backTo cpos (starEach es X.env)).any (·.1) = false) :
    PE X (.Call (.Attribute o name apos) (e :: es) [] cpos) (tBT X.K r to t) := by
  refine ⟨fun pn st σ H Q I hq => ?_⟩
  refine wpAny_Call_method_late hbase hfew hline rfl (thn (ho.run pn st σ H _ I hq) fun v sa ⟨x, Ha, Ia, ra, p, ep, ty, qa⟩ => ?_)
  subst ep
  cases ra
  obtain ⟨k1, k2⟩ := tyT_is Ia ty
  refine ⟨"tuple", id, PySem.F.plainAttrs_tuple, slot, hty, k1, k2, ?_⟩
  have hA := ha.run cpos pn sa σ Ha _ Ia qa
  rw [hs] at hA ⊢
  refine Calls.callWith_builtin (by show (false || (backTo cpos (starEach es X.env)).any (·.1)) = false; rw [hplain] <;> rfl) (Calls.evalArgs_plain ?_)
  exact thn hA fun us sb ⟨vs, Hb, Ib, rb, qb⟩ => hm pn sb σ Hb (.ref p) vs (.ref p) us Q Ib rfl rb qb
def rCntT (K : PySem.W.Frag) : V → List V → Hp → VK → Prop := fun x xs H Q => ∃ (p : Addr) (ns : List Int) (k : Int), x = .ref p ∧ xs = [.int k] ∧ SqT K H p (ns.map V.int) ∧ Q (.int (ns.count k : Nat)) H
theorem mt_tcount : MtR X "tuple.count" (rCntT X.K) := by
  intro pn st σ H x xs v us Q I rx rxs h
  obtain ⟨p, ns, k, rfl, rfl, hs, q⟩ := h
  cases rx
  obtain ⟨u, rfl, ru⟩ := rxs.one
  obtain ⟨t, rfl⟩ := ru
  obtain ⟨its, rv, ⟨⟨cls, dd, data, sl⟩, ho, hc, n, hd⟩, hle⟩ := I.tuple hs
  simp only at hc hd
  subst hc hd
  have hi := ints_of_vals rv
  refine call_meets PySem.F.slot_tuple_count ⟨_, ho, rfl⟩ PySem.F.entry_tuple_count (PySem.F.args_tuple_count_2 _ _) (SeqAt.tuple_countAt p its.toArray n dd sl (.int k t) (eqk k)) ⟨ho, fun y hy => (eqk_gives hi y (by simpa using hy)).at _ _, ?_⟩
  have ec : its.toArray.toList.countP (eqk k) = ns.count k := eqk_count hi
  refine ⟨.int (ns.count k : Nat), H, I.tok _, ⟨st.toks, ?_⟩, q⟩
  rw [← ec]
def mCntT (f g : M) : M := fun env => (f env).bind fun p => match p.2 with
  | .tuple ds => (g p.1).bind fun q => lif q.1 (iCnt ds q.2)
  | _ => .stuck
theorem snd_cntT {to te : TE} {f g : M} (hf : Snd K C E to f) (hg : Snd K C E te g) : Snd K C E (tBT K (rCntT K) to (tCons te tNil)) (mCntT f g) := by
  intro mu G0 H0 env σ G H Q S h
  refine hf _ _ _ _ _ _ _ _ S (h.bind fun p x G1 H1 S1 s1 r1 h1 => ?_)
  obtain ⟨e1, d1⟩ := p
  cases r1 with
  | tup a b =>
    rename_i p vs es
    have h1 : Post (RlE K) K C E mu G0 H0 σ G1 ((g e1).bind fun q => lif q.1 (iCnt es q.2)) Q := h1
    refine ⟨_, rfl, (tpt_same S1.sub a).2, ?_⟩
    refine hg _ _ _ _ _ _ _ _ S1 (h1.bind fun q y G2 H2 S2 s2 r2 h2 => ?_)
    obtain ⟨e2, d2⟩ := q
    cases r2 with
    | int k =>
      cases ei : intsOf es with
      | none => simp only [iCnt, ei] at h2; exact h2.elim
      | some l =>
        simp only [iCnt, ei] at h2
        have eb := intsOf_eq ei
        subst eb
        refine ⟨_, l, k, rfl, rfl, ?_, post_here S2 h2 (.int _)⟩
        rw [← rpa_ints l _ b]; exact sqt_same S2.sub (tpt_same s2 a)
    | _ => exact h2.elim
  | _ => exact h1.elim
theorem d_cntT {o e : Expr} {to te : TE} {f g : M} {apos cpos : Pos} (ho : ED X C E o to f) (he : ED X C E e te g) (hbase : attributeBase o "count" X.env (eval o X.env) = eval o X.env := by rfl)
    (hfew : ((backTo cpos (starEach [e] X.env)).all (fun x => !x.1) && (backToKw cpos (keywordEach [] X.env)).all (fun x => x.1.isSome) && decide ([e].length + ([] : List Keyword).length + (if ([] : List Keyword).isEmpty then 0 else 1) < 30)) = true := by rfl)
    (hline : (apos.endLine == cpos.line) = true := by rfl) (hs : starEach [e] X.env = (false, eval e X.env) :: starEach [] X.env := by rfl) (hplain : (backTo cpos (starEach [] X.env)).any (·.1) = false := by rfl) :
    ED X C E (.Call (.Attribute o "count" apos) [e] [] cpos) (tBT X.K (rCntT X.K) to (tCons te tNil)) (mCntT f g) :=
  ⟨pe_bt PySem.F.slot_tuple_count PySem.F.type_tuple_count mt_tcount ho.pe (pa_cons he.pe pa_nil hs) hbase hfew hline hs hplain, snd_cntT ho.sd he.sd⟩
/-! ### sum of a list or a tuple of ints -/
def rSumT (K : PySem.W.Frag) : List V → Hp → VK → Prop := fun vs H Q => ∃ (a : Addr) (ns : List Int), vs = [V.ref a] ∧ SqT K H a (ns.map V.int) ∧ Q (.int ns.sum) H
theorem cr_sumT (hc : X.calm = true) : CallR X (.builtin "sum") (rSumT X.K) := by
  intro pn st σ H vs us Q I r h
  obtain ⟨a, ns, rfl, hs, q⟩ := h
  obtain ⟨its, rv, hl, _⟩ := I.tuple hs
  rw [Vals.ref1 r]
  have hi := rv.ints
  obtain ⟨xs, e⟩ := hi.allInts.items
  have hn : numsOf (intItems xs).toList = ns := by rw [← e]; exact hi.numsOf
  rw [nums_intItems] at hn
  rw [e] at hl
  refine PySem.W.ktm_sumG (I.ok.hd hc) hl fun h' tk t' hk => ?_
  rw [preSum_eq, List.take_of_length_le (by simp), hn]
  exact ⟨.int ns.sum, H, I.kept hk, ⟨t', rfl⟩, q⟩
abbrev rSum2 (K : PySem.W.Frag) : List V → Hp → VK → Prop := fun vs H Q => rSum K vs H Q ∨ rSumT K vs H Q
theorem cr_sum2 (hc : X.calm = true) : CallR X (.builtin "sum") (rSum2 X.K) := CallR.or (cr_sum hc) (cr_sumT hc)
def cSum2 : List PyData → R PyData
  | [.list ds] => (match intsOf ds with
    | some l => .ok (.int (sumI l))
    | none => .stuck)
  | [.tuple ds] => (match intsOf ds with
    | some l => .ok (.int (sumI l))
    | none => .stuck)
  | _ => .stuck
theorem cas_sum2 : CaS K C E (rSum2 K) cSum2 := by
  intro mu G0 H0 env σ G H xs ds Q S r h
  cases r with
  | nil => exact h.elim
  | cons r1 r2 =>
    cases r2 with
    | cons _ _ => cases r1 <;> exact h.elim
    | nil =>
      cases r1 with
      | lst a b => exact .inl (cas_sum _ _ _ _ _ _ _ _ [.list _] Q S (.cons (.lst a b) .nil) h)
      | tup a b =>
        rename_i p vs es
        cases e : intsOf es with
        | none => simp only [cSum2, e] at h; exact h.elim
        | some l =>
          simp only [cSum2, e] at h
          have eb := intsOf_eq e
          subst eb
          refine .inr ⟨_, l, rfl, ?_, ?_⟩
          · rw [← rpa_ints l _ b]; exact sqt_same S.sub a
          · rw [← sumI_eq]; exact post_here S h (.int _)
      | _ => exact h.elim
end
end LW

namespace LW
open PySem PySem.Spec PyProof.Rows L2
/-! ### orders -/
def insB (b : Bool) (i : Int) : List Int → List Int
  | [] => [i]
  | j :: r => bif (bif b then decide (j < i) else decide (i < j)) then i :: j :: r else j :: insB b i r
def sortB (b : Bool) : List Int → List Int
  | [] => []
  | i :: r => insB b i (sortB b r)
theorem insB_perm (b : Bool) (i : Int) : ∀ l, (insB b i l).Perm (i :: l)
  | [] => .refl _
  | j :: r => by
    show (bif _ then i :: j :: r else j :: insB b i r).Perm (i :: j :: r)
    cases (bif b then decide (j < i) else decide (i < j)) with
    | true => exact .refl _
    | false => exact ((insB_perm b i r).cons j).trans (.swap i j r)
theorem sortB_perm (b : Bool) : ∀ l, (sortB b l).Perm l
  | [] => .refl _
  | i :: r => (insB_perm b i _).trans ((sortB_perm b r).cons i)
def leB (b : Bool) (x y : Int) : Prop := if b then x ≥ y else x ≤ y
theorem insB_ord (b : Bool) (i : Int) : ∀ l : List Int, l.Pairwise (leB b) → (insB b i l).Pairwise (leB b)
  | [], _ => List.pairwise_singleton _ _
  | j :: r, h => by
    obtain ⟨h1, h2⟩ := List.pairwise_cons.mp h
    show (bif _ then i :: j :: r else j :: insB b i r).Pairwise (leB b)
    cases c : (bif b then decide (j < i) else decide (i < j)) with
    | true =>
      have ij : leB b i j := by
        cases b with
        | true => have c : decide (j < i) = true := c; have := of_decide_eq_true c; show i ≥ j; omega
        | false => have c : decide (i < j) = true := c; have := of_decide_eq_true c; show i ≤ j; omega
      refine List.pairwise_cons.mpr ⟨fun x hx => ?_, h⟩
      rcases List.mem_cons.mp hx with e | hx
      · rw [e]; exact ij
      · have := h1 x hx
        cases b with
        | true => have a : i ≥ j := ij; have d : j ≥ x := this; show i ≥ x; omega
        | false => have a : i ≤ j := ij; have d : j ≤ x := this; show i ≤ x; omega
    | false =>
      have ji : leB b j i := by
        cases b with
        | true => have c : decide (j < i) = false := c; have := of_decide_eq_false c; show j ≥ i; omega
        | false => have c : decide (i < j) = false := c; have := of_decide_eq_false c; show j ≤ i; omega
      refine List.pairwise_cons.mpr ⟨fun x hx => ?_, insB_ord b i r h2⟩
      rcases List.mem_cons.mp ((insB_perm b i r).mem_iff.mp hx) with e | hx
      · rw [e]; exact ji
      · exact h1 x hx
theorem sortB_ord (b : Bool) : ∀ l, (sortB b l).Pairwise (leB b)
  | [] => .nil
  | i :: r => insB_ord b i _ (sortB_ord b r)
theorem ordB_is (b : Bool) (l : List Int) : OrdB b l = l.Pairwise (leB b) := by
  cases b <;> rfl
theorem sortB_uni {b : Bool} {l m : List Int} (h1 : m.Perm l) (h2 : m.Pairwise (leB b)) : m = sortB b l := by
  refine List.Perm.eq_of_pairwise (le := leB b) (fun x y _ _ h h' => ?_) h2 (sortB_ord b l) (h1.trans (sortB_perm b l).symm)
  cases b with
  | true => have a : x ≥ y := h; have d : y ≥ x := h'; omega
  | false => have a : x ≤ y := h; have d : y ≤ x := h'; omega
section
variable {K : PySem.W.Frag} {mu : Mu} {G0 H0 G H G' H' H1 : Hp} {env env' : LEnv} {σ σ' : L2.St} {C : Cl} {E : XK} {X : Cx}
theorem sorted_tup {b : Bool} {pn : List (Addr × Obj)} {st : Shared} {σ : L2.St} {H : Hp} {a : Addr} {ns : List Int} {Q : VK} (I : Inv X pn σ H st) (hs : SqT X.K H a (ns.map V.int))
    (q : ∀ (ns' : List Int) (p : Addr), ns'.Perm ns → OrdB b ns' → H p = none → Q (.ref p) (upd H p (.lst (ns'.map V.int)))) :
    wpAny (model X.prog X.w) X.A (call (.builtin "sorted") [.ref a] [(Str.ofString "reverse", .bool b)]) (EP X pn σ Q) X.xe st := by
  obtain ⟨its, rv, ⟨o, ho, hc, n, hd⟩, hle⟩ := I.tuple hs
  have hi := rv.ints
  have hz : its.length ≤ sizeLine := by rw [← rv.length]; exact hle
  refine call_function_entry_kw kind_sorted plain_sorted entry_sorted (PyProof.Rows.args_sorted_rev _ _) ?_
  unfold Builtin.«sorted»
  refine wpAny_bind (m := checkCount "sorted" 1 1 _) (wpAny_pure ?_)
  refine wpAny_bind (wpAny_collect_seq a (.inr rfl) ho hc hd (fun h' kp => ?_) (by rw [List.size_toArray]; exact hz))
  refine wpAny_bind (wpAny_newList ?_ hz)
  have I1 : Inv X pn σ H { st with heap := h' } := I.kept (t' := st.toks) kp
  have hoL : (h'.push (seqObj "list" its.toArray 0)).get? h'.objs.size = some (seqObj "list" its.toArray 0) := Heap.get?_push_size _ rfl
  refine wpAny_bind (wpAny_holding (wpAny_call_entry_kw slot_list_sort ⟨_, hoL, rfl⟩ entry_list_sort ?_ (PyProof.Rows.args_list_sort_rev _ _)))
  refine SrtR.list_sort_ordR SrtO.swo_int hoL hz (fun h2 => SrtO.ints_sortable hi h2) fun out h1 h2 => ⟨_, rfl, wpAny_pure ⟨_, rfl, ?_⟩⟩
  obtain ⟨ns', k1, k2, k3⟩ := SrtR.ints_outR hi h1 h2
  obtain ⟨ep, he'⟩ := PyProof.Rows.sortedHeap_at (vs := its) (out := if b = true then out.toArray.reverse else out.toArray) hoL
  have hlen : (ns'.map V.int).length ≤ sizeLine := by
    rw [List.length_map, k2.length_eq]
    rw [List.length_map] at hle
    exact hle
  have e0 : ((if b = true then out.toArray.reverse else out.toArray).toList).toArray = (if b = true then out.toArray.reverse else out.toArray) := by rw [Array.toArray_toList]
  refine ⟨.ref h'.objs.size, upd H h'.objs.size (.lst (ns'.map V.int)), I1.laid (t' := st.toks) (fun c u hu => ?_) (Nat.le_refl _) ⟨hlen, _, ep, vals_of_ints k1, by rw [e0]; exact he'⟩, rfl, q _ _ k2 k3 (I1.hok.fresh (Nat.le_refl _))⟩
  rw [PyProof.Rows.sortedHeap_old (Nat.ne_of_lt (Heap.lt_size hu)) (Heap.lt_size (Heap.get?_push_of_some _ hu))]
  exact Heap.get?_push_of_some _ hu
def rSortKwA (K : PySem.W.Frag) (b : Bool) : List V → List V → Hp → VK → Prop := fun vs zs H Q => ∃ (a : Addr) (ns : List Int), vs = [V.ref a] ∧ zs = [.bl b] ∧ (SqL K H a (ns.map V.int) ∨ SqT K H a (ns.map V.int)) ∧
  ∀ (p : Addr), H p = none → Q (.ref p) (upd H p (.lst ((sortB b ns).map V.int)))
theorem cr_sortKwA {b : Bool} : CallRK X (.builtin "sorted") [Str.ofString "reverse"] (rSortKwA X.K b) := by
  intro pn st σ H vs zs us ws Q I r rz h
  obtain ⟨a, ns, rfl, rfl, hs, q⟩ := h
  have q' : ∀ (ns' : List Int) (p : Addr), ns'.Perm ns → OrdB b ns' → H p = none → Q (.ref p) (upd H p (.lst (ns'.map V.int))) := fun ns' p h1 h2 h3 => by
    rw [ordB_is] at h2
    rw [sortB_uni h1 h2]
    exact q p h3
  rcases hs with hs | hs
  · exact cr_sortedRev pn st σ H _ _ us ws Q I r rz ⟨a, ns, rfl, rfl, hs, q'⟩
  · obtain rfl := Vals.ref1 r
    obtain ⟨w1, rfl, e1⟩ := vals1 rz
    obtain rfl : w1 = Value.bool b := e1
    exact sorted_tup I hs q'
def mSortKw (b : Bool) (f : M) : M := fun env => (f env).bind fun p => match p.2 with
  | .list ds => (match intsOf ds with
    | some l => .ok (p.1, .list (intsD (sortB b l)))
    | none => .stuck)
  | .tuple ds => (match intsOf ds with
    | some l => .ok (p.1, .list (intsD (sortB b l)))
    | none => .stuck)
  | _ => .stuck
theorem d_sortRev {b : Bool} {e : Expr} {te : TE} {f : M} {j : Nat} {p pos p2 kp : Pos} (he : ED X C E e te f) (hg : Gl X "sorted") (hm : X.mg "sorted" = none) (h1 : backTo pos (starEach [e] X.env) = (false, eval e X.env) :: backTo pos (starEach [] X.env) := by rfl)
    (h0 : starEach [e] X.env = (false, eval e X.env) :: starEach [] X.env := by rfl)
    (h2 : (backTo pos (starEach [e] X.env)).any (·.1) = false := by rfl) (h3 : (backToKw pos (keywordEach [⟨some "reverse", .Constant (.bool b) j p2, kp⟩] X.env)).all (·.1.isSome) = true := by rfl)
    (h4 : (backToKw pos (keywordEach [⟨some "reverse", .Constant (.bool b) j p2, kp⟩] X.env)).any (·.1.isNone) = false := by rfl) (h5 : (backToKw pos (keywordEach [⟨some "reverse", .Constant (.bool b) j p2, kp⟩] X.env)).filterMap (·.1) = [Str.ofString "reverse"] := by rfl) :
    ED X C E (.Call (.Name "sorted" p) [e] [⟨some "reverse", .Constant (.bool b) j p2, kp⟩] pos) (tCKw (rSortKwA X.K b) (tCons te tNil) (tCons (tC (.bl b)) tNil)) (mSortKw b f) := by
  refine ⟨pe_callBK cr_sortKwA hg hm (by decide +kernel) (pa_cons he.pe pa_nil h0) (pk_cons pe_bl pk_nil) (by decide) (by decide) h1 h2 h3 h4 h5, ?_⟩
  intro mu G0 H0 env σ G H Q S hh
  refine he.sd _ _ _ _ _ _ _ _ S (hh.bind fun p x G1 H1 S1 s1 r1 h1 => ?_)
  obtain ⟨e1, d1⟩ := p
  cases r1 with
  | lst a c =>
    rename_i es
    have h1 : Post (RlE X.K) X.K C E mu G0 H0 σ G1 (match intsOf es with | some l => .ok (e1, .list (intsD (sortB b l))) | none => .stuck) Q := h1
    cases ei : intsOf es with
    | none => rw [ei] at h1; exact h1.elim
    | some l =>
      have h2 : Post (RlE X.K) X.K C E mu G0 H0 σ G1 (.ok (e1, .list (intsD (sortB b l)))) Q := by rw [ei] at h1; exact h1
      have eb := intsOf_eq ei
      subst eb
      refine ⟨_, l, rfl, rfl, .inl ?_, fun p hp => post_new S1 h2 hp _ nt_lst (.lst upd_same (ints_rpa _))⟩
      rw [← rpa_ints l _ c]; exact SqL.of (S1.sub _ _ a)
  | tup a c =>
    rename_i es
    have h1 : Post (RlE X.K) X.K C E mu G0 H0 σ G1 (match intsOf es with | some l => .ok (e1, .list (intsD (sortB b l))) | none => .stuck) Q := h1
    cases ei : intsOf es with
    | none => rw [ei] at h1; exact h1.elim
    | some l =>
      have h2 : Post (RlE X.K) X.K C E mu G0 H0 σ G1 (.ok (e1, .list (intsD (sortB b l)))) Q := by rw [ei] at h1; exact h1
      have eb := intsOf_eq ei
      subst eb
      refine ⟨_, l, rfl, rfl, .inr ?_, fun p hp => post_new S1 h2 hp _ nt_lst (.lst upd_same (ints_rpa _))⟩
      rw [← rpa_ints l _ c]; exact sqt_same S1.sub a
  | _ => exact h1.elim
end
end LW

namespace LW
open PySem PySem.Spec PyProof.Rows L2
/-! ### dicts as data -/
abbrev DD := List (PyData × PyData)
def keyE : PyData → PyData → Bool
  | .int a, .int b => a == b
  | .str a, .str b => a == b
  | _, _ => false
theorem keyE_is (k l : Key) : keyE (keyD k) (keyD l) = decide (k = l) := by
  cases k <;> cases l
  · rename_i a b
    show (a == b) = _
    by_cases h : a = b
    · rw [h]; simp
    · rw [beq_eq_false_iff_ne.mpr h]; exact (decide_eq_false (fun z => h (Sum.inl.inj z))).symm
  · exact (decide_eq_false (fun z => by cases z)).symm
  · exact (decide_eq_false (fun z => by cases z)).symm
  · rename_i a b
    show (a == b) = _
    by_cases h : a = b
    · rw [h]; simp
    · rw [beq_eq_false_iff_ne.mpr h]; exact (decide_eq_false (fun z => h (Sum.inr.inj z))).symm
def hasD (k : PyData) : DD → Bool
  | [] => false
  | (e, _) :: r => keyE e k || hasD k r
def setD (k v : PyData) : DD → DD
  | [] => []
  | (e, d) :: r => (bif keyE e k then (e, v) else (e, d)) :: setD k v r
def putD (ds : DD) (k v : PyData) : DD := bif hasD k ds then setD k v ds else ds ++ [(k, v)]
def keyOf : PyData → Option Key
  | .int i => some (.inl i)
  | .str x => some (.inr x)
  | _ => none
theorem keyOf_eq {d : PyData} {k : Key} (h : keyOf d = some k) : d = keyD k := by
  cases d <;> cases h <;> rfl
/-- a dict's rows (none of an instance's) -/
def dkOf : DD → Option DD
  | (.none, _) :: _ => none
  | ds => some ds
section
variable {K : PySem.W.Frag} {G G' H : Hp}
theorem dk_ins {C : Addr} {fs : List (Str × V)} {ds : DD} (h : RpO K G C fs ds) : dkOf ds = none := by cases h; rfl
theorem dk_dct {kvs : List (Key × V)} {ds : DD} (h : RpK K G kvs ds) : dkOf ds = some ds := by
  cases h with
  | nil => rfl
  | @cons k _ _ _ _ h1 h2 => cases k <;> rfl
theorem RpK.has {kvs : List (Key × V)} {ds : DD} (h : RpK K G kvs ds) (k : Key) : hasD (keyD k) ds = kvs.any fun kv => decide (kv.1 = k) := by
  induction ds generalizing kvs with
  | nil => cases h; rfl
  | cons p ds ih =>
    cases h with
    | cons h1 h2 => rw [List.any_cons, ← ih h2, ← keyE_is]; rfl
theorem RpK.setv {kvs : List (Key × V)} {ds : DD} (h : RpK K G kvs ds) (k : Key) {v : V} {d : PyData} (hv : Rp K G v d) : RpK K G (kvs.map fun kv => if kv.1 = k then (kv.1, v) else kv) (setD (keyD k) d ds) := by
  induction ds generalizing kvs with
  | nil => cases h; exact .nil
  | cons p ds ih =>
    cases h with
    | @cons k0 v0 kvs0 d0 _ h1 h2 =>
      show RpK K G ((if k0 = k then (k0, v) else (k0, v0)) :: _) ((bif keyE (keyD k0) (keyD k) then (keyD k0, d) else (keyD k0, d0)) :: _)
      rw [keyE_is]
      by_cases e : k0 = k
      · rw [if_pos e, decide_eq_true e]; exact .cons hv (ih h2)
      · rw [if_neg e, decide_eq_false e]; exact .cons h1 (ih h2)
theorem RpK.append {kvs lvs : List (Key × V)} {ds es : DD} (h : RpK K G kvs ds) (h' : RpK K G lvs es) : RpK K G (kvs ++ lvs) (ds ++ es) := by
  induction ds generalizing kvs with
  | nil => cases h; exact h'
  | cons p ds ih =>
    cases h with
    | cons h1 h2 => exact .cons h1 (ih h2)
theorem RpK.put {kvs : List (Key × V)} {ds : DD} (h : RpK K G kvs ds) (k : Key) {v : V} {d : PyData} (hv : Rp K G v d) : RpK K G (putK kvs k v) (putD ds (keyD k) d) := by
  unfold putK putD
  rw [h.has k]
  cases c : (kvs.any fun kv => decide (kv.1 = k)) with
  | true => rw [if_pos rfl]; exact h.setv k hv
  | false => rw [if_neg (by decide)]; exact h.append (.cons hv .nil)
theorem RpK.length {kvs : List (Key × V)} {ds : DD} (h : RpK K G kvs ds) : kvs.length = ds.length := by
  induction ds generalizing kvs with
  | nil => cases h; rfl
  | cons p ds ih =>
    cases h with
    | cons h1 h2 => simp [ih h2]
def mergeD : DD → DD → DD
  | acc, [] => acc
  | acc, (k, v) :: r => mergeD (putD acc k v) r
theorem RpK.merge {more : List (Key × V)} {ms : DD} (h : RpK K G more ms) : ∀ {kvs : List (Key × V)} {ds : DD}, RpK K G kvs ds → RpK K G (mergeK kvs more) (mergeD ds ms) := by
  induction ms generalizing more with
  | nil => intro kvs ds q; cases h; exact q
  | cons p ms ih =>
    intro kvs ds q
    cases h with
    | cons h1 h2 => exact ih h2 (q.put _ h1)
theorem RpK.same {kvs : List (Key × V)} {ds : DD} (s : Same G G') (h : RpK K G kvs ds) : RpK K G' kvs ds := RpK.mono s _ _ h
/-- rows of pairs -/
def pairsD : List PyData → Option DD
  | [] => some []
  | .tuple [k, v] :: r => (match keyOf k, pairsD r with
    | some _, some l => some ((k, v) :: l)
    | _, _ => none)
  | _ => none
theorem pairsD_at : ∀ {ds : List PyData} {l : DD} {vs : List V}, pairsD ds = some l → RpA K G vs ds → ∃ (ps : List Addr) (kvs : List (Key × V)), vs = ps.map V.ref ∧ Paired (fun p kv => TpT K G p [kV kv.1, kv.2]) ps kvs ∧ RpK K G kvs l
  | [], l, vs, h, r => by cases h; cases r; exact ⟨[], [], rfl, .nil, .nil⟩
  | d :: ds, l, vs, h, r => by
    cases r with
    | @cons v0 vs _ _ r1 r2 =>
      match d, h with
      | .tuple [k, v], h =>
        cases ek : keyOf k with
        | none => simp [pairsD, ek] at h
        | some kk =>
          cases el : pairsD ds with
          | none => simp [pairsD, ek, el] at h
          | some l2 =>
            simp [pairsD, ek, el] at h
            subst h
            obtain ⟨ps, kvs, e1, e2, e3⟩ := pairsD_at el r2
            have hk := keyOf_eq ek
            subst hk
            cases r1 with
            | tup a b =>
              cases b with
              | @cons w1 _ _ _ b1 b2 =>
                cases b2 with
                | @cons w2 _ _ _ b2 b3 =>
                  cases b3
                  have ew : w1 = kV kk := by cases kk <;> (cases b1; rfl)
                  subst ew
                  exact ⟨_ :: ps, (kk, w2) :: kvs, by rw [e1]; rfl, .cons a e2, .cons b2 e3⟩
end
section
variable {K : PySem.W.Frag} {mu : Mu} {G0 H0 G H G' H' H1 : Hp} {env env' : LEnv} {σ σ' : L2.St} {C : Cl} {E : XK} {X : Cx}
theorem nt_dK {kvs : List (Key × V)} : nt (.dK kvs) := fun _ h => nomatch h
/-- dict(rows), dict(d) -/
def rDictA (K : PySem.W.Frag) : List V → Hp → VK → Prop := fun xs H Q => (∃ (a : Addr) (ps : List Addr) (kvs : List (Key × V)), xs = [.ref a] ∧ SqL K H a (ps.map V.ref) ∧ Paired (fun p kv => SqT K H p [kV kv.1, kv.2]) ps kvs ∧ ∀ p, H p = none → Q (.ref p) (upd H p (.dK (mergeK [] kvs)))) ∨
  ∃ (a : Addr) (kvs : List (Key × V)), xs = [.ref a] ∧ Rd H a (.dK kvs) ∧ ∀ p, H p = none → Q (.ref p) (upd H p (.dK kvs))
theorem call_dictA (hc : X.calm = true) : CallR X (.type "dict") (rDictA X.K) := CallR.or (call_dictP hc) call_dictD
theorem paired_up {ps : List Addr} {kvs : List (Key × V)} (s : Same G H) (h : Paired (fun p kv => TpT K G p [kV kv.1, kv.2]) ps kvs) : Paired (fun p kv => SqT K H p [kV kv.1, kv.2]) ps kvs := by
  induction h with
  | nil => exact .nil
  | cons a b ih => exact .cons (sqt_same s a) ih
/-! ### len of lists, tuples, dicts, texts -/
def rLenA (K : PySem.W.Frag) : List V → Hp → VK → Prop := fun xs H Q => (∃ p ys, xs = [.ref p] ∧ (SqL K H p ys ∨ SqT K H p ys) ∧ Q (.int ys.length) H) ∨ (∃ z, xs = [.str z] ∧ z.length ≤ sizeLine ∧ Q (.int z.length) H) ∨ ∃ (a : Addr) (kvs : List (Key × V)), xs = [.ref a] ∧ Rd H a (.dK kvs) ∧ Q (.int kvs.length) H
theorem call_len_dK : CallR X (.builtin "len") (fun xs H Q => ∃ (a : Addr) (kvs : List (Key × V)), xs = [.ref a] ∧ Rd H a (.dK kvs) ∧ Q (.int kvs.length) H) := by
  intro pn st σ H vs us Q I r h
  obtain ⟨a, kvs, rfl, e, q⟩ := h
  obtain rfl := Vals.ref1 r
  exact d_len I e fun t s' I' => ⟨.int kvs.length, H, I', ⟨t, rfl⟩, q⟩
theorem call_lenA : CallR X (.builtin "len") (rLenA X.K) := CallR.or call_len_seq (CallR.or call_len_str call_len_dK)
def cLenA : List PyData → R PyData
  | [.list ds] => .ok (.int (ds.length : Nat))
  | [.tuple ds] => .ok (.int (ds.length : Nat))
  | [.dict ds] => (match dkOf ds with
    | some l => .ok (.int (l.length : Nat))
    | none => .stuck)
  | [.str x] => gd (Nat.ble x.length small) (.ok (.int (x.length : Nat)))
  | _ => .stuck
theorem cas_lenA : CaS K C E (rLenA K) cLenA := by
  intro mu G0 H0 env σ G H xs ds Q S r h
  cases r with
  | nil => exact h.elim
  | cons r1 r2 =>
    cases r2 with
    | cons _ _ => cases r1 <;> exact h.elim
    | nil =>
      cases r1 with
      | lst a b => exact .inl ⟨_, _, rfl, .inl (SqL.of (S.sub _ _ a)), post_here S h (by rw [b.length]; exact .int _)⟩
      | tup a b => exact .inl ⟨_, _, rfl, .inr (sqt_same S.sub a), post_here S h (by rw [b.length]; exact .int _)⟩
      | dct a b =>
        rename_i p kvs es
        have h : Post (RlE K) K C E mu G0 H0 σ G (lif env (match dkOf es with | some l => .ok (.int (l.length : Nat)) | none => .stuck)) Q := h
        rw [dk_dct b] at h
        exact .inr (.inr ⟨_, _, rfl, .inr ⟨_, S.sub _ _ a⟩, post_here S h (by rw [b.length]; exact .int _)⟩)
      | ins a b =>
        rename_i p C dx fs es
        have h : Post (RlE K) K _ E mu G0 H0 σ G (lif env (match dkOf es with | some l => .ok (.int (l.length : Nat)) | none => .stuck)) Q := h
        rw [dk_ins b] at h
        exact h.elim
      | str x =>
        obtain ⟨c, h⟩ := Post.gdL h
        exact .inr (.inl ⟨_, rfl, Nat.le_trans (Nat.le_of_ble_eq_true c) small_le, post_here S h (.int _)⟩)
      | _ => exact h.elim
/-! ### y, z = a new list of one's own, a constant -/
def mParNC (i j : Nat) (m : MA) (c : PyData) : MS := fun env => bindS (m env) fun p => match Nat.blt i p.1.length with
  | true => .nx ((p.1.set i (some (.ow false p.2))).set j (some (.sh c)))
  | false => .stuck
theorem snds_parNC {i j : Nat} {te : TE} {m : MA} {v : V} {c : PyData} (h : SndN K C E te m) (hc : ∀ G : Hp, Rp K G v c) : SndS K C E (tPar i j (tCons te (tCons (tC v) tNil))) (mParNC i j m c) := by
  intro mu G0 H0 env σ G H D S hh
  refine h _ _ _ _ _ _ _ _ S ?_
  unfold mParNC at hh
  cases e : m env with
  | ok p =>
    rw [e] at hh
    intro G' H' vs q S' s r hq
    have hh : PostS K C E mu G0 H0 G (match Nat.blt i p.1.length with | true => .nx ((p.1.set i (some (.ow false p.2))).set j (some (.sh c))) | false => .stuck) D := hh
    cases c' : Nat.blt i p.1.length with
    | true =>
      rw [c'] at hh
      exact ⟨_, _, rfl, hh _ _ _ ((S'.mk_own (Nat.le_of_ble_eq_true c') hq (.lst r)).set_sh j (hc _)) s⟩
    | false => rw [c'] at hh; exact hh.elim
  | rai c => rw [e] at hh; exact hh
  | stuck => rw [e] at hh; exact hh.elim
theorem s_parNC (i j : Nat) {x y : Str} {a b : Expr} {te : TE} {m : MA} {v : V} {c : PyData} {px py pt pos : Pos} {kt k2 pt2} (hc : X.calm = true) (hN : X.N.Nodup) (ha : ND X C E a te m) (hb : PE X b (tC v)) (hv : ∀ G : Hp, Rp X.K G v c) (hi : X.N[i]? = some x := by rfl) (hj : X.N[j]? = some y := by rfl) (hij : i ≠ j := by decide)
    (hx : X.env.scope.names.lookup x = some .local := by rfl) (hy : X.env.scope.names.lookup y = some .local := by rfl) (n1 : starEach [a, b] X.env = (false, eval a X.env) :: starEach [b] X.env := by rfl) (n2 : starEach [b] X.env = (false, eval b X.env) :: starEach [] X.env := by rfl)
    (hw : swappedStores [.Tuple [.Name x px, .Name y py] kt pt] (.Tuple [a, b] k2 pt2) X.env = pure (some [x, y]) := by rfl)
    (hs : swapsWithSole [.Tuple [.Name x px, .Name y py] kt pt] (.Tuple [a, b] k2 pt2) pos.line X.env = pure false := by rfl) :
    SD X C E (.Assign [.Tuple [.Name x px, .Name y py] kt pt] (.Tuple [a, b] k2 pt2) pos) (tPar i j (tCons te (tCons (tC v) tNil))) (mParNC i j m c) := ⟨ps_par hc hN hi hj hij hx hy (pa_cons ha.pe (pa_cons hb pa_nil n2) n1) hw hs, snds_parNC ha.sd hv⟩
end
end LW

namespace LW
open PySem PySem.Spec PyProof.Rows L2 LamX
/-! ### the text behind the loop: what must be refused -/
structure Lm where
  params : Arguments
  body : Expr
  scope : Scope
  word : Str
def noArgs : Arguments := ⟨[], [], none, [], [], none, []⟩
def lmOf : Expr → Option Lm
  | .Tuple [.Lambda params body scope _, .Constant (.str w) _ _] _ _ => if scope.names.all fun y => !(y.2 == .free) then some ⟨params, body, scope, w⟩ else none
  | _ => none
def lmsOf : List Expr → Option (List Lm)
  | [] => some []
  | e :: es => match lmOf e, lmsOf es with
    | some l, some ls => some (l :: ls)
    | _, _ => none
def taW (T : List (Addr × Str)) (q : Str) : List Lm → TA
  | [] => tNil
  | l :: r => tCons (tTup (tCons (tLamV T q l.params l.body l.scope) (tCons (tC (.str l.word)) tNil))) (taW T q r)
section
variable {X : Cx} {T : List (Addr × Str)}
theorem pa_wrong {c P : Addr} (TB : TabB X.base X.mg c P) (hcode : X.env.code = .ref c) (hm : (P, X.env.qual ++ "<lambda>") ∈ T) (hu : ∀ p ∈ T, p.1 = P → p.2 = X.env.qual ++ "<lambda>") :
    ∀ (es : List Expr) (ls : List Lm), lmsOf es = some ls → (∀ l ∈ ls, defaultsOf l.params X.env = ([], [])) → PA X es (taW T (X.env.qual ++ "<lambda>") ls)
  | [], ls, h, _ => by cases h; exact pa_nil
  | e :: es, ls, h, hd => by
    unfold lmsOf at h
    cases e1 : lmOf e with
    | none => rw [e1] at h; cases h
    | some l =>
      rw [e1] at h
      cases e2 : lmsOf es with
      | none => rw [e2] at h; cases h
      | some r =>
        rw [e2] at h
        cases h
        unfold lmOf at e1
        split at e1
        · rename_i params body scope _ w _ _ _ _
          split at e1
          · rename_i hf
            cases e1
            refine pa_cons (pe_tup (pa_cons (pe_lamV TB hcode hm hu (hd _ List.mem_cons_self) fun y hy => ?_) (pa_cons pe_str pa_nil rfl) rfl)) (pa_wrong TB hcode hm hu es r e2 fun l hl => hd l (List.mem_cons_of_mem _ hl)) rfl
            have := List.all_eq_true.mp hf y hy
            intro z
            rw [z] at this
            cases this
          · cases e1
        · cases e1
end
section
variable {K : PySem.W.Frag} {H H' : Hp} {C : Cl}
/-- one kept pair -/
def Wr (q : Str) (H : Hp) (v : V) (l : Lm) : Prop := ∃ t f c', v = .ref t ∧ H t = some (.tup [.ref f, .str l.word]) ∧ H f = some (LamO f c' q l.params l.body l.scope) ∧ H c' = some (CodeO c' q)
theorem Wr.ext {q : Str} {v : V} {l : Lm} (h : Wr q H v l) (e : ∀ b o, nt o → H b = some o → H' b = some o) : Wr q H' v l := by
  obtain ⟨t, f, c', rfl, h1, h2, h3⟩ := h
  exact ⟨t, f, c', rfl, e _ _ nt_tup h1, e _ _ (fun ps => lamO_ne ps) h2, e _ _ (fun ps => codeO_ne ps) h3⟩
inductive Wrs (q : Str) (H : Hp) : List V → List Lm → Prop
  | nil : Wrs q H [] []
  | cons {v : V} {vs : List V} {l : Lm} {ls : List Lm} : Wr q H v l → Wrs q H vs ls → Wrs q H (v :: vs) (l :: ls)
theorem Wrs.ext {q : Str} (e : ∀ b o, nt o → H b = some o → H' b = some o) : ∀ {vs : List V} {ls : List Lm}, Wrs q H vs ls → Wrs q H' vs ls
  | _, _, .nil => .nil
  | _, _, .cons h r => .cons (h.ext e) (Wrs.ext e r)
theorem Wrs.get {q : Str} {v : V} : ∀ {vs : List V} {ls : List Lm} {i : Nat}, Wrs q H vs ls → vs[i]? = some v → ∃ l, l ∈ ls ∧ Wr q H v l
  | _, _, _, .nil, e => by cases e
  | _, _, 0, .cons h r, e => by cases e; exact ⟨_, List.mem_cons_self, h⟩
  | _, _, i + 1, .cons h r, e => by
    obtain ⟨l, m, h⟩ := Wrs.get (i := i) r (by rw [List.getElem?_cons_succ] at e; exact e)
    exact ⟨l, List.mem_cons_of_mem _ m, h⟩
theorem Wrs.len {q : Str} : ∀ {vs : List V} {ls : List Lm}, Wrs q H vs ls → vs.length = ls.length
  | _, _, .nil => rfl
  | _, _, .cons _ r => by rw [List.length_cons, List.length_cons, r.len]
theorem up_same {p : Addr} {o : HO} (hp : H p = none) : ∀ b u, H b = some u → upd H p o b = some u := fun b u e => by rw [upd_ne (ne_of_none e hp)]; exact e
theorem wr_mean {q : Str} : ∀ (ls : List Lm) (σ : L2.St) (H : Hp) (Q : List V → Hp → Prop), Tabs C.T H → (∀ vs H', ExtN H H' → Tabs C.T H' → Wrs q H' vs ls → Q vs H') → taW C.T q ls σ H Q
  | [], σ, H, Q, tb, h => h [] H (.refl _) tb .nil
  | l :: r, σ, H, Q, tb, h => by
    refine ⟨tb, fun f c' H1 e1 t1 hf hc => ⟨show 2 ≤ sizeLine by decide, fun p hp => wr_mean r σ _ _ (t1.ext (up_same hp)) fun vs H2 e2 t2 w => h _ _ ((e1.trans (.of (up_same hp))).trans e2) t2 (.cons ?_ w)⟩⟩
    exact Wr.ext (l := l) (q := q) ⟨p, f, c', rfl, upd_same, up_same hp _ _ hf, up_same hp _ _ hc⟩ fun b o n e => e2 b o e n
theorem nmT_ok {c : Nat} {s : Str} (h : nmT c = some s) : PyData.strOk s = true := by
  unfold nmT at h
  split at h <;> first | (cases h; decide +kernel) | cases h
/-- what each of them does -/
structure LamG (P : Program) (w : World) (K : PySem.W.Frag) (mg : Str → Option Value) (base : Heap) (C : Cl) (k : Nat) (q : Str) (l : Lm) : Prop where
  ex : ∃ (t : XK → TE) (m : M) (c : Nat), LamRun P w K mg base k q l.params l.body l.scope t ∧ (∀ E, Snd K C E (t E) m) ∧ m [] = .rai c ∧ nmT c = some l.word
theorem told_mean {P : Program} {w : World} {mg : Str → Option Value} {base : Heap} {k : Nat} {q : Str} {l : Lm} {lT : List (Addr × Str)} {f c' : Addr} {Q : VK} {E : XK} (hl : ToldL K C nmT lT) (G : LamG P w K mg base C k q l) (h2 : H f = some (LamO f c' q l.params l.body l.scope)) (h3 : H c' = some (CodeO c' q)) (tb : Tabs C.T H)
    (hQ : ∀ H', (∀ b o, nt o → H b = some o → H' b = some o) → Tabs C.T H' → Q (.str l.word) H') : spTold P w K mg base k lT [.ref f] H Q E := by
  obtain ⟨tE, m, c, lr, sd, em, ew⟩ := G.ex
  refine ⟨f, c', q, l.params, l.body, l.scope, tE, rfl, h2, h3, lr, ?_⟩
  refine sd _ mu0 (fun _ => none) H [] [] (fun _ => none) H _ ?_ ?_
  · exact {
      sub := fun b o e => nomatch e
      ng := fun b o e => nomatch e
      g0 := .refl _
      fz := .refl tb
      new := fun b o e => nomatch e
      mh := fun _ m => m.elim
      len := rfl
      sh := fun i d e => nomatch e
      ol := fun i m ds e => nomatch e
      ow := fun i j z ⟨m1, d1, e1⟩ _ _ _ => nomatch e1 }
  · rw [em]
    intro H' fz
    exact hl c _ ew _ _ _ (hQ H' (fun b o n e => fz.k b o (fun z => z) n e) fz.tb)
/-- [pair for pair in wrong if _law_told(pair[0]) != pair[1]] == [] -/
abbrev ttW (K : PySem.W.Frag) (sp : Sp) (i : Nat) : TT := tTest (tOp (rNeD K) (tCallS sp (fun _ => EX0) (tCons (tOp (rIx K) (tVar i) (tC (.int 0))) tNil)) (tOp (rIx K) (tVar i) (tC (.int 1))))
abbrev teW (K : PySem.W.Frag) (sp : Sp) (i : Nat) : TE := tOp (rEqD K) (tLc (iSeq K (tVar 2)) (gName i) (ttW K sp i) (tVar i) [i]) (tLst tNil)
theorem eqv_str (s : Str) : PyData.eqv (.str s) (.str s) = true := by simp [PyData.eqv]
theorem wrongs_mean {P : Program} {w : World} {mg : Str → Option Value} {base : Heap} {k i : Nat} {q : Str} {ls : List Lm} {lT : List (Addr × Str)} {σ : L2.St} {Q : VK} {a : Addr} {vs : List V} (hl : ToldL K C nmT lT) (G : ∀ l ∈ ls, LamG P w K mg base C k q l)
    (hi : i < σ.length) (ha : σ[2]? = some (some (.ref a))) (hv : H a = some (.lst vs)) (W : Wrs q H vs ls) (tb : Tabs C.T H) (hQ : ∀ H', Tabs C.T H' → Q (.bl true) H') : teW K (spTold P w K mg base k lT) i σ H Q := by
  refine .inl ⟨.ref a, ha, a, rfl, ⟨vs, SqL.of hv⟩, fun D hD => ?_⟩
  refine lc_list (K := K) (xs := vs) (g := gName i) (tt := ttW K (spTold P w K mg base k lT) i) (te := tVar i) (vs := [i]) (σ := σ) (H1 := H) (D := D) (Qd := fun H2 => tLst tNil σ H2 fun y H3 => rEqD K (.ref D) y H3 Q) (fun _ H' => H' D = some (.lst []) ∧ H' a = some (.lst vs) ∧ Wrs q H' vs ls ∧ Tabs C.T H') ⟨upd_same, up_same hD _ _ hv, W.ext fun b o _ e => up_same hD _ _ e, tb.ext (up_same hD)⟩ (fun _ H' _ h => SqL.of h.2.1) (fun j x H' hj h => ?_) (fun H' h => ?_)
  · obtain ⟨h1, h2, h3, h4⟩ := h
    obtain ⟨l, hm, t, f, c', rfl, g1, g2, g3⟩ := h3.get hj
    have hs : ((wipe σ [i]).set i (some (V.ref t)))[i]? = some (some (.ref t)) := List.getElem?_set_self (by rw [wipe_length]; exact hi)
    refine ⟨by simp only [wipe, List.set_set], ?_⟩
    refine ⟨.ref t, hs, .inr (.inl ⟨t, _, 0, .ref f, rfl, rfl, .inl (.inl g1), rfl, ?_⟩)⟩
    refine told_mean (E := EX0) hl (G l hm) g2 g3 h4 fun H2 e2 t2 => ?_
    refine ⟨.ref t, hs, .inr (.inl ⟨t, _, 1, .str l.word, rfl, rfl, .inl (.inl (e2 _ _ nt_tup g1)), rfl, ?_⟩)⟩
    have ok : shF 1 (.str l.word) = true := by
      obtain ⟨_, _, _, _, _, _, ew⟩ := (G l hm).ex
      exact nmT_ok ew
    refine ⟨.str l.word, .str l.word, .str _, .str _, shF_shaped (by decide) ok, shF_shaped (by decide) ok, _, rfl, ?_⟩
    rw [eqv_str]
    exact ⟨e2 _ _ nt_lst h1, e2 _ _ nt_lst h2, h3.ext e2, t2⟩
  · obtain ⟨h1, _, _, h4⟩ := h
    refine ⟨Nat.zero_le _, fun p hp => ?_⟩
    exact ⟨.list [], .list [], .lst (SqL.of (up_same hp _ _ h1)) .nil, .lst (SqL.of upd_same) .nil, shF_shaped (n := 1) (by decide) rfl, shF_shaped (n := 1) (by decide) rfl, hQ _ (h4.ext (up_same hp))⟩
theorem tail_ok {P : Program} {w : World} {mg : Str → Option Value} {base : Heap} {k i n : Nat} {q : Str} {ls : List Lm} {lT : List (Addr × Str)} (hl : ToldL K C nmT lT) (G : ∀ l ∈ ls, LamG P w K mg base C k q l) (hi : i < n) (h2 : 2 < n) (hz : ls.length ≤ sizeLine) (hi2 : i ≠ 2) :
    TailOk C n (tSeq (tAsg (tLst (taW C.T q ls)) (gName 2)) (tRet (teW K (spTold P w K mg base k lT) i))) := by
  intro D σ H hn tb hD
  refine wr_mean ls σ H _ tb fun vs H1 e1 t1 W => ⟨by rw [W.len]; exact hz, fun p hp => ?_⟩
  exact wrongs_mean (vs := vs) hl G (by rw [List.length_set, hn]; exact hi) (List.getElem?_set_self (by rw [hn]; exact h2)) upd_same (W.ext fun b o _ e => up_same hp _ _ e) (t1.ext (up_same hp)) fun H' _ => hD H'
end
end LW
namespace LW
open PySem PySem.Spec PyProof.Rows L2 LamX
def wrongEs (s : Stmt) : List Expr := match defBody s with
  | _ :: .Assign _ (.List es _) _ :: _ => es
  | _ => []
def lmsIn (s : Stmt) : List Lm := (lmsOf (wrongEs s)).getD []
def LamAll (P : Program) (w : World) (K : PySem.W.Frag) (mg : Str → Option Value) (base : Heap) (C : Cl) (k : Nat) (q : Str) : List Lm → Prop
  | [] => True
  | l :: r => LamG P w K mg base C k q l ∧ LamAll P w K mg base C k q r
theorem LamAll.mem {P : Program} {w : World} {K : PySem.W.Frag} {mg : Str → Option Value} {base : Heap} {C : Cl} {k : Nat} {q : Str} : ∀ {ls : List Lm}, LamAll P w K mg base C k q ls → ∀ l ∈ ls, LamG P w K mg base C k q l
  | [], _, _, h => nomatch h
  | _ :: _, ⟨a, b⟩, l, h => by
    rcases List.mem_cons.mp h with rfl | h
    · exact a
    · exact LamAll.mem b l h
theorem lam_of {P : Program} {w : World} {K : PySem.W.Frag} {mg : Str → Option Value} {base : Heap} {C : Cl} {k : Nat} {q : Str} {params : Arguments} {body : Expr} {scope : Scope} {word : Str} (s0 : Shared) (c : Nat) {t : XK → TE} {m : M} (sc : FnScope [] [] scope)
    (bind : ∀ pm cv ctv, bindArgs (PySem.W.kla_fn "<lambda>" q params body scope [] pm cv ctv) ⟨[], []⟩ = pure [])
    (hb : ∀ (A : Around) (outer : List PySem.Env) (s : Shared) (H : Hp) (E : XK) (f c' : Addr), Room k (A.deeper (envOfC q scope s.heap.objs.size f (.ref c'))) → ED (cxOf (L2.CX P w) P w K mg base [] q scope f (.ref c') A outer s H E) C E body (t E) m)
    (hro : Room k (callerA.deeper (envOfC q scope s0.heap.objs.size 0 (.ref 0)))) (em : m [] = .rai c) (ew : nmT c = some word) : LamG P w K mg base C k q ⟨params, body, scope, word⟩ :=
  ⟨⟨t, m, c, ⟨sc, bind, fun A outer s H E f c' hr => (hb A outer s H E f c' hr).pe⟩, fun E => (hb callerA [] s0 (fun _ => none) E 0 0 hro).sd, em, ew⟩⟩
def diceOf (z : Int) : List Int := if -10 < z ∧ z < 10 then [(z.natAbs : Int), 0, 2] else [z, 1 + z.fmod 1009, if (10 : Int) ^ 18 ≤ z then 1 else 0]
end LW
namespace LW
open PySem PySem.Spec PyProof.Rows L2 LamX
def noDef (ls : List Lm) : Bool := ls.all fun l => l.params.defaults.isEmpty && l.params.kw_defaults.isEmpty
theorem noDef_ok {ls : List Lm} (h : noDef ls = true) (l : Lm) (hl : l ∈ ls) (env : PySem.Env) : defaultsOf l.params env = ([], []) := by
  obtain ⟨a, b⟩ := Bool.and_eq_true_iff.mp (List.all_eq_true.mp h l hl)
  rw [defaultsOf_eq, List.isEmpty_iff.mp a, List.isEmpty_iff.mp b]
  constructor
end LW

namespace LW
open PySem PySem.Spec PyProof.Rows L2 LamX
/-! ### the head's facts, for every law -/
def names9 : List Str := ["ChanceFault", "BadPart", "BadSpread", "BadTree", "BadPaper", "BadSize", "BadText", "BadStore", "NoChance", "NoSuch"]
def C9 (K : PySem.W.Frag) (Pt : Addr) : Cl := ⟨fun n => .ref (He.ga K (names9.getD n "")), [(Pt, ("law.<locals>.<lambda>" : Str))]⟩
def words9 : List (Str × Str) := [("BadPart", "part"), ("BadSpread", "spread"), ("BadTree", "tree"), ("BadPaper", "paper"), ("BadSize", "size"), ("BadText", "text"), ("BadStore", "store"), ("NoChance", "no chance"), ("NoSuch", "no such")]
def lT9 (K : PySem.W.Frag) : List (Addr × Str) := words9.map fun p => (He.ga K p.1, p.2)
/-- of each class raised, which clause takes it -/
def exTold (K : PySem.W.Frag) : Bool := (List.range 9).all fun i => (List.range (i + 1)).all fun j => decide (PySem.W.exmOne K (.ref (He.ga K (names9.getD (i + 1) ""))) (.ref (He.ga K ((words9.getD j ("", "")).1))) = some (decide (j = i)))
theorem exTold_ok {K : PySem.W.Frag} (h : exTold K = true) {i j : Nat} (hi : i < 9) (hj : j ≤ i) : PySem.W.exmOne K (.ref (He.ga K (names9.getD (i + 1) ""))) (.ref (He.ga K ((words9.getD j ("", "")).1))) = some (decide (j = i)) :=
  of_decide_eq_true (List.all_eq_true.mp (List.all_eq_true.mp h i (List.mem_range.mpr hi)) j (List.mem_range.mpr (by omega)))
theorem wTold_at {K : PySem.W.Frag} {Q : VK} {cls : Value} {d : Option Addr} {H : Hp} : ∀ (l : List (Addr × Str)) (i : Nat) (p : Addr × Str), l[i]? = some p → (∀ j q, j ≤ i → l[j]? = some q → PySem.W.exmOne K cls (.ref q.1) = some (decide (j = i))) → Q (.str p.2) H → wTold K Q l cls d H
  | [], _, _, e, _, _ => nomatch e
  | (a, s) :: r, 0, p, e, h, hQ => by
    cases e
    exact ⟨true, h 0 _ (Nat.le_refl _) rfl, fun _ => hQ, fun z => nomatch z⟩
  | (a, s) :: r, i + 1, p, e, h, hQ => by
    refine ⟨false, (h 0 _ (Nat.zero_le _) rfl).trans (by simp), (fun z => nomatch z), fun _ => wTold_at r i p (by rw [List.getElem?_cons_succ] at e; exact e) (fun j q hj ej => ?_) hQ⟩
    have := h (j + 1) q (by omega) (by rw [List.getElem?_cons_succ]; exact ej)
    rw [this]
    simp
theorem nmT_at {c : Nat} {s : Str} (h : nmT c = some s) : ∃ i x, c = i + 1 ∧ i < 9 ∧ words9[i]? = some (x, s) := by
  unfold nmT at h
  split at h <;> first | (cases h; exact ⟨_, _, rfl, by decide, rfl⟩) | cases h
theorem toldL9 {K : PySem.W.Frag} {Pt : Addr} (h : exTold K = true) : ToldL K (C9 K Pt) nmT (lT9 K) := by
  intro c s hc Q d H hQ
  obtain ⟨i, x, rfl, hi, ei⟩ := nmT_at hc
  refine wTold_at _ i (He.ga K x, s) (by unfold lT9; rw [List.getElem?_map, ei]; rfl) (fun j q hj ej => ?_) hQ
  unfold lT9 at ej
  rw [List.getElem?_map] at ej
  cases e2 : words9[j]? with
  | none => rw [e2] at ej; cases ej
  | some p =>
    rw [e2] at ej
    cases ej
    have := exTold_ok h hi hj
    have e3 : words9.getD j ("", "") = p := by rw [List.getD_eq_getElem?_getD, e2]; rfl
    rw [e3] at this
    exact this
section
variable {K : PySem.W.Frag} {h : Heap} {mg : Str → Option Value} {Pt : Addr}
theorem exi9 (X : K.In h) (G : h.Ns mainGlobals mg) {x : Str} {n : Nat} (g : (He.Fa.glo x).ok K = true) (e : (He.Fa.exc x).ok K = true) (hn : names9.getD n "" = x) : ExI K mg (C9 K Pt) x n := by
  obtain ⟨a, b, c, d⟩ := He.exc_ok e
  exact ⟨_, (by show Value.ref (He.ga K (names9.getD n "")) = _; rw [hn]), He.glo_ok X G g, b, a, c, d⟩
def tyB (K : PySem.W.Frag) (a : Addr) : Bool := match K.lookup a with
  | some ⟨.type c, none, _, _⟩ => decide (c = "tuple")
  | _ => false
theorem tyB_ok {a : Addr} (h : tyB K a = true) : ∃ o, K.lookup a = some o ∧ o.cls = .type "tuple" ∧ o.dict = none := by
  unfold tyB at h
  cases q : K.lookup a with
  | none => rw [q] at h; cases h
  | some o =>
    obtain ⟨oc, od, dt, osl⟩ := o
    rw [q] at h
    cases oc with
    | type c =>
      cases od with
      | none => exact ⟨_, rfl, congrArg Value.type (of_decide_eq_true h), rfl⟩
      | some a => cases h
    | _ => cases od <;> cases h
def tpB (K : PySem.W.Frag) (x : Str) (is : List Int) : Bool := He.tupB K x (is.map He.Dv.int) && tyB K (He.ga K x)
theorem tup_ints {x : Str} {is : List Int} (h : tpB K x is = true) : TupK K (He.ga K x) (intsD is) := by
  obtain ⟨h1, h2⟩ := Bool.and_eq_true_iff.mp h
  refine ⟨is.map V.int, fun H => ⟨?_, .inl (tyB_ok h2)⟩, fun G => ints_rpa is⟩
  have := He.tupB_ok h1 H
  rw [List.map_map] at this
  exact this
theorem tabs0 {H : Hp} {P : Addr} {q : Str} (h : H P = some (.tbl #[])) : Tabs [(P, q)] H := fun p hp => by
  rw [List.mem_singleton.mp hp]
  exact ⟨#[], h, by constructor, fun pos cv e => by cases e⟩
def gcdB (K : PySem.W.Frag) : Bool := He.eqO (PySem.W.nsIn K mainGlobals "gcd") (some (some (.builtin "math.gcd")))
theorem gcdB_ok (X : K.In h) (G : h.Ns mainGlobals mg) (c : gcdB K = true) : mg "gcd" = some (.builtin "math.gcd") := PySem.W.mg_of X G (He.eqO_ok c)
/-- a def of the top, by its name and statement -/
def defOf (x : Str) (st : Stmt) (dfl : List He.Dv := []) : He.DefD := ⟨(x, none), x, x, defArgs st, defBody st, defScope st, dfl, []⟩
end
end LW

namespace LW
open PySem PySem.Spec PyProof.Rows L2 LamX
/-! ### the text's end with more behind its list: .. == [] and this and that -/
section
variable {K : PySem.W.Frag} {H H' : Hp} {C : Cl}
/-- a state of which nothing is known -/
theorem StR.blank {n : Nat} {σ : L2.St} (hn : σ.length = n) (tb : Tabs C.T H) : StR K C mu0 (fun _ => none) H (List.replicate n none) σ (fun _ => none) H where
  sub := fun b o e => nomatch e
  ng := fun b o e => nomatch e
  g0 := .refl _
  fz := .refl tb
  new := fun b o e => nomatch e
  mh := fun _ m => m.elim
  len := by rw [List.length_replicate, hn]
  sh := fun i d e => by rw [List.getElem?_replicate] at e; split at e <;> cases e
  ol := fun i m ds e => by rw [List.getElem?_replicate] at e; split at e <;> cases e
  ow := fun i j z ⟨m1, d1, e1⟩ _ _ _ => by rw [List.getElem?_replicate] at e1; split at e1 <;> cases e1
theorem tail_ok2 {P : Program} {w : World} {mg : Str → Option Value} {base : Heap} {k i n : Nat} {q : Str} {ls : List Lm} {lT : List (Addr × Str)} {tb : TE} {m : M} {E : XK} (hl : ToldL K C nmT lT) (G : ∀ l ∈ ls, LamG P w K mg base C k q l) (hi : i < n) (h2 : 2 < n) (hz : ls.length ≤ sizeLine) (hi2 : i ≠ 2)
    (sd : Snd K C E tb m) (hm : m (List.replicate n none) = .ok (List.replicate n none, .bool true)) :
    TailOk C n (tSeq (tAsg (tLst (taW C.T q ls)) (gName 2)) (tRet (tAndV (teW K (spTold P w K mg base k lT) i) tb))) := by
  intro D σ H hn tb0 hD
  refine wr_mean ls σ H _ tb0 fun vs H1 e1 t1 W => ⟨by rw [W.len]; exact hz, fun p hp => ?_⟩
  refine wrongs_mean (vs := vs) hl G (by rw [List.length_set, hn]; exact hi) (List.getElem?_set_self (by rw [hn]; exact h2)) upd_same (W.ext fun b o _ e => up_same hp _ _ e) (t1.ext (up_same hp)) fun H2 t2 => ?_
  refine ⟨true, rfl, iteT ?_⟩
  refine sd _ _ _ _ _ _ _ _ (StR.blank (n := n) (by rw [List.length_set]; exact hn) t2) ?_

  rw [hm]
  intro v G' H3 S' _ r
  cases r
  exact hD H3
end
/-- what stands behind the first part of the text's last answer -/
def restE (s : Stmt) : Expr := match (defBody s).getLast? with
  | some (.Return (some (.BoolOp .And (_ :: es) pos)) _) => .BoolOp .And es pos
  | _ => .Constant .none 0 ⟨0, 0, 0, 0⟩
def bfB (K : PySem.W.Frag) (x : Str) (id : String) : Bool := He.eqO (PySem.W.nsIn K mainGlobals x) (some (some (.builtin id)))
theorem bfB_ok {K : PySem.W.Frag} {h : Heap} {mg : Str → Option Value} {x : Str} {id : String} (X : K.In h) (G : h.Ns mainGlobals mg) (c : bfB K x id = true) : mg x = some (.builtin id) := PySem.W.mg_of X G (He.eqO_ok c)
end LW

namespace LW
open PySem PySem.Spec PyProof.Rows L2
section
variable {K : PySem.W.Frag} {mu : Mu} {G0 H0 G H G' H' H1 : Hp} {env env' : LEnv} {σ σ' : L2.St} {C : Cl} {E : XK} {X : Cx}
/-! ### new objects, as they are laid: hidden, then one's own or to be read -/
theorem nt_ow {p : Addr} {o : HO} {ds : List PyData} (h : OwR K G p o ds) : nt o := h.nt
/-- a hidden object becomes a slot's own -/
theorem StR.own_hid (S : StR K C mu G0 H0 env σ G H) {i : Nat} {q : Addr} {o : HO} {ds : List PyData} (hi : i < env.length) (hq : H q = some o) (r : OwR K G q o ds) (hG : G q = none) (h0 : Nw H0 q) (hw : ∀ j : Nat, Own env j → σ[j]? ≠ some (some (.ref q))) :
    StR K C mu G0 H0 (env.set i (some (.ow false ds))) (σ.set i (some (.ref q))) G H := by
  have hσ : i < σ.length := by rw [← S.len]; exact hi
  have own : ∀ j : Nat, i ≠ j → Own (env.set i (some (.ow false ds))) j → Own env j := fun j z ⟨m, d, e⟩ => ⟨m, d, by rw [List.getElem?_set_ne z] at e; exact e⟩
  exact {
    sub := S.sub
    ng := S.ng
    g0 := S.g0
    fz := S.fz
    new := S.new
    mh := S.mh
    len := by rw [List.length_set, List.length_set, S.len]
    sh := fun j d e => by
      by_cases z : i = j
      · subst z; rw [List.getElem?_set_self hi] at e; cases e
      · rw [List.getElem?_set_ne z] at e ⊢; exact S.sh j d e
    ol := fun j m ds' e => by
      by_cases z : i = j
      · subst z
        rw [List.getElem?_set_self hi] at e
        cases e
        exact ⟨q, o, List.getElem?_set_self hσ, hq, r, hG, .inr h0⟩
      · rw [List.getElem?_set_ne z] at e ⊢; exact S.ol j m ds' e
    ow := fun j k p oj ok a b => by
      by_cases zj : i = j
      · by_cases zk : i = k
        · rw [← zj, ← zk]
        · subst zj
          rw [List.getElem?_set_self hσ] at a
          rw [List.getElem?_set_ne zk] at b
          cases a
          exact absurd b (hw k (own k zk ok))
      · by_cases zk : i = k
        · subst zk
          rw [List.getElem?_set_self hσ] at b
          rw [List.getElem?_set_ne zj] at a
          cases b
          exact absurd a (hw j (own j zj oj))
        · rw [List.getElem?_set_ne zj] at a
          rw [List.getElem?_set_ne zk] at b
          exact S.ow j k p (own j zj oj) (own k zk ok) a b }
def PostH (K : PySem.W.Frag) (C : Cl) (E : XK) (mu : Mu) (G0 H0 : Hp) (σ : L2.St) (G : Hp) : RE (List PyData) → VK → Prop
  | .ok p, Q => ∀ G' H' o q, StR K C mu G0 H0 p.1 σ G' H' → Same G G' → H' q = some o → OwR K G' q o p.2 → G' q = none → Nw H0 q → (∀ j : Nat, Own p.1 j → σ[j]? ≠ some (some (.ref q))) → Q (.ref q) H'
  | .rai c, _ => ∀ H', Fz C.T mu.ch H0 H' → E (C.cl c) none H'
  | .stuck, _ => False
def SndH (K : PySem.W.Frag) (C : Cl) (E : XK) (te : TE) (m : MA) : Prop := ∀ mu G0 H0 env σ G H Q, StR K C mu G0 H0 env σ G H → PostH K C E mu G0 H0 σ G (m env) Q → te σ H Q
theorem postH_bind {β γ : Type} {Rl : Hp → β → γ → Prop} {r : RE γ} {f : LEnv × γ → RE (List PyData)} {Q : VK} {Q1 : β → Hp → Prop} (h : PostH K C E mu G0 H0 σ G (r.bind f) Q)
    (k : ∀ p v G' H', StR K C mu G0 H0 p.1 σ G' H' → Same G G' → Rl G' v p.2 → PostH K C E mu G0 H0 σ G' (f p) Q → Q1 v H') : Post Rl K C E mu G0 H0 σ G r Q1 := by
  cases r with
  | ok p =>
    intro v G' H' S s r
    refine k p v G' H' S s r ?_
    have h : PostH K C E mu G0 H0 σ G (f p) Q := h
    cases e : f p with
    | ok q => rw [e] at h; exact fun G2 H2 o a S2 s2 => h G2 H2 o a S2 (s.trans s2)
    | rai c => rw [e] at h; exact h
    | stuck => rw [e] at h; exact h.elim
  | rai c => exact h
  | stuck => exact h.elim
theorem PostH.gd {c : Bool} {r : RE (List PyData)} {Q : VK} (h : PostH K C E mu G0 H0 σ G (gd c r) Q) : c = true ∧ PostH K C E mu G0 H0 σ G r Q := by
  cases c with
  | true => exact ⟨rfl, h⟩
  | false => exact h.elim
/-- .. laid just now -/
theorem postH_new {env : LEnv} {ds : List PyData} {Q : VK} (S : StR K C mu G0 H0 env σ G H) (h : PostH K C E mu G0 H0 σ G (.ok (env, ds)) Q) {p : Addr} (hp : H p = none) {o : HO} (r : OwR K G p o ds) : Q (.ref p) (upd H p o) := by
  have x := Xt.hid (o := o) S.sub S.fz.tb hp
  have gp : G p = none := S.sub.free hp
  refine h G _ o p (S.ext x) (.refl _) upd_same r gp (S.none0 (nw_of hp)) fun j ⟨m, dd, oj⟩ q => ?_
  obtain ⟨p', o', e1, e2, _⟩ := S.ol j m dd oj
  rw [e1] at q
  cases q
  rw [hp] at e2; cases e2
structure HD (X : Cx) (C : Cl) (E : XK) (e : Expr) (te : TE) (m : MA) : Prop where
  pe : PE X e te
  sd : SndH X.K C E te m
/-- y = a new object of one's own -/
theorem snds_ownH {i : Nat} {te : TE} {m : MA} (h : SndH K C E te m) : SndS K C E (tAsg te (gName i)) (mOwn i m) := by
  intro mu G0 H0 env σ G H D S hh
  refine h _ _ _ _ _ _ _ _ S ?_
  unfold mOwn at hh
  cases e : m env with
  | ok p =>
    rw [e] at hh
    intro G' H' o q S' s hq r hG h0 hw
    have hh : PostS K C E mu G0 H0 G (match Nat.blt i p.1.length with | true => .nx (p.1.set i (some (.ow false p.2))) | false => .stuck) D := hh
    cases c : Nat.blt i p.1.length with
    | true =>
      rw [c] at hh
      exact hh _ _ _ (S'.own_hid (Nat.le_of_ble_eq_true c) hq r hG h0 hw) s
    | false => rw [c] at hh; exact hh.elim
  | rai c => rw [e] at hh; exact hh
  | stuck => rw [e] at hh; exact hh.elim
theorem s_ownH (i : Nat) {y : Str} {e : Expr} {te : TE} {m : MA} {py pos : Pos} (he : HD X C E e te m) (hg : GD X C (.Name y py) (gName i) (bName i) [i]) (hs : swapsWithSole [.Name y py] e pos.line X.env = pure false := by rfl) (hw : swappedStores [.Name y py] e X.env = pure none := by rfl)
    (h1 : (assignEach [.Name y py] X.env).map (·.2) = [assign (.Name y py) X.env] := by rfl) : SD X C E (.Assign [.Name y py] e pos) (tAsg te (gName i)) (mOwn i m) := ⟨ps_asg he.pe hg.pe hs hw h1, snds_ownH he.sd⟩
/-! a new dict that is read alone from now on: locked -/
def tFrzN (te : TE) : TE := fun σ H Q => te σ H fun x H1 => ∃ a kvs, x = .ref a ∧ H1 a = some (.dK kvs) ∧ ∀ od, Q x (upd H1 a (.frz od (.dK kvs)))
theorem pe_frzN {e : Expr} {te : TE} (h : PE X e te) : PE X e (tFrzN te) := by
  refine ⟨fun pn st σ H Q I hq => thn (h.run pn st σ H _ I hq) fun v sa ⟨x, Ha, Ia, r, a, kvs, ex, ea, q⟩ => ?_⟩
  obtain ⟨od, Ib⟩ := Ia.lock ea trivial
  exact ⟨x, _, Ib, r, q od⟩
def mDct (m : MA) : M := fun env => (m env).bind fun p => match p.2 with
  | [.dict ((.bool true, .int (.ofNat 0)) :: es)] => .ok (p.1, .dict es)
  | _ => .stuck
theorem StR.upd_lock {D : Addr} {o o2 : HO} (n2 : nt o2) (no : ∀ xs, o ≠ .tbl xs) (nc : ∀ c q, LamX.CodeO c q ≠ o) (S : StR K C mu G0 H0 env σ G H) (hD : H D = some o) (hG : G D = none) (h0 : Nw H0 D) (hw : ∀ j : Nat, Own env j → σ[j]? ≠ some (some (.ref D))) : StR K C mu G0 H0 env σ G (upd H D o2) where
  sub := fun a u e => by rw [upd_ne (ne_of_none e hG)]; exact S.sub _ _ e
  ng := S.ng
  g0 := S.g0
  fz := ⟨fun b u m n e => by
      rw [upd_ne (fun z => h0 u n (by rw [← z]; exact e))]; exact S.fz.k b u m n e, fun p hp => by
      obtain ⟨ps, a1, a2, a3⟩ := S.fz.tb p hp
      refine ⟨ps, by rw [upd_ne (fun z => by rw [z, hD] at a1; exact no _ (Option.some.inj a1))]; exact a1, a2, fun pos cv hcv => ?_⟩
      obtain ⟨c, e, hc⟩ := a3 pos cv hcv
      exact ⟨c, e, by rw [upd_ne (fun z => by rw [z, hD] at hc; exact nc _ _ (Option.some.inj hc).symm)]; exact hc⟩⟩
  new := S.new
  mh := fun a m => by
    by_cases h : a = D
    · subst h; exact ⟨_, n2, upd_same⟩
    · obtain ⟨u, n, e⟩ := S.mh a m; exact ⟨u, n, by rw [upd_ne h]; exact e⟩
  len := S.len
  sh := S.sh
  ol := fun i m ds e => by
    obtain ⟨p, vs, h1, h2, h3⟩ := S.ol i m ds e
    have : p ≠ D := fun q => hw i ⟨m, ds, e⟩ (by rw [h1, q])
    exact ⟨p, vs, h1, by rw [upd_ne this]; exact h2, h3⟩
  ow := S.ow
theorem code_dK {c : Addr} {q : Str} {kvs : List (Key × V)} : LamX.CodeO c q ≠ HO.dK kvs := fun z => by unfold LamX.CodeO at z; cases z
theorem rpk_mark {kvs : List (Key × V)} {x : PyData} {r : List (PyData × PyData)} (h : RpK K G kvs ((.bool true, x) :: r)) : False := by
  generalize e : ((.bool true, x) :: r : List (PyData × PyData)) = l at h
  cases h with
  | nil => cases e
  | @cons k _ _ _ _ h1 h2 =>
    injection e with e1
    injection e1 with e2
    cases k <;> cases e2
theorem snd_frzN {te : TE} {m : MA} (h : SndH K C E te m) : Snd K C E (tFrzN te) (mDct m) := by
  intro mu G0 H0 env σ G H Q S hh
  refine h _ _ _ _ _ _ _ _ S ?_
  unfold mDct at hh
  cases e : m env with
  | ok p =>
    rw [e] at hh
    obtain ⟨e1, ds⟩ := p
    intro G' H' o q S' s hq r hG h0 hw
    simp only [LW.R.bind] at hh
    split at hh
    · rename_i es
      have ro : ∃ kvs, o = .dK kvs ∧ RpK K G' kvs es := by
        cases r with
        | lst r =>
          cases r with
          | cons a b =>
            cases a with
            | dct _ b => exact (rpk_mark b).elim
            | ins _ b => cases b
        | dct r => exact ⟨_, rfl, r⟩
      obtain ⟨kvs, rfl, rk⟩ := ro
      refine ⟨q, kvs, rfl, hq, fun od => ?_⟩
      have S2 := S'.upd_lock (o2 := .frz od (.dK kvs)) nt_frz (fun _ z => by cases z) (fun _ _ => code_dK) hq hG h0 hw
      have S3 := StR.show nt_frz S2 upd_same hG h0 hw
      have sG : Same G' (upd G' q (.frz od (.dK kvs))) := fun a u e => by rw [upd_ne (ne_of_none e hG)]; exact e
      exact hh (.ref q) _ _ S3 (s.trans sG) (.dct upd_same (RpK.same sG rk))
    · exact hh.elim
  | rai c => rw [e] at hh; exact hh
  | stuck => rw [e] at hh; exact hh.elim
theorem d_frzN {e : Expr} {te : TE} {m : MA} (h : HD X C E e te m) : ED X C E e (tFrzN te) (mDct m) := ⟨pe_frzN h.pe, snd_frzN h.sd⟩
end
end LW

namespace LW
open PySem PySem.Spec PyProof.Rows L2
section
variable {K : PySem.W.Frag} {mu : Mu} {G0 H0 G H G' H' H1 : Hp} {env env' : LEnv} {σ σ' : L2.St} {C : Cl} {E : XK} {X : Cx}
theorem PostH.mono {r : RE (List PyData)} {Q : VK} (s : Same G G') (h : PostH K C E mu G0 H0 σ G r Q) : PostH K C E mu G0 H0 σ G' r Q := by
  cases r with
  | ok p => exact fun G2 H2 o q S2 s2 => h G2 H2 o q S2 (s.trans s2)
  | rai c => exact h
  | stuck => exact h
/-- a hidden object changes -/
theorem StR.upd_hidO {D : Addr} {o o2 : HO} (n2 : nt o2) (no : ∀ xs, o ≠ .tbl xs) (nc : ∀ c q, LamX.CodeO c q ≠ o) (S : StR K C mu G0 H0 env σ G H) (hD : H D = some o) (hG : G D = none) (h0 : Nw H0 D) (hw : ∀ j : Nat, Own env j → σ[j]? ≠ some (some (.ref D))) : StR K C mu G0 H0 env σ G (upd H D o2) := S.upd_lock n2 no nc hD hG h0 hw
theorem putK_len (acc : List (Key × V)) (k : Key) (v : V) : (putK acc k v).length ≤ acc.length + 1 := by
  unfold putK
  split
  · rw [List.length_map]; omega
  · rw [List.length_append]; exact Nat.le_refl _
/-! ### {k: v for .. in .. if ..} -/
def dput (d : PyData) (f : PyData → RE DD) : RE DD := match keyOf d with
  | some _ => f d
  | none => .stuck
def compDL (vs : List Nat) (b : Bi) (tt : MT) (fk fv : M) : List PyData → LEnv → DD → RE DD
  | [], e, acc => .ok (e, acc)
  | d :: r, e, acc => match b d e with
    | .ok e1 => (noRai (tt e1)).bind fun t => bif t.2 then (noRai (fk t.1)).bind fun y => (noRai (fv y.1)).bind fun w => dput y.2 (fun k => compDL vs b tt fk fv r (wipeE w.1 vs) (putD acc k w.2)) else compDL vs b tt fk fv r (wipeE t.1 vs) acc
    | _ => .stuck
def mCompD (vs : List Nat) (mi : MA) (b : Bi) (tt : MT) (fk fv : M) : MA := fun env => (mi env).bind fun p => gd (Nat.blt p.2.length small) ((compDL vs b tt fk fv p.2 (wipeE p.1 vs) []).bind fun z => .ok (restore p.1 z.1 vs, [.dict ((.bool true, .int (.ofNat 0)) :: z.2)]))
theorem snd_compDT {wi : TI} {g : TG} {tt : TT} {tk tv : TE} {vs : List Nat} {mi : MA} {b : Bi} {is : List Nat} {mt : MT} {fk fv : M} (hi : SndIT K C E wi mi g b is) (his : ∀ i ∈ is, i ∈ vs) (ht : SndT K C (fun _ _ _ => False) tt mt)
    (hk : Snd K C (fun _ _ _ => False) tk fk) (he : Snd K C (fun _ _ _ => False) tv fv) : SndH K C E (tDc wi g tt tk tv vs) (mCompD vs mi b mt fk fv) := by
  intro mu G0 H0 env σ G H Q S h
  refine hi _ _ _ _ _ _ _ _ S (postH_bind h fun p J G1 H1 S1 s1 r1 h1 => ?_)
  obtain ⟨e0, ds⟩ := p
  obtain ⟨hlen, h1⟩ := PostH.gd h1
  obtain ⟨hgo, hst, hy⟩ := r1
  have hsm : ds.length < sizeLine := Nat.lt_of_lt_of_le (Nat.le_of_ble_eq_true hlen) small_le
  intro D hD
  have gD : G1 D = none := S1.sub.free hD
  have h0D : Nw H0 D := S1.none0 (nw_of hD)
  refine ⟨fun i m H => m = ds.length - i ∧ i ≤ ds.length ∧ ∃ e G acc ad, StR K C mu G0 H0 e (L2.wipe σ vs) G H ∧ Same G1 G ∧ H D = some (.dK acc) ∧ G D = none ∧ RpK K G acc ad ∧ acc.length ≤ i ∧ (∀ j, Own e j → (L2.wipe σ vs)[j]? ≠ some (some (.ref D))) ∧
      PostH K C E mu G0 H0 σ G ((compDL vs b mt fk fv (ds.drop i) e ad).bind fun z => .ok (restore e0 z.1 vs, [.dict ((.bool true, .int (.ofNat 0)) :: z.2)])) Q, ⟨_, rfl, Nat.zero_le _, wipeE e0 vs, G1, [], [], ?_, .refl _, upd_same, gD, .nil, Nat.le_refl _, ?_, h1⟩, ?_⟩
  · exact (S1.wipe vs).ext (Xt.hid S1.sub S1.fz.tb hD)
  · intro j ⟨m, dd, hj⟩ q
    obtain ⟨p, ws, e1, e2, _⟩ := (S1.wipe vs).ol j m dd hj
    rw [e1] at q
    cases q
    rw [hD] at e2; cases e2
  rintro i m H2 ⟨rfl, hle, e2, G2, acc, ad, S2, s2, hacc, hG2, racc, hil, hown, p2⟩
  by_cases hlt : i < ds.length
  · refine .inr ⟨hgo i H2 (s2.trans S2.sub) hlt, fun H' => i + 1 ≤ ds.length ∧ ∃ e G acc ad, StR K C mu G0 H0 e (L2.wipe σ vs) G H' ∧ Same G1 G ∧ H' D = some (.dK acc) ∧ G D = none ∧ RpK K G acc ad ∧ acc.length ≤ i + 1 ∧ (∀ j, Own e j → (L2.wipe σ vs)[j]? ≠ some (some (.ref D))) ∧
      PostH K C E mu G0 H0 σ G ((compDL vs b mt fk fv (ds.drop (i + 1)) e ad).bind fun z => .ok (restore e0 z.1 vs, [.dict ((.bool true, .int (.ofNat 0)) :: z.2)])) Q, fun H' n => ⟨ds.length - (i + 1), by omega, rfl, n.1, n.2⟩, fun x H' y => ?_⟩
    obtain ⟨d, hd⟩ : ∃ d, ds[i]? = some d := ⟨ds[i], List.getElem?_eq_getElem hlt⟩
    obtain ⟨G3, s3, hg⟩ := hy i H2 x H' (s2.trans S2.sub) y d hd _ _ _ _ _ _ S2.rebase s2
    replace p2 := p2.mono s3
    replace s2 := s2.trans s3
    replace racc := RpK.mono s3 _ _ racc
    have ed : ds.drop i = d :: ds.drop (i + 1) := by
      obtain ⟨hlt', e'⟩ := List.getElem?_eq_some_iff.mp hd
      rw [List.drop_eq_getElem_cons hlt', e']
    rw [ed] at p2
    refine hg _ ?_
    have p2 : PostH K C E mu G0 H0 σ G3 ((match b d e2 with
      | .ok e1 => ((noRai (mt e1)).bind fun t => bif t.2 then (noRai (fk t.1)).bind fun y => (noRai (fv y.1)).bind fun w => dput y.2 (fun k => compDL vs b mt fk fv (ds.drop (i + 1)) (wipeE w.1 vs) (putD ad k w.2)) else compDL vs b mt fk fv (ds.drop (i + 1)) (wipeE t.1 vs) ad)
      | _ => .stuck).bind fun z => .ok (restore e0 z.1 vs, [.dict ((.bool true, .int (.ofNat 0)) :: z.2)])) Q := p2
    cases eb : b d e2 with
    | rai c => rw [eb] at p2; exact p2
    | stuck => rw [eb] at p2; exact p2
    | ok e3 =>
      rw [eb] at p2
      intro σ3 S3 l3 k3
      have hw : L2.wipe σ3 vs = L2.wipe (L2.wipe σ vs) vs := wipe_same l3 fun j hj => k3 j fun q => hj (his j q)
      have hww : L2.wipe (L2.wipe σ vs) vs = L2.wipe σ vs := wipe_same (wipe_length _ _) fun j hj => by rw [wipe_get, if_neg hj]
      refine ⟨hw.trans hww, ?_⟩
      have noch : ¬ (mu.plus e2 (L2.wipe σ vs)).ch D := fun z => by
        rcases z with z | ⟨j, oj, hj⟩
        · exact S1.noch (nw_of hD) z
        · exact hown j oj hj
      -- D's list stands through the turn, hidden, and no slot has it
      have stands : ∀ {e G H}, StR K C (mu.plus e2 (L2.wipe σ vs)) G2 H2 e σ3 G H → H D = some (.dK acc) ∧ G D = none ∧ ∀ j : Nat, Own e j → σ3[j]? ≠ some (some (.ref D)) := fun {e G H} S => by
        refine ⟨S.fz.k D _ noch nt_dK hacc, ?_, fun j ⟨m, dd, oj⟩ q => ?_⟩
        · cases q : G D with
          | none => rfl
          | some u =>
            rcases S.new D u q with z | ⟨z | z, _⟩
            · rw [hG2] at z; cases z
            · exact (noch z).elim
            · exact (z _ nt_dK hacc).elim
        · obtain ⟨p, ws, e1, e2', e3', e4', e5'⟩ := S.ol j m dd oj
          rw [e1] at q
          cases q
          cases m with
          | true => exact noch (.inl (mu.sub _ e5'))
          | false =>
            rcases e5' with z | z
            · exact noch z
            · exact z _ nt_dK hacc
      -- the next turn's state
      have wiped : ∀ {e G H}, StR K C mu G0 H0 e σ3 G H → StR K C mu G0 H0 (wipeE e vs) (L2.wipe σ vs) G H := fun {e G H} S => by
        have := S.wipe vs
        rw [hw, hww] at this
        exact this
      have wipedOwn : ∀ {e}, (∀ j : Nat, Own e j → σ3[j]? ≠ some (some (.ref D))) → ∀ j : Nat, Own (wipeE e vs) j → (L2.wipe σ vs)[j]? ≠ some (some (.ref D)) := fun {e} h j oj q => by
        have wg : ∀ (e : LEnv) (vs : List Nat) (j : Nat) (s : Sl), (wipeE e vs)[j]? = some (some s) → e[j]? = some (some s) ∧ j ∉ vs := by
          intro e vs
          induction vs with
          | nil => intro j s h; exact ⟨h, by simp⟩
          | cons v vs ih =>
            intro j s h
            unfold wipeE at h
            rw [get_set] at h
            by_cases hv : v = j
            · subst hv; rw [if_pos rfl] at h; split at h <;> cases h
            · rw [if_neg hv] at h
              obtain ⟨h1, h2⟩ := ih j s h
              exact ⟨h1, by simp only [List.mem_cons, not_or]; exact ⟨fun z => hv z.symm, h2⟩⟩
        obtain ⟨m, dd, oj⟩ := oj
        obtain ⟨o1, o2⟩ := wg e vs j _ oj
        refine h j ⟨m, dd, o1⟩ ?_
        rw [← hww, ← hw, wipe_get, if_neg o2] at q
        exact q
      have p2 : PostH K C E mu G0 H0 σ G3 (((noRai (mt e3)).bind fun t => bif t.2 then (noRai (fk t.1)).bind fun y => (noRai (fv y.1)).bind fun w => dput y.2 (fun k => compDL vs b mt fk fv (ds.drop (i + 1)) (wipeE w.1 vs) (putD ad k w.2)) else compDL vs b mt fk fv (ds.drop (i + 1)) (wipeE t.1 vs) ad).bind fun z => .ok (restore e0 z.1 vs, [.dict ((.bool true, .int (.ofNat 0)) :: z.2)])) Q := p2
      refine ht _ _ _ _ _ _ _ _ S3 ?_
      cases et : mt e3 with
      | rai c => rw [et] at p2; exact p2.elim
      | stuck => rw [et] at p2; exact p2
      | ok t =>
        rw [et] at p2
        obtain ⟨e4, tb⟩ := t
        intro bv G4 H4 S4 s4 rb
        have S4 : StR K C (mu.plus e2 (L2.wipe σ vs)) G2 H2 e4 σ3 G4 H4 := S4
        obtain rfl : bv = tb := rb
        cases bv with
        | false =>
          have p2 : PostH K C E mu G0 H0 σ G3 ((compDL vs b mt fk fv (ds.drop (i + 1)) (wipeE e4 vs) ad).bind fun z => .ok (restore e0 z.1 vs, [.dict ((.bool true, .int (.ofNat 0)) :: z.2)])) Q := p2
          refine iteF ⟨hlt, wipeE e4 vs, G4, acc, ad, wiped (StR.unbase S2 S4), s2.trans s4, (stands S4).1, (stands S4).2.1, RpK.mono s4 _ _ racc, by omega, wipedOwn (stands S4).2.2, ?_⟩
          exact p2.mono s4
        | true =>
          refine iteT ?_
          have p2 : PostH K C E mu G0 H0 σ G3 (((noRai (fk e4)).bind fun y => (noRai (fv y.1)).bind fun w => dput y.2 (fun k => compDL vs b mt fk fv (ds.drop (i + 1)) (wipeE w.1 vs) (putD ad k w.2))).bind fun z => .ok (restore e0 z.1 vs, [.dict ((.bool true, .int (.ofNat 0)) :: z.2)])) Q := p2
          refine hk _ _ _ _ _ _ _ _ S4 ?_
          cases ek : fk e4 with
          | rai c => rw [ek] at p2; exact p2.elim
          | stuck => rw [ek] at p2; exact p2
          | ok y =>
            rw [ek] at p2
            obtain ⟨e5, dy⟩ := y
            intro yv G5 H5 S5 s5 ry
            have S5 : StR K C (mu.plus e2 (L2.wipe σ vs)) G2 H2 e5 σ3 G5 H5 := S5
            have ry : Rp K G5 yv dy := ry
            have p2 : PostH K C E mu G0 H0 σ G3 (((noRai (fv e5)).bind fun w => dput dy (fun k => compDL vs b mt fk fv (ds.drop (i + 1)) (wipeE w.1 vs) (putD ad k w.2))).bind fun z => .ok (restore e0 z.1 vs, [.dict ((.bool true, .int (.ofNat 0)) :: z.2)])) Q := p2
            refine he _ _ _ _ _ _ _ _ S5 ?_
            cases ef : fv e5 with
            | rai c => rw [ef] at p2; exact p2.elim
            | stuck => rw [ef] at p2; exact p2
            | ok w =>
              rw [ef] at p2
              obtain ⟨e6, dw⟩ := w
              intro wv G6 H6 S6 s6 rw6
              have S6 : StR K C (mu.plus e2 (L2.wipe σ vs)) G2 H2 e6 σ3 G6 H6 := S6
              have rw6 : Rp K G6 wv dw := rw6
              have p2 : PostH K C E mu G0 H0 σ G3 ((dput dy (fun k => compDL vs b mt fk fv (ds.drop (i + 1)) (wipeE e6 vs) (putD ad k dw))).bind fun z => .ok (restore e0 z.1 vs, [.dict ((.bool true, .int (.ofNat 0)) :: z.2)])) Q := p2
              obtain ⟨st1, st2, st3⟩ := stands S6
              have U := StR.unbase S2 S6
              cases eo : keyOf dy with
              | none => simp only [dput, eo] at p2; exact p2.elim
              | some k =>
                simp only [dput, eo] at p2
                have e7 := keyOf_eq eo
                subst e7
                have ev : yv = kV k := by cases k <;> (cases ry; rfl)
                refine ⟨acc, k, ev, st1, by omega, hlt, wipeE e6 vs, G6, putK acc k wv, putD ad (keyD k) dw, wiped (U.upd_hidO (o := .dK acc) nt_dK (fun _ z => by cases z) (fun _ _ => code_dK) st1 st2 h0D st3), ((s2.trans s4).trans s5).trans s6, upd_same, st2, (RpK.mono ((s4.trans s5).trans s6) _ _ racc).put k rw6, ?_, wipedOwn st3, ?_⟩
                · have := putK_len acc k wv
                  omega
                · exact p2.mono ((s4.trans s5).trans s6)
  · refine .inl ⟨hst i H2 (s2.trans S2.sub) (by show i = ds.length; omega), ?_⟩
    rw [List.drop_eq_nil_of_le (by omega)] at p2
    have p2 : PostH K C E mu G0 H0 σ G2 (.ok (restore e0 e2 vs, [.dict ((.bool true, .int (.ofNat 0)) :: ad)])) Q := p2
    have S4 := StR.restore (vs := vs) S1 S2 s2
    have hw4 : ∀ j : Nat, Own (restore e0 e2 vs) j → σ[j]? ≠ some (some (.ref D)) := fun j ⟨m, dd, oj⟩ q => by
      rw [restore_get] at oj
      by_cases hj : j ∈ vs
      · rw [if_pos hj] at oj
        split at oj
        · cases hk : e0[j]? with
          | none => rw [hk] at oj; cases oj
          | some o =>
            cases o with
            | none => rw [hk] at oj; cases oj
            | some s0 => cases s0 <;> (rw [hk] at oj; cases oj)
        · cases oj
      · rw [if_neg hj] at oj
        exact hown j ⟨m, dd, oj⟩ (by rw [wipe_get, if_neg hj]; exact q)
    exact p2 G2 H2 _ D S4 (.refl _) hacc (.dct racc) hG2 h0D hw4
theorem snd_compD {wi : TI} {g : TG} {tt : TT} {tk tv : TE} {vs : List Nat} {mi : MA} {b : Bi} {is : List Nat} {mt : MT} {fk fv : M} (hi : SndI K C E wi mi) (hg : SndG K C g b is) (his : ∀ i ∈ is, i ∈ vs) (ht : SndT K C (fun _ _ _ => False) tt mt)
    (hk : Snd K C (fun _ _ _ => False) tk fk) (he : Snd K C (fun _ _ _ => False) tv fv) : SndH K C E (tDc wi g tt tk tv vs) (mCompD vs mi b mt fk fv) := snd_compDT (sndit_of hi hg) his ht hk he
end
end LW

namespace LW
open PySem PySem.Spec PyProof.Rows L2
/-! ### tables of counts: whole numbers to whole numbers -/
def atI : List (Int × Int) → Int → Option Int
  | [], _ => none
  | p :: l, k => if p.1 = k then some p.2 else atI l k
def putI : List (Int × Int) → Int → Int → List (Int × Int)
  | [], k, n => [(k, n)]
  | p :: l, k, n => if p.1 = k then (k, n) :: l else p :: putI l k n
theorem putI_len : ∀ (l : List (Int × Int)) (k n : Int), (putI l k n).length ≤ l.length + 1
  | [], _, _ => Nat.le_refl _
  | p :: l, k, n => by
    unfold putI
    split
    · simp
    · have := putI_len l k n
      simp; omega
section
variable {P P' : Program} {w w' : World}
theorem pairs_cast {es : List DictEntry} {vs : List (Int × Value)} (h : Pairs (PySem.intKind P w) es vs) : Pairs (PySem.intKind P' w') es vs := by
  induction h with
  | nil => exact .nil
  | cons a b _ ih => exact .cons a b ih
theorem dd_cast {h : Heap} {a : Addr} {vs : List (Int × Value)} (x : DDict.Dd (PySem.intKind P w) h a vs) : DDict.Dd (PySem.intKind P' w') h a vs :=
  let ⟨o, l, es, ep, ho, hd, t⟩ := x; ⟨o, l, es, ep, ho, hd, t.1, pairs_cast t.2.1, t.2.2⟩
theorem cntV_at {k : Int} : ∀ {kvs : List (Int × Int)} {vs : List (Int × Value)}, CntV kvs vs → (atI kvs k = none ∧ valueAt vs k = none) ∨ ∃ n t, atI kvs k = some n ∧ valueAt vs k = some (.int n t)
  | _, _, .nil => .inl ⟨rfl, rfl⟩
  | _, _, .cons (a := p) (b := q) e r => by
    obtain ⟨e1, t, e2⟩ := e
    by_cases z : p.1 = k
    · have y : q.1 = k := e1 ▸ z
      refine .inr ⟨p.2, t, by simp [atI, z], ?_⟩
      simp [valueAt, y, e2]
    · have y : ¬ q.1 = k := e1 ▸ z
      rcases cntV_at (k := k) r with ⟨a1, a2⟩ | ⟨n, t', a1, a2⟩
      · refine .inl ⟨by simp [atI, z, a1], ?_⟩
        simpa [valueAt, y] using a2
      · refine .inr ⟨n, t', by simp [atI, z, a1], ?_⟩
        simpa [valueAt, y] using a2
theorem cntV_keys : ∀ {kvs : List (Int × Int)} {vs : List (Int × Value)}, CntV kvs vs → kvs.map (·.1) = vs.map (·.1)
  | _, _, .nil => rfl
  | _, _, .cons e r => by simp [e.1, cntV_keys r]
theorem cntV_put {k n : Int} {t : Tok} : ∀ {kvs : List (Int × Int)} {vs : List (Int × Value)}, CntV kvs vs → (vs.map (·.1)).Nodup → CntV (putI kvs k n) (stored vs k (.int n t))
  | _, _, .nil, _ => .cons ⟨rfl, t, rfl⟩ .nil
  | _, _, .cons (a := p) (b := q) (l₁ := l) (l₂ := m) e r, nd => by
    obtain ⟨e1, t', e2⟩ := e
    have nd2 : q.1 ∉ m.map (·.1) ∧ (m.map (·.1)).Nodup := by simpa using nd
    by_cases z : p.1 = k
    · have y : q.1 = k := e1 ▸ z
      have st : stored (q :: m) k (.int n t) = (k, .int n t) :: m := by
        unfold stored
        rw [if_pos (by simp [y])]
        rw [List.map_cons, if_pos y, map_store_of_not_mem m k _ (y ▸ nd2.1), y]
      rw [st, putI, if_pos z]
      exact .cons ⟨rfl, t, rfl⟩ r
    · have y : ¬ q.1 = k := e1 ▸ z
      have st : stored (q :: m) k (.int n t) = q :: stored m k (.int n t) := by
        unfold stored
        by_cases c : (m.any fun kv => decide (kv.1 = k)) = true
        · rw [if_pos (by simp only [List.any_cons, c, Bool.or_true]), if_pos c, List.map_cons, if_neg y]
        · rw [if_neg (by simp only [List.any_cons, y, decide_false, Bool.false_or]; exact c), if_neg c]
          rfl
      rw [st, putI, if_neg z]
      exact .cons ⟨e1, t', e2⟩ (cntV_put r nd2.2)
theorem ddp_ok {P : Program} {w : World} {H : Hp} {h : Heap} {a : Addr} {kvs : List (Int × Int)} (x : DdP h a kvs) : ObjOk P w H h a (DdO a kvs) := by
  refine ⟨x, ?_, fun h1 h2 q st => ?_⟩
  · obtain ⟨_, _, _, _, _, _, o, _, es, ep, ho, _⟩ := x
    exact ⟨_, ho⟩
  · obtain ⟨z1, z2, P, w, vs, r, y⟩ := q
    exact ⟨z1, z2, P, w, vs, r, y.ext st⟩
end
section
variable {X : Cx} {pins : List (Addr × Obj)} {σ : L2.St} {H : Hp} {s : Shared} {a : Addr} {kvs : List (Int × Int)}
theorem dd_at (I : Inv X pins σ H s) (x : H a = some (DdO a kvs)) : kvs.length ≤ sizeLine ∧ (a == sysModules) = false ∧ ∃ vs, CntV kvs vs ∧ DDict.Dd (PySem.intKind X.prog X.w) s.heap a vs := by
  obtain ⟨z1, z2, P, w, vs, r, y⟩ := (show ObjOk X.prog X.w H s.heap a (DdO a kvs) from I.hok a _ x).1
  exact ⟨z1, z2, vs, r, dd_cast y⟩
theorem dd_write {kvs' : List (Int × Int)} {vs' : List (Int × Value)} {h' : Heap} {t' : Nat} (I : Inv X pins σ H s) (x : H a = some (DdO a kvs)) (sb : Heap.SameBut a s.heap h') (hz : kvs'.length ≤ sizeLine) (r : CntV kvs' vs') (q : DDict.Dd (PySem.intKind X.prog X.w) h' a vs') :
    Inv X pins σ (upd H a (DdO a kvs')) { s with heap := h', toks := t' } := by
  obtain ⟨_, hm, _⟩ := dd_at I x
  refine I.write (x := a) (e := a) (by rw [x]; exact True.intro) (.inl rfl) (fun b o hb e => (sb.2 b hb).trans e) ?_ (ddp_ok ⟨hz, hm, _, _, vs', r, q⟩)
  obtain ⟨o, _, es, ep, ho, _⟩ := q
  exact ⟨_, ho⟩
/-! ### its readings -/
def getDd : V → V → Hp → VK → Prop := fun o i H Q => ∃ a kvs k, o = .ref a ∧ H a = some (DdO a kvs) ∧ i = .int k ∧ kvs.length < sizeLine ∧
  (∀ n, atI kvs k = some n → Q (.int n) H) ∧ (atI kvs k = none → Q (.int 0) (upd H a (DdO a (putI kvs k 0))))
def setDd : TSet := fun o i z H Q => ∃ a kvs k n, o = .ref a ∧ H a = some (DdO a kvs) ∧ i = .int k ∧ z = .int n ∧ kvs.length < sizeLine ∧ Q (upd H a (DdO a (putI kvs k n)))
theorem pget_dd : PGet X getDd := by
  intro pins s σ H o i ov iv Q I ro ri h
  obtain ⟨a, kvs, k, rfl, x, rfl, lt, q1, q2⟩ := h
  cases ro
  obtain ⟨t, rfl⟩ := ri
  obtain ⟨z, hm, vs, r, y⟩ := dd_at I x
  have hk : (PySem.intKind X.prog X.w).is k (.int k t) = true := by simp [PySem.intKind, Value.isInt]
  have lv : vs.length ≤ sizeLine := by rw [← r.length]; exact z
  rcases cntV_at (k := k) r with ⟨e1, e2⟩ | ⟨n, t', e1, e2⟩
  · refine DDict.dd_getI0 hm y hk lv e2 fun h' u tk y' sb => ?_
    have nd : (vs.map (·.1)).Nodup := let ⟨_, _, _, _, _, _, t⟩ := y; t.2.2
    refine ⟨.int 0, _, dd_write I x sb ?_ (cntV_put r nd) y', ⟨u, rfl⟩, q2 e1⟩
    have := putI_len kvs k 0
    omega
  · exact DDict.dd_getI y hk e2 fun tk => ⟨.int n, H, I.tok _, ⟨t', rfl⟩, q1 n e1⟩
theorem pset_dd : PSet X setDd := by
  intro pins s σ H o i z ov iv zv Q I ro ri rz h
  obtain ⟨a, kvs, k, n, rfl, x, rfl, rfl, lt, q⟩ := h
  cases ro
  obtain ⟨t, rfl⟩ := ri
  obtain ⟨u, rfl⟩ := rz
  obtain ⟨z, hm, vs, r, y⟩ := dd_at I x
  have hk : (PySem.intKind X.prog X.w).is k (.int k t) = true := by simp [PySem.intKind, Value.isInt]
  have lv : vs.length ≤ sizeLine := by rw [← r.length]; exact z
  have nd : (vs.map (·.1)).Nodup := let ⟨_, _, _, _, _, _, t⟩ := y; t.2.2
  refine DDict.dd_setI y hk lv fun h' tk y' sb => ⟨_, dd_write I x sb ?_ (cntV_put r nd) y', q⟩
  have := putI_len kvs k n
  omega
/-- defaultdict(int) -/
def tDdN : TE := fun _ H Q => ∀ p, H p = none → Q (.ref p) (upd H p (DdO p []))
end
end LW

namespace LW
open PySem PySem.Spec PyProof.Rows L2
/-! ### counts as data -/
def atD : List (PyData × PyData) → Int → Int
  | [], _ => 0
  | p :: l, k => match p with
    | (.int a, .int n) => if a = k then n else atD l k
    | _ => 0
def putDI : List (PyData × PyData) → Int → Int → List (PyData × PyData)
  | [], k, n => [(.int k, .int n)]
  | p :: l, k, n => match p with
    | (.int a, _) => if a = k then (.int k, .int n) :: l else p :: putDI l k n
    | _ => p :: l
theorem atD_cnt (k : Int) : ∀ l : List (Int × Int), atD (cntD l) k = (atI l k).getD 0
  | [] => rfl
  | p :: l => by
    unfold cntD atD atI
    dsimp only
    split
    · rfl
    · exact atD_cnt k l
theorem putDI_cnt (k n : Int) : ∀ l : List (Int × Int), putDI (cntD l) k n = cntD (putI l k n)
  | [] => rfl
  | p :: l => by
    unfold cntD putDI putI
    dsimp only
    split
    · rfl
    · rw [putDI_cnt k n l]
theorem putI_same (k n : Int) : ∀ l : List (Int × Int), atI l k = some n → putI l k n = l
  | [], h => nomatch h
  | p :: l, h => by
    obtain ⟨a, b⟩ := p
    unfold atI at h
    unfold putI
    split at h
    · rename_i e
      cases h
      have e : a = k := e
      rw [if_pos e, e]
    · rename_i e
      rw [if_neg e, putI_same k n l h]
theorem cntD_len : ∀ l : List (Int × Int), (cntD l).length = l.length
  | [] => rfl
  | p :: l => by simp [cntD, cntD_len l]
/-- counts are no code object -/
theorem code_cnt {c a : Addr} {q : Str} {kvs : List (Int × Int)} : LamX.CodeO c q ≠ DdO a kvs := fun z => by
  unfold LamX.CodeO DdO at z
  injection z with z
  let o : Obj := { cls := .none, data := .fields #[.none, .str q default] }
  let h : Heap := ⟨Array.replicate (max a c + 1) o, default⟩
  have g : ∀ b, b ≤ max a c → h.get? b = some o := fun b le => by
    have e : h.objs[b]? = some o := by
      show (Array.replicate (max a c + 1) o)[b]? = some o
      rw [Array.getElem?_replicate, if_pos (Nat.lt_succ_of_le le)]
    unfold Heap.get?
    rw [e]
  have y : DdP h a kvs := (congrFun z h) ▸ (⟨o, _, default, g c (Nat.le_max_right _ _), rfl, rfl⟩ : ∃ (oc : Obj) (vs : Array Value) (t : Tok), h.get? c = some oc ∧ oc.data = .fields vs ∧ vs[1]? = some (.str q t))
  obtain ⟨_, _, _, _, _, _, o', _, es, ep, ho, hd, _⟩ := y
  rw [g a (Nat.le_max_left _ _)] at ho
  cases ho
  cases hd
section
variable {K : PySem.W.Frag} {mu : Mu} {G0 H0 G H G' H' H1 : Hp} {env env' : LEnv} {σ σ' : L2.St} {C : Cl} {E : XK} {X : Cx}
theorem OwR.cnt_of {p : Addr} {o : HO} {es : List (PyData × PyData)} (h : OwR K G p o [.dict ((.bool true, .bool true) :: es)]) : ∃ kvs, o = DdO p kvs ∧ es = cntD kvs := by
  cases h with
  | lst h =>
    cases h with
    | cons a b =>
      cases a with
      | dct _ b => exact (rpk_mark b).elim
      | ins _ b => cases b
  | cnt => exact ⟨_, rfl, rfl⟩
/-- the counts of slot i -/
def cnts (i : Nat) (e : LEnv) (f : Bool → List (PyData × PyData) → RS) : RS := match nth e i with
  | some (some (.ow m [.dict ((.bool true, .bool true) :: es)])) => f m es
  | _ => .stuck
def setC (i : Nat) (e : LEnv) (m : Bool) (es : List (PyData × PyData)) : LEnv := e.set i (some (.ow m [.dict ((.bool true, .bool true) :: es)]))
def isI (d : PyData) (f : Int → RS) : RS := match d with
  | .int k => f k
  | _ => .stuck
def gdS (c : Bool) (r : RS) : RS := match c with
  | true => r
  | false => .stuck
/-- d[k] += n, d the counts of slot i -/
def mBump (i : Nat) (fi fe : M) : MS := fun env => cnts i env fun _ _ => bindS (fi env) fun q => isI q.2 fun k => cnts i q.1 fun m es => gdS (Nat.blt es.length small) (bindS (fe (setC i q.1 m (putDI es k (atD es k)))) fun r => isI r.2 fun n => cnts i r.1 fun m' es' => gdS (Nat.blt es'.length small) (.nx (setC i r.1 m' (putDI es' k (atD es k + n)))))
theorem cnts_of {i : Nat} {e : LEnv} {f : Bool → List (PyData × PyData) → RS} {D : Ends} (S : StR K C mu G0 H0 e σ G H) (h : PostS K C E mu G0 H0 G (cnts i e f) D) :
    ∃ a m kvs, σ[i]? = some (some (.ref a)) ∧ e[i]? = some (some (.ow m [.dict ((.bool true, .bool true) :: cntD kvs)])) ∧ H a = some (DdO a kvs) ∧ G a = none ∧ PostS K C E mu G0 H0 G (f m (cntD kvs)) D := by
  unfold cnts at h
  rw [nth_eq] at h
  split at h
  · rename_i m es q
    obtain ⟨a, o, f1, f2, f3, f4, f5⟩ := S.ol i m _ q
    obtain ⟨kvs, rfl, rfl⟩ := f3.cnt_of
    exact ⟨a, m, kvs, f1, q, f2, f4, h⟩
  · exact h.elim
theorem isI_of {d : PyData} {f : Int → RS} {D : Ends} (h : PostS K C E mu G0 H0 G (isI d f) D) : ∃ k, d = .int k ∧ PostS K C E mu G0 H0 G (f k) D := by
  unfold isI at h
  split at h
  · exact ⟨_, rfl, h⟩
  · exact h.elim
theorem gdS_of {c : Bool} {r : RS} {D : Ends} (h : PostS K C E mu G0 H0 G (gdS c r) D) : c = true ∧ PostS K C E mu G0 H0 G r D := by
  cases c with
  | true => exact ⟨rfl, h⟩
  | false => exact h.elim
/-- the counts of slot i have changed -/
theorem StR.cnt_to (S : StR K C mu G0 H0 env σ G H) {i : Nat} {m : Bool} {a : Addr} {kvs kvs' : List (Int × Int)} (he : env[i]? = some (some (.ow m [.dict ((.bool true, .bool true) :: cntD kvs)]))) (hs : σ[i]? = some (some (.ref a))) (hH : H a = some (DdO a kvs)) (hG : G a = none) :
    StR K C mu G0 H0 (setC i env m (cntD kvs')) σ G (upd H a (DdO a kvs')) := by
  refine StR.own_to (o' := DdO a kvs') S he hs (.refl _) (fun b u e => ?_) ⟨fun b o nb _ e => by rw [upd_ne nb]; exact e, fun p hp => ?_⟩ (fun _ _ e => .inl e) upd_same .cnt
  · rw [upd_ne (fun z => by rw [z, hG] at e; cases e)]; exact S.sub _ _ e
  · obtain ⟨ps, a1, a2, a3⟩ := S.fz.tb p hp
    refine ⟨ps, by rw [upd_ne (fun z => by rw [z, hH] at a1; cases a1)]; exact a1, a2, fun pos cv hcv => ?_⟩
    obtain ⟨c, e, hc⟩ := a3 pos cv hcv
    exact ⟨c, e, by rw [upd_ne (fun z => by rw [z, hH] at hc; exact code_cnt (Option.some.inj hc).symm)]; exact hc⟩
theorem snds_bump {i : Nat} {ti te : TE} {fi fe : M} (hi : Snd K C E ti fi) (he : Snd K C E te fe) : SndS K C E (tAugS (tVar i) ti te getDd (ipI fun a b => a + b) setDd) (mBump i fi fe) := by
  intro mu G0 H0 env σ G H D S h
  obtain ⟨a, _, _, v1, _, _, _, h⟩ := cnts_of S h
  refine ⟨.ref a, v1, hi _ _ _ _ _ _ _ _ S (PostS.bind (Rl := RlE K) h fun q y G1 H1 S1 s1 r1 h1 => ?_)⟩
  obtain ⟨k, ek, h1⟩ := isI_of h1
  obtain ⟨eq, dq⟩ := q
  obtain rfl : dq = .int k := ek
  cases r1
  obtain ⟨a', m, kvs, w1, w2, w3, w4, h1⟩ := cnts_of S1 h1
  rw [v1] at w1
  cases w1
  obtain ⟨c1, h1⟩ := gdS_of h1
  have lt : kvs.length < sizeLine := by
    have := Nat.le_of_ble_eq_true c1
    rw [cntD_len] at this
    exact Nat.lt_of_lt_of_le this small_le
  have go : ∀ {H2 : Hp}, StR K C mu G0 H0 (setC i eq m (putDI (cntD kvs) k (atD (cntD kvs) k))) σ G1 H2 → te σ H2 fun y H4 => (ipI fun a b => a + b) (.int (atD (cntD kvs) k)) y H4 fun z H5 => setDd (.ref a) (.int k) z H5 fun H6 => D.nx σ H6 := fun {H2} S2 => by
    refine he _ _ _ _ _ _ _ _ S2 (PostS.bind (Rl := RlE K) h1 fun r y G3 H3 S3 s3 r3 h3 => ?_)
    obtain ⟨n, en, h3⟩ := isI_of h3
    obtain ⟨er, dr⟩ := r
    obtain rfl : dr = .int n := en
    cases r3
    obtain ⟨a', m', kvs', x1, x2, x3, x4, h3⟩ := cnts_of S3 h3
    rw [v1] at x1
    cases x1
    obtain ⟨c3, h3⟩ := gdS_of h3
    have lt3 : kvs'.length < sizeLine := by
      have := Nat.le_of_ble_eq_true c3
      rw [cntD_len] at this
      exact Nat.lt_of_lt_of_le this small_le
    refine ⟨_, _, rfl, rfl, a, kvs', k, _, rfl, x3, rfl, rfl, lt3, ?_⟩
    rw [putDI_cnt] at h3
    exact h3 σ G3 _ (S3.cnt_to x2 v1 x3 x4) (.refl _)
  refine ⟨a, kvs, k, rfl, w3, rfl, lt, fun n e => ?_, fun e => ?_⟩
  · have q : atD (cntD kvs) k = n := by rw [atD_cnt, e]; rfl
    rw [← q]
    refine go ?_
    have S2 := S1.cnt_to (kvs' := kvs) w2 v1 w3 w4
    have u : upd H1 a (DdO a kvs) = H1 := funext fun b => by
      by_cases z : b = a
      · rw [z, upd_same, w3]
      · rw [upd_ne z]
    rw [u] at S2
    rw [putDI_cnt, q, putI_same k n kvs e]
    exact S2
  · have q : atD (cntD kvs) k = 0 := by rw [atD_cnt, e]; rfl
    have S2 := S1.cnt_to (kvs' := putI kvs k 0) w2 v1 w3 w4
    rw [← putDI_cnt] at S2
    have z := go (H2 := upd H1 a (DdO a (putI kvs k 0))) (by rw [q]; exact S2)
    rw [q] at z
    exact z
end
end LW

namespace LW
open PySem PySem.Spec PyProof.Rows L2
section
variable {P : Program} {w : World}
def kvI (l : List (Int × Int)) : List (Key × V) := l.map fun p => (.inl p.1, .int p.2)
def kvV (l : List (Int × Value)) : List (Key × Value) := l.map fun p => (.inl p.1, p.2)
theorem pairs_mix {es : List DictEntry} {vs : List (Int × Value)} (h : Pairs (PySem.intKind P w) es vs) : Pairs (mixKind P w) es (kvV vs) := by
  induction h with
  | nil => exact .nil
  | cons a b _ ih => exact .cons a b ih
theorem dict_mix {h : Heap} {a : Addr} {vs : List (Int × Value)} (x : h.DictOf (PySem.intKind P w) a vs) : h.DictOf (mixKind P w) a (kvV vs) := by
  obtain ⟨o, es, ep, ho, hc, hd, hk, hp, hn⟩ := x
  refine ⟨o, es, ep, ho, hc, hd, fun e he => ?_, pairs_mix hp, ?_⟩
  · obtain ⟨k, a1, a2⟩ := hk e he
    exact ⟨.inl k, a1, a2⟩
  · unfold kvV
    rw [List.map_map, show ((fun p : Key × Value => p.1) ∘ fun p : Int × Value => ((.inl p.1, p.2) : Key × Value)) = (Sum.inl ∘ fun p : Int × Value => p.1) from rfl, ← List.map_map]
    exact List.pairwise_map.mpr (List.Pairwise.imp (fun z e => z (Sum.inl.inj e)) hn)
theorem kv_mix : ∀ {kvs : List (Int × Int)} {vs : List (Int × Value)}, CntV kvs vs → KV (kvI kvs) (kvV vs)
  | _, _, .nil => .nil
  | _, _, .cons e r => .cons ⟨congrArg Sum.inl e.1, e.2⟩ (kv_mix r)
theorem rpk_cnt {K : PySem.W.Frag} {G : Hp} : ∀ kvs : List (Int × Int), RpK K G (kvI kvs) (cntD kvs)
  | [] => .nil
  | p :: l => .cons (.int _) (rpk_cnt l)
end
section
variable {K : PySem.W.Frag} {mu : Mu} {G0 H0 G H G' H' H1 : Hp} {env env' : LEnv} {σ σ' : L2.St} {C : Cl} {E : XK} {X : Cx}
/-! ### making: defaultdict(int), dict(counts) -/
theorem call_dd : CallR X (.type "collections.defaultdict") (fun xs H Q => xs = [.ty "int"] ∧ ∀ p, H p = none → Q (.ref p) (upd H p (DdO p []))) := by
  intro pins s σ H xs us Q I r h
  obtain ⟨rfl, q⟩ := h
  obtain rfl : us = [.type "int"] := by
    cases r with
    | cons a b => cases a; cases b; rfl
  refine dd_call1 fun h' g k => ⟨.ref s.heap.objs.size, _, I.laid (a := s.heap.objs.size) (o := DdO s.heap.objs.size []) (t' := s.toks) k (Nat.le_refl _) (ddp_ok ⟨Nat.zero_le _, beq_eq_false_iff_ne.mpr (Ne.symm (Nat.ne_of_lt I.big)), X.prog, X.w, [], .nil, DDict.dd_nil g⟩), rfl, q _ (I.hok.fresh (Nat.le_refl _))⟩
def rDictC : List V → Hp → VK → Prop := fun xs H Q => ∃ a kvs, xs = [.ref a] ∧ H a = some (DdO a kvs) ∧ ∀ p, H p = none → Q (.ref p) (upd H p (.dK (kvI kvs)))
theorem call_dictC : CallR X (.type "dict") rDictC := by
  intro pins s σ H xs us Q I r h
  obtain ⟨a, kvs, rfl, x, q⟩ := h
  obtain rfl : us = [.ref a] := by
    cases r with
    | cons a b => cases a; cases b; rfl
  obtain ⟨z, hm, vs, r, y⟩ := dd_at I x
  refine DDict.dict_of_dd hm y (by rw [← r.length]; exact z) fun h' t d k => ⟨.ref s.heap.objs.size, _, I.laid (a := s.heap.objs.size) (o := .dK (kvI kvs)) (t' := t) k (Nat.le_refl _) ?_, rfl, q _ (I.hok.fresh (Nat.le_refl _))⟩
  refine ⟨?_, beq_eq_false_iff_ne.mpr (Ne.symm (Nat.ne_of_lt I.big)), kvV vs, kv_mix r, dict_mix d⟩
  show (kvs.map _).length ≤ _
  rw [List.length_map]
  exact z
/-- defaultdict(int), for a slot of one's own -/
def tDd : TE := tCB (fun xs H Q => xs = [.ty "int"] ∧ ∀ p, H p = none → Q (.ref p) (upd H p (DdO p []))) (tCons (tC (.ty "int")) tNil)
def mDd : MA := fun env => .ok (env, [.dict [(.bool true, .bool true)]])
theorem h_dd {x : Str} {p p2 pos : Pos} (hg : Gl X x) (hm : X.mg x = some (.type "collections.defaultdict")) (hi : Gl X "int") (hn : X.mg "int" = none) (hdb : (x == ("__debug__" : Str)) = false := by decide)
    (he : starEach [.Name "int" p2] X.env = [(false, eval (.Name "int" p2) X.env)] := by rfl) (hpl : (backTo pos (starEach [] X.env)).any (·.1) = false := by rfl) :
    HD X C E (.Call (.Name x p) [.Name "int" p2] [] pos) tDd mDd := by
  refine ⟨pe_callGT call_dd hg hm (pa_cons (pe_bltn hi hn (u := .type "int") (by first | rfl | decide | kernel_rfl) rfl) pa_nil he) hdb he hpl, ?_⟩
  intro mu G0 H0 env σ G H Q S h
  exact ⟨rfl, fun p hp => postH_new S h hp (o := DdO p []) .cnt⟩
/-- dict(d), d the counts of slot i: a new dict -/
def mDictC (i : Nat) : MA := fun env => match nth env i with
  | some (some (.ow _ [.dict ((.bool true, .bool true) :: es)])) => .ok (env, [.dict ((.bool true, .int (.ofNat 0)) :: es)])
  | _ => .stuck
theorem h_dictC (i : Nat) {x y : Str} {p p2 pos : Pos} (hg : Gl X x) (hm : X.mg x = none) (hb : bootBuiltins x = some (.type "dict")) (hN : X.N[i]? = some y := by rfl) (hv : Vis X.env.scope y := by first | exact Or.inl rfl | exact Or.inr (Or.inl rfl) | exact Or.inr (Or.inr rfl)) (hd : (y == ("__debug__" : Str)) = false := by decide)
    (hcd : (y == ("__classdict__" : Str)) = false := by decide) (hnn : x ≠ "__name__" := by decide) (hdb : (x == ("__debug__" : Str)) = false := by decide)
    (he : starEach [.Name y p2] X.env = [(false, eval (.Name y p2) X.env)] := by rfl) (hpl : (backTo pos (starEach [] X.env)).any (·.1) = false := by rfl) :
    HD X C E (.Call (.Name x p) [.Name y p2] [] pos) (tCB rDictC (tCons (tVar i) tNil)) (mDictC i) := by
  refine ⟨pe_callTy call_dictC hg hm hb (pa_cons (pe_var hN hv hd hcd) pa_nil he) hnn hdb he hpl, ?_⟩
  intro mu G0 H0 env σ G H Q S h
  unfold mDictC at h
  rw [nth_eq] at h
  split at h
  · rename_i m es q
    obtain ⟨a, o, f1, f2, f3, f4, f5⟩ := S.ol i m _ q
    obtain ⟨kvs, rfl, rfl⟩ := f3.cnt_of
    exact ⟨.ref a, f1, a, kvs, rfl, f2, fun p hp => postH_new S h hp (o := .dK (kvI kvs)) (.dct (rpk_cnt kvs))⟩
  · exact h.elim
/-- d[k] += n, d the counts of slot i -/
theorem s_bump (i : Nat) {x : Str} {b e : Expr} {tb te : TE} {fb fe : M} {p tpos pos : Pos} (hb : ED X C E b tb fb) (he : ED X C E e te fe) (hN : X.N[i]? = some x := by rfl) (hv : Vis X.env.scope x := by first | exact Or.inl rfl | exact Or.inr (Or.inl rfl) | exact Or.inr (Or.inr rfl)) (hd : (x == ("__debug__" : Str)) = false := by decide)
    (hcd : (x == ("__classdict__" : Str)) = false := by decide) (ha : ∀ ov iv new, augStore b ov iv new = (do holding [new, ov, iv] (setItem ov iv new); release [new, ov, iv] []; pure .next) := by intros; rfl) :
    SD X C E (.AugAssign (.Subscript (.Name x p) b tpos) .Add e pos) (tAugS (tVar i) tb te getDd (ipI fun a b => a + b) setDd) (mBump i fb fe) :=
  ⟨ps_augS (pe_var hN hv hd hcd) hb.pe pget_dd he.pe ip_add pset_dd ha, snds_bump hb.sd he.sd⟩
end
end LW

namespace LW
open PySem PySem.Spec PyProof.Rows L2
section
variable {K : PySem.W.Frag} {mu : Mu} {G0 H0 G H G' H' H1 : Hp} {env env' : LEnv} {σ σ' : L2.St} {C : Cl} {E : XK} {X : Cx}
/-! ### instances that are read -/
def fldD : List (PyData × PyData) → Str → Option PyData
  | [], _ => none
  | p :: l, f => match p with
    | (.str g, d) => if f = g then some d else fldD l f
    | _ => none
theorem fldD_of {f : Str} : ∀ {fs : List (Str × V)} {ds : List (PyData × PyData)} {d : PyData}, RpF K G fs ds → fldD ds f = some d → ∃ v, fs.lookup f = some v ∧ Rp K G v d
  | _, _, _, .nil, h => nomatch h
  | _, _, d, .cons (f := g) (v := v) (fs := fs) r rs, h => by
    unfold fldD at h
    dsimp only at h
    split at h
    · rename_i e
      cases h
      refine ⟨v, ?_, r⟩
      rw [List.lookup_cons, e, beq_self_eq_true]
    · rename_i e
      obtain ⟨u, a, b⟩ := fldD_of rs h
      refine ⟨u, ?_, b⟩
      rw [List.lookup_cons, beq_eq_false_iff_ne.mpr e]
      exact a
/-- e.f, e an instance of the class nm -/
def inst {α : Type} (nm : Str) (d : PyData) (g : List (PyData × PyData) → RE α) : RE α := match d with
  | .dict ((.none, .str n) :: es) => (if n = nm then g es else .stuck)
  | _ => .stuck
theorem inst_of {α β : Type} {Rl : Hp → β → α → Prop} {nm : Str} {d : PyData} {g : List (PyData × PyData) → RE α} {Q : β → Hp → Prop} {x : V} (r : Rp K G' x d) (h : Post Rl K C E mu G0 H0 σ G (inst nm d g) Q) :
    ∃ es a dx fs, d = .dict ((.none, .str nm) :: es) ∧ x = .ref a ∧ G' a = some (.ins (He.ga K nm) dx fs) ∧ RpF K G' fs es ∧ Post Rl K C E mu G0 H0 σ G (g es) Q := by
  unfold inst at h
  split at h
  · rename_i n es
    split at h
    · rename_i e
      subst e
      cases r with
      | dct _ b =>
        exfalso
        generalize z : ((.none, .str n) :: es : List (PyData × PyData)) = l at b
        cases b with
        | nil => cases z
        | @cons k _ _ _ _ _ _ =>
          injection z with z
          injection z with z
          cases k <;> cases z
      | @ins a C dx fs _ g1 g2 =>
        cases g2 with
        | mk g3 => exact ⟨es, a, dx, fs, rfl, rfl, g1, g3, h⟩
    · exact h.elim
  · exact h.elim
def mFld (nm f : Str) (m : M) : M := fun env => (m env).bind fun p => inst nm p.2 fun es => match fldD es f with
  | some d => .ok (p.1, d)
  | none => .stuck
theorem snd_fld {nm f : Str} {te : TE} {m : M} (c : Cls K (He.ga K nm)) (n : NoAttr K (He.ga K nm) f) (h : Snd K C E te m) : Snd K C E (tFld K te f) (mFld nm f m) := by
  intro mu G0 H0 env σ G H Q S hh
  refine h _ _ _ _ _ _ _ _ S (Post.bind (Rl1 := RlE K) hh fun p x G1 H1 S1 s1 r1 h1 => ?_)
  obtain ⟨es, a, dx, fs, ed, rfl, ga, rf, h1⟩ := inst_of r1 h1
  cases q : fldD es f with
  | none => rw [q] at h1; exact h1.elim
  | some d =>
    rw [q] at h1
    obtain ⟨v, l, r⟩ := fldD_of rf q
    exact ⟨a, _, dx, fs, v, rfl, S1.sub _ _ ga, c, n, l, post_here S1 h1 r⟩
theorem d_fld {nm f : Str} {e : Expr} {te : TE} {m : M} {pos : Pos} (c : (He.Fa.cls nm).ok X.K = true) (n : (He.Fa.noat nm f).ok X.K = true) (h : ED X C E e te m) (hb : attributeBase e f X.env (eval e X.env) = eval e X.env := by rfl) : ED X C E (.Attribute e f pos) (tFld X.K te f) (mFld nm f m) :=
  ⟨pe_fld h.pe hb, snd_fld (He.cls_ok c) (He.noat_ok n) h.sd⟩
/-! ### methods -/
def noFld : List (PyData × PyData) → Str → Bool
  | [], _ => true
  | p :: l, f => match p with
    | (.str g, _) => if f = g then false else noFld l f
    | _ => false
theorem noFld_of {f : Str} : ∀ {fs : List (Str × V)} {ds : List (PyData × PyData)}, RpF K G fs ds → noFld ds f = true → fs.lookup f = none
  | _, _, .nil, _ => rfl
  | _, _, .cons (f := g) r rs, h => by
    unfold noFld at h
    dsimp only at h
    split at h
    · cases h
    · rename_i e
      rw [List.lookup_cons, beq_eq_false_iff_ne.mpr e]
      exact noFld_of rs h
structure MtI (P : Program) (w : World) (K : PySem.W.Frag) (mg : Str → Option Value) (base : Heap) (C : Cl) (k : Nat) (nm m : Str) (n : Nat) (run : List PyData → R PyData) : Prop where
  ex : ∃ (fd : FuncData) (ps : List Str), FnOk P w K mg base (L2.CX P w) k (He.ma K (He.ga K nm) m) fd ps (spP K C n run) ∧ Binds K fd ps []
def mMeth (nm m : Str) (n : Nat) (run : List PyData → R PyData) (mo : M) (ma : MA) : M := fun env => (mo env).bind fun p => inst nm p.2 fun es => gd (noFld es m) ((ma p.1).bind fun q => gd (Nat.beq (q.2.length + 1) n) (lif q.1 (run (p.2 :: q.2))))
theorem snd_meth {nm m : Str} {n : Nat} {run : List PyData → R PyData} {te : TE} {ta : TA} {mo : M} {ma : MA} (ho : Snd K C E te mo) (ha : SndA K C E ta ma) : Snd K C E (tMeth (He.ga K nm) m (spP K C n run) [] E te ta) (mMeth nm m n run mo ma) := by
  intro mu G0 H0 env σ G H Q S hh
  refine ho _ _ _ _ _ _ _ _ S (Post.bind (Rl1 := RlE K) hh fun p x G1 H1 S1 s1 r1 h1 => ?_)
  obtain ⟨e1, d1⟩ := p
  obtain ⟨es, a, dx, fs, ed, rfl, ga, rf, h1⟩ := inst_of r1 h1
  obtain ⟨c1, h1⟩ := Post.gd h1
  refine ⟨a, dx, fs, rfl, S1.sub _ _ ga, noFld_of rf c1, ?_⟩
  refine ha _ _ _ _ _ _ _ _ S1 (h1.bind fun q xs G2 H2 S2 s2 r2 h2 => ?_)
  obtain ⟨e2, ds⟩ := q
  obtain ⟨c2, h2⟩ := Post.gd h2
  rw [List.append_nil]
  have hl := Nat.eq_of_beq_eq_true c2
  refine ⟨by show xs.length + 1 = n; rw [r2.length]; exact hl, S2.fz.tb, G2, d1 :: ds, S2.sub, S2.ng, .cons (Rp.mono s2 _ _ r1) r2, ?_⟩
  have h2 : Post (RlE K) K C E mu G0 H0 σ G2 (lif e2 (run (d1 :: ds))) Q := h2
  cases er : run (d1 :: ds) with
  | ok d => rw [er] at h2; exact fun v G' H' x r => h2 v G' H' (S2.ext x) x.g r
  | rai c' => rw [er] at h2; exact fun H' s => h2 H' (S2.fz.trans s)
  | stuck => rw [er] at h2; exact h2.elim
end
end LW

namespace LW
open PySem PySem.Spec PyProof.Rows L2
section
variable {C : Cl} {E : XK} {X : Cx} {k n : Nat} {nm m : Str} {run : List PyData → R PyData} {o e : Expr} {es : List Expr} {te : TE} {mo : M} {taa : TA} {ma : MA} {apos pos : Pos} {pl : Sem Bool}
/-- o.m(e, ..), o an instance of the class nm -/
theorem d_meth (F : MtI X.prog X.w X.K X.mg X.base C k nm m n run) (hr : Room k X.A) (tk : Takes X (WW E)) (c : (He.Fa.cls nm).ok X.K = true) (hm : (He.Fa.meth nm m).ok X.K = true) (ho : ED X C E o te mo) (ha : AD X C E (e :: es) taa ma)
    (hst : starEach (e :: es) X.env = (false, eval e X.env) :: starEach es X.env := by rfl) (hpl : (backTo pos (starEach es X.env)).any (·.1) = false := by rfl)
    (ht : eval (.Call (.Attribute o m apos) (e :: es) [] pos) X.env = (do
      let ov ← eval o X.env
      standAt apos.atName
      let (f, first) ← holding [ov] (getMethod ov m pl)
      callWith pos f first (backTo pos (starEach (e :: es) X.env)) (backToKw pos (keywordEach [] X.env))) := by rfl) :
    ED X C E (.Call (.Attribute o m apos) (e :: es) [] pos) (tMeth (He.ga X.K nm) m (spP X.K C n run) [] E te taa) (mMeth nm m n run mo ma) := by
  obtain ⟨fd, ps, G, hb⟩ := F.ex
  exact ⟨pe_meth ho.pe (He.cls_ok c) (He.meth_ok hm) G hr hb .nil (fun pins σ => passAt tk σ pins) ha.pe hst hpl ht, snd_meth ho.sd ha.sd⟩
/-- o.m() -/
theorem d_meth0 (F : MtI X.prog X.w X.K X.mg X.base C k nm m n run) (hr : Room k X.A) (tk : Takes X (WW E)) (c : (He.Fa.cls nm).ok X.K = true) (hm : (He.Fa.meth nm m).ok X.K = true) (ho : ED X C E o te mo)
    (ht : eval (.Call (.Attribute o m apos) [] [] pos) X.env = (do
      let ov ← eval o X.env
      standAt apos.atName
      let (f, first) ← holding [ov] (getMethod ov m pl)
      callWith pos f first (backTo pos (starEach [] X.env)) (backToKw pos (keywordEach [] X.env))) := by rfl) :
    ED X C E (.Call (.Attribute o m apos) [] [] pos) (tMeth (He.ga X.K nm) m (spP X.K C n run) [] E te tNil) (mMeth nm m n run mo (fun e => .ok (e, []))) := by
  obtain ⟨fd, ps, G, hb⟩ := F.ex
  refine ⟨pe_meth0 ho.pe (He.cls_ok c) (He.meth_ok hm) G hr hb .nil (fun pins σ => passAt tk σ pins) ht, snd_meth ho.sd ?_⟩
  intro mu G0 H0 env σ G H Q S h
  exact h [] G H S (.refl _) .nil
end
end LW

namespace LW
open PySem PySem.Spec PyProof.Rows L2
/-! ### an instance in the making, in slot i -/
def setFD : List (PyData × PyData) → Str → PyData → List (PyData × PyData)
  | [], f, d => [(.str f, d)]
  | p :: l, f, d => match p with
    | (.str g, _) => if g = f then (.str g, d) :: l else p :: setFD l f d
    | _ => p :: l
section
variable {K : PySem.W.Frag} {mu : Mu} {G0 H0 G H G' H' H1 : Hp} {env env' : LEnv} {σ σ' : L2.St} {C : Cl} {E : XK} {X : Cx}
theorem rpf_set {f : Str} {v : V} {d : PyData} (r : Rp K G v d) : ∀ {fs : List (Str × V)} {es : List (PyData × PyData)}, RpF K G fs es → RpF K G (putF f v fs) (setFD es f d)
  | _, _, .nil => .cons r .nil
  | _, _, .cons (f := g) a b => by
    unfold putF setFD
    dsimp only
    split
    · exact .cons r b
    · exact .cons a (rpf_set r b)
theorem rpf_len : ∀ {fs : List (Str × V)} {es : List (PyData × PyData)}, RpF K G fs es → fs.length = es.length
  | _, _, .nil => rfl
  | _, _, .cons _ b => by simp [rpf_len b]
theorem OwR.ins_of {p : Addr} {o : HO} {nm : Str} {es : List (PyData × PyData)} (h : OwR K G p o [.dict ((.bool true, .str nm) :: es)]) : ∃ dx fs, o = .ins (He.ga K nm) dx fs ∧ RpF K G fs es := by
  cases h with
  | lst h =>
    cases h with
    | cons a b =>
      cases a with
      | dct _ b => exact (rpk_mark b).elim
      | ins _ b => cases b
  | ins h => exact ⟨_, _, rfl, h⟩
theorem code_ins {c C dx : Addr} {q : Str} {fs : List (Str × V)} : LamX.CodeO c q ≠ HO.ins C dx fs := fun z => by unfold LamX.CodeO at z; cases z
/-- slot i's own thing has become another -/
theorem StR.own_put (S : StR K C mu G0 H0 env σ G H) {i : Nat} {m : Bool} {a : Addr} {o o' : HO} {cs cs' : List PyData} (he : env[i]? = some (some (.ow m cs))) (hs : σ[i]? = some (some (.ref a))) (hH : H a = some o) (hG : G a = none)
    (no : ∀ xs, o ≠ .tbl xs) (nc : ∀ c q, LamX.CodeO c q ≠ o) (r : OwR K G a o' cs') : StR K C mu G0 H0 (env.set i (some (.ow m cs'))) σ G (upd H a o') := by
  refine StR.own_to (o' := o') S he hs (.refl _) (fun b u e => ?_) ⟨fun b o nb _ e => by rw [upd_ne nb]; exact e, fun p hp => ?_⟩ (fun _ _ e => .inl e) upd_same r
  · rw [upd_ne (fun z => by rw [z, hG] at e; cases e)]; exact S.sub _ _ e
  · obtain ⟨ps, a1, a2, a3⟩ := S.fz.tb p hp
    refine ⟨ps, by rw [upd_ne (fun z => by rw [z, hH] at a1; exact no _ (Option.some.inj a1))]; exact a1, a2, fun pos cv hcv => ?_⟩
    obtain ⟨c, e, hc⟩ := a3 pos cv hcv
    exact ⟨c, e, by rw [upd_ne (fun z => by rw [z, hH] at hc; exact nc _ _ (Option.some.inj hc).symm)]; exact hc⟩
/-- the fields of slot i's instance, which is being made -/
def mks (nm : Str) (i : Nat) (e : LEnv) (f : Bool → List (PyData × PyData) → RS) : RS := match nth e i with
  | some (some (.ow m [.dict ((.bool true, .str n) :: es)])) => (if n = nm then f m es else .stuck)
  | _ => .stuck
theorem mks_of {nm : Str} {i : Nat} {e : LEnv} {f : Bool → List (PyData × PyData) → RS} {D : Ends} (S : StR K C mu G0 H0 e σ G H) (h : PostS K C E mu G0 H0 G (mks nm i e f) D) :
    ∃ a m dx fs es, σ[i]? = some (some (.ref a)) ∧ e[i]? = some (some (.ow m [.dict ((.bool true, .str nm) :: es)])) ∧ H a = some (.ins (He.ga K nm) dx fs) ∧ RpF K G fs es ∧ G a = none ∧ PostS K C E mu G0 H0 G (f m es) D := by
  unfold mks at h
  rw [nth_eq] at h
  split at h
  · rename_i m n es q
    split at h
    · rename_i z
      subst z
      obtain ⟨a, o, f1, f2, f3, f4, f5⟩ := S.ol i m _ q
      obtain ⟨dx, fs, rfl, r⟩ := f3.ins_of
      exact ⟨a, m, dx, fs, es, f1, q, f2, r, f4, h⟩
    · exact h.elim
  · exact h.elim
/-- self.f = e -/
def mSetF (nm f : Str) (i : Nat) (fe : M) : MS := fun env => bindS (fe env) fun p => mks nm i p.1 fun m es => gdS (Nat.blt es.length 1000) (.nx (p.1.set i (some (.ow m [.dict ((.bool true, .str nm) :: setFD es f p.2)]))))
theorem snds_setF {nm f : Str} {i : Nat} {te : TE} {fe : M} (c : Cls K (He.ga K nm)) (n : NoAttr K (He.ga K nm) f) (he : Snd K C E te fe) : SndS K C E (sFld K (tVar i) te f) (mSetF nm f i fe) := by
  intro mu G0 H0 env σ G H D S h
  refine he _ _ _ _ _ _ _ _ S (PostS.bind (Rl := RlE K) h fun p y G1 H1 S1 s1 r1 h1 => ?_)
  obtain ⟨a, m, dx, fs, es, v1, v2, v3, rf, v4, h1⟩ := mks_of S1 h1
  obtain ⟨c1, h1⟩ := gdS_of h1
  refine ⟨.ref a, v1, a, _, dx, fs, rfl, v3, c, n, by rw [rpf_len rf]; exact Nat.le_of_ble_eq_true c1, ?_⟩
  exact h1 σ G1 _ (S1.own_put v2 v1 v3 v4 (fun _ z => by cases z) (fun _ _ => code_ins) (.ins (rpf_set r1 rf))) (.refl _)
theorem s_setF {nm : Str} {f x : Str} (i : Nat) {e : Expr} {te : TE} {fe : M} {p pos' pos : Pos} (c : (He.Fa.cls nm).ok X.K = true) (n : (He.Fa.noat nm f).ok X.K = true) (he : ED X C E e te fe) (hN : X.N[i]? = some x := by rfl) (hv : Vis X.env.scope x := by first | exact Or.inl rfl | exact Or.inr (Or.inl rfl) | exact Or.inr (Or.inr rfl))
    (hd : (x == ("__debug__" : Str)) = false := by decide) (hcd : (x == ("__classdict__" : Str)) = false := by decide) (hs : swapsWith e (some (.Attribute (.Name x p) f pos')) pos.line X.env = pure false := by rfl) :
    SD X C E (.Assign [.Attribute (.Name x p) f pos'] e pos) (sFld X.K (tVar i) te f) (mSetF nm f i fe) := ⟨ps_fld (pe_var hN hv hd hcd) he.pe hs, snds_setF (He.cls_ok c) (He.noat_ok n) he.sd⟩
/-- self.f, read while it is being made -/
def mFldO (nm f : Str) (i : Nat) : M := fun env => match nth env i with
  | some (some (.ow _ [.dict ((.bool true, .str n) :: es)])) => (if n = nm then (match fldD es f with
    | some d => .ok (env, d)
    | none => .stuck) else .stuck)
  | _ => .stuck
theorem snd_fldO {nm f : Str} {i : Nat} (c : Cls K (He.ga K nm)) (n : NoAttr K (He.ga K nm) f) : Snd K C E (tFld K (tVar i) f) (mFldO nm f i) := by
  intro mu G0 H0 env σ G H Q S h
  unfold mFldO at h
  rw [nth_eq] at h
  split at h
  · rename_i m n' es q
    split at h
    · rename_i z
      subst z
      obtain ⟨a, o, f1, f2, f3, f4, f5⟩ := S.ol i m _ q
      obtain ⟨dx, fs, rfl, r⟩ := f3.ins_of
      cases w : fldD es f with
      | none => rw [w] at h; exact h.elim
      | some d =>
        rw [w] at h
        obtain ⟨v, l, rv⟩ := fldD_of r w
        exact ⟨.ref a, f1, a, _, dx, fs, v, rfl, f2, c, n, l, post_here S h rv⟩
    · exact h.elim
  · exact h.elim
theorem d_fldO {nm f x : Str} (i : Nat) {p pos : Pos} (c : (He.Fa.cls nm).ok X.K = true) (n : (He.Fa.noat nm f).ok X.K = true) (hN : X.N[i]? = some x := by rfl) (hv : Vis X.env.scope x := by first | exact Or.inl rfl | exact Or.inr (Or.inl rfl) | exact Or.inr (Or.inr rfl))
    (hd : (x == ("__debug__" : Str)) = false := by decide) (hcd : (x == ("__classdict__" : Str)) = false := by decide) (hb : attributeBase (.Name x p) f X.env (eval (.Name x p) X.env) = eval (.Name x p) X.env := by rfl) :
    ED X C E (.Attribute (.Name x p) f pos) (tFld X.K (tVar i) f) (mFldO nm f i) := ⟨pe_fld (pe_var hN hv hd hcd) hb, snd_fldO (He.cls_ok c) (He.noat_ok n)⟩
end
end LW

namespace LW
open PySem PySem.Spec PyProof.Rows L2
section
variable {K : PySem.W.Frag} {mu : Mu} {G0 H0 G H G' H' H1 : Hp} {env env' : LEnv} {σ σ' : L2.St} {C : Cl} {E : XK} {X : Cx}
/-! ### defs whose first argument is a thing that they change: __init__ -/
def PostO (K : PySem.W.Frag) (C : Cl) (E : XK) (p : Addr) (G H : Hp) : R (List PyData × PyData) → VK → Prop
  | .ok z, Q => ∀ v G' H' o', Same G G' → Same G' H' → Fz C.T (fun a => a = p) H H' → (∀ a o, G' a = some o → G a = some o ∨ (Nw H a ∧ nt o)) → H' p = some o' → OwR K G' p o' z.1 → G' p = none → Rp K G' v z.2 → Q v H'
  | .rai c, _ => ∀ H', Fz C.T (fun a => a = p) H H' → E (C.cl c) none H'
  | .stuck, _ => False
def spO (K : PySem.W.Frag) (C : Cl) (n : Nat) (run : RunM) : Sp := fun vs H Q E => vs.length = n + 1 ∧ LamX.Tabs C.T H ∧ ∃ G p o cs vs' ds, vs = .ref p :: vs' ∧ Same G H ∧ (∀ a o, G a = some o → nt o) ∧ G p = none ∧ H p = some o ∧ OwR K G p o cs ∧ RpA K G vs' ds ∧ PostO K C E p G H (run cs ds) Q
theorem startO_tail {N : List Str} {ds : List PyData} {i : Nat} {m : Bool} {dd : List PyData} (e : (startE N.length ds)[i]? = some (some (.ow m dd))) : False := by
  rw [startE_get] at e
  split at e
  · cases q : ds[i]? with
    | none => rw [q] at e; cases e
    | some d' => rw [q] at e; cases e
  · split at e <;> cases e
theorem StR.beginO {N : List Str} {x : Str} {p : Addr} {o : HO} {vs : List V} {cs ds : List PyData} (s : Same G H) (gn : ∀ a o, G a = some o → nt o) (tb : LamX.Tabs C.T H) (gp : G p = none) (hp : H p = some o) (rc : OwR K G p o cs) (r : RpA K G vs ds) (hn : vs.length ≤ N.length) :
    StR K C (muP p) G H (startM (x :: N).length cs ds) (L2.start (x :: N) (.ref p :: vs)) G H := by
  rw [show L2.start (x :: N) (.ref p :: vs) = some (.ref p) :: L2.start N vs by unfold L2.start; simp]
  have B := StR.begin (K := K) (C := C) (N := N) s gn tb r hn
  exact {
    sub := s
    ng := gn
    g0 := .refl _
    fz := .refl tb
    new := fun _ _ e => .inl e
    mh := fun a m => ⟨o, rc.nt, by rw [show a = p from m]; exact hp⟩
    len := congrArg (· + 1) B.len
    sh := fun i d e => match i, e with
      | i + 1, e => B.sh i d e
    ol := fun i m ds' e => match i, e with
      | 0, e => by cases e; exact ⟨p, _, rfl, hp, rc, gp, rfl⟩
      | i + 1, e => (startO_tail e).elim
    ow := fun i j q oi oj _ _ => by
      have z : ∀ i, Own (startM (x :: N).length cs ds) i → i = 0 := fun i ⟨m, dd, e⟩ => match i, e with
        | 0, _ => rfl
        | i + 1, e => (startO_tail e).elim
      rw [z i oi, z j oj] }
/-- what the def leaves of its first slot -/
def outO : RS → R (List PyData × PyData)
  | .nx (some (.ow true cs) :: _) => .ok (cs, .none)
  | .rt (some (.ow true cs) :: _) d => .ok (cs, d)
  | .rai c => .rai c
  | _ => .stuck
def runO (n : Nat) (ms : MS) : RunM := fun cs ds => outO (ms (startM n cs ds))
/-! ### C(..): a new instance -/
def mMake (nm : Str) (n : Nat) (run : RunM) (ma : MA) : MA := fun env => (ma env).bind fun q => gd (Nat.beq q.2.length n) (match run [.dict [(.bool true, .str nm)]] q.2 with
  | .ok (cs, .none) => .ok (q.1, cs)
  | .rai c => .rai c
  | _ => .stuck)
theorem snd_make {nm : Str} {n : Nat} {run : RunM} {ta : TA} {ma : MA} (ha : SndA K C E ta ma) : SndH K C E (tMake (He.ga K nm) (spO K C n run) [] E ta) (mMake nm n run ma) := by
  intro mu G0 H0 env σ G H Q S hh
  refine ha _ _ _ _ _ _ _ _ S (postH_bind hh fun q xs G2 H2 S2 s2 r2 h2 => ?_)
  obtain ⟨e2, ds⟩ := q
  obtain ⟨c2, h2⟩ := PostH.gd h2
  rw [List.append_nil]
  intro x dx hx hd ne
  have one : Same H2 (upd H2 dx (.own x)) := same_new hd
  have hx1 : upd H2 dx (.own x) x = none := by rw [upd_ne (Ne.symm ne)]; exact hx
  have all : Same H2 (upd (upd H2 dx (.own x)) x (.ins (He.ga K nm) dx [])) := one.trans (same_new hx1)
  have gx : G2 x = none := S2.sub.free hx
  refine ⟨by show xs.length + 1 = n + 1; rw [r2.length]; exact congrArg (· + 1) (Nat.eq_of_beq_eq_true c2), S2.fz.tb.ext all, G2, x, _, [.dict [(.bool true, .str nm)]], xs, ds, rfl, S2.sub.trans all, S2.ng, gx, upd_same, .ins .nil, r2, ?_⟩
  have h2 : PostH K C E mu G0 H0 σ G2 (match run [.dict [(.bool true, .str nm)]] ds with
    | .ok (cs, .none) => .ok (e2, cs)
    | .rai c => .rai c
    | _ => .stuck) Q := h2
  have back : ∀ {H3 : Hp}, Fz C.T (fun a => a = x) (upd (upd H2 dx (.own x)) x (.ins (He.ga K nm) dx [])) H3 → Fz C.T (fun _ => False) H2 H3 := fun f => ⟨fun b o _ n e => f.k b o (fun z => by rw [z, hx] at e; cases e) n (all b o e), f.tb⟩
  cases er : run [.dict [(.bool true, .str nm)]] ds with
  | stuck => rw [er] at h2; exact h2.elim
  | rai c => rw [er] at h2; exact fun H3 f => h2 H3 (S2.fz.trans (back f))
  | ok z =>
    obtain ⟨cs, dv⟩ := z
    rw [er] at h2
    intro v G3 H3 o' g1 g2 f nw hp ro gp rv
    cases dv with
    | none =>
      cases rv
      have S3 : StR K C mu G0 H0 e2 σ G3 H3 := S2.ext ⟨g1, g2, back f, fun a o e => by
        rcases nw a o e with z | ⟨z, n⟩
        · exact .inl z
        · exact .inr ⟨fun u nu w => z u nu (all a u w), n⟩⟩
      refine ⟨rfl, h2 G3 H3 o' x S3 g1 hp ro gp (S2.none0 (nw_of hx)) fun j ⟨m, dd, oj⟩ w => ?_⟩
      obtain ⟨p', o2, e1, e2', _⟩ := S2.ol j m dd oj
      rw [e1] at w
      cases w
      rw [hx] at e2'; cases e2'
    | _ => exact h2.elim
/-- shown as data from now on -/
def mIns (m : MA) : M := fun env => (m env).bind fun p => match p.2 with
  | [.dict ((.bool true, .str nm) :: es)] => .ok (p.1, .dict ((.none, .str nm) :: es))
  | _ => .stuck
theorem snd_ins {te : TE} {m : MA} (h : SndH K C E te m) : Snd K C E te (mIns m) := by
  intro mu G0 H0 env σ G H Q S hh
  refine h _ _ _ _ _ _ _ _ S ?_
  unfold mIns at hh
  cases e : m env with
  | ok p =>
    rw [e] at hh
    obtain ⟨e1, ds⟩ := p
    intro G' H' o q S' s hq r hG h0 hw
    simp only [LW.R.bind] at hh
    split at hh
    · rename_i nm es
      obtain ⟨dx, fs, rfl, rf⟩ := r.ins_of
      have S3 := StR.show (fun _ z => by cases z) S' hq hG h0 hw
      have sG : Same G' (upd G' q (.ins (He.ga K nm) dx fs)) := fun a u e => by rw [upd_ne (ne_of_none e hG)]; exact e
      exact hh (.ref q) _ _ S3 (s.trans sG) (.ins upd_same (.mk (RpF.mono sG _ _ rf)))
    · exact hh.elim
  | rai c => rw [e] at hh; exact hh
  | stuck => rw [e] at hh; exact hh.elim
end
end LW

namespace LW
open PySem PySem.Spec PyProof.Rows L2
section
variable {K : PySem.W.Frag} {C : Cl} {E : XK} {X : Cx}
/-- __init__'s account out of its body's -/
theorem fn_okO {P : Program} {w : World} {mg : Str → Option Value} {base : Heap} {x qual y : Str} {params : Arguments} {body : List Stmt} {scope : Scope} {dvs : List V} {f : Addr} {fd : FuncData} {N ps : List Str} {k n : Nat} {ms : MS}
    (F : FunD K x qual params body scope dvs [] f fd) (S : FnScope (y :: N) ps scope) (hn : n ≤ N.length) (hps : ps.length = n + 1)
    (hb : ∀ (cdv : Value) (A : Around) (outer : List PySem.Env) (s : Shared) (H : Hp) (E : XK), Room k (A.deeper (envOfC qual scope s.heap.objs.size f cdv)) → ∃ t, BD (cxOf (L2.CX P w) P w K mg base (y :: N) qual scope f cdv A outer s H E) C E body t ms) :
    FnOk P w K mg base (L2.CX P w) (k + 1) f fd ps (spO K C n (runO (y :: N).length ms)) := by
  refine F.ok S (fun vs H Q E h => by rw [h.1, hps]) fun cdv A outer s H vs Q E hr h => ?_
  obtain ⟨hl, tb, G, p, o, cs, vs', ds, rfl, sG, gn, gp, hp, rc, rd, q⟩ := h
  have hl' : vs'.length = n := Nat.succ.inj hl
  obtain ⟨t, ht⟩ := hb cdv A outer s H E hr
  refine ⟨t, ht.pe, ht.sd _ _ _ _ _ _ _ _ (StR.beginO (N := N) (x := y) sG gn tb gp hp rc rd (by omega)) ?_⟩
  have q : PostO K C E p G H (outO (ms (startM (y :: N).length cs ds))) Q := q
  have fin : ∀ {r : LEnv} {σ' : L2.St} {G' H' : Hp} {cs' : List PyData} {v : V} {d : PyData}, StR K C (muP p) G H (some (.ow true cs') :: r) σ' G' H' → PostO K C E p G H (.ok (cs', d)) Q → Rp K G' v d → Q v H' := fun {r σ' G' H' cs' v d} S' q rv => by
    obtain ⟨p', o', e1, e2, e3, e4, e5⟩ := S'.ol 0 true cs' rfl
    have e5 : p' = p := e5
    subst e5
    exact q v G' H' o' S'.g0 S'.sub S'.fz (S'.newP e4) e2 e3 e4 rv
  cases e : ms (startM (y :: N).length cs ds) with
  | nx e' =>
    rw [e] at q
    intro σ' G' H' S' _
    unfold outO at q
    split at q
    · rename_i z; cases z; exact fin S' q .non
    · rename_i z; cases z
    · rename_i z; cases z
    · exact q.elim
  | rt e' d =>
    rw [e] at q
    intro v σ' G' H' S' _ r'
    unfold outO at q
    split at q
    · rename_i z; cases z
    · rename_i z; cases z; exact fin S' q r'
    · rename_i z; cases z
    · exact q.elim
  | rai c => rw [e] at q; exact fun H' fz => q H' fz
  | bk e' => rw [e] at q; exact q.elim
  | ct e' => rw [e] at q; exact q.elim
  | stuck => rw [e] at q; exact q.elim
/-- a class's __init__ -/
structure InI (P : Program) (w : World) (K : PySem.W.Frag) (mg : Str → Option Value) (base : Heap) (C : Cl) (k : Nat) (nm : Str) (n : Nat) (run : RunM) : Prop where
  ex : ∃ (fd : FuncData) (ps : List Str), FnOk P w K mg base (L2.CX P w) k (He.ma K (He.ga K nm) "__init__") fd ps (spO K C n run) ∧ Binds K fd ps []
variable {k n : Nat} {nm : Str} {run : RunM} {e : Expr} {es : List Expr} {taa : TA} {ma : MA} {p pos : Pos}
theorem h_make (F : InI X.prog X.w X.K X.mg X.base C k nm n run) (hr : Room (k + 1) X.A) (tk : Takes X (WW E)) (c : (He.Fa.mkr nm).ok X.K = true) (hg : Gl X nm) (hm : X.mg nm = some (.ref (He.ga X.K nm))) (ha : AD X C E (e :: es) taa ma)
    (hdb : (nm == ("__debug__" : Str)) = false := by decide) (he : starEach (e :: es) X.env = (false, eval e X.env) :: starEach es X.env := by rfl) (hpl : (backTo pos (starEach es X.env)).any (·.1) = false := by rfl) :
    HD X C E (.Call (.Name nm p) (e :: es) [] pos) (tMake (He.ga X.K nm) (spO X.K C n run) [] E taa) (mMake nm n run ma) := by
  obtain ⟨fd, ps, G, hb⟩ := F.ex
  exact ⟨pe_make (He.mkr_ok c) G hr hg hm hb .nil (fun pins σ => passAt tk σ pins) ha.pe hdb he hpl, snd_make ha.sd⟩
/-- a new thing, made, that is shown as data -/
theorem d_ins {te : TE} {m : MA} (h : HD X C E e te m) : ED X C E e te (mIns m) := ⟨h.pe, snd_ins h.sd⟩
end
end LW

namespace LW
open PySem PySem.Spec PyProof.Rows L2
/-! ### dicts that are read, as data -/
def sameK : PyData → PyData → Bool
  | .int a, .int b => decide (a = b)
  | .str a, .str b => decide (a = b)
  | _, _ => false
def getKD : List (PyData × PyData) → PyData → Option PyData
  | [], _ => none
  | p :: l, y => bif sameK p.1 y then some p.2 else getKD l y
theorem sameK_kk : ∀ a b : Key, sameK (keyD a) (keyD b) = decide (a = b)
  | .inl a, .inl b => by
    show decide (a = b) = _
    by_cases e : a = b
    · subst e; simp
    · rw [decide_eq_false e, decide_eq_false fun z => e (Sum.inl.inj z)]
  | .inr a, .inr b => by
    show decide (a = b) = _
    by_cases e : a = b
    · subst e; simp
    · rw [decide_eq_false e, decide_eq_false fun z => e (Sum.inr.inj z)]
  | .inl a, .inr b => (decide_eq_false fun z => by cases z).symm
  | .inr a, .inl b => (decide_eq_false fun z => by cases z).symm
section
variable {K : PySem.W.Frag} {mu : Mu} {G0 H0 G H G' H' H1 : Hp} {env env' : LEnv} {σ σ' : L2.St} {C : Cl} {E : XK} {X : Cx}
theorem getKD_of (k : Key) : ∀ {kvs : List (Key × V)} {es : List (PyData × PyData)}, RpK K G kvs es → (getKD es (keyD k) = none ∧ valV kvs k = none) ∨ ∃ d v, getKD es (keyD k) = some d ∧ valV kvs k = some v ∧ Rp K G v d
  | _, _, .nil => .inl ⟨rfl, rfl⟩
  | _, _, .cons (k := j) (v := v) (d := d) a b => by
    unfold getKD
    rw [sameK_kk]
    by_cases e : j = k
    · refine .inr ⟨d, v, by simp [e], ?_, a⟩
      simp [valV, e]
    · rcases getKD_of k b with ⟨c1, c2⟩ | ⟨d', v', c1, c2, c3⟩
      · refine .inl ⟨by simpa [e] using c1, ?_⟩
        simpa [valV, e] using c2
      · refine .inr ⟨d', v', by simpa [e] using c1, ?_, c3⟩
        simpa [valV, e] using c2
theorem rp_key {v : V} {d : PyData} {k : Key} (r : Rp K G v d) (h : keyOf d = some k) : v = kV k ∧ d = keyD k := by
  refine ⟨?_, keyOf_eq h⟩
  cases r <;> cases h <;> rfl
/-- the rows of a dict (no instance's) -/
def rowsD (d : PyData) : Option (List (PyData × PyData)) := match d with
  | .dict ((.none, _) :: _) => none
  | .dict es => some es
  | _ => none
theorem rowsD_of {v : V} {d : PyData} {es : List (PyData × PyData)} (r : Rp K G v d) (h : rowsD d = some es) : ∃ a o kvs, v = .ref a ∧ d = .dict es ∧ G a = some (.frz o (.dK kvs)) ∧ RpK K G kvs es := by
  cases r with
  | dct g b =>
    unfold rowsD at h
    split at h
    · cases h
    · rename_i z; cases z; cases h; exact ⟨_, _, _, rfl, rfl, g, b⟩
    · cases h
  | ins g b =>
    cases b with
    | mk b => cases h
  | _ => cases h
def mDGet (mo mi : M) : M := fun env => (mo env).bind fun p => (mi p.1).bind fun q => match rowsD p.2, keyOf q.2 with
  | some es, some _ => (match getKD es q.2 with
    | some d => .ok (q.1, d)
    | none => .stuck)
  | _, _ => .stuck
theorem snd_dget {td ty : TE} {mo mi : M} (ho : Snd K C E td mo) (hi : Snd K C E ty mi) : Snd K C E (tDGet td ty) (mDGet mo mi) := by
  intro mu G0 H0 env σ G H Q S hh
  refine ho _ _ _ _ _ _ _ _ S (Post.bind (Rl1 := RlE K) hh fun p x G1 H1 S1 s1 r1 h1 => hi _ _ _ _ _ _ _ _ S1 (Post.bind (Rl1 := RlE K) h1 fun q y G2 H2 S2 s2 r2 h2 => ?_))
  cases er : rowsD p.2 with
  | none => rw [er] at h2; exact h2.elim
  | some es =>
    cases ek : keyOf q.2 with
    | none => rw [er, ek] at h2; exact h2.elim
    | some k =>
      rw [er, ek] at h2
      obtain ⟨a, o, kvs, rfl, _, g, b⟩ := rowsD_of (Rp.mono s2 _ _ r1) er
      obtain ⟨rfl, e2⟩ := rp_key r2 ek
      rw [e2] at h2
      rcases getKD_of k b with ⟨c1, _⟩ | ⟨d, v, c1, c2, c3⟩
      · simp only [c1] at h2; exact h2.elim
      · simp only [c1] at h2
        exact ⟨a, v, rfl, .inl ⟨kvs, k, .inr ⟨o, S2.sub _ _ g⟩, rfl, c2.symm⟩, post_here S2 h2 c3⟩
theorem d_dget {o i : Expr} {td ty : TE} {mo mi : M} {pos : Pos} (hu : X.A.units + 1 < cLine) (ho : ED X C E o td mo) (hi : ED X C E i ty mi) (hs : NoSl i := by exact fun _ _ => rfl) : ED X C E (.Subscript o i pos) (tDGet td ty) (mDGet mo mi) := ⟨pe_dget hu ho.pe hi.pe hs, snd_dget ho.sd hi.sd⟩
/-- d.get(k, x) -/
def mDGet2 (mo mi mx : M) : M := fun env => (mo env).bind fun p => match rowsD p.2 with
  | some es => (mi p.1).bind fun q => (match keyOf q.2 with
    | some _ => (mx q.1).bind fun z => .ok (z.1, (getKD es q.2).getD z.2)
    | none => .stuck)
  | none => .stuck
theorem snd_dget2 {td ty tx : TE} {mo mi mx : M} (ho : Snd K C E td mo) (hi : Snd K C E ty mi) (hx : Snd K C E tx mx) : Snd K C E (tDGet2 td ty tx) (mDGet2 mo mi mx) := by
  intro mu G0 H0 env σ G H Q S hh
  refine ho _ _ _ _ _ _ _ _ S (Post.bind (Rl1 := RlE K) hh fun p x G1 H1 S1 s1 r1 h1 => ?_)
  cases er : rowsD p.2 with
  | none => rw [er] at h1; exact h1.elim
  | some es =>
    rw [er] at h1
    obtain ⟨a, o, kvs, rfl, _, g, b⟩ := rowsD_of r1 er
    refine ⟨a, rfl, .inl ⟨kvs, .inr ⟨o, S1.sub _ _ g⟩⟩, hi _ _ _ _ _ _ _ _ S1 (Post.bind (Rl1 := RlE K) h1 fun q y G2 H2 S2 s2 r2 h2 => ?_)⟩
    cases ek : keyOf q.2 with
    | none => rw [ek] at h2; exact h2.elim
    | some k =>
      rw [ek] at h2
      obtain ⟨rfl, e2⟩ := rp_key r2 ek
      rw [e2] at h2
      refine hx _ _ _ _ _ _ _ _ S2 (Post.bind (Rl1 := RlE K) h2 fun z w G3 H3 S3 s3 r3 h3 => ?_)
      have g3 := S3.sub _ _ (s3 _ _ (s2 _ _ g))
      rcases getKD_of k b with ⟨c1, c2⟩ | ⟨d, v, c1, c2, c3⟩
      · rw [c1] at h3
        exact ⟨none, .inl ⟨kvs, k, .inr ⟨o, g3⟩, rfl, c2.symm⟩, post_here S3 h3 r3⟩
      · rw [c1] at h3
        exact ⟨some v, .inl ⟨kvs, k, .inr ⟨o, g3⟩, rfl, c2.symm⟩, post_here S3 h3 (Rp.mono s3 _ _ (Rp.mono s2 _ _ c3))⟩
theorem d_dget2 {o e f : Expr} {td ty tx : TE} {mo mi mx : M} {apos cpos : Pos} (hu : X.A.units + 1 < cLine) (ho : ED X C E o td mo) (he : ED X C E e ty mi) (hf : ED X C E f tx mx) (m : M2 X o "get" apos e f cpos := by exact ⟨rfl, rfl, rfl, rfl⟩) :
    ED X C E (.Call (.Attribute o "get" apos) [e, f] [] cpos) (tDGet2 td ty tx) (mDGet2 mo mi mx) := ⟨pe_dget2 hu ho.pe he.pe hf.pe m, snd_dget2 ho.sd he.sd hf.sd⟩
end
end LW

namespace LW
open PySem PySem.Spec PyProof.Rows L2
section
variable {K : PySem.W.Frag} {mu : Mu} {G0 H0 G H G' H' H1 : Hp} {env env' : LEnv} {σ σ' : L2.St} {C : Cl} {E : XK} {X : Cx}
/-! ### d.values(), walked -/
def valsD : List (PyData × PyData) → List PyData
  | [] => []
  | p :: l => p.2 :: valsD l
theorem rpa_vals : ∀ {kvs : List (Key × V)} {es : List (PyData × PyData)}, RpK K G kvs es → RpA K G (kvs.map (·.2)) (valsD es)
  | _, _, .nil => .nil
  | _, _, .cons a b => .cons a (rpa_vals b)
def miVals (f : M) : MA := fun env => (f env).bind fun p => match rowsD p.2 with
  | some es => .ok (p.1, valsD es)
  | none => .stuck
theorem sndi_vals {te : TE} {f : M} (h : Snd K C E te f) : SndI K C E (iVals te) (miVals f) := by
  intro mu G0 H0 env σ G H R S hh
  refine h _ _ _ _ _ _ _ _ S (Post.bind (Rl1 := RlE K) hh fun p x G1 H1 S1 s1 r1 h1 => ?_)
  cases er : rowsD p.2 with
  | none => rw [er] at h1; exact h1.elim
  | some es =>
    rw [er] at h1
    obtain ⟨a, o, kvs, rfl, _, g, b⟩ := rowsD_of r1 er
    refine ⟨a, o, kvs, rfl, S1.sub _ _ g, h1 _ G1 H1 S1 (.refl _) ⟨kvs.map (·.2), rpa_vals b, fun i H s lt => ⟨s _ _ g, by simpa using lt⟩, fun i H s le => ⟨s _ _ g, by simpa using le⟩, fun i H x H' s y lt => ?_⟩⟩
    obtain ⟨e, k, q⟩ := y
    exact ⟨e, by rw [List.getElem?_map, q]; rfl⟩
/-! ### d, walked: its keys -/
def keysD : List (PyData × PyData) → List PyData
  | [] => []
  | p :: l => p.1 :: keysD l
theorem rpa_keys : ∀ {kvs : List (Key × V)} {es : List (PyData × PyData)}, RpK K G kvs es → RpA K G (kvs.map fun p => kV p.1) (keysD es)
  | _, _, .nil => .nil
  | _, _, .cons (k := k) a b => .cons (by cases k with | inl i => exact .int i | inr x => exact .str x) (rpa_keys b)
def miKeysM (f : M) : MA := fun env => (f env).bind fun p => match rowsD p.2 with
  | some es => .ok (p.1, keysD es)
  | none => .stuck
theorem sndi_keysM {te : TE} {f : M} (h : Snd K C E te f) : SndI K C E (iKeysM te) (miKeysM f) := by
  intro mu G0 H0 env σ G H R S hh
  refine h _ _ _ _ _ _ _ _ S (Post.bind (Rl1 := RlE K) hh fun p x G1 H1 S1 s1 r1 h1 => ?_)
  cases er : rowsD p.2 with
  | none => rw [er] at h1; exact h1.elim
  | some es =>
    rw [er] at h1
    obtain ⟨a, o, kvs, rfl, _, g, b⟩ := rowsD_of r1 er
    refine ⟨a, o, kvs, rfl, S1.sub _ _ g, h1 _ G1 H1 S1 (.refl _) ⟨kvs.map fun p => kV p.1, rpa_keys b, fun i H s lt => ⟨s _ _ g, by simpa using lt⟩, fun i H s le => ⟨s _ _ g, by simpa using le⟩, fun i H x H' s y lt => ?_⟩⟩
    obtain ⟨e, k, v, q, z⟩ := y
    exact ⟨e, by rw [List.getElem?_map, q, z]; rfl⟩
end
end LW

namespace LW
open PySem PySem.Spec PyProof.Rows L2
/-! ### what lays a new pair at each turn, taken to pieces at once -/
structure IP (X : Cx) (C : Cl) (E : XK) (tg e : Expr) (wi : TI) (ma : MA) : Prop where
  pe : PI X tg e wi
  sd : SndIP X.K C E wi ma
structure GT (X : Cx) (C : Cl) (tg : Expr) (g : TG) (b : Bi) (is : List Nat) : Prop where
  pe : PG X tg g
  sd : SndGT X.K C g b is
section
variable {X : Cx} {C : Cl} {E : XK} {a b c e : Expr} {es : List Expr} {ta tb tc te tk : TE} {taa : TA} {tt tu : TT} {f g h fk : M} {ma : MA} {mt mu' : MT} {pos p : Pos} {st : Stmt} {sts sts' : List Stmt} {ts tsu : TS} {ms mv : MS}
theorem gt_tup {k n : Nat} {gs : TGs} {bs : BiA} {is : List Nat} (hc : X.calm = true) (h : GDs X C es gs bs is)
    (hn : (assignEach es X.env).length = n := by rfl) (hst : (assignEach es X.env).findIdx? (·.1) = none := by rfl) : GT X C (.Tuple es k pos) (gTup X.K n gs) (bTup n bs) is := ⟨pg_tup hc h.pe hn hst, sndgt_tup h.sd⟩
theorem s_forP {tg iter : Expr} {wi : TI} {gg : TG} {bb : Bi} {is : List Nat} (hp : PassesOwn (model X.prog X.w) X.A X.env X.xe) (hc : X.calm = true) (hi : IP X C E tg iter wi ma) (hg : GT X C tg gg bb is) (hb : BD X C E sts ts ms)
    (hs : ∀ x, foldedSetIterable iter X.env x = pure x := by intro _; rfl) : SD X C E (.For tg iter sts [] pos) (tFor wi gg ts) (mFor ma bb ms) := ⟨ps_for hp hc hi.pe hg.pe hb.pe hs, snds_forT (sndit_ofP hi.sd hg.sd) hb.sd⟩
theorem d_lcP {tg iter elt : Expr} {scope : Scope} {own : List (Str × Nat)} {vs : List Nat} {wi : TI} {gg : TG} {bb : Bi} {is : List Nat} (hc : X.calm = true) (hN : X.N.Nodup) (ok : BlkOk X.N X.env.scope scope own) (hi : IP X C E tg iter wi ma)
    (hg : ∀ (s : Shared) (H : Hp) (B : Addr) (cl : List (Str × Addr)) (fp : List Addr), GT (X.blk s H scope (compEnvC scope cl B X.env) fp) C tg gg bb is)
    (he : ∀ (s : Shared) (H : Hp) (B : Addr) (cl : List (Str × Addr)) (fp : List Addr), ED (X.blk s H scope (compEnvC scope cl B X.env) fp) C EX0 elt te f) (hvs : own.map (·.2) = vs := by rfl) (his : ∀ i ∈ is, i ∈ vs := by decide) (hs : ∀ x, foldedSetIterable iter X.env x = pure x := by intro _; rfl) :
    ED X C E (.ListComp elt [⟨tg, iter, [], 0⟩] scope pos) (tLc wi gg tYes te vs) (mComp vs ma bb mtYes f) := by
  subst hvs
  exact ⟨pe_lc hc hN hi.pe ok (fun s H B cl fp => (hg s H B cl fp).pe) (fun _ _ _ _ _ => pts_nil) (fun s H B cl fp => (he s H B cl fp).pe) hs, snd_compT (sndit_ofP hi.sd (hg X.s_0 X.H_0 0 [] []).sd) his sndt_yes (he X.s_0 X.H_0 0 [] []).sd⟩
theorem d_lcifP {tg iter elt : Expr} {scope : Scope} {own : List (Str × Nat)} {vs : List Nat} {wi : TI} {gg : TG} {bb : Bi} {is : List Nat} (hc : X.calm = true) (hN : X.N.Nodup) (ok : BlkOk X.N X.env.scope scope own) (hi : IP X C E tg iter wi ma)
    (hg : ∀ (s : Shared) (H : Hp) (B : Addr) (cl : List (Str × Addr)) (fp : List Addr), GT (X.blk s H scope (compEnvC scope cl B X.env) fp) C tg gg bb is)
    (ht : ∀ (s : Shared) (H : Hp) (B : Addr) (cl : List (Str × Addr)) (fp : List Addr), TD (X.blk s H scope (compEnvC scope cl B X.env) fp) C EX0 c tt mt)
    (he : ∀ (s : Shared) (H : Hp) (B : Addr) (cl : List (Str × Addr)) (fp : List Addr), ED (X.blk s H scope (compEnvC scope cl B X.env) fp) C EX0 elt te f) (hvs : own.map (·.2) = vs := by rfl) (his : ∀ i ∈ is, i ∈ vs := by decide) (hs : ∀ x, foldedSetIterable iter X.env x = pure x := by intro _; rfl) :
    ED X C E (.ListComp elt [⟨tg, iter, [c], 0⟩] scope pos) (tLc wi gg tt te vs) (mComp vs ma bb mt f) := by
  subst hvs
  exact ⟨pe_lc hc hN hi.pe ok (fun s H B cl fp => (hg s H B cl fp).pe) (fun s H B cl fp => pts_one (ht s H B cl fp).pe) (fun s H B cl fp => (he s H B cl fp).pe) hs, snd_compT (sndit_ofP hi.sd (hg X.s_0 X.H_0 0 [] []).sd) his (ht X.s_0 X.H_0 0 [] []).sd (he X.s_0 X.H_0 0 [] []).sd⟩
/-! ### dict comprehensions, as rules -/
theorem h_dc {tg iter kx vx : Expr} {scope : Scope} {own : List (Str × Nat)} {vs : List Nat} {wi : TI} {gg : TG} {bb : Bi} {is : List Nat} (hc : X.calm = true) (hN : X.N.Nodup) (ok : BlkOk X.N X.env.scope scope own) (hi : ID X C E tg iter wi ma)
    (hg : ∀ (s : Shared) (H : Hp) (B : Addr) (cl : List (Str × Addr)) (fp : List Addr), GD (X.blk s H scope (compEnvC scope cl B X.env) fp) C tg gg bb is)
    (hk : ∀ (s : Shared) (H : Hp) (B : Addr) (cl : List (Str × Addr)) (fp : List Addr), ED (X.blk s H scope (compEnvC scope cl B X.env) fp) C EX0 kx tk fk)
    (he : ∀ (s : Shared) (H : Hp) (B : Addr) (cl : List (Str × Addr)) (fp : List Addr), ED (X.blk s H scope (compEnvC scope cl B X.env) fp) C EX0 vx te f) (hvs : own.map (·.2) = vs := by rfl) (his : ∀ i ∈ is, i ∈ vs := by decide) (hs : ∀ x, foldedSetIterable iter X.env x = pure x := by intro _; rfl) :
    HD X C E (.DictComp kx vx [⟨tg, iter, [], 0⟩] scope pos) (tDc wi gg tYes tk te vs) (mCompD vs ma bb mtYes fk f) := by
  subst hvs
  exact ⟨pe_dc hc hN hi.pe ok (fun s H B cl fp => (hg s H B cl fp).pe) (fun _ _ _ _ _ => pts_nil) (fun s H B cl fp => (hk s H B cl fp).pe) (fun s H B cl fp => (he s H B cl fp).pe) hs, snd_compD hi.sd (hg X.s_0 X.H_0 0 [] []).sd his sndt_yes (hk X.s_0 X.H_0 0 [] []).sd (he X.s_0 X.H_0 0 [] []).sd⟩
theorem h_dcif {tg iter kx vx : Expr} {scope : Scope} {own : List (Str × Nat)} {vs : List Nat} {wi : TI} {gg : TG} {bb : Bi} {is : List Nat} (hc : X.calm = true) (hN : X.N.Nodup) (ok : BlkOk X.N X.env.scope scope own) (hi : ID X C E tg iter wi ma)
    (hg : ∀ (s : Shared) (H : Hp) (B : Addr) (cl : List (Str × Addr)) (fp : List Addr), GD (X.blk s H scope (compEnvC scope cl B X.env) fp) C tg gg bb is)
    (ht : ∀ (s : Shared) (H : Hp) (B : Addr) (cl : List (Str × Addr)) (fp : List Addr), TD (X.blk s H scope (compEnvC scope cl B X.env) fp) C EX0 c tt mt)
    (hk : ∀ (s : Shared) (H : Hp) (B : Addr) (cl : List (Str × Addr)) (fp : List Addr), ED (X.blk s H scope (compEnvC scope cl B X.env) fp) C EX0 kx tk fk)
    (he : ∀ (s : Shared) (H : Hp) (B : Addr) (cl : List (Str × Addr)) (fp : List Addr), ED (X.blk s H scope (compEnvC scope cl B X.env) fp) C EX0 vx te f) (hvs : own.map (·.2) = vs := by rfl) (his : ∀ i ∈ is, i ∈ vs := by decide) (hs : ∀ x, foldedSetIterable iter X.env x = pure x := by intro _; rfl) :
    HD X C E (.DictComp kx vx [⟨tg, iter, [c], 0⟩] scope pos) (tDc wi gg tt tk te vs) (mCompD vs ma bb mt fk f) := by
  subst hvs
  exact ⟨pe_dc hc hN hi.pe ok (fun s H B cl fp => (hg s H B cl fp).pe) (fun s H B cl fp => pts_one (ht s H B cl fp).pe) (fun s H B cl fp => (hk s H B cl fp).pe) (fun s H B cl fp => (he s H B cl fp).pe) hs, snd_compD hi.sd (hg X.s_0 X.H_0 0 [] []).sd his (ht X.s_0 X.H_0 0 [] []).sd (hk X.s_0 X.H_0 0 [] []).sd (he X.s_0 X.H_0 0 [] []).sd⟩
theorem h_dcP {tg iter kx vx : Expr} {scope : Scope} {own : List (Str × Nat)} {vs : List Nat} {wi : TI} {gg : TG} {bb : Bi} {is : List Nat} (hc : X.calm = true) (hN : X.N.Nodup) (ok : BlkOk X.N X.env.scope scope own) (hi : IP X C E tg iter wi ma)
    (hg : ∀ (s : Shared) (H : Hp) (B : Addr) (cl : List (Str × Addr)) (fp : List Addr), GT (X.blk s H scope (compEnvC scope cl B X.env) fp) C tg gg bb is)
    (hk : ∀ (s : Shared) (H : Hp) (B : Addr) (cl : List (Str × Addr)) (fp : List Addr), ED (X.blk s H scope (compEnvC scope cl B X.env) fp) C EX0 kx tk fk)
    (he : ∀ (s : Shared) (H : Hp) (B : Addr) (cl : List (Str × Addr)) (fp : List Addr), ED (X.blk s H scope (compEnvC scope cl B X.env) fp) C EX0 vx te f) (hvs : own.map (·.2) = vs := by rfl) (his : ∀ i ∈ is, i ∈ vs := by decide) (hs : ∀ x, foldedSetIterable iter X.env x = pure x := by intro _; rfl) :
    HD X C E (.DictComp kx vx [⟨tg, iter, [], 0⟩] scope pos) (tDc wi gg tYes tk te vs) (mCompD vs ma bb mtYes fk f) := by
  subst hvs
  exact ⟨pe_dc hc hN hi.pe ok (fun s H B cl fp => (hg s H B cl fp).pe) (fun _ _ _ _ _ => pts_nil) (fun s H B cl fp => (hk s H B cl fp).pe) (fun s H B cl fp => (he s H B cl fp).pe) hs, snd_compDT (sndit_ofP hi.sd (hg X.s_0 X.H_0 0 [] []).sd) his sndt_yes (hk X.s_0 X.H_0 0 [] []).sd (he X.s_0 X.H_0 0 [] []).sd⟩
theorem h_dcifP {tg iter kx vx : Expr} {scope : Scope} {own : List (Str × Nat)} {vs : List Nat} {wi : TI} {gg : TG} {bb : Bi} {is : List Nat} (hc : X.calm = true) (hN : X.N.Nodup) (ok : BlkOk X.N X.env.scope scope own) (hi : IP X C E tg iter wi ma)
    (hg : ∀ (s : Shared) (H : Hp) (B : Addr) (cl : List (Str × Addr)) (fp : List Addr), GT (X.blk s H scope (compEnvC scope cl B X.env) fp) C tg gg bb is)
    (ht : ∀ (s : Shared) (H : Hp) (B : Addr) (cl : List (Str × Addr)) (fp : List Addr), TD (X.blk s H scope (compEnvC scope cl B X.env) fp) C EX0 c tt mt)
    (hk : ∀ (s : Shared) (H : Hp) (B : Addr) (cl : List (Str × Addr)) (fp : List Addr), ED (X.blk s H scope (compEnvC scope cl B X.env) fp) C EX0 kx tk fk)
    (he : ∀ (s : Shared) (H : Hp) (B : Addr) (cl : List (Str × Addr)) (fp : List Addr), ED (X.blk s H scope (compEnvC scope cl B X.env) fp) C EX0 vx te f) (hvs : own.map (·.2) = vs := by rfl) (his : ∀ i ∈ is, i ∈ vs := by decide) (hs : ∀ x, foldedSetIterable iter X.env x = pure x := by intro _; rfl) :
    HD X C E (.DictComp kx vx [⟨tg, iter, [c], 0⟩] scope pos) (tDc wi gg tt tk te vs) (mCompD vs ma bb mt fk f) := by
  subst hvs
  exact ⟨pe_dc hc hN hi.pe ok (fun s H B cl fp => (hg s H B cl fp).pe) (fun s H B cl fp => pts_one (ht s H B cl fp).pe) (fun s H B cl fp => (hk s H B cl fp).pe) (fun s H B cl fp => (he s H B cl fp).pe) hs, snd_compDT (sndit_ofP hi.sd (hg X.s_0 X.H_0 0 [] []).sd) his (ht X.s_0 X.H_0 0 [] []).sd (hk X.s_0 X.H_0 0 [] []).sd (he X.s_0 X.H_0 0 [] []).sd⟩
end
/-! ### d.items() -/
def itemsD : List (PyData × PyData) → List PyData
  | [] => []
  | p :: l => .tuple [p.1, p.2] :: itemsD l
section
variable {K : PySem.W.Frag} {mu : Mu} {G0 H0 G H G' H' H1 : Hp} {env env' : LEnv} {σ σ' : L2.St} {C : Cl} {E : XK} {X : Cx}
theorem itemsD_len : ∀ {kvs : List (Key × V)} {es : List (PyData × PyData)}, RpK K G kvs es → (itemsD es).length = kvs.length
  | _, _, .nil => rfl
  | _, _, .cons a b => by simp [itemsD, itemsD_len b]
theorem itemsD_at : ∀ {kvs : List (Key × V)} {es : List (PyData × PyData)} {i : Nat} {k : Key} {v : V}, RpK K G kvs es → kvs[i]? = some (k, v) → ∃ d, (itemsD es)[i]? = some (.tuple [keyD k, d]) ∧ Rp K G v d
  | _, _, _, _, _, .nil, h => by simp at h
  | _, _, 0, _, _, .cons a b, h => by simp at h; obtain ⟨rfl, rfl⟩ := h; exact ⟨_, rfl, a⟩
  | _, _, i + 1, _, _, .cons a b, h => by simp at h; exact itemsD_at (i := i) b h
theorem rp_kV (k : Key) : Rp K G (kV k) (keyD k) := by cases k with | inl i => exact .int i | inr x => exact .str x
def miItems (f : M) : MA := fun env => (f env).bind fun p => match rowsD p.2 with
  | some es => .ok (p.1, itemsD es)
  | none => .stuck
theorem sndip_items {te : TE} {f : M} (h : Snd K C E te f) : SndIP K C E (iItems te) (miItems f) := by
  intro mu G0 H0 env σ G H R S hh
  refine h _ _ _ _ _ _ _ _ S (Post.bind (Rl1 := RlE K) hh fun p x G1 H1 S1 s1 r1 h1 => ?_)
  cases er : rowsD p.2 with
  | none => rw [er] at h1; exact h1.elim
  | some es =>
    rw [er] at h1
    obtain ⟨a, o, kvs, rfl, _, g, b⟩ := rowsD_of r1 er
    refine ⟨a, o, kvs, rfl, S1.sub _ _ g, h1 _ G1 H1 S1 (.refl _) ⟨fun i H s lt => ⟨s _ _ g, by rw [itemsD_len b] at lt; exact lt⟩, fun i H s le => ⟨s _ _ g, by rw [itemsD_len b] at le; exact Nat.le_of_eq le.symm⟩, fun i H x H' s y lt => ?_⟩⟩
    obtain ⟨T, k, v, q, e1, e2, e3⟩ := y
    obtain ⟨d, z1, z2⟩ := itemsD_at b q
    exact ⟨T, [kV k, v], [keyD k, d], e1, e2, e3, z1, .cons (rp_kV k) (.cons z2 .nil)⟩
theorem ip_items {elts : List Expr} {kk : Nat} {e : Expr} {te : TE} {m : M} {tpos apos cpos : Pos} (he : ED X C E e te m) (hbase : attributeBase e "items" X.env (eval e X.env) = eval e X.env := by rfl) (hline : (apos.endLine == cpos.line) = true := by rfl) :
    IP X C E (.Tuple elts kk tpos) (.Call (.Attribute e "items" apos) [] [] cpos) (iItems te) (miItems m) := ⟨pi_items he.pe hbase hline, sndip_items he.sd⟩
theorem i_vals {tg e : Expr} {te : TE} {m : M} {apos cpos : Pos} (he : ED X C E e te m) (hbase : attributeBase e "values" X.env (eval e X.env) = eval e X.env := by rfl) (hline : (apos.endLine == cpos.line) = true := by rfl) :
    ID X C E tg (.Call (.Attribute e "values" apos) [] [] cpos) (iVals te) (miVals m) := ⟨pi_values he.pe hbase hline, sndi_vals he.sd⟩
end
end LW

namespace LW
open PySem PySem.Spec PyProof.Rows L2
/-! ### dicts and their views, handed to a built-in that walks them -/
abbrev TSrc := L2.St → Hp → (List V → Hp → Prop) → Prop
def SrcP (X : Cx) (pins : List (Addr × Obj)) (σ : L2.St) (Q : List V → Hp → Prop) (x : Value) (s' : Shared) : Prop :=
  ∃ r T d P OK vs H', x = .ref r ∧ PySem.W.KdlSrc X.prog X.w T r d vs.length P OK ∧ OK s'.heap ∧ (∀ (j : Nat) v, P j v → ∃ y, vs[j]? = some y ∧ RelV y v) ∧ vs.length ≤ sizeLine ∧ Inv X pins σ H' s' ∧ Q vs H'
theorem SrcP.of {X : Cx} {pins : List (Addr × Obj)} {σ : L2.St} {Q : List V → Hp → Prop} {s' : Shared} {r d : Addr} {T : String} {n : Nat} {P : Nat → Value → Prop} {OK : Heap → Prop} (K : PySem.W.KdlSrc X.prog X.w T r d n P OK) (ok : OK s'.heap) {vs : List V} {H' : Hp} (hn : vs.length = n) (hP : ∀ (j : Nat) v, P j v → ∃ y, vs[j]? = some y ∧ RelV y v) (hz : n ≤ sizeLine) (I : Inv X pins σ H' s') (q : Q vs H') : SrcP X pins σ Q (.ref r) s' := by
  subst hn
  exact ⟨r, T, d, P, OK, vs, H', rfl, K, ok, hP, hz, I, q⟩
def PSrc (X : Cx) (e : Expr) (t : TSrc) : Prop :=
  ∀ (pins : List (Addr × Obj)) (s : Shared) (σ : L2.St) (H : Hp) (Q : List V → Hp → Prop), Inv X pins σ H s → t σ H Q → wpAny (model X.prog X.w) X.A (eval e X.env) (SrcP X pins σ Q) X.xe s
def tSrcV (te : TE) : TSrc := fun σ H Q => te σ H fun x H1 => ∃ d o kvs, x = .ref d ∧ H1 d = some (.frz o (.dK kvs)) ∧ Q (kvs.map fun p => p.2) H1
def tSrcK (te : TE) : TSrc := fun σ H Q => te σ H fun x H1 => ∃ d o kvs, x = .ref d ∧ H1 d = some (.frz o (.dK kvs)) ∧ Q (kvs.map fun p => kV p.1) H1
section
variable {X : Cx} {e : Expr} {te : TE} {ts : TSrc} {p pos apos cpos : Pos}
theorem kv_at {kvs : List (Key × V)} {vs : List (Key × Value)} (h : KV kvs vs) {j : Nat} {k : Key} {u : Value} (e : vs[j]? = some (k, u)) : ∃ v, kvs[j]? = some (k, v) ∧ RelV v u := by
  obtain ⟨⟨k', v⟩, e'⟩ : ∃ q, kvs[j]? = some q := ⟨kvs[j]'(by rw [Paired.length h]; exact (List.getElem?_eq_some_iff.mp e).1), List.getElem?_eq_getElem _⟩
  obtain ⟨u', e2, r⟩ := kv_get h e'
  rw [e] at e2
  cases e2
  exact ⟨v, e', r⟩
theorem psrc_vals (he : PE X e te) (hbase : attributeBase e "values" X.env (eval e X.env) = eval e X.env := by rfl) (hline : (apos.endLine == cpos.line) = true := by rfl) : PSrc X (.Call (.Attribute e "values" apos) [] [] cpos) (tSrcV te) := by
  intro pins s σ H Q I h
  refine wpAny_Call_method (T := "dict") (id := "dict.values") hbase rfl hline F.plainAttrs_dict F.slot_dict_values F.type_dict_values (thn (he.run pins s σ H _ I h) fun u s1 ⟨x, H1, I1, rx, d, o, kvs, ex, hd, q⟩ => ?_)
  subst ex
  obtain rfl : u = Value.ref d := rx
  obtain ⟨hs, hgd, hx, es, ep, vs, hdt, hsz, kv, hm⟩ := I1.frzK hd
  have hl : kvs.length = vs.length := Paired.length kv
  refine ⟨hm.dictOf.typeIs, hm.dictOf.mapOf.noDict, ?_⟩
  have I2 : Inv X pins σ H1 { s1 with heap := s1.heap.push { cls := .type "dict_values", data := .fields #[.ref d] } } := I1.kept (t' := s1.toks) fun b ob q => Heap.get?_push_of_some _ q
  have hle : kvs.length ≤ sizeLine := let ⟨_, z, _⟩ := I1.hok d _ hd; z
  have hm2 : (s1.heap.push { cls := .type "dict_values", data := .fields #[.ref d] }).DictAt (mixKind X.prog X.w) d vs ep := hm.push _
  show wpAny _ _ (callWith cpos (.builtin "dict.values") [.ref d] [] []) _ X.xe s1
  refine method_meetsIn F.slot_dict_values F.entry_dict_values rfl (PySem.evalArgs_none ⟨rfl, hm.dictOf.typeIs, F.args_dict_values_1 _, _, meets_dict_values (mixKind X.prog X.w) d hs, ⟨vs, hm.dictOf⟩, ?_⟩)
  have K := PySem.W.kdl_values (prog := X.prog) (w := X.w) (r := s1.heap.objs.size) (d := d) (knd := mixKind X.prog X.w) (kvs := vs) (ep := ep)
  exact SrcP.of K ⟨⟨_, Heap.get?_push_size _ rfl, rfl, rfl⟩, hm2⟩ (by rw [List.length_map, hl]) (by
    rintro j v ⟨k, hk⟩
    obtain ⟨y, e1, r⟩ := kv_at kv hk
    exact ⟨y, by rw [List.getElem?_map, e1]; rfl, r⟩) (by rw [← hl]; exact hle) I2 q
theorem psrc_keys (he : PE X e te) : PSrc X e (tSrcK te) := by
  intro pins s σ H Q I h
  refine thn (he.run pins s σ H _ I h) fun u s1 ⟨x, H1, I1, rx, d, o, kvs, ex, hd, q⟩ => ?_
  subst ex
  obtain rfl : u = Value.ref d := rx
  obtain ⟨hs, hgd, hx, es, ep, vs, hdt, hsz, kv, hm⟩ := I1.frzK hd
  have hl : kvs.length = vs.length := Paired.length kv
  have hle : kvs.length ≤ sizeLine := let ⟨_, z, _⟩ := I1.hok d _ hd; z
  have K := PySem.W.kdl_dict (prog := X.prog) (w := X.w) (d := d) (knd := mixKind X.prog X.w) (kvs := vs) (ep := ep) hs
  exact SrcP.of K hm (by rw [List.length_map, hl]) (by
    rintro j v ⟨k, x, hk, hv⟩
    obtain ⟨y, e1, r⟩ := kv_at kv hk
    exact ⟨kV k, by rw [List.getElem?_map, e1]; rfl, keyIs_rel hv⟩) (by rw [← hl]; exact hle) I1 q
/-! sum -/
theorem sum_src {pins : List (Addr × Obj)} {s : Shared} {σ : L2.St} {H : Hp} {Q : VK} {r d : Addr} {T : String} {P : Nat → Value → Prop} {OK : Heap → Prop} {ns : List Int} (hc : X.calm = true) (I : Inv X pins σ H s) (K : PySem.W.KdlSrc X.prog X.w T r d ns.length P OK) (ok : OK s.heap)
    (hP : ∀ (j : Nat) v, P j v → ∃ i t, ns[j]? = some i ∧ v = .int i t) (q : Q (.int ns.sum) H) : wpAny (model X.prog X.w) X.A (call (.builtin "sum") [.ref r]) (EP X pins σ Q) X.xe s := by
  have hh := I.ok.hd hc
  refine call_sum_walkAnyS ?_
  obtain ⟨oI, St, hit, W, st⟩ := K.iter X.A.in1 s hh ok
  refine hit _ _ ⟨s.heap.objs.size, _, _, _, ns.length, P, _, (fun j => (ns[j]?).getD 0), rfl, W.toS, st, fun b hb => ?_, fun j v h => ?_, fun s' t' hm => ?_⟩
  · show b < (s.heap.push oI).objs.size
    rw [size_push']
    rcases List.mem_cons.mp hb with e | hb
    · rw [e]; exact Nat.lt_succ_self _
    · rw [List.mem_singleton.mp hb]; exact Nat.lt_succ_of_lt (K.there _ ok).2
  · obtain ⟨i, t, e1, e2⟩ := hP j v h
    exact ⟨t, by dsimp only; rw [e1]; exact e2⟩
  · have hk : ∀ b o, s.heap.get? b = some o → s'.heap.get? b = some o := fun b o e =>
      hm.heap b o (fun hI => absurd (Heap.lt_size e) (by rw [List.mem_singleton.mp hI]; exact Nat.lt_irrefl _)) (Heap.get?_push_of_some _ e)
    rw [Moved.eq_with hm]
    refine ⟨.int ns.sum, H, I.kept (t' := s'.toks) hk, ⟨t', ?_⟩, q⟩
    have pre : ∀ (l : List Int), preSum (fun j => (l[j]?).getD 0) l.length = l.sum := fun l => by
      induction l with
      | nil => rfl
      | cons a l ih =>
        rw [List.length_cons, PySem.W.kdu_shift]
        simp only [List.getElem?_cons_zero, Option.getD_some, List.getElem?_cons_succ, List.sum_cons]
        rw [ih]
    rw [pre]
def tSumS (t : TSrc) : TE := fun σ H Q => t σ H fun vs H1 => ∃ ns : List Int, vs = ns.map V.int ∧ Q (.int ns.sum) H1
theorem src_ints {ns : List Int} {P : Nat → Value → Prop} (h : ∀ (j : Nat) v, P j v → ∃ y, (ns.map V.int)[j]? = some y ∧ RelV y v) : ∀ (j : Nat) v, P j v → ∃ i t, ns[j]? = some i ∧ v = .int i t := by
  intro j v hv
  obtain ⟨y, e, r⟩ := h j v hv
  rw [List.getElem?_map] at e
  cases z : ns[j]? with
  | none => rw [z] at e; cases e
  | some i => rw [z] at e; cases e; obtain ⟨t, rfl⟩ := r; exact ⟨i, t, rfl, rfl⟩
theorem pe_sumS (hc : X.calm = true) (hg : Gl X "sum") (hm : X.mg "sum" = none) (hs : PSrc X e ts) (na : starEach [e] X.env = (false, eval e X.env) :: starEach [] X.env := by rfl) (hb : bootBuiltins "sum" = some (.builtin "sum") := by decide +kernel) : PE X (.Call (.Name "sum" p) [e] [] pos) (tSumS ts) := by
  refine ⟨fun pins s σ H Q I h => ?_⟩
  refine wpAny_Call_Name_kw (ld_blt I hg hm hb ?_)
  refine PyProof.Rows.callWith_builtin1 (args_cons (thn (hs pins s σ H _ I h) fun x s1 ⟨r, T, d, P, OK, vs, H1, ex, K, ok, hP, hz, I1, ns, en, q⟩ => args_nil ?_) na) na
  subst ex en
  rw [List.length_map] at K
  exact sum_src hc I1 K ok (src_ints hP) q
/-! sorted, ints -/
theorem sorted_src {pins : List (Addr × Obj)} {s : Shared} {σ : L2.St} {H : Hp} {Q : VK} {r d : Addr} {T : String} {P : Nat → Value → Prop} {OK : Heap → Prop} {ns : List Int} (hc : X.calm = true) (I : Inv X pins σ H s) (K : PySem.W.KdlSrc X.prog X.w T r d ns.length P OK) (ok : OK s.heap)
    (hz : ns.length ≤ sizeLine) (hP : ∀ (j : Nat) v, P j v → ∃ i t, ns[j]? = some i ∧ v = .int i t) (q : ∀ p, H p = none → Q (.ref p) (upd H p (.lst ((sortB false ns).map V.int)))) : wpAny (model X.prog X.w) X.A (call (.builtin "sorted") [.ref r]) (EP X pins σ Q) X.xe s := by
  have hh := I.ok.hd hc
  refine Calls.call_function_entry kind_sorted plain_sorted entry_sorted (args_sorted1 _) ?_
  unfold Builtin.«sorted»
  refine wpAny_bind (m := checkCount "sorted" 1 1 _) (wpAny_pure ?_)
  refine wpAny_bind (PySem.W.kdu_collect (A := X.A.in1) K hh ok hz fun h' tk acc hk hacc => ?_)
  have hl : acc.toList.length = ns.length := by rw [Array.length_toList]; exact hacc.1
  have hzl : acc.toList.length ≤ sizeLine := by rw [hl]; exact hz
  refine wpAny_bind (wpAny_newList ?_ hzl)
  have I1 : Inv X pins σ H { s with heap := h', toks := tk } := I.kept hk
  have hoL : (h'.push (seqObj "list" acc.toList.toArray 0)).get? h'.objs.size = some (seqObj "list" acc.toList.toArray 0) := Heap.get?_push_size _ rfl
  have hi : IntsAre acc.toList ns := by
    have vv : Vals (ns.map V.int) acc.toList := vals_of_at (by rw [List.length_map, hl]) fun j x u e1 e2 => by
      obtain ⟨i, t, e3, e4⟩ := hP j u (hacc.2 j u (by rw [← Array.getElem?_toList]; exact e2))
      rw [List.getElem?_map, e3] at e1
      cases e1
      exact ⟨t, e4⟩
    exact vv.ints
  refine wpAny_bind (wpAny_holding (wpAny_call_entry slot_list_sort ⟨_, hoL, rfl⟩ entry_list_sort ?_ (PyProof.Rows.args_list_sort _)))
  refine SrtO.list_sort_ord SrtO.swo_int hoL hzl (fun h2 => SrtO.ints_sortable hi h2) fun out h1 h2 => ⟨_, rfl, wpAny_pure ⟨_, rfl, ?_⟩⟩
  obtain ⟨k1, k2, k3⟩ := SrtO.ints_out hi h1 h2
  obtain ⟨ep, he'⟩ := PyProof.Rows.sortedHeap_at (vs := acc.toList) (out := out.toArray) hoL
  have e0 : out.map SrtO.iv = sortB false ns := sortB_uni k2 k3
  rw [e0] at k1 k2
  have hlen : ((sortB false ns).map V.int).length ≤ sizeLine := by rw [List.length_map, k2.length_eq]; exact hz
  refine ⟨.ref h'.objs.size, upd H h'.objs.size (.lst ((sortB false ns).map V.int)), I1.laid (t' := tk) (fun c u hu => ?_) (Nat.le_refl _) ⟨hlen, _, ep, vals_of_ints k1, he'⟩, rfl, q _ (I1.hok.fresh (Nat.le_refl _))⟩
  rw [PyProof.Rows.sortedHeap_old (Nat.ne_of_lt (Heap.lt_size hu)) (Heap.lt_size (Heap.get?_push_of_some _ hu))]
  exact Heap.get?_push_of_some _ hu
def tSortS (t : TSrc) : TE := fun σ H Q => t σ H fun vs H1 => ∃ ns : List Int, vs = ns.map V.int ∧ ∀ p, H1 p = none → Q (.ref p) (upd H1 p (.lst ((sortB false ns).map V.int)))
theorem pe_sortS (hc : X.calm = true) (hg : Gl X "sorted") (hm : X.mg "sorted" = none) (hs : PSrc X e ts) (na : starEach [e] X.env = (false, eval e X.env) :: starEach [] X.env := by rfl) (hb : bootBuiltins "sorted" = some (.builtin "sorted") := by decide +kernel) : PE X (.Call (.Name "sorted" p) [e] [] pos) (tSortS ts) := by
  refine ⟨fun pins s σ H Q I h => ?_⟩
  refine wpAny_Call_Name_kw (ld_blt I hg hm hb ?_)
  refine PyProof.Rows.callWith_builtin1 (args_cons (thn (hs pins s σ H _ I h) fun x s1 ⟨r, T, d, P, OK, vs, H1, ex, K, ok, hP, hz, I1, ns, en, q⟩ => args_nil ?_) na) na
  subst ex en
  rw [List.length_map] at K hz
  exact sorted_src hc I1 K ok hz (src_ints hP) q
end
end LW

namespace LW
open PySem PySem.Spec PyProof.Rows L2
def minI : List Int → Int → Int
  | [], m => m
  | i :: r, m => minI r (bif decide (i < m) then i else m)
theorem minI_mem : ∀ (l : List Int) (m : Int), minI l m ∈ m :: l
  | [], m => by simp [minI]
  | i :: r, m => by
    have h := minI_mem r (bif decide (i < m) then i else m)
    show minI r (bif decide (i < m) then i else m) ∈ m :: i :: r
    cases c : decide (i < m) with
    | true => rw [c] at h; simp only [cond_true] at h ⊢; simp only [List.mem_cons] at h ⊢; rcases h with h | h <;> simp [h]
    | false => rw [c] at h; simp only [cond_false] at h ⊢; simp only [List.mem_cons] at h ⊢; rcases h with h | h <;> simp [h]
theorem minI_le : ∀ (l : List Int) (m : Int), minI l m ≤ m ∧ ∀ x ∈ l, minI l m ≤ x
  | [], m => ⟨Int.le_refl _, fun x hx => by cases hx⟩
  | i :: r, m => by
    obtain ⟨h1, h2⟩ := minI_le r (bif decide (i < m) then i else m)
    have : (bif decide (i < m) then i else m) ≤ m ∧ (bif decide (i < m) then i else m) ≤ i := by
      by_cases h : i < m
      · rw [decide_eq_true h]; simp only [cond_true]; omega
      · rw [decide_eq_false h]; simp only [cond_false]; omega
    show minI r _ ≤ m ∧ ∀ x ∈ i :: r, minI r _ ≤ x
    refine ⟨by omega, fun x hx => ?_⟩
    rcases List.mem_cons.mp hx with rfl | hx
    · omega
    · exact h2 x hx
theorem maxI_uni {m i : Int} {l : List Int} (h1 : m ∈ i :: l) (h2 : ∀ y ∈ i :: l, y ≤ m) : m = maxI l i := by
  have a := h2 _ (maxI_mem l i)
  have b : m ≤ maxI l i := by
    rcases List.mem_cons.mp h1 with rfl | h
    · exact (maxI_ge l m).1
    · exact (maxI_ge l i).2 m h
  omega
theorem minI_uni {m i : Int} {l : List Int} (h1 : m ∈ i :: l) (h2 : ∀ y ∈ i :: l, m ≤ y) : m = minI l i := by
  have a := h2 _ (minI_mem l i)
  have b : minI l i ≤ m := by
    rcases List.mem_cons.mp h1 with rfl | h
    · exact (minI_le l m).1
    · exact (minI_le l i).2 m h
  omega
section
variable {prog : Program} {w : World} {A : Around} {E : Value → Shared → Prop} {s : Shared}
abbrev fAt (ns : List Int) (j : Nat) : Int := (ns[j]?).getD 0
theorem fAt_mem {ns : List Int} {j : Nat} (h : j < ns.length) : fAt ns j ∈ ns := by
  unfold fAt
  rw [List.getElem?_eq_getElem h]
  exact List.getElem_mem h
theorem max_gen {x : Value} {ns : List Int} {Q : Value → Shared → Prop} (hne : 0 < ns.length)
    (h : wpAny (model prog w) A.in1 (pyIter x) (fun it s₂ => ∃ I fp wr P St, it = .ref I ∧ Walks prog w A.in1 I fp wr ns.length P St ∧ St 0 s₂.heap ∧ (∀ b ∈ fp, b < s₂.heap.objs.size) ∧ (∀ (j : Nat) v, P j v → ∃ i t, ns[j]? = some i ∧ v = .int i t) ∧
      ∀ M t s', M ∈ ns → (∀ a ∈ ns, a ≤ M) → Moved wr (fun a b => b = a) s₂ s' → Q (.int M t) s') E s) :
    wpAny (model prog w) A (call (.builtin "max") [x]) Q E s := by
  refine call_max_walkS (wpAny_mono h (fun it s₂ ⟨I, fp, wr, P, Sx, e, W, st, hf, hP, q⟩ => ?_) fun _ _ e => e)
  subst e
  refine ⟨I, fp, wr, _, _, P, _, (fun i j => decide (fAt ns i > fAt ns j)), rfl, W.toS, st, hf, hne, fun i j vi vj s' Q' E' h1 h2 q' => ?_, fun v s' hv hm => ?_⟩
  · obtain ⟨a, t, e1, rfl⟩ := hP _ _ h1
    obtain ⟨b, u, e2, rfl⟩ := hP _ _ h2
    have ea : fAt ns i = a := by unfold fAt; rw [e1]; rfl
    have eb : fAt ns j = b := by unfold fAt; rw [e2]; rfl
    dsimp only at q'
    rw [ea, eb] at q'
    exact PyProof.Rows.gt_int q'
  · obtain ⟨a, t, e1, rfl⟩ := hP _ _ hv
    obtain ⟨h1, h2⟩ := argBest_gt (fAt ns) (ns.length - 1)
    have ea : fAt ns (argBest (fun i j => decide (fAt ns i > fAt ns j)) (ns.length - 1)) = a := by unfold fAt; unfold fAt at e1; rw [e1]; rfl
    refine q a t s' (List.mem_of_getElem? e1) (fun y hy => ?_) hm
    obtain ⟨j, hj, rfl⟩ := List.mem_iff_getElem.mp hy
    have := h2 j (by omega)
    rw [ea] at this
    have e3 : fAt ns j = ns[j] := by unfold fAt; rw [List.getElem?_eq_getElem hj]; rfl
    rw [e3] at this
    exact this
theorem min_gen {x : Value} {ns : List Int} {Q : Value → Shared → Prop} (hne : 0 < ns.length)
    (h : wpAny (model prog w) A.in1 (pyIter x) (fun it s₂ => ∃ I fp wr P St, it = .ref I ∧ Walks prog w A.in1 I fp wr ns.length P St ∧ St 0 s₂.heap ∧ (∀ b ∈ fp, b < s₂.heap.objs.size) ∧ (∀ (j : Nat) v, P j v → ∃ i t, ns[j]? = some i ∧ v = .int i t) ∧
      ∀ M t s', M ∈ ns → (∀ a ∈ ns, M ≤ a) → Moved wr (fun a b => b = a) s₂ s' → Q (.int M t) s') E s) :
    wpAny (model prog w) A (call (.builtin "min") [x]) Q E s := by
  refine call_min_walkS (wpAny_mono h (fun it s₂ ⟨I, fp, wr, P, Sx, e, W, st, hf, hP, q⟩ => ?_) fun _ _ e => e)
  subst e
  refine ⟨I, fp, wr, _, _, P, _, (fun i j => decide (fAt ns i < fAt ns j)), rfl, W.toS, st, hf, hne, fun i j vi vj s' Q' E' h1 h2 q' => ?_, fun v s' hv hm => ?_⟩
  · obtain ⟨a, t, e1, rfl⟩ := hP _ _ h1
    obtain ⟨b, u, e2, rfl⟩ := hP _ _ h2
    have ea : fAt ns i = a := by unfold fAt; rw [e1]; rfl
    have eb : fAt ns j = b := by unfold fAt; rw [e2]; rfl
    dsimp only at q'
    rw [ea, eb] at q'
    exact PyProof.Rows.lt_int q'
  · obtain ⟨a, t, e1, rfl⟩ := hP _ _ hv
    obtain ⟨h1, h2⟩ := argBest_lt (fAt ns) (ns.length - 1)
    have ea : fAt ns (argBest (fun i j => decide (fAt ns i < fAt ns j)) (ns.length - 1)) = a := by unfold fAt; unfold fAt at e1; rw [e1]; rfl
    refine q a t s' (List.mem_of_getElem? e1) (fun y hy => ?_) hm
    obtain ⟨j, hj, rfl⟩ := List.mem_iff_getElem.mp hy
    have := h2 j (by omega)
    rw [ea] at this
    have e3 : fAt ns j = ns[j] := by unfold fAt; rw [List.getElem?_eq_getElem hj]; rfl
    rw [e3] at this
    exact this
end
section
variable {X : Cx} {pins : List (Addr × Obj)} {s : Shared} {σ : L2.St} {H : Hp} {Q : VK} {ns : List Int}
theorem min_src {r d : Addr} {T : String} {P : Nat → Value → Prop} {OK : Heap → Prop} (hc : X.calm = true) (I : Inv X pins σ H s) (K : PySem.W.KdlSrc X.prog X.w T r d ns.length P OK) (ok : OK s.heap)
    (hne : 0 < ns.length) (hP : ∀ (j : Nat) v, P j v → ∃ i t, ns[j]? = some i ∧ v = .int i t) (q : ∀ m, m ∈ ns → (∀ y ∈ ns, m ≤ y) → Q (.int m) H) : wpAny (model X.prog X.w) X.A (call (.builtin "min") [.ref r]) (EP X pins σ Q) X.xe s := by
  have hh := I.ok.hd hc
  refine min_gen hne ?_
  obtain ⟨oI, St, hit, W, st⟩ := K.iter X.A.in1 s hh ok
  refine hit _ _ ⟨s.heap.objs.size, _, _, P, _, rfl, W, st, fun b hb => ?_, hP, fun M t s' h1 h2 hm => ?_⟩
  · show b < (s.heap.push oI).objs.size
    rw [size_push']
    rcases List.mem_cons.mp hb with e | hb
    · rw [e]; exact Nat.lt_succ_self _
    · rw [List.mem_singleton.mp hb]; exact Nat.lt_succ_of_lt (K.there _ ok).2
  · have hk : ∀ b o, s.heap.get? b = some o → s'.heap.get? b = some o := fun b o e =>
      hm.heap b o (fun hI => absurd (Heap.lt_size e) (by rw [List.mem_singleton.mp hI]; exact Nat.lt_irrefl _)) (Heap.get?_push_of_some _ e)
    rw [Moved.eq_with hm]
    exact ⟨.int M, H, I.kept (t' := s'.toks) hk, ⟨t, rfl⟩, q M h1 h2⟩
theorem max_src {r d : Addr} {T : String} {P : Nat → Value → Prop} {OK : Heap → Prop} (hc : X.calm = true) (I : Inv X pins σ H s) (K : PySem.W.KdlSrc X.prog X.w T r d ns.length P OK) (ok : OK s.heap)
    (hne : 0 < ns.length) (hP : ∀ (j : Nat) v, P j v → ∃ i t, ns[j]? = some i ∧ v = .int i t) (q : ∀ m, m ∈ ns → (∀ y ∈ ns, y ≤ m) → Q (.int m) H) : wpAny (model X.prog X.w) X.A (call (.builtin "max") [.ref r]) (EP X pins σ Q) X.xe s := by
  have hh := I.ok.hd hc
  refine max_gen hne ?_
  obtain ⟨oI, St, hit, W, st⟩ := K.iter X.A.in1 s hh ok
  refine hit _ _ ⟨s.heap.objs.size, _, _, P, _, rfl, W, st, fun b hb => ?_, hP, fun M t s' h1 h2 hm => ?_⟩
  · show b < (s.heap.push oI).objs.size
    rw [size_push']
    rcases List.mem_cons.mp hb with e | hb
    · rw [e]; exact Nat.lt_succ_self _
    · rw [List.mem_singleton.mp hb]; exact Nat.lt_succ_of_lt (K.there _ ok).2
  · have hk : ∀ b o, s.heap.get? b = some o → s'.heap.get? b = some o := fun b o e =>
      hm.heap b o (fun hI => absurd (Heap.lt_size e) (by rw [List.mem_singleton.mp hI]; exact Nat.lt_irrefl _)) (Heap.get?_push_of_some _ e)
    rw [Moved.eq_with hm]
    exact ⟨.int M, H, I.kept (t' := s'.toks) hk, ⟨t, rfl⟩, q M h1 h2⟩
/-! of a tuple -/
def rMaxT (K : PySem.W.Frag) : List V → Hp → VK → Prop := fun vs H Q => ∃ (a : Addr) (ns : List Int), vs = [V.ref a] ∧ SqT K H a (ns.map V.int) ∧ 0 < ns.length ∧ ∀ m, m ∈ ns → (∀ y, y ∈ ns → y ≤ m) → Q (.int m) H
def rMinT (K : PySem.W.Frag) : List V → Hp → VK → Prop := fun vs H Q => ∃ (a : Addr) (ns : List Int), vs = [V.ref a] ∧ SqT K H a (ns.map V.int) ∧ 0 < ns.length ∧ ∀ m, m ∈ ns → (∀ y, y ∈ ns → m ≤ y) → Q (.int m) H
theorem tup_walk {a : Addr} (hc : X.calm = true) (I : Inv X pins σ H s) (hs : SqT X.K H a (ns.map V.int)) {R : Value → Shared → Prop}
    (h : ∀ I' fp wr P St s₂, Walks X.prog X.w X.A.in1 I' fp wr ns.length P St → St 0 s₂.heap → (∀ b ∈ fp, b < s₂.heap.objs.size) → (∀ (j : Nat) v, P j v → ∃ i t, ns[j]? = some i ∧ v = .int i t) →
      (∀ s', Moved wr (fun a b => b = a) s₂ s' → Inv X pins σ H s') → R (.ref I') s₂) : wpAny (model X.prog X.w) X.A.in1 (pyIter (.ref a)) R X.xe s := by
  obtain ⟨its, rv, hl, hz⟩ := I.tuple hs
  have hi := rv.ints
  have hlen : its.length = ns.length := by have := rv.length; rw [List.length_map] at this; exact this.symm
  obtain ⟨o, ho, hcl, n, hd⟩ := id hl
  have hne : a ≠ s.heap.objs.size := Nat.ne_of_lt (Heap.lt_size ho)
  have W := Walks.tuple (prog := X.prog) (w := X.w) (A := X.A.in1) (I.ok.hd hc) s.heap.objs.size a hne its.toArray
  have e0 : its.toArray.size = ns.length := by rw [List.size_toArray, hlen]
  rw [e0] at W
  refine wpAny_pyIter_tuple hl (h _ _ _ _ _ _ W ⟨⟨_, Heap.get?_push_size _ rfl, rfl, rfl⟩, Heap.IsTuple.at (h := s.heap) hl fun o e => Heap.get?_push_of_some _ e⟩ (fun b hb => ?_) (fun j v hv => ?_) fun s' hm => ?_)
  · rcases List.mem_cons.mp hb with rfl | hb
    · exact Heap.lt_size (Heap.get?_push_size _ rfl)
    · obtain rfl := List.mem_singleton.mp hb
      exact Heap.lt_size (Heap.get?_push_of_some _ ho)
  · have hv' : its[j]? = some v := by simpa using hv
    obtain ⟨y, hy, r⟩ : ∃ y, (ns.map V.int)[j]? = some y ∧ RelV y v := by
      have lt : j < (ns.map V.int).length := by rw [rv.length]; exact (List.getElem?_eq_some_iff.mp hv').1
      obtain ⟨u, hu, ru⟩ := rv.get (List.getElem?_eq_getElem lt)
      rw [hv'] at hu
      cases hu
      exact ⟨_, List.getElem?_eq_getElem lt, ru⟩
    rw [List.getElem?_map] at hy
    cases z : ns[j]? with
    | none => rw [z] at hy; cases hy
    | some i => rw [z] at hy; cases hy; obtain ⟨t, rfl⟩ := r; exact ⟨i, t, rfl, rfl⟩
  · have hk : ∀ b o, s.heap.get? b = some o → s'.heap.get? b = some o := fun b o e =>
      hm.heap b o (fun hI => absurd (Heap.lt_size e) (by rw [List.mem_singleton.mp hI]; exact Nat.lt_irrefl _)) (Heap.get?_push_of_some _ e)
    rw [Moved.eq_with hm]
    exact I.kept (t' := s'.toks) hk
theorem cr_maxT (hc : X.calm = true) : CallR X (.builtin "max") (rMaxT X.K) := by
  intro pins s σ H vs us Q I r h
  obtain ⟨a, ns, rfl, hs, hne, q⟩ := h
  rw [Vals.ref1 r]
  exact max_gen hne (tup_walk hc I hs fun I' fp wr P St s₂ W st hf hP k => ⟨I', fp, wr, P, St, rfl, W, st, hf, hP, fun M t s' h1 h2 hm => ⟨.int M, H, k s' hm, ⟨t, rfl⟩, q M h1 h2⟩⟩)
theorem cr_minT (hc : X.calm = true) : CallR X (.builtin "min") (rMinT X.K) := by
  intro pins s σ H vs us Q I r h
  obtain ⟨a, ns, rfl, hs, hne, q⟩ := h
  rw [Vals.ref1 r]
  exact min_gen hne (tup_walk hc I hs fun I' fp wr P St s₂ W st hf hP k => ⟨I', fp, wr, P, St, rfl, W, st, hf, hP, fun M t s' h1 h2 hm => ⟨.int M, H, k s' hm, ⟨t, rfl⟩, q M h1 h2⟩⟩)
end
end LW

namespace LW
open PySem PySem.Spec PyProof.Rows L2
section
variable {K : PySem.W.Frag} {mu : Mu} {G0 H0 G H G' H' H1 : Hp} {env env' : LEnv} {σ σ' : L2.St} {C : Cl} {E : XK} {X : Cx}
/-! ### dicts handed to a built-in: its ints -/
def intsV (d : PyData) (k : List Int → R PyData) : R PyData := match rowsD d with
  | some es => (match intsOf (valsD es) with
    | some l => k l
    | none => .stuck)
  | none => .stuck
def intsK (d : PyData) (k : List Int → R PyData) : R PyData := match rowsD d with
  | some es => (match intsOf (keysD es) with
    | some l => k l
    | none => .stuck)
  | none => .stuck
theorem intsV_of {d : PyData} {k : List Int → R PyData} {e : LEnv} {v : V} {Q : VK} (r : Rp K G' v d) (h : Post (RlE K) K C E mu G0 H0 σ G (lif e (intsV d k)) Q) :
    ∃ a o kvs l, v = .ref a ∧ G' a = some (.frz o (.dK kvs)) ∧ (kvs.map fun p => p.2) = l.map V.int ∧ Post (RlE K) K C E mu G0 H0 σ G (lif e (k l)) Q := by
  unfold intsV at h
  cases er : rowsD d with
  | none => rw [er] at h; exact h.elim
  | some es =>
    rw [er] at h
    dsimp only at h
    cases ei : intsOf (valsD es) with
    | none => rw [ei] at h; exact h.elim
    | some l =>
      rw [ei] at h
      obtain ⟨a, o, kvs, rfl, _, g, b⟩ := rowsD_of r er
      have rv := rpa_vals b
      rw [intsOf_eq ei] at rv
      exact ⟨a, o, kvs, l, rfl, g, rpa_ints l _ rv, h⟩
theorem intsK_of {d : PyData} {k : List Int → R PyData} {e : LEnv} {v : V} {Q : VK} (r : Rp K G' v d) (h : Post (RlE K) K C E mu G0 H0 σ G (lif e (intsK d k)) Q) :
    ∃ a o kvs l, v = .ref a ∧ G' a = some (.frz o (.dK kvs)) ∧ (kvs.map fun p => kV p.1) = l.map V.int ∧ Post (RlE K) K C E mu G0 H0 σ G (lif e (k l)) Q := by
  unfold intsK at h
  cases er : rowsD d with
  | none => rw [er] at h; exact h.elim
  | some es =>
    rw [er] at h
    dsimp only at h
    cases ei : intsOf (keysD es) with
    | none => rw [ei] at h; exact h.elim
    | some l =>
      rw [ei] at h
      obtain ⟨a, o, kvs, rfl, _, g, b⟩ := rowsD_of r er
      have rv := rpa_keys b
      rw [intsOf_eq ei] at rv
      exact ⟨a, o, kvs, l, rfl, g, rpa_ints l _ rv, h⟩
def mSumV (f : M) : M := fun env => (f env).bind fun p => lif p.1 (intsV p.2 fun l => .ok (.int (sumI l)))
def mSortD (f : M) : M := fun env => (f env).bind fun p => lif p.1 (intsK p.2 fun l => .ok (.list (intsD (sortB false l))))
def minL : List Int → R PyData
  | i :: l => .ok (.int (minI l i))
  | [] => .stuck
def maxL : List Int → R PyData
  | i :: l => .ok (.int (maxI l i))
  | [] => .stuck
def mMinV (f : M) : M := fun env => (f env).bind fun p => lif p.1 (intsV p.2 minL)
def mMaxV (f : M) : M := fun env => (f env).bind fun p => lif p.1 (intsV p.2 maxL)
theorem snd_sumV {te : TE} {f : M} (h : Snd K C E te f) : Snd K C E (tSumS (tSrcV te)) (mSumV f) := by
  intro mu G0 H0 env σ G H Q S hh
  refine h _ _ _ _ _ _ _ _ S (Post.bind (Rl1 := RlE K) hh fun p x G1 H1 S1 s1 r1 h1 => ?_)
  obtain ⟨a, o, kvs, l, rfl, g, e, h1⟩ := intsV_of r1 h1
  refine ⟨a, o, kvs, rfl, S1.sub _ _ g, l, e, ?_⟩
  rw [← sumI_eq]
  exact post_here S1 h1 (.int _)
theorem snd_sortD {te : TE} {f : M} (h : Snd K C E te f) : Snd K C E (tSortS (tSrcK te)) (mSortD f) := by
  intro mu G0 H0 env σ G H Q S hh
  refine h _ _ _ _ _ _ _ _ S (Post.bind (Rl1 := RlE K) hh fun p x G1 H1 S1 s1 r1 h1 => ?_)
  obtain ⟨a, o, kvs, l, rfl, g, e, h1⟩ := intsK_of r1 h1
  exact ⟨a, o, kvs, rfl, S1.sub _ _ g, l, e, fun p hp => post_new S1 h1 hp _ nt_lst (.lst upd_same (ints_rpa _))⟩
def tMinS (t : TSrc) : TE := fun σ H Q => t σ H fun vs H1 => ∃ ns : List Int, vs = ns.map V.int ∧ 0 < ns.length ∧ ∀ m, m ∈ ns → (∀ y ∈ ns, m ≤ y) → Q (.int m) H1
def tMaxS (t : TSrc) : TE := fun σ H Q => t σ H fun vs H1 => ∃ ns : List Int, vs = ns.map V.int ∧ 0 < ns.length ∧ ∀ m, m ∈ ns → (∀ y ∈ ns, y ≤ m) → Q (.int m) H1
section
variable {e : Expr} {te : TE} {ts : TSrc} {f : M} {p pos apos cpos : Pos}
theorem pe_minS (hc : X.calm = true) (hg : Gl X "min") (hm : X.mg "min" = none) (hs : PSrc X e ts) (na : starEach [e] X.env = (false, eval e X.env) :: starEach [] X.env := by rfl) (hb : bootBuiltins "min" = some (.builtin "min") := by decide +kernel) : PE X (.Call (.Name "min" p) [e] [] pos) (tMinS ts) := by
  refine ⟨fun pins s σ H Q I h => ?_⟩
  refine wpAny_Call_Name_kw (ld_blt I hg hm hb ?_)
  refine PyProof.Rows.callWith_builtin1 (args_cons (thn (hs pins s σ H _ I h) fun x s1 ⟨r, T, d, P, OK, vs, H1, ex, K, ok, hP, hz, I1, ns, en, hn, q⟩ => args_nil ?_) na) na
  subst ex en
  rw [List.length_map] at K
  exact min_src hc I1 K ok hn (src_ints hP) q
theorem pe_maxS (hc : X.calm = true) (hg : Gl X "max") (hm : X.mg "max" = none) (hs : PSrc X e ts) (na : starEach [e] X.env = (false, eval e X.env) :: starEach [] X.env := by rfl) (hb : bootBuiltins "max" = some (.builtin "max") := by decide +kernel) : PE X (.Call (.Name "max" p) [e] [] pos) (tMaxS ts) := by
  refine ⟨fun pins s σ H Q I h => ?_⟩
  refine wpAny_Call_Name_kw (ld_blt I hg hm hb ?_)
  refine PyProof.Rows.callWith_builtin1 (args_cons (thn (hs pins s σ H _ I h) fun x s1 ⟨r, T, d, P, OK, vs, H1, ex, K, ok, hP, hz, I1, ns, en, hn, q⟩ => args_nil ?_) na) na
  subst ex en
  rw [List.length_map] at K
  exact max_src hc I1 K ok hn (src_ints hP) q
theorem snd_minV (h : Snd K C E te f) : Snd K C E (tMinS (tSrcV te)) (mMinV f) := by
  intro mu G0 H0 env σ G H Q S hh
  refine h _ _ _ _ _ _ _ _ S (Post.bind (Rl1 := RlE K) hh fun p x G1 H1 S1 s1 r1 h1 => ?_)
  obtain ⟨a, o, kvs, l, rfl, g, e, h1⟩ := intsV_of r1 h1
  cases l with
  | nil => exact h1.elim
  | cons i l => exact ⟨a, o, kvs, rfl, S1.sub _ _ g, i :: l, e, by simp, fun m hm hy => by rw [minI_uni hm hy]; exact post_here S1 h1 (.int _)⟩
theorem snd_maxV (h : Snd K C E te f) : Snd K C E (tMaxS (tSrcV te)) (mMaxV f) := by
  intro mu G0 H0 env σ G H Q S hh
  refine h _ _ _ _ _ _ _ _ S (Post.bind (Rl1 := RlE K) hh fun p x G1 H1 S1 s1 r1 h1 => ?_)
  obtain ⟨a, o, kvs, l, rfl, g, e, h1⟩ := intsV_of r1 h1
  cases l with
  | nil => exact h1.elim
  | cons i l => exact ⟨a, o, kvs, rfl, S1.sub _ _ g, i :: l, e, by simp, fun m hm hy => by rw [maxI_uni hm hy]; exact post_here S1 h1 (.int _)⟩
section
variable (hc : X.calm = true) (he : ED X C E e te f) (hbase : attributeBase e "values" X.env (eval e X.env) = eval e X.env := by rfl) (hline : (apos.endLine == cpos.line) = true := by rfl)
  (na : starEach [.Call (.Attribute e "values" apos) [] [] cpos] X.env = (false, eval (.Call (.Attribute e "values" apos) [] [] cpos) X.env) :: starEach [] X.env := by rfl)
include hc he hbase hline na
theorem d_sumV (hg : Gl X "sum") (hm : X.mg "sum" = none) : ED X C E (.Call (.Name "sum" p) [.Call (.Attribute e "values" apos) [] [] cpos] [] pos) (tSumS (tSrcV te)) (mSumV f) := ⟨pe_sumS hc hg hm (psrc_vals he.pe hbase hline) na, snd_sumV he.sd⟩
theorem d_minV (hg : Gl X "min") (hm : X.mg "min" = none) : ED X C E (.Call (.Name "min" p) [.Call (.Attribute e "values" apos) [] [] cpos] [] pos) (tMinS (tSrcV te)) (mMinV f) := ⟨pe_minS hc hg hm (psrc_vals he.pe hbase hline) na, snd_minV he.sd⟩
theorem d_maxV (hg : Gl X "max") (hm : X.mg "max" = none) : ED X C E (.Call (.Name "max" p) [.Call (.Attribute e "values" apos) [] [] cpos] [] pos) (tMaxS (tSrcV te)) (mMaxV f) := ⟨pe_maxS hc hg hm (psrc_vals he.pe hbase hline) na, snd_maxV he.sd⟩
end
theorem d_sortD (hc : X.calm = true) (he : ED X C E e te f) (hg : Gl X "sorted") (hm : X.mg "sorted" = none) (na : starEach [e] X.env = (false, eval e X.env) :: starEach [] X.env := by rfl) : ED X C E (.Call (.Name "sorted" p) [e] [] pos) (tSortS (tSrcK te)) (mSortD f) := ⟨pe_sortS hc hg hm (psrc_keys he.pe) na, snd_sortD he.sd⟩
end
/-! ### max, min of lists, tuples, two -/
def cMaxB : List PyData → R PyData
  | [.list ds] => (match intsOf ds with
    | some l => maxL l
    | none => .stuck)
  | [.tuple ds] => (match intsOf ds with
    | some l => maxL l
    | none => .stuck)
  | [.int i, .int j] => .ok (.int (bif decide (i < j) then j else i))
  | _ => .stuck
def cMinB : List PyData → R PyData
  | [.list ds] => (match intsOf ds with
    | some l => minL l
    | none => .stuck)
  | [.tuple ds] => (match intsOf ds with
    | some l => minL l
    | none => .stuck)
  | [.int i, .int j] => .ok (.int (bif decide (j < i) then j else i))
  | _ => .stuck
abbrev rMaxB (K : PySem.W.Frag) : List V → Hp → VK → Prop := fun xs H Q => rMax2 K xs H Q ∨ rMaxT K xs H Q
abbrev rMinB (K : PySem.W.Frag) : List V → Hp → VK → Prop := fun xs H Q => (rMin2 xs H Q ∨ rMin K xs H Q) ∨ rMinT K xs H Q
theorem call_maxB (hc : X.calm = true) : CallR X (.builtin "max") (rMaxB X.K) := CallR.or (call_maxA hc) (cr_maxT hc)
theorem call_minB (hc : X.calm = true) : CallR X (.builtin "min") (rMinB X.K) := CallR.or (CallR.or (call_min2 hc) (cr_min hc)) (cr_minT hc)
theorem cas_maxB : CaS K C E (rMaxB K) cMaxB := by
  intro mu G0 H0 env σ G H xs ds Q S r h
  match ds, r, h with
  | [.list es], .cons (.lst a b) .nil, h =>
    simp only [cMaxB] at h
    cases e : intsOf es with
    | none => rw [e] at h; exact h.elim
    | some l =>
      rw [e] at h
      cases l with
      | nil => exact h.elim
      | cons i l =>
        have eb := intsOf_eq e
        subst eb
        refine .inl (.inr ⟨_, i :: l, rfl, ?_, by simp, fun m hm hy => ?_⟩)
        · rw [← rpa_ints _ _ b]; exact SqL.of (S.sub _ _ a)
        · rw [maxI_uni hm hy]; exact post_here S h (.int _)
  | [.tuple es], .cons (.tup a b) .nil, h =>
    simp only [cMaxB] at h
    cases e : intsOf es with
    | none => rw [e] at h; exact h.elim
    | some l =>
      rw [e] at h
      cases l with
      | nil => exact h.elim
      | cons i l =>
        have eb := intsOf_eq e
        subst eb
        refine .inr ⟨_, i :: l, rfl, ?_, by simp, fun m hm hy => ?_⟩
        · rw [← rpa_ints _ _ b]; exact sqt_same S.sub a
        · rw [maxI_uni hm hy]; exact post_here S h (.int _)
  | [.int i, .int j], .cons (.int _) (.cons (.int _) .nil), h =>
    refine .inl (.inl ⟨i, j, rfl, ?_⟩)
    have e : (if j > i then j else i) = (bif decide (i < j) then j else i) := by
      by_cases h : i < j
      · rw [if_pos h, decide_eq_true h]; rfl
      · rw [if_neg h, decide_eq_false h]; rfl
    rw [e]
    exact post_here S h (.int _)
theorem cas_minB : CaS K C E (rMinB K) cMinB := by
  intro mu G0 H0 env σ G H xs ds Q S r h
  match ds, r, h with
  | [.list es], .cons (.lst a b) .nil, h =>
    simp only [cMinB] at h
    cases e : intsOf es with
    | none => rw [e] at h; exact h.elim
    | some l =>
      rw [e] at h
      cases l with
      | nil => exact h.elim
      | cons i l =>
        have eb := intsOf_eq e
        subst eb
        refine .inl (.inr ⟨_, i :: l, rfl, ?_, by simp, fun m hm hy => ?_⟩)
        · rw [← rpa_ints _ _ b]; exact SqL.of (S.sub _ _ a)
        · rw [minI_uni hm hy]; exact post_here S h (.int _)
  | [.tuple es], .cons (.tup a b) .nil, h =>
    simp only [cMinB] at h
    cases e : intsOf es with
    | none => rw [e] at h; exact h.elim
    | some l =>
      rw [e] at h
      cases l with
      | nil => exact h.elim
      | cons i l =>
        have eb := intsOf_eq e
        subst eb
        refine .inr ⟨_, i :: l, rfl, ?_, by simp, fun m hm hy => ?_⟩
        · rw [← rpa_ints _ _ b]; exact sqt_same S.sub a
        · rw [minI_uni hm hy]; exact post_here S h (.int _)
  | [.int i, .int j], .cons (.int _) (.cons (.int _) .nil), h =>
    refine .inl (.inl ⟨i, j, rfl, ?_⟩)
    have e : (if j < i then j else i) = (bif decide (j < i) then j else i) := by
      by_cases h : j < i
      · rw [if_pos h, decide_eq_true h]; rfl
      · rw [if_neg h, decide_eq_false h]; rfl
    rw [e]
    exact post_here S h (.int _)
end
end LW

namespace LW
open PySem PySem.Spec PyProof.Rows L2
open PySem (Draws Begins IsEnum)
/-! ### enumerate(v), whatever v is -/
theorem meets_enum1 {v : Value} {o : Obj} {Hx : Heap → Prop} (B : Begins v o Hx) :
    Meets (Builtin.«enumerate.__new__» ⟨[.type "enumerate", v], []⟩) (fun _ R s => Hx s.heap ∧
      R (.ok (.ret (.ref (s.heap.push o).objs.size))) { s with heap := (s.heap.push o).push { cls := .type "enumerate", data := .fields #[.none, .bool false, .ref s.heap.objs.size, rawInt 0, .none, .none] } }) :=
  .of_wp fun prog w A R s h => by
    obtain ⟨hp, g, d, tk, os⟩ := s; obtain ⟨h1, h⟩ := h
    have hsub := PySem.sub_enumerate
    have q1 : ∀ {A' : Around} {E : Value → Shared → Prop} {Q : Value → Shared → Prop}, Q (.ref hp.objs.size) ⟨hp.push o, g, d, tk, os⟩ → wpAny (model prog w) A' (pyIter v) Q E ⟨hp, g, d, tk, os⟩ :=
      fun q => B.iter prog w _ _ ⟨hp, g, d, tk, os⟩ _ h1 q
    wp_walk using q1
    refine wpAny_stack_any fun st => wpAny_pure ?_
    split
    · rename_i c _ _ _ _ _
      cases (c == Value.type "enumerate")
      · wp_walk using q1
        exact ⟨_, rfl, h⟩
      · wp_walk using q1
        exact ⟨_, rfl, h⟩
    · wp_walk using q1
      exact ⟨_, rfl, h⟩

/-- enumerate(v): its two new cells -/
theorem enum1_begins {prog : Program} {w : World} {A : Around} {E : Value → Shared → Prop} {s : Shared} {v : Value} {o : Obj} {Hx : Heap → Prop} {Q : Value → Shared → Prop} (B : Begins v o Hx) (h1 : Hx s.heap)
    (h : ∀ h', IsEnum h' (s.heap.objs.size + 1) s.heap.objs.size 0 .none → h'.get? s.heap.objs.size = some o → h'.objs.size = s.heap.objs.size + 2 →
      (∀ b o, s.heap.get? b = some o → h'.get? b = some o) → Q (.ref (s.heap.objs.size + 1)) { s with heap := h' }) :
    wpAny (model prog w) A (call (.type "enumerate") [v]) Q E s := by
  refine callType_new PySem.F.called_enumerate (by decide) (PySem.F.typeCall_enumerate_1 _) (PySem.F.newCall_enumerate_1 _) (fun obj => PySem.F.args_object_init_2 obj _) PySem.F.entry_enumerate_new
    (meets_enum1 B) ⟨h1, ?_⟩
  have hz : (s.heap.push o).objs.size = s.heap.objs.size + 1 := Heap.size_push ..
  show _ ∧ _
  rw [hz]
  have he : IsEnum ((s.heap.push o).push { cls := .type "enumerate", data := .fields #[.none, .bool false, .ref s.heap.objs.size, rawInt 0, .none, .none] }) (s.heap.objs.size + 1) s.heap.objs.size 0 .none := by
    have := Heap.get?_push_size (s.heap.push o) (o := { cls := .type "enumerate", data := .fields #[.none, .bool false, .ref s.heap.objs.size, rawInt 0, .none, .none] }) rfl
    rw [hz] at this; exact this
  refine ⟨⟨_, he, rfl⟩, h _ he (Heap.get?_push_of_some _ (Heap.get?_push_size _ B.free)) (by rw [Heap.size_push, hz]) fun b o x => Heap.get?_push_of_some _ (Heap.get?_push_of_some _ x)⟩
/-! ### kinds of what is drawn from -/
inductive Kd
  | ls
  | tp
  | sr
def chV (x : Str) : List V := x.cps.toList.map fun c => .str ⟨#[c]⟩
def SqK (k : Kd) (K : PySem.W.Frag) (H : Hp) (v : V) (xs : List V) : Prop := match k with
  | .ls => ∃ a, v = .ref a ∧ SqL K H a xs
  | .tp => ∃ a, v = .ref a ∧ SqT K H a xs
  | .sr => ∃ x : Str, v = .str x ∧ xs = chV x
def DIk (k : Kd) (u : Value) (it : Addr) (i : Nat) (h : Heap) : Prop := match k with
  | .ls => ∃ a, u = .ref a ∧ a ≠ it ∧ h.IsListIter it a i
  | .tp => ∃ a, u = .ref a ∧ a ≠ it ∧ h.IsTupleIter it a i
  | .sr => ∃ x t, u = .str x t ∧ h.IsStrIter it (strIterType x) x t i
theorem DIk.at {k : Kd} {u : Value} {it : Addr} {i : Nat} {h h' : Heap} (d : DIk k u it i h) (e : ∀ o, h.get? it = some o → h'.get? it = some o) : DIk k u it i h' := by
  cases k with
  | ls => obtain ⟨a, e1, e2, e3⟩ := d; exact ⟨a, e1, e2, e3.at e⟩
  | tp => obtain ⟨a, e1, e2, e3⟩ := d; exact ⟨a, e1, e2, e3.at e⟩
  | sr => obtain ⟨x, t, e1, o, ho, r⟩ := d; exact ⟨x, t, e1, o, e _ ho, r⟩
theorem DIk.obj {k : Kd} {u : Value} {it : Addr} {i : Nat} {h : Heap} (d : DIk k u it i h) : ∃ o, h.get? it = some o ∧ ∀ v, o.data ≠ .cell v := by
  cases k with
  | ls => obtain ⟨a, e1, e2, o, ho, hc, hd⟩ := d; exact ⟨o, ho, fun v q => by rw [hd] at q; cases q⟩
  | tp => obtain ⟨a, e1, e2, o, ho, hc, hd⟩ := d; exact ⟨o, ho, fun v q => by rw [hd] at q; cases q⟩
  | sr => obtain ⟨x, t, e1, o, ho, hc, hd⟩ := d; exact ⟨o, ho, fun v q => by rw [hd] at q; cases q⟩
section
variable {X : Cx} {pins : List (Addr × Obj)} {s : Shared} {σ : L2.St} {H : Hp} {k : Kd} {v : V} {xs ys : List V} {u : Value}
theorem sqk_inj (I : Inv X pins σ H s) (h : SqK k X.K H v xs) (h' : SqK k X.K H v ys) : xs = ys := by
  cases k with
  | ls => obtain ⟨a, rfl, q⟩ := h; obtain ⟨b, e, q'⟩ := h'; cases e; exact I.list_inj q q'
  | tp => obtain ⟨a, rfl, q⟩ := h; obtain ⟨b, e, q'⟩ := h'; cases e; exact I.tuple_inj q q'
  | sr => obtain ⟨x, rfl, rfl⟩ := h; obtain ⟨y, e, rfl⟩ := h'; cases e; rfl
/-- the addresses that v stands for -/
def AtV (u : Value) (b : Addr) : Prop := u = .ref b
theorem draw_at {A : Around} {it : Addr} {i : Nat} (hh : A.handled = none) (I : Inv X pins σ H s) (h : SqK k X.K H v xs) (r : RelV v u) (d : DIk k u it i s.heap) :
    ∃ fp P Sx, Draws X.prog X.w A it fp xs.length P Sx ∧ Sx i s.heap ∧ (∀ (j : Nat) x, P j x → ∃ y, xs[j]? = some y ∧ RelV y x) ∧ (∀ j h', Sx j h' → DIk k u it j h') ∧ (∀ b ∈ fp, b = it ∨ AtV u b) ∧ it ∈ fp := by
  cases k with
  | ls =>
    obtain ⟨a, rfl, hq⟩ := h
    obtain rfl : u = .ref a := r
    obtain ⟨a', e, hne, hi⟩ := d
    cases e
    obtain ⟨its, rv, p, _⟩ := I.list hq
    have D := Draws.list (prog := X.prog) (w := X.w) hh it a hne its.toArray
    have e0 : its.toArray.size = xs.length := by rw [List.size_toArray, rv.length]
    rw [e0] at D
    refine ⟨_, _, _, D, ⟨hi, p.isList⟩, fun j x e => ?_, fun j h' q => ⟨a, rfl, hne, q.1⟩, fun b hb => ?_, by simp⟩
    · have e' : its[j]? = some x := by simpa using e
      have lt : j < xs.length := by rw [rv.length]; exact (List.getElem?_eq_some_iff.mp e').1
      obtain ⟨z, hz, rz⟩ := rv.get (List.getElem?_eq_getElem lt)
      rw [e'] at hz; cases hz
      exact ⟨_, List.getElem?_eq_getElem lt, rz⟩
    · rcases List.mem_cons.mp hb with z | z
      · exact .inl z
      · exact .inr (by rw [List.mem_singleton.mp z]; exact rfl)
  | tp =>
    obtain ⟨a, rfl, hq⟩ := h
    obtain rfl : u = .ref a := r
    obtain ⟨a', e, hne, hi⟩ := d
    cases e
    obtain ⟨its, rv, p, _⟩ := I.tuple hq
    have D := Draws.tuple (prog := X.prog) (w := X.w) hh it a hne its.toArray
    have e0 : its.toArray.size = xs.length := by rw [List.size_toArray, rv.length]
    rw [e0] at D
    refine ⟨_, _, _, D, ⟨hi, p⟩, fun j x e => ?_, fun j h' q => ⟨a, rfl, hne, q.1⟩, fun b hb => ?_, by simp⟩
    · have e' : its[j]? = some x := by simpa using e
      have lt : j < xs.length := by rw [rv.length]; exact (List.getElem?_eq_some_iff.mp e').1
      obtain ⟨z, hz, rz⟩ := rv.get (List.getElem?_eq_getElem lt)
      rw [e'] at hz; cases hz
      exact ⟨_, List.getElem?_eq_getElem lt, rz⟩
    · rcases List.mem_cons.mp hb with z | z
      · exact .inl z
      · exact .inr (by rw [List.mem_singleton.mp z]; exact rfl)
  | sr =>
    obtain ⟨x, rfl, rfl⟩ := h
    obtain ⟨t, rfl⟩ := r
    obtain ⟨x', t', e, hi⟩ := d
    cases e
    have D := Draws.text (prog := X.prog) (w := X.w) hh it x t
    have e0 : x.cps.size = (chV x).length := by unfold chV; rw [List.length_map, Array.length_toList]
    rw [e0] at D
    refine ⟨_, _, _, D, hi, fun j y ⟨c, z, e, ey⟩ => ⟨.str ⟨#[c]⟩, ?_, ⟨z, ey⟩⟩, fun j h' q => ⟨x, t, rfl, q⟩, fun b hb => .inl (List.mem_singleton.mp hb), by simp⟩
    unfold chV
    rw [List.getElem?_map, Array.getElem?_toList, e]
    rfl
theorem begin_at (I : Inv X pins σ H s) (h : SqK k X.K H v xs) (r : RelV v u) : ∃ o Hx, Begins u o Hx ∧ Hx s.heap ∧ (∀ b, AtV u b → b < s.heap.objs.size) ∧ ∀ it h', (∀ b, AtV u b → b ≠ it) → h'.get? it = some o → DIk k u it 0 h' := by
  cases k with
  | ls =>
    obtain ⟨a, rfl, hq⟩ := h
    obtain rfl : u = .ref a := r
    obtain ⟨its, rv, p, _⟩ := I.list hq
    exact ⟨_, _, begins_list a its.toArray, p.isList, fun b e => by cases e; exact p.lt, fun it h' hne e => ⟨a, rfl, hne a rfl, ⟨_, e, rfl, rfl⟩⟩⟩
  | tp =>
    obtain ⟨a, rfl, hq⟩ := h
    obtain rfl : u = .ref a := r
    obtain ⟨its, rv, p, _⟩ := I.tuple hq
    exact ⟨_, _, begins_tuple a its.toArray, p, fun b e => by cases e; exact p.lt, fun it h' hne e => ⟨a, rfl, hne a rfl, ⟨_, e, rfl, rfl⟩⟩⟩
  | sr =>
    obtain ⟨x, rfl, rfl⟩ := h
    obtain ⟨t, rfl⟩ := r
    exact ⟨_, _, begins_text x t, And.intro trivial (And.intro (fun b e => nomatch e) fun it h' hne e => ⟨x, t, rfl, ⟨_, e, rfl, rfl⟩⟩)⟩
end
/-! ### for i, x in enumerate(v) -/
def ItEk (k : Kd) (K : PySem.W.Frag) (v : V) : It :=
  ⟨fun i H => ∃ (xs : List V) (x : V), SqK k K H v xs ∧ xs[i]? = some x, fun i H z H' => ∃ T x, z = .ref T ∧ H T = none ∧ H' = upd H T (.tup [.int (i : Nat), x]) ∧ ∀ xs, SqK k K H v xs → xs[i]? = some x, fun i H => ∃ xs : List V, SqK k K H v xs ∧ i = xs.length⟩
theorem turn_enumK {P : Program} {w : World} {K : PySem.W.Frag} {elts : List Expr} {kk : Nat} {tpos : Pos} {k : Kd} {v : V} {u : Value} (e it : Addr) (r : RelV v u) (hue : ∀ b, AtV u b → b ≠ e) :
    Turn P w K (.Tuple elts kk tpos) (ItEk k K v) [e, it] e (fun i h => (∃ old, IsEnum h e it ((i : Nat) : Int) old) ∧ DIk k u it i h ∧ e ≠ it) where
  mem := by simp
  obj := fun i h st b hb => by
    obtain ⟨⟨old, he⟩, hd, _⟩ := st
    have e' : b = e ∨ b = it := by simpa using hb
    rcases e' with z | z
    · rw [z]; exact ⟨_, he, fun v q => nomatch q⟩
    · rw [z]; exact hd.obj
  keep := fun i h h' st q => let ⟨⟨old, he⟩, hi, hne⟩ := st; ⟨⟨old, q e (by simp) _ he⟩, hi.at fun o z => q it (by simp) o z, hne⟩
  item := by
    intro X hP hw hK hc i pins s σ H E I hf st hg
    subst hP hw hK
    obtain ⟨⟨old, he⟩, hit, hne⟩ := st
    obtain ⟨xs, x, hq, hx⟩ := hg
    obtain ⟨fp, P, Sx, D, hst, hrel, hback, hfp, _⟩ := draw_at (A := X.A.in1) (I.ok.hd hc) I hq r hit
    have hel : e < s.heap.objs.size := Heap.lt_size he
    have hil : it < s.heap.objs.size := let ⟨_, q, _⟩ := hit.obj; Heap.lt_size q
    have hef : e ∉ fp := fun z => by
      rcases hfp e z with z | z
      · exact hne z
      · exact hue e z rfl
    have lt : i < xs.length := (List.getElem?_eq_some_iff.mp hx).1
    refine PySem.wpAny_pyNext_enum_itemD D he hst lt hne hef fun z h' tk hz ho hst' hT hsz hk => ?_
    obtain ⟨y, hy, ry⟩ := hrel i z hz
    rw [hx] at hy; cases hy
    refine ⟨_, rfl, wpAny_letOwnedTupleGo_enum (s := { s with heap := h', toks := tk + 1 }) ho fun h'' he' sb => ?_⟩
    have hT2 : h''.get? s.heap.objs.size = some { cls := .type "tuple", data := .seq #[.int i tk, z] } := (sb.2 _ (Nat.ne_of_gt hel)).trans hT
    have new : ObjOk X.prog X.w (upd H s.heap.objs.size (.tup [.int (i : Nat), x])) h'' s.heap.objs.size (.tup [.int (i : Nat), x]) :=
      ⟨by show 2 ≤ sizeLine; decide, [.int i tk, z], .cons ⟨_, rfl⟩ (.cons ry .nil), ⟨_, hT2, rfl, _, rfl⟩⟩
    have I1 : Inv X pins σ (upd H s.heap.objs.size (.tup [.int (i : Nat), x])) { s with heap := h'', toks := tk + 1 } :=
      I.turnedNew (ch := [e, it]) (fun b o hb q => (sb.2 b (fun z => hb (by simp [z]))).trans (hk b o (fun z => hb (by simp [z])) (fun z => hb (by simp [z])) q)) hf (Nat.le_refl _) new
    refine ⟨.ref s.heap.objs.size, _, I1, rfl, ⟨_, x, rfl, I.hok.fresh (Nat.le_refl _), rfl, fun ys hy => by rw [sqk_inj I hy hq]; exact hx⟩, ⟨⟨z, ?_⟩, (hback _ _ hst').at fun o q => (sb.2 it (Ne.symm hne)).trans q, hne⟩, fun b hb => ?_⟩
    · have e1 : ((i + 1 : Nat) : Int) = (i : Int) + 1 := by omega
      rw [e1]; exact he'
    · have hb' : b < s.heap.objs.size := by
        have e' : b = e ∨ b = it := by simpa using hb
        rcases e' with z | z
        · rw [z]; exact hel
        · rw [z]; exact hil
      rw [upd_ne (Nat.ne_of_lt hb')]
      exact (hf b hb).1
  done := by
    intro X hP hw hK hc i pins s σ H E I hf st hg
    subst hP hw hK
    obtain ⟨⟨old, he⟩, hit, hne⟩ := st
    obtain ⟨xs, hq, rfl⟩ := hg
    obtain ⟨f0, f1, f2, f3, f4, f5⟩ := hf it (by simp)
    obtain ⟨fp, P, Sx, D, hst, hrel, hback, hfp, _⟩ := draw_at (A := X.A.in1) (I.ok.hd hc) I hq r hit
    exact PySem.wpAny_pyNext_enum_endD D he hst fun h' eb => ⟨rfl, I.turned (t' := s.toks) (fun b o hb q => eb b o hb q) f0 f1 f3 f4 f5⟩
  self := fun A i s Q E st h => let ⟨⟨_, he⟩, _⟩ := st; wpAny_pyIter_enum he h
def iEnumK (K : PySem.W.Frag) (te : TE) : TI := fun σ H R => te σ H fun v H1 => ∃ k xs, SqK k K H1 v xs ∧ R (ItEk k K v) H1
section
variable {X : Cx}
theorem pi_enumK {e : Expr} {te : TE} {p pos tpos : Pos} {elts : List Expr} {kk : Nat} (hg : Gl X "enumerate") (hm : X.mg "enumerate" = none) (he : PE X e te) (na : starEach [e] X.env = (false, eval e X.env) :: starEach [] X.env := by rfl) :
    PI X (.Tuple elts kk tpos) (.Call (.Name "enumerate" p) [e] [] pos) (iEnumK X.K te) := by
  refine ⟨fun pins s σ H R I h => ?_⟩
  refine Call_ (ld_blt I hg hm boot_enumerate (PyProof.Rows.callWith_type1 (args_cons (thn (he.run pins s σ H _ I h) fun u s1 ⟨v, H1, I1, r, k, xs, hq, q⟩ => args_nil ?_) na) na))
  obtain ⟨o, Hx, B, hx, hlt, hd⟩ := begin_at I1 hq r
  refine enum1_begins B hx fun h' he hit hsz hk => wpAny_pyIter_enum he ?_
  have I2 : Inv X pins σ H1 { s1 with heap := h' } := I1.kept (t' := s1.toks) hk
  refine ⟨s1.heap.objs.size + 1, [s1.heap.objs.size + 1, s1.heap.objs.size], _, _, H1, rfl, I2, turn_enumK (s1.heap.objs.size + 1) s1.heap.objs.size r fun b hb => Nat.ne_of_lt (Nat.lt_succ_of_lt (hlt b hb)), ⟨⟨.none, he⟩, hd _ _ (fun b hb => Nat.ne_of_lt (hlt b hb)) hit, Nat.succ_ne_self _⟩, fun b hb => ?_, q⟩
  have e' : b = s1.heap.objs.size + 1 ∨ b = s1.heap.objs.size := by simpa using hb
  have hle : s1.heap.objs.size ≤ b := by
    rcases e' with z | z
    · rw [z]; exact Nat.le_add_right _ _
    · rw [z]; exact Nat.le_refl _
  exact I1.fpOk hle (I1.hok.fresh hle)
end
end LW

namespace LW
open PySem PySem.Spec PyProof.Rows L2
open PySem (Draws Begins IsZip IsTupOf2 ZipSep2)
/-! ### for x, y in zip(v, w) -/
def ItZk (k1 k2 : Kd) (K : PySem.W.Frag) (v1 v2 : V) : It :=
  ⟨fun i H => ∃ (xs ys : List V) (x y : V), SqK k1 K H v1 xs ∧ SqK k2 K H v2 ys ∧ xs[i]? = some x ∧ ys[i]? = some y,
    fun i H z H' => ∃ T x y, z = .ref T ∧ H T = none ∧ H' = upd H T (.tup [x, y]) ∧ (∀ xs, SqK k1 K H v1 xs → xs[i]? = some x) ∧ ∀ ys, SqK k2 K H v2 ys → ys[i]? = some y,
    fun i H => ∃ xs ys : List V, SqK k1 K H v1 xs ∧ SqK k2 K H v2 ys ∧ i ≤ xs.length ∧ i ≤ ys.length ∧ (i = xs.length ∨ i = ys.length)⟩
/-- the cells of a zip, apart from one another and from what is zipped -/
structure ZApart (z TI TO i1 i2 : Addr) (u1 u2 : Value) : Prop where
  TIz : TI ≠ z
  TOz : TO ≠ z
  TITO : TI ≠ TO
  TIi1 : TI ≠ i1
  TIi2 : TI ≠ i2
  TOi1 : TO ≠ i1
  TOi2 : TO ≠ i2
  zi1 : z ≠ i1
  zi2 : z ≠ i2
  i12 : i1 ≠ i2
  a1 : ∀ b, AtV u1 b → b ≠ z ∧ b ≠ TO ∧ b ≠ i1 ∧ b ≠ i2
  a2 : ∀ b, AtV u2 b → b ≠ z ∧ b ≠ TO ∧ b ≠ i1 ∧ b ≠ i2
theorem ZApart.sep {z TI TO i1 i2 : Addr} {u1 u2 : Value} {fp1 fp2 : List Addr} (S : ZApart z TI TO i1 i2 u1 u2) (h1 : ∀ b ∈ fp1, b = i1 ∨ AtV u1 b) (m1 : i1 ∈ fp1) (h2 : ∀ b ∈ fp2, b = i2 ∨ AtV u2 b) (m2 : i2 ∈ fp2) : ZipSep2 z TI TO i1 i2 fp1 fp2 where
  TIz := S.TIz
  TOz := S.TOz
  TITO := S.TITO
  TIi1 := S.TIi1
  mem1 := m1
  zf1 := fun q => by
    rcases h1 _ q with e | e
    · exact S.zi1 e
    · exact (S.a1 _ e).1 rfl
  Tf1 := fun q => by
    rcases h1 _ q with e | e
    · exact S.TOi1 e
    · exact (S.a1 _ e).2.1 rfl
  TIi2 := S.TIi2
  mem2 := m2
  zf2 := fun q => by
    rcases h2 _ q with e | e
    · exact S.zi2 e
    · exact (S.a2 _ e).1 rfl
  Tf2 := fun q => by
    rcases h2 _ q with e | e
    · exact S.TOi2 e
    · exact (S.a2 _ e).2.1 rfl
  sep1_2 := fun q => by
    rcases h2 _ q with e | e
    · exact S.i12 e
    · exact (S.a2 _ e).2.2.1 rfl
  sep2_1 := fun q => by
    rcases h1 _ q with e | e
    · exact S.i12 e.symm
    · exact (S.a1 _ e).2.2.2 rfl
theorem turn_zipK {P : Program} {w : World} {K : PySem.W.Frag} {elts : List Expr} {kk : Nat} {tpos : Pos} {k1 k2 : Kd} {v1 v2 : V} {u1 u2 : Value} {z TI TO i1 i2 : Addr} (r1 : RelV v1 u1) (r2 : RelV v2 u2) (S : ZApart z TI TO i1 i2 u1 u2) :
    Turn P w K (.Tuple elts kk tpos) (ItZk k1 k2 K v1 v2) [z, TI, TO, i1, i2] z (fun i h => IsZip h z TI TO .none ∧ IsTupOf2 h TI (.ref i1) (.ref i2) ∧ (∃ x y, IsTupOf2 h TO x y) ∧ DIk k1 u1 i1 i h ∧ DIk k2 u2 i2 i h) where
  mem := by simp
  obj := fun i h st c hc => by
    obtain ⟨hz, hTI, ⟨x, y, hTO⟩, d1, d2⟩ := st
    have e' : c = z ∨ c = TI ∨ c = TO ∨ c = i1 ∨ c = i2 := by simpa using hc
    rcases e' with q | q | q | q | q
    · rw [q]; exact ⟨_, hz, fun v q => nomatch q⟩
    · rw [q]; exact ⟨_, hTI, fun v q => nomatch q⟩
    · rw [q]; exact ⟨_, hTO, fun v q => nomatch q⟩
    · rw [q]; exact d1.obj
    · rw [q]; exact d2.obj
  keep := fun i h h' st k => by
    obtain ⟨hz, hTI, ⟨x, y, hTO⟩, d1, d2⟩ := st
    exact ⟨k z (by simp) _ hz, k TI (by simp) _ hTI, ⟨x, y, k TO (by simp) _ hTO⟩, d1.at fun o e => k i1 (by simp) o e, d2.at fun o e => k i2 (by simp) o e⟩
  item := by
    intro X hP hw hK hc i pins s σ H E I hf st hg
    subst hP hw hK
    obtain ⟨hz, hTI, ⟨x0, y0, hTO⟩, d1, d2⟩ := st
    obtain ⟨xs, ys, x, y, hqx, hqy, hx, hy⟩ := hg
    obtain ⟨fp1, P1, S1, D1, st1, rel1, back1, hfp1, m1⟩ := draw_at (A := X.A.in1) (I.ok.hd hc) I hqx r1 d1
    obtain ⟨fp2, P2, S2, D2, st2, rel2, back2, hfp2, m2⟩ := draw_at (A := X.A.in1) (I.ok.hd hc) I hqy r2 d2
    have Z := S.sep hfp1 m1 hfp2 m2
    have lt1 : i < xs.length := (List.getElem?_eq_some_iff.mp hx).1
    have lt2 : i < ys.length := (List.getElem?_eq_some_iff.mp hy).1
    have hzl : z < s.heap.objs.size := Heap.lt_size hz
    refine PySem.wpAny_pyNext_zipD2_item Z D1 D2 hz hTI hTO st1 st2 lt1 lt2 fun a b h' tk pa pb z' TO' s1' s2' hT hsz hk => ?_
    obtain ⟨ya, hya, ra⟩ := rel1 i a pa
    rw [hx] at hya; cases hya
    obtain ⟨yb, hyb, rb⟩ := rel2 i b pb
    rw [hy] at hyb; cases hyb
    refine ⟨_, rfl, wpAny_letOwnedTupleGo_zip (s := { s with heap := h', toks := tk }) z' fun h'' z'' sb => ?_⟩
    have hT2 : h''.get? s.heap.objs.size = some { cls := .type "tuple", data := .seq #[a, b] } := (sb.2 _ (Nat.ne_of_gt hzl)).trans hT
    have new : ObjOk X.prog X.w (upd H s.heap.objs.size (.tup [x, y])) h'' s.heap.objs.size (.tup [x, y]) :=
      ⟨by show 2 ≤ sizeLine; decide, [a, b], .cons ra (.cons rb .nil), ⟨_, hT2, rfl, _, rfl⟩⟩
    have I1 : Inv X pins σ (upd H s.heap.objs.size (.tup [x, y])) { s with heap := h'', toks := tk } :=
      I.turnedNew (ch := [z, TI, TO, i1, i2]) (fun c o hb q => (sb.2 c (fun q' => hb (by simp [q']))).trans (hk c o (fun q' => hb (by simp [q'])) (fun q' => hb (by simp [q'])) (fun q' => hb (by simp [q'])) (fun q' => hb (by simp [q'])) q)) hf (Nat.le_refl _) new
    refine ⟨.ref s.heap.objs.size, _, I1, rfl, ⟨_, x, y, rfl, I.hok.fresh (Nat.le_refl _), rfl, fun l hl => by rw [sqk_inj I hl hqx]; exact hx, fun l hl => by rw [sqk_inj I hl hqy]; exact hy⟩, ⟨z'', ?_, ⟨a, b, ?_⟩, ?_, ?_⟩, fun c hcm => ?_⟩
    · exact (sb.2 _ S.TIz).trans (hk _ _ S.TIz S.TITO S.TIi1 S.TIi2 hTI)
    · exact (sb.2 _ S.TOz).trans TO'
    · exact (back1 _ _ s1').at fun o q => (sb.2 _ (Ne.symm S.zi1)).trans q
    · exact (back2 _ _ s2').at fun o q => (sb.2 _ (Ne.symm S.zi2)).trans q
    · have hlt : c < s.heap.objs.size := by
        have e' : c = z ∨ c = TI ∨ c = TO ∨ c = i1 ∨ c = i2 := by simpa using hcm
        rcases e' with q | q | q | q | q
        · rw [q]; exact hzl
        · rw [q]; exact Heap.lt_size hTI
        · rw [q]; exact Heap.lt_size hTO
        · rw [q]; obtain ⟨_, e1, _⟩ := d1.obj; exact Heap.lt_size e1
        · rw [q]; obtain ⟨_, e2, _⟩ := d2.obj; exact Heap.lt_size e2
      rw [upd_ne (Nat.ne_of_lt hlt)]
      exact (hf c hcm).1
  done := by
    intro X hP hw hK hc i pins s σ H E I hf st hg
    subst hP hw hK
    obtain ⟨hz, hTI, ⟨x0, y0, hTO⟩, d1, d2⟩ := st
    obtain ⟨xs, ys, hqx, hqy, le1, le2, hend⟩ := hg
    obtain ⟨fp1, P1, S1, D1, st1, rel1, back1, hfp1, m1⟩ := draw_at (A := X.A.in1) (I.ok.hd hc) I hqx r1 d1
    obtain ⟨fp2, P2, S2, D2, st2, rel2, back2, hfp2, m2⟩ := draw_at (A := X.A.in1) (I.ok.hd hc) I hqy r2 d2
    exact PySem.wpAny_pyNext_zipD2_end (S.sep hfp1 m1 hfp2 m2) D1 D2 hz hTI hTO st1 st2 le1 le2 hend fun h' tk hk => ⟨rfl, I.turnedL (t' := tk) (ch := [z, TI, TO, i1, i2]) (fun c o hb q =>
      hk c o (fun q' => hb (by simp [q'])) (fun q' => hb (by simp [q'])) (fun q' => hb (by simp [q'])) (fun q' => hb (by simp [q'])) q) hf⟩
  self := fun A i s Q E st h => wpAny_pyIter_zip st.1 h
theorem zapart_new {N : Nat} {u1 u2 : Value} (h1 : ∀ b, AtV u1 b → b < N) (h2 : ∀ b, AtV u2 b → b < N) : ZApart (N + 4) (N + 2) (N + 3) N (N + 1) u1 u2 := by
  have ne : ∀ {i j : Nat}, i ≠ j → N + i ≠ N + j := fun h e => h (Nat.add_left_cancel e)
  have ne0 : ∀ {i : Nat}, 0 < i → N + i ≠ N := fun h e => Nat.ne_of_gt (Nat.lt_add_of_pos_right h) e
  have lt : ∀ {b i : Nat}, b < N → b ≠ N + i := fun h => Nat.ne_of_lt (Nat.lt_add_right _ h)
  exact {
    TIz := ne (by decide)
    TOz := ne (by decide)
    TITO := ne (by decide)
    TIi1 := ne0 (by decide)
    TIi2 := ne (by decide)
    TOi1 := ne0 (by decide)
    TOi2 := ne (by decide)
    zi1 := ne0 (by decide)
    zi2 := ne (by decide)
    i12 := Ne.symm (ne0 (by decide))
    a1 := fun b hb => ⟨lt (h1 b hb), lt (h1 b hb), Nat.ne_of_lt (h1 b hb), lt (h1 b hb)⟩
    a2 := fun b hb => ⟨lt (h2 b hb), lt (h2 b hb), Nat.ne_of_lt (h2 b hb), lt (h2 b hb)⟩ }
def iZipK (K : PySem.W.Frag) (te tf : TE) : TI := fun σ H R => te σ H fun v1 H1 => tf σ H1 fun v2 H2 => ∃ k1 k2 xs ys, SqK k1 K H2 v1 xs ∧ SqK k2 K H2 v2 ys ∧ R (ItZk k1 k2 K v1 v2) H2
section
variable {X : Cx}
theorem pi_zipK {e f : Expr} {te tf : TE} {p pos tpos : Pos} {elts : List Expr} {kk : Nat} (hg : Gl X "zip") (hm : X.mg "zip" = none) (he : PE X e te) (hf : PE X f tf) (na : starEach [e, f] X.env = (false, eval e X.env) :: starEach [f] X.env := by rfl) (nb : starEach [f] X.env = (false, eval f X.env) :: starEach [] X.env := by rfl)
    (hp : (backTo pos (starEach [f] X.env)).any (·.1) = false := by rfl) : PI X (.Tuple elts kk tpos) (.Call (.Name "zip" p) [e, f] [] pos) (iZipK X.K te tf) := by
  refine ⟨fun pins s σ H R I h => ?_⟩
  refine Call_ (ld_blt I hg hm PyProof.Rows.boot_zip (PyProof.Rows.callWith_type1 (args_cons (thn (he.run pins s σ H _ I h) fun u1 s0 ⟨v1, H0, I0, r1, q0⟩ => one_arg hf I0 q0 (fun u2 s1 v2 H1 I1 r2 q => ?_) nb) na) na hp))
  obtain ⟨k1, k2, xs, ys, hqx, hqy, q⟩ := q
  obtain ⟨o1, Hx1, B1, hx1, hlt1, hd1⟩ := begin_at I1 hqx r1
  obtain ⟨o2, Hx2, B2, hx2, hlt2, hd2⟩ := begin_at I1 hqy r2
  refine PySem.zip_begins2 B1 B2 hx1 hx2 fun h' hz hTI hTO h1 h2 hsz hk => wpAny_pyIter_zip hz ?_
  have I2 : Inv X pins σ H1 { s1 with heap := h' } := I1.kept (t' := s1.toks) hk
  have A := zapart_new hlt1 hlt2
  refine ⟨s1.heap.objs.size + 4, [s1.heap.objs.size + 4, s1.heap.objs.size + 2, s1.heap.objs.size + 3, s1.heap.objs.size, s1.heap.objs.size + 1], _, _, H1, rfl, I2, turn_zipK r1 r2 A, ⟨hz, hTI, ⟨_, _, hTO⟩, hd1 _ _ (fun b hb => (A.a1 b hb).2.2.1) h1, hd2 _ _ (fun b hb => (A.a2 b hb).2.2.2) h2⟩, fun c hcm => ?_, q⟩
  have e' : c = s1.heap.objs.size + 4 ∨ c = s1.heap.objs.size + 2 ∨ c = s1.heap.objs.size + 3 ∨ c = s1.heap.objs.size ∨ c = s1.heap.objs.size + 1 := by simpa using hcm
  have hle : s1.heap.objs.size ≤ c := by
    rcases e' with z | z | z | z | z
    · rw [z]; exact Nat.le_add_right _ _
    · rw [z]; exact Nat.le_add_right _ _
    · rw [z]; exact Nat.le_add_right _ _
    · rw [z]; exact Nat.le_refl _
    · rw [z]; exact Nat.le_add_right _ _
  exact I1.fpOk hle (I1.hok.fresh hle)
end
end LW

namespace LW
open PySem PySem.Spec PyProof.Rows L2
/-! ### enumerate, zip: as data -/
def chD (x : Str) : List PyData := x.cps.toList.map fun c => .str ⟨#[c]⟩
def seqA : PyData → Option (List PyData)
  | .list ds => some ds
  | .tuple ds => some ds
  | .str x => some (chD x)
  | _ => none
def enumD : Nat → List PyData → List PyData
  | _, [] => []
  | i, d :: r => .tuple [.int (.ofNat i), d] :: enumD (i + 1) r
def zipD : List PyData → List PyData → List PyData
  | d :: r, e :: s => .tuple [d, e] :: zipD r s
  | _, _ => []
theorem enumD_len : ∀ (i : Nat) (ds : List PyData), (enumD i ds).length = ds.length
  | _, [] => rfl
  | i, d :: r => by simp [enumD, enumD_len (i + 1) r]
theorem enumD_at : ∀ (i : Nat) (ds : List PyData) (j : Nat) (d : PyData), ds[j]? = some d → (enumD i ds)[j]? = some (.tuple [.int (.ofNat (i + j)), d])
  | i, [], j, d, h => by simp at h
  | i, e :: r, 0, d, h => by simp at h; subst h; simp [enumD]
  | i, e :: r, j + 1, d, h => by
    have := enumD_at (i + 1) r j d (by simpa using h)
    simp only [enumD, List.getElem?_cons_succ, this]
    rw [show i + 1 + j = i + (j + 1) by omega]
theorem zipD_len : ∀ (ds es : List PyData), (zipD ds es).length = min ds.length es.length
  | [], es => by simp [zipD]
  | d :: r, [] => by simp [zipD]
  | d :: r, e :: s => by simp [zipD, zipD_len r s, Nat.succ_min_succ]
theorem zipD_at : ∀ (ds es : List PyData) (j : Nat) (d e : PyData), ds[j]? = some d → es[j]? = some e → (zipD ds es)[j]? = some (.tuple [d, e])
  | [], es, j, d, e, h, _ => by simp at h
  | d0 :: r, [], j, d, e, _, h => by simp at h
  | d0 :: r, e0 :: s, 0, d, e, h, h' => by simp at h h'; subst h h'; simp [zipD]
  | d0 :: r, e0 :: s, j + 1, d, e, h, h' => by simpa [zipD] using zipD_at r s j d e (by simpa using h) (by simpa using h')
section
variable {K : PySem.W.Frag} {mu : Mu} {G0 H0 G H G' H' H1 : Hp} {env env' : LEnv} {σ σ' : L2.St} {C : Cl} {E : XK} {X : Cx}
theorem rpa_chD (x : Str) : RpA K G (chV x) (chD x) := by
  unfold chV chD
  generalize x.cps.toList = l
  induction l with
  | nil => exact .nil
  | cons c l ih => exact .cons (.str _) ih
theorem seqA_of {v : V} {d : PyData} {ds : List PyData} (r : Rp K G v d) (h : seqA d = some ds) : ∃ k xs, RpA K G xs ds ∧ ∀ H, Same G H → SqK k K H v xs := by
  cases r with
  | lst a b => cases h; exact ⟨.ls, _, b, fun H s => ⟨_, rfl, SqL.of (s _ _ a)⟩⟩
  | tup a b => cases h; exact ⟨.tp, _, b, fun H s => ⟨_, rfl, sqt_same s a⟩⟩
  | str x => cases h; exact ⟨.sr, _, rpa_chD x, fun H s => ⟨x, rfl, rfl⟩⟩
  | _ => cases h
def miEnum (f : M) : MA := fun env => (f env).bind fun p => match seqA p.2 with
  | some ds => .ok (p.1, enumD 0 ds)
  | none => .stuck
theorem sndip_enum {te : TE} {f : M} (h : Snd K C E te f) : SndIP K C E (iEnumK K te) (miEnum f) := by
  intro mu G0 H0 env σ G H R S hh
  refine h _ _ _ _ _ _ _ _ S (Post.bind (Rl1 := RlE K) hh fun p x G1 H1 S1 s1 r1 h1 => ?_)
  cases er : seqA p.2 with
  | none => rw [er] at h1; exact h1.elim
  | some ds =>
    rw [er] at h1
    obtain ⟨k, xs, ra, sq⟩ := seqA_of r1 er
    have hl : xs.length = ds.length := ra.length
    refine ⟨k, xs, sq _ S1.sub, h1 _ G1 H1 S1 (.refl _) ⟨fun i H s lt => ?_, fun i H s e => ⟨xs, sq _ s, ?_⟩, fun i H x' H' s y lt => ?_⟩⟩
    · have lt : i < (enumD 0 ds).length := lt
      rw [enumD_len, ← hl] at lt
      exact ⟨xs, xs[i], sq _ s, List.getElem?_eq_getElem lt⟩
    · have e : i = (enumD 0 ds).length := e
      rw [e, enumD_len, hl]
    · obtain ⟨T, z, e1, e2, e3, e4⟩ := y
      obtain ⟨d, hd, rd⟩ := ra.getV (e4 xs (sq _ s))
      refine ⟨T, [.int (i : Nat), z], [.int (.ofNat i), d], e1, e2, e3, ?_, .cons (.int _) (.cons rd .nil)⟩
      have := enumD_at 0 ds i d hd
      rw [Nat.zero_add] at this
      exact this
theorem ip_enum {e : Expr} {te : TE} {f : M} {p pos tpos : Pos} {elts : List Expr} {kk : Nat} (hg : Gl X "enumerate") (hm : X.mg "enumerate" = none) (he : ED X C E e te f) (na : starEach [e] X.env = (false, eval e X.env) :: starEach [] X.env := by rfl) :
    IP X C E (.Tuple elts kk tpos) (.Call (.Name "enumerate" p) [e] [] pos) (iEnumK X.K te) (miEnum f) := ⟨pi_enumK hg hm he.pe na, sndip_enum he.sd⟩
def miZip (f g : M) : MA := fun env => (f env).bind fun p => (g p.1).bind fun q => match seqA p.2 with
  | some ds => (match seqA q.2 with
    | some es => .ok (q.1, zipD ds es)
    | none => .stuck)
  | none => .stuck
theorem sndip_zip {te tf : TE} {f g : M} (hf : Snd K C E te f) (hg : Snd K C E tf g) : SndIP K C E (iZipK K te tf) (miZip f g) := by
  intro mu G0 H0 env σ G H R S hh
  refine hf _ _ _ _ _ _ _ _ S (Post.bind (Rl1 := RlE K) hh fun p x G1 H1 S1 s1 r1 h1 => hg _ _ _ _ _ _ _ _ S1 (Post.bind (Rl1 := RlE K) h1 fun q y G2 H2 S2 s2 r2 h2 => ?_))
  cases er : seqA p.2 with
  | none => rw [er] at h2; exact h2.elim
  | some ds =>
    rw [er] at h2
    cases eq : seqA q.2 with
    | none => rw [eq] at h2; exact h2.elim
    | some es =>
      rw [eq] at h2
      obtain ⟨k1, xs, ra, sq⟩ := seqA_of (Rp.mono s2 _ _ r1) er
      obtain ⟨k2, ys, rb, sq'⟩ := seqA_of r2 eq
      have hl : xs.length = ds.length := ra.length
      have hl' : ys.length = es.length := rb.length
      refine ⟨k1, k2, xs, ys, sq _ S2.sub, sq' _ S2.sub, h2 _ G2 H2 S2 (.refl _) ⟨fun i H s lt => ?_, fun i H s e => ?_, fun i H x' H' s y lt => ?_⟩⟩
      · have lt : i < (zipD ds es).length := lt
        rw [zipD_len] at lt
        exact ⟨xs, ys, xs[i]'(by omega), ys[i]'(by omega), sq _ s, sq' _ s, List.getElem?_eq_getElem _, List.getElem?_eq_getElem _⟩
      · have e : i = (zipD ds es).length := e
        rw [zipD_len] at e
        exact ⟨xs, ys, sq _ s, sq' _ s, by omega, by omega, by omega⟩
      · obtain ⟨T, z, z', e1, e2, e3, e4, e5⟩ := y
        obtain ⟨d, hd, rd⟩ := ra.getV (e4 xs (sq _ s))
        obtain ⟨d', hd', rd'⟩ := rb.getV (e5 ys (sq' _ s))
        exact ⟨T, [z, z'], [d, d'], e1, e2, e3, zipD_at _ _ _ _ _ hd hd', .cons rd (.cons rd' .nil)⟩
theorem ip_zip {e e2 : Expr} {te tf : TE} {f g : M} {p pos tpos : Pos} {elts : List Expr} {kk : Nat} (hg : Gl X "zip") (hm : X.mg "zip" = none) (he : ED X C E e te f) (he2 : ED X C E e2 tf g)
    (na : starEach [e, e2] X.env = (false, eval e X.env) :: starEach [e2] X.env := by rfl) (nb : starEach [e2] X.env = (false, eval e2 X.env) :: starEach [] X.env := by rfl) (hp : (backTo pos (starEach [e2] X.env)).any (·.1) = false := by rfl) :
    IP X C E (.Tuple elts kk tpos) (.Call (.Name "zip" p) [e, e2] [] pos) (iZipK X.K te tf) (miZip f g) := ⟨pi_zipK hg hm he.pe he2.pe na nb hp, sndip_zip he.sd he2.sd⟩
/-! ### d == {} -/
def rEqE (neg : Bool) : R2 := fun x y H Q => ∃ a b o ks, x = .ref a ∧ y = .ref b ∧ H a = some (.frz o (.dK ks)) ∧ H b = some (.dK []) ∧ Q (.bl (ks.isEmpty != neg)) H
end
section
variable {X : Cx}
theorem op_eqE (hu : X.A.units < cLine) : OpR X (compareOp .Eq) (rEqE false) := by
  intro pins s σ H x y v u Q I rx ry h
  obtain ⟨a, b, o, ks, rfl, rfl, ea, eb, q⟩ := h
  obtain rfl : v = Value.ref a := rx
  obtain rfl : u = Value.ref b := ry
  obtain ⟨ya, _, _, _, _, va, _, _, ra, da⟩ := I.frzK ea
  obtain ⟨_, yb, vb, rb, db⟩ := (show ObjOk X.prog X.w H s.heap b (.dK []) from I.hok b _ eb)
  have hla : ks.length = va.length := Paired.length ra
  have hlb : vb = [] := by cases rb; rfl
  subst hlb
  refine PySem.W.keq_eq (knd := mixKind X.prog X.w) (r := true) ya yb da.dictOf db hu (fun e => ?_) (fin_bl I q ?_)
  · have : va = [] := List.eq_nil_of_length_eq_zero (by simpa using e)
    subst this
    exact .nil
  · cases ks with
    | nil => have : va = [] := List.eq_nil_of_length_eq_zero (by simpa using hla.symm); subst this; rfl
    | cons k ks =>
      cases va with
      | nil => simp at hla
      | cons z va => rfl
theorem op_neE (hu : X.A.units < cLine) : OpR X (compareOp .NotEq) (rEqE true) := by
  intro pins s σ H x y v u Q I rx ry h
  obtain ⟨a, b, o, ks, rfl, rfl, ea, eb, q⟩ := h
  obtain rfl : v = Value.ref a := rx
  obtain rfl : u = Value.ref b := ry
  obtain ⟨ya, _, _, _, _, va, _, _, ra, da⟩ := I.frzK ea
  obtain ⟨_, yb, vb, rb, db⟩ := (show ObjOk X.prog X.w H s.heap b (.dK []) from I.hok b _ eb)
  have hla : ks.length = va.length := Paired.length ra
  have hlb : vb = [] := by cases rb; rfl
  subst hlb
  refine PySem.W.keq_ne (knd := mixKind X.prog X.w) (r := true) ya yb da.dictOf db hu (fun e => ?_) (fin_bl I q ?_)
  · have : va = [] := List.eq_nil_of_length_eq_zero (by simpa using e)
    subst this
    exact .nil
  · cases ks with
    | nil => have : va = [] := List.eq_nil_of_length_eq_zero (by simpa using hla.symm); subst this; rfl
    | cons k ks =>
      cases va with
      | nil => simp at hla
      | cons z va => rfl
end
section
variable {K : PySem.W.Frag} {mu : Mu} {G0 H0 G H G' H' H1 : Hp} {env env' : LEnv} {σ σ' : L2.St} {C : Cl} {E : XK} {X : Cx}
def emptyB : List (PyData × PyData) → Bool
  | [] => true
  | _ => false
def mEqE (neg : Bool) (f : M) : M := fun env => (f env).bind fun p => match rowsD p.2 with
  | some es => .ok (p.1, .bool (bif neg then !emptyB es else emptyB es))
  | none => .stuck
theorem snd_eqE {neg : Bool} {te : TE} {f : M} (h : Snd K C E te f) : Snd K C E (tOp (rEqE neg) te tDNewK) (mEqE neg f) := by
  intro mu G0 H0 env σ G H Q S hh
  refine h _ _ _ _ _ _ _ _ S (Post.bind (Rl1 := RlE K) hh fun p x G1 H1 S1 s1 r1 h1 => ?_)
  cases er : rowsD p.2 with
  | none => rw [er] at h1; exact h1.elim
  | some es =>
    rw [er] at h1
    obtain ⟨a, o, kvs, rfl, _, g, b⟩ := rowsD_of r1 er
    intro q hq
    have x := Xt.hid (o := .dK []) S1.sub S1.fz.tb hq
    refine ⟨a, q, o, kvs, rfl, rfl, x.s _ _ g, upd_same, ?_⟩
    have e : (kvs.isEmpty != neg) = (bif neg then !emptyB es else emptyB es) := by
      cases b with
      | nil => cases neg <;> rfl
      | cons _ _ => cases neg <;> rfl
    rw [e]
    exact post_here (S1.ext x) h1 (.bl _)
theorem d_eqE {e : Expr} {te : TE} {f : M} {p pos : Pos} (hu : X.A.units + 64 < cLine) (he : ED X C E e te f) : ED X C E (.Compare e [.Eq] [.Dict [] [] p] pos) (tOp (rEqE false) te tDNewK) (mEqE false f) := ⟨pe_cmpR (op_eqE (by omega)) he.pe pe_dnewK (nomark _), snd_eqE he.sd⟩
theorem d_neE {e : Expr} {te : TE} {f : M} {p pos : Pos} (hu : X.A.units + 64 < cLine) (he : ED X C E e te f) : ED X C E (.Compare e [.NotEq] [.Dict [] [] p] pos) (tOp (rEqE true) te tDNewK) (mEqE true f) := ⟨pe_cmpR (op_neE (by omega)) he.pe pe_dnewK (nomark _), snd_eqE he.sd⟩
theorem t_eqE {e : Expr} {te : TE} {f : M} {p pos : Pos} (hu : X.A.units + 64 < cLine) (he : ED X C E e te f) : TD X C E (.Compare e [.Eq] [.Dict [] [] p] pos) (tTest (tOp (rEqE false) te tDNewK)) (mtB (mEqE false f)) := ⟨pt_cmpR (op_eqE (by omega)) he.pe pe_dnewK (nomark _), sndt_test (snd_eqE he.sd)⟩
theorem t_neE {e : Expr} {te : TE} {f : M} {p pos : Pos} (hu : X.A.units + 64 < cLine) (he : ED X C E e te f) : TD X C E (.Compare e [.NotEq] [.Dict [] [] p] pos) (tTest (tOp (rEqE true) te tDNewK)) (mtB (mEqE true f)) := ⟨pt_cmpR (op_neE (by omega)) he.pe pe_dnewK (nomark _), sndt_test (snd_eqE he.sd)⟩
end
end LW

namespace LW
open PySem PySem.Spec PyProof.Rows L2
open PySem (Draws Begins IsEnum IsEnumHeld PairArg PairSrc PairAt)
section
variable {prog : Program} {w : World} {A : Around} {E : Value → Shared → Prop} {s : Shared}
theorem enum_item_heldD {e it T : Addr} {fp : List Addr} {n i : Nat} {P : Nat → Value → Prop} {Sx : Nat → Heap → Prop} {old : Value} {f : Bool} {oT : Obj} {Q : Value → Shared → Prop} (D : Draws prog w A it fp n P Sx)
    (he : IsEnumHeld s.heap e it i old T f) (hT : s.heap.get? T = some oT) (hTe : T ≠ e) (hTi : T ≠ it) (hst : Sx i s.heap) (hlt : i < n) (hne : e ≠ it) (hef : e ∉ fp)
    (hQ : ∀ x h' tk, P i x → IsEnumHeld h' e it ((i : Int) + 1) old T true → Sx (i + 1) h' →
      h'.get? s.heap.objs.size = some { cls := .type "tuple", data := .seq #[.int i tk, x] } → h'.objs.size = s.heap.objs.size + 1 →
      (∀ b o, b ≠ e → b ≠ it → s.heap.get? b = some o → h'.get? b = some o) → Q (.ref s.heap.objs.size) { s with heap := h', toks := tk + 1 }) :
    wpAny (model prog w) A (Builtin.«enumerate.__next__» ⟨[.ref e], []⟩) (fun fin s' => ∃ v, fin = .done (.ret v) ∧ Q v s') E s := by
  obtain ⟨hp, g, d, tk₀, os⟩ := s
  show wpAny _ _ (field (.ref e) 2 >>= _) _ _ _
  refine wpAny_bind (wpAny_field he rfl (x := .ref it) rfl ?_)
  refine wpAny_bind (D.item i _ _ _ hlt hst fun x h₁ tk hPx hit₁ hs₁ => ?_)
  replace hs₁ : Heap.SameBut it hp h₁ := hs₁
  have he₁ : IsEnumHeld h₁ e it i old T f := (hs₁.2 e hne).trans he
  show wpAny _ _ (field (.ref e) 3 >>= _) _ _ ⟨h₁, g, d, tk, os⟩
  refine wpAny_bind (wpAny_field he₁ rfl (x := rawInt i) rfl ?_)
  show wpAny _ _ (field (.ref e) 4 >>= _) _ _ ⟨h₁, g, d, tk, os⟩
  refine wpAny_bind (wpAny_field he₁ rfl (x := .none) rfl ?_)
  show wpAny _ _ (mkInt i >>= _) _ _ ⟨h₁, g, d, tk, os⟩
  refine wpAny_bind (wpAny_mkInt ?_)
  show wpAny _ _ (setField (.ref e) 3 (rawInt ((i : Int) + 1)) >>= _) _ _ ⟨h₁, g, d, tk + 1, os⟩
  refine wpAny_bind (wpAny_setField_rec he₁ (by simp) fun h₂ he₂ hs₂ => ?_)
  replace hs₂ : Heap.SameBut e h₁ h₂ := hs₂
  replace he₂ : IsEnumHeld h₂ e it ((i : Int) + 1) old T f := he₂
  show wpAny _ _ (setField (.ref e) 4 .none >>= _) _ _ ⟨h₂, g, d, tk + 1, os⟩
  refine wpAny_bind (wpAny_setField_rec he₂ (by simp) fun h₃ he₃ hs₃ => ?_)
  replace hs₃ : Heap.SameBut e h₂ h₃ := hs₃
  replace he₃ : IsEnumHeld h₃ e it ((i : Int) + 1) old T f := he₃
  show wpAny _ _ (newTuple [.int i tk, x] >>= _) _ _ ⟨h₃, g, d, tk + 1, os⟩
  refine wpAny_bind (wpAny_newTuple ?_)
  have he₄ : IsEnumHeld (h₃.push { cls := .type "tuple", data := .seq #[.int i tk, x] }) e it ((i : Int) + 1) old T f := Heap.get?_push_of_some _ he₃
  generalize hh₄ : h₃.push { cls := .type "tuple", data := .seq #[.int i tk, x] } = h₄ at he₄
  have hsz : h₃.objs.size = hp.objs.size := by rw [hs₃.1, hs₂.1, hs₁.1]
  have hel : e < hp.objs.size := Heap.lt_size he
  have ht₄ : h₄.get? hp.objs.size = some { cls := .type "tuple", data := .seq #[.int i tk, x] } := by rw [← hh₄, ← hsz]; exact Heap.get?_push_size _ rfl
  have hz₄ : h₄.objs.size = hp.objs.size + 1 := by rw [← hh₄, Heap.size_push, hsz]
  have hk₄ : ∀ b o, b ≠ e → b ≠ it → hp.get? b = some o → h₄.get? b = some o := fun b o hbe hbi hb => by
    rw [← hh₄]; exact Heap.get?_push_of_some _ (hs₃.extBut b o hbe (hs₂.extBut b o hbe (hs₁.extBut b o hbi hb)))
  have hit₄ : Sx (i + 1) h₄ := D.frame _ _ _ hit₁ fun b hb o y => by
    have hbe : b ≠ e := fun q => hef (q ▸ hb)
    rw [← hh₄]; exact Heap.get?_push_of_some _ (hs₃.extBut b o hbe (hs₂.extBut b o hbe y))
  show wpAny _ _ (Builtin.SmallTypes.ownedTupleIsFree (.ref e) >>= _) _ _ ⟨h₄, g, d, tk + 1, os⟩
  rw [hsz]
  clear hh₄ he₃ hs₃ he₂ hs₂ he₁ hs₁ hit₁ hsz h₃ h₂ h₁
  refine wpAny_bind (PySem.wpAny_tupleHeld_enum (s := ⟨h₄, g, d, tk + 1, os⟩) he₄ (hk₄ T oT hTe hTi hT) fun h₅ he₅ hs₅ => ?_)
  replace hs₅ : Heap.SameBut e h₄ h₅ := hs₅
  simp only [Bool.false_eq_true, if_false]
  refine wpAny_pure ⟨_, rfl, hQ x h₅ tk hPx he₅ (D.frame _ _ _ hit₄ fun b hb o y => hs₅.extBut b o (fun q => hef (q ▸ hb)) y) (hs₅.extBut _ _ (Nat.ne_of_gt hel) ht₄) ?_ fun b o hbe hbi hb => hs₅.extBut b o hbe (hk₄ b o hbe hbi hb)⟩
  show h₅.objs.size = hp.objs.size + 1
  rw [hs₅.1, hz₄]
theorem pyNext_enum_item_heldD {e it T : Addr} {fp : List Addr} {n i : Nat} {P : Nat → Value → Prop} {Sx : Nat → Heap → Prop} {old : Value} {f : Bool} {oT : Obj} {Q : Option Value → Shared → Prop} (D : Draws prog w A.in1 it fp n P Sx)
    (he : IsEnumHeld s.heap e it i old T f) (hT : s.heap.get? T = some oT) (hTe : T ≠ e) (hTi : T ≠ it) (hst : Sx i s.heap) (hlt : i < n) (hne : e ≠ it) (hef : e ∉ fp)
    (hQ : ∀ x h' tk, P i x → IsEnumHeld h' e it ((i : Int) + 1) old T true → Sx (i + 1) h' →
      h'.get? s.heap.objs.size = some { cls := .type "tuple", data := .seq #[.int i tk, x] } → h'.objs.size = s.heap.objs.size + 1 →
      (∀ b o, b ≠ e → b ≠ it → s.heap.get? b = some o → h'.get? b = some o) → Q (some (.ref s.heap.objs.size)) { s with heap := h', toks := tk + 1 }) :
    wpAny (model prog w) A (pyNext (.ref e)) Q E s := by
  have hTy : s.TypeIs (.ref e) "enumerate" := ⟨_, he, rfl⟩
  unfold pyNext
  exact wpAny_bind (wpAny_attempt (wpAny_callSpecial?_slot (name := Str.ofString "__next__") hTy PySem.F.slot_enumerate_next
    (wpAny_call_entry PySem.F.slot_enumerate_next hTy PySem.F.entry_enumerate_next
      (enum_item_heldD D he hT hTe hTi hst hlt hne hef fun x h' tk a1 a2 a3 a4 a5 a6 => wpAny_pure (hQ x h' tk a1 a2 a3 a4 a5 a6)) (PySem.F.args_enumerate_next_1 _))))
theorem pyNext_enum_end_heldD {e it T : Addr} {fp : List Addr} {n : Nat} {i : Int} {P : Nat → Value → Prop} {Sx : Nat → Heap → Prop} {old : Value} {f : Bool} {Q : Option Value → Shared → Prop} (D : Draws prog w A.in1 it fp n P Sx)
    (he : IsEnumHeld s.heap e it i old T f) (hst : Sx n s.heap)
    (hQ : ∀ h', Heap.ExtBut it s.heap h' → Q none { s with heap := h' }) : wpAny (model prog w) A (pyNext (.ref e)) Q E s := by
  have hTy : s.TypeIs (.ref e) "enumerate" := ⟨_, he, rfl⟩
  unfold pyNext
  refine wpAny_bind (wpAny_attempt (wpAny_callSpecial?_slot (name := Str.ofString "__next__") hTy PySem.F.slot_enumerate_next
    (wpAny_call_entry PySem.F.slot_enumerate_next hTy PySem.F.entry_enumerate_next ?_ (PySem.F.args_enumerate_next_1 _))))
  show wpAny _ _ (field (.ref e) 2 >>= _) _ _ _
  refine wpAny_bind (wpAny_field he rfl (x := .ref it) rfl ?_)
  refine wpAny_bind (D.done _ _ _ hst fun h' x he' hx' => ?_)
  obtain ⟨o, ho, hc⟩ := hx'
  refine wpAny_bind (wpAny_isInstance (T := "StopIteration") (b := true) ⟨o, ho, hc⟩ isSubtype_stop ?_)
  exact wpAny_pure (hQ _ he')
/-- enumerate(v) as the argument of dict() -/
theorem pairArg_enumD {e it : Addr} {fp : List Addr} {n : Nat} {P : Nat → Value → Prop} {Sx : Nat → Heap → Prop} (D : ∀ A : Around, A.handled = none → Draws prog w A it fp n P Sx) (hei : e ≠ it) (hef : e ∉ fp) (hif : it ∈ fp) (there : ∀ h, Sx 0 h → ∀ b ∈ fp, ∃ o, h.get? b = some o) (kp : ∀ h h', Sx 0 h → (∀ b o, h.get? b = some o → h'.get? b = some o) → Sx 0 h') :
    PairArg prog w "enumerate" e (e :: fp) [e, it] n (fun i k v => (∃ t, k = .int i t) ∧ P i v) (fun h => (∃ old, IsEnum h e it 0 old) ∧ Sx 0 h) where
  type := fun s ok => let ⟨⟨_, he⟩, _⟩ := ok; ⟨_, he, rfl⟩
  notDict := by decide
  keep := fun h h' ok hk => by
    obtain ⟨⟨old, he⟩, hst⟩ := ok
    exact ⟨⟨old, hk _ _ he⟩, kp _ _ hst hk⟩
  there := fun h ok b hb => by
    obtain ⟨⟨old, he⟩, hst⟩ := ok
    rcases List.mem_cons.mp hb with rfl | hb
    · exact ⟨_, he⟩
    · exact there h hst b hb
  sub := fun b hb => by
    rcases List.mem_cons.mp hb with rfl | hb
    · exact List.mem_cons_self
    · rw [List.mem_singleton.mp hb]; exact List.mem_cons_of_mem _ hif
  noKeys := fun A s Q E hA ok h => let ⟨⟨_, he⟩, _⟩ := ok; PySem.getAttrOr_miss_enumerate he rfl rfl rfl PySem.enumerate_no_keys (by decide +kernel) hA h
  iter := fun A s d Q E hA ok hd hdf h => by
    obtain ⟨⟨old, he⟩, hst⟩ := ok
    have de : d ≠ e := fun z => hdf (by rw [z]; exact List.mem_cons_self)
    have dfp : d ∉ fp := fun z => hdf (List.mem_cons_of_mem _ z)
    have dit : d ≠ it := fun z => dfp (z ▸ hif)
    have hA1 : A.in1.handled = none := hA
    refine wpAny_pyIter_enum he (h e [e, it] (fun i h => Sx i h ∧ ((∃ old, IsEnum h e it i old) ∨ ∃ old T f oT, IsEnumHeld h e it i old T f ∧ h.get? T = some oT ∧ T ≠ e ∧ T ≠ it ∧ T ≠ d)) s.heap s.toks ?_
      ⟨hst, .inl ⟨old, he⟩⟩ (fun _ _ e => e) fun b hb => .inl hb)
    exact {
      off := fun hm => by
        simp only [List.mem_cons, List.not_mem_nil, or_false] at hm
        rcases hm with x | x
        · exact de x
        · exact dit x
      frame := fun i h₁ h₂ st hk => by
        obtain ⟨hst, he⟩ := st
        refine ⟨(D A hA).frame _ _ _ hst fun b hb o y => hk b o (fun z => dfp (z ▸ hb)) y, ?_⟩
        rcases he with ⟨old, he⟩ | ⟨old, T, f, oT, he, hT, r1, r2, r3⟩
        · exact .inl ⟨old, hk _ _ (Ne.symm de) he⟩
        · exact .inr ⟨old, T, f, oT, hk _ _ (Ne.symm de) he, hk _ _ r3 hT, r1, r2, r3⟩
      item := fun i s₁ Q₁ E₁ hi st hds hQ => by
        obtain ⟨hst, he⟩ := st
        have ec : ((i + 1 : Nat) : Int) = (i : Int) + 1 := by omega
        have nit : s₁.heap.objs.size ≠ it := let ⟨_, x⟩ := (D A hA).live _ _ hst; Nat.ne_of_gt (Heap.lt_size x)
        rcases he with ⟨old, he⟩ | ⟨old, T, f, oT, he, hT, r1, r2, r3⟩
        · refine PySem.wpAny_pyNext_enum_itemD (D A.in1 hA1) he hst hi hei hef fun x h' tk px ho hst' hT hsz hk => ?_
          exact hQ s₁.heap.objs.size _ _ h' (tk + 1) ⟨⟨_, rfl⟩, px⟩ (.inl ⟨_, hT, rfl, _, rfl⟩)
            ⟨hst', .inr ⟨_, s₁.heap.objs.size, false, _, (by rw [ec]; exact ho), hT, Nat.ne_of_gt (Heap.lt_size he), nit, Nat.ne_of_gt hds⟩⟩
            fun b o hb x => hk b o (fun y => hb (by simp [y])) (fun y => hb (by simp [y])) x
        · refine pyNext_enum_item_heldD (D A.in1 hA1) he hT r1 r2 hst hi hei hef fun x h' tk px ho hst' hT' hsz hk => ?_
          exact hQ s₁.heap.objs.size _ _ h' (tk + 1) ⟨⟨_, rfl⟩, px⟩ (.inl ⟨_, hT', rfl, _, rfl⟩)
            ⟨hst', .inr ⟨old, T, true, oT, (by rw [ec]; exact ho), hk _ _ r1 r2 hT, r1, r2, r3⟩⟩
            fun b o hb x => hk b o (fun y => hb (by simp [y])) (fun y => hb (by simp [y])) x
      done := fun s₁ Q₁ E₁ st hQ => by
        obtain ⟨hst, he⟩ := st
        rcases he with ⟨old, he⟩ | ⟨old, T, f, oT, he, hT, r1, r2, r3⟩
        · exact PySem.wpAny_pyNext_enum_endD (D A.in1 hA1) he hst fun h' hk => hQ h' s₁.toks fun b o hb x => hk b o (fun y => hb (by simp [y])) x
        · exact pyNext_enum_end_heldD (D A.in1 hA1) he hst fun h' hk => hQ h' s₁.toks fun b o hb x => hk b o (fun y => hb (by simp [y])) x }
end
def enumV : Nat → List V → List (Key × V)
  | _, [] => []
  | i, x :: r => (.inl (i : Nat), x) :: enumV (i + 1) r
def enumU : Nat → List Value → List (Key × Value)
  | _, [] => []
  | i, x :: r => (.inl (i : Nat), x) :: enumU (i + 1) r
theorem enumU_len : ∀ (i : Nat) (l : List Value), (enumU i l).length = l.length
  | _, [] => rfl
  | i, x :: r => by simp [enumU, enumU_len (i + 1) r]
theorem enumU_at : ∀ (i : Nat) (l : List Value) (j : Nat) (x : Value), l[j]? = some x → (enumU i l)[j]? = some (.inl ((i + j : Nat) : Int), x)
  | i, [], j, x, h => by simp at h
  | i, y :: r, 0, x, h => by simp at h; subst h; simp [enumU]
  | i, y :: r, j + 1, x, h => by
    have := enumU_at (i + 1) r j x (by simpa using h)
    simp only [enumU, List.getElem?_cons_succ, this]
    rw [show i + 1 + j = i + (j + 1) by omega]
theorem kv_enum : ∀ (i : Nat) {xs : List V} {us : List Value}, Vals xs us → KV (enumV i xs) (enumU i us)
  | _, _, _, .nil => .nil
  | i, _, _, .cons a b => .cons ⟨rfl, a⟩ (kv_enum (i + 1) b)
theorem enumU_keys : ∀ (i : Nat) (l : List Value) (k : Key), k ∈ (enumU i l).map (·.1) → ∃ j : Nat, i ≤ j ∧ k = .inl (j : Int)
  | i, [], k, h => by simp [enumU] at h
  | i, x :: r, k, h => by
    simp only [enumU, List.map_cons, List.mem_cons] at h
    rcases h with h | h
    · exact ⟨i, Nat.le_refl _, h⟩
    · obtain ⟨j, a, b⟩ := enumU_keys (i + 1) r k h
      exact ⟨j, by omega, b⟩
theorem merged_enum : ∀ (l : List Value) (i : Nat) (acc : List (Key × Value)), (∀ k ∈ acc.map (·.1), ∃ j : Nat, j < i ∧ k = .inl (j : Int)) → merged acc (enumU i l) = acc ++ enumU i l
  | [], i, acc, h => by simp [enumU, merged]
  | x :: r, i, acc, h => by
    have st : stored acc (.inl (i : Int)) x = acc ++ [(.inl (i : Int), x)] := by
      unfold stored
      rw [if_neg]
      intro c
      rw [List.any_eq_true] at c
      obtain ⟨p, hp, e⟩ := c
      obtain ⟨j, hj, e2⟩ := h p.1 (List.mem_map.mpr ⟨p, hp, rfl⟩)
      rw [e2] at e
      have e := of_decide_eq_true e
      injection e with e
      omega
    show merged (stored acc (.inl (i : Int)) x) (enumU (i + 1) r) = _
    rw [st, merged_enum r (i + 1) _ fun k hk => by
      rw [List.map_append, List.mem_append] at hk
      rcases hk with hk | hk
      · obtain ⟨j, hj, e⟩ := h k hk
        exact ⟨j, by omega, e⟩
      · simp only [List.map_cons, List.map_nil, List.mem_singleton] at hk
        exact ⟨i, by omega, hk⟩]
    rw [List.append_assoc]
    rfl
section
variable {X : Cx} {pins : List (Addr × Obj)} {s : Shared} {σ : L2.St} {H : Hp} {a : Addr} {xs : List V}
/-- a list or a tuple, as items that are drawn -/
theorem items_at (I : Inv X pins σ H s) (h : SqL X.K H a xs ∨ SqT X.K H a xs) : ∃ (o : Obj) (Hx : Heap → Prop) (its : List Value), Begins (.ref a) o Hx ∧ Hx s.heap ∧ Vals xs its ∧ xs.length ≤ sizeLine ∧ a < s.heap.objs.size ∧
    ∀ it, a ≠ it → ∃ Sx : Nat → Heap → Prop, (∀ A : Around, A.handled = none → Draws X.prog X.w A it [it, a] its.length (fun j x => its[j]? = some x) Sx) ∧ (∀ h, Sx 0 h → ∀ b ∈ [it, a], ∃ o, h.get? b = some o) ∧
      (∀ h h', Sx 0 h → (∀ b o, h.get? b = some o → h'.get? b = some o) → Sx 0 h') ∧ ∀ h', (∀ b o, s.heap.get? b = some o → h'.get? b = some o) → h'.get? it = some o → Sx 0 h' := by
  rcases h with h | h
  · obtain ⟨its, rv, p, hz⟩ := I.list h
    refine ⟨_, _, its, begins_list a its.toArray, p.isList, rv, hz, p.lt, fun it hne => ⟨fun i h => h.IsListIter it a i ∧ h.IsList a its.toArray, fun A hh => ?_, fun h st b hb => ?_, fun h h' st k => ⟨st.1.at fun o e => k _ o e, st.2.at fun o e => k _ o e⟩, fun h' k e => ⟨⟨_, e, rfl, rfl⟩, p.isList.at fun o e => k _ o e⟩⟩⟩
    · have D := Draws.list (prog := X.prog) (w := X.w) hh it a hne its.toArray
      simp only [List.size_toArray, List.getElem?_toArray] at D
      exact D
    · obtain ⟨⟨o1, h1, _⟩, ⟨o2, h2, _⟩⟩ := st
      rcases List.mem_cons.mp hb with z | z
      · rw [z]; exact ⟨_, h1⟩
      · rw [List.mem_singleton.mp z]; exact ⟨_, h2⟩
  · obtain ⟨its, rv, p, hz⟩ := I.tuple h
    have p' : s.heap.IsTuple a its.toArray := p
    refine ⟨_, _, its, begins_tuple a its.toArray, p, rv, hz, p.lt, fun it hne => ⟨fun i h => h.IsTupleIter it a i ∧ h.IsTuple a its.toArray, fun A hh => ?_, fun h st b hb => ?_, fun h h' st k => ⟨st.1.at fun o e => k _ o e, st.2.at fun o e => k _ o e⟩, fun h' k e => ⟨⟨_, e, rfl, rfl⟩, p'.at fun o e => k _ o e⟩⟩⟩
    · have D := Draws.tuple (prog := X.prog) (w := X.w) hh it a hne its.toArray
      simp only [List.size_toArray, List.getElem?_toArray] at D
      exact D
    · obtain ⟨⟨o1, h1, _⟩, ⟨o2, h2, _⟩⟩ := st
      rcases List.mem_cons.mp hb with z | z
      · rw [z]; exact ⟨_, h1⟩
      · rw [List.mem_singleton.mp z]; exact ⟨_, h2⟩
/-- dict(enumerate(v)) -/
def tDictEn (K : PySem.W.Frag) (te : TE) : TE := fun σ H Q => te σ H fun v H1 => ∃ a xs, v = .ref a ∧ (SqL K H1 a xs ∨ SqT K H1 a xs) ∧ ∀ p, H1 p = none → Q (.ref p) (upd H1 p (.dK (enumV 0 xs)))
theorem pe_dictEn {e : Expr} {te : TE} {p p2 pos pos2 : Pos} (hc : X.calm = true) (hg : Gl X "dict") (hm : X.mg "dict" = none) (hg2 : Gl X "enumerate") (hm2 : X.mg "enumerate" = none) (he : PE X e te) (na : starEach [e] X.env = (false, eval e X.env) :: starEach [] X.env := by rfl)
    (nb : starEach [.Call (.Name "enumerate" p2) [e] [] pos2] X.env = (false, eval (.Call (.Name "enumerate" p2) [e] [] pos2) X.env) :: starEach [] X.env := by rfl) (hb : bootBuiltins "dict" = some (.type "dict") := by decide +kernel) :
    PE X (.Call (.Name "dict" p) [.Call (.Name "enumerate" p2) [e] [] pos2] [] pos) (tDictEn X.K te) := by
  refine ⟨fun pins s σ H Q I h => ?_⟩
  refine Call_ (ld_blt I hg hm hb (PyProof.Rows.callWith_type1 (args_cons ?_ nb) nb))
  refine Call_ (ld_blt I hg2 hm2 boot_enumerate (PyProof.Rows.callWith_type1 (args_cons (thn (he.run pins s σ H _ I h) fun u s1 ⟨v, H1, I1, r, a, xs, ev, hq, q⟩ => args_nil ?_) na) na))
  subst ev
  cases r
  obtain ⟨o, Hx, its, B, hx, rv, hz, hlt, hD⟩ := items_at I1 hq
  refine enum1_begins B hx fun h' he hit hsz hk => args_nil ?_
  have hne : a ≠ s1.heap.objs.size := Nat.ne_of_lt hlt
  obtain ⟨Sx, D, there, kp, st⟩ := hD s1.heap.objs.size hne
  have I2 : Inv X pins σ H1 { s1 with heap := h' } := I1.kept (t' := s1.toks) hk
  have hef : s1.heap.objs.size + 1 ∉ [s1.heap.objs.size, a] := fun z => by
    rcases List.mem_cons.mp z with z | z
    · exact Nat.succ_ne_self _ z
    · exact Nat.ne_of_gt (Nat.lt_succ_of_lt hlt) (List.mem_singleton.mp z)
  have hl : xs.length = its.length := rv.length
  refine PySem.call_dict_pairs (knd := mixKind X.prog X.w) (kvs := enumU 0 its) (pairArg_enumD D (Nat.succ_ne_self _) hef List.mem_cons_self there kp) (I1.ok.hd hc) ⟨⟨_, he⟩, st h' hk hit⟩ ⟨enumU_len 0 its, ?_⟩ (by rw [← hl]; exact hz) fun h'' tk hd' hk' => ?_
  · rintro i key v ⟨⟨t, rfl⟩, hv⟩
    refine ⟨.inl (i : Int), ?_, ?_⟩
    · have := enumU_at 0 its i v hv
      rw [Nat.zero_add] at this
      exact this
    · exact kV_is (P := X.prog) (w := X.w) (k := .inl (i : Int)) ⟨t, rfl⟩
  · have hm : merged [] (enumU 0 its) = enumU 0 its := by rw [merged_enum its 0 [] (fun k hk => by simp at hk)]; rfl
    rw [hm] at hd'
    have hsz' : s1.heap.objs.size ≤ h'.objs.size := by rw [hsz]; exact Nat.le_add_right _ _
    refine ⟨.ref h'.objs.size, upd H1 h'.objs.size (.dK (enumV 0 xs)), I1.laid (t' := tk) (fun b u e => ?_) hsz' ?_, rfl, q _ (I1.hok.fresh hsz')⟩
    · have hb : b < s1.heap.objs.size := Heap.lt_size e
      refine hk' b u (fun z => ?_) (hk b u e)
      rcases List.mem_cons.mp z with z | z
      · exact Nat.ne_of_lt (Nat.lt_succ_of_lt hb) z
      · exact Nat.ne_of_lt hb (List.mem_singleton.mp z)
    · refine ⟨?_, ?_, enumU 0 its, kv_enum 0 rv, hd'⟩
      · show (enumV 0 xs).length ≤ sizeLine
        have := Paired.length (kv_enum 0 rv)
        rw [this, enumU_len, ← hl]
        exact hz
      · refine beq_eq_false_iff_ne.mpr (Ne.symm (Nat.ne_of_lt (Nat.lt_of_lt_of_le I1.big hsz')))
end
end LW

/-! itertools.permutations, at the model's level -/
namespace PySem
open Sem (wp)
namespace F
theorem pm_mro : mroOf (.type "itertools.permutations") = pure [.type "itertools.permutations", .type "object"] := by rw [mroOf_type]; kernel_rfl
theorem pm_new : typeLookup (.type "itertools.permutations") "__new__" = pure (some (.builtin "itertools.permutations.__new__")) := by rw [typeLookup_type, builtinLookup_eq_fast]; kernel_rfl
theorem pm_sub : isSubtype (.type "itertools.permutations") (.type "itertools.permutations") = pure true := by rw [isSubtype_type]; kernel_rfl
theorem pm_init : Slot "itertools.permutations" "__init__" "object.__init__" :=
  .of (owner := "object") (n := "__init__") (by rw [typeLookup_type, builtinLookup_eq_fast]; kernel_rfl) (by decide +kernel) (by decide +kernel) (by decide +kernel)
    (by first | exact .inl (by decide +kernel) | exact .inr (by decide +kernel)) (by rw [isSubtype_type]; kernel_rfl)
theorem pm_called : TypeCalled "itertools.permutations" "itertools.permutations.__new__" "object.__init__" :=
  ⟨by decide +kernel, by decide +kernel, ⟨_, _, pm_mro⟩, madeBy_type pm_mro pm_new (by decide +kernel), by decide +kernel, pm_sub, pm_init⟩
theorem pm_typeCall (a : Value) : checkTypeCall "itertools.permutations" ⟨[a], []⟩ = pure () := by kernel_rfl
theorem pm_newCall (a : Value) : checkBuiltinCall "itertools.permutations.__new__" ⟨[.type "itertools.permutations", a], []⟩ = pure () := by kernel_rfl
theorem pm_entry_new : entryFor table "itertools.permutations.__new__" = some Builtin.«itertools.permutations.__new__» := entryFor_of_tree (by kernel_rfl)
theorem pm_slot_iter : Slot "itertools.permutations" "__iter__" "itertools.permutations.__iter__" :=
  .of (owner := "itertools.permutations") (n := "__iter__") (by rw [typeLookup_type, builtinLookup_eq_fast]; kernel_rfl) (by decide +kernel) (by decide +kernel) (by decide +kernel)
    (by first | exact .inl (by decide +kernel) | exact .inr (by decide +kernel)) pm_sub
theorem pm_slot_next : Slot "itertools.permutations" "__next__" "itertools.permutations.__next__" :=
  .of (owner := "itertools.permutations") (n := "__next__") (by rw [typeLookup_type, builtinLookup_eq_fast]; kernel_rfl) (by decide +kernel) (by decide +kernel) (by decide +kernel)
    (by first | exact .inl (by decide +kernel) | exact .inr (by decide +kernel)) pm_sub
theorem pm_entry_iter : entryFor table "itertools.permutations.__iter__" = some Builtin.«dict_keyiterator.__iter__» :=
  entryFor_alias (id' := "dict_keyiterator.__iter__") (by kernel_rfl) (by first | rfl | decide +kernel | (unfold String.splitOn; simp +decide [String.splitOnAux])) (by decide +kernel) (by kernel_rfl)
theorem pm_entry_next : entryFor table "itertools.permutations.__next__" = some Builtin.«itertools.permutations.__next__» := entryFor_of_tree (by kernel_rfl)
theorem pm_args_iter (a : Value) : argsOk "itertools.permutations.__iter__" ⟨[a], []⟩ := by unfold argsOk; kernel_rfl
theorem pm_args_next (a : Value) : argsOk "itertools.permutations.__next__" ⟨[a], []⟩ := by unfold argsOk; kernel_rfl
theorem pm_noDict : typeHasDict (.type "itertools.permutations") = false := by decide +kernel
end F
/-- the numbers behind the first four fields -/
def pmNums (l : List Nat) : Array Value := (l.map fun (n : Nat) => rawInt n).toArray
def pmFields (pool : Addr) (st : Int) (r : Nat) (last : Value) (l : List Nat) : Array Value := #[.ref pool, rawInt st, rawInt r, last] ++ pmNums l
/-- a permutations object -/
abbrev IsPm (h : Heap) (it pool : Addr) (st : Int) (r : Nat) (last : Value) (l : List Nat) : Prop := h.get? it = some { cls := .type "itertools.permutations", dict := none, data := .fields (pmFields pool st r last l), slots := #[] }
section
variable {prog : Program} {w : World} {A : Around} {E : Value → Shared → Prop} {s : Shared}
theorem pm_iter {it pool : Addr} {st : Int} {r : Nat} {last : Value} {l : List Nat} {Q : Value → Shared → Prop} (hit : IsPm s.heap it pool st r last l) (h : Q (.ref it) s) : wpAny (model prog w) A (pyIter (.ref it)) Q E s := by
  have hT : s.TypeIs (.ref it) "itertools.permutations" := ⟨_, hit, rfl⟩
  refine wpAny_pyIter_slot hT F.pm_slot_iter (wpAny_call_entry F.pm_slot_iter hT F.pm_entry_iter ?_ (F.pm_args_iter _))
  show wpAny _ _ (ret (.ref it)) _ _ s
  exact wpAny_pure ⟨_, rfl, "itertools.permutations", _, hT, F.pm_slot_next.lookup, h⟩
theorem pmf0 (pool : Addr) (st : Int) (r : Nat) (last : Value) (l : List Nat) : (pmFields pool st r last l)[0]? = some (.ref pool) := by unfold pmFields pmNums; simp
theorem pmf1 (pool : Addr) (st : Int) (r : Nat) (last : Value) (l : List Nat) : (pmFields pool st r last l)[1]? = some (rawInt st) := by unfold pmFields pmNums; simp [Array.getElem?_append]
theorem pmf2 (pool : Addr) (st : Int) (r : Nat) (last : Value) (l : List Nat) : (pmFields pool st r last l)[2]? = some (rawInt r) := by unfold pmFields pmNums; simp [Array.getElem?_append]
theorem pmf3 (pool : Addr) (st : Int) (r : Nat) (last : Value) (l : List Nat) : (pmFields pool st r last l)[3]? = some last := by unfold pmFields pmNums; simp [Array.getElem?_append]
theorem pms1 (pool : Addr) (st st' : Int) (r : Nat) (last : Value) (l : List Nat) : (pmFields pool st r last l).setIfInBounds 1 (rawInt st') = pmFields pool st' r last l := by
  apply Array.ext'; unfold pmFields pmNums; simp
theorem pms3 (pool : Addr) (st : Int) (r : Nat) (last last' : Value) (l : List Nat) : (pmFields pool st r last l).setIfInBounds 3 last' = pmFields pool st r last' l := by
  apply Array.ext'; unfold pmFields pmNums; simp
theorem pmsn (pool : Addr) (st : Int) (r : Nat) (last : Value) (l l' : List Nat) : (pmFields pool st r last l).extract 0 4 ++ (l'.map fun (n : Nat) => rawInt n).toArray = pmFields pool st r last l' := by
  apply Array.ext'; unfold pmFields pmNums; simp
theorem pmsz (pool : Addr) (st : Int) (r : Nat) (last : Value) (l : List Nat) : (pmFields pool st r last l).size = 4 + l.length := by unfold pmFields pmNums; simp; omega
theorem pm_nums (pool : Addr) (st : Int) (r : Nat) (last : Value) (l : List Nat) : ((pmFields pool st r last l).toList.drop 4).map (fun | .int n _ => n.toNat | _ => 0) = l := by
  unfold pmFields pmNums
  simp only [Array.toList_append, List.toList_toArray]
  rw [List.drop_left' (by rfl), List.map_map]
  induction l with
  | nil => rfl
  | cons a l ih =>
    rw [List.map_cons, ih]
    rfl
end
end PySem

namespace PySem
open Sem (wp)
section
variable {prog : Program} {w : World} {A : Around} {E : Value → Shared → Prop} {s : Shared}
theorem pm_field {it pool : Addr} {st : Int} {r : Nat} {last x : Value} {l : List Nat} {k : Nat} {Q : Value → Shared → Prop} (hit : IsPm s.heap it pool st r last l) (hx : (pmFields pool st r last l)[k]? = some x) (h : Q x s) : wpAny (model prog w) A (field (.ref it) k) Q E s := wpAny_field hit rfl hx h
theorem pm_int {it pool : Addr} {st : Int} {r : Nat} {last : Value} {l : List Nat} {k : Nat} {n : Int} {Q : Int → Shared → Prop} (hit : IsPm s.heap it pool st r last l) (hx : (pmFields pool st r last l)[k]? = some (rawInt n)) (h : Q n s) : wpAny (model prog w) A (Builtin.Itertools.itIntField (.ref it) k) Q E s := by
  unfold Builtin.Itertools.itIntField
  exact wpAny_bind (pm_field hit hx (wpAny_pure h))
theorem pm_pool {pool : Addr} {ot : Obj} {its : Array Value} {kk : Nat} {Q : Array Value → Shared → Prop} (hp : s.heap.get? pool = some ot) (hd : ot.data = .seq its kk) (h : Q its s) : wpAny (model prog w) A (Builtin.Itertools.itPoolItems (.ref pool)) Q E s := by
  unfold Builtin.Itertools.itPoolItems
  exact wpAny_bind (wpAny_seqItems hp hd (wpAny_pure h))
theorem pm_from {it pool : Addr} {st : Int} {r : Nat} {last : Value} {l : List Nat} {Q : List Nat → Shared → Prop} (hit : IsPm s.heap it pool st r last l) (h : Q l s) : wpAny (model prog w) A (Builtin.Itertools.itNumbersFrom (.ref it) 4) Q E s := by
  unfold Builtin.Itertools.itNumbersFrom
  refine wpAny_bind (wpAny_load hit ?_)
  exact wpAny_pure (Eq.mpr (congrArg (fun z => Q z s) (pm_nums pool st r last l)) h)
/-- the tuple of the items at ix is handed out -/
theorem pm_result {it pool : Addr} {r : Nat} {last : Value} {l l0 ix : List Nat} {its : Array Value} {Q : Fin → Shared → Prop} (hit : IsPm s.heap it pool 1 r last l) (hl0 : l0.take r = ix) (hix : ix.length = r) (hz : r ≤ sizeLine)
    (hQ : ∀ h', IsPm h' it pool 1 r (.ref s.heap.objs.size) l → h'.get? s.heap.objs.size = some { cls := .type "tuple", data := .seq (ix.map fun i => its.getD i .none).toArray } →
      (∀ b o, b ≠ it → s.heap.get? b = some o → h'.get? b = some o) → Q (.done (.ret (.ref s.heap.objs.size))) { s with heap := h' }) :
    wpAny (model prog w) A (do
      let t ← newTuple (List.map (fun i => its.getD i Value.none) (List.take r l0))
      let before ← field (.ref it) 3
      setField (.ref it) 3 t
      letGo [before] [t]
      ret t) Q E s := by
  rw [hl0]
  refine wpAny_bind (wpAny_newTuple ?_ (by rw [List.length_map, hix]; exact hz))
  have hlt : it < s.heap.objs.size := Heap.lt_size hit
  have h1 : IsPm (s.heap.push { cls := .type "tuple", data := .seq (ix.map fun i => its.getD i .none).toArray }) it pool 1 r last l := Heap.get?_push_of_some _ hit
  refine wpAny_bind (pm_field (s := { s with heap := s.heap.push { cls := .type "tuple", data := .seq (ix.map fun i => its.getD i .none).toArray } }) h1 (pmf3 ..) ?_)
  refine wpAny_bind (wpAny_setField_rec (s := { s with heap := s.heap.push { cls := .type "tuple", data := .seq (ix.map fun i => its.getD i .none).toArray } }) h1 (by rw [pmsz]; omega) fun h' e sb => ?_)
  rw [pms3] at e
  refine wpAny_bind (wpAny_letGo (wpAny_pure ?_))
  exact hQ h' e (sb.extBut _ _ (Nat.ne_of_gt hlt) (Heap.get?_push_size _ rfl)) fun b o hb q => sb.extBut _ _ hb (Heap.get?_push_of_some _ q)
theorem pm_next_first {it pool : Addr} {ot : Obj} {its : Array Value} {kk : Nat} {last : Value} {ix cy : List Nat} {r : Nat} {Q : Option Value → Shared → Prop} (hit : IsPm s.heap it pool 0 r last (ix ++ cy)) (hp : s.heap.get? pool = some ot) (hd : ot.data = .seq its kk) (hr : its.size = r) (hix : ix.length = r) (hz : r ≤ sizeLine)
    (hQ : ∀ h', IsPm h' it pool 1 r (.ref s.heap.objs.size) (ix ++ cy) → h'.get? s.heap.objs.size = some { cls := .type "tuple", data := .seq (ix.map fun i => its.getD i .none).toArray } →
      (∀ b o, b ≠ it → s.heap.get? b = some o → h'.get? b = some o) → Q (some (.ref s.heap.objs.size)) { s with heap := h' }) :
    wpAny (model prog w) A (pyNext (.ref it)) Q E s := by
  have hT : s.TypeIs (.ref it) "itertools.permutations" := ⟨_, hit, rfl⟩
  unfold pyNext
  refine wpAny_bind (wpAny_attempt (wpAny_callSpecial?_slot (name := Str.ofString "__next__") hT F.pm_slot_next (wpAny_call_entry F.pm_slot_next hT F.pm_entry_next ?_ (F.pm_args_next _))))
  show wpAny _ _ (field (.ref it) 0 >>= _) _ _ s
  refine wpAny_bind (pm_field hit (pmf0 ..) ?_)
  refine wpAny_bind (pm_pool hp hd ?_)
  refine wpAny_bind (pm_int hit (pmf2 ..) ?_)
  refine wpAny_bind (pm_from hit ?_)
  refine wpAny_bind (pm_int hit (pmf1 ..) ?_)
  show wpAny _ _ (setField (.ref it) 1 (rawInt 1) >>= _) _ _ s
  refine wpAny_bind (wpAny_setField_rec hit (by rw [pmsz]; omega) fun h1 e1 sb => ?_)
  rw [pms1] at e1
  have hs : h1.objs.size = s.heap.objs.size := sb.1
  have hix' : (ix ++ cy).take r = ix := by rw [List.take_left' hix]
  show wpAny _ _ _ _ _ { s with heap := h1 }
  refine pm_result (s := { s with heap := h1 }) (ix := ix) e1 hix' hix hz fun h' a b c => ⟨_, rfl, wpAny_pure ?_⟩
  have hs' : ({ s with heap := h1 } : Shared).heap.objs.size = s.heap.objs.size := hs
  rw [hs'] at a b ⊢
  exact hQ h' a b fun x o hx q => c x o hx (sb.extBut _ _ hx q)
theorem stop_end (hh : A.handled = none) {α : Type} {R : α → Shared → Prop} (hQ : ∀ e h', (∀ b o, s.heap.get? b = some o → h'.get? b = some o) → (∃ o, h'.get? e = some o ∧ o.cls = .type "StopIteration") → E (.ref e) { s with heap := h' }) :
    wpAny (model prog w) A (Builtin.Itertools.itStop (α := α)) R E s := by
  unfold Builtin.Itertools.itStop
  show wpAny _ _ (newExc (.type "StopIteration") [] >>= _) _ _ _
  refine wpAny_bind ?_
  simp only [newExc, newTuple]
  refine wpAny_bind (wpAny_newObj_type ?_ (by size_fits))
  refine wpAny_bind (m := firstArgMember _ _) (wpAny_of_eq (a := Value.none) (by first | rfl | (simp only [firstArgMember]; rfl)) ?_)
  refine wpAny_newObj_type ?_ (by size_fits)
  simp only [raiseNew]
  refine wpAny_bind (wpAny_handled ?_)
  first | rw [show A.in1.handled = none from hh] | rw [hh]
  refine wpAny_bind (wpAny_pure (wpAny_throw ?_))
  exact hQ _ _ (fun b o e => Heap.get?_push_of_some _ (Heap.get?_push_of_some _ e)) ⟨_, Heap.get?_push_size _ rfl, rfl⟩
/-- what is behind the first: by a function nx, that the model has -/
theorem pm_next_ex : ∃ nx : Nat → Nat → List Nat → List Nat → Option (List Nat × List Nat),
    (∀ n ix cy, nx n 0 ix cy = none) ∧
    (∀ n i ix cy, nx n (i + 1) ix cy = if cy.getD i 0 - 1 == 0 then nx n i (ix.take i ++ ix.drop (i + 1) ++ [ix.getD i 0]) (cy.set i (n - i)) else some ((ix.set i (ix.getD (n - (cy.getD i 0 - 1)) 0)).set (n - (cy.getD i 0 - 1)) (ix.getD i 0), cy.set i (cy.getD i 0 - 1))) ∧
    (∀ {prog : Program} {w : World} {A : Around} {E : Value → Shared → Prop} {s : Shared} {it pool : Addr} {ot : Obj} {its : Array Value} {kk : Nat} {last : Value} {ix cy ix' cy' : List Nat} {r : Nat} {Q : Option Value → Shared → Prop}, IsPm s.heap it pool 1 r last (ix ++ cy) → s.heap.get? pool = some ot → ot.data = .seq its kk → its.size = r → ix.length = r → ix'.length = r → cy'.length ≤ r → r ≤ 1000000 →
      nx r r ix cy = some (ix', cy') →
      (∀ h', IsPm h' it pool 1 r (.ref s.heap.objs.size) (ix' ++ cy') → h'.get? s.heap.objs.size = some { cls := .type "tuple", data := .seq (ix'.map fun i => its.getD i .none).toArray } →
        (∀ b o, b ≠ it → s.heap.get? b = some o → h'.get? b = some o) → Q (some (.ref s.heap.objs.size)) { s with heap := h' }) →
      wpAny (model prog w) A (pyNext (.ref it)) Q E s) ∧
    (∀ {prog : Program} {w : World} {A : Around} {E : Value → Shared → Prop} {s : Shared} {it pool : Addr} {ot : Obj} {its : Array Value} {kk : Nat} {last : Value} {ix cy : List Nat} {r : Nat} {Q : Option Value → Shared → Prop}, A.handled = none → IsPm s.heap it pool 1 r last (ix ++ cy) → s.heap.get? pool = some ot → ot.data = .seq its kk → its.size = r → ix.length = r → r ≤ 1000000 →
      nx r r ix cy = none → (∀ h', (∀ b o, b ≠ it → s.heap.get? b = some o → h'.get? b = some o) → Q none { s with heap := h' }) →
      wpAny (model prog w) A (pyNext (.ref it)) Q E s) := by
  apply Exists.intro
  refine ⟨?e0, ?e1, ?m1, ?m2⟩
  case m1 =>
    intro prog w A E s it pool ot its kk last ix cy ix' cy' r Q hit hp hd hr hix hix' hcy' hz hn hQ
    have hT : s.TypeIs (.ref it) "itertools.permutations" := ⟨_, hit, rfl⟩
    unfold pyNext
    refine wpAny_bind (wpAny_attempt (wpAny_callSpecial?_slot (name := Str.ofString "__next__") hT F.pm_slot_next (wpAny_call_entry F.pm_slot_next hT F.pm_entry_next ?_ (F.pm_args_next _))))
    show wpAny _ _ (field (.ref it) 0 >>= _) _ _ s
    refine wpAny_bind (pm_field hit (pmf0 ..) ?_)
    refine wpAny_bind (pm_pool hp hd ?_)
    refine wpAny_bind (pm_int hit (pmf2 ..) ?_)
    refine wpAny_bind (pm_from hit ?_)
    refine wpAny_bind (pm_int hit (pmf1 ..) ?_)
    have t1 : (ix ++ cy).take r = ix := List.take_left' hix
    have t2 : (ix ++ cy).drop r = cy := List.drop_left' hix
    rw [hr, t1, t2, Int.toNat_natCast]
    dsimp only
    split
    · rename_i h; exact absurd h (by decide)
    · split
      · rename_i heq
        have z := hn.symm.trans heq
        cases z
        unfold Builtin.Itertools.itSetNumbersFrom
        refine wpAny_bind (wpAny_updateFields hit rfl ?_ ?_)
        · have e1 : IsPm (s.heap.update it (Obj.mapFields fun fs => fs.extract 0 4 ++ (List.map (fun (n : Nat) => rawInt n) (ix' ++ cy')).toArray)) it pool 1 r last (ix' ++ cy') := by
            have := Heap.get?_update_self (Obj.mapFields fun fs => fs.extract 0 4 ++ (List.map (fun (n : Nat) => rawInt n) (ix' ++ cy')).toArray) hit rfl
            show _ = _
            rw [this]
            show some _ = some _
            simp only [Obj.mapFields]
            rw [pmsn]
          have sb : Heap.SameBut it s.heap (s.heap.update it (Obj.mapFields fun fs => fs.extract 0 4 ++ (List.map (fun (n : Nat) => rawInt n) (ix' ++ cy')).toArray)) := Heap.SameBut.update ..
          refine pm_result (s := { s with heap := s.heap.update it (Obj.mapFields fun fs => fs.extract 0 4 ++ (List.map (fun (n : Nat) => rawInt n) (ix' ++ cy')).toArray) }) (ix := ix') e1 (List.take_of_length_le (Nat.le_of_eq hix')) hix' (by rw [sizeLine_eq]; omega) fun h' a b c => ⟨_, rfl, wpAny_pure ?_⟩
          have hs' : ({ s with heap := s.heap.update it (Obj.mapFields fun fs => fs.extract 0 4 ++ (List.map (fun (n : Nat) => rawInt n) (ix' ++ cy')).toArray) } : Shared).heap.objs.size = s.heap.objs.size := sb.1
          rw [hs'] at a b ⊢
          exact hQ h' a b fun x o hx q => c x o hx (sb.extBut _ _ hx q)
        · show ((pmFields pool 1 r last (ix ++ cy)).extract 0 4 ++ (List.map (fun (n : Nat) => rawInt n) (ix' ++ cy')).toArray).size ≤ sizeLine + 3
          rw [pmsn, pmsz, List.length_append, hix', sizeLine_eq]
          omega
      · rename_i heq
        have z := hn.symm.trans heq
        cases z
    · rename_i h; exact absurd rfl h
  case m2 =>
    intro prog w A E s it pool ot its kk last ix cy r Q hh hit hp hd hr hix hz hn hQ
    have hT : s.TypeIs (.ref it) "itertools.permutations" := ⟨_, hit, rfl⟩
    unfold pyNext
    refine wpAny_bind (wpAny_attempt (wpAny_callSpecial?_slot (name := Str.ofString "__next__") hT F.pm_slot_next (wpAny_call_entry F.pm_slot_next hT F.pm_entry_next ?_ (F.pm_args_next _))))
    show wpAny _ _ (field (.ref it) 0 >>= _) _ _ s
    refine wpAny_bind (pm_field hit (pmf0 ..) ?_)
    refine wpAny_bind (pm_pool hp hd ?_)
    refine wpAny_bind (pm_int hit (pmf2 ..) ?_)
    refine wpAny_bind (pm_from hit ?_)
    refine wpAny_bind (pm_int hit (pmf1 ..) ?_)
    have t1 : (ix ++ cy).take r = ix := List.take_left' hix
    have t2 : (ix ++ cy).drop r = cy := List.drop_left' hix
    rw [hr, t1, t2, Int.toNat_natCast]
    dsimp only
    split
    · rename_i h; exact absurd h (by decide)
    · split
      · rename_i heq
        have z := hn.symm.trans heq
        cases z
      · refine wpAny_bind (wpAny_setField_rec hit (by rw [pmsz]; omega) fun h1 e1 sb => ?_)
        refine stop_end (A := A.in1) (s := { s with heap := h1 }) hh fun e h' k he => ?_
        obtain ⟨o, ho, hc⟩ := he
        refine wpAny_bind (wpAny_isInstance (T := "StopIteration") (b := true) ⟨o, ho, hc⟩ isSubtype_stop ?_)
        exact wpAny_pure (hQ h' fun b o hb q => k b o (sb.extBut _ _ hb q))
    · rename_i h; exact absurd rfl h
  case e0 => intro n ix cy; rfl
  case e1 => intro n i ix cy; rfl
end
end PySem

namespace PySem
open Sem (wp)
section
variable {prog : Program} {w : World} {A : Around} {E : Value → Shared → Prop} {s : Shared}
theorem pm_fields_eq (pool : Addr) (n : Nat) : ([Value.ref pool, rawInt (if n > n then 2 else 0), rawInt n, .none] ++ (List.range n).map (fun (i : Nat) => rawInt i) ++ (List.range n).map (fun (i : Nat) => rawInt ((n : Int) - i))).toArray = pmFields pool 0 n .none (List.range n ++ (List.range n).map fun i => n - i) := by
  apply Array.ext'
  unfold pmFields pmNums
  have h : (List.range n).map (fun (i : Nat) => rawInt ((n : Int) - i)) = (List.range n).map (fun i => rawInt ((n - i : Nat) : Int)) := by
    apply List.map_congr_left
    intro i hi
    have := List.mem_range.mp hi
    congr 1
    omega
  rw [h, if_neg (by omega)]
  simp [List.map_map, Function.comp]
theorem pm_plain_new : plainId "itertools.permutations.__new__" = true := by decide +kernel
theorem code_pm_new {x : Value} {P : List Value → Prop} {Q₁ : Value → Shared → Prop} (hh : A.handled = none)
    (hcol : ∀ (A' : Around) (E' : Value → Shared → Prop) (Q' : List Value → Shared → Prop), A'.handled = none → (∀ (h' : Heap) (tk : Nat) (its : List Value), (∀ b o, s.heap.get? b = some o → h'.get? b = some o) → P its → Q' its { s with heap := h', toks := tk }) → wpAny (model prog w) A' (collect x) Q' E' s)
    (hz : ∀ its, P its → its.length ≤ 1000)
    (h : ∀ (h' : Heap) (tk : Nat) (its : List Value), (∀ b o, s.heap.get? b = some o → h'.get? b = some o) → P its →
      Q₁ (.ref (h'.objs.size + 1)) { s with heap := (h'.push { cls := .type "tuple", data := .seq its.toArray }).push { cls := .type "itertools.permutations", data := .fields (pmFields h'.objs.size 0 its.length .none (List.range its.length ++ (List.range its.length).map fun i => its.length - i)) }, toks := tk }) :
    codeAny (model prog w) A (.call (.builtin "itertools.permutations.__new__") ⟨[.type "itertools.permutations", x], []⟩) (wants Q₁ E) s := by
  refine codeAny_of_tree ?_
  show wpAny _ A.in1 (do checkBuiltinCall "itertools.permutations.__new__" ⟨[.type "itertools.permutations", x], []⟩; again (.builtin "itertools.permutations.__new__" ⟨[.type "itertools.permutations", x], []⟩)) _ _ s
  refine wpAny_bind (wpAny_of_eq (F.pm_newCall _) (wpAny_pure ⟨plainId_quiet pm_plain_new _, codeAny_builtin F.pm_entry_new ?_⟩))
  rw [Around.under_plainId pm_plain_new _]
  have hsub := F.pm_sub
  have hnd := F.pm_noDict
  have hh1 : A.in1.handled = none := hh
  unfold Builtin.«itertools.permutations.__new__»
  have hb : Builtin.Itertools.itBindNamed "permutations" ["iterable", "r"] 1 2 [x] [] = pure [some x, none] := by rfl
  unfold Builtin.Itertools.itClassAndRest
  have q1 : ∀ {A' : Around} {E' : Value → Shared → Prop} {Q' : List Value → Shared → Prop}, A'.handled = none → (∀ (h' : Heap) (tk : Nat) (its : List Value), (∀ b o, s.heap.get? b = some o → h'.get? b = some o) → P its → Q' its { s with heap := h', toks := tk }) → wpAny (model prog w) A' (collect x) Q' E' s := fun a b => hcol _ _ _ a b
  wp_walk using q1 hh1
  have es : ("itertools." ++ "permutations" : String) = "itertools.permutations" := by decide +kernel
  refine wpAny_of_eq (a := true) (by rw [es]; exact hsub) ?_
  show wpAny _ _ (pure (Value.type "itertools.permutations", [x])) _ _ s
  refine wpAny_pure ?_
  show wpAny _ _ (Builtin.Itertools.itBindNamed "permutations" ["iterable", "r"] 1 2 [x] [] >>= _) _ _ s
  refine wpAny_bind (wpAny_of_eq hb ?_)
  show wpAny _ _ (collect x >>= _) _ _ s
  refine wpAny_bind (q1 hh1 fun h' tk its hk hP => ?_)
  have hn := hz its hP
  dsimp only [Option.getD]
  refine wpAny_bind (wpAny_pure ?_)
  rw [if_neg (by omega)]
  rw [if_neg (by unfold Builtin.Itertools.itTooMany; simp; omega)]
  refine wpAny_bind (wpAny_newTuple ?_ (by rw [sizeLine_eq]; omega))
  unfold Builtin.Itertools.itNewRecord
  rw [if_pos (by rw [hnd]; rfl)]
  simp only [Int.toNat_natCast]
  rw [pm_fields_eq]
  refine wpAny_bind (wpAny_newObj_type (wpAny_pure ?_) ?_)
  have e : (h'.push { cls := .type "tuple", data := .seq its.toArray }).objs.size = h'.objs.size + 1 := by rw [Heap.size_push]
  have := h h' tk its hk hP
  rw [← e] at this
  exact this
  · unfold sizeOk
    simp only [pmsz, List.length_append, List.length_map, List.length_range]
    rw [sizeLine_eq]
    omega
theorem call_pm {x : Value} {P : List Value → Prop} {Q : Value → Shared → Prop} (hh : A.handled = none)
    (hcol : ∀ (A' : Around) (E' : Value → Shared → Prop) (Q' : List Value → Shared → Prop), A'.handled = none → (∀ (h' : Heap) (tk : Nat) (its : List Value), (∀ b o, s.heap.get? b = some o → h'.get? b = some o) → P its → Q' its { s with heap := h', toks := tk }) → wpAny (model prog w) A' (collect x) Q' E' s)
    (hz : ∀ its, P its → its.length ≤ 1000)
    (h : ∀ (h0 h' : Heap) (tk : Nat) (its : List Value), P its → (∀ b o, s.heap.get? b = some o → h0.get? b = some o) → (∀ b o, h0.get? b = some o → h'.get? b = some o) → IsPm h' (h0.objs.size + 1) h0.objs.size 0 its.length .none (List.range its.length ++ (List.range its.length).map fun i => its.length - i) →
      h'.get? h0.objs.size = some { cls := .type "tuple", data := .seq its.toArray } → Q (.ref (h0.objs.size + 1)) { s with heap := h', toks := tk }) :
    wpAny (model prog w) A (call (.type "itertools.permutations") [x]) Q E s := by
  refine callType_codes (Q₁ := fun obj s₁ => s₁.TypeIs obj "itertools.permutations" ∧ Q obj s₁) F.pm_called (F.pm_typeCall _) F.entry_object_init
    (code_pm_new (A := A.in1) hh hcol hz fun h' tk its hk hP => ?_) fun obj s₁ h₁ => ?_
  · have hp : ((h'.push { cls := .type "tuple", data := .seq its.toArray }).push { cls := .type "itertools.permutations", data := .fields (pmFields h'.objs.size 0 its.length .none (List.range its.length ++ (List.range its.length).map fun i => its.length - i)) }).get? h'.objs.size = some { cls := .type "tuple", data := .seq its.toArray } := Heap.get?_push_of_some _ (Heap.get?_push_size _ rfl)
    have hi : IsPm ((h'.push { cls := .type "tuple", data := .seq its.toArray }).push { cls := .type "itertools.permutations", data := .fields (pmFields h'.objs.size 0 its.length .none (List.range its.length ++ (List.range its.length).map fun i => its.length - i)) }) (h'.objs.size + 1) h'.objs.size 0 its.length .none (List.range its.length ++ (List.range its.length).map fun i => its.length - i) := by
      have := Heap.get?_push_size (h'.push { cls := .type "tuple", data := .seq its.toArray }) (o := { cls := .type "itertools.permutations", data := .fields (pmFields h'.objs.size 0 its.length .none (List.range its.length ++ (List.range its.length).map fun i => its.length - i)) }) rfl
      rw [Heap.size_push] at this
      exact this
    exact ⟨⟨_, hi, rfl⟩, h h' _ tk its hP hk (fun b o e => Heap.get?_push_of_some _ (Heap.get?_push_of_some _ e)) hi hp⟩
  · exact ⟨h₁.1, F.args_object_init_2 obj _, object_init_meets F.pm_called.init.lookup F.pm_called.made (by decide) prog w A.in1 _ s₁ ⟨h₁.1, rfl, h₁.2⟩⟩
end
end PySem

namespace LW
open PySem PySem.Spec PyProof.Rows L2
open PySem (IsPm)
/-! ### permutations(v), walked -/
def pmNx (n : Nat) : Nat → List Nat → List Nat → Option (List Nat × List Nat)
  | 0, _, _ => none
  | i + 1, ix, cy => bif (cy.getD i 0 - 1 == 0) then pmNx n i (ix.take i ++ ix.drop (i + 1) ++ [ix.getD i 0]) (cy.set i (n - i)) else some ((ix.set i (ix.getD (n - (cy.getD i 0 - 1)) 0)).set (n - (cy.getD i 0 - 1)) (ix.getD i 0), cy.set i (cy.getD i 0 - 1))
theorem nx_is {nx : Nat → Nat → List Nat → List Nat → Option (List Nat × List Nat)} (e0 : ∀ n ix cy, nx n 0 ix cy = none)
    (e1 : ∀ n i ix cy, nx n (i + 1) ix cy = if cy.getD i 0 - 1 == 0 then nx n i (ix.take i ++ ix.drop (i + 1) ++ [ix.getD i 0]) (cy.set i (n - i)) else some ((ix.set i (ix.getD (n - (cy.getD i 0 - 1)) 0)).set (n - (cy.getD i 0 - 1)) (ix.getD i 0), cy.set i (cy.getD i 0 - 1))) :
    ∀ (n i : Nat) (ix cy : List Nat), nx n i ix cy = pmNx n i ix cy
  | n, 0, ix, cy => by rw [e0]; rfl
  | n, i + 1, ix, cy => by
    rw [e1]
    unfold pmNx
    cases h : (cy.getD i 0 - 1 == 0) with
    | true => rw [if_pos rfl]; exact nx_is e0 e1 n i _ _
    | false => rw [if_neg (by decide)]; rfl
theorem pmNx_len {n : Nat} : ∀ {i : Nat} {ix cy ix' cy' : List Nat}, i ≤ ix.length → pmNx n i ix cy = some (ix', cy') → ix'.length = ix.length ∧ cy'.length = cy.length
  | 0, _, _, _, _, _, h => by cases h
  | i + 1, ix, cy, ix', cy', hi, h => by
    unfold pmNx at h
    cases c : (cy.getD i 0 - 1 == 0) with
    | true =>
      rw [c] at h
      have hl : (ix.take i ++ ix.drop (i + 1) ++ [ix.getD i 0]).length = ix.length := by simp; omega
      obtain ⟨a, b⟩ := pmNx_len (by rw [hl]; omega) h
      exact ⟨by rw [a, hl], by rw [b]; simp⟩
    | false =>
      rw [c] at h
      simp only [cond_false, Option.some.injEq, Prod.mk.injEq] at h
      obtain ⟨rfl, rfl⟩ := h
      exact ⟨by simp, by simp⟩
inductive PmRun (n : Nat) : List Nat → List Nat → List (List Nat) → Prop
  | last {ix cy : List Nat} : pmNx n n ix cy = none → PmRun n ix cy [ix]
  | more {ix cy ix' cy' : List Nat} {L : List (List Nat)} : pmNx n n ix cy = some (ix', cy') → PmRun n ix' cy' L → PmRun n ix cy (ix :: L)
theorem PmRun.head {n : Nat} {ix cy : List Nat} {L : List (List Nat)} (r : PmRun n ix cy L) : ∃ L', L = ix :: L' := by
  cases r with
  | last h => exact ⟨[], rfl⟩
  | more h _ => exact ⟨_, rfl⟩
def pmAll (n : Nat) : Nat → List Nat → List Nat → Option (List (List Nat))
  | 0, _, _ => none
  | f + 1, ix, cy => match pmNx n n ix cy with
    | none => some [ix]
    | some p => (match pmAll n f p.1 p.2 with
      | some L => some (ix :: L)
      | none => none)
theorem pmAll_run {n : Nat} : ∀ {f : Nat} {ix cy : List Nat} {L : List (List Nat)}, pmAll n f ix cy = some L → PmRun n ix cy L
  | 0, _, _, _, h => by cases h
  | f + 1, ix, cy, L, h => by
    unfold pmAll at h
    cases e : pmNx n n ix cy with
    | none => rw [e] at h; cases h; exact .last e
    | some p =>
      rw [e] at h
      dsimp only at h
      cases e2 : pmAll n f p.1 p.2 with
      | none => rw [e2] at h; cases h
      | some L' => rw [e2] at h; cases h; exact .more e (pmAll_run e2)
def pickV (xs : List V) (ix : List Nat) : List V := ix.map fun j => xs.getD j .non
theorem vals_pick {xs : List V} {its : List Value} (r : Vals xs its) : ∀ ix : List Nat, Vals (pickV xs ix) (ix.map fun j => its.toArray.getD j .none)
  | [] => .nil
  | j :: l => by
    refine .cons ?_ (vals_pick r l)
    have hl := r.length
    by_cases h : j < xs.length
    · obtain ⟨u, hu, ru⟩ := r.get (List.getElem?_eq_getElem h)
      have e1 : xs.getD j .non = xs[j] := by simp [List.getD, List.getElem?_eq_getElem h]
      have e2 : its.toArray.getD j .none = u := by
        have h' : j < its.length := by omega
        have : its[j]? = some its[j] := List.getElem?_eq_getElem h'
        rw [this] at hu
        cases hu
        simp [Array.getD, h']
      show RelV (xs.getD j .non) (its.toArray.getD j .none)
      rw [e1, e2]
      exact ru
    · have h' : ¬ j < its.length := by omega
      have e1 : xs.getD j .non = .non := by simp [List.getD, List.getElem?_eq_none (Nat.le_of_not_lt h)]
      have e2 : its.toArray.getD j .none = .none := by simp [Array.getD, h']
      show RelV (xs.getD j .non) (its.toArray.getD j .none)
      rw [e1, e2]
      exact rfl
def ItPm (xs : List V) (L : List (List Nat)) : It := ⟨fun i _ => i < L.length, fun i H x H' => ∃ T o ix, L[i]? = some ix ∧ x = .ref T ∧ H T = none ∧ H' = upd H T (.frz o (.tup (pickV xs ix))) ∧ o.cls = .type "tuple" ∧ o.dict = none, fun i _ => i = L.length⟩
def pmTn (pool it : Addr) (its : List Value) (L : List (List Nat)) (i : Nat) (h : Heap) : Prop :=
  h.get? pool = some { cls := .type "tuple", data := .seq its.toArray } ∧ ∃ last ix cy L', L.drop (i - 1) = ix :: L' ∧ PmRun its.length ix cy (ix :: L') ∧ ix.length = its.length ∧ cy.length ≤ its.length ∧ IsPm h it pool (if i = 0 then 0 else 1) its.length last (ix ++ cy)
theorem turn_pm {P : Program} {w : World} {K : PySem.W.Frag} {tg : Expr} {xs : List V} {its : List Value} {L : List (List Nat)} (it pool : Addr) (hne : pool ≠ it) (rv : Vals xs its) (hz : its.length ≤ 1000) : Turn P w K tg (ItPm xs L) [it, pool] it (pmTn pool it its L) where
  mem := by simp
  obj := fun i h st b hb => by
    obtain ⟨hp, last, ix, cy, L', _, _, _, _, hi⟩ := st
    have e' : b = it ∨ b = pool := by simpa using hb
    rcases e' with z | z
    · rw [z]; exact ⟨_, hi, fun v q => nomatch q⟩
    · rw [z]; exact ⟨_, hp, fun v q => nomatch q⟩
  keep := fun i h h' st k => by
    obtain ⟨hp, last, ix, cy, L', a, b, c, d, hi⟩ := st
    exact ⟨k pool (by simp) _ hp, last, ix, cy, L', a, b, c, d, k it (by simp) _ hi⟩
  item := by
    intro X hP hw hK hc i pins s σ H E I hf st hg
    subst hP hw hK
    obtain ⟨hp, last, ix, cy, L', hd, run, hix, hcy, hi⟩ := st
    obtain ⟨nx, e0, e1, m1, m2⟩ := PySem.pm_next_ex
    have hlt : i < L.length := hg
    have szl : its.length ≤ sizeLine := by rw [sizeLine_eq]; omega
    have fin : ∀ (h' : Heap) (ix' cy' : List Nat) (L'' : List (List Nat)), L[i]? = some ix' → L.drop i = ix' :: L'' → PmRun its.length ix' cy' (ix' :: L'') → ix'.length = its.length → cy'.length ≤ its.length → IsPm h' it pool 1 its.length (.ref s.heap.objs.size) (ix' ++ cy') →
        h'.get? s.heap.objs.size = some { cls := .type "tuple", data := .seq (ix'.map fun i => its.toArray.getD i .none).toArray } → (∀ b o, b ≠ it → s.heap.get? b = some o → h'.get? b = some o) →
        ∃ u, some (Value.ref s.heap.objs.size) = some u ∧ wpAny (model X.prog X.w) X.A (letOwnedTupleGo tg (.ref it) u) (fun _ s2 => ∃ x H', Inv X pins σ H' s2 ∧ RelV x u ∧ (ItPm xs L).yld i H x H' ∧ pmTn pool it its L (i + 1) s2.heap ∧ ∀ b ∈ [it, pool], H' b = none) E { s with heap := h' } := by
      intro h' ix' cy' L'' hL hdrop run' hix' hcy' hi' hT hk
      refine ⟨_, rfl, go_of (s := { s with heap := h' }) hi' rfl rfl (by decide) ?_⟩
      have hpl : pool < s.heap.objs.size := Heap.lt_size hp
      have hil : it < s.heap.objs.size := Heap.lt_size hi
      have new : ObjOk X.prog X.w (upd H s.heap.objs.size (.frz { cls := .type "tuple", data := .seq (ix'.map fun i => its.toArray.getD i .none).toArray } (.tup (pickV xs ix')))) h' s.heap.objs.size (.frz { cls := .type "tuple", data := .seq (ix'.map fun i => its.toArray.getD i .none).toArray } (.tup (pickV xs ix'))) := by
        refine ⟨hT, ?_, _, vals_pick rv ix', ⟨_, hT, rfl, _, rfl⟩⟩
        unfold pickV
        rw [List.length_map, hix']
        exact szl
      have I1 : Inv X pins σ (upd H s.heap.objs.size (.frz { cls := .type "tuple", data := .seq (ix'.map fun i => its.toArray.getD i .none).toArray } (.tup (pickV xs ix')))) { s with heap := h' } :=
        I.turnedNew (t' := s.toks) (ch := [it]) (fun b o hb q => hk b o (by simpa using hb) q) (fun b hb => hf b (by rw [List.mem_singleton.mp hb]; simp)) (Nat.le_refl _) new
      refine ⟨.ref s.heap.objs.size, _, I1, rfl, ⟨_, _, ix', hL, rfl, I.hok.fresh (Nat.le_refl _), rfl, rfl, rfl⟩, ⟨hk _ _ hne hp, .ref s.heap.objs.size, ix', cy', L'', hdrop, run', hix', hcy', ?_⟩, fun b hb => ?_⟩
      · rw [if_neg (Nat.succ_ne_zero i)]; exact hi'
      · have e' : b = it ∨ b = pool := by simpa using hb
        have hb' : b < s.heap.objs.size := by
          rcases e' with z | z
          · rw [z]; exact hil
          · rw [z]; exact hpl
        rw [upd_ne (Nat.ne_of_lt hb')]
        exact (hf b hb).1
    cases i with
    | zero =>
      have hd0 : L = ix :: L' := hd
      exact PySem.pm_next_first hi hp rfl (by rw [List.size_toArray]) hix szl fun h' a b c => fin h' ix cy L' (by rw [hd0]; rfl) hd run hix hcy a b c
    | succ i =>
      rw [if_neg (Nat.succ_ne_zero i)] at hi
      have hd' : L.drop i = ix :: L' := hd
      have hL : L.length = i + (L'.length + 1) := by
        have := congrArg List.length hd'
        rw [List.length_drop, List.length_cons] at this
        omega
      cases run with
      | last h => exfalso; simp at hL; omega
      | @more _ _ ix' cy' _ hn run' =>
        obtain ⟨L'', rfl⟩ := run'.head
        obtain ⟨l1, l2⟩ := pmNx_len (Nat.le_of_eq hix.symm) hn
        have hdrop : L.drop (i + 1) = ix' :: L'' := by
          have : L.drop (i + 1) = (L.drop i).drop 1 := by rw [List.drop_drop]
          rw [this, hd']
          rfl
        have hget : L[i + 1]? = some ix' := by
          have := congrArg List.head? hdrop
          rw [List.head?_drop] at this
          exact this
        refine m1 hi hp rfl (by rw [List.size_toArray]) hix (by rw [l1, hix]) (by rw [l2]; exact hcy) (by omega) (by rw [nx_is e0 e1]; exact hn) fun h' a b c => fin h' ix' cy' L'' hget hdrop run' (by rw [l1, hix]) (by rw [l2]; exact hcy) a b c
  done := by
    intro X hP hw hK hc i pins s σ H E I hf st hg
    subst hP hw hK
    obtain ⟨hp, last, ix, cy, L', hd, run, hix, hcy, hi⟩ := st
    obtain ⟨nx, e0, e1, m1, m2⟩ := PySem.pm_next_ex
    obtain ⟨f0, f1, f2, f3, f4, f5⟩ := hf it (by simp)
    have hg : i = L.length := hg
    cases i with
    | zero => exfalso; have hd : L.drop 0 = ix :: L' := hd; rw [List.drop_zero] at hd; rw [hd] at hg; simp at hg
    | succ i =>
      rw [if_neg (Nat.succ_ne_zero i)] at hi
      have hd' : L.drop i = ix :: L' := hd
      have hL : L.length = i + (L'.length + 1) := by
        have := congrArg List.length hd'
        rw [List.length_drop, List.length_cons] at this
        omega
      cases run with
      | last h => exact m2 (I.ok.hd hc) hi hp rfl (by rw [List.size_toArray]) hix (by omega) (by rw [nx_is e0 e1]; exact h) fun h' k => ⟨rfl, I.turned (t' := s.toks) (fun b o hb q => k b o hb q) f0 f1 f3 f4 f5⟩
      | more hn run' =>
        obtain ⟨L'', rfl⟩ := run'.head
        exfalso
        simp at hL
        omega
  self := fun A i s Q E st h => by
    obtain ⟨hp, last, ix, cy, L', hd, run, hix, hcy, hi⟩ := st
    exact PySem.pm_iter hi h
end LW

namespace LW
open PySem PySem.Spec PyProof.Rows L2
/-! ### for order in permutations(..) -/
def cyc (n : Nat) : List Nat := (List.range n).map fun i => n - i
def iPmR (te : L2.St → Hp → (Int → Int → Hp → Prop) → Prop) : TI := fun σ H R => te σ H fun a b H1 => RgOk a b ∧ (b - a).toNat ≤ 1000 ∧ ∃ L, PmRun (b - a).toNat (List.range (b - a).toNat) (cyc (b - a).toNat) L ∧ R (ItPm (rgV a b) L) H1
def iPmV (K : PySem.W.Frag) (te : TE) : TI := fun σ H R => te σ H fun v H1 => ∃ a xs L, v = .ref a ∧ (SqL K H1 a xs ∨ SqT K H1 a xs) ∧ xs.length ≤ 1000 ∧ PmRun xs.length (List.range xs.length) (cyc xs.length) L ∧ R (ItPm xs L) H1
section
variable {X : Cx} {tg e : Expr} {x : Str} {p pos : Pos}
theorem pm_start {pins : List (Addr × Obj)} {s : Shared} {σ : L2.St} {H : Hp} {R : It → Hp → Prop} {u : Value} {xs : List V} {L : List (List Nat)} (hc : X.calm = true) (I : Inv X pins σ H s)
    (hcol : ∀ (A' : Around) (E' : Value → Shared → Prop) (Q' : List Value → Shared → Prop), A'.handled = none → (∀ (h' : Heap) (tk : Nat) (its : List Value), (∀ b o, s.heap.get? b = some o → h'.get? b = some o) → Vals xs its → Q' its { s with heap := h', toks := tk }) → wpAny (model X.prog X.w) A' (collect u) Q' E' s)
    (hz : xs.length ≤ 1000) (run : PmRun xs.length (List.range xs.length) (cyc xs.length) L) (q : R (ItPm xs L) H) :
    wpAny (model X.prog X.w) X.A (call (.type "itertools.permutations") [u]) (fun v s1 => wpAny (model X.prog X.w) X.A (pyIter v) (PIE X pins σ tg R) X.xe s1) X.xe s := by
  refine PySem.call_pm (P := fun its => Vals xs its) (I.ok.hd hc) hcol (fun its r => by rw [← r.length]; exact hz) fun h0 h' tk its rv k0 k1 hi hp => PySem.pm_iter hi ?_
  have I0 : Inv X pins σ H { s with heap := h0 } := I.kept (t' := s.toks) k0
  have I1 : Inv X pins σ H { s with heap := h', toks := tk } := I0.kept (t' := tk) k1
  have hl : xs.length = its.length := rv.length
  have hne : h0.objs.size ≠ h0.objs.size + 1 := Nat.ne_of_lt (Nat.lt_succ_self _)
  obtain ⟨L', hL⟩ := run.head
  rw [hl] at run
  refine ⟨h0.objs.size + 1, [h0.objs.size + 1, h0.objs.size], _, _, H, rfl, I1, turn_pm (h0.objs.size + 1) h0.objs.size hne rv (by rw [← hl]; exact hz), ⟨hp, .none, List.range its.length, cyc its.length, L', ?_, ?_, by rw [List.length_range], by unfold cyc; rw [List.length_map, List.length_range]; exact Nat.le_refl _, ?_⟩, fun b hb => ?_, q⟩
  · rw [← hl]; exact hL
  · rw [← hl] at run ⊢; rw [← hL]; exact run
  · rw [if_pos rfl]; exact hi
  · have e' : b = h0.objs.size + 1 ∨ b = h0.objs.size := by simpa using hb
    have hle : h0.objs.size ≤ b := by
      rcases e' with z | z
      · rw [z]; exact Nat.le_add_right _ _
      · rw [z]; exact Nat.le_refl _
    exact I0.fpOk hle (I0.hok.fresh hle)
theorem pi_pmR {te : L2.St → Hp → (Int → Int → Hp → Prop) → Prop} (hc : X.calm = true) (hg : Gl X x) (hm : X.mg x = some (.type "itertools.permutations")) (he : PRg X e te) (na : starEach [e] X.env = (false, eval e X.env) :: starEach [] X.env := by rfl) (hdb : (x == ("__debug__" : Str)) = false := by decide) :
    PI X tg (.Call (.Name x p) [e] [] pos) (iPmR te) := by
  refine ⟨fun pins s σ H R I h => ?_⟩
  refine wpAny_Call_Name_kw (ld_glob I hg hm ?_ hdb)
  refine PyProof.Rows.callWith_type1 (args_cons (thn (he pins s σ H _ I h) fun y s1 ⟨r, a, b, t, u, v, H1, ex, hr, I1, ok, hz, L, run, q⟩ => args_nil ?_) na) na
  subst ex
  obtain ⟨b1, b2, b3, b4, b5⟩ := ok
  rw [← rgV_length a b] at hz run
  refine pm_start hc I1 (fun A' E' Q' hA k => ?_) hz run q
  refine collect_range (n := (b - a).toNat) hA hr (small_one b1 b2 b3 b4) (rangeSize_nat a b) b5 fun h' tk acc hk hi => k h' tk acc.toList hk (vals_rg hi)
theorem pi_pmV {te : TE} (hc : X.calm = true) (hg : Gl X x) (hm : X.mg x = some (.type "itertools.permutations")) (he : PE X e te) (na : starEach [e] X.env = (false, eval e X.env) :: starEach [] X.env := by rfl) (hdb : (x == ("__debug__" : Str)) = false := by decide) :
    PI X tg (.Call (.Name x p) [e] [] pos) (iPmV X.K te) := by
  refine ⟨fun pins s σ H R I h => ?_⟩
  refine wpAny_Call_Name_kw (ld_glob I hg hm ?_ hdb)
  refine PyProof.Rows.callWith_type1 (args_cons (thn (he.run pins s σ H _ I h) fun y s1 ⟨v, H1, I1, r, a, xs, L, ev, hq, hz, run, q⟩ => args_nil ?_) na) na
  subst ev
  cases r
  refine pm_start hc I1 (fun A' E' Q' hA k => ?_) hz run q
  rcases hq with hq | hq
  · obtain ⟨its, rv, ⟨o, n, ho, hcl, hd, hdt⟩, hle⟩ := I1.list hq
    exact wpAny_collect_seq a (.inl rfl) ho hcl hdt (fun h' kp => k h' s1.toks its kp rv) (by rw [List.size_toArray, ← rv.length]; exact hle)
  · obtain ⟨its, rv, ⟨o, ho, hcl, n, hd⟩, hle⟩ := I1.tuple hq
    exact wpAny_collect_seq a (.inr rfl) ho hcl hd (fun h' kp => k h' s1.toks its kp rv) (by rw [List.size_toArray, ← rv.length]; exact hle)
end
/-! as data -/
def pickD (ds : List PyData) (ix : List Nat) : List PyData := ix.map fun j => ds.getD j .none
def permsD (ds : List PyData) (k : List PyData → R (List PyData)) : R (List PyData) := match Nat.ble ds.length 7 with
  | true => (match pmAll ds.length 6000 (List.range ds.length) (cyc ds.length) with
    | some L => k (L.map fun ix => .tuple (pickD ds ix))
    | none => .stuck)
  | false => .stuck
section
variable {K : PySem.W.Frag} {mu : Mu} {G0 H0 G H G' H' H1 : Hp} {env env' : LEnv} {σ σ' : L2.St} {C : Cl} {E : XK} {X : Cx}
theorem rpa_pick {xs : List V} {ds : List PyData} (r : RpA K G xs ds) : ∀ ix : List Nat, RpA K G (pickV xs ix) (pickD ds ix)
  | [] => .nil
  | j :: l => by
    refine .cons ?_ (rpa_pick r l)
    show Rp K G (xs.getD j .non) (ds.getD j .none)
    have hl := r.length
    by_cases h : j < ds.length
    · obtain ⟨v, hv, rv⟩ := r.get (List.getElem?_eq_getElem h)
      have e1 : xs.getD j .non = v := by simp [List.getD, hv]
      have e2 : ds.getD j .none = ds[j] := by simp [List.getD, List.getElem?_eq_getElem h]
      rw [e1, e2]; exact rv
    · have e1 : xs.getD j .non = .non := by simp [List.getD, List.getElem?_eq_none (show xs.length ≤ j by omega)]
      have e2 : ds.getD j .none = .none := by simp [List.getD, List.getElem?_eq_none (Nat.le_of_not_lt h)]
      rw [e1, e2]; exact .non
theorem itok_pm {xs : List V} {ds : List PyData} {L : List (List Nat)} (r : RpA K G xs ds) : ItOkN K (ItPm xs L) G (L.map fun ix => .tuple (pickD ds ix)) where
  go := fun i H s lt => by rw [List.length_map] at lt; exact lt
  st := fun i H s e => by rw [List.length_map] at e; exact e
  yl := fun i H x H' s y lt => by
    obtain ⟨T, o, ix, e1, e2, e3, e4, e5, e6⟩ := y
    exact ⟨T, o, pickV xs ix, pickD ds ix, e2, e3, e4, e5, e6, by rw [List.getElem?_map, e1]; rfl, rpa_pick r ix⟩
def miPmR (f : M) : MA := fun env => (f env).bind fun p => match p.2 with
  | .int j => gd (near j) (lif p.1 (permsD (upFrom 0 j.toNat) .ok))
  | _ => .stuck
theorem permsD_of {β : Type} {Rl : Hp → β → List PyData → Prop} {ds : List PyData} {k : List PyData → R (List PyData)} {e : LEnv} {Q : β → Hp → Prop} (h : Post Rl K C E mu G0 H0 σ G (lif e (permsD ds k)) Q) :
    ∃ L, ds.length ≤ 7 ∧ PmRun ds.length (List.range ds.length) (cyc ds.length) L ∧ Post Rl K C E mu G0 H0 σ G (lif e (k (L.map fun ix => .tuple (pickD ds ix)))) Q := by
  unfold permsD at h
  cases c : Nat.ble ds.length 7 with
  | false => rw [c] at h; exact h.elim
  | true =>
    rw [c] at h
    dsimp only at h
    cases r : pmAll ds.length 6000 (List.range ds.length) (cyc ds.length) with
    | none => rw [r] at h; exact h.elim
    | some L => rw [r] at h; exact ⟨L, Nat.le_of_ble_eq_true c, pmAll_run r, h⟩
structure IN (X : Cx) (C : Cl) (E : XK) (tg e : Expr) (wi : TI) (ma : MA) : Prop where
  pe : PI X tg e wi
  sd : SndIN X.K C E wi ma
theorem sndin_pmR {te : TE} {f : M} (h : Snd K C E te f) : SndIN K C E (iPmR (tRg1 te)) (miPmR f) := by
  intro mu G0 H0 env σ G H R S hh
  refine h _ _ _ _ _ _ _ _ S (Post.bind (Rl1 := RlE K) hh fun p x G1 H1 S1 s1 r1 h1 => ?_)
  obtain ⟨e, d⟩ := p
  cases r1 <;> first | exact h1.elim | skip
  rename_i n
  obtain ⟨c, h1⟩ := Post.gd h1
  obtain ⟨L, hz, run, h1⟩ := permsD_of h1
  have ez : (n - 0).toNat = n.toNat := by rw [Int.sub_zero]
  rw [upFrom_length] at hz run
  refine ⟨n, rfl, rgok rfl c, by rw [ez]; omega, L, by rw [ez]; exact run, ?_⟩
  rw [rg_up, ez]
  exact h1 _ G1 H1 S1 (.refl _) (itok_pm (rpa_up 0 n.toNat))
theorem in_pmR {tg a : Expr} {ta : TE} {f : M} {x : Str} {p q pos pos2 : Pos} (hc : X.calm = true) (hgl : Gl X x) (hml : X.mg x = some (.type "itertools.permutations")) (hg : Gl X "range") (hm : X.mg "range" = none) (h : ED X C E a ta f)
    (n1 : starEach [a] X.env = (false, eval a X.env) :: starEach [] X.env := by rfl) (n2 : starEach [Expr.Call (.Name "range" q) [a] [] pos2] X.env = (false, eval (Expr.Call (.Name "range" q) [a] [] pos2) X.env) :: starEach [] X.env := by rfl) (hdb : (x == ("__debug__" : Str)) = false := by decide) :
    IN X C E tg (.Call (.Name x p) [.Call (.Name "range" q) [a] [] pos2] [] pos) (iPmR (tRg1 ta)) (miPmR f) := ⟨pi_pmR hc hgl hml (prg_1 hg hm h.pe n1) n2 hdb, sndin_pmR h.sd⟩
def miPmV (f : M) : MA := fun env => (f env).bind fun p => match p.2 with
  | .list ds => lif p.1 (permsD ds .ok)
  | .tuple ds => lif p.1 (permsD ds .ok)
  | _ => .stuck
theorem sndin_pmV {te : TE} {f : M} (h : Snd K C E te f) : SndIN K C E (iPmV K te) (miPmV f) := by
  intro mu G0 H0 env σ G H R S hh
  refine h _ _ _ _ _ _ _ _ S (Post.bind (Rl1 := RlE K) hh fun p x G1 H1 S1 s1 r1 h1 => ?_)
  obtain ⟨e, d⟩ := p
  cases r1 with
  | lst a b =>
    obtain ⟨L, hz, run, h1⟩ := permsD_of h1
    rw [← b.length] at hz run
    exact ⟨_, _, L, rfl, .inl (SqL.of (S1.sub _ _ a)), by omega, run, h1 _ G1 H1 S1 (.refl _) (itok_pm b)⟩
  | tup a b =>
    obtain ⟨L, hz, run, h1⟩ := permsD_of h1
    rw [← b.length] at hz run
    exact ⟨_, _, L, rfl, .inr (sqt_same S1.sub a), by omega, run, h1 _ G1 H1 S1 (.refl _) (itok_pm b)⟩
  | _ => exact h1.elim
theorem in_pmV {tg a : Expr} {ta : TE} {f : M} {x : Str} {p pos : Pos} (hc : X.calm = true) (hgl : Gl X x) (hml : X.mg x = some (.type "itertools.permutations")) (h : ED X C E a ta f) (n1 : starEach [a] X.env = (false, eval a X.env) :: starEach [] X.env := by rfl) (hdb : (x == ("__debug__" : Str)) = false := by decide) :
    IN X C E tg (.Call (.Name x p) [a] [] pos) (iPmV X.K ta) (miPmV f) := ⟨pi_pmV hc hgl hml h.pe n1 hdb, sndin_pmV h.sd⟩
variable {c : Expr} {st : Stmt} {sts sts' : List Stmt} {ts tsu : TS} {ms mv : MS} {ma : MA} {te tk : TE} {f fk : M} {tt : TT} {mt : MT} {pos : Pos}
theorem s_forN {tg iter : Expr} {wi : TI} {gg : TG} {bb : Bi} {is : List Nat} (hp : PassesOwn (model X.prog X.w) X.A X.env X.xe) (hc : X.calm = true) (hi : IN X C E tg iter wi ma) (hg : GD X C tg gg bb is) (hb : BD X C E sts ts ms)
    (hs : ∀ x, foldedSetIterable iter X.env x = pure x := by intro _; rfl) : SD X C E (.For tg iter sts [] pos) (tFor wi gg ts) (mFor ma bb ms) := ⟨ps_for hp hc hi.pe hg.pe hb.pe hs, snds_forT (sndit_ofN hi.sd hg.sd) hb.sd⟩
theorem d_lcN {tg iter elt : Expr} {scope : Scope} {own : List (Str × Nat)} {vs : List Nat} {wi : TI} {gg : TG} {bb : Bi} {is : List Nat} (hc : X.calm = true) (hN : X.N.Nodup) (ok : BlkOk X.N X.env.scope scope own) (hi : IN X C E tg iter wi ma)
    (hg : ∀ (s : Shared) (H : Hp) (B : Addr) (cl : List (Str × Addr)) (fp : List Addr), GD (X.blk s H scope (compEnvC scope cl B X.env) fp) C tg gg bb is)
    (he : ∀ (s : Shared) (H : Hp) (B : Addr) (cl : List (Str × Addr)) (fp : List Addr), ED (X.blk s H scope (compEnvC scope cl B X.env) fp) C EX0 elt te f) (hvs : own.map (·.2) = vs := by rfl) (his : ∀ i ∈ is, i ∈ vs := by decide) (hs : ∀ x, foldedSetIterable iter X.env x = pure x := by intro _; rfl) :
    ED X C E (.ListComp elt [⟨tg, iter, [], 0⟩] scope pos) (tLc wi gg tYes te vs) (mComp vs ma bb mtYes f) := by
  subst hvs
  exact ⟨pe_lc hc hN hi.pe ok (fun s H B cl fp => (hg s H B cl fp).pe) (fun _ _ _ _ _ => pts_nil) (fun s H B cl fp => (he s H B cl fp).pe) hs, snd_compT (sndit_ofN hi.sd (hg X.s_0 X.H_0 0 [] []).sd) his sndt_yes (he X.s_0 X.H_0 0 [] []).sd⟩
theorem d_lcifN {tg iter elt : Expr} {scope : Scope} {own : List (Str × Nat)} {vs : List Nat} {wi : TI} {gg : TG} {bb : Bi} {is : List Nat} (hc : X.calm = true) (hN : X.N.Nodup) (ok : BlkOk X.N X.env.scope scope own) (hi : IN X C E tg iter wi ma)
    (hg : ∀ (s : Shared) (H : Hp) (B : Addr) (cl : List (Str × Addr)) (fp : List Addr), GD (X.blk s H scope (compEnvC scope cl B X.env) fp) C tg gg bb is)
    (ht : ∀ (s : Shared) (H : Hp) (B : Addr) (cl : List (Str × Addr)) (fp : List Addr), TD (X.blk s H scope (compEnvC scope cl B X.env) fp) C EX0 c tt mt)
    (he : ∀ (s : Shared) (H : Hp) (B : Addr) (cl : List (Str × Addr)) (fp : List Addr), ED (X.blk s H scope (compEnvC scope cl B X.env) fp) C EX0 elt te f) (hvs : own.map (·.2) = vs := by rfl) (his : ∀ i ∈ is, i ∈ vs := by decide) (hs : ∀ x, foldedSetIterable iter X.env x = pure x := by intro _; rfl) :
    ED X C E (.ListComp elt [⟨tg, iter, [c], 0⟩] scope pos) (tLc wi gg tt te vs) (mComp vs ma bb mt f) := by
  subst hvs
  exact ⟨pe_lc hc hN hi.pe ok (fun s H B cl fp => (hg s H B cl fp).pe) (fun s H B cl fp => pts_one (ht s H B cl fp).pe) (fun s H B cl fp => (he s H B cl fp).pe) hs, snd_compT (sndit_ofN hi.sd (hg X.s_0 X.H_0 0 [] []).sd) his (ht X.s_0 X.H_0 0 [] []).sd (he X.s_0 X.H_0 0 [] []).sd⟩
end
/-! ### dict(enumerate(v)) as a new dict -/
def enumDD : Nat → List PyData → List (PyData × PyData)
  | _, [] => []
  | i, d :: r => (.int (.ofNat i), d) :: enumDD (i + 1) r
section
variable {K : PySem.W.Frag} {mu : Mu} {G0 H0 G H G' H' H1 : Hp} {env env' : LEnv} {σ σ' : L2.St} {C : Cl} {E : XK} {X : Cx}
theorem rpk_enum : ∀ (i : Nat) {xs : List V} {ds : List PyData}, RpA K G xs ds → RpK K G (enumV i xs) (enumDD i ds)
  | _, _, _, .nil => .nil
  | i, _, _, .cons a b => .cons (k := .inl (i : Nat)) a (rpk_enum (i + 1) b)
def mDictEn (f : M) : MA := fun env => (f env).bind fun p => match p.2 with
  | .list ds => .ok (p.1, [.dict ((.bool true, .int (.ofNat 0)) :: enumDD 0 ds)])
  | .tuple ds => .ok (p.1, [.dict ((.bool true, .int (.ofNat 0)) :: enumDD 0 ds)])
  | _ => .stuck
theorem sndh_dictEn {te : TE} {f : M} (h : Snd K C E te f) : SndH K C E (tDictEn K te) (mDictEn f) := by
  intro mu G0 H0 env σ G H Q S hh
  refine h _ _ _ _ _ _ _ _ S (postH_bind (Rl := RlE K) hh fun p x G1 H1 S1 s1 r1 h1 => ?_)
  obtain ⟨e, d⟩ := p
  cases r1 with
  | lst a b => exact ⟨_, _, rfl, .inl (SqL.of (S1.sub _ _ a)), fun p hp => postH_new S1 h1 hp (o := .dK (enumV 0 _)) (.dct (rpk_enum 0 b))⟩
  | tup a b => exact ⟨_, _, rfl, .inr (sqt_same S1.sub a), fun p hp => postH_new S1 h1 hp (o := .dK (enumV 0 _)) (.dct (rpk_enum 0 b))⟩
  | _ => exact h1.elim
theorem h_dictEn {e : Expr} {te : TE} {f : M} {p p2 pos pos2 : Pos} (hc : X.calm = true) (hg : Gl X "dict") (hm : X.mg "dict" = none) (hg2 : Gl X "enumerate") (hm2 : X.mg "enumerate" = none) (he : ED X C E e te f) (na : starEach [e] X.env = (false, eval e X.env) :: starEach [] X.env := by rfl)
    (nb : starEach [.Call (.Name "enumerate" p2) [e] [] pos2] X.env = (false, eval (.Call (.Name "enumerate" p2) [e] [] pos2) X.env) :: starEach [] X.env := by rfl) :
    HD X C E (.Call (.Name "dict" p) [.Call (.Name "enumerate" p2) [e] [] pos2] [] pos) (tDictEn X.K te) (mDictEn f) := ⟨pe_dictEn hc hg hm hg2 hm2 he.pe na nb, sndh_dictEn he.sd⟩
end
end LW

namespace LW
open PySem PySem.Spec PyProof.Rows L2
/-! ### [.. for x in xs ..], xs a list of one's own that stays -/
def KpB (k : Nat) (b : Bi) : Prop := ∀ d e e1, b d e = .ok e1 → e1[k]? = e[k]?
def KpT (k : Nat) (m : MT) : Prop := ∀ e p, m e = .ok p → p.1[k]? = e[k]?
def KpE (k : Nat) (m : M) : Prop := ∀ e p, m e = .ok p → p.1[k]? = e[k]?
theorem wipeE_keep {k : Nat} {e : LEnv} : ∀ {vs : List Nat}, k ∉ vs → (wipeE e vs)[k]? = e[k]?
  | [], _ => rfl
  | v :: vs, h => by
    unfold wipeE
    rw [List.getElem?_set_ne (fun z => h (by rw [z]; exact List.mem_cons_self)), wipeE_keep fun z => h (List.mem_cons_of_mem _ z)]
def mCompO (k0 : Nat) (vs : List Nat) (b : Bi) (tt : MT) (f : M) : M := fun env => match nth env k0 with
  | some (some (.ow _ ds)) => gd (isL ds) (gd (Nat.blt ds.length small) ((compL vs b tt f ds (wipeE env vs)).bind fun z => .ok (restore env z.1 vs, .list z.2)))
  | _ => .stuck
section
variable {K : PySem.W.Frag} {mu : Mu} {G0 H0 G H G' H' : Hp} {env env' : LEnv} {σ σ' : L2.St} {C : Cl} {E : XK} {X : Cx}
theorem snd_compO {k0 : Nat} {g : TG} {tt : TT} {te : TE} {vs : List Nat} {b : Bi} {is : List Nat} {mt : MT} {f : M} (hg : SndG K C g b is) (his : ∀ i ∈ is, i ∈ vs) (hk0 : k0 ∉ vs) (ht : SndT K C (fun _ _ _ => False) tt mt)
    (he : Snd K C (fun _ _ _ => False) te f) (kb : KpB k0 b) (kt : KpT k0 mt) (kf : KpE k0 f) : Snd K C E (tLc (iList K (tVar k0)) g tt te vs) (mCompO k0 vs b mt f) := by
  intro mu G0 H0 e0 σ G1 H1 Q S1 h
  unfold mCompO at h
  rw [nth_eq] at h
  split at h
  rotate_left
  · exact h.elim
  rename_i ml ds hown0
  obtain ⟨hil0, h⟩ := Post.gd h
  obtain ⟨hlen, h1⟩ := Post.gd h
  obtain ⟨pa, xs0, hσ, hpa, rxs0, _, _⟩ := S1.olL hown0 hil0
  refine ⟨.ref pa, hσ, pa, rfl, ⟨_, SqL.of hpa⟩, ?_⟩
  have hsm : ds.length < sizeLine := Nat.lt_of_lt_of_le (Nat.le_of_ble_eq_true hlen) small_le
  intro D hD
  have gD : G1 D = none := S1.sub.free hD
  have h0D : Nw H0 D := S1.none0 (nw_of hD)
  refine ⟨fun i m H => m = ds.length - i ∧ i ≤ ds.length ∧ ∃ e G acc ad, StR K C mu G0 H0 e (L2.wipe σ vs) G H ∧ Same G1 G ∧ H D = some (.lst acc) ∧ G D = none ∧ RpA K G acc ad ∧ acc.length ≤ i ∧ (∀ j, Own e j → (L2.wipe σ vs)[j]? ≠ some (some (.ref D))) ∧ e[k0]? = some (some (.ow ml ds)) ∧
      Post (RlE K) K C E mu G0 H0 σ G ((compL vs b mt f (ds.drop i) e).bind fun z => .ok (restore e0 z.1 vs, .list (ad ++ z.2))) Q, ⟨_, rfl, Nat.zero_le _, wipeE e0 vs, G1, [], [], ?_, .refl _, upd_same, gD, .nil, Nat.le_refl _, ?_, (wipeE_keep hk0).trans hown0, h1⟩, ?_⟩
  · exact (S1.wipe vs).ext (Xt.hid S1.sub S1.fz.tb hD)
  · intro j ⟨m, dd, hj⟩ q
    obtain ⟨p, ws, e1, e2, _⟩ := (S1.wipe vs).ol j m dd hj
    rw [e1] at q
    cases q
    rw [hD] at e2; cases e2
  rintro i m H2 ⟨rfl, hle, e2, G2, acc, ad, S2, s2, hacc, hG2, racc, hil, hown, hk, p2⟩
  obtain ⟨pa', xs, hσ2, hpa2, rxs, _, _⟩ := S2.olL hk hil0
  have epa : pa' = pa := by
    have e1 : (L2.wipe σ vs)[k0]? = σ[k0]? := by rw [wipe_get, if_neg hk0]
    rw [e1, hσ] at hσ2
    cases hσ2; rfl
  subst epa
  have hxl : xs.length = ds.length := rxs.length
  by_cases hlt : i < ds.length
  · refine .inr ⟨⟨xs, xs[i]'(by rw [hxl]; exact hlt), SqL.of hpa2, List.getElem?_eq_getElem _⟩, fun H' => i + 1 ≤ ds.length ∧ ∃ e G acc ad, StR K C mu G0 H0 e (L2.wipe σ vs) G H' ∧ Same G1 G ∧ H' D = some (.lst acc) ∧ G D = none ∧ RpA K G acc ad ∧ acc.length ≤ i + 1 ∧ (∀ j, Own e j → (L2.wipe σ vs)[j]? ≠ some (some (.ref D))) ∧ e[k0]? = some (some (.ow ml ds)) ∧
      Post (RlE K) K C E mu G0 H0 σ G ((compL vs b mt f (ds.drop (i + 1)) e).bind fun z => .ok (restore e0 z.1 vs, .list (ad ++ z.2))) Q, fun H' n => ⟨ds.length - (i + 1), by omega, rfl, n.1, n.2⟩, fun x H' y => ?_⟩
    obtain ⟨d, hd⟩ : ∃ d, ds[i]? = some d := ⟨ds[i], List.getElem?_eq_getElem hlt⟩
    have eH : H' = H2 := y.1
    have hx := y.2 xs (SqL.of hpa2)
    obtain ⟨d', hd', rd⟩ := rxs.getV hx
    rw [hd] at hd'; cases hd'
    clear y
    subst eH
    have ed : ds.drop i = d :: ds.drop (i + 1) := by
      obtain ⟨hlt', e'⟩ := List.getElem?_eq_some_iff.mp hd
      rw [List.drop_eq_getElem_cons hlt', e']
    rw [ed] at p2
    refine hg _ _ _ _ _ _ _ _ _ _ S2.rebase rd ?_
    have p2 : Post (RlE K) K C E mu G0 H0 σ G2 ((match b d e2 with
      | .ok e1 => (noRai (mt e1)).bind fun t => bif t.2 then (noRai (f t.1)).bind fun y => (compL vs b mt f (ds.drop (i + 1)) (wipeE y.1 vs)).bind fun z => .ok (z.1, y.2 :: z.2) else compL vs b mt f (ds.drop (i + 1)) (wipeE t.1 vs)
      | _ => .stuck).bind fun z => .ok (restore e0 z.1 vs, .list (ad ++ z.2))) Q := p2
    cases eb : b d e2 with
    | rai c => rw [eb] at p2; exact p2
    | stuck => rw [eb] at p2; exact p2
    | ok e3 =>
      rw [eb] at p2
      intro σ3 S3 l3 k3
      have hw : L2.wipe σ3 vs = L2.wipe (L2.wipe σ vs) vs := wipe_same l3 fun j hj => k3 j fun q => hj (his j q)
      have hww : L2.wipe (L2.wipe σ vs) vs = L2.wipe σ vs := wipe_same (wipe_length _ _) fun j hj => by rw [wipe_get, if_neg hj]
      refine ⟨hw.trans hww, ?_⟩
      have noch : ¬ (mu.plus e2 (L2.wipe σ vs)).ch D := fun z => by
        rcases z with z | ⟨j, oj, hj⟩
        · exact S1.noch (nw_of hD) z
        · exact hown j oj hj
      -- D's list stands through the turn, hidden, and no slot has it
      have stands : ∀ {e G H}, StR K C (mu.plus e2 (L2.wipe σ vs)) G2 H' e σ3 G H → H D = some (.lst acc) ∧ G D = none ∧ ∀ j : Nat, Own e j → σ3[j]? ≠ some (some (.ref D)) := fun {e G H} S => by
        refine ⟨S.fz.k D _ noch nt_lst hacc, ?_, fun j ⟨m, dd, oj⟩ q => ?_⟩
        · cases q : G D with
          | none => rfl
          | some u =>
            rcases S.new D u q with z | ⟨z | z, _⟩
            · rw [hG2] at z; cases z
            · exact (noch z).elim
            · exact (z _ nt_lst hacc).elim
        · obtain ⟨p, ws, e1, e2', e3', e4', e5'⟩ := S.ol j m dd oj
          rw [e1] at q
          cases q
          cases m with
          | true => exact noch (.inl (mu.sub _ e5'))
          | false =>
            rcases e5' with z | z
            · exact noch z
            · exact z _ nt_lst hacc
      -- the next turn's state
      have wiped : ∀ {e G H}, StR K C mu G0 H0 e σ3 G H → StR K C mu G0 H0 (wipeE e vs) (L2.wipe σ vs) G H := fun {e G H} S => by
        have := S.wipe vs
        rw [hw, hww] at this
        exact this
      have wipedOwn : ∀ {e}, (∀ j : Nat, Own e j → σ3[j]? ≠ some (some (.ref D))) → ∀ j : Nat, Own (wipeE e vs) j → (L2.wipe σ vs)[j]? ≠ some (some (.ref D)) := fun {e} h j oj q => by
        have wg : ∀ (e : LEnv) (vs : List Nat) (j : Nat) (s : Sl), (wipeE e vs)[j]? = some (some s) → e[j]? = some (some s) ∧ j ∉ vs := by
          intro e vs
          induction vs with
          | nil => intro j s h; exact ⟨h, by simp⟩
          | cons v vs ih =>
            intro j s h
            unfold wipeE at h
            rw [get_set] at h
            by_cases hv : v = j
            · subst hv; rw [if_pos rfl] at h; split at h <;> cases h
            · rw [if_neg hv] at h
              obtain ⟨h1, h2⟩ := ih j s h
              exact ⟨h1, by simp only [List.mem_cons, not_or]; exact ⟨fun z => hv z.symm, h2⟩⟩
        obtain ⟨m, dd, oj⟩ := oj
        obtain ⟨o1, o2⟩ := wg e vs j _ oj
        refine h j ⟨m, dd, o1⟩ ?_
        rw [← hww, ← hw, wipe_get, if_neg o2] at q
        exact q
      have p2 : Post (RlE K) K C E mu G0 H0 σ G2 (((noRai (mt e3)).bind fun t => bif t.2 then (noRai (f t.1)).bind fun y => (compL vs b mt f (ds.drop (i + 1)) (wipeE y.1 vs)).bind fun z => .ok (z.1, y.2 :: z.2) else compL vs b mt f (ds.drop (i + 1)) (wipeE t.1 vs)).bind fun z => .ok (restore e0 z.1 vs, .list (ad ++ z.2))) Q := p2
      refine ht _ _ _ _ _ _ _ _ S3 ?_
      cases et : mt e3 with
      | rai c => rw [et] at p2; exact p2.elim
      | stuck => rw [et] at p2; exact p2
      | ok t =>
        rw [et] at p2
        obtain ⟨e4, tb⟩ := t
        intro bv G4 H4 S4 s4 rb
        have S4 : StR K C (mu.plus e2 (L2.wipe σ vs)) G2 H' e4 σ3 G4 H4 := S4
        obtain rfl : bv = tb := rb
        have p2 : Post (RlE K) K C E mu G0 H0 σ G2 ((bif bv then (noRai (f e4)).bind fun y => (compL vs b mt f (ds.drop (i + 1)) (wipeE y.1 vs)).bind fun z => .ok (z.1, y.2 :: z.2) else compL vs b mt f (ds.drop (i + 1)) (wipeE e4 vs)).bind fun z => .ok (restore e0 z.1 vs, .list (ad ++ z.2))) Q := p2
        cases bv with
        | false =>
          refine iteF ⟨hlt, wipeE e4 vs, G4, acc, ad, wiped (StR.unbase S2 S4), s2.trans s4, (stands S4).1, (stands S4).2.1, RpA.mono s4 _ _ racc, by omega, wipedOwn (stands S4).2.2, (wipeE_keep hk0).trans ((kt _ _ et).trans ((kb _ _ _ eb).trans hk)), ?_⟩
          exact p2.mono s4
        | true =>
          refine iteT ?_
          have p2 : Post (RlE K) K C E mu G0 H0 σ G2 (((noRai (f e4)).bind fun y => (compL vs b mt f (ds.drop (i + 1)) (wipeE y.1 vs)).bind fun z => .ok (z.1, y.2 :: z.2)).bind fun z => .ok (restore e0 z.1 vs, .list (ad ++ z.2))) Q := p2
          refine he _ _ _ _ _ _ _ _ S4 ?_
          cases ef : f e4 with
          | rai c => rw [ef] at p2; exact p2.elim
          | stuck => rw [ef] at p2; exact p2
          | ok y =>
            rw [ef] at p2
            obtain ⟨e5, dy⟩ := y
            intro yv G5 H5 S5 s5 ry
            have S5 : StR K C (mu.plus e2 (L2.wipe σ vs)) G2 H' e5 σ3 G5 H5 := S5
            have ry : Rp K G5 yv dy := ry
            obtain ⟨st1, st2, st3⟩ := stands S5
            have U := StR.unbase S2 S5
            refine ⟨acc, st1, by omega, hlt, wipeE e5 vs, G5, acc ++ [yv], ad ++ [dy], wiped (U.upd_hid st1 st2 h0D st3), (s2.trans s4).trans s5, upd_same, st2, (RpA.mono (s4.trans s5) _ _ racc).append (.cons ry .nil), by rw [List.length_append]; show acc.length + 1 ≤ i + 1; omega, wipedOwn st3, (wipeE_keep hk0).trans ((kf _ _ ef).trans ((kt _ _ et).trans ((kb _ _ _ eb).trans hk))), ?_⟩
            have p2 : Post (RlE K) K C E mu G0 H0 σ G2 (((compL vs b mt f (ds.drop (i + 1)) (wipeE e5 vs)).bind fun z => .ok (z.1, dy :: z.2)).bind fun z => .ok (restore e0 z.1 vs, .list (ad ++ z.2))) Q := p2
            cases ec : compL vs b mt f (ds.drop (i + 1)) (wipeE e5 vs) with
            | rai c => exact absurd ec (compL_rai _ _)
            | stuck => rw [ec] at p2; exact p2
            | ok z =>
              rw [ec] at p2
              have p2 : Post (RlE K) K C E mu G0 H0 σ G2 (.ok (restore e0 z.1 vs, .list (ad ++ dy :: z.2))) Q := p2
              have p3 : Post (RlE K) K C E mu G0 H0 σ G2 (.ok (restore e0 z.1 vs, .list ((ad ++ [dy]) ++ z.2))) Q := by
                rw [List.append_assoc]
                exact p2
              exact p3.mono (s4.trans s5)
  · refine .inl ⟨⟨xs, SqL.of hpa2, by rw [hxl]; omega⟩, ?_⟩
    rw [List.drop_eq_nil_of_le (by omega)] at p2
    have p2 : Post (RlE K) K C E mu G0 H0 σ G2 (.ok (restore e0 e2 vs, .list (ad ++ []))) Q := p2
    rw [List.append_nil] at p2
    have S4 := StR.restore (vs := vs) S1 S2 s2
    have hw4 : ∀ j : Nat, Own (restore e0 e2 vs) j → σ[j]? ≠ some (some (.ref D)) := fun j ⟨m, dd, oj⟩ q => by
      rw [restore_get] at oj
      by_cases hj : j ∈ vs
      · rw [if_pos hj] at oj
        split at oj
        · cases hk : e0[j]? with
          | none => rw [hk] at oj; cases oj
          | some o =>
            cases o with
            | none => rw [hk] at oj; cases oj
            | some s0 => cases s0 <;> (rw [hk] at oj; cases oj)
        · cases oj
      · rw [if_neg hj] at oj
        exact hown j ⟨m, dd, oj⟩ (by rw [wipe_get, if_neg hj]; exact q)
    have sG : Same G2 (upd G2 D (.lst acc)) := fun a u e => by rw [upd_ne (ne_of_none e hG2)]; exact e
    exact p2 (.ref D) (upd G2 D (.lst acc)) H2 (StR.show nt_lst S4 hacc hG2 h0D hw4) sG (.lst upd_same (RpA.mono sG _ _ racc))
end
end LW

namespace LW
open PySem PySem.Spec PyProof.Rows L2
/-! ### what keeps a slot -/
theorem R.bind_ok {α β : Type} {r : R α} {f : α → R β} {b : β} (h : r.bind f = .ok b) : ∃ a, r = .ok a ∧ f a = .ok b := by
  cases r with
  | ok a => exact ⟨a, rfl, h⟩
  | rai c => cases h
  | stuck => cases h
theorem lif_ok {α : Type} {e : LEnv} {r : R α} {p : LEnv × α} (h : lif e r = .ok p) : p.1 = e := by
  obtain ⟨a, _, h⟩ := R.bind_ok h
  cases h; rfl
theorem kpe_var {k i : Nat} : KpE k (mVar i) := fun e p h => by
  unfold mVar at h
  split at h
  · cases h; rfl
  · cases h
theorem kpe_c {k : Nat} {d : PyData} : KpE k (mC d) := fun e p h => by cases h; rfl
theorem kpe_op {k : Nat} {op : PyData → PyData → R PyData} {f g : M} (hf : KpE k f) (hg : KpE k g) : KpE k (mOp op f g) := fun e p h => by
  obtain ⟨a, h1, h⟩ := R.bind_ok h
  obtain ⟨b, h2, h⟩ := R.bind_ok h
  rw [lif_ok h, hg _ _ h2, hf _ _ h1]
theorem kpe_un {k : Nat} {op : PyData → R PyData} {f : M} (hf : KpE k f) : KpE k (mUn op f) := fun e p h => by
  obtain ⟨a, h1, h⟩ := R.bind_ok h
  rw [lif_ok h, hf _ _ h1]
theorem kpt_B {k : Nat} {f : M} (hf : KpE k f) : KpT k (mtB f) := fun e p h => by
  obtain ⟨a, h1, h⟩ := R.bind_ok h
  split at h
  · cases h; exact hf _ _ h1
  · cases h
theorem kpt_yes {k : Nat} : KpT k mtYes := fun e p h => by cases h; rfl
theorem kpb_name {k i : Nat} (n : i ≠ k) : KpB k (bName i) := fun d e e1 h => by
  cases h
  rw [List.getElem?_set_ne n]
section
variable {K : PySem.W.Frag} {mu : Mu} {G0 H0 G H G' H' : Hp} {env env' : LEnv} {σ σ' : L2.St} {C : Cl} {E : XK} {X : Cx} {bb : Bi} {is : List Nat} {te : TE} {f : M} {tt : TT} {mt : MT} {c : Expr}
theorem d_lcO (i : Nat) {y : Str} {p : Pos} {tg elt : Expr} {scope : Scope} {own : List (Str × Nat)} {vs : List Nat} {gg : TG} (hN : X.N.Nodup) (ok : BlkOk X.N X.env.scope scope own)
    (hg : ∀ (s : Shared) (H : Hp) (B : Addr) (cl : List (Str × Addr)) (fp : List Addr), GD (X.blk s H scope (compEnvC scope cl B X.env) fp) C tg gg bb is)
    (he : ∀ (s : Shared) (H : Hp) (B : Addr) (cl : List (Str × Addr)) (fp : List Addr), ED (X.blk s H scope (compEnvC scope cl B X.env) fp) C EX0 elt te f) (hc : X.calm = true) (hvs : own.map (·.2) = vs := by rfl) (his : ∀ i ∈ is, i ∈ vs := by decide) (hi : i ∉ vs := by decide)
    (kb : KpB i bb := by repeat (first | exact kpe_var | exact kpe_c | exact kpt_yes | exact kpb_name (by decide) | apply kpt_B | apply kpe_op | apply kpe_un)) (kf : KpE i f := by repeat (first | exact kpe_var | exact kpe_c | exact kpt_yes | exact kpb_name (by decide) | apply kpt_B | apply kpe_op | apply kpe_un)) (hNi : X.N[i]? = some y := by rfl) (hv : Vis X.env.scope y := by first | exact Or.inl rfl | exact Or.inr (Or.inl rfl) | exact Or.inr (Or.inr rfl)) (hd : (y == ("__debug__" : Str)) = false := by decide)
    (hcd : (y == ("__classdict__" : Str)) = false := by decide) (hs : ∀ x, foldedSetIterable (.Name y p) X.env x = pure x := by intro _; rfl) :
    ED X C E (.ListComp elt [⟨tg, .Name y p, [], 0⟩] scope pos) (tLc (iList X.K (tVar i)) gg tYes te vs) (mCompO i vs bb mtYes f) := by
  subst hvs
  exact ⟨pe_lc hc hN (pi_list (pe_var hNi hv hd hcd)) ok (fun s H B cl fp => (hg s H B cl fp).pe) (fun _ _ _ _ _ => pts_nil) (fun s H B cl fp => (he s H B cl fp).pe) hs, snd_compO (hg X.s_0 X.H_0 0 [] []).sd his hi sndt_yes (he X.s_0 X.H_0 0 [] []).sd kb kpt_yes kf⟩
theorem d_lcifO (i : Nat) {y : Str} {p : Pos} {tg elt : Expr} {scope : Scope} {own : List (Str × Nat)} {vs : List Nat} {gg : TG} (hN : X.N.Nodup) (ok : BlkOk X.N X.env.scope scope own)
    (hg : ∀ (s : Shared) (H : Hp) (B : Addr) (cl : List (Str × Addr)) (fp : List Addr), GD (X.blk s H scope (compEnvC scope cl B X.env) fp) C tg gg bb is)
    (ht : ∀ (s : Shared) (H : Hp) (B : Addr) (cl : List (Str × Addr)) (fp : List Addr), TD (X.blk s H scope (compEnvC scope cl B X.env) fp) C EX0 c tt mt)
    (he : ∀ (s : Shared) (H : Hp) (B : Addr) (cl : List (Str × Addr)) (fp : List Addr), ED (X.blk s H scope (compEnvC scope cl B X.env) fp) C EX0 elt te f) (hc : X.calm = true) (hvs : own.map (·.2) = vs := by rfl) (his : ∀ i ∈ is, i ∈ vs := by decide) (hi : i ∉ vs := by decide)
    (kb : KpB i bb := by repeat (first | exact kpe_var | exact kpe_c | exact kpt_yes | exact kpb_name (by decide) | apply kpt_B | apply kpe_op | apply kpe_un)) (kt : KpT i mt := by repeat (first | exact kpe_var | exact kpe_c | exact kpt_yes | exact kpb_name (by decide) | apply kpt_B | apply kpe_op | apply kpe_un)) (kf : KpE i f := by repeat (first | exact kpe_var | exact kpe_c | exact kpt_yes | exact kpb_name (by decide) | apply kpt_B | apply kpe_op | apply kpe_un)) (hNi : X.N[i]? = some y := by rfl) (hv : Vis X.env.scope y := by first | exact Or.inl rfl | exact Or.inr (Or.inl rfl) | exact Or.inr (Or.inr rfl)) (hd : (y == ("__debug__" : Str)) = false := by decide)
    (hcd : (y == ("__classdict__" : Str)) = false := by decide) (hs : ∀ x, foldedSetIterable (.Name y p) X.env x = pure x := by intro _; rfl) :
    ED X C E (.ListComp elt [⟨tg, .Name y p, [c], 0⟩] scope pos) (tLc (iList X.K (tVar i)) gg tt te vs) (mCompO i vs bb mt f) := by
  subst hvs
  exact ⟨pe_lc hc hN (pi_list (pe_var hNi hv hd hcd)) ok (fun s H B cl fp => (hg s H B cl fp).pe) (fun s H B cl fp => pts_one (ht s H B cl fp).pe) (fun s H B cl fp => (he s H B cl fp).pe) hs, snd_compO (hg X.s_0 X.H_0 0 [] []).sd his hi (ht X.s_0 X.H_0 0 [] []).sd (he X.s_0 X.H_0 0 [] []).sd kb kt kf⟩
/-! ### an own list shown as data -/
theorem StR.drop1 (S : StR K C mu G0 H0 env σ G H) (i : Nat) : StR K C mu G0 H0 (env.set i none) σ G H := by
  have up : ∀ {j : Nat} {s : Sl}, (env.set i none)[j]? = some (some s) → env[j]? = some (some s) ∧ j ≠ i := fun {j s} e => by
    rw [get_set] at e
    by_cases z : i = j
    · subst z; rw [if_pos rfl] at e; split at e <;> cases e
    · rw [if_neg z] at e; exact ⟨e, fun q => z q.symm⟩
  exact {
    sub := S.sub
    ng := S.ng
    g0 := S.g0
    fz := S.fz
    new := S.new
    mh := S.mh
    len := by rw [List.length_set]; exact S.len
    sh := fun j d e => S.sh j d (up e).1
    ol := fun j m ds e => S.ol j m ds (up e).1
    ow := fun j k q oj ok a b => by
      obtain ⟨m1, d1, e1⟩ := oj
      obtain ⟨m2, d2, e2⟩ := ok
      exact S.ow j k q ⟨_, _, (up e1).1⟩ ⟨_, _, (up e2).1⟩ a b }
theorem StR.learn (S : StR K C mu G0 H0 env σ G H) {i : Nat} {v : V} {d : PyData} (hs : σ[i]? = some (some v)) (r : Rp K G v d) (hn : env[i]? = some none) : StR K C mu G0 H0 (env.set i (some (.sh d))) σ G H := by
  have hil : i < env.length := (List.getElem?_eq_some_iff.mp hn).1
  exact {
    sub := S.sub
    ng := S.ng
    g0 := S.g0
    fz := S.fz
    new := S.new
    mh := S.mh
    len := by rw [List.length_set]; exact S.len
    sh := fun j e' e => by
      rw [get_set] at e
      by_cases z : i = j
      · subst z; rw [if_pos rfl, if_pos hil] at e; cases e; exact ⟨v, hs, r⟩
      · rw [if_neg z] at e; exact S.sh j e' e
    ol := fun j m ds e => by
      rw [get_set] at e
      by_cases z : i = j
      · subst z; rw [if_pos rfl, if_pos hil] at e; cases e
      · rw [if_neg z] at e; exact S.ol j m ds e
    ow := fun j k q oj ok a b => by
      have up : ∀ j, Own (env.set i (some (.sh d))) j → Own env j := fun j ⟨m', ds, e⟩ => by
        rw [get_set] at e
        by_cases z : i = j
        · subst z; rw [if_pos rfl, if_pos hil] at e; cases e
        · rw [if_neg z] at e; exact ⟨_, _, e⟩
      exact S.ow j k q (up j oj) (up k ok) a b }
/-- an own list becomes data -/
theorem StR.become (S : StR K C mu G0 H0 env σ G H) {i : Nat} {ds : List PyData} (e0 : env[i]? = some (some (.ow false ds))) (cl : isL ds = true) :
    ∃ p vs, σ[i]? = some (some (.ref p)) ∧ H p = some (.lst vs) ∧ Same G (upd G p (.lst vs)) ∧ Rp K (upd G p (.lst vs)) (.ref p) (.list ds) ∧ StR K C mu G0 H0 (env.set i (some (.sh (.list ds)))) σ (upd G p (.lst vs)) H := by
  obtain ⟨p, vs, h1, h2, h3, h4, h5⟩ := S.olL e0 cl
  have hil : i < env.length := (List.getElem?_eq_some_iff.mp e0).1
  have s : Same G (upd G p (.lst vs)) := fun a u e => by rw [upd_ne (ne_of_none e h4)]; exact e
  have r : Rp K (upd G p (.lst vs)) (.ref p) (.list ds) := .lst upd_same (RpA.mono s _ _ h3)
  have hw : ∀ j : Nat, Own (env.set i none) j → σ[j]? ≠ some (some (.ref p)) := fun j ⟨m, cs, e⟩ q => by
    rw [get_set] at e
    by_cases z : i = j
    · subst z; rw [if_pos rfl] at e; split at e <;> cases e
    · rw [if_neg z] at e
      exact z (S.ow i j p ⟨_, _, e0⟩ ⟨_, _, e⟩ h1 q)
  have S2 := StR.showO nt_lst (S.drop1 i) h2 h4 (by simpa using h5) hw
  have S3 := S2.learn (i := i) h1 r (by rw [get_set, if_pos rfl, if_pos hil])
  rw [List.set_set] at S3
  exact ⟨p, vs, h1, h2, s, r, S3⟩
def mShow (i : Nat) : M := fun env => match nth env i with
  | some (some (.ow m ds)) => gd (!m && isL ds) (.ok (env.set i (some (.sh (.list ds))), .list ds))
  | some (some (.sh d)) => .ok (env, d)
  | _ => .stuck
theorem snd_show {i : Nat} : Snd K C E (tVar i) (mShow i) := by
  intro mu G0 H0 env σ G H Q S h
  unfold mShow at h
  rw [nth_eq] at h
  split at h
  · rename_i m ds e
    obtain ⟨c, h9⟩ := Post.gd h
    rw [Bool.and_eq_true] at c
    obtain ⟨c1, c2⟩ := c
    cases m with
    | true => cases c1
    | false =>
      obtain ⟨p, vs, h1, h2, s, r, S2⟩ := S.become e c2
      exact ⟨.ref p, h1, h9 _ _ _ S2 s r⟩
  · rename_i d e
    obtain ⟨v, h1, h2⟩ := S.sh i d e
    exact ⟨v, h1, post_here S h h2⟩
  · exact h.elim
theorem d_show (i : Nat) {x : Str} {pos : Pos} (hN : X.N[i]? = some x := by rfl) (hv : Vis X.env.scope x := by first | exact Or.inl rfl | exact Or.inr (Or.inl rfl) | exact Or.inr (Or.inr rfl)) (hd : (x == ("__debug__" : Str)) = false := by decide)
    (hcd : (x == ("__classdict__" : Str)) = false := by decide) : ED X C E (.Name x pos) (tVar i) (mShow i) := ⟨pe_var hN hv hd hcd, snd_show⟩
/-! ### xs.append(e), xs a list of one's own -/
def appAt (i : Nat) (e : LEnv) (d : PyData) : RS := match nth e i with
  | some (some (.ow m ds)) => (match isL ds && Nat.blt ds.length small with
    | true => .nx (e.set i (some (.ow m (ds ++ [d]))))
    | false => .stuck)
  | _ => .stuck
def mApp (i : Nat) (f : M) : MS := fun env => match nth env i with
  | some (some (.ow _ ds)) => (match isL ds with | true => bindS (f env) fun p => appAt i p.1 p.2 | false => .stuck)
  | _ => .stuck
theorem snds_app {i : Nat} {ta : TE} {f : M} (ha : Snd K C E ta f) : SndS K C E (tDrop (tBM K "list" rAppend (tVar i) (tCons ta tNil))) (mApp i f) := by
  intro mu G0 H0 env σ G H D S h
  unfold mApp at h
  rw [nth_eq] at h
  split at h
  rotate_left
  · exact h.elim
  rename_i m0 ds0 e0
  have cl : isL ds0 = true := by
    cases c : isL ds0 with
    | true => rfl
    | false => rw [c] at h; exact h.elim
  rw [cl] at h
  have h : PostS K C E mu G0 H0 G (bindS (f env) fun p => appAt i p.1 p.2) D := h
  obtain ⟨q, vs0, a1, a2, a3, _⟩ := S.olL e0 cl
  refine ⟨.ref q, a1, .inl ⟨rfl, vs0, SqL.of a2⟩, ?_⟩
  refine ha _ _ _ _ _ _ _ _ S (h.bind fun p x G1 H1 S1 s1 r1 h1 => ?_)
  obtain ⟨e, d⟩ := p
  have h1 : PostS K C E mu G0 H0 G1 (appAt i e d) D := h1
  unfold appAt at h1
  rw [nth_eq] at h1
  split at h1
  rotate_left
  · exact h1.elim
  rename_i m ds e1
  have c2 : (isL ds && Nat.blt ds.length small) = true := by
    cases c : (isL ds && Nat.blt ds.length small) with
    | true => rfl
    | false => rw [c] at h1; exact h1.elim
  rw [c2] at h1
  rw [Bool.and_eq_true] at c2
  have h1 : PostS K C E mu G0 H0 G1 (.nx (e.set i (some (.ow m (ds ++ [d]))))) D := h1
  obtain ⟨q', ws, b1, b2, b3, b4, _⟩ := S1.olL e1 c2.1
  rw [a1] at b1
  cases b1
  have hlen : ws.length < sizeLine := by
    rw [b3.length]
    exact Nat.lt_of_lt_of_le (Nat.le_of_ble_eq_true c2.2) small_le
  refine ⟨q, ws, x, rfl, rfl, b2, hlen, ?_⟩
  refine h1 _ _ _ (S1.own_to (G' := G1) e1 a1 (.refl _) ?_ ⟨?_, ?_⟩ (fun a o z => .inl z) upd_same (.lst (b3.append (.cons r1 .nil)))) (.refl _)
  · intro a o z
    have : a ≠ q := fun y => by rw [y, b4] at z; cases z
    rw [upd_ne this]
    exact S1.sub a o z
  · intro b o nb _ z
    rw [upd_ne nb]; exact z
  · refine tabs_but S1.fz.tb fun b o z nl => ?_
    have : b ≠ q := fun y => by rw [y, b2] at z; exact nl _ (Option.some.inj z).symm
    rw [upd_ne this]; exact z
theorem s_app (i : Nat) {y : Str} {e : Expr} {te : TE} {f : M} {p apos cpos spos : Pos} (he : ED X C E e te f) (hN : X.N[i]? = some y := by rfl) (hv : Vis X.env.scope y := by first | exact Or.inl rfl | exact Or.inr (Or.inl rfl) | exact Or.inr (Or.inr rfl)) (hd : (y == ("__debug__" : Str)) = false := by decide)
    (hcd : (y == ("__classdict__" : Str)) = false := by decide) (hbase : attributeBase (.Name y p) "append" X.env (eval (.Name y p) X.env) = eval (.Name y p) X.env := by rfl)
    (hfew : ((backTo cpos (starEach [e] X.env)).all (fun x => !x.1) && (backToKw cpos (keywordEach [] X.env)).all (fun x => x.1.isSome) && decide ([e].length + ([] : List Keyword).length + (if ([] : List Keyword).isEmpty then 0 else 1) < 30)) = true := by rfl)
    (hline : (apos.endLine == cpos.line) = true := by rfl) (hs : starEach [e] X.env = (false, eval e X.env) :: starEach [] X.env := by rfl) (hplain : (backTo cpos (starEach [] X.env)).any (·.1) = false := by rfl)
    (hsw : swapsWith (.Call (.Attribute (.Name y p) "append" apos) [e] [] cpos) none spos.line X.env = pure false := by rfl) :
    SD X C E (.Expr (.Call (.Attribute (.Name y p) "append" apos) [e] [] cpos) spos) (tDrop (tBM X.K "list" rAppend (tVar i) (tCons te tNil))) (mApp i f) :=
  ⟨ps_expr (pe_bm PySem.F.plainAttrs_list PySem.F.slot_list_append PySem.F.type_list_append mt_append (pe_var hN hv hd hcd) (pa_cons he.pe pa_nil hs) hbase hfew hline hs hplain) hsw, snds_app he.sd⟩
end
end LW

namespace LW
open PySem PySem.Spec PyProof.Rows L2
/-! ### xs[i:j] = [..], xs a list of one's own -/
def gSubSl (to : TE) (tl th : TO) : TG := fun v σ H Q => to σ H fun o H1 => tl σ H1 fun l H2 => th σ H2 fun u H3 =>
  ∃ (p b : Addr) (xs ys : List V) (i j : Nat), o = .ref p ∧ v = .ref b ∧ l = some (i : Int) ∧ u = some (j : Int) ∧ i ≤ j ∧ H3 p = some (.lst xs) ∧ H3 b = some (.lst ys) ∧ p ≠ b ∧ xs.length + ys.length ≤ sizeLine ∧ Q σ (upd H3 p (.lst (xs.take i ++ ys ++ xs.drop j)))
theorem pg_subSl {X : Cx} {o : Expr} {lo hi : Option Expr} {to : TE} {tl th : TO} {pos p2 : Pos} (ho : PE X o to) (hl : PO X lo tl) (hu : PO X hi th)
    (ha : ∀ v, assign (.Subscript o (.Slice lo hi none p2) pos) X.env v = (do
      let ov ← holding [v] (eval o X.env)
      let iv ← holding [v, ov] (eval (.Slice lo hi none p2) X.env)
      standAt pos
      holding [v, ov, iv] (setItem ov iv v)
      release [iv, v, ov] []) := by intro _; rfl) : PG X (.Subscript o (.Slice lo hi none p2) pos) (gSubSl to tl th) := by
  refine ⟨fun pins s σ H v u Q I r h => ?_⟩
  rw [ha]
  refine wpAny_bind (wpAny_holding (thn (ho.run pins s σ H _ I h) fun ov s1 ⟨x, H1, I1, r1, q1⟩ => ?_))
  refine wpAny_bind (wpAny_holding ?_)
  refine wpAny_Slice (thn (hl.run pins s1 σ H1 _ I1 q1) fun vl s2 ⟨l, H2, I2, pl, q2⟩ => thn (hu.run pins s2 σ H2 _ I2 q2) fun vu s3 ⟨u', H3, I3, pu, q3⟩ => ?_)
  rw [evalPart_none]
  refine wpAny_pure ?_
  have I4 : Inv X pins σ H3 { s3 with heap := s3.heap.push { cls := .type "slice", data := .fields #[vl, vu, .none] } } := I3.kept (t' := s3.toks) fun b ob q => Heap.get?_push_of_some _ q
  refine wpAny_bind (wpAny_standAt (wpAny_bind (wpAny_holding ?_)))
  obtain ⟨p, b, xs, ys, i, j, e1, e2, e3, e4, hij, hp, hb, npb, hz, q⟩ := q3
  subst e1 e2 e3 e4
  cases r1
  cases r
  obtain ⟨z1, its, n, ra, la, ea⟩ := I4.lstM hp
  obtain ⟨z2, its2, n2, rb, lb, eb⟩ := I4.lstM hb
  refine wp_setSlice (items := its.toArray) (new := its2.toArray) ea eb (Heap.IsSliceOf.new ..) pl pu hij (by rw [List.size_toArray, List.size_toArray]; omega) npb fun f hf => ?_
  refine wpAny_release ⟨σ, _, I4.lset (t' := s3.toks) (its' := its.take i ++ its2 ++ its.drop j) hp ea ?_ ((ra.take i).append rb |>.append (ra.drop j)) ?_, q⟩
  · rw [hf]
    apply Array.toList_inj.mp
    have e1 : its.take (min i its.length) = its.take i := by
      by_cases h : i ≤ its.length
      · rw [Nat.min_eq_left h]
      · rw [Nat.min_eq_right (by omega), List.take_of_length_le (by omega), List.take_of_length_le (by omega)]
    have e2 : its.drop (min j its.length) = its.drop j := by
      by_cases h : j ≤ its.length
      · rw [Nat.min_eq_left h]
      · rw [Nat.min_eq_right (by omega), List.drop_of_length_le (by omega), List.drop_of_length_le (by omega)]
    simp [e1, e2]
    rw [List.take_of_length_le (by rw [List.length_drop]; omega)]
  · simp only [List.length_append, List.length_take, List.length_drop]
    omega
section
variable {K : PySem.W.Frag} {mu : Mu} {G0 H0 G H G' H' H1 : Hp} {env env' : LEnv} {σ σ' : L2.St} {C : Cl} {E : XK} {X : Cx}
def setSlAt (i : Nat) (e : LEnv) (a : Nat) (b : PyData) (ys : List PyData) : RS := match nth e i, b with
  | some (some (.ow m ds)), .int (.ofNat b) => (match isL ds && (Nat.ble a b && Nat.ble (ds.length + ys.length) small) with
    | true => .nx (e.set i (some (.ow m (ds.take a ++ ys ++ ds.drop b))))
    | false => .stuck)
  | _, _ => .stuck
def mSetSl (i : Nat) (m : MA) (fl fh : M) : MS := fun env => bindS (m env) fun p => match nth p.1 i with
  | some (some (.ow _ _)) => bindS (fl p.1) fun q => (match q.2 with
    | .int (.ofNat a) => bindS (fh q.1) fun r => setSlAt i r.1 a r.2 p.2
    | _ => .stuck)
  | _ => .stuck
theorem snds_setSl {i : Nat} {te ta tb : TE} {m : MA} {fl fh : M} (hm : SndN K C E te m) (ha : Snd K C E ta fl) (hb : Snd K C E tb fh) : SndS K C E (tAsg te (gSubSl (tVar i) (tPart ta) (tPart tb))) (mSetSl i m fl fh) := by
  intro mu G0 H0 env σ G H D S hh
  refine hm _ _ _ _ _ _ _ _ S ?_
  unfold mSetSl at hh
  cases em : m env with
  | rai c => rw [em] at hh; exact hh
  | stuck => rw [em] at hh; exact hh.elim
  | ok p =>
    rw [em] at hh
    obtain ⟨e0, ys⟩ := p
    have hh : PostS K C E mu G0 H0 G (match nth e0 i with
      | some (some (.ow _ _)) => bindS (fl e0) fun q => (match q.2 with
        | .int (.ofNat a) => bindS (fh q.1) fun r => setSlAt i r.1 a r.2 ys
        | _ => .stuck)
      | _ => .stuck) D := hh
    rw [nth_eq] at hh
    intro G' H' vs b S' s' ry hq
    have S' : StR K C mu G0 H0 e0 σ G' H' := S'
    have ry : RpA K G' vs ys := ry
    split at hh
    rotate_left
    · exact hh.elim
    rename_i mm ds eo
    obtain ⟨pa, oo, hσ, hpa, _, hga, _⟩ := S'.ol i mm ds eo
    have x := Xt.new (o := .lst vs) S'.sub S'.fz.tb hq nt_lst
    have S1 := S'.ext x
    have s1 : Same G (upd G' b (.lst vs)) := s'.trans x.g
    refine ⟨.ref pa, hσ, ?_⟩
    refine ha _ _ _ _ _ _ _ _ S1 (PostS.bind (Rl := RlE K) (hh.mono s1) fun q v G2 H2 S2 s2 r2 h2 => ?_)
    obtain ⟨e2, d2⟩ := q
    have r2 : Rp K G2 v d2 := r2
    cases r2 with
    | int k =>
      cases k with
      | negSucc _ => exact h2.elim
      | ofNat a =>
        refine ⟨_, rfl, ?_⟩
        have h2 : PostS K C E mu G0 H0 G2 (bindS (fh e2) fun r => setSlAt i r.1 a r.2 ys) D := h2
        refine hb _ _ _ _ _ _ _ _ S2 (PostS.bind (Rl := RlE K) h2 fun r v3 G3 H3 S3 s3 r3 h3 => ?_)
        obtain ⟨e3, d3⟩ := r
        have h3 : PostS K C E mu G0 H0 G3 (setSlAt i e3 a d3 ys) D := h3
        have r3 : Rp K G3 v3 d3 := r3
        have S3 : StR K C mu G0 H0 e3 σ G3 H3 := S3
        unfold setSlAt at h3
        rw [nth_eq] at h3
        cases e1 : e3[i]? with
        | none => rw [e1] at h3; exact h3.elim
        | some o1 =>
          cases o1 with
          | none => rw [e1] at h3; exact h3.elim
          | some sl =>
            cases sl with
            | sh d' => rw [e1] at h3; exact h3.elim
            | ow m3 ds3 =>
              rw [e1] at h3
              cases r3 with
              | int k3 =>
                cases k3 with
                | negSucc _ => exact h3.elim
                | ofNat c =>
                  have h3 : PostS K C E mu G0 H0 G3 (match isL ds3 && (Nat.ble a c && Nat.ble (ds3.length + ys.length) small) with
                    | true => .nx (e3.set i (some (.ow m3 (ds3.take a ++ ys ++ ds3.drop c))))
                    | false => .stuck) D := h3
                  cases cc : (isL ds3 && (Nat.ble a c && Nat.ble (ds3.length + ys.length) small)) with
                  | false => rw [cc] at h3; exact h3.elim
                  | true =>
                    rw [cc] at h3
                    rw [Bool.and_eq_true, Bool.and_eq_true] at cc
                    obtain ⟨c1, c2, c3⟩ := cc
                    obtain ⟨q', ws, b1, b2, b3, b4, _⟩ := S3.olL e1 c1
                    rw [hσ] at b1
                    cases b1
                    have gb : G3 b = some (.lst vs) := (s2.trans s3) _ _ upd_same
                    have npb : pa ≠ b := fun z => by rw [← z, b4] at gb; cases gb
                    have hlen : ws.length + vs.length ≤ sizeLine := by
                      rw [b3.length, ry.length]
                      exact Nat.le_trans (Nat.le_of_ble_eq_true c3) small_le
                    have ry3 : RpA K G3 vs ys := RpA.mono (x.g.trans (s2.trans s3)) _ _ ry
                    refine ⟨_, rfl, pa, b, ws, vs, a, c, rfl, rfl, rfl, rfl, Nat.le_of_ble_eq_true c2, b2, S3.sub _ _ gb, npb, hlen, ?_⟩
                    have h3 : PostS K C E mu G0 H0 G3 (.nx (e3.set i (some (.ow m3 (ds3.take a ++ ys ++ ds3.drop c))))) D := h3
                    refine h3 _ _ _ (S3.own_to (G' := G3) e1 hσ (.refl _) ?_ ⟨?_, ?_⟩ (fun a o z => .inl z) upd_same (.lst (((b3.take a).append ry3).append (b3.drop c)))) (.refl _)
                    · intro a o z
                      have : a ≠ pa := fun y => by rw [y, b4] at z; cases z
                      rw [upd_ne this]
                      exact S3.sub a o z
                    · intro b o nb _ z
                      rw [upd_ne nb]; exact z
                    · refine tabs_but S3.fz.tb fun b o z nl => ?_
                      have : b ≠ pa := fun y => by rw [y, b2] at z; exact nl _ (Option.some.inj z).symm
                      rw [upd_ne this]; exact z
              | _ => exact h3.elim
    | _ => exact h2.elim
theorem s_setSl (i : Nat) {y : Str} {e a b : Expr} {te ta tb : TE} {m : MA} {fl fh : M} {p p2 spos pos : Pos} (he : ND X C E e te m) (ha : ED X C E a ta fl) (hb : ED X C E b tb fh) (hN : X.N[i]? = some y := by rfl) (hv : Vis X.env.scope y := by first | exact Or.inl rfl | exact Or.inr (Or.inl rfl) | exact Or.inr (Or.inr rfl)) (hd : (y == ("__debug__" : Str)) = false := by decide)
    (hcd : (y == ("__classdict__" : Str)) = false := by decide)
    (hg : ∀ v, assign (.Subscript (.Name y p) (.Slice (some a) (some b) none p2) pos) X.env v = (do
      let ov ← holding [v] (eval (.Name y p) X.env)
      let iv ← holding [v, ov] (eval (.Slice (some a) (some b) none p2) X.env)
      standAt pos
      holding [v, ov, iv] (setItem ov iv v)
      release [iv, v, ov] []) := by intro _; rfl)
    (hs : swapsWithSole [.Subscript (.Name y p) (.Slice (some a) (some b) none p2) pos] e spos.line X.env = pure false := by rfl) (hw : swappedStores [.Subscript (.Name y p) (.Slice (some a) (some b) none p2) pos] e X.env = pure none := by rfl)
    (h1 : (assignEach [.Subscript (.Name y p) (.Slice (some a) (some b) none p2) pos] X.env).map (·.2) = [assign (.Subscript (.Name y p) (.Slice (some a) (some b) none p2) pos) X.env] := by rfl) :
    SD X C E (.Assign [.Subscript (.Name y p) (.Slice (some a) (some b) none p2) pos] e spos) (tAsg te (gSubSl (tVar i) (tPart ta) (tPart tb))) (mSetSl i m fl fh) :=
  ⟨ps_asg he.pe (pg_subSl (pe_var hN hv hd hcd) (po_some ha.pe) (po_some hb.pe) hg) hs hw h1, snds_setSl he.sd ha.sd hb.sd⟩
end
end LW

namespace LW
open PySem PySem.Spec PyProof.Rows L2
section
variable {K : PySem.W.Frag} {mu : Mu} {G0 H0 G H G' H' H1 : Hp} {env env' : LEnv} {σ σ' : L2.St} {C : Cl} {E : XK} {X : Cx}
/-! ### xs.index(d) -/
def idxF (n : Nat) (d : PyData) : List PyData → Nat → Option Nat
  | [], _ => none
  | z :: r, j => bif eqF n z d then some j else idxF n d r (j + 1)
theorem idxF_at {n : Nat} {d : PyData} (hd : shF n d = true) : ∀ {ds : List PyData} {j k : Nat}, shA (shF n) ds = true → idxF n d ds j = some k → ∃ i z, k = j + i ∧ ds[i]? = some z ∧ PyData.eqv z d = true ∧ ∀ (m : Nat) z', m < i → ds[m]? = some z' → PyData.eqv z' d = false
  | [], j, k, _, h => by cases h
  | z :: r, j, k, s, h => by
    have s : (shF n z && shA (shF n) r) = true := s
    rw [Bool.and_eq_true] at s
    unfold idxF at h
    cases c : eqF n z d with
    | true =>
      rw [c] at h
      cases h
      exact ⟨0, z, rfl, rfl, by rw [← eqF_eqv n z d s.1]; exact c, fun m z' hm => absurd hm (by omega)⟩
    | false =>
      rw [c] at h
      have h : idxF n d r (j + 1) = some k := h
      obtain ⟨i, z1, e1, e2, e3, e4⟩ := idxF_at hd s.2 h
      refine ⟨i + 1, z1, by omega, e2, e3, fun m z' hm hz => ?_⟩
      cases m with
      | zero =>
        have : z = z' := Option.some.inj hz
        subst this
        rw [← eqF_eqv n z d s.1]; exact c
      | succ m => exact e4 m z' (by omega) hz
def iIndex (ds : List PyData) (d : PyData) : R PyData := gd (shA (shF 11) ds && shF 11 d) (match idxF 11 d ds 0 with
  | some k => .ok (.int (.ofNat k))
  | none => .stuck)
def mIndex (f g : M) : M := fun env => (f env).bind fun p => match p.2 with
  | .list ds => (g p.1).bind fun q => lif q.1 (iIndex ds q.2)
  | _ => .stuck
theorem snd_index {to te : TE} {f g : M} (hf : Snd K C E to f) (hg : Snd K C E te g) : Snd K C E (tBM K "list" (rIndexD K) to (tCons te tNil)) (mIndex f g) := by
  intro mu G0 H0 env σ G H Q S h
  refine hf _ _ _ _ _ _ _ _ S (h.bind fun p x G1 H1 S1 s1 r1 h1 => ?_)
  obtain ⟨e1, d1⟩ := p
  cases r1 with
  | lst a b =>
    rename_i p vs es
    have h1 : Post (RlE K) K C E mu G0 H0 σ G1 ((g e1).bind fun q => lif q.1 (iIndex es q.2)) Q := h1
    refine ⟨.inl ⟨rfl, _, SqL.of (S1.sub _ _ a)⟩, ?_⟩
    refine hg _ _ _ _ _ _ _ _ S1 (h1.bind fun q y G2 H2 S2 s2 r2 h2 => ?_)
    obtain ⟨e2, d2⟩ := q
    have r2 : Rp K G2 y d2 := r2
    have h2 : Post (RlE K) K C E mu G0 H0 σ G2 (lif e2 (iIndex es d2)) Q := h2
    obtain ⟨c, h2⟩ := Post.gdL h2
    rw [Bool.and_eq_true] at c
    cases ei : idxF 11 d2 es 0 with
    | none => rw [ei] at h2; exact h2.elim
    | some k =>
      rw [ei] at h2
      obtain ⟨i, z, e3, e4, e5, e6⟩ := idxF_at c.2 c.1 ei
      have ek : k = i := by omega
      subst ek
      have sl : shF 12 (.list es) = true := c.1
      have rl : Rp K G2 (.ref p) (.list es) := .lst (s2 _ _ a) (RpA.mono s2 _ _ b)
      exact ⟨p, y, d2, es, k, z, rfl, rfl, (Rp.mono S2.sub _ _ rl).dp _ _ (shF_lay _ _ sl).1, (Rp.mono S2.sub _ _ r2).dp _ _ (shF_lay _ _ c.2).1, shF_shaped (by decide) sl, shF_shaped (by decide) c.2, e4, e5, e6, post_here S2 h2 (.int _)⟩
  | _ => exact h1.elim
theorem d_index (hu : X.A.units + 65 < cLine) {o e : Expr} {to te : TE} {f g : M} {apos cpos : Pos} (ho : ED X C E o to f) (he : ED X C E e te g) (hbase : attributeBase o "index" X.env (eval o X.env) = eval o X.env := by rfl)
    (hfew : ((backTo cpos (starEach [e] X.env)).all (fun x => !x.1) && (backToKw cpos (keywordEach [] X.env)).all (fun x => x.1.isSome) && decide ([e].length + ([] : List Keyword).length + (if ([] : List Keyword).isEmpty then 0 else 1) < 30)) = true := by rfl)
    (hline : (apos.endLine == cpos.line) = true := by rfl) (hs : starEach [e] X.env = (false, eval e X.env) :: starEach [] X.env := by rfl) (hplain : (backTo cpos (starEach [] X.env)).any (·.1) = false := by rfl) :
    ED X C E (.Call (.Attribute o "index" apos) [e] [] cpos) (tBM X.K "list" (rIndexD X.K) to (tCons te tNil)) (mIndex f g) :=
  ⟨pe_bm PySem.F.plainAttrs_list PySem.F.slot_list_index PySem.F.type_list_index (mt_indexD hu) ho.pe (pa_cons he.pe pa_nil hs) hbase hfew hline hs hplain, snd_index ho.sd he.sd⟩
/-! ### range(i, j, -1) -/
def dnFrom : Int → Nat → List PyData
  | _, 0 => []
  | lo, n + 1 => .int lo :: dnFrom (lo - 1) n
def dnV : Int → Nat → List V
  | _, 0 => []
  | lo, n + 1 => .int lo :: dnV (lo - 1) n
theorem dnV_length : ∀ (lo : Int) (n : Nat), (dnV lo n).length = n
  | _, 0 => rfl
  | lo, n + 1 => by simp [dnV, dnV_length (lo - 1) n]
theorem dnV_get : ∀ (lo : Int) (n i : Nat), i < n → (dnV lo n)[i]? = some (V.int (lo + (i : Nat) * (-1)))
  | lo, n + 1, 0, _ => by simp [dnV]
  | lo, n + 1, i + 1, h => by
    have := dnV_get (lo - 1) n i (by omega)
    show (dnV (lo - 1) n)[i]? = _
    rw [this]
    congr 2
    omega
theorem rpa_dn : ∀ (lo : Int) (n : Nat), RpA K G (dnV lo n) (dnFrom lo n)
  | _, 0 => .nil
  | lo, n + 1 => .cons (.int _) (rpa_dn (lo - 1) n)
theorem itok_dn {lo : Int} {n : Nat} : ItOk K (Itc lo (-1) n) G (dnFrom lo n) :=
  ⟨dnV lo n, rpa_dn lo n, fun i H _ hi => by rw [dnV_length] at hi; exact hi, fun i H _ hi => by rw [dnV_length] at hi; exact (by show n ≤ i; omega), fun i H x H' _ y hi => ⟨y.1, by rw [dnV_length] at hi; rw [dnV_get lo n i hi, y.2]⟩⟩
def rgD : List PyData → R (List PyData)
  | [.int i, .int j, .int (.negSucc 0)] => gd (near i && near j) (.ok (dnFrom i (i - j).toNat))
  | _ => .stuck
theorem sndi_rgD {ta : TA} {g : MA} (h : SndA K C E ta g) : SndI K C E (iRng3 ta) (miR rgD g) := by
  intro mu G0 H0 env σ G H R S hh
  refine h _ _ _ _ _ _ _ _ S (hh.bind fun p xs G1 H1 S1 s1 r1 h1 => ?_)
  obtain ⟨e, ds⟩ := p
  have h1 : Post (RlI K) K C E mu G0 H0 σ G1 (lif e (rgD ds)) R := h1
  have r1 : RpA K G1 xs ds := r1
  unfold rgD at h1
  split at h1
  · rename_i i j
    clear hh
    cases r1 with
    | cons ra r2 =>
      cases r2 with
      | cons rb r3 =>
        cases r3 with
        | cons rc r4 =>
          cases r4
          cases ra
          cases rb
          cases rc
          obtain ⟨c, h1⟩ := Post.gdL h1
          rw [Bool.and_eq_true] at c
          have n1 := near_is c.1
          have n2 := near_is c.2
          exact ⟨_, _, -1, _, rfl, RgC.neg (by omega) (by omega) (by omega) (by omega), post_here S1 h1 itok_dn⟩
  · exact h1.elim
theorem i_rgD {a b c : Expr} {tg : Expr} {taa : TA} {ma : MA} {p pos : Pos} (hg : Gl X "range") (hm : X.mg "range" = none) (ha : AD X C E [a, b, c] taa ma) (hs : starEach [a, b, c] X.env = (false, eval a X.env) :: starEach [b, c] X.env := by rfl) (hpl : (backTo pos (starEach [b, c] X.env)).any (·.1) = false := by rfl) :
    ID X C E tg (.Call (.Name "range" p) [a, b, c] [] pos) (iRng3 taa) (miR rgD ma) := ⟨pi_range3 hg hm ha.pe hs hpl, sndi_rgD ha.sd⟩
/-! ### x, y = e, a new list of one's own; two new lists -/
def mParXN (i j : Nat) (f : M) (m : MA) : MS := fun env => bindS (f env) fun p => bindS (m p.1) fun q => match Nat.blt j q.1.length with
  | true => .nx ((q.1.set i (some (.sh p.2))).set j (some (.ow false q.2)))
  | false => .stuck
theorem snds_parXN {i j : Nat} {ta te : TE} {f : M} {m : MA} (hf : Snd K C E ta f) (hm : SndN K C E te m) : SndS K C E (tPar i j (tCons ta (tCons te tNil))) (mParXN i j f m) := by
  intro mu G0 H0 env σ G H D S hh
  refine hf _ _ _ _ _ _ _ _ S (PostS.bind (Rl := RlE K) hh fun p x G1 H1 S1 s1 r1 h1 => ?_)
  obtain ⟨e1, d1⟩ := p
  have h1 : PostS K C E mu G0 H0 G1 (bindS (m e1) fun q => match Nat.blt j q.1.length with
    | true => .nx ((q.1.set i (some (.sh d1))).set j (some (.ow false q.2)))
    | false => .stuck) D := h1
  refine hm _ _ _ _ _ _ _ _ S1 ?_
  cases e : m e1 with
  | rai c => rw [e] at h1; exact h1
  | stuck => rw [e] at h1; exact h1.elim
  | ok q =>
    rw [e] at h1
    intro G' H' vs b S' s' r hq
    have h1 : PostS K C E mu G0 H0 G1 (match Nat.blt j q.1.length with
      | true => .nx ((q.1.set i (some (.sh d1))).set j (some (.ow false q.2)))
      | false => .stuck) D := h1
    cases c : Nat.blt j q.1.length with
    | true =>
      rw [c] at h1
      have S2 : StR K C mu G0 H0 (q.1.set i (some (.sh d1))) (σ.set i (some x)) G' H' := S'.set_sh i (Rp.mono s' _ _ r1)
      exact ⟨_, _, rfl, h1 _ _ _ (S2.mk_own (by rw [List.length_set]; exact Nat.le_of_ble_eq_true c) hq (.lst r)) s'⟩
    | false => rw [c] at h1; exact h1.elim
theorem s_parXN (i j : Nat) {x y : Str} {a b : Expr} {ta te : TE} {f : M} {m : MA} {px py pt pos : Pos} {kt k2 pt2} (hc : X.calm = true) (hN : X.N.Nodup) (ha : ED X C E a ta f) (hb : ND X C E b te m) (hi : X.N[i]? = some x := by rfl) (hj : X.N[j]? = some y := by rfl) (hij : i ≠ j := by decide)
    (hx : X.env.scope.names.lookup x = some .local := by rfl) (hy : X.env.scope.names.lookup y = some .local := by rfl) (n1 : starEach [a, b] X.env = (false, eval a X.env) :: starEach [b] X.env := by rfl) (n2 : starEach [b] X.env = (false, eval b X.env) :: starEach [] X.env := by rfl)
    (hw : swappedStores [.Tuple [.Name x px, .Name y py] kt pt] (.Tuple [a, b] k2 pt2) X.env = pure (some [x, y]) := by rfl)
    (hs : swapsWithSole [.Tuple [.Name x px, .Name y py] kt pt] (.Tuple [a, b] k2 pt2) pos.line X.env = pure false := by rfl) :
    SD X C E (.Assign [.Tuple [.Name x px, .Name y py] kt pt] (.Tuple [a, b] k2 pt2) pos) (tPar i j (tCons ta (tCons te tNil))) (mParXN i j f m) := ⟨ps_par hc hN hi hj hij hx hy (pa_cons ha.pe (pa_cons hb.pe pa_nil n2) n1) hw hs, snds_parXN ha.sd hb.sd⟩
def mParN0 (i j : Nat) (m : MA) : MS := fun env => bindS (m env) fun p => match Nat.blt i p.1.length && Nat.blt j p.1.length with
  | true => .nx ((p.1.set i (some (.ow false p.2))).set j (some (.ow false [])))
  | false => .stuck
theorem snds_parN0 {i j : Nat} {te : TE} {m : MA} (h : SndN K C E te m) : SndS K C E (tPar i j (tCons te (tCons (tLst tNil) tNil))) (mParN0 i j m) := by
  intro mu G0 H0 env σ G H D S hh
  refine h _ _ _ _ _ _ _ _ S ?_
  unfold mParN0 at hh
  cases e : m env with
  | rai c => rw [e] at hh; exact hh
  | stuck => rw [e] at hh; exact hh.elim
  | ok p =>
    rw [e] at hh
    intro G' H' vs q S' s r hq
    have hh : PostS K C E mu G0 H0 G (match Nat.blt i p.1.length && Nat.blt j p.1.length with
      | true => .nx ((p.1.set i (some (.ow false p.2))).set j (some (.ow false [])))
      | false => .stuck) D := hh
    cases c : (Nat.blt i p.1.length && Nat.blt j p.1.length) with
    | false => rw [c] at hh; exact hh.elim
    | true =>
      rw [c] at hh
      rw [Bool.and_eq_true] at c
      refine ⟨Nat.zero_le _, fun b hb => ⟨_, _, rfl, ?_⟩⟩
      have S2 := S'.mk_own (Nat.le_of_ble_eq_true c.1) hq (.lst r)
      exact hh _ _ _ (S2.mk_own (by rw [List.length_set]; exact Nat.le_of_ble_eq_true c.2) hb (.lst .nil)) s
theorem s_parN0 (i j : Nat) {x y : Str} {a : Expr} {te : TE} {m : MA} {px py pt pos pl : Pos} {kt k2 pt2} (hc : X.calm = true) (hN : X.N.Nodup) (ha : ND X C E a te m) (hi : X.N[i]? = some x := by rfl) (hj : X.N[j]? = some y := by rfl) (hij : i ≠ j := by decide)
    (hx : X.env.scope.names.lookup x = some .local := by rfl) (hy : X.env.scope.names.lookup y = some .local := by rfl) (n1 : starEach [a, .List [] pl] X.env = (false, eval a X.env) :: starEach [.List [] pl] X.env := by rfl) (n2 : starEach [.List [] pl] X.env = (false, eval (.List [] pl) X.env) :: starEach [] X.env := by rfl)
    (hw : swappedStores [.Tuple [.Name x px, .Name y py] kt pt] (.Tuple [a, .List [] pl] k2 pt2) X.env = pure (some [x, y]) := by rfl)
    (hs : swapsWithSole [.Tuple [.Name x px, .Name y py] kt pt] (.Tuple [a, .List [] pl] k2 pt2) pos.line X.env = pure false := by rfl) :
    SD X C E (.Assign [.Tuple [.Name x px, .Name y py] kt pt] (.Tuple [a, .List [] pl] k2 pt2) pos) (tPar i j (tCons te (tCons (tLst tNil) tNil))) (mParN0 i j m) := ⟨ps_par hc hN hi hj hij hx hy (pa_cons ha.pe (pa_cons (pe_lst pa_nil) pa_nil n2) n1) hw hs, snds_parN0 ha.sd⟩
end
end LW

namespace LW
open PySem PySem.Spec PyProof.Rows L2 LamX
/-! ### the text's end with a check between its list and its answer -/
section
variable {K : PySem.W.Frag} {H H' : Hp} {C : Cl}
theorem tail_ok3 {P : Program} {w : World} {mg : Str → Option Value} {base : Heap} {k i n : Nat} {q : Str} {ls : List Lm} {lT : List (Addr × Str)} {tb : TE} {m : M} {E E2 : XK} {tt : TT} {mt : MT} {ts : TS} (hl : ToldL K C nmT lT) (G : ∀ l ∈ ls, LamG P w K mg base C k q l) (hi : i < n) (h2 : 2 < n) (hz : ls.length ≤ sizeLine) (hi2 : i ≠ 2)
    (st : SndT K C E2 tt mt) (ht : mt (List.replicate n none) = .ok (List.replicate n none, false))
    (sd : Snd K C E tb m) (hm : m (List.replicate n none) = .ok (List.replicate n none, .bool true)) :
    TailOk C n (tSeq (tAsg (tLst (taW C.T q ls)) (gName 2)) (tSeq (tIfS tt ts tNext) (tRet (tAndV (teW K (spTold P w K mg base k lT) i) tb)))) := by
  intro D σ H hn tb0 hD
  refine wr_mean ls σ H _ tb0 fun vs H1 e1 t1 W => ⟨by rw [W.len]; exact hz, fun p hp => ?_⟩
  refine st _ _ _ _ _ _ _ _ (StR.blank (n := n) (σ := σ.set 2 (some (.ref p))) (by rw [List.length_set]; exact hn) (t1.ext (up_same hp))) ?_
  rw [ht]
  intro b G2 H2 S2 _ rb
  obtain rfl : b = false := rb
  have kp : ∀ b o, nt o → upd H1 p (.lst vs) b = some o → H2 b = some o := fun b o n e => S2.fz.k b o (fun z => z.elim) n e
  refine iteF ?_
  refine wrongs_mean (vs := vs) hl G (by rw [List.length_set, hn]; exact hi) (List.getElem?_set_self (by rw [hn]; exact h2)) (kp _ _ nt_lst upd_same) (W.ext fun b o n e => kp b o n (up_same hp _ _ e)) S2.fz.tb fun H3 t3 => ?_
  refine ⟨true, rfl, iteT ?_⟩
  refine sd _ _ _ _ _ _ _ _ (StR.blank (n := n) (by rw [List.length_set]; exact hn) t3) ?_
  rw [hm]
  intro v G' H4 S' _ r
  cases r
  exact hD H4
theorem tail_ok4 {P : Program} {w : World} {mg : Str → Option Value} {base : Heap} {k i n : Nat} {q : Str} {ls : List Lm} {lT : List (Addr × Str)} {E2 : XK} {tt : TT} {mt : MT} {ts : TS} (hl : ToldL K C nmT lT) (G : ∀ l ∈ ls, LamG P w K mg base C k q l) (hi : i < n) (h2 : 2 < n) (hz : ls.length ≤ sizeLine) (hi2 : i ≠ 2)
    (st : SndT K C E2 tt mt) (ht : mt (List.replicate n none) = .ok (List.replicate n none, false)) :
    TailOk C n (tSeq (tAsg (tLst (taW C.T q ls)) (gName 2)) (tSeq (tIfS tt ts tNext) (tRet (teW K (spTold P w K mg base k lT) i)))) := by
  intro D σ H hn tb0 hD
  refine wr_mean ls σ H _ tb0 fun vs H1 e1 t1 W => ⟨by rw [W.len]; exact hz, fun p hp => ?_⟩
  refine st _ _ _ _ _ _ _ _ (StR.blank (n := n) (σ := σ.set 2 (some (.ref p))) (by rw [List.length_set]; exact hn) (t1.ext (up_same hp))) ?_
  rw [ht]
  intro b G2 H2 S2 _ rb
  obtain rfl : b = false := rb
  have kp : ∀ b o, nt o → upd H1 p (.lst vs) b = some o → H2 b = some o := fun b o n e => S2.fz.k b o (fun z => z.elim) n e
  refine iteF ?_
  exact wrongs_mean (vs := vs) hl G (by rw [List.length_set, hn]; exact hi) (List.getElem?_set_self (by rw [hn]; exact h2)) (kp _ _ nt_lst upd_same) (W.ext fun b o n e => kp b o n (up_same hp _ _ e)) S2.fz.tb fun H3 t3 => hD H3
end
/-- the check between the list and the answer -/
def midE (s : Stmt) : Expr := match defBody s with
  | _ :: _ :: .If c _ _ _ :: _ => c
  | _ => .Constant .none 0 ⟨0, 0, 0, 0⟩
/-- the j-th statement of a class's body -/
def methOf (s : Stmt) (j : Nat) : Stmt := match s with
  | .ClassDef _ _ _ body _ _ _ _ _ _ _ => body.getD j (.Pass ⟨0, 0, 0, 0⟩)
  | _ => .Pass ⟨0, 0, 0, 0⟩
def defOfM (c x q : Str) (st : Stmt) (dfl : List He.Dv := []) : He.DefD := ⟨(c, some x), x, q, defArgs st, defBody st, defScope st, dfl, []⟩
def tyNB (K : PySem.W.Frag) (x : Str) (id : String) : Bool := He.eqO (PySem.W.nsIn K mainGlobals x) (some (some (.type id)))
theorem tyNB_ok {K : PySem.W.Frag} {h : Heap} {mg : Str → Option Value} {x : Str} {id : String} (X : K.In h) (G : h.Ns mainGlobals mg) (c : tyNB K x id = true) : mg x = some (.type id) := PySem.W.mg_of X G (He.eqO_ok c)
end LW

namespace L2
open PySem PySem.Spec PyProof.Rows
section
variable {X : Cx}
/-- name = {k: v for ..} on one line, the name a local; the dict locked -/
theorem ps_setDcF {i : Nat} {y : Str} {py : Pos} {kx vx tg iter : Expr} {ifs : List Expr} {scope : Scope} {own : List (Str × Nat)} {pos spos : Pos} {wi : TI} {g : TG} {tt : TT} {tk tv : TE} (hc : X.calm = true) (hN : X.N.Nodup) (hy : X.N[i]? = some y) (hyl : X.env.scope.names.lookup y = some .local)
    (hsw : swapsWith (.DictComp kx vx [⟨tg, iter, ifs, 0⟩] scope pos) (some (.Name y py)) spos.line X.env = pure true) (hi : PI X tg iter wi) (ok : BlkOk X.N X.env.scope scope own)
    (hg : ∀ (s : Shared) (H : Hp) (C : Addr) (cl : List (Str × Addr)) (fp : List Addr), PG (X.blk s H scope (compEnvC scope cl C X.env) fp) tg g) (ht : ∀ (s : Shared) (H : Hp) (C : Addr) (cl : List (Str × Addr)) (fp : List Addr), PTs (X.blk s H scope (compEnvC scope cl C X.env) fp) ifs tt)
    (hk : ∀ (s : Shared) (H : Hp) (C : Addr) (cl : List (Str × Addr)) (fp : List Addr), PE (X.blk s H scope (compEnvC scope cl C X.env) fp) kx tk)
    (he : ∀ (s : Shared) (H : Hp) (C : Addr) (cl : List (Str × Addr)) (fp : List Addr), PE (X.blk s H scope (compEnvC scope cl C X.env) fp) vx tv) (hs : ∀ x, foldedSetIterable iter X.env x = pure x := by intro _; rfl) :
    PS X (.Assign [.Name y py] (.DictComp kx vx [⟨tg, iter, ifs, 0⟩] scope pos) spos) (tAsg (LW.tFrzN (tDc wi g tt tk tv (own.map (·.2)))) (gName i)) := by
  refine ⟨fun pins s σ H D I h => ?_⟩
  rw [exec_Assign_Name_used _ _ _ _ hsw]
  refine wpAny_bind (wpAny_standAt (wpAny_bind ?_))
  show wpAny _ X.A (do let _ ← comprehension (.DictComp kx vx [⟨tg, iter, ifs, 0⟩] scope pos) scope X.env (firstIterPos [⟨tg, iter, ifs, 0⟩] pos) newDict false (eval iter X.env) (some (assign (.Name y py) X.env))) _ _ s
  have h : tDc wi g tt tk tv (own.map (·.2)) σ H (fun x H1 => ∃ a kvs, x = .ref a ∧ H1 a = some (.dK kvs) ∧ ∀ od, gName i x σ (upd H1 a (.frz od (.dK kvs))) D.nx) := h
  refine wpAny_bind (thn (dc_core (Qf := fun _ s' => SP X pins D .next s') hc hN I hi ok hg ht hk he hs h fun L C s' m H' I' q hn f => ?_) fun _ s' hq => wpAny_pure (wpAny_pure hq))
  show wpAny _ _ (assign (.Name y py) X.env (.ref L)) _ _ _
  refine wpAny_assign_Name (store_ok2 (v := V.ref L) I' hN hy (.inl hyl) rfl (fun s2 I2 ⟨a, sb, ha⟩ => ?_) (.inr hyl))
  obtain ⟨f0, f1, f2, f3, f4, f5⟩ := f
  have haC : C ≠ a := by
    rcases ha with z | z
    · rw [z]; exact f1
    · exact fun e => f4 y a z e.symm
  refine ⟨m, hn.sameBut sb haC, fun h3 sb3 => ?_⟩
  obtain ⟨a2, kvs, ex, ea, q⟩ := q
  obtain ⟨od, Ib⟩ := (I2.turned (t' := s2.toks) (fun b o hb e => (sb3.2 b hb).trans e) f0 f1 f3 f4 f5).lock ea trivial
  exact ⟨_, _, Ib, q od⟩
theorem swd_true {kx vx : Expr} {gs : List Comprehension} {scope : Scope} {pos py : Pos} {y : Str} {l : Nat} {env : Env} (hk : env.scope.kind = .function) (hy : env.scope.names.lookup y = some .local) (hl : (py.line == pos.line) = true)
    (ha : (scope.names.any fun (n, k) => n == y && (k == .local || k == .cell)) = false) : swapsWith (.DictComp kx vx gs scope pos) (some (.Name y py)) l env = pure true := by
  have ky : env.kindOf y = some .local := hy
  have hb : env.blockKind = .function := by unfold Env.blockKind; rw [hk]; rfl
  unfold swapsWith
  simp only [hb, ky, ha, Expr.pos, hl]
  rfl
end
end L2
namespace LW
open PySem PySem.Spec PyProof.Rows L2
section
variable {K : PySem.W.Frag} {C : Cl} {E : XK} {X : Cx} {bb : Bi} {is : List Nat} {te tk : TE} {f fk : M} {ma : MA} {tt : TT} {mt : MT} {pos : Pos}
theorem s_setDc (i : Nat) {y : Str} {py spos : Pos} {tg iter kx vx : Expr} {scope : Scope} {own : List (Str × Nat)} {vs : List Nat} {wi : TI} {gg : TG} (hc : X.calm = true) (hN : X.N.Nodup) (ok : BlkOk X.N X.env.scope scope own) (hi : ID X C E tg iter wi ma)
    (hg : ∀ (s : Shared) (H : Hp) (B : Addr) (cl : List (Str × Addr)) (fp : List Addr), GD (X.blk s H scope (compEnvC scope cl B X.env) fp) C tg gg bb is)
    (hk : ∀ (s : Shared) (H : Hp) (B : Addr) (cl : List (Str × Addr)) (fp : List Addr), ED (X.blk s H scope (compEnvC scope cl B X.env) fp) C EX0 kx tk fk)
    (he : ∀ (s : Shared) (H : Hp) (B : Addr) (cl : List (Str × Addr)) (fp : List Addr), ED (X.blk s H scope (compEnvC scope cl B X.env) fp) C EX0 vx te f)
    (hsw : swapsWith (.DictComp kx vx [⟨tg, iter, [], 0⟩] scope pos) (some (.Name y py)) spos.line X.env = pure true)
    (hy : X.N[i]? = some y := by rfl) (hyl : X.env.scope.names.lookup y = some .local := by rfl) (hvs : own.map (·.2) = vs := by rfl) (his : ∀ i ∈ is, i ∈ vs := by decide) (hs : ∀ x, foldedSetIterable iter X.env x = pure x := by intro _; rfl) :
    SD X C E (.Assign [.Name y py] (.DictComp kx vx [⟨tg, iter, [], 0⟩] scope pos) spos) (tAsg (tFrzN (tDc wi gg tYes tk te vs)) (gName i)) (mAsg (bName i) (mDct (mCompD vs ma bb mtYes fk f))) := by
  subst hvs
  exact ⟨ps_setDcF hc hN hy hyl hsw hi.pe ok (fun s H B cl fp => (hg s H B cl fp).pe) (fun _ _ _ _ _ => pts_nil) (fun s H B cl fp => (hk s H B cl fp).pe) (fun s H B cl fp => (he s H B cl fp).pe) hs, snds_asg (snd_frzN (snd_compD hi.sd (hg X.s_0 X.H_0 0 [] []).sd his sndt_yes (hk X.s_0 X.H_0 0 [] []).sd (he X.s_0 X.H_0 0 [] []).sd)) sndg_name⟩
theorem s_setDcif (i : Nat) {y : Str} {py spos : Pos} {tg iter kx vx cnd : Expr} {scope : Scope} {own : List (Str × Nat)} {vs : List Nat} {wi : TI} {gg : TG} (hc : X.calm = true) (hN : X.N.Nodup) (ok : BlkOk X.N X.env.scope scope own) (hi : ID X C E tg iter wi ma)
    (hg : ∀ (s : Shared) (H : Hp) (B : Addr) (cl : List (Str × Addr)) (fp : List Addr), GD (X.blk s H scope (compEnvC scope cl B X.env) fp) C tg gg bb is)
    (ht : ∀ (s : Shared) (H : Hp) (B : Addr) (cl : List (Str × Addr)) (fp : List Addr), TD (X.blk s H scope (compEnvC scope cl B X.env) fp) C EX0 cnd tt mt)
    (hk : ∀ (s : Shared) (H : Hp) (B : Addr) (cl : List (Str × Addr)) (fp : List Addr), ED (X.blk s H scope (compEnvC scope cl B X.env) fp) C EX0 kx tk fk)
    (he : ∀ (s : Shared) (H : Hp) (B : Addr) (cl : List (Str × Addr)) (fp : List Addr), ED (X.blk s H scope (compEnvC scope cl B X.env) fp) C EX0 vx te f)
    (hsw : swapsWith (.DictComp kx vx [⟨tg, iter, [cnd], 0⟩] scope pos) (some (.Name y py)) spos.line X.env = pure true)
    (hy : X.N[i]? = some y := by rfl) (hyl : X.env.scope.names.lookup y = some .local := by rfl) (hvs : own.map (·.2) = vs := by rfl) (his : ∀ i ∈ is, i ∈ vs := by decide) (hs : ∀ x, foldedSetIterable iter X.env x = pure x := by intro _; rfl) :
    SD X C E (.Assign [.Name y py] (.DictComp kx vx [⟨tg, iter, [cnd], 0⟩] scope pos) spos) (tAsg (tFrzN (tDc wi gg tt tk te vs)) (gName i)) (mAsg (bName i) (mDct (mCompD vs ma bb mt fk f))) := by
  subst hvs
  exact ⟨ps_setDcF hc hN hy hyl hsw hi.pe ok (fun s H B cl fp => (hg s H B cl fp).pe) (fun s H B cl fp => pts_one (ht s H B cl fp).pe) (fun s H B cl fp => (hk s H B cl fp).pe) (fun s H B cl fp => (he s H B cl fp).pe) hs, snds_asg (snd_frzN (snd_compD hi.sd (hg X.s_0 X.H_0 0 [] []).sd his (ht X.s_0 X.H_0 0 [] []).sd (hk X.s_0 X.H_0 0 [] []).sd (he X.s_0 X.H_0 0 [] []).sd)) sndg_name⟩
theorem s_setDcP (i : Nat) {y : Str} {py spos : Pos} {tg iter kx vx : Expr} {scope : Scope} {own : List (Str × Nat)} {vs : List Nat} {wi : TI} {gg : TG} (hc : X.calm = true) (hN : X.N.Nodup) (ok : BlkOk X.N X.env.scope scope own) (hi : IP X C E tg iter wi ma)
    (hg : ∀ (s : Shared) (H : Hp) (B : Addr) (cl : List (Str × Addr)) (fp : List Addr), GT (X.blk s H scope (compEnvC scope cl B X.env) fp) C tg gg bb is)
    (hk : ∀ (s : Shared) (H : Hp) (B : Addr) (cl : List (Str × Addr)) (fp : List Addr), ED (X.blk s H scope (compEnvC scope cl B X.env) fp) C EX0 kx tk fk)
    (he : ∀ (s : Shared) (H : Hp) (B : Addr) (cl : List (Str × Addr)) (fp : List Addr), ED (X.blk s H scope (compEnvC scope cl B X.env) fp) C EX0 vx te f)
    (hsw : swapsWith (.DictComp kx vx [⟨tg, iter, [], 0⟩] scope pos) (some (.Name y py)) spos.line X.env = pure true)
    (hy : X.N[i]? = some y := by rfl) (hyl : X.env.scope.names.lookup y = some .local := by rfl) (hvs : own.map (·.2) = vs := by rfl) (his : ∀ i ∈ is, i ∈ vs := by decide) (hs : ∀ x, foldedSetIterable iter X.env x = pure x := by intro _; rfl) :
    SD X C E (.Assign [.Name y py] (.DictComp kx vx [⟨tg, iter, [], 0⟩] scope pos) spos) (tAsg (tFrzN (tDc wi gg tYes tk te vs)) (gName i)) (mAsg (bName i) (mDct (mCompD vs ma bb mtYes fk f))) := by
  subst hvs
  exact ⟨ps_setDcF hc hN hy hyl hsw hi.pe ok (fun s H B cl fp => (hg s H B cl fp).pe) (fun _ _ _ _ _ => pts_nil) (fun s H B cl fp => (hk s H B cl fp).pe) (fun s H B cl fp => (he s H B cl fp).pe) hs, snds_asg (snd_frzN (snd_compDT (sndit_ofP hi.sd (hg X.s_0 X.H_0 0 [] []).sd) his sndt_yes (hk X.s_0 X.H_0 0 [] []).sd (he X.s_0 X.H_0 0 [] []).sd)) sndg_name⟩
theorem s_setDcifP (i : Nat) {y : Str} {py spos : Pos} {tg iter kx vx cnd : Expr} {scope : Scope} {own : List (Str × Nat)} {vs : List Nat} {wi : TI} {gg : TG} (hc : X.calm = true) (hN : X.N.Nodup) (ok : BlkOk X.N X.env.scope scope own) (hi : IP X C E tg iter wi ma)
    (hg : ∀ (s : Shared) (H : Hp) (B : Addr) (cl : List (Str × Addr)) (fp : List Addr), GT (X.blk s H scope (compEnvC scope cl B X.env) fp) C tg gg bb is)
    (ht : ∀ (s : Shared) (H : Hp) (B : Addr) (cl : List (Str × Addr)) (fp : List Addr), TD (X.blk s H scope (compEnvC scope cl B X.env) fp) C EX0 cnd tt mt)
    (hk : ∀ (s : Shared) (H : Hp) (B : Addr) (cl : List (Str × Addr)) (fp : List Addr), ED (X.blk s H scope (compEnvC scope cl B X.env) fp) C EX0 kx tk fk)
    (he : ∀ (s : Shared) (H : Hp) (B : Addr) (cl : List (Str × Addr)) (fp : List Addr), ED (X.blk s H scope (compEnvC scope cl B X.env) fp) C EX0 vx te f)
    (hsw : swapsWith (.DictComp kx vx [⟨tg, iter, [cnd], 0⟩] scope pos) (some (.Name y py)) spos.line X.env = pure true)
    (hy : X.N[i]? = some y := by rfl) (hyl : X.env.scope.names.lookup y = some .local := by rfl) (hvs : own.map (·.2) = vs := by rfl) (his : ∀ i ∈ is, i ∈ vs := by decide) (hs : ∀ x, foldedSetIterable iter X.env x = pure x := by intro _; rfl) :
    SD X C E (.Assign [.Name y py] (.DictComp kx vx [⟨tg, iter, [cnd], 0⟩] scope pos) spos) (tAsg (tFrzN (tDc wi gg tt tk te vs)) (gName i)) (mAsg (bName i) (mDct (mCompD vs ma bb mt fk f))) := by
  subst hvs
  exact ⟨ps_setDcF hc hN hy hyl hsw hi.pe ok (fun s H B cl fp => (hg s H B cl fp).pe) (fun s H B cl fp => pts_one (ht s H B cl fp).pe) (fun s H B cl fp => (hk s H B cl fp).pe) (fun s H B cl fp => (he s H B cl fp).pe) hs, snds_asg (snd_frzN (snd_compDT (sndit_ofP hi.sd (hg X.s_0 X.H_0 0 [] []).sd) his (ht X.s_0 X.H_0 0 [] []).sd (hk X.s_0 X.H_0 0 [] []).sd (he X.s_0 X.H_0 0 [] []).sd)) sndg_name⟩
theorem room1 {k : Nat} {A : Around} (hr : Room (k + 1) A) : A.units + 1 < cLine := by have := hr.un; omega
end
end LW

namespace K10
open PySem PySem.Spec PyProof.Rows L2 LW
def top (i : Nat) : Stmt := PySem.Challenge.pw_luckwright_k10_orders_by_luck.main.body.getD i (.Pass ⟨0, 0, 0, 0⟩)
section
variable {P : Program} {w : World} {K : PySem.W.Frag} {mg : Str → Option Value} {base : Heap} {C : Cl}
abbrev s_law_told : Stmt := top 50
theorem sc_law_told : FnScope ["what"] ["what"] (defScope s_law_told) := ⟨rfl, rfl, rfl, by decide +kernel, rfl, by decide +kernel, by decide +kernel⟩
structure ToldI (P : Program) (w : World) (K : PySem.W.Frag) (mg : Str → Option Value) (base : Heap) (C : Cl) : Prop where
  ex : ∃ (lT : List (Addr × Str)) (g : Addr) (fdT : FuncData), ToldL K C nmT lT ∧ mg "_law_told" = some (.ref g) ∧ FunD K "_law_told" "_law_told" (defArgs s_law_told) (defBody s_law_told) (defScope s_law_told) [] [] g fdT ∧
    ∀ (cdg : Value) (A : Around) (outer : List PySem.Env) (s : Shared) (H : Hp), HdsOk (cxOf C8.CX0 P w K mg base ["what"] "_law_told" (defScope s_law_told) g cdg A outer s H C8.E0).nox (hdsOf (defBody s_law_told)) (hdL lT)

abbrev s_shared : Stmt := top 18
def m_shared : MS := (mRet (mCa cGcd (maCons (mVar 0) (maCons (mVar 1) maNil))))
def r_shared : List PyData → R PyData := runS 2 m_shared
theorem sc_shared : FnScope ["one", "other"] ["one", "other"] (defScope s_shared) := ⟨rfl, rfl, rfl, by decide +kernel, rfl, by decide +kernel, by decide +kernel⟩
theorem ok_shared {f : Addr} {fd : FuncData} (F : FunD K "shared" "shared" (defArgs s_shared) (defBody s_shared) (defScope s_shared) [] [] f fd) (gx : mg "shared" = some (.ref f)) (b_gcd : mg "gcd" = some (.builtin "math.gcd")) : FnI P w K mg base C 1 "shared" 2 r_shared := by
  have b : Binds K fd ["one", "other"] [] := FunD.bindsN F fun _ _ _ _ _ _ us hl => match us, hl with | [_, _], _ => rfl
  exact ⟨f, fd, ["one", "other"], fn_okD (N := ["one", "other"]) F sc_shared (by decide) (fun cdv A outer s H E hr => ⟨_,
   (b_one (s_ret (d_cf cr_gcd cas_gcd rfl b_gcd (d_cons (d_var 0) (d_cons (d_var 1) d_nil)))))⟩), gx, F.kp, b⟩

abbrev s_part : Stmt := top 19
def m_part : MS := (mSeq (mIfS (mtB (mOp iEq (mVar 1) (mC (.int 0)))) (mRai 1) mNext)
  (mSeq (mAsg (bName 2) (mCall 2 r_shared (maCons (mVar 0) (maCons (mVar 1) maNil))))
  (mSeq (mIfS (mtB (mOp (iCmp fun i j => decide (i < j)) (mVar 1) (mC (.int 0)))) (mAsg (bName 2) (mUn uNeg (mVar 2))) mNext)
  (mRet (mTup (maCons (mOp iDiv (mVar 0) (mVar 2)) (maCons (mOp iDiv (mVar 1) (mVar 2)) maNil)))))))
def r_part : List PyData → R PyData := runS 3 m_part
theorem sc_part : FnScope ["top", "low", "size"] ["top", "low"] (defScope s_part) := ⟨rfl, rfl, rfl, by decide +kernel, rfl, by decide +kernel, by decide +kernel⟩
theorem ok_part {f : Addr} {fd : FuncData} (F : FunD K "part" "part" (defArgs s_part) (defBody s_part) (defScope s_part) [.int 1] [] f fd) (gx : mg "part" = some (.ref f)) (F_shared : FnI P w K mg base C 1 "shared" 2 r_shared) (X_BadPart : ExI K mg C "BadPart" 1) : FnI P w K mg base C 2 "part" 2 r_part := by
  have b : Binds K fd ["top", "low"] [] := by
    obtain ⟨ds, v, b⟩ := FunD.binds1 (ps := ["top", "low"]) F 2 1 (by decide) rfl (fun T kV doc pm an cdv ct us its hu hi => by
      match us, hu, its, hi with | [_, _], _, [_], _ => exact ⟨_, rfl, rfl⟩)
    cases v; exact b
  obtain ⟨c_BadPart, e_BadPart⟩ := X_BadPart.ex
  exact ⟨f, fd, ["top", "low"], fn_okD (N := ["top", "low", "size"]) F sc_part (by decide) (fun cdv A outer s H E hr => ⟨_,
   (b_cons (s_if (t_eq hr.units (d_var 1) d_int) (b_one (s_rai rfl (takes_of rfl rfl rfl rfl) e_BadPart.q PySem.F.excBase_ValueError e_BadPart.g e_BadPart.k e_BadPart.r rfl e_BadPart.c)) b_nil)
    (b_cons (s_asg (d_call F_shared (hr.mono (by decide)) (takes_of rfl rfl rfl rfl) rfl (d_cons (d_var 0) (d_cons (d_var 1) d_nil))) (g_name 2 sc_part.nd))
    (b_cons (s_if (t_lt (d_var 1) d_int) (b_one (s_asg (d_neg (d_var 2)) (g_name 2 sc_part.nd))) b_nil)
    (b_one (s_ret (d_tup (d_cons (d_div (d_var 0) (d_var 2)) (d_cons (d_div (d_var 1) (d_var 2)) d_nil))))))))⟩), gx, F.kp, b⟩

abbrev s_plus : Stmt := top 20
def m_plus : MS := (mRet (mCall 2 r_part (maCons (mOp iAddA (mOp iMulA (mIxV 0 (mC (.int 0))) (mIxV 1 (mC (.int 1)))) (mOp iMulA (mIxV 1 (mC (.int 0))) (mIxV 0 (mC (.int 1))))) (maCons (mOp iMulA (mIxV 0 (mC (.int 1))) (mIxV 1 (mC (.int 1)))) maNil))))
def r_plus : List PyData → R PyData := runS 2 m_plus
theorem sc_plus : FnScope ["one", "other"] ["one", "other"] (defScope s_plus) := ⟨rfl, rfl, rfl, by decide +kernel, rfl, by decide +kernel, by decide +kernel⟩
theorem ok_plus {f : Addr} {fd : FuncData} (F : FunD K "plus" "plus" (defArgs s_plus) (defBody s_plus) (defScope s_plus) [] [] f fd) (gx : mg "plus" = some (.ref f)) (F_part : FnI P w K mg base C 2 "part" 2 r_part) : FnI P w K mg base C 3 "plus" 2 r_plus := by
  have b : Binds K fd ["one", "other"] [] := FunD.bindsN F fun _ _ _ _ _ _ us hl => match us, hl with | [_, _], _ => rfl
  exact ⟨f, fd, ["one", "other"], fn_okD (N := ["one", "other"]) F sc_plus (by decide) (fun cdv A outer s H E hr => ⟨_,
   (b_one (s_ret (d_call F_part (hr.mono (by decide)) (takes_of rfl rfl rfl rfl) rfl (d_cons (d_addA (d_mulA (d_ixV 0 d_int) (d_ixV 1 d_int)) (d_mulA (d_ixV 1 d_int) (d_ixV 0 d_int))) (d_cons (d_mulA (d_ixV 0 d_int) (d_ixV 1 d_int)) d_nil)))))⟩), gx, F.kp, b⟩

abbrev s_minus : Stmt := top 21
def m_minus : MS := (mRet (mCall 2 r_part (maCons (mOp iSub (mOp iMulA (mIxV 0 (mC (.int 0))) (mIxV 1 (mC (.int 1)))) (mOp iMulA (mIxV 1 (mC (.int 0))) (mIxV 0 (mC (.int 1))))) (maCons (mOp iMulA (mIxV 0 (mC (.int 1))) (mIxV 1 (mC (.int 1)))) maNil))))
def r_minus : List PyData → R PyData := runS 2 m_minus
theorem sc_minus : FnScope ["one", "other"] ["one", "other"] (defScope s_minus) := ⟨rfl, rfl, rfl, by decide +kernel, rfl, by decide +kernel, by decide +kernel⟩
theorem ok_minus {f : Addr} {fd : FuncData} (F : FunD K "minus" "minus" (defArgs s_minus) (defBody s_minus) (defScope s_minus) [] [] f fd) (gx : mg "minus" = some (.ref f)) (F_part : FnI P w K mg base C 2 "part" 2 r_part) : FnI P w K mg base C 3 "minus" 2 r_minus := by
  have b : Binds K fd ["one", "other"] [] := FunD.bindsN F fun _ _ _ _ _ _ us hl => match us, hl with | [_, _], _ => rfl
  exact ⟨f, fd, ["one", "other"], fn_okD (N := ["one", "other"]) F sc_minus (by decide) (fun cdv A outer s H E hr => ⟨_,
   (b_one (s_ret (d_call F_part (hr.mono (by decide)) (takes_of rfl rfl rfl rfl) rfl (d_cons (d_sub (d_mulA (d_ixV 0 d_int) (d_ixV 1 d_int)) (d_mulA (d_ixV 1 d_int) (d_ixV 0 d_int))) (d_cons (d_mulA (d_ixV 0 d_int) (d_ixV 1 d_int)) d_nil)))))⟩), gx, F.kp, b⟩

abbrev s_times : Stmt := top 22
def m_times : MS := (mRet (mCall 2 r_part (maCons (mOp iMulA (mIxV 0 (mC (.int 0))) (mIxV 1 (mC (.int 0)))) (maCons (mOp iMulA (mIxV 0 (mC (.int 1))) (mIxV 1 (mC (.int 1)))) maNil))))
def r_times : List PyData → R PyData := runS 2 m_times
theorem sc_times : FnScope ["one", "other"] ["one", "other"] (defScope s_times) := ⟨rfl, rfl, rfl, by decide +kernel, rfl, by decide +kernel, by decide +kernel⟩
theorem ok_times {f : Addr} {fd : FuncData} (F : FunD K "times" "times" (defArgs s_times) (defBody s_times) (defScope s_times) [] [] f fd) (gx : mg "times" = some (.ref f)) (F_part : FnI P w K mg base C 2 "part" 2 r_part) : FnI P w K mg base C 3 "times" 2 r_times := by
  have b : Binds K fd ["one", "other"] [] := FunD.bindsN F fun _ _ _ _ _ _ us hl => match us, hl with | [_, _], _ => rfl
  exact ⟨f, fd, ["one", "other"], fn_okD (N := ["one", "other"]) F sc_times (by decide) (fun cdv A outer s H E hr => ⟨_,
   (b_one (s_ret (d_call F_part (hr.mono (by decide)) (takes_of rfl rfl rfl rfl) rfl (d_cons (d_mulA (d_ixV 0 d_int) (d_ixV 1 d_int)) (d_cons (d_mulA (d_ixV 0 d_int) (d_ixV 1 d_int)) d_nil)))))⟩), gx, F.kp, b⟩

abbrev s_is_less : Stmt := top 23
def m_is_less : MS := (mRet (mOp (iCmp fun i j => decide (i < j)) (mOp iIx (mCall 2 r_minus (maCons (mVar 0) (maCons (mVar 1) maNil))) (mC (.int 0))) (mC (.int 0))))
def r_is_less : List PyData → R PyData := runS 2 m_is_less
theorem sc_is_less : FnScope ["one", "other"] ["one", "other"] (defScope s_is_less) := ⟨rfl, rfl, rfl, by decide +kernel, rfl, by decide +kernel, by decide +kernel⟩
theorem ok_is_less {f : Addr} {fd : FuncData} (F : FunD K "is_less" "is_less" (defArgs s_is_less) (defBody s_is_less) (defScope s_is_less) [] [] f fd) (gx : mg "is_less" = some (.ref f)) (F_minus : FnI P w K mg base C 3 "minus" 2 r_minus) : FnI P w K mg base C 4 "is_less" 2 r_is_less := by
  have b : Binds K fd ["one", "other"] [] := FunD.bindsN F fun _ _ _ _ _ _ us hl => match us, hl with | [_, _], _ => rfl
  exact ⟨f, fd, ["one", "other"], fn_okD (N := ["one", "other"]) F sc_is_less (by decide) (fun cdv A outer s H E hr => ⟨_,
   (b_one (s_ret (d_lt (d_ix (d_call F_minus (hr.mono (by decide)) (takes_of rfl rfl rfl rfl) rfl (d_cons (d_var 0) (d_cons (d_var 1) d_nil))) d_int) d_int)))⟩), gx, F.kp, b⟩

abbrev s_check_count : Stmt := top 25
def m_check_count : MS := (mSeq (mIfS (mtB (mOp (iCmp fun i j => decide (i < j)) (mVar 0) (mC (.int 0)))) (mRai 5) mNext)
  (mRet (mVar 0)))
def r_check_count : List PyData → R PyData := runS 1 m_check_count
theorem sc_check_count : FnScope ["many"] ["many"] (defScope s_check_count) := ⟨rfl, rfl, rfl, by decide +kernel, rfl, by decide +kernel, by decide +kernel⟩
theorem ok_check_count {f : Addr} {fd : FuncData} (F : FunD K "check_count" "check_count" (defArgs s_check_count) (defBody s_check_count) (defScope s_check_count) [] [] f fd) (gx : mg "check_count" = some (.ref f)) (X_BadSize : ExI K mg C "BadSize" 5) : FnI P w K mg base C 1 "check_count" 1 r_check_count := by
  have b : Binds K fd ["many"] [] := FunD.bindsN F fun _ _ _ _ _ _ us hl => match us, hl with | [_], _ => rfl
  obtain ⟨c_BadSize, e_BadSize⟩ := X_BadSize.ex
  exact ⟨f, fd, ["many"], fn_okD (N := ["many"]) F sc_check_count (by decide) (fun cdv A outer s H E hr => ⟨_,
   (b_cons (s_if (t_lt (d_var 0) d_int) (b_one (s_rai rfl (takes_of rfl rfl rfl rfl) e_BadSize.q PySem.F.excBase_ValueError e_BadSize.g e_BadSize.k e_BadSize.r rfl e_BadSize.c)) b_nil)
    (b_one (s_ret (d_var 0))))⟩), gx, F.kp, b⟩

abbrev s_choose : Stmt := top 26
def m_choose : MS := (mSeq (mDrop (mCall 1 r_check_count (maCons (mVar 0) maNil)))
  (mSeq (mIfS (mtB (mOp (iCmp fun i j => decide (i < j)) (mVar 1) (mC (.int 0)))) (mRet (mC (.int 0))) mNext)
  (mRet (mCa cComb (maCons (mVar 0) (maCons (mVar 1) maNil))))))
def r_choose : List PyData → R PyData := runS 2 m_choose
theorem sc_choose : FnScope ["many", "few"] ["many", "few"] (defScope s_choose) := ⟨rfl, rfl, rfl, by decide +kernel, rfl, by decide +kernel, by decide +kernel⟩
theorem ok_choose {f : Addr} {fd : FuncData} (F : FunD K "choose" "choose" (defArgs s_choose) (defBody s_choose) (defScope s_choose) [] [] f fd) (gx : mg "choose" = some (.ref f)) (F_check_count : FnI P w K mg base C 1 "check_count" 1 r_check_count) (b_comb : mg "comb" = some (.builtin "math.comb")) : FnI P w K mg base C 2 "choose" 2 r_choose := by
  have b : Binds K fd ["many", "few"] [] := FunD.bindsN F fun _ _ _ _ _ _ us hl => match us, hl with | [_, _], _ => rfl
  exact ⟨f, fd, ["many", "few"], fn_okD (N := ["many", "few"]) F sc_choose (by decide) (fun cdv A outer s H E hr => ⟨_,
   (b_cons (s_expr (d_call F_check_count (hr.mono (by decide)) (takes_of rfl rfl rfl rfl) rfl (d_cons (d_var 0) d_nil)))
    (b_cons (s_if (t_lt (d_var 1) d_int) (b_one (s_ret d_int)) b_nil)
    (b_one (s_ret (d_cf cr_comb cas_comb rfl b_comb (d_cons (d_var 0) (d_cons (d_var 1) d_nil)))))))⟩), gx, F.kp, b⟩

abbrev s_none_home : Stmt := top 27
def m_none_home : MS := (mSeq (mDrop (mCall 1 r_check_count (maCons (mVar 0) maNil)))
  (mSeq (mAsg (bName 1) (mC (.int 1)))
  (mSeq (mAsg (bName 2) (mC (.int 1)))
  (mSeq (mFor (miR rg2 (maCons (mC (.int 1)) (maCons (mOp iAddA (mVar 0) (mC (.int 1))) maNil))) (bName 3) (mSeq (mAsg (bName 2) (mUn uNeg (mVar 2)))
  (mAsg (bName 1) (mOp iAddA (mOp iMulA (mVar 1) (mVar 3)) (mVar 2)))))
  (mRet (mVar 1))))))
def r_none_home : List PyData → R PyData := runS 4 m_none_home
theorem sc_none_home : FnScope ["many", "found", "sign", "count"] ["many"] (defScope s_none_home) := ⟨rfl, rfl, rfl, by decide +kernel, rfl, by decide +kernel, by decide +kernel⟩
theorem ok_none_home {f : Addr} {fd : FuncData} (F : FunD K "none_home" "none_home" (defArgs s_none_home) (defBody s_none_home) (defScope s_none_home) [] [] f fd) (gx : mg "none_home" = some (.ref f)) (F_check_count : FnI P w K mg base C 1 "check_count" 1 r_check_count) (n_range : mg "range" = none) : FnI P w K mg base C 2 "none_home" 1 r_none_home := by
  have b : Binds K fd ["many"] [] := FunD.bindsN F fun _ _ _ _ _ _ us hl => match us, hl with | [_], _ => rfl
  exact ⟨f, fd, ["many"], fn_okD (N := ["many", "found", "sign", "count"]) F sc_none_home (by decide) (fun cdv A outer s H E hr => ⟨_,
   (b_cons (s_expr (d_call F_check_count (hr.mono (by decide)) (takes_of rfl rfl rfl rfl) rfl (d_cons (d_var 0) d_nil)))
    (b_cons (s_asg d_int (g_name 1 sc_none_home.nd))
    (b_cons (s_asg d_int (g_name 2 sc_none_home.nd))
    (b_cons (s_for (passes_of rfl) rfl (i_rg2 rfl n_range (d_cons d_int (d_cons (d_addA (d_var 0) d_int) d_nil))) (g_name 3 sc_none_home.nd) (b_cons (s_asg (d_neg (d_var 2)) (g_name 2 sc_none_home.nd))
    (b_one (s_asg (d_addA (d_mulA (d_var 1) (d_var 3)) (d_var 2)) (g_name 1 sc_none_home.nd)))))
    (b_one (s_ret (d_var 1)))))))⟩), gx, F.kp, b⟩

abbrev s_cycles : Stmt := top 28
def m_cycles : MS := (mSeq (mDrop (mCall 1 r_check_count (maCons (mVar 0) maNil)))
  (mSeq (mDrop (mCall 1 r_check_count (maCons (mVar 1) maNil)))
  (mSeq (mIfS (mtB (mOp (iCmp fun i j => decide (j < i)) (mVar 1) (mVar 0))) (mRet (mC (.int 0))) mNext)
  (mSeq (mAsg (bName 2) (mOp iAddA (mLst (maCons (mC (.int 1)) maNil)) (mOp iMulA (mLst (maCons (mC (.int 0)) maNil)) (mVar 1))))
  (mSeq (mFor (miR rg1 (maCons (mVar 0) maNil)) (bName 3) (mAsg (bName 2) (mOp iAddA (mLst (maCons (mOp iMulA (mVar 3) (mIxV 2 (mC (.int 0)))) maNil)) (mComp [4] (miR rg2 (maCons (mC (.int 1)) (maCons (mOp iAddA (mVar 1) (mC (.int 1))) maNil))) (bName 4) mtYes (mOp iAddA (mIxV 2 (mOp iSub (mVar 4) (mC (.int 1)))) (mOp iMulA (mVar 3) (mIxV 2 (mVar 4))))))))
  (mRet (mIxV 2 (mVar 1))))))))
def r_cycles : List PyData → R PyData := runS 5 m_cycles
theorem sc_cycles : FnScope ["many", "few", "row", "count", "rings"] ["many", "few"] (defScope s_cycles) := ⟨rfl, rfl, rfl, by decide +kernel, rfl, by decide +kernel, by decide +kernel⟩
theorem ok_cycles {f : Addr} {fd : FuncData} (F : FunD K "cycles" "cycles" (defArgs s_cycles) (defBody s_cycles) (defScope s_cycles) [] [] f fd) (gx : mg "cycles" = some (.ref f)) (F_check_count : FnI P w K mg base C 1 "check_count" 1 r_check_count) (n_range : mg "range" = none) : FnI P w K mg base C 2 "cycles" 2 r_cycles := by
  have b : Binds K fd ["many", "few"] [] := FunD.bindsN F fun _ _ _ _ _ _ us hl => match us, hl with | [_, _], _ => rfl
  exact ⟨f, fd, ["many", "few"], fn_okD (N := ["many", "few", "row", "count", "rings"]) F sc_cycles (by decide) (fun cdv A outer s H E hr => ⟨_,
   (b_cons (s_expr (d_call F_check_count (hr.mono (by decide)) (takes_of rfl rfl rfl rfl) rfl (d_cons (d_var 0) d_nil)))
    (b_cons (s_expr (d_call F_check_count (hr.mono (by decide)) (takes_of rfl rfl rfl rfl) rfl (d_cons (d_var 1) d_nil)))
    (b_cons (s_if (t_gt (d_var 1) (d_var 0)) (b_one (s_ret d_int)) b_nil)
    (b_cons (s_asg (d_addA (d_lst (d_cons d_int d_nil)) (d_mulA (d_lst (d_cons d_int d_nil)) (d_var 1))) (g_name 2 sc_cycles.nd))
    (b_cons (s_for (passes_of rfl) rfl (i_rg1 rfl n_range (d_cons (d_var 0) d_nil)) (g_name 3 sc_cycles.nd) (b_one (s_asg (d_addA (d_lst (d_cons (d_mulA (d_var 3) (d_ixV 2 d_int)) d_nil)) (d_lc (own := [("rings", 4)]) (te := (tOp (rAddA K) (tOp (rIx K) (tVar 2) (tOp rSubI (tVar 4) (tC (.int 1)))) (tOp rMulA (tVar 3) (tOp (rIx K) (tVar 2) (tVar 4))))) (gg := (gName 4)) (bb := (bName 4)) rfl sc_cycles.nd (blkOk_by (by kernel_rfl)) (i_rg2 rfl n_range (d_cons d_int (d_cons (d_addA (d_var 1) d_int) d_nil))) (fun _ _ _ _ _ => (g_name 4 sc_cycles.nd)) (fun _ _ _ _ _ => (d_addA (d_ixV 2 (d_sub (d_var 4) d_int)) (d_mulA (d_var 3) (d_ixV 2 (d_var 4))))))) (g_name 2 sc_cycles.nd))))
    (b_one (s_ret (d_ixV 2 (d_var 1)))))))))⟩), gx, F.kp, b⟩

abbrev s_crossings : Stmt := top 29
def m_crossings : MS := (mSeq (mDrop (mCall 1 r_check_count (maCons (mVar 0) maNil)))
  (mSeq (mAsg (bName 1) (mLst (maCons (mC (.int 1)) maNil)))
  (mSeq (mFor (miR rg2 (maCons (mC (.int 1)) (maCons (mVar 0) maNil))) (bName 2) (mAsg (bName 1) (mComp [3] (miR rg1 (maCons (mOp iAddA (mCa cLenA (maCons (mVar 1) maNil)) (mVar 2)) maNil)) (bName 3) mtYes (mCa cSum2 (maCons (mSl (mVar 1) (mPart (mCa cMaxB (maCons (mC (.int 0)) (maCons (mOp iSub (mVar 3) (mVar 2)) maNil)))) (mPart (mOp iAddA (mVar 3) (mC (.int 1))))) maNil)))))
  (mRet (mCa cTupOf (maCons (mVar 1) maNil))))))
def r_crossings : List PyData → R PyData := runS 4 m_crossings
theorem sc_crossings : FnScope ["many", "row", "count", "pairs"] ["many"] (defScope s_crossings) := ⟨rfl, rfl, rfl, by decide +kernel, rfl, by decide +kernel, by decide +kernel⟩
theorem ok_crossings {f : Addr} {fd : FuncData} (F : FunD K "crossings" "crossings" (defArgs s_crossings) (defBody s_crossings) (defScope s_crossings) [] [] f fd) (gx : mg "crossings" = some (.ref f)) (F_check_count : FnI P w K mg base C 1 "check_count" 1 r_check_count) (n_range : mg "range" = none) (n_len : mg "len" = none) (n_sum : mg "sum" = none) (n_max : mg "max" = none) (n_tuple : mg "tuple" = none) : FnI P w K mg base C 2 "crossings" 1 r_crossings := by
  have b : Binds K fd ["many"] [] := FunD.bindsN F fun _ _ _ _ _ _ us hl => match us, hl with | [_], _ => rfl
  exact ⟨f, fd, ["many"], fn_okD (N := ["many", "row", "count", "pairs"]) F sc_crossings (by decide) (fun cdv A outer s H E hr => ⟨_,
   (b_cons (s_expr (d_call F_check_count (hr.mono (by decide)) (takes_of rfl rfl rfl rfl) rfl (d_cons (d_var 0) d_nil)))
    (b_cons (s_asg (d_lst (d_cons d_int d_nil)) (g_name 1 sc_crossings.nd))
    (b_cons (s_for (passes_of rfl) rfl (i_rg2 rfl n_range (d_cons d_int (d_cons (d_var 0) d_nil))) (g_name 2 sc_crossings.nd) (b_one (s_asg (d_lc (own := [("pairs", 3)]) (te := (tCB (rSum2 K) (tCons (tSl (rSl2 K) (tVar 1) (tPart (tCB (rMaxB K) (tCons (tC (.int 0)) (tCons (tOp rSubI (tVar 3) (tVar 2)) tNil)))) (tPart (tOp (rAddA K) (tVar 3) (tC (.int 1))))) tNil))) (gg := (gName 3)) (bb := (bName 3)) rfl sc_crossings.nd (blkOk_by (by kernel_rfl)) (i_rg1 rfl n_range (d_cons (d_addA (d_cb call_lenA cas_lenA rfl n_len PySem.boot_len (d_cons (d_var 1) d_nil)) (d_var 2)) d_nil)) (fun _ _ _ _ _ => (g_name 3 sc_crossings.nd)) (fun _ _ _ _ _ => (d_cb (cr_sum2 rfl) cas_sum2 rfl n_sum (by decide +kernel) (d_cons (d_slice (d_var 1) (p_some (d_cb (call_maxB rfl) cas_maxB rfl n_max (by decide +kernel) (d_cons d_int (d_cons (d_sub (d_var 3) (d_var 2)) d_nil)))) (p_some (d_addA (d_var 3) d_int))) d_nil)))) (g_name 1 sc_crossings.nd))))
    (b_one (s_ret (d_ct call_tupleF cas_tupOf rfl n_tuple (by decide +kernel) (d_cons (d_var 1) d_nil)))))))⟩), gx, F.kp, b⟩

abbrev s_Spread_init : Stmt := methOf (top 31) 0
def m_Spread_init : MS := (mSeq (mAsg (bName 2) (mDct (mCompD [5] (miSeq (mSortD (mVar 1))) (bName 5) (mtB (mOp iNe (mDGet (mVar 1) (mVar 5)) (mC (.int 0)))) (mVar 5) (mDGet (mVar 1) (mVar 5)))))
  (mSeq (mIfS (mtOr (mtB (mEqE false (mVar 2))) (mtB (mOp (iCmp fun i j => decide (i < j)) (mMinV (mVar 2)) (mC (.int 0))))) (mRai 2) mNext)
  (mSeq (mAsg (bName 3) (mC (.int 0)))
  (mSeq (mFor (miVals (mVar 2)) (bName 4) (mAsg (bName 3) (mCall 2 r_shared (maCons (mVar 3) (maCons (mVar 4) maNil)))))
  (mSeq (mSetF "Spread" "weights" 0 (mDct (mCompD [5, 4] (miItems (mVar 2)) (bTup 2 (bCons (bName 5) (bCons (bName 4) bNil))) mtYes (mVar 5) (mOp iDiv (mVar 4) (mVar 3)))))
  (mSetF "Spread" "whole" 0 (mSumV (mFldO "Spread" "weights" 0))))))))
def r_Spread_init : RunM := runO 6 m_Spread_init
theorem sc_Spread_init : FnScope ["self", "weights", "rows", "size", "weight", "value"] ["self", "weights"] (defScope s_Spread_init) := ⟨rfl, rfl, rfl, by decide +kernel, rfl, by decide +kernel, by decide +kernel⟩
theorem ok_Spread_init {fd : FuncData} (F : FunD K "__init__" "Spread.__init__" (defArgs s_Spread_init) (defBody s_Spread_init) (defScope s_Spread_init) [] [] (He.ma K (He.ga K "Spread") "__init__") fd) (F_shared : FnI P w K mg base C 1 "shared" 2 r_shared) (X_BadSpread : ExI K mg C "BadSpread" 2) (n_sorted : mg "sorted" = none) (n_min : mg "min" = none) (n_sum : mg "sum" = none) (c_Spread : (He.Fa.cls "Spread").ok K = true) (na_Spread_weights : (He.Fa.noat "Spread" "weights").ok K = true) (na_Spread_whole : (He.Fa.noat "Spread" "whole").ok K = true) : InI P w K mg base C 2 "Spread" 1 r_Spread_init := by
  have b : Binds K fd ["self", "weights"] [] := FunD.bindsN F fun _ _ _ _ _ _ us hl => match us, hl with | [_, _], _ => rfl
  obtain ⟨c_BadSpread, e_BadSpread⟩ := X_BadSpread.ex
  exact ⟨fd, ["self", "weights"], fn_okO (N := ["weights", "rows", "size", "weight", "value"]) F sc_Spread_init (by decide) rfl (fun cdv A outer s H E hr => ⟨_,
   (b_cons (s_setDcif 2 (own := [("value", 5)]) (tk := (tVar 5)) (te := (tDGet (tVar 1) (tVar 5))) (tt := (tTest (tOp (rNeD K) (tDGet (tVar 1) (tVar 5)) (tC (.int 0))))) (gg := (gName 5)) (bb := (bName 5)) rfl sc_Spread_init.nd (blkOk_by (by kernel_rfl)) (i_seq (d_sortD rfl (d_var 1) rfl n_sorted)) (fun _ _ _ _ _ => (g_name 5 sc_Spread_init.nd)) (fun _ _ _ _ _ => (t_ne hr.units (d_dget (room1 hr) (d_var 1) (d_var 5)) d_int)) (fun _ _ _ _ _ => (d_var 5)) (fun _ _ _ _ _ => (d_dget (room1 hr) (d_var 1) (d_var 5))) (swd_true rfl rfl rfl (by decide +kernel)))
    (b_cons (s_if (t_w (w_or (t_eqE hr.units (d_var 2)) (w_or1 (t_lt (d_minV (hc := rfl) (he := (d_var 2)) (hg := rfl) (hm := n_min)) d_int)))) (b_one (s_rai rfl (takes_of rfl rfl rfl rfl) e_BadSpread.q PySem.F.excBase_ValueError e_BadSpread.g e_BadSpread.k e_BadSpread.r rfl e_BadSpread.c)) b_nil)
    (b_cons (s_asg d_int (g_name 3 sc_Spread_init.nd))
    (b_cons (s_for (passes_of rfl) rfl (i_vals (d_var 2)) (g_name 4 sc_Spread_init.nd) (b_one (s_asg (d_call F_shared (hr.mono (by decide)) (takes_of rfl rfl rfl rfl) rfl (d_cons (d_var 3) (d_cons (d_var 4) d_nil))) (g_name 3 sc_Spread_init.nd))))
    (b_cons (s_setF (nm := "Spread") 0 c_Spread na_Spread_weights (d_frzN (h_dcP (own := [("value", 5), ("weight", 4)]) (tk := (tVar 5)) (te := (tOp rDivI (tVar 4) (tVar 3))) (gg := (gTup K 2 (gCons (gName 5) (gCons (gName 4) gNil)))) (bb := (bTup 2 (bCons (bName 5) (bCons (bName 4) bNil)))) rfl sc_Spread_init.nd (blkOk_by (by kernel_rfl)) (ip_items (d_var 2)) (fun _ _ _ _ _ => (gt_tup rfl (g_cons (g_name 5 sc_Spread_init.nd) (g_cons (g_name 4 sc_Spread_init.nd) g_nil)))) (fun _ _ _ _ _ => (d_var 5)) (fun _ _ _ _ _ => (d_div (d_var 4) (d_var 3))))))
    (b_one (s_setF (nm := "Spread") 0 c_Spread na_Spread_whole (d_sumV (hc := rfl) (he := (d_fldO (nm := "Spread") 0 c_Spread na_Spread_weights)) (hg := rfl) (hm := n_sum)))))))))⟩), b⟩

abbrev s_Spread_numbers : Stmt := methOf (top 31) 1
def m_Spread_numbers : MS := (mRet (mCa cTupOf (maCons (mSortD (mFld "Spread" "weights" (mVar 0))) maNil)))
def r_Spread_numbers : List PyData → R PyData := runS 1 m_Spread_numbers
theorem sc_Spread_numbers : FnScope ["self"] ["self"] (defScope s_Spread_numbers) := ⟨rfl, rfl, rfl, by decide +kernel, rfl, by decide +kernel, by decide +kernel⟩
theorem ok_Spread_numbers {fd : FuncData} (F : FunD K "numbers" "Spread.numbers" (defArgs s_Spread_numbers) (defBody s_Spread_numbers) (defScope s_Spread_numbers) [] [] (He.ma K (He.ga K "Spread") "numbers") fd) (n_tuple : mg "tuple" = none) (n_sorted : mg "sorted" = none) (c_Spread : (He.Fa.cls "Spread").ok K = true) (na_Spread_weights : (He.Fa.noat "Spread" "weights").ok K = true) : MtI P w K mg base C 1 "Spread" "numbers" 1 r_Spread_numbers := by
  have b : Binds K fd ["self"] [] := FunD.bindsN F fun _ _ _ _ _ _ us hl => match us, hl with | [_], _ => rfl
  exact ⟨fd, ["self"], fn_okD (N := ["self"]) F sc_Spread_numbers (by decide) (fun cdv A outer s H E hr => ⟨_,
   (b_one (s_ret (d_ct call_tupleF cas_tupOf rfl n_tuple (by decide +kernel) (d_cons (d_sortD rfl (d_fld (nm := "Spread") c_Spread na_Spread_weights (d_var 0)) rfl n_sorted) d_nil))))⟩), b⟩

abbrev s_Spread_shown : Stmt := methOf (top 31) 12
def m_Spread_shown : MS := (mRet (mTup (maCons (mCa cTupOf (maCons (mComp [1] (miSeq (mMeth "Spread" "numbers" 1 r_Spread_numbers (mVar 0) (fun e => .ok (e, [])))) (bName 1) mtYes (mTup (maCons (mVar 1) (maCons (mDGet (mFld "Spread" "weights" (mVar 0)) (mVar 1)) maNil)))) maNil)) (maCons (mFld "Spread" "whole" (mVar 0)) maNil))))
def r_Spread_shown : List PyData → R PyData := runS 2 m_Spread_shown
theorem sc_Spread_shown : FnScope ["self", "value"] ["self"] (defScope s_Spread_shown) := ⟨rfl, rfl, rfl, by decide +kernel, rfl, by decide +kernel, by decide +kernel⟩
theorem ok_Spread_shown {fd : FuncData} (F : FunD K "shown" "Spread.shown" (defArgs s_Spread_shown) (defBody s_Spread_shown) (defScope s_Spread_shown) [] [] (He.ma K (He.ga K "Spread") "shown") fd) (F_Spread_numbers : MtI P w K mg base C 1 "Spread" "numbers" 1 r_Spread_numbers) (n_tuple : mg "tuple" = none) (c_Spread : (He.Fa.cls "Spread").ok K = true) (na_Spread_whole : (He.Fa.noat "Spread" "whole").ok K = true) (me_Spread_numbers : (He.Fa.meth "Spread" "numbers").ok K = true) (na_Spread_weights : (He.Fa.noat "Spread" "weights").ok K = true) : MtI P w K mg base C 2 "Spread" "shown" 1 r_Spread_shown := by
  have b : Binds K fd ["self"] [] := FunD.bindsN F fun _ _ _ _ _ _ us hl => match us, hl with | [_], _ => rfl
  exact ⟨fd, ["self"], fn_okD (N := ["self", "value"]) F sc_Spread_shown (by decide) (fun cdv A outer s H E hr => ⟨_,
   (b_one (s_ret (d_tup (d_cons (d_ct call_tupleF cas_tupOf rfl n_tuple (by decide +kernel) (d_cons (d_lc (own := [("value", 1)]) (te := (tTupF (tCons (tVar 1) (tCons (tDGet (tFld K (tVar 0) "weights") (tVar 1)) tNil)))) (gg := (gName 1)) (bb := (bName 1)) rfl sc_Spread_shown.nd (blkOk_by (by kernel_rfl)) (i_seq (d_meth0 F_Spread_numbers (hr.mono (by decide)) (takes_of rfl rfl rfl rfl) c_Spread me_Spread_numbers (d_var 0))) (fun _ _ _ _ _ => (g_name 1 sc_Spread_shown.nd)) (fun _ _ _ _ _ => (d_tup (d_cons (d_var 1) (d_cons (d_dget (room1 hr) (d_fld (nm := "Spread") c_Spread na_Spread_weights (d_var 0)) (d_var 1)) d_nil))))) d_nil)) (d_cons (d_fld (nm := "Spread") c_Spread na_Spread_whole (d_var 0)) d_nil)))))⟩), b⟩

abbrev s_even : Stmt := top 32
def m_even : MS := (mSeq (mOwn 1 mDd)
  (mSeq (mFor (miSeq (mVar 0)) (bName 2) (mBump 1 (mVar 2) (mC (.int 1))))
  (mRet (mIns (mMake "Spread" 1 r_Spread_init (maCons (mDct (mDictC 1)) maNil))))))
def r_even : List PyData → R PyData := runS 3 m_even
theorem sc_even : FnScope ["values", "rows", "value"] ["values"] (defScope s_even) := ⟨rfl, rfl, rfl, by decide +kernel, rfl, by decide +kernel, by decide +kernel⟩
theorem ok_even {f : Addr} {fd : FuncData} (F : FunD K "even" "even" (defArgs s_even) (defBody s_even) (defScope s_even) [] [] f fd) (gx : mg "even" = some (.ref f)) (F_Spread_init : InI P w K mg base C 2 "Spread" 1 r_Spread_init) (n_int : mg "int" = none) (n_dict : mg "dict" = none) (ty_defaultdict : mg "defaultdict" = some (.type "collections.defaultdict")) (mk_Spread : (He.Fa.mkr "Spread").ok K = true) (cg_Spread : mg "Spread" = some (.ref (He.ga K "Spread"))) : FnI P w K mg base C 4 "even" 1 r_even := by
  have b : Binds K fd ["values"] [] := FunD.bindsN F fun _ _ _ _ _ _ us hl => match us, hl with | [_], _ => rfl
  exact ⟨f, fd, ["values"], fn_okD (N := ["values", "rows", "value"]) F sc_even (by decide) (fun cdv A outer s H E hr => ⟨_,
   (b_cons (s_ownH 1 (h_dd rfl ty_defaultdict rfl n_int) (g_name 1 sc_even.nd))
    (b_cons (s_for (passes_of rfl) rfl (i_seq (d_var 0)) (g_name 2 sc_even.nd) (b_one (s_bump 1 (d_var 2) d_int)))
    (b_one (s_ret (d_ins (h_make F_Spread_init (hr.mono (by decide)) (takes_of rfl rfl rfl rfl) mk_Spread rfl cg_Spread (d_cons (d_frzN (h_dictC 1 rfl n_dict (by decide +kernel))) d_nil)))))))⟩), gx, F.kp, b⟩

abbrev s_check_many : Stmt := top 34
def m_check_many : MS := (mSeq (mIfS (mtB (mOp (iCmp fun i j => decide (i < j)) (mVar 0) (mC (.int 1)))) (mRai 5) mNext)
  (mRet (mVar 0)))
def r_check_many : List PyData → R PyData := runS 1 m_check_many
theorem sc_check_many : FnScope ["many"] ["many"] (defScope s_check_many) := ⟨rfl, rfl, rfl, by decide +kernel, rfl, by decide +kernel, by decide +kernel⟩
theorem ok_check_many {f : Addr} {fd : FuncData} (F : FunD K "check_many" "check_many" (defArgs s_check_many) (defBody s_check_many) (defScope s_check_many) [] [] f fd) (gx : mg "check_many" = some (.ref f)) (X_BadSize : ExI K mg C "BadSize" 5) : FnI P w K mg base C 1 "check_many" 1 r_check_many := by
  have b : Binds K fd ["many"] [] := FunD.bindsN F fun _ _ _ _ _ _ us hl => match us, hl with | [_], _ => rfl
  obtain ⟨c_BadSize, e_BadSize⟩ := X_BadSize.ex
  exact ⟨f, fd, ["many"], fn_okD (N := ["many"]) F sc_check_many (by decide) (fun cdv A outer s H E hr => ⟨_,
   (b_cons (s_if (t_lt (d_var 0) d_int) (b_one (s_rai rfl (takes_of rfl rfl rfl rfl) e_BadSize.q PySem.F.excBase_ValueError e_BadSize.g e_BadSize.k e_BadSize.r rfl e_BadSize.c)) b_nil)
    (b_one (s_ret (d_var 0))))⟩), gx, F.kp, b⟩

abbrev s_wrong_pairs : Stmt := top 35
def m_wrong_pairs : MS := (mRet (mIns (mMake "Spread" 1 r_Spread_init (maCons (mDct (mDictEn (mCall 1 r_crossings (maCons (mCall 1 r_check_many (maCons (mVar 0) maNil)) maNil)))) maNil))))
def r_wrong_pairs : List PyData → R PyData := runS 1 m_wrong_pairs
theorem sc_wrong_pairs : FnScope ["many"] ["many"] (defScope s_wrong_pairs) := ⟨rfl, rfl, rfl, by decide +kernel, rfl, by decide +kernel, by decide +kernel⟩
theorem ok_wrong_pairs {f : Addr} {fd : FuncData} (F : FunD K "wrong_pairs" "wrong_pairs" (defArgs s_wrong_pairs) (defBody s_wrong_pairs) (defScope s_wrong_pairs) [] [] f fd) (gx : mg "wrong_pairs" = some (.ref f)) (F_Spread_init : InI P w K mg base C 2 "Spread" 1 r_Spread_init) (F_crossings : FnI P w K mg base C 2 "crossings" 1 r_crossings) (F_check_many : FnI P w K mg base C 1 "check_many" 1 r_check_many) (n_dict : mg "dict" = none) (n_enumerate : mg "enumerate" = none) (mk_Spread : (He.Fa.mkr "Spread").ok K = true) (cg_Spread : mg "Spread" = some (.ref (He.ga K "Spread"))) : FnI P w K mg base C 4 "wrong_pairs" 1 r_wrong_pairs := by
  have b : Binds K fd ["many"] [] := FunD.bindsN F fun _ _ _ _ _ _ us hl => match us, hl with | [_], _ => rfl
  exact ⟨f, fd, ["many"], fn_okD (N := ["many"]) F sc_wrong_pairs (by decide) (fun cdv A outer s H E hr => ⟨_,
   (b_one (s_ret (d_ins (h_make F_Spread_init (hr.mono (by decide)) (takes_of rfl rfl rfl rfl) mk_Spread rfl cg_Spread (d_cons (d_frzN (h_dictEn rfl rfl n_dict rfl n_enumerate (d_call F_crossings (hr.mono (by decide)) (takes_of rfl rfl rfl rfl) rfl (d_cons (d_call F_check_many (hr.mono (by decide)) (takes_of rfl rfl rfl rfl) rfl (d_cons (d_var 0) d_nil)) d_nil)))) d_nil)))))⟩), gx, F.kp, b⟩

abbrev s_at_home : Stmt := top 36
def m_at_home : MS := (mSeq (mDrop (mCall 1 r_check_many (maCons (mVar 0) maNil)))
  (mRet (mIns (mMake "Spread" 1 r_Spread_init (maCons (mDct (mCompD [1] (miR rg1 (maCons (mOp iAddA (mVar 0) (mC (.int 1))) maNil)) (bName 1) mtYes (mVar 1) (mOp iMulA (mCall 2 r_choose (maCons (mVar 0) (maCons (mVar 1) maNil))) (mCall 1 r_none_home (maCons (mOp iSub (mVar 0) (mVar 1)) maNil))))) maNil)))))
def r_at_home : List PyData → R PyData := runS 2 m_at_home
theorem sc_at_home : FnScope ["many", "count"] ["many"] (defScope s_at_home) := ⟨rfl, rfl, rfl, by decide +kernel, rfl, by decide +kernel, by decide +kernel⟩
theorem ok_at_home {f : Addr} {fd : FuncData} (F : FunD K "at_home" "at_home" (defArgs s_at_home) (defBody s_at_home) (defScope s_at_home) [] [] f fd) (gx : mg "at_home" = some (.ref f)) (F_check_many : FnI P w K mg base C 1 "check_many" 1 r_check_many) (F_Spread_init : InI P w K mg base C 2 "Spread" 1 r_Spread_init) (F_choose : FnI P w K mg base C 2 "choose" 2 r_choose) (F_none_home : FnI P w K mg base C 2 "none_home" 1 r_none_home) (n_range : mg "range" = none) (mk_Spread : (He.Fa.mkr "Spread").ok K = true) (cg_Spread : mg "Spread" = some (.ref (He.ga K "Spread"))) : FnI P w K mg base C 4 "at_home" 1 r_at_home := by
  have b : Binds K fd ["many"] [] := FunD.bindsN F fun _ _ _ _ _ _ us hl => match us, hl with | [_], _ => rfl
  exact ⟨f, fd, ["many"], fn_okD (N := ["many", "count"]) F sc_at_home (by decide) (fun cdv A outer s H E hr => ⟨_,
   (b_cons (s_expr (d_call F_check_many (hr.mono (by decide)) (takes_of rfl rfl rfl rfl) rfl (d_cons (d_var 0) d_nil)))
    (b_one (s_ret (d_ins (h_make F_Spread_init (hr.mono (by decide)) (takes_of rfl rfl rfl rfl) mk_Spread rfl cg_Spread (d_cons (d_frzN (h_dc (own := [("count", 1)]) (tk := (tVar 1)) (te := (tOp rMulA (tCallS (spP K C 2 r_choose) (fun _ => EX0) (tCons (tVar 0) (tCons (tVar 1) tNil))) (tCallS (spP K C 1 r_none_home) (fun _ => EX0) (tCons (tOp rSubI (tVar 0) (tVar 1)) tNil)))) (gg := (gName 1)) (bb := (bName 1)) rfl sc_at_home.nd (blkOk_by (by kernel_rfl)) (i_rg1 rfl n_range (d_cons (d_addA (d_var 0) d_int) d_nil)) (fun _ _ _ _ _ => (g_name 1 sc_at_home.nd)) (fun _ _ _ _ _ => (d_var 1)) (fun _ _ _ _ _ => (d_mulA (d_call F_choose (hr.mono (by decide)) takes0 rfl (d_cons (d_var 0) (d_cons (d_var 1) d_nil))) (d_call F_none_home (hr.mono (by decide)) takes0 rfl (d_cons (d_sub (d_var 0) (d_var 1)) d_nil)))))) d_nil))))))⟩), gx, F.kp, b⟩

abbrev s_rings : Stmt := top 37
def m_rings : MS := (mSeq (mDrop (mCall 1 r_check_many (maCons (mVar 0) maNil)))
  (mRet (mIns (mMake "Spread" 1 r_Spread_init (maCons (mDct (mCompD [1] (miR rg2 (maCons (mC (.int 1)) (maCons (mOp iAddA (mVar 0) (mC (.int 1))) maNil))) (bName 1) mtYes (mVar 1) (mCall 2 r_cycles (maCons (mVar 0) (maCons (mVar 1) maNil))))) maNil)))))
def r_rings : List PyData → R PyData := runS 2 m_rings
theorem sc_rings : FnScope ["many", "count"] ["many"] (defScope s_rings) := ⟨rfl, rfl, rfl, by decide +kernel, rfl, by decide +kernel, by decide +kernel⟩
theorem ok_rings {f : Addr} {fd : FuncData} (F : FunD K "rings" "rings" (defArgs s_rings) (defBody s_rings) (defScope s_rings) [] [] f fd) (gx : mg "rings" = some (.ref f)) (F_check_many : FnI P w K mg base C 1 "check_many" 1 r_check_many) (F_Spread_init : InI P w K mg base C 2 "Spread" 1 r_Spread_init) (F_cycles : FnI P w K mg base C 2 "cycles" 2 r_cycles) (n_range : mg "range" = none) (mk_Spread : (He.Fa.mkr "Spread").ok K = true) (cg_Spread : mg "Spread" = some (.ref (He.ga K "Spread"))) : FnI P w K mg base C 4 "rings" 1 r_rings := by
  have b : Binds K fd ["many"] [] := FunD.bindsN F fun _ _ _ _ _ _ us hl => match us, hl with | [_], _ => rfl
  exact ⟨f, fd, ["many"], fn_okD (N := ["many", "count"]) F sc_rings (by decide) (fun cdv A outer s H E hr => ⟨_,
   (b_cons (s_expr (d_call F_check_many (hr.mono (by decide)) (takes_of rfl rfl rfl rfl) rfl (d_cons (d_var 0) d_nil)))
    (b_one (s_ret (d_ins (h_make F_Spread_init (hr.mono (by decide)) (takes_of rfl rfl rfl rfl) mk_Spread rfl cg_Spread (d_cons (d_frzN (h_dc (own := [("count", 1)]) (tk := (tVar 1)) (te := (tCallS (spP K C 2 r_cycles) (fun _ => EX0) (tCons (tVar 0) (tCons (tVar 1) tNil)))) (gg := (gName 1)) (bb := (bName 1)) rfl sc_rings.nd (blkOk_by (by kernel_rfl)) (i_rg2 rfl n_range (d_cons d_int (d_cons (d_addA (d_var 0) d_int) d_nil))) (fun _ _ _ _ _ => (g_name 1 sc_rings.nd)) (fun _ _ _ _ _ => (d_var 1)) (fun _ _ _ _ _ => (d_call F_cycles (hr.mono (by decide)) takes0 rfl (d_cons (d_var 0) (d_cons (d_var 1) d_nil)))))) d_nil))))))⟩), gx, F.kp, b⟩

abbrev s_tops : Stmt := top 38
def m_tops : MS := (mRet (mCall 1 r_rings (maCons (mVar 0) maNil)))
def r_tops : List PyData → R PyData := runS 1 m_tops
theorem sc_tops : FnScope ["many"] ["many"] (defScope s_tops) := ⟨rfl, rfl, rfl, by decide +kernel, rfl, by decide +kernel, by decide +kernel⟩
theorem ok_tops {f : Addr} {fd : FuncData} (F : FunD K "tops" "tops" (defArgs s_tops) (defBody s_tops) (defScope s_tops) [] [] f fd) (gx : mg "tops" = some (.ref f)) (F_rings : FnI P w K mg base C 4 "rings" 1 r_rings) : FnI P w K mg base C 5 "tops" 1 r_tops := by
  have b : Binds K fd ["many"] [] := FunD.bindsN F fun _ _ _ _ _ _ us hl => match us, hl with | [_], _ => rfl
  exact ⟨f, fd, ["many"], fn_okD (N := ["many"]) F sc_tops (by decide) (fun cdv A outer s H E hr => ⟨_,
   (b_one (s_ret (d_call F_rings (hr.mono (by decide)) (takes_of rfl rfl rfl rfl) rfl (d_cons (d_var 0) d_nil))))⟩), gx, F.kp, b⟩

abbrev s_best_chance : Stmt := top 39
def m_best_chance : MS := (mSeq (mIfS (mtNot (mtB (mChain (iCmp fun i j => decide (i ≤ j)) (iCmp fun i j => decide (i < j)) (mC (.int 0)) (mVar 1) (mCall 1 r_check_many (maCons (mVar 0) maNil))))) (mRai 5) mNext)
  (mSeq (mIfS (mtB (mOp iEq (mVar 1) (mC (.int 0)))) (mRet (mCall 2 r_part (maCons (mC (.int 1)) (maCons (mVar 0) maNil)))) mNext)
  (mSeq (mAsg (bName 2) (mC (.tuple [.int (0), .int (1)])))
  (mSeq (mFor (miR rg2 (maCons (mVar 1) (maCons (mVar 0) maNil))) (bName 3) (mAsg (bName 2) (mCall 2 r_plus (maCons (mVar 2) (maCons (mCall 2 r_part (maCons (mVar 1) (maCons (mOp iMulA (mVar 0) (mVar 3)) maNil))) maNil)))))
  (mRet (mVar 2))))))
def r_best_chance : List PyData → R PyData := runS 4 m_best_chance
theorem sc_best_chance : FnScope ["many", "skipped", "found", "ahead"] ["many", "skipped"] (defScope s_best_chance) := ⟨rfl, rfl, rfl, by decide +kernel, rfl, by decide +kernel, by decide +kernel⟩
theorem ok_best_chance {f : Addr} {fd : FuncData} (F : FunD K "best_chance" "best_chance" (defArgs s_best_chance) (defBody s_best_chance) (defScope s_best_chance) [] [] f fd) (gx : mg "best_chance" = some (.ref f)) (F_check_many : FnI P w K mg base C 1 "check_many" 1 r_check_many) (F_part : FnI P w K mg base C 2 "part" 2 r_part) (F_plus : FnI P w K mg base C 3 "plus" 2 r_plus) (X_BadSize : ExI K mg C "BadSize" 5) (n_range : mg "range" = none) {a_NOUGHT : Addr} (g_NOUGHT : mg "NOUGHT" = some (.ref a_NOUGHT)) (t_NOUGHT : TupK K a_NOUGHT [.int (0), .int (1)]) : FnI P w K mg base C 4 "best_chance" 2 r_best_chance := by
  have b : Binds K fd ["many", "skipped"] [] := FunD.bindsN F fun _ _ _ _ _ _ us hl => match us, hl with | [_, _], _ => rfl
  obtain ⟨c_BadSize, e_BadSize⟩ := X_BadSize.ex
  exact ⟨f, fd, ["many", "skipped"], fn_okD (N := ["many", "skipped", "found", "ahead"]) F sc_best_chance (by decide) (fun cdv A outer s H E hr => ⟨_,
   (b_cons (s_if (t_not (t_chain op_le ops_cmp op_lt ops_cmp d_int (d_var 1) (d_call F_check_many (hr.mono (by decide)) (takes_of rfl rfl rfl rfl) rfl (d_cons (d_var 0) d_nil)))) (b_one (s_rai rfl (takes_of rfl rfl rfl rfl) e_BadSize.q PySem.F.excBase_ValueError e_BadSize.g e_BadSize.k e_BadSize.r rfl e_BadSize.c)) b_nil)
    (b_cons (s_if (t_eq hr.units (d_var 1) d_int) (b_one (s_ret (d_call F_part (hr.mono (by decide)) (takes_of rfl rfl rfl rfl) rfl (d_cons d_int (d_cons (d_var 0) d_nil))))) b_nil)
    (b_cons (s_asg (d_glob g_NOUGHT t_NOUGHT rfl) (g_name 2 sc_best_chance.nd))
    (b_cons (s_for (passes_of rfl) rfl (i_rg2 rfl n_range (d_cons (d_var 1) (d_cons (d_var 0) d_nil))) (g_name 3 sc_best_chance.nd) (b_one (s_asg (d_call F_plus (hr.mono (by decide)) (takes_of rfl rfl rfl rfl) rfl (d_cons (d_var 2) (d_cons (d_call F_part (hr.mono (by decide)) (takes_of rfl rfl rfl rfl) rfl (d_cons (d_var 1) (d_cons (d_mulA (d_var 0) (d_var 3)) d_nil))) d_nil))) (g_name 2 sc_best_chance.nd))))
    (b_one (s_ret (d_var 2)))))))⟩), gx, F.kp, b⟩

abbrev s_best_skipped : Stmt := top 40
def m_best_skipped : MS := (mSeq (mDrop (mCall 1 r_check_many (maCons (mVar 0) maNil)))
  (mSeq (mAsg (bName 1) (mC (.tuple [.int (0), .int (1)])))
  (mSeq (mFor (miR rgD (maCons (mOp iSub (mVar 0) (mC (.int 1))) (maCons (mC (.int 0)) (maCons (mUn uNeg (mC (.int 1))) maNil)))) (bName 2) (mSeq (mAsg (bName 1) (mCall 2 r_plus (maCons (mVar 1) (maCons (mCall 2 r_part (maCons (mC (.int 1)) (maCons (mVar 2) maNil))) maNil))))
  (mIfS (mtTru (mCall 2 r_is_less (maCons (mC (.tuple [.int (1), .int (1)])) (maCons (mVar 1) maNil)))) (mRet (mVar 2)) mNext)))
  (mRet (mC (.int 0))))))
def r_best_skipped : List PyData → R PyData := runS 3 m_best_skipped
theorem sc_best_skipped : FnScope ["many", "found", "skipped"] ["many"] (defScope s_best_skipped) := ⟨rfl, rfl, rfl, by decide +kernel, rfl, by decide +kernel, by decide +kernel⟩
theorem ok_best_skipped {f : Addr} {fd : FuncData} (F : FunD K "best_skipped" "best_skipped" (defArgs s_best_skipped) (defBody s_best_skipped) (defScope s_best_skipped) [] [] f fd) (gx : mg "best_skipped" = some (.ref f)) (F_check_many : FnI P w K mg base C 1 "check_many" 1 r_check_many) (F_plus : FnI P w K mg base C 3 "plus" 2 r_plus) (F_part : FnI P w K mg base C 2 "part" 2 r_part) (F_is_less : FnI P w K mg base C 4 "is_less" 2 r_is_less) (n_range : mg "range" = none) {a_NOUGHT : Addr} (g_NOUGHT : mg "NOUGHT" = some (.ref a_NOUGHT)) (t_NOUGHT : TupK K a_NOUGHT [.int (0), .int (1)]) {a_ONE : Addr} (g_ONE : mg "ONE" = some (.ref a_ONE)) (t_ONE : TupK K a_ONE [.int (1), .int (1)]) : FnI P w K mg base C 5 "best_skipped" 1 r_best_skipped := by
  have b : Binds K fd ["many"] [] := FunD.bindsN F fun _ _ _ _ _ _ us hl => match us, hl with | [_], _ => rfl
  exact ⟨f, fd, ["many"], fn_okD (N := ["many", "found", "skipped"]) F sc_best_skipped (by decide) (fun cdv A outer s H E hr => ⟨_,
   (b_cons (s_expr (d_call F_check_many (hr.mono (by decide)) (takes_of rfl rfl rfl rfl) rfl (d_cons (d_var 0) d_nil)))
    (b_cons (s_asg (d_glob g_NOUGHT t_NOUGHT rfl) (g_name 1 sc_best_skipped.nd))
    (b_cons (s_for (passes_of rfl) rfl (i_rgD rfl n_range (d_cons (d_sub (d_var 0) d_int) (d_cons d_int (d_cons (d_neg d_int) d_nil)))) (g_name 2 sc_best_skipped.nd) (b_cons (s_asg (d_call F_plus (hr.mono (by decide)) (takes_of rfl rfl rfl rfl) rfl (d_cons (d_var 1) (d_cons (d_call F_part (hr.mono (by decide)) (takes_of rfl rfl rfl rfl) rfl (d_cons d_int (d_cons (d_var 2) d_nil))) d_nil))) (g_name 1 sc_best_skipped.nd))
    (b_one (s_if (t_tru (d_call F_is_less (hr.mono (by decide)) (takes_of rfl rfl rfl rfl) rfl (d_cons (d_glob g_ONE t_ONE rfl) (d_cons (d_var 1) d_nil)))) (b_one (s_ret (d_var 2))) b_nil))))
    (b_one (s_ret d_int)))))⟩), gx, F.kp, b⟩

abbrev s_longest_rise : Stmt := top 41
def m_longest_rise : MS := (mSeq (mOwn 1 (nLst maNil))
  (mSeq (mFor (miSeq (mVar 0)) (bName 2) (mSeq (mAsg (bName 3) (mCa cLenA (maCons (mCompO 1 [4] (bName 4) (mtB (mOp (iCmp fun i j => decide (i < j)) (mVar 4) (mVar 2))) (mVar 4)) maNil)))
  (mSetSl 1 (nLst (maCons (mVar 2) maNil)) (mVar 3) (mOp iAddA (mVar 3) (mC (.int 1))))))
  (mRet (mCa cLenA (maCons (mShow 1) maNil)))))
def r_longest_rise : List PyData → R PyData := runS 5 m_longest_rise
theorem sc_longest_rise : FnScope ["row", "ends", "value", "place", "end"] ["row"] (defScope s_longest_rise) := ⟨rfl, rfl, rfl, by decide +kernel, rfl, by decide +kernel, by decide +kernel⟩
theorem ok_longest_rise {f : Addr} {fd : FuncData} (F : FunD K "longest_rise" "longest_rise" (defArgs s_longest_rise) (defBody s_longest_rise) (defScope s_longest_rise) [] [] f fd) (gx : mg "longest_rise" = some (.ref f)) (n_len : mg "len" = none) : FnI P w K mg base C 1 "longest_rise" 1 r_longest_rise := by
  have b : Binds K fd ["row"] [] := FunD.bindsN F fun _ _ _ _ _ _ us hl => match us, hl with | [_], _ => rfl
  exact ⟨f, fd, ["row"], fn_okD (N := ["row", "ends", "value", "place", "end"]) F sc_longest_rise (by decide) (fun cdv A outer s H E hr => ⟨_,
   (b_cons (s_own 1 (n_lst d_nil) (g_name 1 sc_longest_rise.nd))
    (b_cons (s_for (passes_of rfl) rfl (i_seq (d_var 0)) (g_name 2 sc_longest_rise.nd) (b_cons (s_asg (d_cb call_lenA cas_lenA rfl n_len PySem.boot_len (d_cons (d_lcifO 1 (own := [("end", 4)]) (te := (tVar 4)) (tt := (tTest (tOp rLtI (tVar 4) (tVar 2)))) (gg := (gName 4)) (bb := (bName 4)) sc_longest_rise.nd (blkOk_by (by kernel_rfl)) (fun _ _ _ _ _ => (g_name 4 sc_longest_rise.nd)) (fun _ _ _ _ _ => (t_lt (d_var 4) (d_var 2))) (fun _ _ _ _ _ => (d_var 4)) rfl) d_nil)) (g_name 3 sc_longest_rise.nd))
    (b_one (s_setSl 1 (n_lst (d_cons (d_var 2) d_nil)) (d_var 3) (d_addA (d_var 3) d_int)))))
    (b_one (s_ret (d_cb call_lenA cas_lenA rfl n_len PySem.boot_len (d_cons (d_show 1) d_nil))))))⟩), gx, F.kp, b⟩

abbrev s_rise_spread : Stmt := top 42
def m_rise_spread : MS := (mSeq (mIfS (mtB (mOp (iCmp fun i j => decide (j < i)) (mCall 1 r_check_many (maCons (mVar 0) maNil)) (mC (.int 7)))) (mRai 5) mNext)
  (mRet (mCall 1 r_even (maCons (mComp [1] (miPmR (mVar 0)) (bName 1) mtYes (mCall 1 r_longest_rise (maCons (mVar 1) maNil))) maNil))))
def r_rise_spread : List PyData → R PyData := runS 2 m_rise_spread
theorem sc_rise_spread : FnScope ["many", "order"] ["many"] (defScope s_rise_spread) := ⟨rfl, rfl, rfl, by decide +kernel, rfl, by decide +kernel, by decide +kernel⟩
theorem ok_rise_spread {f : Addr} {fd : FuncData} (F : FunD K "rise_spread" "rise_spread" (defArgs s_rise_spread) (defBody s_rise_spread) (defScope s_rise_spread) [] [] f fd) (gx : mg "rise_spread" = some (.ref f)) (F_check_many : FnI P w K mg base C 1 "check_many" 1 r_check_many) (F_even : FnI P w K mg base C 4 "even" 1 r_even) (F_longest_rise : FnI P w K mg base C 1 "longest_rise" 1 r_longest_rise) (X_BadSize : ExI K mg C "BadSize" 5) (n_range : mg "range" = none) (ty_permutations : mg "permutations" = some (.type "itertools.permutations")) : FnI P w K mg base C 5 "rise_spread" 1 r_rise_spread := by
  have b : Binds K fd ["many"] [] := FunD.bindsN F fun _ _ _ _ _ _ us hl => match us, hl with | [_], _ => rfl
  obtain ⟨c_BadSize, e_BadSize⟩ := X_BadSize.ex
  exact ⟨f, fd, ["many"], fn_okD (N := ["many", "order"]) F sc_rise_spread (by decide) (fun cdv A outer s H E hr => ⟨_,
   (b_cons (s_if (t_gt (d_call F_check_many (hr.mono (by decide)) (takes_of rfl rfl rfl rfl) rfl (d_cons (d_var 0) d_nil)) d_int) (b_one (s_rai rfl (takes_of rfl rfl rfl rfl) e_BadSize.q PySem.F.excBase_ValueError e_BadSize.g e_BadSize.k e_BadSize.r rfl e_BadSize.c)) b_nil)
    (b_one (s_ret (d_call F_even (hr.mono (by decide)) (takes_of rfl rfl rfl rfl) rfl (d_cons (d_lcN (own := [("order", 1)]) (te := (tCallS (spP K C 1 r_longest_rise) (fun _ => EX0) (tCons (tVar 1) tNil))) (gg := (gName 1)) (bb := (bName 1)) rfl sc_rise_spread.nd (blkOk_by (by kernel_rfl)) (in_pmR rfl rfl ty_permutations rfl n_range (d_var 0)) (fun _ _ _ _ _ => (g_name 1 sc_rise_spread.nd)) (fun _ _ _ _ _ => (d_call F_longest_rise (hr.mono (by decide)) takes0 rfl (d_cons (d_var 1) d_nil)))) d_nil)))))⟩), gx, F.kp, b⟩

abbrev s_same_ring : Stmt := top 43
def m_same_ring : MS := (mSeq (mIfS (mtB (mOp (iCmp fun i j => decide (i < j)) (mVar 0) (mC (.int 2)))) (mRai 5) mNext)
  (mRet (mCall 2 r_part (maCons (mC (.int 1)) (maCons (mC (.int 2)) maNil)))))
def r_same_ring : List PyData → R PyData := runS 1 m_same_ring
theorem sc_same_ring : FnScope ["many"] ["many"] (defScope s_same_ring) := ⟨rfl, rfl, rfl, by decide +kernel, rfl, by decide +kernel, by decide +kernel⟩
theorem ok_same_ring {f : Addr} {fd : FuncData} (F : FunD K "same_ring" "same_ring" (defArgs s_same_ring) (defBody s_same_ring) (defScope s_same_ring) [] [] f fd) (gx : mg "same_ring" = some (.ref f)) (F_part : FnI P w K mg base C 2 "part" 2 r_part) (X_BadSize : ExI K mg C "BadSize" 5) : FnI P w K mg base C 3 "same_ring" 1 r_same_ring := by
  have b : Binds K fd ["many"] [] := FunD.bindsN F fun _ _ _ _ _ _ us hl => match us, hl with | [_], _ => rfl
  obtain ⟨c_BadSize, e_BadSize⟩ := X_BadSize.ex
  exact ⟨f, fd, ["many"], fn_okD (N := ["many"]) F sc_same_ring (by decide) (fun cdv A outer s H E hr => ⟨_,
   (b_cons (s_if (t_lt (d_var 0) d_int) (b_one (s_rai rfl (takes_of rfl rfl rfl rfl) e_BadSize.q PySem.F.excBase_ValueError e_BadSize.g e_BadSize.k e_BadSize.r rfl e_BadSize.c)) b_nil)
    (b_one (s_ret (d_call F_part (hr.mono (by decide)) (takes_of rfl rfl rfl rfl) rfl (d_cons d_int (d_cons d_int d_nil))))))⟩), gx, F.kp, b⟩

abbrev s_all_found : Stmt := top 44
def m_all_found : MS := (mSeq (mDrop (mCall 1 r_check_many (maCons (mVar 0) maNil)))
  (mSeq (mIfS (mtB (mOp (iCmp fun i j => decide (i < j)) (mVar 1) (mC (.int 0)))) (mRai 5) mNext)
  (mSeq (mOwn 2 (nLst (maCons (mC (.tuple [.int (1), .int (1)])) maNil)))
  (mSeq (mFor (miR rg2 (maCons (mC (.int 1)) (maCons (mOp iAddA (mVar 0) (mC (.int 1))) maNil))) (bName 3) (mSeq (mAsg (bName 4) (mIf (mtB (mOp (iCmp fun i j => decide (j < i)) (mVar 3) (mVar 1))) (mIxV 2 (mOp iSub (mOp iSub (mVar 3) (mVar 1)) (mC (.int 1)))) (mC (.tuple [.int (0), .int (1)]))))
  (mApp 2 (mCall 2 r_minus (maCons (mIxV 2 (mOp iSub (mVar 3) (mC (.int 1)))) (maCons (mCall 2 r_times (maCons (mVar 4) (maCons (mCall 2 r_part (maCons (mC (.int 1)) (maCons (mVar 3) maNil))) maNil))) maNil))))))
  (mRet (mIxV 2 (mVar 0)))))))
def r_all_found : List PyData → R PyData := runS 5 m_all_found
theorem sc_all_found : FnScope ["many", "tries", "chances", "count", "gone"] ["many", "tries"] (defScope s_all_found) := ⟨rfl, rfl, rfl, by decide +kernel, rfl, by decide +kernel, by decide +kernel⟩
theorem ok_all_found {f : Addr} {fd : FuncData} (F : FunD K "all_found" "all_found" (defArgs s_all_found) (defBody s_all_found) (defScope s_all_found) [] [] f fd) (gx : mg "all_found" = some (.ref f)) (F_check_many : FnI P w K mg base C 1 "check_many" 1 r_check_many) (F_minus : FnI P w K mg base C 3 "minus" 2 r_minus) (F_times : FnI P w K mg base C 3 "times" 2 r_times) (F_part : FnI P w K mg base C 2 "part" 2 r_part) (X_BadSize : ExI K mg C "BadSize" 5) (n_range : mg "range" = none) {a_ONE : Addr} (g_ONE : mg "ONE" = some (.ref a_ONE)) (t_ONE : TupK K a_ONE [.int (1), .int (1)]) {a_NOUGHT : Addr} (g_NOUGHT : mg "NOUGHT" = some (.ref a_NOUGHT)) (t_NOUGHT : TupK K a_NOUGHT [.int (0), .int (1)]) : FnI P w K mg base C 4 "all_found" 2 r_all_found := by
  have b : Binds K fd ["many", "tries"] [] := FunD.bindsN F fun _ _ _ _ _ _ us hl => match us, hl with | [_, _], _ => rfl
  obtain ⟨c_BadSize, e_BadSize⟩ := X_BadSize.ex
  exact ⟨f, fd, ["many", "tries"], fn_okD (N := ["many", "tries", "chances", "count", "gone"]) F sc_all_found (by decide) (fun cdv A outer s H E hr => ⟨_,
   (b_cons (s_expr (d_call F_check_many (hr.mono (by decide)) (takes_of rfl rfl rfl rfl) rfl (d_cons (d_var 0) d_nil)))
    (b_cons (s_if (t_lt (d_var 1) d_int) (b_one (s_rai rfl (takes_of rfl rfl rfl rfl) e_BadSize.q PySem.F.excBase_ValueError e_BadSize.g e_BadSize.k e_BadSize.r rfl e_BadSize.c)) b_nil)
    (b_cons (s_own 2 (n_lst (d_cons (d_glob g_ONE t_ONE rfl) d_nil)) (g_name 2 sc_all_found.nd))
    (b_cons (s_for (passes_of rfl) rfl (i_rg2 rfl n_range (d_cons d_int (d_cons (d_addA (d_var 0) d_int) d_nil))) (g_name 3 sc_all_found.nd) (b_cons (s_asg (d_ifExp (t_gt (d_var 3) (d_var 1)) (d_ixV 2 (d_sub (d_sub (d_var 3) (d_var 1)) d_int)) (d_glob g_NOUGHT t_NOUGHT rfl)) (g_name 4 sc_all_found.nd))
    (b_one (s_app 2 (d_call F_minus (hr.mono (by decide)) (takes_of rfl rfl rfl rfl) rfl (d_cons (d_ixV 2 (d_sub (d_var 3) d_int)) (d_cons (d_call F_times (hr.mono (by decide)) (takes_of rfl rfl rfl rfl) rfl (d_cons (d_var 4) (d_cons (d_call F_part (hr.mono (by decide)) (takes_of rfl rfl rfl rfl) rfl (d_cons d_int (d_cons (d_var 3) d_nil))) d_nil))) d_nil)))))))
    (b_one (s_ret (d_ixV 2 (d_var 0))))))))⟩), gx, F.kp, b⟩

abbrev s_law_flat : Stmt := top 46
def m_law_flat : MS := (mSeq (mAsg (bName 1) (mLst maNil))
  (mSeq (mFor (miSeq (mVar 0)) (bName 2) (mAsg (bName 1) (mOp iAddA (mVar 1) (mVar 2))))
  (mRet (mVar 1))))
def r_law_flat : List PyData → R PyData := runS 3 m_law_flat
theorem sc_law_flat : FnScope ["rows", "found", "row"] ["rows"] (defScope s_law_flat) := ⟨rfl, rfl, rfl, by decide +kernel, rfl, by decide +kernel, by decide +kernel⟩
theorem ok_law_flat {f : Addr} {fd : FuncData} (F : FunD K "_law_flat" "_law_flat" (defArgs s_law_flat) (defBody s_law_flat) (defScope s_law_flat) [] [] f fd) (gx : mg "_law_flat" = some (.ref f)) : FnI P w K mg base C 1 "_law_flat" 1 r_law_flat := by
  have b : Binds K fd ["rows"] [] := FunD.bindsN F fun _ _ _ _ _ _ us hl => match us, hl with | [_], _ => rfl
  exact ⟨f, fd, ["rows"], fn_okD (N := ["rows", "found", "row"]) F sc_law_flat (by decide) (fun cdv A outer s H E hr => ⟨_,
   (b_cons (s_asg (d_lst d_nil) (g_name 1 sc_law_flat.nd))
    (b_cons (s_for (passes_of rfl) rfl (i_seq (d_var 0)) (g_name 2 sc_law_flat.nd) (b_one (s_asg (d_addA (d_var 1) (d_var 2)) (g_name 1 sc_law_flat.nd))))
    (b_one (s_ret (d_var 1)))))⟩), gx, F.kp, b⟩

abbrev s_law_dice : Stmt := top 47
def m_law_dice : MS := (mSeq (mIfS (mtB (mChain (iCmp fun i j => decide (i < j)) (iCmp fun i j => decide (i < j)) (mOp iSub (mC (.int 0)) (mC (.int 10))) (mVar 0) (mC (.int 10)))) (mRet (mLst (maCons (mCa cAbs (maCons (mVar 0) maNil)) (maCons (mC (.int 0)) (maCons (mC (.int 2)) maNil))))) mNext)
  (mRet (mLst (maCons (mVar 0) (maCons (mOp iAddA (mC (.int 1)) (mOp iMod (mCa cInt (maCons (mVar 0) maNil)) (mC (.int 1009)))) (maCons (mCa cInt (maCons (mOp (iCmp fun i j => decide (j ≤ i)) (mVar 0) (mOp iPow (mC (.int 10)) (mC (.int 18)))) maNil)) maNil))))))
def r_law_dice : List PyData → R PyData := runS 1 m_law_dice
theorem sc_law_dice : FnScope ["cell"] ["cell"] (defScope s_law_dice) := ⟨rfl, rfl, rfl, by decide +kernel, rfl, by decide +kernel, by decide +kernel⟩
theorem ok_law_dice {f : Addr} {fd : FuncData} (F : FunD K "_law_dice" "_law_dice" (defArgs s_law_dice) (defBody s_law_dice) (defScope s_law_dice) [] [] f fd) (gx : mg "_law_dice" = some (.ref f)) (n_abs : mg "abs" = none) (n_int : mg "int" = none) : FnI P w K mg base C 1 "_law_dice" 1 r_law_dice := by
  have b : Binds K fd ["cell"] [] := FunD.bindsN F fun _ _ _ _ _ _ us hl => match us, hl with | [_], _ => rfl
  exact ⟨f, fd, ["cell"], fn_okD (N := ["cell"]) F sc_law_dice (by decide) (fun cdv A outer s H E hr => ⟨_,
   (b_cons (s_if (t_chain op_lt ops_cmp op_lt ops_cmp (d_sub d_int d_int) (d_var 0) d_int) (b_one (s_ret (d_lst (d_cons (d_cb call_abs cas_abs rfl n_abs (by decide +kernel) (d_cons (d_var 0) d_nil)) (d_cons d_int (d_cons d_int d_nil)))))) b_nil)
    (b_one (s_ret (d_lst (d_cons (d_var 0) (d_cons (d_addA d_int (d_mod (d_ct call_int1 cas_int rfl n_int (by decide +kernel) (d_cons (d_var 0) d_nil)) d_int)) (d_cons (d_ct call_int1 cas_int rfl n_int (by decide +kernel) (d_cons (d_ge (d_var 0) (d_pow d_int d_int)) d_nil)) d_nil)))))))⟩), gx, F.kp, b⟩

abbrev s_law_roll : Stmt := top 48
def m_law_roll : MS := (mSeq (mIfS (mtOr (mtB (mOp iEq (mIxV 0 (mC (.int 2))) (mC (.int 2)))) (mtAnd (mtB (mOp iEq (mIxV 0 (mC (.int 2))) (mC (.int 1)))) (mtB (mOp (iCmp fun i j => decide (j < i)) (mIxV 0 (mC (.int 0))) (mC (.int 0)))))) (mSeq (mAsg (bName 2) (mOp iMod (mCa cInt (maCons (mIxV 0 (mC (.int 0))) maNil)) (mVar 1)))
  (mSeq (mSetV 0 (mC (.int 0)) (mOp iDiv (mIxV 0 (mC (.int 0))) (mVar 1)))
  (mRet (mVar 2)))) mNext)
  (mSeq (mSetV 0 (mC (.int 2)) (mC (.int 0)))
  (mSeq (mSetV 0 (mC (.int 0)) (mOp iMod (mCa cInt (maCons (mOp iAddA (mOp iAddA (mOp iMulA (mIxV 0 (mC (.int 0))) (mC (.int 48271))) (mOp iMulA (mIxV 0 (mC (.int 1))) (mC (.int 69621)))) (mC (.int 11))) maNil)) (mC (.int 2147483647))))
  (mSeq (mSetV 0 (mC (.int 1)) (mOp iAddA (mIxV 0 (mC (.int 1))) (mC (.int 1))))
  (mRet (mOp iMod (mCa cInt (maCons (mOp iAddA (mOp iDiv (mIxV 0 (mC (.int 0))) (mC (.int 7))) (mIxV 0 (mC (.int 0)))) maNil)) (mVar 1)))))))
def r_law_roll : RunM := runM 3 m_law_roll
theorem sc_law_roll : FnScope ["dice", "many", "found"] ["dice", "many"] (defScope s_law_roll) := ⟨rfl, rfl, rfl, by decide +kernel, rfl, by decide +kernel, by decide +kernel⟩
theorem ok_law_roll {f : Addr} {fd : FuncData} (F : FunD K "_law_roll" "_law_roll" (defArgs s_law_roll) (defBody s_law_roll) (defScope s_law_roll) [] [] f fd) (gx : mg "_law_roll" = some (.ref f)) (n_int : mg "int" = none) : FnM P w K mg base C 1 "_law_roll" 1 r_law_roll := by
  have b : Binds K fd ["dice", "many"] [] := FunD.bindsN F fun _ _ _ _ _ _ us hl => match us, hl with | [_, _], _ => rfl
  exact ⟨f, fd, ["dice", "many"], fn_okM (N := ["many", "found"]) F sc_law_roll (by decide) rfl (fun cdv A outer s H E hr => ⟨_,
   (b_cons (s_if (t_w (w_or (t_eq hr.units (d_ixV 0 d_int) d_int) (w_or1 (t_w (w_and (t_eq hr.units (d_ixV 0 d_int) d_int) (w_and1 (t_gt (d_ixV 0 d_int) d_int))))))) (b_cons (s_asg (d_mod (d_ct call_int1 cas_int rfl n_int (by decide +kernel) (d_cons (d_ixV 0 d_int) d_nil)) (d_var 1)) (g_name 2 sc_law_roll.nd))
    (b_cons (s_setV 0 (d_div (d_ixV 0 d_int) (d_var 1)) d_int)
    (b_one (s_ret (d_var 2))))) b_nil)
    (b_cons (s_setV 0 d_int d_int)
    (b_cons (s_setV 0 (d_mod (d_ct call_int1 cas_int rfl n_int (by decide +kernel) (d_cons (d_addA (d_addA (d_mulA (d_ixV 0 d_int) d_int) (d_mulA (d_ixV 0 d_int) d_int)) d_int) d_nil)) d_int) d_int)
    (b_cons (s_setV 0 (d_addA (d_ixV 0 d_int) d_int) d_int)
    (b_one (s_ret (d_mod (d_ct call_int1 cas_int rfl n_int (by decide +kernel) (d_cons (d_addA (d_div (d_ixV 0 d_int) d_int) (d_ixV 0 d_int)) d_nil)) (d_var 1))))))))⟩), gx, F.kp, b⟩

abbrev s_law_orders : Stmt := top 51
def m_law_orders : MS := (mSeq (mAsg (bName 1) (mLst (maCons (mTup maNil) maNil)))
  (mSeq (mFor (miR rg1 (maCons (mVar 0) maNil)) (bName 2) (mAsg (bName 1) (mCall 1 r_law_flat (maCons (mComp [3] (miSeq (mVar 1)) (bName 3) mtYes (mComp [4] (miR rg1 (maCons (mVar 0) maNil)) (bName 4) (mtB (mOp (iInF true) (mVar 4) (mVar 3))) (mOp iAddA (mVar 3) (mTup (maCons (mVar 4) maNil))))) maNil))))
  (mRet (mVar 1))))
def r_law_orders : List PyData → R PyData := runS 5 m_law_orders
theorem sc_law_orders : FnScope ["many", "found", "k", "row", "one"] ["many"] (defScope s_law_orders) := ⟨rfl, rfl, rfl, by decide +kernel, rfl, by decide +kernel, by decide +kernel⟩
theorem ok_law_orders {f : Addr} {fd : FuncData} (F : FunD K "_law_orders" "_law_orders" (defArgs s_law_orders) (defBody s_law_orders) (defScope s_law_orders) [] [] f fd) (gx : mg "_law_orders" = some (.ref f)) (F_law_flat : FnI P w K mg base C 1 "_law_flat" 1 r_law_flat) (n_range : mg "range" = none) : FnI P w K mg base C 2 "_law_orders" 1 r_law_orders := by
  have b : Binds K fd ["many"] [] := FunD.bindsN F fun _ _ _ _ _ _ us hl => match us, hl with | [_], _ => rfl
  exact ⟨f, fd, ["many"], fn_okD (N := ["many", "found", "k", "row", "one"]) F sc_law_orders (by decide) (fun cdv A outer s H E hr => ⟨_,
   (b_cons (s_asg (d_lst (d_cons (d_tup d_nil) d_nil)) (g_name 1 sc_law_orders.nd))
    (b_cons (s_for (passes_of rfl) rfl (i_rg1 rfl n_range (d_cons (d_var 0) d_nil)) (g_name 2 sc_law_orders.nd) (b_one (s_asg (d_call F_law_flat (hr.mono (by decide)) (takes_of rfl rfl rfl rfl) rfl (d_cons (d_lc (own := [("row", 3)]) (te := (tLc (iRng1 (tCons (tVar 0) tNil)) (gName 4) (tTest (tOp (rIn K true) (tVar 4) (tVar 3))) (tOp (rAddA K) (tVar 3) (tTupF (tCons (tVar 4) tNil))) [4])) (gg := (gName 3)) (bb := (bName 3)) rfl sc_law_orders.nd (blkOk_by (by kernel_rfl)) (i_seq (d_var 1)) (fun _ _ _ _ _ => (g_name 3 sc_law_orders.nd)) (fun _ _ _ _ _ => (d_lcif (own := [("one", 4)]) (te := (tOp (rAddA K) (tVar 3) (tTupF (tCons (tVar 4) tNil)))) (tt := (tTest (tOp (rIn K true) (tVar 4) (tVar 3)))) (gg := (gName 4)) (bb := (bName 4)) rfl sc_law_orders.nd (blkOk_by (by kernel_rfl)) (i_rg1 rfl n_range (d_cons (d_var 0) d_nil)) (fun _ _ _ _ _ => (g_name 4 sc_law_orders.nd)) (fun _ _ _ _ _ => (t_niF (d_var 4) (d_var 3))) (fun _ _ _ _ _ => (d_addA (d_var 3) (d_tup (d_cons (d_var 4) d_nil))))))) d_nil)) (g_name 1 sc_law_orders.nd))))
    (b_one (s_ret (d_var 1)))))⟩), gx, F.kp, b⟩

abbrev s_law_rings : Stmt := top 52
def m_law_rings : MS := (mSeq (mParN0 2 3 (nLiR1 (mCa cLenA (maCons (mVar 0) maNil))))
  (mSeq (mFor (miR rg1 (maCons (mCa cLenA (maCons (mVar 0) maNil)) maNil)) (bName 1) (mIfS (mtB (mInO false 2 (mVar 1))) (mSeq (mParXN 5 6 (mVar 1) (nLst maNil))
  (mSeq (mFor (miR rg1 (maCons (mCa cLenA (maCons (mVar 0) maNil)) maNil)) (bName 4) (mSeq (mIfS (mtB (mInO false 2 (mVar 5))) (mSeq (mRemG 2 (mVar 5))
  (mApp 6 (mVar 5))) mNext)
  (mAsg (bName 5) (mIxV 0 (mVar 5)))))
  (mApp 3 (mShow 6)))) mNext))
  (mRet (mShow 3))))
def r_law_rings : List PyData → R PyData := runS 7 m_law_rings
theorem sc_law_rings : FnScope ["row", "k", "left", "found", "turn", "here", "lot"] ["row"] (defScope s_law_rings) := ⟨rfl, rfl, rfl, by decide +kernel, rfl, by decide +kernel, by decide +kernel⟩
theorem ok_law_rings {f : Addr} {fd : FuncData} (F : FunD K "_law_rings" "_law_rings" (defArgs s_law_rings) (defBody s_law_rings) (defScope s_law_rings) [] [] f fd) (gx : mg "_law_rings" = some (.ref f)) (n_list : mg "list" = none) (n_range : mg "range" = none) (n_len : mg "len" = none) : FnI P w K mg base C 1 "_law_rings" 1 r_law_rings := by
  have b : Binds K fd ["row"] [] := FunD.bindsN F fun _ _ _ _ _ _ us hl => match us, hl with | [_], _ => rfl
  exact ⟨f, fd, ["row"], fn_okD (N := ["row", "k", "left", "found", "turn", "here", "lot"]) F sc_law_rings (by decide) (fun cdv A outer s H E hr => ⟨_,
   (b_cons (s_parN0 2 3 rfl sc_law_rings.nd (n_liR1 rfl rfl n_list rfl n_range (d_cb call_lenA cas_lenA rfl n_len PySem.boot_len (d_cons (d_var 0) d_nil))))
    (b_cons (s_for (passes_of rfl) rfl (i_rg1 rfl n_range (d_cons (d_cb call_lenA cas_lenA rfl n_len PySem.boot_len (d_cons (d_var 0) d_nil)) d_nil)) (g_name 1 sc_law_rings.nd) (b_one (s_if (t_inO 2 op_in_seq (d_var 1)) (b_cons (s_parXN 5 6 rfl sc_law_rings.nd (d_var 1) (n_lst d_nil))
    (b_cons (s_for (passes_of rfl) rfl (i_rg1 rfl n_range (d_cons (d_cb call_lenA cas_lenA rfl n_len PySem.boot_len (d_cons (d_var 0) d_nil)) d_nil)) (g_name 4 sc_law_rings.nd) (b_cons (s_if (t_inO 2 op_in_seq (d_var 5)) (b_cons (s_rem 2 (d_var 5))
    (b_one (s_app 6 (d_var 5)))) b_nil)
    (b_one (s_asg (d_ixV 0 (d_var 5)) (g_name 5 sc_law_rings.nd)))))
    (b_one (s_app 3 (d_show 6))))) b_nil)))
    (b_one (s_ret (d_show 3)))))⟩), gx, F.kp, b⟩

end
end K10

namespace K10
open PySem PySem.Spec PyProof.Rows L2 LW
section
variable {P : Program} {w : World} {K : PySem.W.Frag} {mg : Str → Option Value} {base : Heap} {C : Cl}
abbrev s_law : Stmt := top 53
def m_law : MS := (mSeq (mAsg (bName 3) (mOp iAddA (mC (.int 1)) (mCallM 1 r_law_roll 1 (maCons (mC (.int 5)) maNil))))
  (mSeq (mAsg (bName 4) (mCall 1 r_law_orders (maCons (mVar 3) maNil)))
  (mSeq (mIfS (mtB (mOp iNe (mMeth "Spread" "shown" 1 r_Spread_shown (mCall 1 r_wrong_pairs (maCons (mVar 3) maNil)) (fun e => .ok (e, []))) (mMeth "Spread" "shown" 1 r_Spread_shown (mCall 1 r_even (maCons (mComp [6] (miSeq (mVar 4)) (bName 6) mtYes (mCa cLenA (maCons (mCall 1 r_law_flat (maCons (mComp [16] (miR rg1 (maCons (mVar 3) maNil)) (bName 16) mtYes (mComp [18] (miR rg1 (maCons (mVar 16) maNil)) (bName 18) (mtB (mOp (iCmp fun i j => decide (j < i)) (mIxV 6 (mVar 18)) (mIxV 6 (mVar 16)))) (mC (.int 1)))) maNil)) maNil))) maNil)) (fun e => .ok (e, []))))) (mRet (mC (.bool false))) mNext)
  (mSeq (mIfS (mtOr (mtB (mOp iNe (mMeth "Spread" "shown" 1 r_Spread_shown (mCall 1 r_at_home (maCons (mVar 3) maNil)) (fun e => .ok (e, []))) (mMeth "Spread" "shown" 1 r_Spread_shown (mCall 1 r_even (maCons (mComp [6] (miSeq (mVar 4)) (bName 6) mtYes (mCa cLenA (maCons (mComp [11] (miR rg1 (maCons (mVar 3) maNil)) (bName 11) (mtB (mOp iEq (mIxV 6 (mVar 11)) (mVar 11))) (mVar 11)) maNil))) maNil)) (fun e => .ok (e, []))))) (mtB (mOp iNe (mCall 1 r_check_many (maCons (mVar 3) maNil)) (mVar 3)))) (mRet (mC (.bool false))) mNext)
  (mSeq (mIfS (mtOr (mtB (mOp iNe (mMeth "Spread" "shown" 1 r_Spread_shown (mCall 1 r_rings (maCons (mVar 3) maNil)) (fun e => .ok (e, []))) (mMeth "Spread" "shown" 1 r_Spread_shown (mCall 1 r_even (maCons (mComp [6] (miSeq (mVar 4)) (bName 6) mtYes (mCa cLenA (maCons (mCall 1 r_law_rings (maCons (mVar 6) maNil)) maNil))) maNil)) (fun e => .ok (e, []))))) (mtB (mOp iNe (mMeth "Spread" "shown" 1 r_Spread_shown (mCall 1 r_tops (maCons (mVar 3) maNil)) (fun e => .ok (e, []))) (mMeth "Spread" "shown" 1 r_Spread_shown (mCall 1 r_even (maCons (mComp [6] (miSeq (mVar 4)) (bName 6) mtYes (mCa cLenA (maCons (mComp [11] (miR rg1 (maCons (mVar 3) maNil)) (bName 11) (mtB (mOp iEq (mIxV 6 (mVar 11)) (mCa cMaxB (maCons (mSl (mVar 6) mNoPart (mPart (mOp iAddA (mVar 11) (mC (.int 1))))) maNil)))) (mVar 11)) maNil))) maNil)) (fun e => .ok (e, [])))))) (mRet (mC (.bool false))) mNext)
  (mSeq (mOwn 5 (nLst maNil))
  (mSeq (mFor (miSeq (mVar 4)) (bName 6) (mSeq (mOwn 10 (nLst maNil))
  (mSeq (mFor (miR rg1 (maCons (mVar 3) maNil)) (bName 11) (mApp 10 (mOp iAddA (mC (.int 1)) (mCa cMaxB (maCons (mOp iAddA (mComp [15] (miR rg1 (maCons (mVar 11) maNil)) (bName 15) (mtB (mOp (iCmp fun i j => decide (i < j)) (mIxV 6 (mVar 15)) (mIxV 6 (mVar 11)))) (mIxV 10 (mVar 15))) (mLst (maCons (mC (.int 0)) maNil))) maNil)))))
  (mApp 5 (mCa cMaxB (maCons (mShow 10) maNil))))))
  (mSeq (mIfS (mtOr (mtB (mOp iNe (mMeth "Spread" "shown" 1 r_Spread_shown (mCall 1 r_rise_spread (maCons (mVar 3) maNil)) (fun e => .ok (e, []))) (mMeth "Spread" "shown" 1 r_Spread_shown (mCall 1 r_even (maCons (mShow 5) maNil)) (fun e => .ok (e, []))))) (mtB (mOp iNe (mComp [6] (miSeq (mSl (mVar 4) mNoPart (mPart (mC (.int 20))))) (bName 6) (mtB (mOp iNe (mCall 1 r_longest_rise (maCons (mVar 6) maNil)) (mIxV 5 (mIndex (mVar 4) (mVar 6))))) (mVar 6)) (mLst maNil)))) (mRet (mC (.bool false))) mNext)
  (mSeq (mOwn 7 (nLst maNil))
  (mSeq (mFor (miR rg1 (maCons (mVar 3) maNil)) (bName 8) (mSeq (mAsg (bName 12) (mC (.int 0)))
  (mSeq (mFor (miSeq (mVar 4)) (bName 6) (mSeq (mAsg (bName 13) (mComp [11] (miR rg2 (maCons (mVar 8) (maCons (mVar 3) maNil))) (bName 11) (mtB (mOp (iCmp fun i j => decide (j < i)) (mIxV 6 (mVar 11)) (mCa cMaxB (maCons (mOp iAddA (mCa cListOf (maCons (mSl (mVar 6) mNoPart (mPart (mVar 8))) maNil)) (mLst (maCons (mOp iSub (mC (.int 0)) (mC (.int 1))) maNil))) maNil)))) (mVar 11)))
  (mAsg (bName 12) (mOp iAddA (mVar 12) (mCa cInt (maCons (mAndV (mOp iNe (mVar 13) (mLst maNil)) (mOp iEq (mIxV 6 (mIxV 13 (mC (.int 0)))) (mOp iSub (mVar 3) (mC (.int 1))))) maNil))))))
  (mSeq (mApp 7 (mCall 2 r_part (maCons (mVar 12) (maCons (mCa cLenA (maCons (mVar 4) maNil)) maNil))))
  (mIfS (mtB (mOp iNe (mCall 2 r_best_chance (maCons (mVar 3) (maCons (mVar 8) maNil))) (mIxV 7 (mVar 8)))) (mRet (mC (.bool false))) mNext)))))
  (mSeq (mIfS (mtB (mOp iNe (mCall 1 r_best_skipped (maCons (mVar 3) maNil)) (mOp iIx (mComp [11] (miR rg1 (maCons (mVar 3) maNil)) (bName 11) (mtB (mOp iEq (mComp [15] (miR rg1 (maCons (mVar 3) maNil)) (bName 15) (mtTru (mCall 2 r_is_less (maCons (mIxV 7 (mVar 11)) (maCons (mIxV 7 (mVar 15)) maNil)))) (mVar 15)) (mLst maNil))) (mVar 11)) (mC (.int 0))))) (mRet (mC (.bool false))) mNext)
  (mSeq (mAsg (bName 9) (mCallM 1 r_law_roll 1 (maCons (mOp iAddA (mVar 3) (mC (.int 1))) maNil)))
  (mSeq (mIfS (mtB (mOp iNe (mCall 2 r_all_found (maCons (mVar 3) (maCons (mVar 9) maNil))) (mCall 2 r_part (maCons (mCa cLenA (maCons (mComp [6] (miSeq (mVar 4)) (bName 6) (mtB (mOp (iCmp fun i j => decide (i ≤ j)) (mCa cMaxB (maCons (mComp [17] (miSeq (mCall 1 r_law_rings (maCons (mVar 6) maNil))) (bName 17) mtYes (mCa cLenA (maCons (mVar 17) maNil))) maNil)) (mVar 9))) (mC (.int 1))) maNil)) (maCons (mCa cLenA (maCons (mVar 4) maNil)) maNil))))) (mRet (mC (.bool false))) mNext)
  (mIfS (mtAnd (mtB (mOp (iCmp fun i j => decide (j < i)) (mVar 3) (mC (.int 1)))) (mtB (mOp iNe (mCall 1 r_same_ring (maCons (mVar 3) maNil)) (mCall 2 r_part (maCons (mCa cLenA (maCons (mComp [6] (miSeq (mVar 4)) (bName 6) (mtB (mOp iNe (mComp [17] (miSeq (mCall 1 r_law_rings (maCons (mVar 6) maNil))) (bName 17) (mtAnd (mtB (mOp iIn (mC (.int 0)) (mVar 17))) (mtB (mOp iIn (mC (.int 1)) (mVar 17)))) (mVar 17)) (mLst maNil))) (mC (.int 1))) maNil)) (maCons (mCa cLenA (maCons (mVar 4) maNil)) maNil)))))) (mRet (mC (.bool false))) mNext))))))))))))))
theorem sc_law : FnScope ["script", "dice", "wrong", "many", "orders", "rises", "row", "chances", "skipped", "tries", "best", "k", "wins", "taken", "pair", "j", "b", "lot", "a"] ["script"] (defScope s_law) := ⟨rfl, rfl, rfl, by decide +kernel, rfl, by decide +kernel, by decide +kernel⟩
theorem bd_law {f c Pt : Addr} {A : Around} {outer : List PySem.Env} {s : Shared} {H : Hp} {E : XK} (F_law_roll : FnM P w K mg base C 1 "_law_roll" 1 r_law_roll) (F_law_orders : FnI P w K mg base C 2 "_law_orders" 1 r_law_orders) (F_Spread_shown : MtI P w K mg base C 2 "Spread" "shown" 1 r_Spread_shown) (F_wrong_pairs : FnI P w K mg base C 4 "wrong_pairs" 1 r_wrong_pairs) (F_even : FnI P w K mg base C 4 "even" 1 r_even) (F_law_flat : FnI P w K mg base C 1 "_law_flat" 1 r_law_flat) (F_check_many : FnI P w K mg base C 1 "check_many" 1 r_check_many) (F_at_home : FnI P w K mg base C 4 "at_home" 1 r_at_home) (F_tops : FnI P w K mg base C 5 "tops" 1 r_tops) (F_rings : FnI P w K mg base C 4 "rings" 1 r_rings) (F_law_rings : FnI P w K mg base C 1 "_law_rings" 1 r_law_rings) (F_longest_rise : FnI P w K mg base C 1 "longest_rise" 1 r_longest_rise) (F_rise_spread : FnI P w K mg base C 5 "rise_spread" 1 r_rise_spread) (F_part : FnI P w K mg base C 2 "part" 2 r_part) (F_best_chance : FnI P w K mg base C 4 "best_chance" 2 r_best_chance) (F_best_skipped : FnI P w K mg base C 5 "best_skipped" 1 r_best_skipped) (F_is_less : FnI P w K mg base C 4 "is_less" 2 r_is_less) (F_all_found : FnI P w K mg base C 4 "all_found" 2 r_all_found) (F_same_ring : FnI P w K mg base C 3 "same_ring" 1 r_same_ring) (n_len : mg "len" = none) (n_range : mg "range" = none) (n_max : mg "max" = none) (n_list : mg "list" = none) (n_int : mg "int" = none) (c_Spread : (He.Fa.cls "Spread").ok K = true) (me_Spread_shown : (He.Fa.meth "Spread" "shown").ok K = true) (T : ToldI P w K mg base C) (TB : LamX.TabB base mg c Pt) (hT : C.T = [(Pt, ("law.<locals>.<lambda>" : Str))])
    (hr : Room 6 (A.deeper (envOfC "law" (defScope s_law) s.heap.objs.size f (.ref c)))) : ∃ ts, BD (cxOf (L2.CX P w) P w K mg base ["script", "dice", "wrong", "many", "orders", "rises", "row", "chances", "skipped", "tries", "best", "k", "wins", "taken", "pair", "j", "b", "lot", "a"] "law" (defScope s_law) f (.ref c) A outer s H E) C E (lawBody s_law) ts m_law := by
  obtain ⟨lT, g, fdT, hlT, g_lt, F_lt, hhT⟩ := T.ex
  have hmT : (Pt, ("law.<locals>.<lambda>" : Str)) ∈ C.T := by rw [hT]; exact List.mem_singleton.mpr rfl
  have huT : ∀ p ∈ C.T, p.1 = Pt → p.2 = ("law.<locals>.<lambda>" : Str) := fun p hp _ => by rw [hT] at hp; rw [List.mem_singleton.mp hp]
  exact ⟨_,
   (b_cons (s_asg (d_addA d_int (d_callM 1 F_law_roll (hr.mono (by decide)) (takes_of rfl rfl rfl rfl) rfl (d_cons d_int d_nil))) (g_name 3 sc_law.nd))
    (b_cons (s_asg (d_call F_law_orders (hr.mono (by decide)) (takes_of rfl rfl rfl rfl) rfl (d_cons (d_var 3) d_nil)) (g_name 4 sc_law.nd))
    (b_cons (s_if (t_ne hr.units (d_meth0 F_Spread_shown (hr.mono (by decide)) (takes_of rfl rfl rfl rfl) c_Spread me_Spread_shown (d_call F_wrong_pairs (hr.mono (by decide)) (takes_of rfl rfl rfl rfl) rfl (d_cons (d_var 3) d_nil))) (d_meth0 F_Spread_shown (hr.mono (by decide)) (takes_of rfl rfl rfl rfl) c_Spread me_Spread_shown (d_call F_even (hr.mono (by decide)) (takes_of rfl rfl rfl rfl) rfl (d_cons (d_lc (own := [("row", 6)]) (te := (tCB (rLenA K) (tCons (tCallS (spP K C 1 r_law_flat) (fun _ => EX0) (tCons (tLc (iRng1 (tCons (tVar 3) tNil)) (gName 16) tYes (tLc (iRng1 (tCons (tVar 16) tNil)) (gName 18) (tTest (tOp rGtI (tOp (rIx K) (tVar 6) (tVar 18)) (tOp (rIx K) (tVar 6) (tVar 16)))) (tC (.int 1)) [18]) [16]) tNil)) tNil))) (gg := (gName 6)) (bb := (bName 6)) rfl sc_law.nd (blkOk_by (by kernel_rfl)) (i_seq (d_var 4)) (fun _ _ _ _ _ => (g_name 6 sc_law.nd)) (fun _ _ _ _ _ => (d_cb call_lenA cas_lenA rfl n_len PySem.boot_len (d_cons (d_call F_law_flat (hr.mono (by decide)) takes0 rfl (d_cons (d_lc (own := [("b", 16)]) (te := (tLc (iRng1 (tCons (tVar 16) tNil)) (gName 18) (tTest (tOp rGtI (tOp (rIx K) (tVar 6) (tVar 18)) (tOp (rIx K) (tVar 6) (tVar 16)))) (tC (.int 1)) [18])) (gg := (gName 16)) (bb := (bName 16)) rfl sc_law.nd (blkOk_by (by kernel_rfl)) (i_rg1 rfl n_range (d_cons (d_var 3) d_nil)) (fun _ _ _ _ _ => (g_name 16 sc_law.nd)) (fun _ _ _ _ _ => (d_lcif (own := [("a", 18)]) (te := (tC (.int 1))) (tt := (tTest (tOp rGtI (tOp (rIx K) (tVar 6) (tVar 18)) (tOp (rIx K) (tVar 6) (tVar 16))))) (gg := (gName 18)) (bb := (bName 18)) rfl sc_law.nd (blkOk_by (by kernel_rfl)) (i_rg1 rfl n_range (d_cons (d_var 16) d_nil)) (fun _ _ _ _ _ => (g_name 18 sc_law.nd)) (fun _ _ _ _ _ => (t_gt (d_ixV 6 (d_var 18)) (d_ixV 6 (d_var 16)))) (fun _ _ _ _ _ => d_int)))) d_nil)) d_nil)))) d_nil)))) (b_one (s_ret d_bl)) b_nil)
    (b_cons (s_if (t_w (w_or (t_ne hr.units (d_meth0 F_Spread_shown (hr.mono (by decide)) (takes_of rfl rfl rfl rfl) c_Spread me_Spread_shown (d_call F_at_home (hr.mono (by decide)) (takes_of rfl rfl rfl rfl) rfl (d_cons (d_var 3) d_nil))) (d_meth0 F_Spread_shown (hr.mono (by decide)) (takes_of rfl rfl rfl rfl) c_Spread me_Spread_shown (d_call F_even (hr.mono (by decide)) (takes_of rfl rfl rfl rfl) rfl (d_cons (d_lc (own := [("row", 6)]) (te := (tCB (rLenA K) (tCons (tLc (iRng1 (tCons (tVar 3) tNil)) (gName 11) (tTest (tOp (rEqD K) (tOp (rIx K) (tVar 6) (tVar 11)) (tVar 11))) (tVar 11) [11]) tNil))) (gg := (gName 6)) (bb := (bName 6)) rfl sc_law.nd (blkOk_by (by kernel_rfl)) (i_seq (d_var 4)) (fun _ _ _ _ _ => (g_name 6 sc_law.nd)) (fun _ _ _ _ _ => (d_cb call_lenA cas_lenA rfl n_len PySem.boot_len (d_cons (d_lcif (own := [("k", 11)]) (te := (tVar 11)) (tt := (tTest (tOp (rEqD K) (tOp (rIx K) (tVar 6) (tVar 11)) (tVar 11)))) (gg := (gName 11)) (bb := (bName 11)) rfl sc_law.nd (blkOk_by (by kernel_rfl)) (i_rg1 rfl n_range (d_cons (d_var 3) d_nil)) (fun _ _ _ _ _ => (g_name 11 sc_law.nd)) (fun _ _ _ _ _ => (t_eq hr.units (d_ixV 6 (d_var 11)) (d_var 11))) (fun _ _ _ _ _ => (d_var 11))) d_nil)))) d_nil)))) (w_or1 (t_ne hr.units (d_call F_check_many (hr.mono (by decide)) (takes_of rfl rfl rfl rfl) rfl (d_cons (d_var 3) d_nil)) (d_var 3))))) (b_one (s_ret d_bl)) b_nil)
    (b_cons (s_if (t_w (w_or (t_ne hr.units (d_meth0 F_Spread_shown (hr.mono (by decide)) (takes_of rfl rfl rfl rfl) c_Spread me_Spread_shown (d_call F_rings (hr.mono (by decide)) (takes_of rfl rfl rfl rfl) rfl (d_cons (d_var 3) d_nil))) (d_meth0 F_Spread_shown (hr.mono (by decide)) (takes_of rfl rfl rfl rfl) c_Spread me_Spread_shown (d_call F_even (hr.mono (by decide)) (takes_of rfl rfl rfl rfl) rfl (d_cons (d_lc (own := [("row", 6)]) (te := (tCB (rLenA K) (tCons (tCallS (spP K C 1 r_law_rings) (fun _ => EX0) (tCons (tVar 6) tNil)) tNil))) (gg := (gName 6)) (bb := (bName 6)) rfl sc_law.nd (blkOk_by (by kernel_rfl)) (i_seq (d_var 4)) (fun _ _ _ _ _ => (g_name 6 sc_law.nd)) (fun _ _ _ _ _ => (d_cb call_lenA cas_lenA rfl n_len PySem.boot_len (d_cons (d_call F_law_rings (hr.mono (by decide)) takes0 rfl (d_cons (d_var 6) d_nil)) d_nil)))) d_nil)))) (w_or1 (t_ne hr.units (d_meth0 F_Spread_shown (hr.mono (by decide)) (takes_of rfl rfl rfl rfl) c_Spread me_Spread_shown (d_call F_tops (hr.mono (by decide)) (takes_of rfl rfl rfl rfl) rfl (d_cons (d_var 3) d_nil))) (d_meth0 F_Spread_shown (hr.mono (by decide)) (takes_of rfl rfl rfl rfl) c_Spread me_Spread_shown (d_call F_even (hr.mono (by decide)) (takes_of rfl rfl rfl rfl) rfl (d_cons (d_lc (own := [("row", 6)]) (te := (tCB (rLenA K) (tCons (tLc (iRng1 (tCons (tVar 3) tNil)) (gName 11) (tTest (tOp (rEqD K) (tOp (rIx K) (tVar 6) (tVar 11)) (tCB (rMaxB K) (tCons (tSl (rSl2 K) (tVar 6) tNoPart (tPart (tOp (rAddA K) (tVar 11) (tC (.int 1))))) tNil)))) (tVar 11) [11]) tNil))) (gg := (gName 6)) (bb := (bName 6)) rfl sc_law.nd (blkOk_by (by kernel_rfl)) (i_seq (d_var 4)) (fun _ _ _ _ _ => (g_name 6 sc_law.nd)) (fun _ _ _ _ _ => (d_cb call_lenA cas_lenA rfl n_len PySem.boot_len (d_cons (d_lcif (own := [("k", 11)]) (te := (tVar 11)) (tt := (tTest (tOp (rEqD K) (tOp (rIx K) (tVar 6) (tVar 11)) (tCB (rMaxB K) (tCons (tSl (rSl2 K) (tVar 6) tNoPart (tPart (tOp (rAddA K) (tVar 11) (tC (.int 1))))) tNil))))) (gg := (gName 11)) (bb := (bName 11)) rfl sc_law.nd (blkOk_by (by kernel_rfl)) (i_rg1 rfl n_range (d_cons (d_var 3) d_nil)) (fun _ _ _ _ _ => (g_name 11 sc_law.nd)) (fun _ _ _ _ _ => (t_eq hr.units (d_ixV 6 (d_var 11)) (d_cb (call_maxB rfl) cas_maxB rfl n_max (by decide +kernel) (d_cons (d_slice (d_var 6) p_no (p_some (d_addA (d_var 11) d_int))) d_nil)))) (fun _ _ _ _ _ => (d_var 11))) d_nil)))) d_nil))))))) (b_one (s_ret d_bl)) b_nil)
    (b_cons (s_own 5 (n_lst d_nil) (g_name 5 sc_law.nd))
    (b_cons (s_for (passes_of rfl) rfl (i_seq (d_var 4)) (g_name 6 sc_law.nd) (b_cons (s_own 10 (n_lst d_nil) (g_name 10 sc_law.nd))
    (b_cons (s_for (passes_of rfl) rfl (i_rg1 rfl n_range (d_cons (d_var 3) d_nil)) (g_name 11 sc_law.nd) (b_one (s_app 10 (d_addA d_int (d_cb (call_maxB rfl) cas_maxB rfl n_max (by decide +kernel) (d_cons (d_addA (d_lcif (own := [("j", 15)]) (te := (tOp (rIx K) (tVar 10) (tVar 15))) (tt := (tTest (tOp rLtI (tOp (rIx K) (tVar 6) (tVar 15)) (tOp (rIx K) (tVar 6) (tVar 11))))) (gg := (gName 15)) (bb := (bName 15)) rfl sc_law.nd (blkOk_by (by kernel_rfl)) (i_rg1 rfl n_range (d_cons (d_var 11) d_nil)) (fun _ _ _ _ _ => (g_name 15 sc_law.nd)) (fun _ _ _ _ _ => (t_lt (d_ixV 6 (d_var 15)) (d_ixV 6 (d_var 11)))) (fun _ _ _ _ _ => (d_ixV 10 (d_var 15)))) (d_lst (d_cons d_int d_nil))) d_nil))))))
    (b_one (s_app 5 (d_cb (call_maxB rfl) cas_maxB rfl n_max (by decide +kernel) (d_cons (d_show 10) d_nil)))))))
    (b_cons (s_if (t_w (w_or (t_ne hr.units (d_meth0 F_Spread_shown (hr.mono (by decide)) (takes_of rfl rfl rfl rfl) c_Spread me_Spread_shown (d_call F_rise_spread (hr.mono (by decide)) (takes_of rfl rfl rfl rfl) rfl (d_cons (d_var 3) d_nil))) (d_meth0 F_Spread_shown (hr.mono (by decide)) (takes_of rfl rfl rfl rfl) c_Spread me_Spread_shown (d_call F_even (hr.mono (by decide)) (takes_of rfl rfl rfl rfl) rfl (d_cons (d_show 5) d_nil)))) (w_or1 (t_ne hr.units (d_lcif (own := [("row", 6)]) (te := (tVar 6)) (tt := (tTest (tOp (rNeD K) (tCallS (spP K C 1 r_longest_rise) (fun _ => EX0) (tCons (tVar 6) tNil)) (tOp (rIx K) (tVar 5) (tBM K "list" (rIndexD K) (tVar 4) (tCons (tVar 6) tNil)))))) (gg := (gName 6)) (bb := (bName 6)) rfl sc_law.nd (blkOk_by (by kernel_rfl)) (i_seq (d_slice (d_var 4) p_no (p_some d_int))) (fun _ _ _ _ _ => (g_name 6 sc_law.nd)) (fun _ _ _ _ _ => (t_ne hr.units (d_call F_longest_rise (hr.mono (by decide)) takes0 rfl (d_cons (d_var 6) d_nil)) (d_ixV 5 (d_index (room65 hr) (d_var 4) (d_var 6))))) (fun _ _ _ _ _ => (d_var 6))) (d_lst d_nil))))) (b_one (s_ret d_bl)) b_nil)
    (b_cons (s_own 7 (n_lst d_nil) (g_name 7 sc_law.nd))
    (b_cons (s_for (passes_of rfl) rfl (i_rg1 rfl n_range (d_cons (d_var 3) d_nil)) (g_name 8 sc_law.nd) (b_cons (s_asg d_int (g_name 12 sc_law.nd))
    (b_cons (s_for (passes_of rfl) rfl (i_seq (d_var 4)) (g_name 6 sc_law.nd) (b_cons (s_setLcif 13 (own := [("k", 11)]) (te := (tVar 11)) (tt := (tTest (tOp rGtI (tOp (rIx K) (tVar 6) (tVar 11)) (tCB (rMaxB K) (tCons (tOp (rAddA K) (tCB (rListOf K) (tCons (tSl (rSl2 K) (tVar 6) tNoPart (tPart (tVar 8))) tNil)) (tLst (tCons (tOp rSubI (tC (.int 0)) (tC (.int 1))) tNil))) tNil))))) (gg := (gName 11)) (bb := (bName 11)) rfl sc_law.nd (blkOk_by (by kernel_rfl)) (i_rg2 rfl n_range (d_cons (d_var 8) (d_cons (d_var 3) d_nil))) (fun _ _ _ _ _ => (g_name 11 sc_law.nd)) (fun _ _ _ _ _ => (t_gt (d_ixV 6 (d_var 11)) (d_cb (call_maxB rfl) cas_maxB rfl n_max (by decide +kernel) (d_cons (d_addA (d_ct call_list_of cas_listOf rfl n_list (by decide +kernel) (d_cons (d_slice (d_var 6) p_no (p_some (d_var 8))) d_nil)) (d_lst (d_cons (d_sub d_int d_int) d_nil))) d_nil)))) (fun _ _ _ _ _ => (d_var 11)) (sw_true rfl rfl rfl (by decide +kernel)))
    (b_one (s_asg (d_addA (d_var 12) (d_ct call_int1 cas_int rfl n_int (by decide +kernel) (d_cons (d_andV (d_ne hr.units (d_var 13) (d_lst d_nil)) (d_one (d_eq hr.units (d_ixV 6 (d_ixV 13 d_int)) (d_sub (d_var 3) d_int)))) d_nil))) (g_name 12 sc_law.nd)))))
    (b_cons (s_app 7 (d_call F_part (hr.mono (by decide)) (takes_of rfl rfl rfl rfl) rfl (d_cons (d_var 12) (d_cons (d_cb call_lenA cas_lenA rfl n_len PySem.boot_len (d_cons (d_var 4) d_nil)) d_nil))))
    (b_one (s_if (t_ne hr.units (d_call F_best_chance (hr.mono (by decide)) (takes_of rfl rfl rfl rfl) rfl (d_cons (d_var 3) (d_cons (d_var 8) d_nil))) (d_ixV 7 (d_var 8))) (b_one (s_ret d_bl)) b_nil))))))
    (b_cons (s_if (t_ne hr.units (d_call F_best_skipped (hr.mono (by decide)) (takes_of rfl rfl rfl rfl) rfl (d_cons (d_var 3) d_nil)) (d_ix (d_lcif (own := [("k", 11)]) (te := (tVar 11)) (tt := (tTest (tOp (rEqD K) (tLc (iRng1 (tCons (tVar 3) tNil)) (gName 15) (tTruK K (tCallS (spP K C 2 r_is_less) (fun _ => EX0) (tCons (tOp (rIx K) (tVar 7) (tVar 11)) (tCons (tOp (rIx K) (tVar 7) (tVar 15)) tNil)))) (tVar 15) [15]) (tLst tNil)))) (gg := (gName 11)) (bb := (bName 11)) rfl sc_law.nd (blkOk_by (by kernel_rfl)) (i_rg1 rfl n_range (d_cons (d_var 3) d_nil)) (fun _ _ _ _ _ => (g_name 11 sc_law.nd)) (fun _ _ _ _ _ => (t_eq hr.units (d_lcif (own := [("j", 15)]) (te := (tVar 15)) (tt := (tTruK K (tCallS (spP K C 2 r_is_less) (fun _ => EX0) (tCons (tOp (rIx K) (tVar 7) (tVar 11)) (tCons (tOp (rIx K) (tVar 7) (tVar 15)) tNil))))) (gg := (gName 15)) (bb := (bName 15)) rfl sc_law.nd (blkOk_by (by kernel_rfl)) (i_rg1 rfl n_range (d_cons (d_var 3) d_nil)) (fun _ _ _ _ _ => (g_name 15 sc_law.nd)) (fun _ _ _ _ _ => (t_tru (d_call F_is_less (hr.mono (by decide)) takes0 rfl (d_cons (d_ixV 7 (d_var 11)) (d_cons (d_ixV 7 (d_var 15)) d_nil))))) (fun _ _ _ _ _ => (d_var 15))) (d_lst d_nil))) (fun _ _ _ _ _ => (d_var 11))) d_int)) (b_one (s_ret d_bl)) b_nil)
    (b_cons (s_asg (d_callM 1 F_law_roll (hr.mono (by decide)) (takes_of rfl rfl rfl rfl) rfl (d_cons (d_addA (d_var 3) d_int) d_nil)) (g_name 9 sc_law.nd))
    (b_cons (s_if (t_ne hr.units (d_call F_all_found (hr.mono (by decide)) (takes_of rfl rfl rfl rfl) rfl (d_cons (d_var 3) (d_cons (d_var 9) d_nil))) (d_call F_part (hr.mono (by decide)) (takes_of rfl rfl rfl rfl) rfl (d_cons (d_cb call_lenA cas_lenA rfl n_len PySem.boot_len (d_cons (d_lcif (own := [("row", 6)]) (te := (tC (.int 1))) (tt := (tTest (tOp rLeI (tCB (rMaxB K) (tCons (tLc (iSeq K (tCallS (spP K C 1 r_law_rings) (fun _ => EX0) (tCons (tVar 6) tNil))) (gName 17) tYes (tCB (rLenA K) (tCons (tVar 17) tNil)) [17]) tNil)) (tVar 9)))) (gg := (gName 6)) (bb := (bName 6)) rfl sc_law.nd (blkOk_by (by kernel_rfl)) (i_seq (d_var 4)) (fun _ _ _ _ _ => (g_name 6 sc_law.nd)) (fun _ _ _ _ _ => (t_le (d_cb (call_maxB rfl) cas_maxB rfl n_max (by decide +kernel) (d_cons (d_lc (own := [("lot", 17)]) (te := (tCB (rLenA K) (tCons (tVar 17) tNil))) (gg := (gName 17)) (bb := (bName 17)) rfl sc_law.nd (blkOk_by (by kernel_rfl)) (i_seq (d_call F_law_rings (hr.mono (by decide)) takes0 rfl (d_cons (d_var 6) d_nil))) (fun _ _ _ _ _ => (g_name 17 sc_law.nd)) (fun _ _ _ _ _ => (d_cb call_lenA cas_lenA rfl n_len PySem.boot_len (d_cons (d_var 17) d_nil)))) d_nil)) (d_var 9))) (fun _ _ _ _ _ => d_int)) d_nil)) (d_cons (d_cb call_lenA cas_lenA rfl n_len PySem.boot_len (d_cons (d_var 4) d_nil)) d_nil)))) (b_one (s_ret d_bl)) b_nil)
    (b_one (s_if (t_w (w_and (t_gt (d_var 3) d_int) (w_and1 (t_ne hr.units (d_call F_same_ring (hr.mono (by decide)) (takes_of rfl rfl rfl rfl) rfl (d_cons (d_var 3) d_nil)) (d_call F_part (hr.mono (by decide)) (takes_of rfl rfl rfl rfl) rfl (d_cons (d_cb call_lenA cas_lenA rfl n_len PySem.boot_len (d_cons (d_lcif (own := [("row", 6)]) (te := (tC (.int 1))) (tt := (tTest (tOp (rNeD K) (tLc (iSeq K (tCallS (spP K C 1 r_law_rings) (fun _ => EX0) (tCons (tVar 6) tNil))) (gName 17) (tAnd (tTest (tOp (rInD K) (tC (.int 0)) (tVar 17))) (tTest (tOp (rInD K) (tC (.int 1)) (tVar 17)))) (tVar 17) [17]) (tLst tNil)))) (gg := (gName 6)) (bb := (bName 6)) rfl sc_law.nd (blkOk_by (by kernel_rfl)) (i_seq (d_var 4)) (fun _ _ _ _ _ => (g_name 6 sc_law.nd)) (fun _ _ _ _ _ => (t_ne hr.units (d_lcif (own := [("lot", 17)]) (te := (tVar 17)) (tt := (tAnd (tTest (tOp (rInD K) (tC (.int 0)) (tVar 17))) (tTest (tOp (rInD K) (tC (.int 1)) (tVar 17))))) (gg := (gName 17)) (bb := (bName 17)) rfl sc_law.nd (blkOk_by (by kernel_rfl)) (i_seq (d_call F_law_rings (hr.mono (by decide)) takes0 rfl (d_cons (d_var 6) d_nil))) (fun _ _ _ _ _ => (g_name 17 sc_law.nd)) (fun _ _ _ _ _ => (t_w (w_and (t_in (room65 hr) d_int (d_var 17)) (w_and1 (t_in (room65 hr) d_int (d_var 17)))))) (fun _ _ _ _ _ => (d_var 17))) (d_lst d_nil))) (fun _ _ _ _ _ => d_int)) d_nil)) (d_cons (d_cb call_lenA cas_lenA rfl n_len PySem.boot_len (d_cons (d_var 4) d_nil)) d_nil))))))) (b_one (s_ret d_bl)) b_nil)))))))))))))))⟩
end
end K10

namespace K10
open PySem PySem.Spec PyProof.Rows L2 LW
section
variable {P : Program} {w : World} {K : PySem.W.Frag} {mg : Str → Option Value} {base : Heap} {C : Cl}
abbrev s_law_rounds : Stmt := top 49
def m_law_rounds : MS := (mSeq (mIfS (mtB (mOp iEq (mVar 2) (mLst maNil))) (mAsg (bName 2) (mLst (maCons (mC (.int 0)) maNil))) mNext)
  (mRet (mComp [3] (miSeq (mVar 2)) (bName 3) mtYes (mCall 1 r_law_dice (maCons (mVar 3) maNil)))))
theorem sc_law_rounds : FnScope ["script", "most", "cells", "cell"] ["script", "most"] (defScope s_law_rounds) := ⟨rfl, rfl, rfl, by decide +kernel, rfl, by decide +kernel, by decide +kernel⟩
theorem ok_law_rounds {f : Addr} {fd : FuncData} (F : FunD K "_law_rounds" "_law_rounds" (defArgs s_law_rounds) (defBody s_law_rounds) (defScope s_law_rounds) [] [] f fd) (F_law_dice : FnI P w K mg base C 1 "_law_dice" 1 r_law_dice)
    (h0 : ∃ e, m_law_rounds [none, some (.sh (.int 1)), some (.sh (.list [])), none] = .rt e (.list [.list (intsD (diceOf 0))])) (h1 : ∀ z, ∃ e, m_law_rounds [none, some (.sh (.int 1)), some (.sh (.list [.int z])), none] = .rt e (.list [.list (intsD (diceOf z))])) :
    FnOk P w K mg base (L2.CX P w) 2 f fd ["script", "most"] (spRounds K C diceOf) :=
  rounds_ok (k := 1) (m := m_law_rounds) (N := ["script", "most", "cells", "cell"]) F sc_law_rounds rfl (fun cdv A outer s H E hr => ⟨ps_set (i := 2) sc_law_rounds.nd rfl (by first | exact Or.inl rfl | exact Or.inr rfl) (pe_slice sl_list (pe_var rfl (by first | exact Or.inl rfl | exact Or.inr (Or.inl rfl) | exact Or.inr (Or.inr rfl))) po_none (po_some (pe_var rfl (by first | exact Or.inl rfl | exact Or.inr (Or.inl rfl) | exact Or.inr (Or.inr rfl))))), _,
   (b_cons (s_if (t_eq hr.units (d_var 2) (d_lst d_nil)) (b_one (s_asg (d_lst (d_cons d_int d_nil)) (g_name 2 sc_law_rounds.nd))) b_nil)
    (b_one (s_ret (d_lc (own := [("cell", 3)]) (te := (tCallS (spP K C 1 r_law_dice) (fun _ => EX0) (tCons (tVar 3) tNil))) (gg := (gName 3)) (bb := (bName 3)) rfl sc_law_rounds.nd (blkOk_by (by kernel_rfl)) (i_seq (d_var 2)) (fun _ _ _ _ _ => (g_name 3 sc_law_rounds.nd)) (fun _ _ _ _ _ => (d_call F_law_dice (hr.mono (by decide)) takes0 rfl (d_cons (d_var 3) d_nil)))))))⟩) h0 h1
theorem lams_law (s0 : Shared) (F_check_many : FnI P w K mg base C 1 "check_many" 1 r_check_many) (F_wrong_pairs : FnI P w K mg base C 4 "wrong_pairs" 1 r_wrong_pairs) (F_best_chance : FnI P w K mg base C 4 "best_chance" 2 r_best_chance) (F_rise_spread : FnI P w K mg base C 5 "rise_spread" 1 r_rise_spread) (F_same_ring : FnI P w K mg base C 3 "same_ring" 1 r_same_ring) (F_all_found : FnI P w K mg base C 4 "all_found" 2 r_all_found) : LamAll P w K mg base C 6 "law.<locals>.<lambda>" (lmsIn s_law) :=
  ⟨lam_of s0 5 (t := fun E => (tCallS (spP K C 1 r_check_many) (fun _ => E) (tCons (tC (.int 0)) tNil))) (m := (mCall 1 r_check_many (maCons (mC (.int 0)) maNil))) ⟨rfl, rfl, rfl, by decide +kernel, rfl, by decide +kernel, by decide +kernel⟩ (fun _ _ _ => rfl) (fun A outer s H E f c' hr => (d_call F_check_many (hr.mono (by decide)) (takes_of rfl rfl rfl rfl) rfl (d_cons d_int d_nil))) (Room.deeper ⟨rfl, by decide, by decide⟩ _) (by kernel_rfl) rfl,
   lam_of s0 5 (t := fun E => (tCallS (spP K C 1 r_wrong_pairs) (fun _ => E) (tCons (tC (.int 0)) tNil))) (m := (mCall 1 r_wrong_pairs (maCons (mC (.int 0)) maNil))) ⟨rfl, rfl, rfl, by decide +kernel, rfl, by decide +kernel, by decide +kernel⟩ (fun _ _ _ => rfl) (fun A outer s H E f c' hr => (d_call F_wrong_pairs (hr.mono (by decide)) (takes_of rfl rfl rfl rfl) rfl (d_cons d_int d_nil))) (Room.deeper ⟨rfl, by decide, by decide⟩ _) (by kernel_rfl) rfl,
   lam_of s0 5 (t := fun E => (tCallS (spP K C 2 r_best_chance) (fun _ => E) (tCons (tC (.int 3)) (tCons (tC (.int 3)) tNil)))) (m := (mCall 2 r_best_chance (maCons (mC (.int 3)) (maCons (mC (.int 3)) maNil)))) ⟨rfl, rfl, rfl, by decide +kernel, rfl, by decide +kernel, by decide +kernel⟩ (fun _ _ _ => rfl) (fun A outer s H E f c' hr => (d_call F_best_chance (hr.mono (by decide)) (takes_of rfl rfl rfl rfl) rfl (d_cons d_int (d_cons d_int d_nil)))) (Room.deeper ⟨rfl, by decide, by decide⟩ _) (by kernel_rfl) rfl,
   lam_of s0 5 (t := fun E => (tCallS (spP K C 1 r_rise_spread) (fun _ => E) (tCons (tC (.int 8)) tNil))) (m := (mCall 1 r_rise_spread (maCons (mC (.int 8)) maNil))) ⟨rfl, rfl, rfl, by decide +kernel, rfl, by decide +kernel, by decide +kernel⟩ (fun _ _ _ => rfl) (fun A outer s H E f c' hr => (d_call F_rise_spread (hr.mono (by decide)) (takes_of rfl rfl rfl rfl) rfl (d_cons d_int d_nil))) (Room.deeper ⟨rfl, by decide, by decide⟩ _) (by kernel_rfl) rfl,
   lam_of s0 5 (t := fun E => (tCallS (spP K C 1 r_same_ring) (fun _ => E) (tCons (tC (.int 1)) tNil))) (m := (mCall 1 r_same_ring (maCons (mC (.int 1)) maNil))) ⟨rfl, rfl, rfl, by decide +kernel, rfl, by decide +kernel, by decide +kernel⟩ (fun _ _ _ => rfl) (fun A outer s H E f c' hr => (d_call F_same_ring (hr.mono (by decide)) (takes_of rfl rfl rfl rfl) rfl (d_cons d_int d_nil))) (Room.deeper ⟨rfl, by decide, by decide⟩ _) (by kernel_rfl) rfl,
   lam_of s0 5 (t := fun E => (tCallS (spP K C 2 r_all_found) (fun _ => E) (tCons (tC (.int 2)) (tCons (tOp rSubI (tC (.int 0)) (tC (.int 1))) tNil)))) (m := (mCall 2 r_all_found (maCons (mC (.int 2)) (maCons (mOp iSub (mC (.int 0)) (mC (.int 1))) maNil)))) ⟨rfl, rfl, rfl, by decide +kernel, rfl, by decide +kernel, by decide +kernel⟩ (fun _ _ _ => rfl) (fun A outer s H E f c' hr => (d_call F_all_found (hr.mono (by decide)) (takes_of rfl rfl rfl rfl) rfl (d_cons d_int (d_cons (d_sub d_int d_int) d_nil)))) (Room.deeper ⟨rfl, by decide, by decide⟩ _) (by kernel_rfl) rfl,
   trivial⟩
theorem ok_law {f c Pt fR : Addr} {fd fdR : FuncData} (F : FunD K "law" "law" (defArgs s_law) (defBody s_law) (defScope s_law) [] [] f fd) (hc : fd.code = .ref c) (F_law_roll : FnM P w K mg base C 1 "_law_roll" 1 r_law_roll) (F_law_orders : FnI P w K mg base C 2 "_law_orders" 1 r_law_orders) (F_Spread_shown : MtI P w K mg base C 2 "Spread" "shown" 1 r_Spread_shown) (F_wrong_pairs : FnI P w K mg base C 4 "wrong_pairs" 1 r_wrong_pairs) (F_even : FnI P w K mg base C 4 "even" 1 r_even) (F_law_flat : FnI P w K mg base C 1 "_law_flat" 1 r_law_flat) (F_check_many : FnI P w K mg base C 1 "check_many" 1 r_check_many) (F_at_home : FnI P w K mg base C 4 "at_home" 1 r_at_home) (F_tops : FnI P w K mg base C 5 "tops" 1 r_tops) (F_rings : FnI P w K mg base C 4 "rings" 1 r_rings) (F_law_rings : FnI P w K mg base C 1 "_law_rings" 1 r_law_rings) (F_longest_rise : FnI P w K mg base C 1 "longest_rise" 1 r_longest_rise) (F_rise_spread : FnI P w K mg base C 5 "rise_spread" 1 r_rise_spread) (F_part : FnI P w K mg base C 2 "part" 2 r_part) (F_best_chance : FnI P w K mg base C 4 "best_chance" 2 r_best_chance) (F_best_skipped : FnI P w K mg base C 5 "best_skipped" 1 r_best_skipped) (F_is_less : FnI P w K mg base C 4 "is_less" 2 r_is_less) (F_all_found : FnI P w K mg base C 4 "all_found" 2 r_all_found) (F_same_ring : FnI P w K mg base C 3 "same_ring" 1 r_same_ring) (n_len : mg "len" = none) (n_range : mg "range" = none) (n_max : mg "max" = none) (n_list : mg "list" = none) (n_int : mg "int" = none) (c_Spread : (He.Fa.cls "Spread").ok K = true) (me_Spread_shown : (He.Fa.meth "Spread" "shown").ok K = true)
    (T : ToldI P w K mg base C) (TB : LamX.TabB base mg c Pt) (hT : C.T = [(Pt, ("law.<locals>.<lambda>" : Str))]) (FR : FnOk P w K mg base (L2.CX P w) 2 fR fdR ["script", "most"] (spRounds K C diceOf)) (gR : mg "_law_rounds" = some (.ref fR)) (kR : PySem.W.keepIn K (.ref fR) = true) (bR : Binds K fdR ["script", "most"] [])
    (hm : ∀ z, Builtin.Int.intBits z ≤ 1048576 → ∃ e, m_law (startL 19 (diceOf z)) = .nx e ∧ e.length = 19) : FnOk P w K mg base (L2.CX P w) 9 f fd ["script"] (spLaw K C) := by
  have hmT : (Pt, ("law.<locals>.<lambda>" : Str)) ∈ C.T := by rw [hT]; exact List.mem_singleton.mpr rfl
  have huT : ∀ p ∈ C.T, p.1 = Pt → p.2 = ("law.<locals>.<lambda>" : Str) := fun p hp _ => by rw [hT] at hp; rw [List.mem_singleton.mp hp]
  have T0 := T
  obtain ⟨lT, g, fdT, hlT, g_lt, F_lt, hhT⟩ := T.ex
  have okT : FnOk P w K mg base L2.CX0 8 g fdT ["what"] (spTold P w K mg base 6 lT) := told_ok (k := 6) F_lt sc_law_told rfl (by first | exact Or.inl rfl | exact Or.inr (Or.inl rfl) | exact Or.inr (Or.inr rfl)) (by decide) (by decide) (fun cdv A outer s H => hhT cdv A outer s H) (fun _ => rfl)
  have bT : Binds K fdT ["what"] [] := FunD.bindsN F_lt fun _ _ _ _ _ _ us hl => match us, hl with | [_], _ => rfl
  refine law_ok (k := 8) (N := ["script", "dice", "wrong", "many", "orders", "rises", "row", "chances", "skipped", "tries", "best", "k", "wins", "taken", "pair", "j", "b", "lot", "a"]) F sc_law (by decide) hc (fun A outer s H E hr => ?_) hm
  obtain ⟨tb, bd⟩ := bd_law (A := A) (outer := outer) (s := s) (H := H) (E := E) (f := f) (C := C) F_law_roll F_law_orders F_Spread_shown F_wrong_pairs F_even F_law_flat F_check_many F_at_home F_tops F_rings F_law_rings F_longest_rise F_rise_spread F_part F_best_chance F_best_skipped F_is_less F_all_found F_same_ring n_len n_range n_max n_list n_int c_Spread me_Spread_shown T0 TB hT (hr.mono (by decide))
  have xm : TD (cxOf (L2.CX P w) P w K mg base ["script", "dice", "wrong", "many", "orders", "rises", "row", "chances", "skipped", "tries", "best", "k", "wins", "taken", "pair", "j", "b", "lot", "a"] "law" (defScope s_law) f (.ref c) A outer s H E) C E (midE s_law) (tTest (tOp (rNeD K) (tLc (iSeq K (tLst (tCons (tLst (tCons (tC (.int 1)) (tCons (tC (.int 1)) (tCons (tC (.int 2)) tNil)))) (tCons (tLst (tCons (tC (.int 3)) (tCons (tC (.int 3)) (tCons (tC (.int 3)) tNil)))) (tCons (tLst (tCons (tC (.int 2)) (tCons (tC (.int 1)) (tCons (tC (.int 2)) (tCons (tC (.int 1)) (tCons (tC (.int 3)) tNil)))))) tNil))))) (gName 6) tYes (tCallS (spP K C 1 r_longest_rise) (fun _ => EX0) (tCons (tVar 6) tNil)) [6]) (tLst (tCons (tC (.int 2)) (tCons (tC (.int 1)) (tCons (tC (.int 3)) tNil)))))) (mtB (mOp iNe (mComp [6] (miSeq (mLst (maCons (mLst (maCons (mC (.int 1)) (maCons (mC (.int 1)) (maCons (mC (.int 2)) maNil)))) (maCons (mLst (maCons (mC (.int 3)) (maCons (mC (.int 3)) (maCons (mC (.int 3)) maNil)))) (maCons (mLst (maCons (mC (.int 2)) (maCons (mC (.int 1)) (maCons (mC (.int 2)) (maCons (mC (.int 1)) (maCons (mC (.int 3)) maNil)))))) maNil))))) (bName 6) mtYes (mCall 1 r_longest_rise (maCons (mVar 6) maNil))) (mLst (maCons (mC (.int 2)) (maCons (mC (.int 1)) (maCons (mC (.int 3)) maNil)))))) := (t_ne hr.units (d_lc (own := [("row", 6)]) (te := (tCallS (spP K C 1 r_longest_rise) (fun _ => EX0) (tCons (tVar 6) tNil))) (gg := (gName 6)) (bb := (bName 6)) rfl sc_law.nd (blkOk_by (by kernel_rfl)) (i_seq (d_lst (d_cons (d_lst (d_cons d_int (d_cons d_int (d_cons d_int d_nil)))) (d_cons (d_lst (d_cons d_int (d_cons d_int (d_cons d_int d_nil)))) (d_cons (d_lst (d_cons d_int (d_cons d_int (d_cons d_int (d_cons d_int (d_cons d_int d_nil)))))) d_nil))))) (fun _ _ _ _ _ => (g_name 6 sc_law.nd)) (fun _ _ _ _ _ => (d_call F_longest_rise (hr.mono (by decide)) takes0 rfl (d_cons (d_var 6) d_nil)))) (d_lst (d_cons d_int (d_cons d_int (d_cons d_int d_nil)))))
  have xr : ED (cxOf (L2.CX P w) P w K mg base ["script", "dice", "wrong", "many", "orders", "rises", "row", "chances", "skipped", "tries", "best", "k", "wins", "taken", "pair", "j", "b", "lot", "a"] "law" (defScope s_law) f (.ref c) A outer s H E) C E (restE s_law) (tOp (rEqD K) (tCallS (spP K C 1 r_longest_rise) (fun _ => E) (tCons (tLst tNil) tNil)) (tC (.int 0))) (mOp iEq (mCall 1 r_longest_rise (maCons (mLst maNil) maNil)) (mC (.int 0))) := (d_one (d_eq hr.units (d_call F_longest_rise (hr.mono (by decide)) (takes_of rfl rfl rfl rfl) rfl (d_cons (d_lst d_nil) d_nil)) d_int))
  refine ⟨tb, _, pss_cons (ps_for (passes_of rfl) rfl (pi_seq (pe_callS FR (hr.mono (by decide)) rfl gR kR bR (fun σ => passAt (takes_of rfl rfl rfl rfl) σ) (pa_cons (pe_var (i := 0) rfl (by first | exact Or.inl rfl | exact Or.inr (Or.inl rfl) | exact Or.inr (Or.inr rfl))) (pa_cons pe_int pa_nil)))) (g_name (C := C) 1 sc_law.nd).pe bd.pe)
    (pss_cons (ps_set (i := 2) sc_law.nd rfl (by first | exact Or.inl rfl | exact Or.inr rfl) (pe_lst (pa_wrong TB rfl hmT huT _ (lmsIn s_law) (by kernel_rfl) (fun l hl => noDef_ok (by kernel_rfl) l hl _))))
    (pss_cons (ps_if xm.pe (pss_one (ps_ret (d_bl (E := E) (C := C)).pe)) pss_nil) (pss_one (ps_ret (pe_and (pe_cmpR (op_eqD hr.units) (pe_lc (own := [("pair", 14)]) (tt := ttW K (spTold P w K mg base 6 lT) 14) (te := tVar 14) (g := gName 14) rfl sc_law.nd (pi_seq (pe_var (i := 2) rfl (by first | exact Or.inl rfl | exact Or.inr (Or.inl rfl) | exact Or.inr (Or.inr rfl)))) (blkOk_by (by kernel_rfl)) (fun _ _ _ _ _ => (g_name (C := C) 14 sc_law.nd).pe)
      (fun _ _ _ _ _ => pts_one (pt_cmpR (op_neD hr.units) (pe_callS okT (hr.mono (by decide)) rfl g_lt F_lt.kp bT (fun σ => fun _ _ _ _ _ _ z => z.elim) (pa_cons (pe_ix ix_seq (pe_var (i := 14) rfl (by first | exact Or.inl rfl | exact Or.inr (Or.inl rfl) | exact Or.inr (Or.inr rfl))) pe_int (fun _ _ => rfl)) pa_nil)) (pe_ix ix_seq (pe_var (i := 14) rfl (by first | exact Or.inl rfl | exact Or.inr (Or.inl rfl) | exact Or.inr (Or.inr rfl))) pe_int (fun _ _ => rfl)) (nomark _))) (fun _ _ _ _ _ => pe_var (i := 14) rfl (by first | exact Or.inl rfl | exact Or.inr (Or.inl rfl) | exact Or.inr (Or.inr rfl)))) (pe_lst pa_nil) (nomark _)) xr.pe))))), bd.sd, tail_ok3 hlT (LamAll.mem (lams_law s F_check_many F_wrong_pairs F_best_chance F_rise_spread F_same_ring F_all_found)) (by decide) (by decide) (Nat.le_of_ble_eq_true (by kernel_rfl)) (by decide) xm.sd (by kernel_rfl) xr.sd (by kernel_rfl)⟩
end
end K10

namespace K10
open PySem PySem.Spec PyProof.Rows L2 LW
def fn : List He.DefD := [defOf "shared" s_shared [], defOf "part" s_part [.int 1], defOf "plus" s_plus [], defOf "minus" s_minus [], defOf "times" s_times [], defOf "is_less" s_is_less [], defOf "check_count" s_check_count [], defOf "choose" s_choose [], defOf "none_home" s_none_home [], defOf "cycles" s_cycles [], defOf "crossings" s_crossings [], defOfM "Spread" "__init__" "Spread.__init__" s_Spread_init [], defOfM "Spread" "numbers" "Spread.numbers" s_Spread_numbers [], defOfM "Spread" "shown" "Spread.shown" s_Spread_shown [], defOf "even" s_even [], defOf "check_many" s_check_many [], defOf "wrong_pairs" s_wrong_pairs [], defOf "at_home" s_at_home [], defOf "rings" s_rings [], defOf "tops" s_tops [], defOf "best_chance" s_best_chance [], defOf "best_skipped" s_best_skipped [], defOf "longest_rise" s_longest_rise [], defOf "rise_spread" s_rise_spread [], defOf "same_ring" s_same_ring [], defOf "all_found" s_all_found [], defOf "_law_flat" s_law_flat [], defOf "_law_dice" s_law_dice [], defOf "_law_roll" s_law_roll [], defOf "_law_orders" s_law_orders [], defOf "_law_rings" s_law_rings [], defOf "_law_rounds" s_law_rounds [], defOf "_law_told" s_law_told [], defOf "law" s_law []]
def fa0 : List He.Fa := [.glo "shared", .glo "part", .glo "plus", .glo "minus", .glo "times", .glo "is_less", .glo "check_count", .glo "choose", .glo "none_home", .glo "cycles", .glo "crossings", .glo "even", .glo "check_many", .glo "wrong_pairs", .glo "at_home", .glo "rings", .glo "tops", .glo "best_chance", .glo "best_skipped", .glo "longest_rise"]
def fa1 : List He.Fa := [.glo "rise_spread", .glo "same_ring", .glo "all_found", .glo "_law_flat", .glo "_law_dice", .glo "_law_roll", .glo "_law_orders", .glo "_law_rings", .glo "_law_rounds", .glo "_law_told", .glo "law", .glo "ChanceFault", .glo "BadPart", .glo "BadSpread", .glo "BadTree", .glo "BadPaper", .glo "BadSize", .glo "BadText", .glo "BadStore", .glo "NoChance"]
def fa2 : List He.Fa := [.glo "NoSuch", .glo "NOUGHT", .glo "ONE", .free "range", .free "len", .free "sum", .free "max", .free "tuple", .free "sorted", .free "min", .free "int", .free "dict", .free "enumerate", .free "abs", .free "list", .exc "BadPart", .exc "BadSize", .exc "BadSpread", .glo "Spread", .cls "Spread"]
def fa3 : List He.Fa := [.noat "Spread" "weights", .noat "Spread" "whole", .meth "Spread" "numbers", .mkr "Spread", .meth "Spread" "shown"]
def fa : List He.Fa := fa0 ++ fa1 ++ fa2 ++ fa3
def ex (K : PySem.W.Frag) : Bool := exTold K && (tpB K "NOUGHT" [0, 1] && (tpB K "ONE" [1, 1] && (bfB K "gcd" "math.gcd" && (bfB K "comb" "math.comb" && (tyNB K "defaultdict" "collections.defaultdict" && (tyNB K "permutations" "itertools.permutations"))))))
abbrev RWL : PySem.W.OpenLaw := PySem.Challenge.rw_luckwright_k10_orders_by_luck
abbrev RR : PySem.W.OpenRow := PySem.W.OpenLaw.row RWL
abbrev tf : List He.Defn := [(("law" : Str), none)]
def loose0 : List Str := ["_wall", "ChanceFault", "BadPart", "BadSpread", "BadTree", "BadPaper", "BadSize", "BadText", "BadStore", "NoChance", "NoSuch", "NOUGHT", "ONE", "shared", "part", "plus", "minus", "times", "is_less", "check_count"]
def loose1 : List Str := ["choose", "none_home", "cycles", "crossings", "Spread", "even", "check_many", "wrong_pairs", "at_home", "rings", "tops", "best_chance", "best_skipped", "longest_rise", "rise_spread", "same_ring", "all_found", "_law_flat", "_law_dice", "_law_roll"]
def loose2 : List Str := ["_law_rounds", "_law_told", "_law_orders", "_law_rings"]
def loose : List Str := loose0 ++ loose1 ++ loose2
theorem facts {w : World} {K : PySem.W.Frag} {h : Heap} {mg : Str → Option Value} {f0 : Addr} (X : K.In h) (G : h.Ns mainGlobals mg) (hfa : mg ("law" : Str) = some (.ref f0)) (c : He.SaysX fa fn [] tf ex w h K)
    (h0 : ∃ e, m_law_rounds [none, some (.sh (.int 1)), some (.sh (.list [])), none] = .rt e (.list [.list (intsD (diceOf 0))])) (h1 : ∀ z, ∃ e, m_law_rounds [none, some (.sh (.int 1)), some (.sh (.list [.int z])), none] = .rt e (.list [.list (intsD (diceOf z))]))
    (hm : ∀ z, Builtin.Int.intBits z ≤ 1048576 → ∃ e, m_law (startL 19 (diceOf z)) = .nx e ∧ e.length = 19) : LamX.LawAtS RWL w K (L2.CX RWL.prog w) 9 63 "script" mg f0 h := by
  obtain ⟨d_shared, D_shared⟩ := c.t.d.def_ 0 (d := defOf "shared" s_shared []) rfl
  obtain ⟨d_part, D_part⟩ := c.t.d.def_ 1 (d := defOf "part" s_part [.int 1]) rfl
  obtain ⟨d_plus, D_plus⟩ := c.t.d.def_ 2 (d := defOf "plus" s_plus []) rfl
  obtain ⟨d_minus, D_minus⟩ := c.t.d.def_ 3 (d := defOf "minus" s_minus []) rfl
  obtain ⟨d_times, D_times⟩ := c.t.d.def_ 4 (d := defOf "times" s_times []) rfl
  obtain ⟨d_is_less, D_is_less⟩ := c.t.d.def_ 5 (d := defOf "is_less" s_is_less []) rfl
  obtain ⟨d_check_count, D_check_count⟩ := c.t.d.def_ 6 (d := defOf "check_count" s_check_count []) rfl
  obtain ⟨d_choose, D_choose⟩ := c.t.d.def_ 7 (d := defOf "choose" s_choose []) rfl
  obtain ⟨d_none_home, D_none_home⟩ := c.t.d.def_ 8 (d := defOf "none_home" s_none_home []) rfl
  obtain ⟨d_cycles, D_cycles⟩ := c.t.d.def_ 9 (d := defOf "cycles" s_cycles []) rfl
  obtain ⟨d_crossings, D_crossings⟩ := c.t.d.def_ 10 (d := defOf "crossings" s_crossings []) rfl
  obtain ⟨d_Spread_init, D_Spread_init⟩ := c.t.d.def_ 11 (d := defOfM "Spread" "__init__" "Spread.__init__" s_Spread_init []) rfl
  obtain ⟨d_Spread_numbers, D_Spread_numbers⟩ := c.t.d.def_ 12 (d := defOfM "Spread" "numbers" "Spread.numbers" s_Spread_numbers []) rfl
  obtain ⟨d_Spread_shown, D_Spread_shown⟩ := c.t.d.def_ 13 (d := defOfM "Spread" "shown" "Spread.shown" s_Spread_shown []) rfl
  obtain ⟨d_even, D_even⟩ := c.t.d.def_ 14 (d := defOf "even" s_even []) rfl
  obtain ⟨d_check_many, D_check_many⟩ := c.t.d.def_ 15 (d := defOf "check_many" s_check_many []) rfl
  obtain ⟨d_wrong_pairs, D_wrong_pairs⟩ := c.t.d.def_ 16 (d := defOf "wrong_pairs" s_wrong_pairs []) rfl
  obtain ⟨d_at_home, D_at_home⟩ := c.t.d.def_ 17 (d := defOf "at_home" s_at_home []) rfl
  obtain ⟨d_rings, D_rings⟩ := c.t.d.def_ 18 (d := defOf "rings" s_rings []) rfl
  obtain ⟨d_tops, D_tops⟩ := c.t.d.def_ 19 (d := defOf "tops" s_tops []) rfl
  obtain ⟨d_best_chance, D_best_chance⟩ := c.t.d.def_ 20 (d := defOf "best_chance" s_best_chance []) rfl
  obtain ⟨d_best_skipped, D_best_skipped⟩ := c.t.d.def_ 21 (d := defOf "best_skipped" s_best_skipped []) rfl
  obtain ⟨d_longest_rise, D_longest_rise⟩ := c.t.d.def_ 22 (d := defOf "longest_rise" s_longest_rise []) rfl
  obtain ⟨d_rise_spread, D_rise_spread⟩ := c.t.d.def_ 23 (d := defOf "rise_spread" s_rise_spread []) rfl
  obtain ⟨d_same_ring, D_same_ring⟩ := c.t.d.def_ 24 (d := defOf "same_ring" s_same_ring []) rfl
  obtain ⟨d_all_found, D_all_found⟩ := c.t.d.def_ 25 (d := defOf "all_found" s_all_found []) rfl
  obtain ⟨d_law_flat, D_law_flat⟩ := c.t.d.def_ 26 (d := defOf "_law_flat" s_law_flat []) rfl
  obtain ⟨d_law_dice, D_law_dice⟩ := c.t.d.def_ 27 (d := defOf "_law_dice" s_law_dice []) rfl
  obtain ⟨d_law_roll, D_law_roll⟩ := c.t.d.def_ 28 (d := defOf "_law_roll" s_law_roll []) rfl
  obtain ⟨d_law_orders, D_law_orders⟩ := c.t.d.def_ 29 (d := defOf "_law_orders" s_law_orders []) rfl
  obtain ⟨d_law_rings, D_law_rings⟩ := c.t.d.def_ 30 (d := defOf "_law_rings" s_law_rings []) rfl
  obtain ⟨d_law_rounds, D_law_rounds⟩ := c.t.d.def_ 31 (d := defOf "_law_rounds" s_law_rounds []) rfl
  obtain ⟨d_law_told, D_law_told⟩ := c.t.d.def_ 32 (d := defOf "_law_told" s_law_told []) rfl
  obtain ⟨d_law, D_law⟩ := c.t.d.def_ 33 (d := defOf "law" s_law []) rfl
  have e0 := hfa.symm.trans (He.glo_ok X G (c.t.d.fact 30 (f := .glo "law") rfl))
  cases e0
  have cm := c.more
  obtain ⟨c_0, cm⟩ := He.ba cm
  obtain ⟨c_1, cm⟩ := He.ba cm
  obtain ⟨c_2, cm⟩ := He.ba cm
  obtain ⟨c_3, cm⟩ := He.ba cm
  obtain ⟨c_4, cm⟩ := He.ba cm
  obtain ⟨c_5, cm⟩ := He.ba cm
  have c_6 := cm
  obtain ⟨c1, hc⟩ : ∃ c1, d_law.code = .ref c1 := by
    obtain ⟨oc, od, dV, kV, doc, pm, an, cdv, ct, osl, e, lk, hcd, _, _⟩ := D_law.ex
    obtain ⟨c1, e1⟩ := He.codeIn_ref hcd
    exact ⟨c1, by rw [e]; exact e1⟩
  have ec : He.codeOf K (("law" : Str), none) = c1 := by
    obtain ⟨oc, od, dV, kV, doc, pm, an, cdv, ct, osl, e, lk, hcd, _, _⟩ := D_law.ex
    exact He.codeOf_eq lk hc
  have mem : (("law" : Str), (none : Option Str)) ∈ tf := List.mem_singleton.mpr rfl
  have b : Binds K d_law ["script"] [] := FunD.bindsN D_law fun _ _ _ _ _ _ us hl => match us, hl with | [_], _ => rfl
  have bA := FunD.bindsA (ps := ["script"]) D_law fun _ _ _ _ _ _ us hl => match us, hl with | [_], _ => rfl
  refine ⟨d_law, [He.cT K (("law" : Str), none)], spLaw K (C9 K (He.cT K (("law" : Str), none)).2), fun p hp => ?_, fun p hp => ?_, fun p hp => ?_, fun s u => bA s [u] rfl, fun H a ns _ hb hT hS => ⟨a, ns, rfl, hb, tabs0 (hT _ (List.mem_singleton.mpr rfl)), hS, fun _ => rfl⟩, fun base Xb Gb hTB => ?_⟩
  · rw [List.mem_singleton.mp hp]; exact c.empty _ mem
  · rw [List.mem_singleton.mp hp]; exact c.out _ mem
  · rw [List.mem_singleton.mp hp]; exact PySem.W.codeHd_of_K X (c.hd _ mem)
  have TB := hTB _ (List.mem_singleton.mpr rfl)
  rw [show (He.cT K (("law" : Str), none)).1 = c1 from ec] at TB
  generalize hPt : (He.cT K (("law" : Str), none)).2 = Pt at TB ⊢
  have X_BadPart : ExI K mg (C9 K Pt) "BadPart" 1 := exi9 X G (c.t.d.fact 32 (f := .glo "BadPart") rfl) (c.t.d.fact 55 (f := .exc "BadPart") rfl) rfl
  have X_BadSize : ExI K mg (C9 K Pt) "BadSize" 5 := exi9 X G (c.t.d.fact 36 (f := .glo "BadSize") rfl) (c.t.d.fact 56 (f := .exc "BadSize") rfl) rfl
  have X_BadSpread : ExI K mg (C9 K Pt) "BadSpread" 2 := exi9 X G (c.t.d.fact 33 (f := .glo "BadSpread") rfl) (c.t.d.fact 57 (f := .exc "BadSpread") rfl) rfl
  have n_range := He.free_ok X G (c.t.d.fact 43 (f := .free "range") rfl)
  have n_len := He.free_ok X G (c.t.d.fact 44 (f := .free "len") rfl)
  have n_sum := He.free_ok X G (c.t.d.fact 45 (f := .free "sum") rfl)
  have n_max := He.free_ok X G (c.t.d.fact 46 (f := .free "max") rfl)
  have n_tuple := He.free_ok X G (c.t.d.fact 47 (f := .free "tuple") rfl)
  have n_sorted := He.free_ok X G (c.t.d.fact 48 (f := .free "sorted") rfl)
  have n_min := He.free_ok X G (c.t.d.fact 49 (f := .free "min") rfl)
  have n_int := He.free_ok X G (c.t.d.fact 50 (f := .free "int") rfl)
  have n_dict := He.free_ok X G (c.t.d.fact 51 (f := .free "dict") rfl)
  have n_enumerate := He.free_ok X G (c.t.d.fact 52 (f := .free "enumerate") rfl)
  have n_abs := He.free_ok X G (c.t.d.fact 53 (f := .free "abs") rfl)
  have n_list := He.free_ok X G (c.t.d.fact 54 (f := .free "list") rfl)
  have b_gcd := bfB_ok X G c_3
  have b_comb := bfB_ok X G c_4
  have ty_defaultdict := tyNB_ok X G c_5
  have ty_permutations := tyNB_ok X G c_6
  have c_Spread := (c.t.d.fact 59 (f := .cls "Spread") rfl)
  have na_Spread_weights := (c.t.d.fact 60 (f := .noat "Spread" "weights") rfl)
  have na_Spread_whole := (c.t.d.fact 61 (f := .noat "Spread" "whole") rfl)
  have me_Spread_numbers := (c.t.d.fact 62 (f := .meth "Spread" "numbers") rfl)
  have mk_Spread := (c.t.d.fact 63 (f := .mkr "Spread") rfl)
  have cg_Spread := (He.glo_ok X G (c.t.d.fact 58 (f := .glo "Spread") rfl))
  have me_Spread_shown := (c.t.d.fact 64 (f := .meth "Spread" "shown") rfl)
  have t_NOUGHT : TupK K (He.ga K "NOUGHT") (intsD [0, 1]) := tup_ints c_1
  have g_NOUGHT := (He.glo_ok X G (c.t.d.fact 41 (f := .glo "NOUGHT") rfl))
  have t_ONE : TupK K (He.ga K "ONE") (intsD [1, 1]) := tup_ints c_2
  have g_ONE := (He.glo_ok X G (c.t.d.fact 42 (f := .glo "ONE") rfl))
  have F_shared := ok_shared (P := RWL.prog) (w := w) (base := base) (C := C9 K Pt) D_shared (He.glo_ok X G (c.t.d.fact 0 (f := .glo "shared") rfl)) b_gcd
  have F_part := ok_part (P := RWL.prog) (w := w) (base := base) (C := C9 K Pt) D_part (He.glo_ok X G (c.t.d.fact 1 (f := .glo "part") rfl)) F_shared X_BadPart
  have F_plus := ok_plus (P := RWL.prog) (w := w) (base := base) (C := C9 K Pt) D_plus (He.glo_ok X G (c.t.d.fact 2 (f := .glo "plus") rfl)) F_part
  have F_minus := ok_minus (P := RWL.prog) (w := w) (base := base) (C := C9 K Pt) D_minus (He.glo_ok X G (c.t.d.fact 3 (f := .glo "minus") rfl)) F_part
  have F_times := ok_times (P := RWL.prog) (w := w) (base := base) (C := C9 K Pt) D_times (He.glo_ok X G (c.t.d.fact 4 (f := .glo "times") rfl)) F_part
  have F_is_less := ok_is_less (P := RWL.prog) (w := w) (base := base) (C := C9 K Pt) D_is_less (He.glo_ok X G (c.t.d.fact 5 (f := .glo "is_less") rfl)) F_minus
  have F_check_count := ok_check_count (P := RWL.prog) (w := w) (base := base) (C := C9 K Pt) D_check_count (He.glo_ok X G (c.t.d.fact 6 (f := .glo "check_count") rfl)) X_BadSize
  have F_choose := ok_choose (P := RWL.prog) (w := w) (base := base) (C := C9 K Pt) D_choose (He.glo_ok X G (c.t.d.fact 7 (f := .glo "choose") rfl)) F_check_count b_comb
  have F_none_home := ok_none_home (P := RWL.prog) (w := w) (base := base) (C := C9 K Pt) D_none_home (He.glo_ok X G (c.t.d.fact 8 (f := .glo "none_home") rfl)) F_check_count n_range
  have F_cycles := ok_cycles (P := RWL.prog) (w := w) (base := base) (C := C9 K Pt) D_cycles (He.glo_ok X G (c.t.d.fact 9 (f := .glo "cycles") rfl)) F_check_count n_range
  have F_crossings := ok_crossings (P := RWL.prog) (w := w) (base := base) (C := C9 K Pt) D_crossings (He.glo_ok X G (c.t.d.fact 10 (f := .glo "crossings") rfl)) F_check_count n_range n_len n_sum n_max n_tuple
  have F_Spread_init := ok_Spread_init (P := RWL.prog) (w := w) (base := base) (C := C9 K Pt) D_Spread_init  F_shared X_BadSpread n_sorted n_min n_sum c_Spread na_Spread_weights na_Spread_whole
  have F_Spread_numbers := ok_Spread_numbers (P := RWL.prog) (w := w) (base := base) (C := C9 K Pt) D_Spread_numbers  n_tuple n_sorted c_Spread na_Spread_weights
  have F_Spread_shown := ok_Spread_shown (P := RWL.prog) (w := w) (base := base) (C := C9 K Pt) D_Spread_shown  F_Spread_numbers n_tuple c_Spread na_Spread_whole me_Spread_numbers na_Spread_weights
  have F_even := ok_even (P := RWL.prog) (w := w) (base := base) (C := C9 K Pt) D_even (He.glo_ok X G (c.t.d.fact 11 (f := .glo "even") rfl)) F_Spread_init n_int n_dict ty_defaultdict mk_Spread cg_Spread
  have F_check_many := ok_check_many (P := RWL.prog) (w := w) (base := base) (C := C9 K Pt) D_check_many (He.glo_ok X G (c.t.d.fact 12 (f := .glo "check_many") rfl)) X_BadSize
  have F_wrong_pairs := ok_wrong_pairs (P := RWL.prog) (w := w) (base := base) (C := C9 K Pt) D_wrong_pairs (He.glo_ok X G (c.t.d.fact 13 (f := .glo "wrong_pairs") rfl)) F_Spread_init F_crossings F_check_many n_dict n_enumerate mk_Spread cg_Spread
  have F_at_home := ok_at_home (P := RWL.prog) (w := w) (base := base) (C := C9 K Pt) D_at_home (He.glo_ok X G (c.t.d.fact 14 (f := .glo "at_home") rfl)) F_check_many F_Spread_init F_choose F_none_home n_range mk_Spread cg_Spread
  have F_rings := ok_rings (P := RWL.prog) (w := w) (base := base) (C := C9 K Pt) D_rings (He.glo_ok X G (c.t.d.fact 15 (f := .glo "rings") rfl)) F_check_many F_Spread_init F_cycles n_range mk_Spread cg_Spread
  have F_tops := ok_tops (P := RWL.prog) (w := w) (base := base) (C := C9 K Pt) D_tops (He.glo_ok X G (c.t.d.fact 16 (f := .glo "tops") rfl)) F_rings
  have F_best_chance := ok_best_chance (P := RWL.prog) (w := w) (base := base) (C := C9 K Pt) D_best_chance (He.glo_ok X G (c.t.d.fact 17 (f := .glo "best_chance") rfl)) F_check_many F_part F_plus X_BadSize n_range g_NOUGHT t_NOUGHT
  have F_best_skipped := ok_best_skipped (P := RWL.prog) (w := w) (base := base) (C := C9 K Pt) D_best_skipped (He.glo_ok X G (c.t.d.fact 18 (f := .glo "best_skipped") rfl)) F_check_many F_plus F_part F_is_less n_range g_NOUGHT t_NOUGHT g_ONE t_ONE
  have F_longest_rise := ok_longest_rise (P := RWL.prog) (w := w) (base := base) (C := C9 K Pt) D_longest_rise (He.glo_ok X G (c.t.d.fact 19 (f := .glo "longest_rise") rfl)) n_len
  have F_rise_spread := ok_rise_spread (P := RWL.prog) (w := w) (base := base) (C := C9 K Pt) D_rise_spread (He.glo_ok X G (c.t.d.fact 20 (f := .glo "rise_spread") rfl)) F_check_many F_even F_longest_rise X_BadSize n_range ty_permutations
  have F_same_ring := ok_same_ring (P := RWL.prog) (w := w) (base := base) (C := C9 K Pt) D_same_ring (He.glo_ok X G (c.t.d.fact 21 (f := .glo "same_ring") rfl)) F_part X_BadSize
  have F_all_found := ok_all_found (P := RWL.prog) (w := w) (base := base) (C := C9 K Pt) D_all_found (He.glo_ok X G (c.t.d.fact 22 (f := .glo "all_found") rfl)) F_check_many F_minus F_times F_part X_BadSize n_range g_ONE t_ONE g_NOUGHT t_NOUGHT
  have F_law_flat := ok_law_flat (P := RWL.prog) (w := w) (base := base) (C := C9 K Pt) D_law_flat (He.glo_ok X G (c.t.d.fact 23 (f := .glo "_law_flat") rfl)) 
  have F_law_dice := ok_law_dice (P := RWL.prog) (w := w) (base := base) (C := C9 K Pt) D_law_dice (He.glo_ok X G (c.t.d.fact 24 (f := .glo "_law_dice") rfl)) n_abs n_int
  have F_law_roll := ok_law_roll (P := RWL.prog) (w := w) (base := base) (C := C9 K Pt) D_law_roll (He.glo_ok X G (c.t.d.fact 25 (f := .glo "_law_roll") rfl)) n_int
  have F_law_orders := ok_law_orders (P := RWL.prog) (w := w) (base := base) (C := C9 K Pt) D_law_orders (He.glo_ok X G (c.t.d.fact 26 (f := .glo "_law_orders") rfl)) F_law_flat n_range
  have F_law_rings := ok_law_rings (P := RWL.prog) (w := w) (base := base) (C := C9 K Pt) D_law_rings (He.glo_ok X G (c.t.d.fact 27 (f := .glo "_law_rings") rfl)) n_list n_range n_len
  have FR := ok_law_rounds (P := RWL.prog) (w := w) (mg := mg) (base := base) (C := C9 K Pt) D_law_rounds F_law_dice h0 h1
  have bR : Binds K d_law_rounds ["script", "most"] [] := FunD.bindsN D_law_rounds fun _ _ _ _ _ _ us hl => match us, hl with | [_, _], _ => rfl
  have T : ToldI RWL.prog w K mg base (C9 K Pt) := ⟨lT9 K, _, d_law_told, toldL9 c_0, (He.glo_ok X G (c.t.d.fact 29 (f := .glo "_law_told") rfl)), D_law_told, fun cdg A outer s H => (.cons ⟨rfl, rfl, .inl (He.glo_ok X G (c.t.d.fact 32 (f := .glo "BadPart") rfl))⟩ (fun _ _ _ _ _ _ _ => pss_one (ps_ret pe_str)) (.cons ⟨rfl, rfl, .inl (He.glo_ok X G (c.t.d.fact 33 (f := .glo "BadSpread") rfl))⟩ (fun _ _ _ _ _ _ _ => pss_one (ps_ret pe_str)) (.cons ⟨rfl, rfl, .inl (He.glo_ok X G (c.t.d.fact 34 (f := .glo "BadTree") rfl))⟩ (fun _ _ _ _ _ _ _ => pss_one (ps_ret pe_str)) (.cons ⟨rfl, rfl, .inl (He.glo_ok X G (c.t.d.fact 35 (f := .glo "BadPaper") rfl))⟩ (fun _ _ _ _ _ _ _ => pss_one (ps_ret pe_str)) (.cons ⟨rfl, rfl, .inl (He.glo_ok X G (c.t.d.fact 36 (f := .glo "BadSize") rfl))⟩ (fun _ _ _ _ _ _ _ => pss_one (ps_ret pe_str)) (.cons ⟨rfl, rfl, .inl (He.glo_ok X G (c.t.d.fact 37 (f := .glo "BadText") rfl))⟩ (fun _ _ _ _ _ _ _ => pss_one (ps_ret pe_str)) (.cons ⟨rfl, rfl, .inl (He.glo_ok X G (c.t.d.fact 38 (f := .glo "BadStore") rfl))⟩ (fun _ _ _ _ _ _ _ => pss_one (ps_ret pe_str)) (.cons ⟨rfl, rfl, .inl (He.glo_ok X G (c.t.d.fact 39 (f := .glo "NoChance") rfl))⟩ (fun _ _ _ _ _ _ _ => pss_one (ps_ret pe_str)) (.cons ⟨rfl, rfl, .inl (He.glo_ok X G (c.t.d.fact 40 (f := .glo "NoSuch") rfl))⟩ (fun _ _ _ _ _ _ _ => pss_one (ps_ret pe_str)) .nil)))))))))⟩
  exact ok_law D_law hc F_law_roll F_law_orders F_Spread_shown F_wrong_pairs F_even F_law_flat F_check_many F_at_home F_tops F_rings F_law_rings F_longest_rise F_rise_spread F_part F_best_chance F_best_skipped F_is_less F_all_found F_same_ring n_len n_range n_max n_list n_int c_Spread me_Spread_shown T TB rfl FR (He.glo_ok X G (c.t.d.fact 28 (f := .glo "_law_rounds") rfl)) D_law_rounds.kp bR hm
end K10

namespace K10
open PySem PySem.Spec PyProof.Rows L2 LW
abbrev hk : PySem.W.Hook := He.hookX 4 fa fn [] tf ex
def ob (s : PySem.W.SharedT) : He.AlX := He.obsX 4 fa fn [] tf ex (HandSHeadRun.getT s)
theorem ob_eq (s : PySem.W.SharedT) : ob s = hk.obs s.abs := He.obsX_eq (HandSHeadRun.getT_eq s)
theorem run (w : World) : HandSHeadRun.RunEqI RR (PySem.W.view RR.prog [0, 1, 2, 53]) hk ob 4000 loose w := by
  unfold HandSHeadRun.RunEqI
  kernel_rfl
end K10

namespace LW
open PySem PySem.Spec PyProof.Rows L2
/-! ### a text run by rolls that are written down: what it does there it does for all dice that roll so -/
abbrev Path := List (Nat × Nat)
def pathD : Path → List PyData
  | [] => []
  | (m, r) :: p => .int (.ofNat m) :: .int (.ofNat r) :: pathD p
/-- three ints -/
def Valid (d : List PyData) : Prop := ∃ a b c : Int, d = [.int a, .int b, .int c]
/-- dice that roll so -/
def Rl (rr : RunM) : List PyData → Path → Prop
  | d, [] => Valid d
  | d, (m, r) :: p => Valid d ∧ ∃ d', rr d [.int (.ofNat m)] = .ok (d', .int (.ofNat r)) ∧ Rl rr d' p
theorem Rl.valid {rr : RunM} {d : List PyData} {p : Path} (h : Rl rr d p) : Valid d := by
  cases p with
  | nil => exact h
  | cons a p => exact h.1
def ieq : Int → Int → Bool
  | .ofNat a, .ofNat b => Nat.beq a b
  | .negSucc a, .negSucc b => Nat.beq a b
  | _, _ => false
theorem ieq_ok {a b : Int} (h : ieq a b = true) : a = b := by
  cases a <;> cases b <;> first | cases h | (exact congrArg _ (Nat.eq_of_beq_eq_true h))
/-- rolls as they are written down -/
def orc : RunM := fun cs ds => match cs with
  | .int (.ofNat m) :: .int (.ofNat r) :: rest => (match ds with
    | [.int n] => bif ieq (.ofNat m) n then .ok (rest, .int (.ofNat r)) else .stuck
    | _ => .stuck)
  | _ => .stuck
/-- a small state (with rolls written down) and a state that agrees with it -/
structure Sm (rr : RunM) (k : Nat) (e0 e : LEnv) : Prop where
  len : e0.length = e.length
  at_ : ∀ (i : Nat) s, i ≠ k → e0[i]? = some (some s) → e[i]? = some (some s)
  dc : ∀ s, e0[k]? = some (some s) → ∃ p d, s = .ow true (pathD p) ∧ e[k]? = some (some (.ow true d)) ∧ Rl rr d p
/-- what is not changed -/
structure Fr (k : Nat) (e e' : LEnv) : Prop where
  len : e'.length = e.length
  at_ : ∀ i : Nat, i ≠ k → e'[i]? = e[i]? ∨ ∃ m ds, e[i]? = some (some (.ow m ds))
theorem Fr.refl {k : Nat} (e : LEnv) : Fr k e e := ⟨rfl, fun _ _ => .inl rfl⟩
theorem Fr.trans {k : Nat} {a b c : LEnv} (h : Fr k a b) (h' : Fr k b c) : Fr k a c := ⟨h'.len.trans h.len, fun i hi => by
  rcases h.at_ i hi with e | e
  · rcases h'.at_ i hi with e' | ⟨m, ds, e'⟩
    · exact .inl (e'.trans e)
    · exact .inr ⟨m, ds, by rw [← e]; exact e'⟩
  · exact .inr e⟩
def SimR {α : Type} (rr : RunM) (k : Nat) (e0 e : LEnv) : RE α → RE α → Prop
  | .ok p, r => ∃ e', r = .ok (e', p.2) ∧ Sm rr k p.1 e' ∧ Fr k e0 p.1 ∧ Fr k e e'
  | .rai c, r => r = .rai c
  | .stuck, _ => True
section
variable {rr : RunM} {k : Nat} {α β : Type} {e0 e : LEnv}
theorem SimR.bind {r r' : RE α} {f0 f : LEnv × α → RE β} (h : SimR rr k e0 e r r') (hf : ∀ a b0 b, Sm rr k b0 b → SimR rr k b0 b (f0 (b0, a)) (f (b, a))) : SimR rr k e0 e (r.bind f0) (r'.bind f) := by
  cases r with
  | ok p =>
    obtain ⟨p0, a⟩ := p
    obtain ⟨e', h1, h2, h3, h4⟩ := h
    subst h1
    have h2 : Sm rr k p0 e' := h2
    have h5 := hf a p0 e' h2
    show SimR rr k e0 e (f0 (p0, a)) (f (e', a))
    cases q : f0 (p0, a) with
    | ok z =>
      rw [q] at h5
      obtain ⟨e2, g1, g2, g3, g4⟩ := h5
      exact ⟨e2, g1, g2, h3.trans g3, h4.trans g4⟩
    | rai c => rw [q] at h5; exact h5
    | stuck => trivial
  | rai c =>
    have h : r' = .rai c := h
    subst h
    exact (rfl : (R.rai c : RE β) = _)
  | stuck => trivial
theorem SimR.ok (S : Sm rr k e0 e) (a : α) : SimR rr k e0 e (.ok (e0, a)) (.ok (e, a)) := ⟨e, rfl, S, .refl _, .refl _⟩
theorem SimR.lif (S : Sm rr k e0 e) (r : R α) : SimR rr k e0 e (lif e0 r) (lif e r) := by
  cases r with
  | ok a => exact .ok S a
  | rai c => exact (rfl : (R.rai c : RE α) = _)
  | stuck => trivial
theorem SimR.gd {c : Bool} {r r' : RE α} (h : SimR rr k e0 e r r') : SimR rr k e0 e (gd c r) (gd c r') := by
  cases c with
  | true => exact h
  | false => trivial
theorem SimR.noRai {r r' : RE α} (h : SimR rr k e0 e r r') : SimR rr k e0 e (noRai r) (noRai r') := by
  cases r with
  | ok p => obtain ⟨e', h1, h2⟩ := h; subst h1; exact ⟨e', rfl, h2⟩
  | rai c => trivial
  | stuck => trivial
theorem Sm.set (S : Sm rr k e0 e) {i : Nat} (hi : i ≠ k) (x : Option Sl) : Sm rr k (e0.set i x) (e.set i x) where
  len := by rw [List.length_set, List.length_set, S.len]
  at_ := fun j s hj q => by
    by_cases z : i = j
    · subst z
      by_cases hl : i < e0.length
      · rw [List.getElem?_set_self hl] at q
        rw [List.getElem?_set_self (by rw [← S.len]; exact hl)]; exact q
      · rw [List.getElem?_eq_none (by rw [List.length_set]; omega)] at q; cases q
    · rw [List.getElem?_set_ne z] at q ⊢; exact S.at_ j s hj q
  dc := fun s q => by
    rw [List.getElem?_set_ne hi] at q ⊢
    exact S.dc s q
theorem Sm.drop (S : Sm rr k e0 e) (i : Nat) (x : Option Sl) : Sm rr k (e0.set i none) (e.set i x) := by
  have g : ∀ (j : Nat) s, (e0.set i none)[j]? = some (some s) → i ≠ j ∧ e0[j]? = some (some s) := fun j s q => by
    by_cases z : i = j
    · subst z
      by_cases hl : i < e0.length
      · rw [List.getElem?_set_self hl] at q; cases q
      · rw [List.getElem?_eq_none (by rw [List.length_set]; omega)] at q; cases q
    · rw [List.getElem?_set_ne z] at q; exact ⟨z, q⟩
  exact {
    len := by rw [List.length_set, List.length_set, S.len]
    at_ := fun j s hj q => by
      obtain ⟨z, q⟩ := g j s q
      rw [List.getElem?_set_ne z]; exact S.at_ j s hj q
    dc := fun s q => by
      obtain ⟨z, q⟩ := g k s q
      rw [List.getElem?_set_ne z]; exact S.dc s q }
theorem Sm.wipe (S : Sm rr k e0 e) : ∀ vs, Sm rr k (wipeE e0 vs) (wipeE e vs)
  | [] => S
  | v :: vs => (Sm.wipe S vs).drop v none
theorem wipeE_length (e : LEnv) : ∀ vs, (wipeE e vs).length = e.length
  | [] => rfl
  | v :: vs => by unfold wipeE; rw [List.length_set, wipeE_length e vs]
end
class NeK (k i : Nat) : Prop where
  ne : i ≠ k
/-- expressions -/
class Sim (rr : RunM) (k : Nat) {α : Type} (f0 f : LEnv → RE α) : Prop where
  run : ∀ e0 e, Sm rr k e0 e → SimR rr k e0 e (f0 e0) (f e)
def RunR (rr : RunM) : R (List PyData × PyData) → R (List PyData × PyData) → Prop
  | .ok z, r => ∃ p' d', z.1 = pathD p' ∧ r = .ok (d', z.2) ∧ Rl rr d' p'
  | .rai c, r => r = .rai c
  | .stuck, _ => True
/-- a def that is handed the dice -/
class RSim (rr : RunM) (run0 run : RunM) : Prop where
  run : ∀ p d ds, Rl rr d p → RunR rr (run0 (pathD p) ds) (run d ds)
instance (rr : RunM) : RSim rr orc rr := ⟨fun p d ds h => by
  cases p with
  | nil => exact trivial
  | cons a p =>
    obtain ⟨m, r⟩ := a
    obtain ⟨_, d', h1, h2⟩ := h
    match ds with
    | [.int n] =>
      show RunR rr (bif ieq (.ofNat m) n then R.ok (pathD p, PyData.int (.ofNat r)) else .stuck) _
      cases c : ieq (.ofNat m) n with
      | true =>
        have e := ieq_ok c
        subst e
        exact ⟨p, d', rfl, h1, h2⟩
      | false => exact trivial
    | [] => exact trivial
    | [.none] => exact trivial
    | [.bool _] => exact trivial
    | [.str _] => exact trivial
    | [.list _] => exact trivial
    | [.tuple _] => exact trivial
    | [.dict _] => exact trivial
    | a :: _ :: _ => cases a <;> exact trivial⟩
section
variable {rr : RunM} {k : Nat} {f0 f g0 g h0 h : M} {a0 a b0 b : MA} {t0 t u0 u : MT} {e0 e : LEnv}
instance sim_c {d : PyData} : Sim rr k (mC d) (mC d) := ⟨fun e0 e S => .ok S d⟩
instance sim_var {i : Nat} : Sim rr k (mVar i) (mVar i) := ⟨fun e0 e S => by
  unfold mVar
  rw [nth_eq, nth_eq]
  cases q : e0[i]? with
  | none => trivial
  | some o =>
    cases o with
    | none => trivial
    | some s =>
      cases s with
      | ow m ds => trivial
      | sh d =>
        by_cases z : i = k
        · subst z
          obtain ⟨p, d', h1, _⟩ := S.dc _ q
          cases h1
        · rw [S.at_ i _ z q]; exact .ok S d⟩
instance sim_op {op : PyData → PyData → R PyData} [Sim rr k f0 f] [Sim rr k g0 g] : Sim rr k (mOp op f0 g0) (mOp op f g) := ⟨fun e0 e S => (Sim.run (f0 := f0) (f := f) e0 e S).bind fun _ _ _ S1 => (Sim.run (f0 := g0) (f := g) _ _ S1).bind fun _ _ _ S2 => .lif S2 _⟩
instance sim_un {op : PyData → R PyData} [Sim rr k f0 f] : Sim rr k (mUn op f0) (mUn op f) := ⟨fun e0 e S => (Sim.run (f0 := f0) (f := f) e0 e S).bind fun _ _ _ S1 => .lif S1 _⟩
instance sim_nil : Sim rr k maNil maNil := ⟨fun e0 e S => .ok S []⟩
instance sim_cons [Sim rr k f0 f] [Sim rr k a0 a] : Sim rr k (maCons f0 a0) (maCons f a) := ⟨fun e0 e S => (Sim.run (f0 := f0) (f := f) e0 e S).bind fun _ _ _ S1 => (Sim.run (f0 := a0) (f := a) _ _ S1).bind fun _ _ _ S2 => .ok S2 _⟩
instance sim_tup [Sim rr k a0 a] : Sim rr k (mTup a0) (mTup a) := ⟨fun e0 e S => (Sim.run (f0 := a0) (f := a) e0 e S).bind fun _ _ _ S1 => .gd (.ok S1 _)⟩
instance sim_lst [Sim rr k a0 a] : Sim rr k (mLst a0) (mLst a) := ⟨fun e0 e S => (Sim.run (f0 := a0) (f := a) e0 e S).bind fun _ _ _ S1 => .gd (.ok S1 _)⟩
instance sim_tB [Sim rr k f0 f] : Sim rr k (mtB f0) (mtB f) := ⟨fun e0 e S => (Sim.run (f0 := f0) (f := f) e0 e S).bind fun d _ _ S1 => by
  cases d with
  | bool b => exact .ok S1 b
  | _ => trivial⟩
instance sim_tru [Sim rr k f0 f] : Sim rr k (mtTru f0) (mtTru f) := ⟨fun e0 e S => (Sim.run (f0 := f0) (f := f) e0 e S).bind fun _ _ _ S1 => .lif S1 _⟩
instance sim_and [Sim rr k t0 t] [Sim rr k u0 u] : Sim rr k (mtAnd t0 u0) (mtAnd t u) := ⟨fun e0 e S => (Sim.run (f0 := t0) (f := t) e0 e S).bind fun b _ _ S1 => by
  cases b with
  | true => exact Sim.run (f0 := u0) (f := u) _ _ S1
  | false => exact .ok S1 _⟩
instance sim_or [Sim rr k t0 t] [Sim rr k u0 u] : Sim rr k (mtOr t0 u0) (mtOr t u) := ⟨fun e0 e S => (Sim.run (f0 := t0) (f := t) e0 e S).bind fun b _ _ S1 => by
  cases b with
  | false => exact Sim.run (f0 := u0) (f := u) _ _ S1
  | true => exact .ok S1 _⟩
instance sim_not [Sim rr k t0 t] : Sim rr k (mtNot t0) (mtNot t) := ⟨fun e0 e S => (Sim.run (f0 := t0) (f := t) e0 e S).bind fun _ _ _ S1 => .ok S1 _⟩
instance sim_andV [Sim rr k f0 f] [Sim rr k g0 g] : Sim rr k (mAndV f0 g0) (mAndV f g) := ⟨fun e0 e S => (Sim.run (f0 := f0) (f := f) e0 e S).bind fun d _ _ S1 => by
  cases d with
  | bool b =>
    cases b with
    | true => exact Sim.run (f0 := g0) (f := g) _ _ S1
    | false => exact .ok S1 _
  | _ => trivial⟩
instance sim_if [Sim rr k t0 t] [Sim rr k f0 f] [Sim rr k g0 g] : Sim rr k (mIf t0 f0 g0) (mIf t f g) := ⟨fun e0 e S => (Sim.run (f0 := t0) (f := t) e0 e S).bind fun b _ _ S1 => by
  cases b with
  | true => exact Sim.run (f0 := f0) (f := f) _ _ S1
  | false => exact Sim.run (f0 := g0) (f := g) _ _ S1⟩
instance sim_chain {o o' : PyData → PyData → R PyData} [Sim rr k f0 f] [Sim rr k g0 g] [Sim rr k h0 h] : Sim rr k (mChain o o' f0 g0 h0) (mChain o o' f g h) := ⟨fun e0 e S => (Sim.run (f0 := f0) (f := f) e0 e S).bind fun _ _ _ S1 => (Sim.run (f0 := g0) (f := g) _ _ S1).bind fun _ _ _ S2 => (SimR.lif S2 _).bind fun z _ _ S3 => by
  cases z with
  | bool c =>
    cases c with
    | true => exact (Sim.run (f0 := h0) (f := h) _ _ S3).bind fun _ _ _ S4 => .lif S4 _
    | false => exact .ok S3 _
  | _ => trivial⟩
instance sim_ca {op : List PyData → R PyData} [Sim rr k a0 a] : Sim rr k (mCa op a0) (mCa op a) := ⟨fun e0 e S => (Sim.run (f0 := a0) (f := a) e0 e S).bind fun _ _ _ S1 => .lif S1 _⟩
instance sim_call {n : Nat} {run : List PyData → R PyData} [Sim rr k a0 a] : Sim rr k (mCall n run a0) (mCall n run a) := ⟨fun e0 e S => (Sim.run (f0 := a0) (f := a) e0 e S).bind fun _ _ _ S1 => .gd (.lif S1 _)⟩
instance sim_callStar {n : Nat} {run : List PyData → R PyData} [Sim rr k f0 f] : Sim rr k (mCallStar n run f0) (mCallStar n run f) := ⟨fun e0 e S => (Sim.run (f0 := f0) (f := f) e0 e S).bind fun d _ _ S1 => by
  cases q : seqOf d with
  | ok ds => simp only [q, LW.R.bind]; exact .gd (.lif S1 _)
  | rai c => simp only [q, LW.R.bind]; exact (rfl : (R.rai c : RE PyData) = _)
  | stuck => simp only [q, LW.R.bind]; trivial⟩
instance sim_miR {rg : List PyData → R (List PyData)} [Sim rr k a0 a] : Sim rr k (miR rg a0) (miR rg a) := ⟨fun e0 e S => (Sim.run (f0 := a0) (f := a) e0 e S).bind fun _ _ _ S1 => .lif S1 _⟩
instance sim_miSeq [Sim rr k f0 f] : Sim rr k (miSeq f0) (miSeq f) := ⟨fun e0 e S => (Sim.run (f0 := f0) (f := f) e0 e S).bind fun _ _ _ S1 => .lif S1 _⟩
instance sim_yes : Sim rr k mtYes mtYes := ⟨fun e0 e S => .ok S true⟩
instance sim_noPart : Sim rr k mNoPart mNoPart := ⟨fun e0 e S => .ok S none⟩
instance sim_part [Sim rr k f0 f] : Sim rr k (mPart f0) (mPart f) := ⟨fun e0 e S => (Sim.run (f0 := f0) (f := f) e0 e S).bind fun d _ _ S1 => by
  cases d with
  | int i => exact .ok S1 _
  | _ => trivial⟩
instance sim_sl {l0 l m0 m : MP} [Sim rr k f0 f] [Sim rr k l0 l] [Sim rr k m0 m] : Sim rr k (mSl f0 l0 m0) (mSl f l m) := ⟨fun e0 e S => (Sim.run (f0 := f0) (f := f) e0 e S).bind fun _ _ _ S1 => (Sim.run (f0 := l0) (f := l) _ _ S1).bind fun _ _ _ S2 => (Sim.run (f0 := m0) (f := m) _ _ S2).bind fun _ _ _ S3 => .lif S3 _⟩
instance sim_liR1 [Sim rr k f0 f] : Sim rr k (mLiR1 f0) (mLiR1 f) := ⟨fun e0 e S => (Sim.run (f0 := f0) (f := f) e0 e S).bind fun d _ _ S1 => by
  cases d with
  | int i => exact .gd (.ok S1 _)
  | _ => trivial⟩
instance sim_liR2 [Sim rr k f0 f] [Sim rr k g0 g] : Sim rr k (mLiR2 f0 g0) (mLiR2 f g) := ⟨fun e0 e S => (Sim.run (f0 := f0) (f := f) e0 e S).bind fun d _ _ S1 => (Sim.run (f0 := g0) (f := g) _ _ S1).bind fun d2 _ _ S2 => by
  cases d with
  | int i =>
    cases d2 with
    | int j => exact .gd (.ok S2 _)
    | _ => trivial
  | _ => cases d2 <;> trivial⟩
instance sim_cnt [Sim rr k f0 f] [Sim rr k g0 g] : Sim rr k (mCnt f0 g0) (mCnt f g) := ⟨fun e0 e S => (Sim.run (f0 := f0) (f := f) e0 e S).bind fun d _ _ S1 => by
  cases d with
  | list ds => exact (Sim.run (f0 := g0) (f := g) _ _ S1).bind fun _ _ _ S2 => .lif S2 _
  | _ => trivial⟩
instance sim_cntT [Sim rr k f0 f] [Sim rr k g0 g] : Sim rr k (mCntT f0 g0) (mCntT f g) := ⟨fun e0 e S => (Sim.run (f0 := f0) (f := f) e0 e S).bind fun d _ _ S1 => by
  cases d with
  | tuple ds => exact (Sim.run (f0 := g0) (f := g) _ _ S1).bind fun _ _ _ S2 => .lif S2 _
  | _ => trivial⟩
instance sim_sortKw {b : Bool} [Sim rr k f0 f] : Sim rr k (mSortKw b f0) (mSortKw b f) := ⟨fun e0 e S => (Sim.run (f0 := f0) (f := f) e0 e S).bind fun d b0 b1 S1 => by
  cases d with
  | list ds =>
    show SimR rr k b0 b1 (match intsOf ds with | some l => (R.ok (b0, PyData.list (intsD (sortB b l))) : RE PyData) | none => .stuck) (match intsOf ds with | some l => (R.ok (b1, PyData.list (intsD (sortB b l))) : RE PyData) | none => .stuck)
    cases intsOf ds with
    | some l => exact .ok S1 _
    | none => trivial
  | tuple ds =>
    show SimR rr k b0 b1 (match intsOf ds with | some l => (R.ok (b0, PyData.list (intsD (sortB b l))) : RE PyData) | none => .stuck) (match intsOf ds with | some l => (R.ok (b1, PyData.list (intsD (sortB b l))) : RE PyData) | none => .stuck)
    cases intsOf ds with
    | some l => exact .ok S1 _
    | none => trivial
  | _ => trivial⟩
end
end LW

namespace LW
open PySem PySem.Spec PyProof.Rows L2
section
variable {rr : RunM} {k : Nat} {f0 f g0 g h0 h : M} {a0 a b0 b : MA} {t0 t u0 u : MT} {e0 e : LEnv}
theorem forget_get {e : LEnv} {i : Nat} {d : PyData} (h : e[i]? = some (some (.sh d))) : (forgetOwn e)[i]? = some (some (.sh d)) := by
  unfold forgetOwn
  rw [List.getElem?_map, h]
  rfl
theorem Sm.forget (S : Sm rr k e0 e) : Sm rr k (forgetOwn e0) (forgetOwn e) where
  len := by unfold forgetOwn; rw [List.length_map, List.length_map, S.len]
  at_ := fun i s hi q => by
    obtain ⟨d, h1, h2⟩ := forgetOwn_get q
    subst h1
    exact forget_get (S.at_ i _ hi h2)
  dc := fun s q => by
    obtain ⟨d, h1, h2⟩ := forgetOwn_get q
    obtain ⟨p, d', h3, _⟩ := S.dc _ h2
    cases h3
instance sim_told {nm : Nat → Option Str} [Sim rr k f0 f] : Sim rr k (mTold nm f0) (mTold nm f) := ⟨fun e0 e S => by
  have h := Sim.run (f0 := f0) (f := f) _ _ S.forget
  unfold mTold
  cases q : f0 (forgetOwn e0) with
  | ok p =>
    rw [q] at h
    obtain ⟨e', h1, _⟩ := h
    rw [h1]
    exact .ok S _
  | rai c =>
    rw [q] at h
    have h : f (forgetOwn e) = .rai c := h
    rw [h]
    show SimR rr k e0 e (match nm c with | some s => (R.ok (e0, PyData.str s) : RE PyData) | none => .stuck) (match nm c with | some s => (R.ok (e, PyData.str s) : RE PyData) | none => .stuck)
    cases nm c with
    | some s => exact .ok S _
    | none => exact trivial
  | stuck => exact trivial⟩
theorem Sm.at_k (S : Sm rr k e0 e) {i : Nat} (hi : i ≠ k) {s : Sl} (q : e0[i]? = some (some s)) : nth e i = some (some s) := by rw [nth_eq]; exact S.at_ i s hi q
instance sim_ixV {i : Nat} [NeK k i] [Sim rr k f0 f] : Sim rr k (mIxV i f0) (mIxV i f) := ⟨fun e0 e S => by
  unfold mIxV
  rw [nth_eq e0]
  cases q : e0[i]? with
  | none => exact trivial
  | some o =>
    cases o with
    | none => exact trivial
    | some s =>
      rw [S.at_k NeK.ne q]
      refine (Sim.run (f0 := f0) (f := f) e0 e S).bind fun d b0 b S1 => ?_
      show SimR rr k b0 b (match nth b0 i with | some (some (.sh x)) => lif b0 (iIx x d) | some (some (.ow _ ds)) => (match d with | .int j => gd (isL ds) (lif b0 (ixD j ds)) | _ => .stuck) | _ => .stuck) (match nth b i with | some (some (.sh x)) => lif b (iIx x d) | some (some (.ow _ ds)) => (match d with | .int j => gd (isL ds) (lif b (ixD j ds)) | _ => .stuck) | _ => .stuck)
      rw [nth_eq b0]
      cases q2 : b0[i]? with
      | none => exact trivial
      | some o =>
        cases o with
        | none => exact trivial
        | some s2 =>
          rw [S1.at_k NeK.ne q2]
          cases s2 with
          | sh x => exact .lif S1 _
          | ow m ds =>
            cases d with
            | int j => exact .gd (.lif S1 _)
            | _ => exact trivial⟩
instance sim_inO {neg : Bool} {i : Nat} [NeK k i] [Sim rr k f0 f] : Sim rr k (mInO neg i f0) (mInO neg i f) := ⟨fun e0 e S => (Sim.run (f0 := f0) (f := f) e0 e S).bind fun d b0 b S1 => by
  show SimR rr k b0 b (match nth b0 i with | some (some (.ow _ ds)) => gd (isL ds) (lif b0 (iInF neg d (.list ds))) | _ => .stuck) (match nth b i with | some (some (.ow _ ds)) => gd (isL ds) (lif b (iInF neg d (.list ds))) | _ => .stuck)
  rw [nth_eq b0]
  cases q2 : b0[i]? with
  | none => exact trivial
  | some o =>
    cases o with
    | none => exact trivial
    | some s2 =>
      rw [S1.at_k NeK.ne q2]
      cases s2 with
      | sh x => exact trivial
      | ow m ds => exact .gd (.lif S1 _)⟩
theorem isL_path (p : Path) : isL (pathD p) = true := by
  cases p with
  | nil => rfl
  | cons a p => obtain ⟨m, r⟩ := a; rfl
theorem isL_valid {d : List PyData} (h : Valid d) : isL d = true := by
  obtain ⟨a, b, c, rfl⟩ := h
  rfl
instance sim_callM {n : Nat} {run0 run : RunM} [RSim rr run0 run] [Sim rr k a0 a] : Sim rr k (mCallM n run0 k a0) (mCallM n run k a) := ⟨fun e0 e S => by
  unfold mCallM
  rw [nth_eq, nth_eq]
  cases q : e0[k]? with
  | none => exact trivial
  | some o =>
    cases o with
    | none => exact trivial
    | some s =>
      obtain ⟨p, d, h1, h2, h3⟩ := S.dc s q
      subst h1
      rw [h2]
      refine (Sim.run (f0 := a0) (f := a) e0 e S).bind fun ds b0 b S1 => ?_
      show SimR rr k b0 b (match nth b0 k with | some (some (.ow m cs)) => gd (isL cs && Nat.beq ds.length n) ((run0 cs ds).bind fun z => .ok (b0.set k (some (.ow m z.1)), z.2)) | _ => .stuck) (match nth b k with | some (some (.ow m cs)) => gd (isL cs && Nat.beq ds.length n) ((run cs ds).bind fun z => .ok (b.set k (some (.ow m z.1)), z.2)) | _ => .stuck)
      rw [nth_eq, nth_eq]
      cases q2 : b0[k]? with
      | none => exact trivial
      | some o =>
        cases o with
        | none => exact trivial
        | some s2 =>
          obtain ⟨p2, d2, g1, g2, g3⟩ := S1.dc s2 q2
          subst g1
          rw [g2]
          dsimp only
          rw [isL_path p2, isL_valid g3.valid]
          refine .gd ?_
          have hk := RSim.run (run0 := run0) (run := run) p2 d2 ds g3
          cases qr : run0 (pathD p2) ds with
          | ok z =>
            rw [qr] at hk
            obtain ⟨p3, d3, k1, k2, k3⟩ := hk
            rw [k2]
            have hl0 : k < b0.length := (List.getElem?_eq_some_iff.mp q2).1
            have hl : k < b.length := (List.getElem?_eq_some_iff.mp g2).1
            refine ⟨b.set k (some (.ow true d3)), rfl, ?_, ?_, ?_⟩
            · exact {
                len := by show (b0.set k _).length = _; rw [List.length_set, List.length_set, S1.len]
                at_ := fun j s hj q => by
                  have q : (b0.set k (some (.ow true z.1)))[j]? = some (some s) := q
                  rw [List.getElem?_set_ne (fun w => hj w.symm)] at q ⊢
                  exact S1.at_ j s hj q
                dc := fun s q => by
                  have q : (b0.set k (some (.ow true z.1)))[k]? = some (some s) := q
                  rw [List.getElem?_set_self hl0] at q
                  have q := Option.some.inj (Option.some.inj q)
                  subst q
                  exact ⟨p3, d3, by rw [k1], List.getElem?_set_self hl, k3⟩ }
            · exact ⟨List.length_set .., fun j hj => .inl (List.getElem?_set_ne (fun w => hj w.symm))⟩
            · exact ⟨List.length_set .., fun j hj => .inl (List.getElem?_set_ne (fun w => hj w.symm))⟩
          | rai c =>
            rw [qr] at hk
            have hk : run d2 ds = .rai c := hk
            rw [hk]
            exact (rfl : (R.rai c : RE PyData) = _)
          | stuck => exact trivial⟩
/-! targets -/
def BR (rr : RunM) (k : Nat) : R LEnv → R LEnv → Prop
  | .ok p, r => ∃ e', r = .ok e' ∧ Sm rr k p e' ∧ p.length = e'.length
  | _, _ => True
/-- the slots of a target -/
class BSim (rr : RunM) (k : Nat) (b : Bi) (is : outParam (List Nat)) : Prop where
  run : ∀ d e0 e, Sm rr k e0 e → BR rr k (b d e0) (b d e)
  out : ∀ d e e', b d e = .ok e' → e'.length = e.length ∧ ∀ j : Nat, j ∉ is → e'[j]? = e[j]?
class BSims (rr : RunM) (k : Nat) (b : BiA) (is : outParam (List Nat)) : Prop where
  run : ∀ ds e0 e, Sm rr k e0 e → BR rr k (b ds e0) (b ds e)
  out : ∀ ds e e', b ds e = .ok e' → e'.length = e.length ∧ ∀ j : Nat, j ∉ is → e'[j]? = e[j]?
instance bsim_name {i : Nat} [NeK k i] : BSim rr k (bName i) [i] where
  run := fun d e0 e S => ⟨_, rfl, S.set NeK.ne _, (S.set NeK.ne (some (.sh d))).len⟩
  out := fun d e e' h => by
    cases h
    exact ⟨List.length_set .., fun j hj => List.getElem?_set_ne fun z => hj (by rw [z]; exact List.mem_singleton.mpr rfl)⟩
instance bsims_nil : BSims rr k bNil [] where
  run := fun ds e0 e S => by
    cases ds with
    | nil => exact ⟨_, rfl, S, S.len⟩
    | cons _ _ => exact trivial
  out := fun ds e e' h => by
    cases ds with
    | nil => cases h; exact ⟨rfl, fun _ _ => rfl⟩
    | cons _ _ => cases h
instance bsims_cons {c : Bi} {cs : BiA} {is js : List Nat} [BSim rr k c is] [BSims rr k cs js] : BSims rr k (bCons c cs) (is ++ js) where
  run := fun ds e0 e S => by
    cases ds with
    | nil => exact trivial
    | cons d ds =>
      have h1 := BSim.run (rr := rr) (k := k) (b := c) (is := is) d e0 e S
      show BR rr k ((c d e0).bind fun e => cs ds e) ((c d e).bind fun e => cs ds e)
      cases q : c d e0 with
      | ok p =>
        rw [q] at h1
        obtain ⟨e', g1, g2, _⟩ := h1
        rw [g1]
        exact BSims.run (rr := rr) (k := k) (b := cs) (is := js) ds p e' g2
      | rai c => exact trivial
      | stuck => exact trivial
  out := fun ds e e' h => by
    cases ds with
    | nil => cases h
    | cons d ds =>
      have h : ((c d e).bind fun e => cs ds e) = .ok e' := h
      cases q : c d e with
      | ok p =>
        rw [q] at h
        obtain ⟨l1, o1⟩ := BSim.out (rr := rr) (k := k) (b := c) (is := is) d e p q
        obtain ⟨l2, o2⟩ := BSims.out (rr := rr) (k := k) (b := cs) (is := js) ds p e' h
        refine ⟨l2.trans l1, fun j hj => ?_⟩
        rw [List.mem_append, not_or] at hj
        exact (o2 j hj.2).trans (o1 j hj.1)
      | rai c => rw [q] at h; cases h
      | stuck => rw [q] at h; cases h
instance bsim_tup {n : Nat} {cs : BiA} {is : List Nat} [BSims rr k cs is] : BSim rr k (bTup n cs) is where
  run := fun d e0 e S => by
    cases d with
    | tuple ds =>
      show BR rr k (gd (Nat.beq ds.length n) (cs ds e0)) (gd (Nat.beq ds.length n) (cs ds e))
      cases Nat.beq ds.length n with
      | true => exact BSims.run (rr := rr) (k := k) (b := cs) (is := is) ds e0 e S
      | false => exact trivial
    | _ => exact trivial
  out := fun d e e' h => by
    cases d with
    | tuple ds =>
      have h : gd (Nat.beq ds.length n) (cs ds e) = .ok e' := h
      cases q : Nat.beq ds.length n with
      | true => rw [q] at h; exact BSims.out (rr := rr) (k := k) (b := cs) (is := is) ds e e' h
      | false => rw [q] at h; cases h
    | _ => cases h
/-! comprehensions -/
class SubL (is vs : List Nat) : Prop where
  sub : ∀ i ∈ is, i ∈ vs
class MemL (i : Nat) (vs : List Nat) : Prop where
  mem : i ∈ vs
instance meml_0 {i : Nat} {vs : List Nat} : MemL i (i :: vs) := ⟨List.mem_cons_self⟩
instance meml_s {i j : Nat} {vs : List Nat} [h : MemL i vs] : MemL i (j :: vs) := ⟨List.mem_cons_of_mem _ h.mem⟩
instance subl_nil {vs : List Nat} : SubL [] vs := ⟨fun i h => by cases h⟩
instance subl_cons {i : Nat} {is vs : List Nat} [h : MemL i vs] [h' : SubL is vs] : SubL (i :: is) vs := ⟨fun j hj => by
  rcases List.mem_cons.mp hj with rfl | hj
  · exact h.mem
  · exact h'.sub j hj⟩
instance subl_app {is js vs : List Nat} [h : SubL is vs] [h' : SubL js vs] : SubL (is ++ js) vs := ⟨fun j hj => by
  rcases List.mem_append.mp hj with hj | hj
  · exact h.sub j hj
  · exact h'.sub j hj⟩
theorem wipeE_get (e : LEnv) (vs : List Nat) (j : Nat) : (wipeE e vs)[j]? = if j ∈ vs then (if j < e.length then some none else none) else e[j]? := by
  induction vs with
  | nil => simp [wipeE]
  | cons v vs ih =>
    unfold wipeE
    rw [get_set, ih, wipeE_length]
    by_cases h : v = j
    · subst h; simp
    · have h' : ¬ j = v := fun q => h q.symm
      simp only [List.mem_cons, h, h', if_false, false_or]
/-- outside the comprehension's own slots nothing changes -/
structure FrV (k : Nat) (vs : List Nat) (e e' : LEnv) : Prop where
  len : e'.length = e.length
  at_ : ∀ i : Nat, i ≠ k → i ∉ vs → e'[i]? = e[i]? ∨ ∃ m ds, e[i]? = some (some (.ow m ds))
theorem FrV.trans {vs : List Nat} {a b c : LEnv} (h : FrV k vs a b) (h' : FrV k vs b c) : FrV k vs a c := ⟨h'.len.trans h.len, fun i hi hv => by
  rcases h.at_ i hi hv with e | e
  · rcases h'.at_ i hi hv with e' | ⟨m, ds, e'⟩
    · exact .inl (e'.trans e)
    · exact .inr ⟨m, ds, by rw [← e]; exact e'⟩
  · exact .inr e⟩
theorem Fr.v {vs : List Nat} {a b : LEnv} (h : Fr k a b) : FrV k vs a b := ⟨h.len, fun i hi _ => h.at_ i hi⟩
theorem FrV.wipe {vs : List Nat} (a : LEnv) : FrV k vs a (wipeE a vs) := ⟨wipeE_length a vs, fun i hi hv => .inl (by rw [wipeE_get, if_neg hv])⟩
theorem FrV.refl {vs : List Nat} (a : LEnv) : FrV k vs a a := ⟨rfl, fun i _ _ => .inl rfl⟩
def SimV {α : Type} (rr : RunM) (k : Nat) (vs : List Nat) (e0 e : LEnv) : RE α → RE α → Prop
  | .ok p, r => ∃ e', r = .ok (e', p.2) ∧ Sm rr k p.1 e' ∧ FrV k vs e0 p.1 ∧ FrV k vs e e'
  | .rai c, r => r = .rai c
  | .stuck, _ => True
theorem SimR.v {α : Type} {vs : List Nat} {r r' : RE α} (h : SimR rr k e0 e r r') : SimV rr k vs e0 e r r' := by
  cases r with
  | ok p => obtain ⟨e', h1, h2, h3, h4⟩ := h; exact ⟨e', h1, h2, h3.v, h4.v⟩
  | rai c => exact h
  | stuck => exact trivial
theorem SimV.bind {α β : Type} {vs : List Nat} {r r' : RE α} {f0 f : LEnv × α → RE β} (h : SimV rr k vs e0 e r r') (hf : ∀ a b0 b, Sm rr k b0 b → SimV rr k vs b0 b (f0 (b0, a)) (f (b, a))) : SimV rr k vs e0 e (r.bind f0) (r'.bind f) := by
  cases r with
  | ok p =>
    obtain ⟨p0, a⟩ := p
    obtain ⟨e', h1, h2, h3, h4⟩ := h
    subst h1
    have h5 := hf a p0 e' h2
    show SimV rr k vs e0 e (f0 (p0, a)) (f (e', a))
    cases q : f0 (p0, a) with
    | ok z =>
      rw [q] at h5
      obtain ⟨e2, g1, g2, g3, g4⟩ := h5
      exact ⟨e2, g1, g2, h3.trans g3, h4.trans g4⟩
    | rai c => rw [q] at h5; exact h5
    | stuck => exact trivial
  | rai c =>
    have h : r' = .rai c := h
    subst h
    exact (rfl : (R.rai c : RE β) = _)
  | stuck => exact trivial
theorem SimV.pre {α : Type} {vs : List Nat} {c0 c : LEnv} {r r' : RE α} (h0 : FrV k vs e0 c0) (h1 : FrV k vs e c) (h : SimV rr k vs c0 c r r') : SimV rr k vs e0 e r r' := by
  cases r with
  | ok p => obtain ⟨e', g1, g2, g3, g4⟩ := h; exact ⟨e', g1, g2, h0.trans g3, h1.trans g4⟩
  | rai c => exact h
  | stuck => exact trivial
theorem compL_sim {vs is : List Nat} {bb : Bi} [hb : BSim rr k bb is] (hs : ∀ i ∈ is, i ∈ vs) [Sim rr k t0 t] [Sim rr k f0 f] : ∀ (l : List PyData) (e0 e : LEnv), Sm rr k e0 e → SimV rr k vs e0 e (compL vs bb t0 f0 l e0) (compL vs bb t f l e)
  | [], e0, e, S => ⟨e, rfl, S, .refl _, .refl _⟩
  | d :: r, e0, e, S => by
    have h1 := hb.run d e0 e S
    unfold compL
    cases q : bb d e0 with
    | ok p =>
      rw [q] at h1
      obtain ⟨e', g1, g2, _⟩ := h1
      rw [g1]
      obtain ⟨l1, o1⟩ := hb.out d e0 p q
      obtain ⟨l2, o2⟩ := hb.out d e e' g1
      refine SimV.pre (c0 := p) (c := e') ⟨l1, fun i _ hv => .inl (o1 i fun z => hv (hs i z))⟩ ⟨l2, fun i _ hv => .inl (o2 i fun z => hv (hs i z))⟩ ?_
      refine (SimR.v (SimR.noRai (Sim.run (f0 := t0) (f := t) p e' g2))).bind fun tv b0 b S1 => ?_
      cases tv with
      | true =>
        refine (SimR.v (SimR.noRai (Sim.run (f0 := f0) (f := f) b0 b S1))).bind fun y c0 c S2 => ?_
        refine SimV.pre (FrV.wipe c0) (FrV.wipe c) ((compL_sim hs r _ _ (S2.wipe vs)).bind fun z d0 d S3 => ⟨d, rfl, S3, .refl _, .refl _⟩)
      | false => exact SimV.pre (FrV.wipe b0) (FrV.wipe b) (compL_sim hs r _ _ (S1.wipe vs))
    | rai c => exact trivial
    | stuck => exact trivial
theorem Sm.restore {b0 b : LEnv} (S : Sm rr k e0 e) (S1 : Sm rr k b0 b) (vs : List Nat) : Sm rr k (LW.restore e0 b0 vs) (LW.restore e b vs) where
  len := by rw [restore_length, restore_length, S1.len]
  at_ := fun i s hi q => by
    rw [restore_get] at q ⊢
    by_cases hv : i ∈ vs
    · rw [if_pos hv] at q ⊢
      by_cases hl : i < b0.length
      · rw [if_pos hl] at q
        rw [if_pos (by rw [← S1.len]; exact hl)]
        have q := Option.some.inj q
        unfold keepSh at q
        split at q
        · rename_i d hd
          rw [S.at_ i _ hi hd]
          exact congrArg some q
        · cases q
      · rw [if_neg hl] at q; cases q
    · rw [if_neg hv] at q ⊢; exact S1.at_ i s hi q
  dc := fun s q => by
    rw [restore_get] at q ⊢
    by_cases hv : k ∈ vs
    · rw [if_pos hv] at q
      split at q
      · have q := Option.some.inj q
        unfold keepSh at q
        split at q
        · rename_i d hd
          obtain ⟨p, d', h1, _⟩ := S.dc _ hd
          cases h1
        · cases q
      · cases q
    · rw [if_neg hv] at q ⊢; exact S1.dc s q
theorem Fr.restore {b : LEnv} {vs : List Nat} (h : FrV k vs e b) : Fr k e (LW.restore e b vs) := ⟨by rw [restore_length, h.len], fun i hi => by
  rw [restore_get]
  by_cases hv : i ∈ vs
  · rw [if_pos hv, h.len]
    by_cases hl : i < e.length
    · rw [if_pos hl]
      cases q : e[i]? with
      | none => rw [List.getElem?_eq_none_iff] at q; omega
      | some o =>
        cases o with
        | none => exact .inl rfl
        | some s =>
          cases s with
          | sh d => exact .inl rfl
          | ow m ds => exact .inr ⟨m, ds, rfl⟩
    · rw [if_neg hl, List.getElem?_eq_none (by omega)]; exact .inl rfl
  · rw [if_neg hv]; exact h.at_ i hi hv⟩
instance sim_comp {vs is : List Nat} {bb : Bi} [BSim rr k bb is] [hs : SubL is vs] [Sim rr k a0 a] [Sim rr k t0 t] [Sim rr k f0 f] : Sim rr k (mComp vs a0 bb t0 f0) (mComp vs a bb t f) := ⟨fun e0 e S => (Sim.run (f0 := a0) (f := a) e0 e S).bind fun l b0 b S1 => .gd (by
  have h := SimV.pre (FrV.wipe b0) (FrV.wipe b) (compL_sim (bb := bb) (is := is) (t0 := t0) (t := t) (f0 := f0) (f := f) hs.sub l _ _ (S1.wipe vs))
  show SimR rr k b0 b ((compL vs bb t0 f0 l (wipeE b0 vs)).bind fun z => .ok (restore b0 z.1 vs, PyData.list z.2)) ((compL vs bb t f l (wipeE b vs)).bind fun z => .ok (restore b z.1 vs, PyData.list z.2))
  cases q : compL vs bb t0 f0 l (wipeE b0 vs) with
  | ok z =>
    rw [q] at h
    obtain ⟨e', g1, g2, g3, g4⟩ := h
    rw [g1]
    exact ⟨_, rfl, S1.restore g2 vs, Fr.restore g3, Fr.restore g4⟩
  | rai c =>
    rw [q] at h
    have h : compL vs bb t f l (wipeE b vs) = .rai c := h
    rw [h]
    exact (rfl : (R.rai c : RE PyData) = _)
  | stuck => exact trivial)⟩
end
end LW

namespace LW
open PySem PySem.Spec PyProof.Rows L2
/-! ### statements -/
def RelS (rr : RunM) (k : Nat) : RS → RS → Prop
  | .nx p, r => ∃ e', r = .nx e' ∧ Sm rr k p e'
  | .rt p d, r => ∃ e', r = .rt e' d ∧ Sm rr k p e'
  | .bk p, r => ∃ e', r = .bk e' ∧ Sm rr k p e'
  | .ct p, r => ∃ e', r = .ct e' ∧ Sm rr k p e'
  | .rai c, r => r = .rai c
  | .stuck, _ => True
class SimS (rr : RunM) (k : Nat) (m0 m : MS) : Prop where
  run : ∀ e0 e, Sm rr k e0 e → RelS rr k (m0 e0) (m e)
section
variable {rr : RunM} {k : Nat} {f0 f g0 g h0 h : M} {a0 a b0 b : MA} {t0 t u0 u : MT} {e0 e : LEnv} {m0 m n0 n : MS}
theorem RelS.bind {α : Type} {r r' : RE α} {w0 w : LEnv × α → RS} (h : SimR rr k e0 e r r') (hf : ∀ x b0 b, Sm rr k b0 b → RelS rr k (w0 (b0, x)) (w (b, x))) : RelS rr k (bindS r w0) (bindS r' w) := by
  cases r with
  | ok p =>
    obtain ⟨p0, x⟩ := p
    obtain ⟨e', h1, h2, _, _⟩ := h
    subst h1
    exact hf x p0 e' h2
  | rai c =>
    have h : r' = .rai c := h
    subst h
    exact (rfl : (RS.rai c : RS) = _)
  | stuck => exact trivial
instance sims_next : SimS rr k mNext mNext := ⟨fun e0 e S => ⟨e, rfl, S⟩⟩
instance sims_break : SimS rr k mBreak mBreak := ⟨fun e0 e S => ⟨e, rfl, S⟩⟩
instance sims_cont : SimS rr k mCont mCont := ⟨fun e0 e S => ⟨e, rfl, S⟩⟩
instance sims_rai {c : Nat} : SimS rr k (mRai c) (mRai c) := ⟨fun e0 e S => (rfl : (RS.rai c : RS) = _)⟩
instance sims_seq [SimS rr k m0 m] [SimS rr k n0 n] : SimS rr k (mSeq m0 n0) (mSeq m n) := ⟨fun e0 e S => by
  have h1 := SimS.run (m0 := m0) (m := m) e0 e S
  unfold mSeq
  cases q : m0 e0 with
  | nx p => rw [q] at h1; obtain ⟨e', g1, g2⟩ := h1; rw [g1]; exact SimS.run (m0 := n0) (m := n) p e' g2
  | rt p d => rw [q] at h1; obtain ⟨e', g1, g2⟩ := h1; rw [g1]; exact ⟨e', rfl, g2⟩
  | bk p => rw [q] at h1; obtain ⟨e', g1, g2⟩ := h1; rw [g1]; exact ⟨e', rfl, g2⟩
  | ct p => rw [q] at h1; obtain ⟨e', g1, g2⟩ := h1; rw [g1]; exact ⟨e', rfl, g2⟩
  | rai c => rw [q] at h1; have h1 : m e = .rai c := h1; rw [h1]; exact (rfl : (RS.rai c : RS) = _)
  | stuck => exact trivial⟩
instance sims_if [Sim rr k t0 t] [SimS rr k m0 m] [SimS rr k n0 n] : SimS rr k (mIfS t0 m0 n0) (mIfS t m n) := ⟨fun e0 e S => RelS.bind (Sim.run (f0 := t0) (f := t) e0 e S) fun x b0 b S1 => by
  cases x with
  | true => exact SimS.run (m0 := m0) (m := m) b0 b S1
  | false => exact SimS.run (m0 := n0) (m := n) b0 b S1⟩
instance sims_ret [Sim rr k f0 f] : SimS rr k (mRet f0) (mRet f) := ⟨fun e0 e S => RelS.bind (Sim.run (f0 := f0) (f := f) e0 e S) fun x b0 b S1 => ⟨b, rfl, S1⟩⟩
instance sims_drop [Sim rr k f0 f] : SimS rr k (mDrop f0) (mDrop f) := ⟨fun e0 e S => RelS.bind (Sim.run (f0 := f0) (f := f) e0 e S) fun x b0 b S1 => ⟨b, rfl, S1⟩⟩
instance sims_asg {bb : Bi} {is : List Nat} [hb : BSim rr k bb is] [Sim rr k f0 f] : SimS rr k (mAsg bb f0) (mAsg bb f) := ⟨fun e0 e S => RelS.bind (Sim.run (f0 := f0) (f := f) e0 e S) fun x c0 c S1 => by
  have h1 := hb.run x c0 c S1
  show RelS rr k (match bb x c0 with | .ok e => .nx e | _ => .stuck) (match bb x c with | .ok e => .nx e | _ => .stuck)
  cases q : bb x c0 with
  | ok p => rw [q] at h1; obtain ⟨e', g1, g2, _⟩ := h1; rw [g1]; exact ⟨e', rfl, g2⟩
  | rai c => exact trivial
  | stuck => exact trivial⟩
instance sims_par {i j : Nat} [NeK k i] [NeK k j] [Sim rr k a0 a] : SimS rr k (mPar i j a0) (mPar i j a) := ⟨fun e0 e S => RelS.bind (Sim.run (f0 := a0) (f := a) e0 e S) fun x c0 c S1 => by
  match x with
  | [p, q] => exact ⟨_, rfl, (S1.set NeK.ne _).set NeK.ne _⟩
  | [] => exact trivial
  | [_] => exact trivial
  | _ :: _ :: _ :: _ => exact trivial⟩
theorem forL_sim {bb : Bi} {is : List Nat} [hb : BSim rr k bb is] [SimS rr k m0 m] : ∀ (l : List PyData) (e0 e : LEnv), Sm rr k e0 e → RelS rr k (forL bb m0 l e0) (forL bb m l e)
  | [], e0, e, S => ⟨e, rfl, S⟩
  | d :: r, e0, e, S => by
    have h1 := hb.run d e0 e S
    unfold forL
    cases q : bb d e0 with
    | ok p =>
      rw [q] at h1
      obtain ⟨e', g1, g2, _⟩ := h1
      rw [g1]
      have h2 := SimS.run (m0 := m0) (m := m) p e' g2
      dsimp only
      cases q2 : m0 p with
      | nx p2 => rw [q2] at h2; obtain ⟨e2, k1, k2⟩ := h2; rw [k1]; exact forL_sim r p2 e2 k2
      | ct p2 => rw [q2] at h2; obtain ⟨e2, k1, k2⟩ := h2; rw [k1]; exact forL_sim r p2 e2 k2
      | bk p2 => rw [q2] at h2; obtain ⟨e2, k1, k2⟩ := h2; rw [k1]; exact ⟨e2, rfl, k2⟩
      | rt p2 d2 => rw [q2] at h2; obtain ⟨e2, k1, k2⟩ := h2; rw [k1]; exact ⟨e2, rfl, k2⟩
      | rai c => rw [q2] at h2; have h2 : m e' = .rai c := h2; rw [h2]; exact (rfl : (RS.rai c : RS) = _)
      | stuck => exact trivial
    | rai c => exact trivial
    | stuck => exact trivial
instance sims_for {bb : Bi} {is : List Nat} [BSim rr k bb is] [Sim rr k a0 a] [SimS rr k m0 m] : SimS rr k (mFor a0 bb m0) (mFor a bb m) := ⟨fun e0 e S => RelS.bind (Sim.run (f0 := a0) (f := a) e0 e S) fun x c0 c S1 => forL_sim (is := is) x c0 c S1⟩
instance sims_own {i : Nat} [NeK k i] [Sim rr k a0 a] : SimS rr k (mOwn i a0) (mOwn i a) := ⟨fun e0 e S => RelS.bind (Sim.run (f0 := a0) (f := a) e0 e S) fun x c0 c S1 => by
  show RelS rr k (match Nat.blt i c0.length with | true => .nx (c0.set i (some (.ow false x))) | false => .stuck) (match Nat.blt i c.length with | true => .nx (c.set i (some (.ow false x))) | false => .stuck)
  rw [S1.len]
  cases Nat.blt i c.length with
  | true => exact ⟨_, rfl, S1.set NeK.ne _⟩
  | false => exact trivial⟩
instance simn_lst [Sim rr k a0 a] : Sim rr k (nLst a0) (nLst a) := ⟨fun e0 e S => (Sim.run (f0 := a0) (f := a) e0 e S).bind fun _ _ _ S1 => .gd (.ok S1 _)⟩
end
/-! ### the sets of small states that a text goes through -/
def sameA (f : PyData → PyData → Bool) : List PyData → List PyData → Bool
  | [], [] => true
  | x :: xs, y :: ys => f x y && sameA f xs ys
  | _, _ => false
def sameKD (f : PyData → PyData → Bool) : List (PyData × PyData) → List (PyData × PyData) → Bool
  | [], [] => true
  | (x, x2) :: xs, (y, y2) :: ys => f x y && f x2 y2 && sameKD f xs ys
  | _, _ => false
def sameF : Nat → PyData → PyData → Bool
  | _, .int a, .int b => ieq a b
  | _, .str a, .str b => a == b
  | _, .bool a, .bool b => a == b
  | _, .none, .none => true
  | n + 1, .tuple xs, .tuple ys => sameA (sameF n) xs ys
  | n + 1, .list xs, .list ys => sameA (sameF n) xs ys
  | n + 1, .dict xs, .dict ys => sameKD (sameF n) xs ys
  | _, _, _ => false
theorem sameA_ok {f : PyData → PyData → Bool} (hf : ∀ a b, f a b = true → a = b) : ∀ {xs ys : List PyData}, sameA f xs ys = true → xs = ys
  | [], [], _ => rfl
  | [], _ :: _, h => by cases h
  | _ :: _, [], h => by cases h
  | x :: xs, y :: ys, h => by
    obtain ⟨h1, h2⟩ := Bool.and_eq_true_iff.mp (show (f x y && sameA f xs ys) = true from h)
    rw [hf _ _ h1, sameA_ok hf h2]
theorem sameKD_ok {f : PyData → PyData → Bool} (hf : ∀ a b, f a b = true → a = b) : ∀ {xs ys : List (PyData × PyData)}, sameKD f xs ys = true → xs = ys
  | [], [], _ => rfl
  | [], _ :: _, h => by cases h
  | _ :: _, [], h => by cases h
  | (x, x2) :: xs, (y, y2) :: ys, h => by
    obtain ⟨h1, h2⟩ := Bool.and_eq_true_iff.mp (show ((f x y && f x2 y2) && sameKD f xs ys) = true from h)
    obtain ⟨h3, h4⟩ := Bool.and_eq_true_iff.mp h1
    rw [hf _ _ h3, hf _ _ h4, sameKD_ok hf h2]
theorem sameF_ok : ∀ (n : Nat) (a b : PyData), sameF n a b = true → a = b
  | 0, a, b, h => by
    cases a <;> cases b <;> first | (exact congrArg _ (ieq_ok h)) | (exact congrArg _ (eq_of_beq h)) | rfl | cases h
  | n + 1, a, b, h => by
    cases a <;> cases b <;> first
      | (exact congrArg _ (sameA_ok (sameF_ok n) h))
      | (exact congrArg _ (sameKD_ok (sameF_ok n) h))
      | (exact congrArg _ (ieq_ok h))
      | rfl
      | (exact congrArg _ (eq_of_beq h))
      | cases h
/-- what is said of a slot holds there -/
def leS : Option Sl → Option Sl → Bool
  | none, _ => true
  | some (.sh a), some (.sh b) => sameF 12 a b
  | some (.ow m xs), some (.ow n ys) => (m == n) && sameA (sameF 12) xs ys
  | _, _ => false
theorem leS_ok {s : Sl} {o : Option Sl} (h : leS (some s) o = true) : o = some s := by
  cases s with
  | sh a =>
    match o, h with
    | some (.sh b), h => rw [sameF_ok 12 a b h]
  | ow m xs =>
    match o, h with
    | some (.ow n ys), h =>
      obtain ⟨h1, h2⟩ := Bool.and_eq_true_iff.mp (show ((m == n) && sameA (sameF 12) xs ys) = true from h)
      rw [eq_of_beq h1, sameA_ok (sameF_ok 12) h2]
def subP : LEnv → LEnv → Bool
  | [], [] => true
  | s :: r, t :: u => leS s t && subP r u
  | _, _ => false
def leK : Option Sl → Option Sl → Bool
  | some (.ow true []), some (.ow true _) => true
  | _, _ => false
/-- a small state says less than another (of the dice: that they are there) -/
def subE : Nat → LEnv → LEnv → Bool
  | 0, s :: r, t :: u => leK s t && subP r u
  | k + 1, s :: r, t :: u => leS s t && subE k r u
  | _, _, _ => false
theorem subP_at : ∀ {a b : LEnv}, subP a b = true → a.length = b.length ∧ ∀ (i : Nat) s, a[i]? = some (some s) → b[i]? = some (some s)
  | [], [], _ => ⟨rfl, fun i s h => by cases h⟩
  | [], _ :: _, h => by cases h
  | _ :: _, [], h => by cases h
  | x :: a, y :: b, h => by
    obtain ⟨h1, h2⟩ := Bool.and_eq_true_iff.mp (show (leS x y && subP a b) = true from h)
    obtain ⟨l, o⟩ := subP_at h2
    refine ⟨by rw [List.length_cons, List.length_cons, l], fun i s q => ?_⟩
    cases i with
    | zero =>
      have q : x = some s := Option.some.inj q
      subst q
      rw [leS_ok h1]; rfl
    | succ i => exact o i s q
theorem subE_at : ∀ {k : Nat} {a b : LEnv}, subE k a b = true → a.length = b.length ∧ (∀ (i : Nat) s, i ≠ k → a[i]? = some (some s) → b[i]? = some (some s)) ∧ a[k]? = some (some (.ow true [])) ∧ ∃ ds, b[k]? = some (some (.ow true ds))
  | 0, [], _, h => by cases h
  | 0, _ :: _, [], h => by cases h
  | 0, x :: a, y :: b, h => by
    obtain ⟨h1, h2⟩ := Bool.and_eq_true_iff.mp (show (leK x y && subP a b) = true from h)
    obtain ⟨l, o⟩ := subP_at h2
    refine ⟨by rw [List.length_cons, List.length_cons, l], fun i s hi q => ?_, ?_⟩
    · cases i with
      | zero => exact absurd rfl hi
      | succ i => exact o i s q
    · unfold leK at h1
      split at h1
      · exact ⟨rfl, _, rfl⟩
      · cases h1
  | k + 1, [], _, h => by cases h
  | k + 1, _ :: _, [], h => by cases h
  | k + 1, x :: a, y :: b, h => by
    obtain ⟨h1, h2⟩ := Bool.and_eq_true_iff.mp (show (leS x y && subE k a b) = true from h)
    obtain ⟨l, o, p, q⟩ := subE_at h2
    refine ⟨by rw [List.length_cons, List.length_cons, l], fun i s hi q => ?_, p, q⟩
    cases i with
    | zero =>
      have q : x = some s := Option.some.inj q
      subst q
      rw [leS_ok h1]; rfl
    | succ i => exact o i s (fun z => hi (by rw [z])) q
section
variable {rr : RunM} {k : Nat} {e0 e l : LEnv}
theorem Sm.sub (S : Sm rr k e0 e) (h : subE k l e0 = true) : Sm rr k l e := by
  obtain ⟨h1, h2, h3, ds, h4⟩ := subE_at h
  exact {
    len := h1.trans S.len
    at_ := fun i s hi q => S.at_ i s hi (h2 i s hi q)
    dc := fun s q => by
      rw [h3] at q
      cases q
      obtain ⟨p, d, g1, g2, g3⟩ := S.dc _ h4
      exact ⟨[], d, rfl, g2, g3.valid⟩ }
def Cov (rr : RunM) (k : Nat) (S : List LEnv) (e : LEnv) : Prop := ∃ e0 ∈ S, Sm rr k e0 e
def Good (rr : RunM) (k : Nat) (S : List LEnv) (m : MS) (S' : List LEnv) : Prop := ∀ e, Cov rr k S e → ∃ e', m e = .nx e' ∧ Cov rr k S' e'
def No (rr : RunM) (k : Nat) (S : List LEnv) (c : MT) : Prop := ∀ e, Cov rr k S e → ∃ e', c e = .ok (e', false) ∧ Cov rr k S e'
/-- dice that can be rolled -/
structure Dice (rr : RunM) : Prop where
  roll : ∀ d, Valid d → ∀ m : Nat, 0 < m → m < 1000000 → ∃ d' r, rr d [.int (.ofNat m)] = .ok (d', .int (.ofNat r)) ∧ r < m ∧ Valid d'
def headR (r : Nat) : Path → Option Path
  | (_, s) :: p => bif Nat.beq s r then some p else none
  | [] => none
def headM (m : Nat) : Path → Bool
  | (n, _) :: _ => Nat.beq n m
  | [] => false
/-- the paths are all ways that rolls can go -/
def compl : Nat → List Path → Bool
  | _, [[]] => true
  | n + 1, ((m, r) :: p) :: ps => Nat.blt 0 m && (Nat.blt m 1000000 && ((((m, r) :: p) :: ps).all (headM m) && (List.range m).all fun s => compl n ((((m, r) :: p) :: ps).filterMap (headR s))))
  | _, _ => false
theorem compl_ok (D : Dice rr) : ∀ (n : Nat) (ps : List Path), compl n ps = true → ∀ d, Valid d → ∃ p ∈ ps, Rl rr d p := by
  intro n
  induction n with
  | zero =>
    intro ps h d hd
    match ps, h with
    | [[]], _ => exact ⟨[], List.mem_singleton.mpr rfl, hd⟩
  | succ n ih =>
    intro ps h d hd
    match ps, h with
    | [[]], _ => exact ⟨[], List.mem_singleton.mpr rfl, hd⟩
    | ((m, r) :: p) :: ps, h =>
      have h : (Nat.blt 0 m && (Nat.blt m 1000000 && ((((m, r) :: p) :: ps).all (headM m) && (List.range m).all fun s => compl n ((((m, r) :: p) :: ps).filterMap (headR s))))) = true := h
      obtain ⟨h1, h⟩ := Bool.and_eq_true_iff.mp h
      obtain ⟨h2, h⟩ := Bool.and_eq_true_iff.mp h
      obtain ⟨h3, h4⟩ := Bool.and_eq_true_iff.mp h
      obtain ⟨d', s, g1, g2, g3⟩ := D.roll d hd m (Nat.le_of_ble_eq_true h1) (Nat.le_of_ble_eq_true h2)
      obtain ⟨q, hq, hr⟩ := ih _ (List.all_eq_true.mp h4 s (List.mem_range.mpr g2)) d' g3
      obtain ⟨x, hx, ex⟩ := List.mem_filterMap.mp hq
      have hm := List.all_eq_true.mp h3 x hx
      cases x with
      | nil => cases hm
      | cons z y =>
        obtain ⟨n', s'⟩ := z
        have hm : Nat.beq n' m = true := hm
        have ex : (bif Nat.beq s' s then some y else none) = some q := ex
        cases c : Nat.beq s' s with
        | true =>
          rw [c] at ex
          have ex : y = q := Option.some.inj ex
          have e1 := Nat.eq_of_beq_eq_true c
          have e2 := Nat.eq_of_beq_eq_true hm
          refine ⟨(n', s') :: y, hx, hd, d', ?_, by rw [ex]; exact hr⟩
          rw [e1, e2]; exact g1
        | false => rw [c] at ex; cases ex
def isDc (k : Nat) (e : LEnv) : Bool := match nth e k with
  | some (some (.ow true [])) => true
  | _ => false
def runSt (k : Nat) (m0 : MS) (S' : List LEnv) (e0 : LEnv) : List (Path × Nat) → Bool
  | [] => true
  | (p, j) :: r => (match m0 (e0.set k (some (.ow true (pathD p)))) with
    | .nx e1 => (match nth S' j with
      | some l => subE k l e1
      | none => false)
    | _ => false) && runSt k m0 S' e0 r
def runAll (k : Nat) (m0 : MS) (S' : List LEnv) : List LEnv → List (List (Path × Nat)) → Bool
  | [], [] => true
  | e :: S, ps :: r => isDc k e && (compl 64 (ps.map (·.1)) && (runSt k m0 S' e ps && runAll k m0 S' S r))
  | _, _ => false
theorem Sm.path (S : Sm rr k e0 e) {p : Path} {d : List PyData} (hd : e[k]? = some (some (.ow true d))) (hr : Rl rr d p) : Sm rr k (e0.set k (some (.ow true (pathD p)))) e where
  len := by rw [List.length_set, S.len]
  at_ := fun i s hi q => by rw [List.getElem?_set_ne (fun z => hi z.symm)] at q; exact S.at_ i s hi q
  dc := fun s q => by
    have hl : k < e0.length := by rw [S.len]; exact (List.getElem?_eq_some_iff.mp hd).1
    rw [List.getElem?_set_self hl] at q
    cases q
    exact ⟨p, d, rfl, hd, hr⟩
theorem runSt_ok {m0 : MS} {S' : List LEnv} {p : Path} : ∀ {ps : List (Path × Nat)}, runSt k m0 S' e0 ps = true → p ∈ ps.map (·.1) → ∃ e1 l, m0 (e0.set k (some (.ow true (pathD p)))) = .nx e1 ∧ l ∈ S' ∧ subE k l e1 = true
  | [], _, hp => by cases hp
  | (q, j) :: r, h, hp => by
    obtain ⟨h1, h2⟩ := Bool.and_eq_true_iff.mp (show ((match m0 (e0.set k (some (.ow true (pathD q)))) with | .nx e1 => (match nth S' j with | some l => subE k l e1 | none => false) | _ => false) && runSt k m0 S' e0 r) = true from h)
    rcases List.mem_cons.mp hp with z | hp
    · have z : p = q := z
      subst z
      split at h1
      · rename_i e1 he
        split at h1
        · rename_i l hl
          rw [nth_eq] at hl
          exact ⟨e1, l, he, List.mem_of_getElem? hl, h1⟩
        · cases h1
      · cases h1
    · exact runSt_ok h2 hp
theorem good_run (D : Dice rr) {m0 m : MS} {S' : List LEnv} [SimS rr k m0 m] : ∀ {S : List LEnv} {P : List (List (Path × Nat))}, runAll k m0 S' S P = true → Good rr k S m S'
  | [], [], _ => fun e ⟨e0, h, _⟩ => by cases h
  | [], _ :: _, h => by cases h
  | _ :: _, [], h => by cases h
  | e1 :: S, ps :: r, h => by
    obtain ⟨h1, h⟩ := Bool.and_eq_true_iff.mp (show (isDc k e1 && (compl 64 (ps.map (·.1)) && (runSt k m0 S' e1 ps && runAll k m0 S' S r))) = true from h)
    obtain ⟨h2, h⟩ := Bool.and_eq_true_iff.mp h
    obtain ⟨h3, h4⟩ := Bool.and_eq_true_iff.mp h
    intro e ⟨e0, hm, Se⟩
    rcases List.mem_cons.mp hm with z | hm
    · subst z
      unfold isDc at h1
      split at h1
      · rename_i hk
        rw [nth_eq] at hk
        obtain ⟨p0, d, g1, g2, g3⟩ := Se.dc _ hk
        obtain ⟨p, hp, hr⟩ := compl_ok D 64 _ h2 d g3.valid
        obtain ⟨e2, l, k1, k2, k3⟩ := runSt_ok h3 hp
        have s := SimS.run (rr := rr) (k := k) (m0 := m0) (m := m) _ e (Se.path g2 hr)
        rw [k1] at s
        obtain ⟨e', s1, s2⟩ := s
        exact ⟨e', s1, l, k2, s2.sub k3⟩
      · cases h1
    · exact good_run D (S := S) h4 e ⟨e0, hm, Se⟩
theorem good_seq {a b : MS} {S S1 S2 : List LEnv} (h1 : Good rr k S a S1) (h2 : Good rr k S1 b S2) : Good rr k S (mSeq a b) S2 := fun e c => by
  obtain ⟨e1, g1, c1⟩ := h1 e c
  obtain ⟨e2, g2, c2⟩ := h2 e1 c1
  exact ⟨e2, by unfold mSeq; rw [g1]; exact g2, c2⟩
theorem good_if {c : MT} {a : MS} {S : List LEnv} (h : No rr k S c) : Good rr k S (mIfS c a mNext) S := fun e q => by
  obtain ⟨e', g, c'⟩ := h e q
  exact ⟨e', by unfold mIfS; rw [g]; rfl, c'⟩
theorem no_or {c d : MT} {S : List LEnv} (h1 : No rr k S c) (h2 : No rr k S d) : No rr k S (mtOr c d) := fun e q => by
  obtain ⟨e1, g1, c1⟩ := h1 e q
  obtain ⟨e2, g2, c2⟩ := h2 e1 c1
  exact ⟨e2, by unfold mtOr; rw [g1]; exact g2, c2⟩
/-- fewer states are enough for a part of the text that knows less -/
theorem good_sub {m : MS} {S S1 S2 : List LEnv} (h : Good rr k S m S1) (h0 : ∀ e, Cov rr k S2 e → Cov rr k S e) : Good rr k S2 m S1 := fun e c => h e (h0 e c)
/-- no list of one's own but the dice -/
def noOw : Nat → LEnv → Bool
  | _, [] => true
  | 0, _ :: r => noOw r.length.succ r
  | k + 1, some (.ow _ _) :: _ => false
  | k + 1, _ :: r => noOw k r
def chkAll (k : Nat) (c0 : MT) : List LEnv → Bool
  | [] => true
  | q :: Q => (match c0 q with
    | .ok (e1, false) => (match nth e1 k with
      | some (some (.ow true _)) => true
      | _ => false)
    | _ => false) && chkAll k c0 Q
def covAll (k : Nat) (Q : List LEnv) : List LEnv → List Nat → Bool
  | [], [] => true
  | e :: S, j :: js => (noOw k e && isDc k e) && ((match nth Q j with
    | some q => subE k q e
    | none => false) && covAll k Q S js)
  | _, _ => false
theorem noOw_at : ∀ {k : Nat} {e : LEnv}, noOw k e = true → ∀ (i : Nat) s, i ≠ k → e[i]? = some (some s) → ∃ d, s = .sh d
  | _, [], _, i, s, _, q => by cases q
  | 0, x :: r, h, i, s, hi, q => by
    have h : noOw r.length.succ r = true := h
    cases i with
    | zero => exact absurd rfl hi
    | succ i =>
      have q : r[i]? = some (some s) := q
      have hl : i < r.length := (List.getElem?_eq_some_iff.mp q).1
      exact noOw_at h i s (by omega) q
  | k + 1, x :: r, h, i, s, hi, q => by
    match x, h with
    | none, h =>
      cases i with
      | zero => cases q
      | succ i => exact noOw_at (show noOw k r = true from h) i s (fun z => hi (by rw [z])) q
    | some (.sh d), h =>
      cases i with
      | zero => cases q; exact ⟨d, rfl⟩
      | succ i => exact noOw_at (show noOw k r = true from h) i s (fun z => hi (by rw [z])) q
theorem chkAll_ok {c0 : MT} {q : LEnv} : ∀ {Q : List LEnv}, chkAll k c0 Q = true → q ∈ Q → ∃ e1 ds, c0 q = .ok (e1, false) ∧ e1[k]? = some (some (.ow true ds))
  | [], _, hq => by cases hq
  | x :: Q, h, hq => by
    obtain ⟨h1, h2⟩ := Bool.and_eq_true_iff.mp (show ((match c0 x with | .ok (e1, false) => (match nth e1 k with | some (some (.ow true _)) => true | _ => false) | _ => false) && chkAll k c0 Q) = true from h)
    rcases List.mem_cons.mp hq with z | hq
    · subst z
      split at h1
      · rename_i e1 he
        split at h1
        · rename_i ds hk
          rw [nth_eq] at hk
          exact ⟨e1, ds, he, hk⟩
        · cases h1
      · cases h1
    · exact chkAll_ok h2 hq
theorem covAll_ok {Q : List LEnv} : ∀ {S : List LEnv} {js : List Nat}, covAll k Q S js = true → e0 ∈ S → (noOw k e0 && isDc k e0) = true ∧ ∃ q ∈ Q, subE k q e0 = true
  | [], _, _, h => by cases h
  | _ :: _, [], h, _ => by cases h
  | x :: S, j :: js, h, hm => by
    obtain ⟨h1, h⟩ := Bool.and_eq_true_iff.mp (show ((noOw k x && isDc k x) && ((match nth Q j with | some q => subE k q x | none => false) && covAll k Q S js)) = true from h)
    obtain ⟨h2, h3⟩ := Bool.and_eq_true_iff.mp h
    rcases List.mem_cons.mp hm with z | hm
    · subst z
      refine ⟨h1, ?_⟩
      split at h2
      · rename_i q hq
        rw [nth_eq] at hq
        exact ⟨q, List.mem_of_getElem? hq, h2⟩
      · cases h2
    · exact covAll_ok h3 hm
theorem no_chk {c0 c : MT} {S Q : List LEnv} {js : List Nat} [Sim rr k c0 c] (h1 : covAll k Q S js = true) (h2 : chkAll k c0 Q = true) : No rr k S c := fun e ⟨e0, hm, Se⟩ => by
  obtain ⟨n0, q, hq, hs⟩ := covAll_ok h1 hm
  obtain ⟨n0, n1⟩ := Bool.and_eq_true_iff.mp n0
  obtain ⟨e1, ds, g1, g2⟩ := chkAll_ok h2 hq
  have s := Sim.run (rr := rr) (k := k) (f0 := c0) (f := c) q e (Se.sub hs)
  rw [g1] at s
  obtain ⟨e', s1, s2, _, s4⟩ := s
  refine ⟨e', s1, e0, hm, ?_⟩
  exact {
    len := Se.len.trans s4.len.symm
    at_ := fun i s hi w => by
      obtain ⟨d, rfl⟩ := noOw_at n0 i s hi w
      have w2 := Se.at_ i _ hi w
      rcases s4.at_ i hi with z | ⟨m, ds, z⟩
      · rw [z]; exact w2
      · rw [w2] at z; cases z
    dc := fun s w => by
      unfold isDc at n1
      split at n1
      · rename_i hk
        rw [nth_eq] at hk
        rw [hk] at w
        cases w
        obtain ⟨p', d', v1, v2, v3⟩ := s2.dc _ g2
        exact ⟨[], d', rfl, v2, v3.valid⟩
      · cases n1 }
end
end LW
namespace LW
open PySem PySem.Spec PyProof.Rows L2
section
variable {rr : RunM} {k : Nat}
def covSub (k : Nat) (Q : List LEnv) : List LEnv → List Nat → Bool
  | [], [] => true
  | e :: S, j :: js => (match nth Q j with
    | some q => subE k q e
    | none => false) && covSub k Q S js
  | _, _ => false
theorem covSub_ok {Q : List LEnv} {e0 : LEnv} : ∀ {S : List LEnv} {js : List Nat}, covSub k Q S js = true → e0 ∈ S → ∃ q ∈ Q, subE k q e0 = true
  | [], _, _, h => by cases h
  | _ :: _, [], h, _ => by cases h
  | x :: S, j :: js, h, hm => by
    obtain ⟨h2, h3⟩ := Bool.and_eq_true_iff.mp (show ((match nth Q j with | some q => subE k q x | none => false) && covSub k Q S js) = true from h)
    rcases List.mem_cons.mp hm with z | hm
    · subst z
      split at h2
      · rename_i q hq
        rw [nth_eq] at hq
        exact ⟨q, List.mem_of_getElem? hq, h2⟩
      · cases h2
    · exact covSub_ok h3 hm
theorem good_up {m : MS} {S S1 S2 : List LEnv} {js : List Nat} (h : Good rr k S m S1) (h2 : covSub k S2 S1 js = true) : Good rr k S m S2 := fun e c => by
  obtain ⟨e', g, e0, hm, Se⟩ := h e c
  obtain ⟨q, hq, hs⟩ := covSub_ok h2 hm
  exact ⟨e', g, q, hq, Se.sub hs⟩
end
end LW
namespace LW
open PySem PySem.Spec PyProof.Rows L2
section
variable {rr : RunM} {k : Nat}
theorem good_app {m : MS} {A B S : List LEnv} (h1 : Good rr k A m S) (h2 : Good rr k B m S) : Good rr k (A ++ B) m S := fun e ⟨e0, hm, Se⟩ => by
  rcases List.mem_append.mp hm with z | z
  · exact h1 e ⟨e0, z, Se⟩
  · exact h2 e ⟨e0, z, Se⟩
theorem chk_app {c : MT} : ∀ {A B : List LEnv}, chkAll k c A = true → chkAll k c B = true → chkAll k c (A ++ B) = true
  | [], B, _, h => h
  | x :: A, B, h, h2 => by
    obtain ⟨a, b⟩ := Bool.and_eq_true_iff.mp (show ((match c x with | .ok (e1, false) => (match nth e1 k with | some (some (.ow true _)) => true | _ => false) | _ => false) && chkAll k c A) = true from h)
    exact Bool.and_eq_true_iff.mpr ⟨a, chk_app b h2⟩
end
end LW

namespace LW
open PySem PySem.Spec PyProof.Rows L2
/-! ### the law's own dice: the same text in each law -/
def k_roll : MS := (mSeq (mIfS (mtOr (mtB (mOp iEq (mIxV 0 (mC (.int 2))) (mC (.int 2)))) (mtAnd (mtB (mOp iEq (mIxV 0 (mC (.int 2))) (mC (.int 1)))) (mtB (mOp (iCmp fun i j => decide (j < i)) (mIxV 0 (mC (.int 0))) (mC (.int 0)))))) (mSeq (mAsg (bName 2) (mOp iMod (mCa cInt (maCons (mIxV 0 (mC (.int 0))) maNil)) (mVar 1)))
  (mSeq (mSetV 0 (mC (.int 0)) (mOp iDiv (mIxV 0 (mC (.int 0))) (mVar 1)))
  (mRet (mVar 2)))) mNext)
  (mSeq (mSetV 0 (mC (.int 2)) (mC (.int 0)))
  (mSeq (mSetV 0 (mC (.int 0)) (mOp iMod (mCa cInt (maCons (mOp iAddA (mOp iAddA (mOp iMulA (mIxV 0 (mC (.int 0))) (mC (.int 48271))) (mOp iMulA (mIxV 0 (mC (.int 1))) (mC (.int 69621)))) (mC (.int 11))) maNil)) (mC (.int 2147483647))))
  (mSeq (mSetV 0 (mC (.int 1)) (mOp iAddA (mIxV 0 (mC (.int 1))) (mC (.int 1))))
  (mRet (mOp iMod (mCa cInt (maCons (mOp iAddA (mOp iDiv (mIxV 0 (mC (.int 0))) (mC (.int 7))) (mIxV 0 (mC (.int 0)))) maNil)) (mVar 1)))))))
def kr_roll : RunM := runM 3 k_roll
def k_dice : MS := (mSeq (mIfS (mtB (mChain (iCmp fun i j => decide (i < j)) (iCmp fun i j => decide (i < j)) (mOp iSub (mC (.int 0)) (mC (.int 10))) (mVar 0) (mC (.int 10)))) (mRet (mLst (maCons (mCa cAbs (maCons (mVar 0) maNil)) (maCons (mC (.int 0)) (maCons (mC (.int 2)) maNil))))) mNext)
  (mRet (mLst (maCons (mVar 0) (maCons (mOp iAddA (mC (.int 1)) (mOp iMod (mCa cInt (maCons (mVar 0) maNil)) (mC (.int 1009)))) (maCons (mCa cInt (maCons (mOp (iCmp fun i j => decide (j ≤ i)) (mVar 0) (mOp iPow (mC (.int 10)) (mC (.int 18)))) maNil)) maNil))))))
def kr_dice : List PyData → R PyData := runS 1 k_dice
def k_rounds : MS := (mSeq (mIfS (mtB (mOp iEq (mVar 2) (mLst maNil))) (mAsg (bName 2) (mLst (maCons (mC (.int 0)) maNil))) mNext)
  (mRet (mComp [3] (miSeq (mVar 2)) (bName 3) mtYes (mCall 1 kr_dice (maCons (mVar 3) maNil)))))
section
theorem isL2 (a b : PyData) (r : List PyData) : isL (a :: b :: r) = true := by
  unfold isL
  split
  · rename_i h; injection h with _ h2; cases h2
  · rfl
theorem ixD0 (a : PyData) (r : List PyData) : ixD 0 (a :: r) = .ok a := rfl
theorem ixD1 (a b : PyData) (r : List PyData) : ixD 1 (a :: b :: r) = .ok b := rfl
theorem ixD2 (a b c : PyData) (r : List PyData) : ixD 2 (a :: b :: c :: r) = .ok c := rfl
theorem set0 (a b c v : PyData) (r : LEnv) : setAt 0 (some (.ow true [a, b, c]) :: r) (.int 0) v = .nx (some (.ow true [v, b, c]) :: r) := by
  have h : isL [a, b, c] = true := isL2 _ _ _
  unfold setAt
  simp [nth, h]
  rfl
theorem set1 (a b c v : PyData) (r : LEnv) : setAt 0 (some (.ow true [a, b, c]) :: r) (.int 1) v = .nx (some (.ow true [a, v, c]) :: r) := by
  have h : isL [a, b, c] = true := isL2 _ _ _
  unfold setAt
  simp [nth, h]
  rfl
theorem set2 (a b c v : PyData) (r : LEnv) : setAt 0 (some (.ow true [a, b, c]) :: r) (.int 2) v = .nx (some (.ow true [a, b, v]) :: r) := by
  have h : isL [a, b, c] = true := isL2 _ _ _
  unfold setAt
  simp [nth, h]
  rfl
theorem blt_of {n m : Nat} (h : n < m) : Nat.blt n m = true := Nat.ble_eq_true_of_le h
theorem divOk_of {n : Int} (h0 : 0 < n) (h1 : n < 1000000) : divOk n = true ∧ notZ n = true := by
  cases n with
  | negSucc m => exact absurd h0 (by omega)
  | ofNat m =>
    cases m with
    | zero => exact absurd h0 (by decide)
    | succ m =>
      have h1 : m + 1 < 1073741824 := by
        have : ((m + 1 : Nat) : Int) < 1000000 := h1
        omega
      refine ⟨?_, rfl⟩
      unfold divOk
      exact Bool.and_eq_true_iff.mpr ⟨rfl, blt_of h1⟩
theorem roll_ok (x y t : Int) (n : Int) (n0 : 0 < n) (n1 : n < 1000000) : ∃ (x' y' t' v : Int), kr_roll [.int x, .int y, .int t] [.int n] = .ok ([.int x', .int y', .int t'], .int v) ∧ 0 ≤ v ∧ v < n := by
  obtain ⟨g2, g1⟩ := divOk_of n0 n1
  have g3 : lowI 48271 = true := rfl
  have g4 : lowI 69621 = true := rfl
  have g5 : notZ 2147483647 = true := rfl
  have g6 : divOk 7 = true := rfl
  by_cases h : (t == 2) = true ∨ ((t == 1) = true ∧ decide (0 < x) = true)
  · refine ⟨x.fdiv n, y, t, x.fmod n, ?_, Int.fmod_nonneg_of_pos _ n0, Int.fmod_lt_of_pos _ n0⟩
    rcases h with h | ⟨h1, h2⟩
    · simp [mtOr, mtAnd, mtB, mtTru, mOp, mCall, mCallM, mCallStar, maCons, maNil, mIxV, mVar, mC, nth, LW.R.bind, lif, gd, iNe, iEq, iMulA, iAddA, iSub, iIx, iCmp, mIf, mTup, mLst, mIfS, bindS, mSeq, mNext, mRet, mRai, mAsg, bName, eqF, eqA, shF, shA, deep, noRai, mUn, uNeg, truD, seqOf, mCa, cGcd, cInt, runM, outM, outT, startM, startE, iDiv, iMod, mSetV, LW.small, isL2, kr_roll, k_roll, h, g1, g2, ixD0, ixD1, ixD2, set0, set1, set2]
    · have h3 : (t == 2) = false := by
        have := eq_of_beq h1
        subst this; rfl
      simp [mtOr, mtAnd, mtB, mtTru, mOp, mCall, mCallM, mCallStar, maCons, maNil, mIxV, mVar, mC, nth, LW.R.bind, lif, gd, iNe, iEq, iMulA, iAddA, iSub, iIx, iCmp, mIf, mTup, mLst, mIfS, bindS, mSeq, mNext, mRet, mRai, mAsg, bName, eqF, eqA, shF, shA, deep, noRai, mUn, uNeg, truD, seqOf, mCa, cGcd, cInt, runM, outM, outT, startM, startE, iDiv, iMod, mSetV, LW.small, isL2, kr_roll, k_roll, h1, h2, h3, g1, g2, ixD0, ixD1, ixD2, set0, set1, set2]
  · have h3 : (t == 2) = false := by
      cases q : (t == 2) with
      | true => exact absurd (.inl q) h
      | false => rfl
    refine ⟨(x * 48271 + y * 69621 + 11).fmod 2147483647, y + 1, 0, (((x * 48271 + y * 69621 + 11).fmod 2147483647).fdiv 7 + (x * 48271 + y * 69621 + 11).fmod 2147483647).fmod n, ?_, Int.fmod_nonneg_of_pos _ n0, Int.fmod_lt_of_pos _ n0⟩
    cases q1 : (t == 1) with
    | false => simp [mtOr, mtAnd, mtB, mtTru, mOp, mCall, mCallM, mCallStar, maCons, maNil, mIxV, mVar, mC, nth, LW.R.bind, lif, gd, iNe, iEq, iMulA, iAddA, iSub, iIx, iCmp, mIf, mTup, mLst, mIfS, bindS, mSeq, mNext, mRet, mRai, mAsg, bName, eqF, eqA, shF, shA, deep, noRai, mUn, uNeg, truD, seqOf, mCa, cGcd, cInt, runM, outM, outT, startM, startE, iDiv, iMod, mSetV, LW.small, isL2, kr_roll, k_roll, q1, h3, g1, g2, g3, g4, g5, g6, ixD0, ixD1, ixD2, set0, set1, set2]
    | true =>
      have q2 : decide (0 < x) = false := by
        cases q : decide (0 < x) with
        | true => exact absurd (.inr ⟨q1, q⟩) h
        | false => rfl
      simp [mtOr, mtAnd, mtB, mtTru, mOp, mCall, mCallM, mCallStar, maCons, maNil, mIxV, mVar, mC, nth, LW.R.bind, lif, gd, iNe, iEq, iMulA, iAddA, iSub, iIx, iCmp, mIf, mTup, mLst, mIfS, bindS, mSeq, mNext, mRet, mRai, mAsg, bName, eqF, eqA, shF, shA, deep, noRai, mUn, uNeg, truD, seqOf, mCa, cGcd, cInt, runM, outM, outT, startM, startE, iDiv, iMod, mSetV, LW.small, isL2, kr_roll, k_roll, q1, q2, h3, g1, g2, g3, g4, g5, g6, ixD0, ixD1, ixD2, set0, set1, set2]
theorem dice_gen : Dice kr_roll := ⟨fun d ⟨x, y, t, hd⟩ m h0 h1 => by
  subst hd
  obtain ⟨x', y', t', v, e, v0, v1⟩ := roll_ok x y t (.ofNat m) (Int.ofNat_lt.mpr h0) (Int.ofNat_lt.mpr h1)
  match v, v0, v1, e with
  | .ofNat r, _, v1, e => exact ⟨_, r, e, Int.ofNat_lt.mp v1, x', y', t', rfl⟩⟩
theorem dice_eqG (z : Int) : kr_dice [.int z] = .ok (.list (intsD (diceOf z))) := by
  have g1 : powOk 10 18 = true := rfl
  have g2 : notZ 1009 = true := rfl
  have g3 : ((10 : Int) ^ (Int.toNat 18)) = 10 ^ 18 := rfl
  have g4 : ((0 : Int) - 10) = -10 := rfl
  have ab : (if z < 0 then -z else z) = (z.natAbs : Int) := by split <;> omega
  by_cases h1 : -10 < z
  · by_cases h2 : z < 10
    · have e : diceOf z = [(z.natAbs : Int), 0, 2] := if_pos ⟨h1, h2⟩
      rw [e]
      simp [mtOr, mtAnd, mtB, mtTru, mOp, mCall, mCallM, mCallStar, maCons, maNil, mIxV, mVar, mC, nth, LW.R.bind, lif, gd, iNe, iEq, iMulA, iAddA, iSub, iIx, iCmp, mIf, mTup, mLst, mIfS, bindS, mSeq, mNext, mRet, mRai, mAsg, bName, eqF, eqA, shF, shA, deep, noRai, mUn, uNeg, truD, seqOf, mCa, cAbs, cInt, iDiv, iMod, iPow, LW.small, mtYes, miSeq, mChain, runS, outS, startE, kr_dice, k_dice, g4, h1, h2, ab]
    · have e : diceOf z = [z, 1 + z.fmod 1009, if (10 : Int) ^ 18 ≤ z then 1 else 0] := if_neg fun h => h2 h.2
      rw [e]
      simp [mtOr, mtAnd, mtB, mtTru, mOp, mCall, mCallM, mCallStar, maCons, maNil, mIxV, mVar, mC, nth, LW.R.bind, lif, gd, iNe, iEq, iMulA, iAddA, iSub, iIx, iCmp, mIf, mTup, mLst, mIfS, bindS, mSeq, mNext, mRet, mRai, mAsg, bName, eqF, eqA, shF, shA, deep, noRai, mUn, uNeg, truD, seqOf, mCa, cAbs, cInt, iDiv, iMod, iPow, LW.small, mtYes, miSeq, mChain, runS, outS, startE, kr_dice, k_dice, g4, h1, h2, g1, g2, g3]
  · have e : diceOf z = [z, 1 + z.fmod 1009, if (10 : Int) ^ 18 ≤ z then 1 else 0] := if_neg fun h => h1 h.1
    rw [e]
    simp [mtOr, mtAnd, mtB, mtTru, mOp, mCall, mCallM, mCallStar, maCons, maNil, mIxV, mVar, mC, nth, LW.R.bind, lif, gd, iNe, iEq, iMulA, iAddA, iSub, iIx, iCmp, mIf, mTup, mLst, mIfS, bindS, mSeq, mNext, mRet, mRai, mAsg, bName, eqF, eqA, shF, shA, deep, noRai, mUn, uNeg, truD, seqOf, mCa, cAbs, cInt, iDiv, iMod, iPow, LW.small, mtYes, miSeq, mChain, runS, outS, startE, kr_dice, k_dice, g4, h1, g1, g2, g3]
end
abbrev slI (i : Int) : Option Sl := some (.sh (.int i))
abbrev slD (d : PyData) : Option Sl := some (.sh d)
def roundE : M := mCall 1 kr_dice (maCons (mVar 3) maNil)
theorem round1 (z : Int) : roundE [none, slI 1, slD (.list [.int z]), slI z] = .ok ([none, slI 1, slD (.list [.int z]), slI z], .list (intsD (diceOf z))) := by
  show lif _ (kr_dice [.int z]) = _
  rw [dice_eqG]
  rfl
theorem roundsC (z : Int) : compL [3] (bName 3) mtYes roundE [.int z] [none, slI 1, slD (.list [.int z]), none] = .ok ([none, slI 1, slD (.list [.int z]), none], [.list (intsD (diceOf z))]) := by
  show (noRai (roundE [none, slI 1, slD (.list [.int z]), slI z])).bind _ = _
  rw [round1]
  rfl
theorem roundsR (z : Int) : mRet (mComp [3] (miSeq (mVar 2)) (bName 3) mtYes roundE) [none, slI 1, slD (.list [.int z]), none] = .rt [none, slI 1, slD (.list [.int z]), none] (.list [.list (intsD (diceOf z))]) := by
  have h : mComp [3] (miSeq (mVar 2)) (bName 3) mtYes roundE [none, slI 1, slD (.list [.int z]), none] = .ok ([none, slI 1, slD (.list [.int z]), none], .list [.list (intsD (diceOf z))]) := by
    show (compL [3] (bName 3) mtYes roundE [.int z] [none, slI 1, slD (.list [.int z]), none]).bind _ = _
    rw [roundsC]
    rfl
  unfold mRet
  rw [h]
  rfl
theorem rounds0 : ∃ e, k_rounds [none, some (.sh (.int 1)), some (.sh (.list [])), none] = .rt e (.list [.list (intsD (diceOf 0))]) := ⟨_, roundsR 0⟩
theorem rounds1 (z : Int) : ∃ e, k_rounds [none, some (.sh (.int 1)), some (.sh (.list [.int z])), none] = .rt e (.list [.list (intsD (diceOf z))]) := ⟨_, roundsR z⟩
/-- the loop's start, as the sets of states begin -/
theorem cov_start (n : Nat) (z : Int) (hn : 2 ≤ n) : Cov kr_roll 1 [none :: some (.ow true []) :: List.replicate (n - 2) none] (startL n (diceOf z)) := by
  refine ⟨_, List.mem_singleton.mpr rfl, ?_⟩
  exact {
    len := rfl
    at_ := fun i s hi q => by
      match i, hi, q with
      | 0, _, q => cases q
      | 1, hi, _ => exact absurd rfl hi
      | i + 2, _, q =>
        rw [List.getElem?_cons_succ, List.getElem?_cons_succ, List.getElem?_replicate] at q
        split at q <;> cases q
    dc := fun s q => by
      cases q
      refine ⟨[], intsD (diceOf z), rfl, rfl, ?_⟩
      unfold diceOf
      split
      · exact ⟨_, _, _, rfl⟩
      · exact ⟨_, _, _, rfl⟩ }
theorem cov_end {rr : RunM} {k n : Nat} {S : List LEnv} {m : MS} {e : LEnv} {S0 : List LEnv} (h : Good rr k S0 m S) (c : Cov rr k S0 e) (hl : S.all (fun e => Nat.beq e.length n) = true) : ∃ e', m e = .nx e' ∧ e'.length = n := by
  obtain ⟨e', g, e0, hm, Se⟩ := h e c
  exact ⟨e', g, Se.len.symm.trans (Nat.eq_of_beq_eq_true (List.all_eq_true.mp hl e0 hm))⟩
instance : NeK 1 0 := ⟨by decide⟩
instance : NeK 1 2 := ⟨by decide⟩
instance : NeK 1 3 := ⟨by decide⟩
instance : NeK 1 4 := ⟨by decide⟩
instance : NeK 1 5 := ⟨by decide⟩
instance : NeK 1 6 := ⟨by decide⟩
instance : NeK 1 7 := ⟨by decide⟩
instance : NeK 1 8 := ⟨by decide⟩
instance : NeK 1 9 := ⟨by decide⟩
instance : NeK 1 10 := ⟨by decide⟩
instance : NeK 1 11 := ⟨by decide⟩
instance : NeK 1 12 := ⟨by decide⟩
instance : NeK 1 13 := ⟨by decide⟩
instance : NeK 1 14 := ⟨by decide⟩
instance : NeK 1 15 := ⟨by decide⟩
instance : NeK 1 16 := ⟨by decide⟩
instance : NeK 1 17 := ⟨by decide⟩
instance : NeK 1 18 := ⟨by decide⟩
instance : NeK 1 19 := ⟨by decide⟩
instance : NeK 1 20 := ⟨by decide⟩
instance : NeK 1 21 := ⟨by decide⟩
instance : NeK 1 22 := ⟨by decide⟩
instance : NeK 1 23 := ⟨by decide⟩
instance : NeK 1 24 := ⟨by decide⟩
instance : NeK 1 25 := ⟨by decide⟩
instance : NeK 1 26 := ⟨by decide⟩
instance : NeK 1 27 := ⟨by decide⟩
instance : NeK 1 28 := ⟨by decide⟩
instance : NeK 1 29 := ⟨by decide⟩
instance : NeK 1 30 := ⟨by decide⟩
instance : NeK 1 31 := ⟨by decide⟩
instance : NeK 1 32 := ⟨by decide⟩
instance : NeK 1 33 := ⟨by decide⟩
instance : NeK 1 34 := ⟨by decide⟩
instance : NeK 1 35 := ⟨by decide⟩
instance : NeK 1 36 := ⟨by decide⟩
instance : NeK 1 37 := ⟨by decide⟩
instance : NeK 1 38 := ⟨by decide⟩
instance : NeK 1 39 := ⟨by decide⟩
instance : NeK 1 40 := ⟨by decide⟩
instance : NeK 1 41 := ⟨by decide⟩
instance : NeK 1 42 := ⟨by decide⟩
instance : NeK 1 43 := ⟨by decide⟩
instance : NeK 1 44 := ⟨by decide⟩
instance : NeK 1 45 := ⟨by decide⟩
instance : NeK 1 46 := ⟨by decide⟩
instance : NeK 1 47 := ⟨by decide⟩
instance : NeK 0 1 := ⟨by decide⟩
instance : NeK 0 2 := ⟨by decide⟩
instance : NeK 0 3 := ⟨by decide⟩
instance : NeK 0 4 := ⟨by decide⟩
instance : NeK 0 5 := ⟨by decide⟩
instance : NeK 0 6 := ⟨by decide⟩
instance : NeK 0 7 := ⟨by decide⟩
instance : NeK 0 8 := ⟨by decide⟩
instance : NeK 0 9 := ⟨by decide⟩
instance : NeK 0 10 := ⟨by decide⟩
instance : NeK 0 11 := ⟨by decide⟩
instance : NeK 0 12 := ⟨by decide⟩
instance : NeK 0 13 := ⟨by decide⟩
instance : NeK 0 14 := ⟨by decide⟩
instance : NeK 0 15 := ⟨by decide⟩
instance : NeK 0 16 := ⟨by decide⟩
instance : NeK 0 17 := ⟨by decide⟩
instance : NeK 0 18 := ⟨by decide⟩
instance : NeK 0 19 := ⟨by decide⟩
instance : NeK 0 20 := ⟨by decide⟩
instance : NeK 0 21 := ⟨by decide⟩
instance : NeK 0 22 := ⟨by decide⟩
instance : NeK 0 23 := ⟨by decide⟩
end LW

namespace LW
open PySem PySem.Spec PyProof.Rows L2
/-! ### swifter accounts of defs -/
class Swf (run0 run : List PyData → R PyData) : Prop where
  eq : ∀ ds, run0 ds ≠ .stuck → run ds = run0 ds
section
variable {rr : RunM} {k : Nat} {a0 a : MA} {f0 f : M}
instance (priority := low) sim_callS {n : Nat} {run0 run : List PyData → R PyData} [Swf run0 run] [Sim rr k a0 a] : Sim rr k (mCall n run0 a0) (mCall n run a) := ⟨fun e0 e S => (Sim.run (f0 := a0) (f := a) e0 e S).bind fun ds b0 b S1 => .gd (by
  cases q : run0 ds with
  | ok d => rw [Swf.eq (run0 := run0) (run := run) ds (by rw [q]; exact fun z => by cases z), q]; exact .lif S1 _
  | rai c => rw [Swf.eq (run0 := run0) (run := run) ds (by rw [q]; exact fun z => by cases z), q]; exact .lif S1 _
  | stuck => exact trivial)⟩
theorem startE_own {n : Nat} {ds : List PyData} {i : Nat} {s : Sl} (h : (startE n ds)[i]? = some (some s)) : ∃ d, s = .sh d := by
  rw [startE_get] at h
  split at h
  · cases q : ds[i]? with
    | none => rw [q] at h; cases h
    | some d => rw [q] at h; cases h; exact ⟨d, rfl⟩
  · split at h <;> cases h
/-- a def whose text is told by swifter ones -/
theorem swf_def {n : Nat} {m0 m : MS} (hn : n ≤ 99) (S : SimS orc 99 m0 m) : Swf (fun ds => bif Nat.ble ds.length n then runS n m0 ds else .stuck) (runS n m) := ⟨fun ds h => by
  cases c : Nat.ble ds.length n with
  | false => simp only [c] at h; exact absurd rfl h
  | true =>
    have hl := Nat.le_of_ble_eq_true c
    simp only [c] at h ⊢
    have len : (startE n ds).length = n := by unfold startE; rw [List.length_append, List.length_map, List.length_replicate]; omega
    have s := S.run (startE n ds) (startE n ds) {
      len := rfl
      at_ := fun _ _ _ q => q
      dc := fun s q => by rw [List.getElem?_eq_none (by rw [len]; omega)] at q; cases q }
    show outS (m (startE n ds)) = outS (m0 (startE n ds))
    cases q : m0 (startE n ds) with
    | nx p => rw [q] at s; obtain ⟨e', g, _⟩ := s; rw [g]; rfl
    | rt p d => rw [q] at s; obtain ⟨e', g, _⟩ := s; rw [g]; rfl
    | bk p => rw [q] at s; obtain ⟨e', g, _⟩ := s; rw [g]; rfl
    | ct p => rw [q] at s; obtain ⟨e', g, _⟩ := s; rw [g]; rfl
    | rai c' => rw [q] at s; have s : m (startE n ds) = .rai c' := s; rw [s]
    | stuck =>
      have h : runS n m0 ds ≠ .stuck := h
      exact absurd (by unfold runS; rw [q]; rfl) h⟩
end
/-! ### lists put one behind another -/
def k_flat : MS := (mSeq (mAsg (bName 1) (mLst maNil))
  (mSeq (mFor (miSeq (mVar 0)) (bName 2) (mAsg (bName 1) (mOp iAddA (mVar 1) (mVar 2))))
  (mRet (mVar 1))))
def flatD : List PyData → Option (List PyData)
  | [] => some []
  | .list r :: rest => (match flatD rest with
    | some l => some (r ++ l)
    | none => none)
  | _ => none
def sw_flat : List PyData → R PyData
  | [.list rows] => (match flatD rows with
    | some l => gd (Nat.ble l.length small) (.ok (.list l))
    | none => .stuck)
  | _ => .stuck
theorem flat_loop (R0 : Option Sl) : ∀ (rows l acc : List PyData) (x : Option Sl), flatD rows = some l → (acc ++ l).length ≤ small →
    ∃ x', forL (bName 2) (mAsg (bName 1) (mOp iAddA (mVar 1) (mVar 2))) rows [R0, slD (.list acc), x] = .nx [R0, slD (.list (acc ++ l)), x']
  | [], l, acc, x, h, _ => by cases h; exact ⟨x, by rw [List.append_nil]; rfl⟩
  | d :: rest, l, acc, x, h, hl => by
    match d, h with
    | .list r, h =>
      cases q : flatD rest with
      | none => simp [flatD, q] at h
      | some l2 =>
        simp [flatD, q] at h
        subst h
        have c : Nat.ble (acc.length + r.length) small = true := Nat.ble_eq_true_of_le (by
          rw [List.length_append, List.length_append] at hl
          omega)
        obtain ⟨x', e⟩ := flat_loop R0 rest l2 (acc ++ r) (slD (.list r)) q (by rw [List.append_assoc]; exact hl)
        refine ⟨x', ?_⟩
        rw [List.append_assoc] at e
        rw [← e]
        show (match (bindS (lif [R0, slD (.list acc), slD (.list r)] (gd (Nat.ble (acc.length + r.length) small) (.ok (.list (acc ++ r))))) fun p => match bName 1 p.2 p.1 with | .ok e => .nx e | _ => .stuck) with | .nx e2 => forL (bName 2) (mAsg (bName 1) (mOp iAddA (mVar 1) (mVar 2))) rest e2 | .ct e2 => forL (bName 2) (mAsg (bName 1) (mOp iAddA (mVar 1) (mVar 2))) rest e2 | .bk e2 => .nx e2 | .rt e2 d2 => .rt e2 d2 | .rai c => .rai c | .stuck => .stuck) = _
        rw [c]
        rfl
theorem swf_flat : Swf sw_flat (runS 3 k_flat) := ⟨fun ds h => by
  match ds, h with
  | [.list rows], h =>
    have h : (match flatD rows with | some l => gd (Nat.ble l.length small) (R.ok (PyData.list l)) | none => .stuck) ≠ .stuck := h
    show runS 3 k_flat [.list rows] = (match flatD rows with | some l => gd (Nat.ble l.length small) (R.ok (PyData.list l)) | none => .stuck)
    cases q : flatD rows with
    | none => simp only [q] at h; exact absurd rfl h
    | some l =>
      simp only [q] at h ⊢
      cases c : Nat.ble l.length small with
      | false => rw [c] at h; exact absurd rfl h
      | true =>
        obtain ⟨x', e⟩ := flat_loop (slD (.list rows)) rows l [] none q (by rw [List.nil_append]; exact Nat.le_of_ble_eq_true c)
        show outS (match (forL (bName 2) (mAsg (bName 1) (mOp iAddA (mVar 1) (mVar 2))) rows [slD (.list rows), slD (.list []), none]) with | .nx e => mRet (mVar 1) e | x => x) = _
        rw [e]
        rfl⟩
instance : NeK 99 0 := ⟨by decide⟩
instance : NeK 99 1 := ⟨by decide⟩
instance : NeK 99 2 := ⟨by decide⟩
instance : NeK 99 3 := ⟨by decide⟩
instance : NeK 99 4 := ⟨by decide⟩
instance : NeK 99 5 := ⟨by decide⟩
instance : NeK 99 6 := ⟨by decide⟩
instance : NeK 99 7 := ⟨by decide⟩
instance : NeK 99 8 := ⟨by decide⟩
instance : NeK 99 9 := ⟨by decide⟩
instance : NeK 99 10 := ⟨by decide⟩
instance : NeK 99 11 := ⟨by decide⟩
instance : NeK 99 12 := ⟨by decide⟩
instance : NeK 99 13 := ⟨by decide⟩
instance : NeK 99 14 := ⟨by decide⟩
instance : NeK 99 15 := ⟨by decide⟩
instance : NeK 99 16 := ⟨by decide⟩
instance : NeK 99 17 := ⟨by decide⟩
instance : NeK 99 18 := ⟨by decide⟩
instance : NeK 99 19 := ⟨by decide⟩
instance : NeK 99 20 := ⟨by decide⟩
instance : NeK 99 21 := ⟨by decide⟩
instance : NeK 99 22 := ⟨by decide⟩
instance : NeK 99 23 := ⟨by decide⟩
end LW

namespace LW
open PySem PySem.Spec PyProof.Rows L2
section
variable {rr : RunM} {k : Nat} {f0 f g0 g h0 h : M} {a0 a b0 b : MA} {t0 t u0 u : MT} {e0 e : LEnv}
theorem Fr.own {i : Nat} {m : Bool} {ds : List PyData} (q : e[i]? = some (some (.ow m ds))) (x : Option Sl) : Fr k e (e.set i x) := ⟨List.length_set .., fun j hj => by
  by_cases z : i = j
  · subst z; exact .inr ⟨m, ds, q⟩
  · exact .inl (List.getElem?_set_ne z)⟩
instance sim_show {i : Nat} [NeK k i] : Sim rr k (mShow i) (mShow i) := ⟨fun e0 e S => by
  unfold mShow
  rw [nth_eq e0]
  cases q : e0[i]? with
  | none => exact trivial
  | some o =>
    cases o with
    | none => exact trivial
    | some s =>
      rw [S.at_k NeK.ne q]
      cases s with
      | sh d => exact .ok S d
      | ow m ds => exact .gd ⟨_, rfl, S.set NeK.ne _, Fr.own q _, Fr.own (S.at_ i _ NeK.ne q) _⟩⟩
instance sims_app {i : Nat} [NeK k i] [Sim rr k f0 f] : SimS rr k (mApp i f0) (mApp i f) := ⟨fun e0 e S => by
  unfold mApp
  rw [nth_eq e0]
  cases q : e0[i]? with
  | none => exact trivial
  | some o =>
    cases o with
    | none => exact trivial
    | some s =>
      rw [S.at_k NeK.ne q]
      cases s with
      | sh d => exact trivial
      | ow m ds =>
        show RelS rr k (match isL ds with | true => bindS (f0 e0) fun p => appAt i p.1 p.2 | false => .stuck) (match isL ds with | true => bindS (f e) fun p => appAt i p.1 p.2 | false => .stuck)
        cases isL ds with
        | false => exact trivial
        | true =>
          refine RelS.bind (Sim.run (f0 := f0) (f := f) e0 e S) fun d c0 c S1 => ?_
          show RelS rr k (appAt i c0 d) (appAt i c d)
          unfold appAt
          rw [nth_eq c0]
          cases q2 : c0[i]? with
          | none => exact trivial
          | some o =>
            cases o with
            | none => exact trivial
            | some s2 =>
              rw [S1.at_k NeK.ne q2]
              cases s2 with
              | sh x => exact trivial
              | ow m2 ds2 =>
                show RelS rr k (match isL ds2 && Nat.blt ds2.length small with | true => .nx (c0.set i (some (.ow m2 (ds2 ++ [d])))) | false => .stuck) (match isL ds2 && Nat.blt ds2.length small with | true => .nx (c.set i (some (.ow m2 (ds2 ++ [d])))) | false => .stuck)
                cases (isL ds2 && Nat.blt ds2.length small) with
                | false => exact trivial
                | true => exact ⟨_, rfl, S1.set NeK.ne _⟩⟩
instance sim_index [Sim rr k f0 f] [Sim rr k g0 g] : Sim rr k (mIndex f0 g0) (mIndex f g) := ⟨fun e0 e S => (Sim.run (f0 := f0) (f := f) e0 e S).bind fun d _ _ S1 => by
  cases d with
  | list ds => exact (Sim.run (f0 := g0) (f := g) _ _ S1).bind fun _ _ _ S2 => .lif S2 _
  | _ => trivial⟩
theorem sim_inst {α : Type} {nm : Str} {d : PyData} {x0 x : List (PyData × PyData) → RE α} (h : ∀ es, SimR rr k e0 e (x0 es) (x es)) : SimR rr k e0 e (inst nm d x0) (inst nm d x) := by
  unfold inst
  split
  · split
    · exact h _
    · exact trivial
  · exact trivial
instance sim_meth {nm m : Str} {n : Nat} {run : List PyData → R PyData} [Sim rr k f0 f] [Sim rr k a0 a] : Sim rr k (mMeth nm m n run f0 a0) (mMeth nm m n run f a) := ⟨fun e0 e S => (Sim.run (f0 := f0) (f := f) e0 e S).bind fun d _ _ S1 => sim_inst fun es => .gd ((Sim.run (f0 := a0) (f := a) _ _ S1).bind fun _ _ _ S2 => .gd (.lif S2 _))⟩
instance sim_ret0 : Sim rr k (fun e : LEnv => (.ok (e, []) : RE (List PyData))) (fun e : LEnv => .ok (e, [])) := ⟨fun e0 e S => .ok S []⟩
instance sim_fld {nm m : Str} [Sim rr k f0 f] : Sim rr k (mFld nm m f0) (mFld nm m f) := ⟨fun e0 e S => (Sim.run (f0 := f0) (f := f) e0 e S).bind fun d _ _ S1 => sim_inst fun es => by
  cases fldD es m with
  | some d => exact .ok S1 d
  | none => exact trivial⟩
end
end LW

namespace K10
open PySem PySem.Spec PyProof.Rows L2 LW
def v0 : PyData := .list [.tuple [.int (.ofNat 0), .int (.ofNat 1)], .tuple [.int (.ofNat 1), .int (.ofNat 0)]]
def v1 : PyData := .list [.tuple [.int (.ofNat 0), .int (.ofNat 1), .int (.ofNat 2)], .tuple [.int (.ofNat 0), .int (.ofNat 2), .int (.ofNat 1)], .tuple [.int (.ofNat 1), .int (.ofNat 0), .int (.ofNat 2)], .tuple [.int (.ofNat 1), .int (.ofNat 2), .int (.ofNat 0)], .tuple [.int (.ofNat 2), .int (.ofNat 0), .int (.ofNat 1)], .tuple [.int (.ofNat 2), .int (.ofNat 1), .int (.ofNat 0)]]
def v2 : PyData := .tuple [.int (.ofNat 0), .int (.ofNat 1), .int (.ofNat 2), .int (.ofNat 3)]
def v3 : PyData := .tuple [.int (.ofNat 0), .int (.ofNat 1), .int (.ofNat 3), .int (.ofNat 2)]
def v4 : PyData := .tuple [.int (.ofNat 0), .int (.ofNat 2), .int (.ofNat 1), .int (.ofNat 3)]
def v5 : PyData := .tuple [.int (.ofNat 0), .int (.ofNat 2), .int (.ofNat 3), .int (.ofNat 1)]
def v6 : PyData := .tuple [.int (.ofNat 0), .int (.ofNat 3), .int (.ofNat 1), .int (.ofNat 2)]
def v7 : PyData := .tuple [.int (.ofNat 0), .int (.ofNat 3), .int (.ofNat 2), .int (.ofNat 1)]
def v8 : PyData := .tuple [.int (.ofNat 1), .int (.ofNat 0), .int (.ofNat 2), .int (.ofNat 3)]
def v9 : PyData := .tuple [.int (.ofNat 1), .int (.ofNat 0), .int (.ofNat 3), .int (.ofNat 2)]
def v10 : PyData := .tuple [.int (.ofNat 1), .int (.ofNat 2), .int (.ofNat 0), .int (.ofNat 3)]
def v11 : PyData := .tuple [.int (.ofNat 1), .int (.ofNat 2), .int (.ofNat 3), .int (.ofNat 0)]
def v12 : PyData := .tuple [.int (.ofNat 1), .int (.ofNat 3), .int (.ofNat 0), .int (.ofNat 2)]
def v13 : PyData := .tuple [.int (.ofNat 1), .int (.ofNat 3), .int (.ofNat 2), .int (.ofNat 0)]
def v14 : PyData := .tuple [.int (.ofNat 2), .int (.ofNat 0), .int (.ofNat 1), .int (.ofNat 3)]
def v15 : PyData := .tuple [.int (.ofNat 2), .int (.ofNat 0), .int (.ofNat 3), .int (.ofNat 1)]
def v16 : PyData := .tuple [.int (.ofNat 2), .int (.ofNat 1), .int (.ofNat 0), .int (.ofNat 3)]
def v17 : PyData := .tuple [.int (.ofNat 2), .int (.ofNat 1), .int (.ofNat 3), .int (.ofNat 0)]
def v18 : PyData := .tuple [.int (.ofNat 2), .int (.ofNat 3), .int (.ofNat 0), .int (.ofNat 1)]
def v19 : PyData := .tuple [.int (.ofNat 2), .int (.ofNat 3), .int (.ofNat 1), .int (.ofNat 0)]
def v20 : PyData := .tuple [.int (.ofNat 3), .int (.ofNat 0), .int (.ofNat 1), .int (.ofNat 2)]
def v21 : PyData := .tuple [.int (.ofNat 3), .int (.ofNat 0), .int (.ofNat 2), .int (.ofNat 1)]
def v22 : PyData := .tuple [.int (.ofNat 3), .int (.ofNat 1), .int (.ofNat 0), .int (.ofNat 2)]
def v23 : PyData := .tuple [.int (.ofNat 3), .int (.ofNat 1), .int (.ofNat 2), .int (.ofNat 0)]
def v24 : PyData := .tuple [.int (.ofNat 3), .int (.ofNat 2), .int (.ofNat 0), .int (.ofNat 1)]
def v25 : PyData := .tuple [.int (.ofNat 3), .int (.ofNat 2), .int (.ofNat 1), .int (.ofNat 0)]
def v26 : PyData := .list [v2, v3, v4, v5, v6, v7, v8, v9, v10, v11, v12, v13, v14, v15, v16, v17, v18, v19, v20, v21, v22, v23, v24, v25]
def v27 : PyData := .tuple [.int (.ofNat 0), .int (.ofNat 1), .int (.ofNat 2), .int (.ofNat 3), .int (.ofNat 4)]
def v28 : PyData := .tuple [.int (.ofNat 0), .int (.ofNat 1), .int (.ofNat 2), .int (.ofNat 4), .int (.ofNat 3)]
def v29 : PyData := .tuple [.int (.ofNat 0), .int (.ofNat 1), .int (.ofNat 3), .int (.ofNat 2), .int (.ofNat 4)]
def v30 : PyData := .tuple [.int (.ofNat 0), .int (.ofNat 1), .int (.ofNat 3), .int (.ofNat 4), .int (.ofNat 2)]
def v31 : PyData := .tuple [.int (.ofNat 0), .int (.ofNat 1), .int (.ofNat 4), .int (.ofNat 2), .int (.ofNat 3)]
def v32 : PyData := .tuple [.int (.ofNat 0), .int (.ofNat 1), .int (.ofNat 4), .int (.ofNat 3), .int (.ofNat 2)]
def v33 : PyData := .tuple [.int (.ofNat 0), .int (.ofNat 2), .int (.ofNat 1), .int (.ofNat 3), .int (.ofNat 4)]
def v34 : PyData := .tuple [.int (.ofNat 0), .int (.ofNat 2), .int (.ofNat 1), .int (.ofNat 4), .int (.ofNat 3)]
def v35 : PyData := .tuple [.int (.ofNat 0), .int (.ofNat 2), .int (.ofNat 3), .int (.ofNat 1), .int (.ofNat 4)]
def v36 : PyData := .tuple [.int (.ofNat 0), .int (.ofNat 2), .int (.ofNat 3), .int (.ofNat 4), .int (.ofNat 1)]
def v37 : PyData := .tuple [.int (.ofNat 0), .int (.ofNat 2), .int (.ofNat 4), .int (.ofNat 1), .int (.ofNat 3)]
def v38 : PyData := .tuple [.int (.ofNat 0), .int (.ofNat 2), .int (.ofNat 4), .int (.ofNat 3), .int (.ofNat 1)]
def v39 : PyData := .tuple [.int (.ofNat 0), .int (.ofNat 3), .int (.ofNat 1), .int (.ofNat 2), .int (.ofNat 4)]
def v40 : PyData := .tuple [.int (.ofNat 0), .int (.ofNat 3), .int (.ofNat 1), .int (.ofNat 4), .int (.ofNat 2)]
def v41 : PyData := .tuple [.int (.ofNat 0), .int (.ofNat 3), .int (.ofNat 2), .int (.ofNat 1), .int (.ofNat 4)]
def v42 : PyData := .tuple [.int (.ofNat 0), .int (.ofNat 3), .int (.ofNat 2), .int (.ofNat 4), .int (.ofNat 1)]
def v43 : PyData := .tuple [.int (.ofNat 0), .int (.ofNat 3), .int (.ofNat 4), .int (.ofNat 1), .int (.ofNat 2)]
def v44 : PyData := .tuple [.int (.ofNat 0), .int (.ofNat 3), .int (.ofNat 4), .int (.ofNat 2), .int (.ofNat 1)]
def v45 : PyData := .tuple [.int (.ofNat 0), .int (.ofNat 4), .int (.ofNat 1), .int (.ofNat 2), .int (.ofNat 3)]
def v46 : PyData := .tuple [.int (.ofNat 0), .int (.ofNat 4), .int (.ofNat 1), .int (.ofNat 3), .int (.ofNat 2)]
def v47 : PyData := .tuple [.int (.ofNat 0), .int (.ofNat 4), .int (.ofNat 2), .int (.ofNat 1), .int (.ofNat 3)]
def v48 : PyData := .tuple [.int (.ofNat 0), .int (.ofNat 4), .int (.ofNat 2), .int (.ofNat 3), .int (.ofNat 1)]
def v49 : PyData := .tuple [.int (.ofNat 0), .int (.ofNat 4), .int (.ofNat 3), .int (.ofNat 1), .int (.ofNat 2)]
def v50 : PyData := .tuple [.int (.ofNat 0), .int (.ofNat 4), .int (.ofNat 3), .int (.ofNat 2), .int (.ofNat 1)]
def v51 : PyData := .tuple [.int (.ofNat 1), .int (.ofNat 0), .int (.ofNat 2), .int (.ofNat 3), .int (.ofNat 4)]
def v52 : PyData := .tuple [.int (.ofNat 1), .int (.ofNat 0), .int (.ofNat 2), .int (.ofNat 4), .int (.ofNat 3)]
def v53 : PyData := .tuple [.int (.ofNat 1), .int (.ofNat 0), .int (.ofNat 3), .int (.ofNat 2), .int (.ofNat 4)]
def v54 : PyData := .tuple [.int (.ofNat 1), .int (.ofNat 0), .int (.ofNat 3), .int (.ofNat 4), .int (.ofNat 2)]
def v55 : PyData := .tuple [.int (.ofNat 1), .int (.ofNat 0), .int (.ofNat 4), .int (.ofNat 2), .int (.ofNat 3)]
def v56 : PyData := .tuple [.int (.ofNat 1), .int (.ofNat 0), .int (.ofNat 4), .int (.ofNat 3), .int (.ofNat 2)]
def v57 : PyData := .tuple [.int (.ofNat 1), .int (.ofNat 2), .int (.ofNat 0), .int (.ofNat 3), .int (.ofNat 4)]
def v58 : PyData := .tuple [.int (.ofNat 1), .int (.ofNat 2), .int (.ofNat 0), .int (.ofNat 4), .int (.ofNat 3)]
def v59 : PyData := .tuple [.int (.ofNat 1), .int (.ofNat 2), .int (.ofNat 3), .int (.ofNat 0), .int (.ofNat 4)]
def v60 : PyData := .tuple [.int (.ofNat 1), .int (.ofNat 2), .int (.ofNat 3), .int (.ofNat 4), .int (.ofNat 0)]
def v61 : PyData := .tuple [.int (.ofNat 1), .int (.ofNat 2), .int (.ofNat 4), .int (.ofNat 0), .int (.ofNat 3)]
def v62 : PyData := .tuple [.int (.ofNat 1), .int (.ofNat 2), .int (.ofNat 4), .int (.ofNat 3), .int (.ofNat 0)]
def v63 : PyData := .tuple [.int (.ofNat 1), .int (.ofNat 3), .int (.ofNat 0), .int (.ofNat 2), .int (.ofNat 4)]
def v64 : PyData := .tuple [.int (.ofNat 1), .int (.ofNat 3), .int (.ofNat 0), .int (.ofNat 4), .int (.ofNat 2)]
def v65 : PyData := .tuple [.int (.ofNat 1), .int (.ofNat 3), .int (.ofNat 2), .int (.ofNat 0), .int (.ofNat 4)]
def v66 : PyData := .tuple [.int (.ofNat 1), .int (.ofNat 3), .int (.ofNat 2), .int (.ofNat 4), .int (.ofNat 0)]
def v67 : PyData := .tuple [.int (.ofNat 1), .int (.ofNat 3), .int (.ofNat 4), .int (.ofNat 0), .int (.ofNat 2)]
def v68 : PyData := .tuple [.int (.ofNat 1), .int (.ofNat 3), .int (.ofNat 4), .int (.ofNat 2), .int (.ofNat 0)]
def v69 : PyData := .tuple [.int (.ofNat 1), .int (.ofNat 4), .int (.ofNat 0), .int (.ofNat 2), .int (.ofNat 3)]
def v70 : PyData := .tuple [.int (.ofNat 1), .int (.ofNat 4), .int (.ofNat 0), .int (.ofNat 3), .int (.ofNat 2)]
def v71 : PyData := .tuple [.int (.ofNat 1), .int (.ofNat 4), .int (.ofNat 2), .int (.ofNat 0), .int (.ofNat 3)]
def v72 : PyData := .tuple [.int (.ofNat 1), .int (.ofNat 4), .int (.ofNat 2), .int (.ofNat 3), .int (.ofNat 0)]
def v73 : PyData := .tuple [.int (.ofNat 1), .int (.ofNat 4), .int (.ofNat 3), .int (.ofNat 0), .int (.ofNat 2)]
def v74 : PyData := .tuple [.int (.ofNat 1), .int (.ofNat 4), .int (.ofNat 3), .int (.ofNat 2), .int (.ofNat 0)]
def v75 : PyData := .tuple [.int (.ofNat 2), .int (.ofNat 0), .int (.ofNat 1), .int (.ofNat 3), .int (.ofNat 4)]
def v76 : PyData := .tuple [.int (.ofNat 2), .int (.ofNat 0), .int (.ofNat 1), .int (.ofNat 4), .int (.ofNat 3)]
def v77 : PyData := .tuple [.int (.ofNat 2), .int (.ofNat 0), .int (.ofNat 3), .int (.ofNat 1), .int (.ofNat 4)]
def v78 : PyData := .tuple [.int (.ofNat 2), .int (.ofNat 0), .int (.ofNat 3), .int (.ofNat 4), .int (.ofNat 1)]
def v79 : PyData := .tuple [.int (.ofNat 2), .int (.ofNat 0), .int (.ofNat 4), .int (.ofNat 1), .int (.ofNat 3)]
def v80 : PyData := .tuple [.int (.ofNat 2), .int (.ofNat 0), .int (.ofNat 4), .int (.ofNat 3), .int (.ofNat 1)]
def v81 : PyData := .tuple [.int (.ofNat 2), .int (.ofNat 1), .int (.ofNat 0), .int (.ofNat 3), .int (.ofNat 4)]
def v82 : PyData := .tuple [.int (.ofNat 2), .int (.ofNat 1), .int (.ofNat 0), .int (.ofNat 4), .int (.ofNat 3)]
def v83 : PyData := .tuple [.int (.ofNat 2), .int (.ofNat 1), .int (.ofNat 3), .int (.ofNat 0), .int (.ofNat 4)]
def v84 : PyData := .tuple [.int (.ofNat 2), .int (.ofNat 1), .int (.ofNat 3), .int (.ofNat 4), .int (.ofNat 0)]
def v85 : PyData := .tuple [.int (.ofNat 2), .int (.ofNat 1), .int (.ofNat 4), .int (.ofNat 0), .int (.ofNat 3)]
def v86 : PyData := .tuple [.int (.ofNat 2), .int (.ofNat 1), .int (.ofNat 4), .int (.ofNat 3), .int (.ofNat 0)]
def v87 : PyData := .tuple [.int (.ofNat 2), .int (.ofNat 3), .int (.ofNat 0), .int (.ofNat 1), .int (.ofNat 4)]
def v88 : PyData := .tuple [.int (.ofNat 2), .int (.ofNat 3), .int (.ofNat 0), .int (.ofNat 4), .int (.ofNat 1)]
def v89 : PyData := .tuple [.int (.ofNat 2), .int (.ofNat 3), .int (.ofNat 1), .int (.ofNat 0), .int (.ofNat 4)]
def v90 : PyData := .tuple [.int (.ofNat 2), .int (.ofNat 3), .int (.ofNat 1), .int (.ofNat 4), .int (.ofNat 0)]
def v91 : PyData := .tuple [.int (.ofNat 2), .int (.ofNat 3), .int (.ofNat 4), .int (.ofNat 0), .int (.ofNat 1)]
def v92 : PyData := .tuple [.int (.ofNat 2), .int (.ofNat 3), .int (.ofNat 4), .int (.ofNat 1), .int (.ofNat 0)]
def v93 : PyData := .tuple [.int (.ofNat 2), .int (.ofNat 4), .int (.ofNat 0), .int (.ofNat 1), .int (.ofNat 3)]
def v94 : PyData := .tuple [.int (.ofNat 2), .int (.ofNat 4), .int (.ofNat 0), .int (.ofNat 3), .int (.ofNat 1)]
def v95 : PyData := .tuple [.int (.ofNat 2), .int (.ofNat 4), .int (.ofNat 1), .int (.ofNat 0), .int (.ofNat 3)]
def v96 : PyData := .tuple [.int (.ofNat 2), .int (.ofNat 4), .int (.ofNat 1), .int (.ofNat 3), .int (.ofNat 0)]
def v97 : PyData := .tuple [.int (.ofNat 2), .int (.ofNat 4), .int (.ofNat 3), .int (.ofNat 0), .int (.ofNat 1)]
def v98 : PyData := .tuple [.int (.ofNat 2), .int (.ofNat 4), .int (.ofNat 3), .int (.ofNat 1), .int (.ofNat 0)]
def v99 : PyData := .tuple [.int (.ofNat 3), .int (.ofNat 0), .int (.ofNat 1), .int (.ofNat 2), .int (.ofNat 4)]
def v100 : PyData := .tuple [.int (.ofNat 3), .int (.ofNat 0), .int (.ofNat 1), .int (.ofNat 4), .int (.ofNat 2)]
def v101 : PyData := .tuple [.int (.ofNat 3), .int (.ofNat 0), .int (.ofNat 2), .int (.ofNat 1), .int (.ofNat 4)]
def v102 : PyData := .tuple [.int (.ofNat 3), .int (.ofNat 0), .int (.ofNat 2), .int (.ofNat 4), .int (.ofNat 1)]
def v103 : PyData := .tuple [.int (.ofNat 3), .int (.ofNat 0), .int (.ofNat 4), .int (.ofNat 1), .int (.ofNat 2)]
def v104 : PyData := .tuple [.int (.ofNat 3), .int (.ofNat 0), .int (.ofNat 4), .int (.ofNat 2), .int (.ofNat 1)]
def v105 : PyData := .tuple [.int (.ofNat 3), .int (.ofNat 1), .int (.ofNat 0), .int (.ofNat 2), .int (.ofNat 4)]
def v106 : PyData := .tuple [.int (.ofNat 3), .int (.ofNat 1), .int (.ofNat 0), .int (.ofNat 4), .int (.ofNat 2)]
def v107 : PyData := .tuple [.int (.ofNat 3), .int (.ofNat 1), .int (.ofNat 2), .int (.ofNat 0), .int (.ofNat 4)]
def v108 : PyData := .tuple [.int (.ofNat 3), .int (.ofNat 1), .int (.ofNat 2), .int (.ofNat 4), .int (.ofNat 0)]
def v109 : PyData := .tuple [.int (.ofNat 3), .int (.ofNat 1), .int (.ofNat 4), .int (.ofNat 0), .int (.ofNat 2)]
def v110 : PyData := .tuple [.int (.ofNat 3), .int (.ofNat 1), .int (.ofNat 4), .int (.ofNat 2), .int (.ofNat 0)]
def v111 : PyData := .tuple [.int (.ofNat 3), .int (.ofNat 2), .int (.ofNat 0), .int (.ofNat 1), .int (.ofNat 4)]
def v112 : PyData := .tuple [.int (.ofNat 3), .int (.ofNat 2), .int (.ofNat 0), .int (.ofNat 4), .int (.ofNat 1)]
def v113 : PyData := .tuple [.int (.ofNat 3), .int (.ofNat 2), .int (.ofNat 1), .int (.ofNat 0), .int (.ofNat 4)]
def v114 : PyData := .tuple [.int (.ofNat 3), .int (.ofNat 2), .int (.ofNat 1), .int (.ofNat 4), .int (.ofNat 0)]
def v115 : PyData := .tuple [.int (.ofNat 3), .int (.ofNat 2), .int (.ofNat 4), .int (.ofNat 0), .int (.ofNat 1)]
def v116 : PyData := .tuple [.int (.ofNat 3), .int (.ofNat 2), .int (.ofNat 4), .int (.ofNat 1), .int (.ofNat 0)]
def v117 : PyData := .tuple [.int (.ofNat 3), .int (.ofNat 4), .int (.ofNat 0), .int (.ofNat 1), .int (.ofNat 2)]
def v118 : PyData := .tuple [.int (.ofNat 3), .int (.ofNat 4), .int (.ofNat 0), .int (.ofNat 2), .int (.ofNat 1)]
def v119 : PyData := .tuple [.int (.ofNat 3), .int (.ofNat 4), .int (.ofNat 1), .int (.ofNat 0), .int (.ofNat 2)]
def v120 : PyData := .tuple [.int (.ofNat 3), .int (.ofNat 4), .int (.ofNat 1), .int (.ofNat 2), .int (.ofNat 0)]
def v121 : PyData := .tuple [.int (.ofNat 3), .int (.ofNat 4), .int (.ofNat 2), .int (.ofNat 0), .int (.ofNat 1)]
def v122 : PyData := .tuple [.int (.ofNat 3), .int (.ofNat 4), .int (.ofNat 2), .int (.ofNat 1), .int (.ofNat 0)]
def v123 : PyData := .tuple [.int (.ofNat 4), .int (.ofNat 0), .int (.ofNat 1), .int (.ofNat 2), .int (.ofNat 3)]
def v124 : PyData := .tuple [.int (.ofNat 4), .int (.ofNat 0), .int (.ofNat 1), .int (.ofNat 3), .int (.ofNat 2)]
def v125 : PyData := .tuple [.int (.ofNat 4), .int (.ofNat 0), .int (.ofNat 2), .int (.ofNat 1), .int (.ofNat 3)]
def v126 : PyData := .tuple [.int (.ofNat 4), .int (.ofNat 0), .int (.ofNat 2), .int (.ofNat 3), .int (.ofNat 1)]
def v127 : PyData := .tuple [.int (.ofNat 4), .int (.ofNat 0), .int (.ofNat 3), .int (.ofNat 1), .int (.ofNat 2)]
def v128 : PyData := .tuple [.int (.ofNat 4), .int (.ofNat 0), .int (.ofNat 3), .int (.ofNat 2), .int (.ofNat 1)]
def v129 : PyData := .tuple [.int (.ofNat 4), .int (.ofNat 1), .int (.ofNat 0), .int (.ofNat 2), .int (.ofNat 3)]
def v130 : PyData := .tuple [.int (.ofNat 4), .int (.ofNat 1), .int (.ofNat 0), .int (.ofNat 3), .int (.ofNat 2)]
def v131 : PyData := .tuple [.int (.ofNat 4), .int (.ofNat 1), .int (.ofNat 2), .int (.ofNat 0), .int (.ofNat 3)]
def v132 : PyData := .tuple [.int (.ofNat 4), .int (.ofNat 1), .int (.ofNat 2), .int (.ofNat 3), .int (.ofNat 0)]
def v133 : PyData := .tuple [.int (.ofNat 4), .int (.ofNat 1), .int (.ofNat 3), .int (.ofNat 0), .int (.ofNat 2)]
def v134 : PyData := .tuple [.int (.ofNat 4), .int (.ofNat 1), .int (.ofNat 3), .int (.ofNat 2), .int (.ofNat 0)]
def v135 : PyData := .tuple [.int (.ofNat 4), .int (.ofNat 2), .int (.ofNat 0), .int (.ofNat 1), .int (.ofNat 3)]
def v136 : PyData := .tuple [.int (.ofNat 4), .int (.ofNat 2), .int (.ofNat 0), .int (.ofNat 3), .int (.ofNat 1)]
def v137 : PyData := .tuple [.int (.ofNat 4), .int (.ofNat 2), .int (.ofNat 1), .int (.ofNat 0), .int (.ofNat 3)]
def v138 : PyData := .tuple [.int (.ofNat 4), .int (.ofNat 2), .int (.ofNat 1), .int (.ofNat 3), .int (.ofNat 0)]
def v139 : PyData := .tuple [.int (.ofNat 4), .int (.ofNat 2), .int (.ofNat 3), .int (.ofNat 0), .int (.ofNat 1)]
def v140 : PyData := .tuple [.int (.ofNat 4), .int (.ofNat 2), .int (.ofNat 3), .int (.ofNat 1), .int (.ofNat 0)]
def v141 : PyData := .tuple [.int (.ofNat 4), .int (.ofNat 3), .int (.ofNat 0), .int (.ofNat 1), .int (.ofNat 2)]
def v142 : PyData := .tuple [.int (.ofNat 4), .int (.ofNat 3), .int (.ofNat 0), .int (.ofNat 2), .int (.ofNat 1)]
def v143 : PyData := .tuple [.int (.ofNat 4), .int (.ofNat 3), .int (.ofNat 1), .int (.ofNat 0), .int (.ofNat 2)]
def v144 : PyData := .tuple [.int (.ofNat 4), .int (.ofNat 3), .int (.ofNat 1), .int (.ofNat 2), .int (.ofNat 0)]
def v145 : PyData := .tuple [.int (.ofNat 4), .int (.ofNat 3), .int (.ofNat 2), .int (.ofNat 0), .int (.ofNat 1)]
def v146 : PyData := .tuple [.int (.ofNat 4), .int (.ofNat 3), .int (.ofNat 2), .int (.ofNat 1), .int (.ofNat 0)]
def w147 : List PyData := [v27, v28, v29, v30, v31, v32, v33, v34, v35, v36, v37, v38, v39, v40, v41, v42, v43, v44, v45, v46, v47, v48, v49, v50]
def w148 : List PyData := [v51, v52, v53, v54, v55, v56, v57, v58, v59, v60, v61, v62, v63, v64, v65, v66, v67, v68, v69, v70, v71, v72, v73, v74]
def w149 : List PyData := [v75, v76, v77, v78, v79, v80, v81, v82, v83, v84, v85, v86, v87, v88, v89, v90, v91, v92, v93, v94, v95, v96, v97, v98]
def w150 : List PyData := [v99, v100, v101, v102, v103, v104, v105, v106, v107, v108, v109, v110, v111, v112, v113, v114, v115, v116, v117, v118, v119, v120, v121, v122]
def w151 : List PyData := [v123, v124, v125, v126, v127, v128, v129, v130, v131, v132, v133, v134, v135, v136, v137, v138, v139, v140, v141, v142, v143, v144, v145, v146]
def w152 : List PyData := [v27, v28, v29, v30, v31, v32, v33, v34, v35, v36, v37, v38, v39, v40, v41, v42, v43, v44, v45, v46, v47, v48, v49, v50]
def w153 : List PyData := [v51, v52, v53, v54, v55, v56, v57, v58, v59, v60, v61, v62, v63, v64, v65, v66, v67, v68, v69, v70, v71, v72, v73, v74]
def w154 : List PyData := [v75, v76, v77, v78, v79, v80, v81, v82, v83, v84, v85, v86, v87, v88, v89, v90, v91, v92, v93, v94, v95, v96, v97, v98]
def w155 : List PyData := [v99, v100, v101, v102, v103, v104, v105, v106, v107, v108, v109, v110, v111, v112, v113, v114, v115, v116, v117, v118, v119, v120, v121, v122]
def w156 : List PyData := [v123, v124, v125, v126, v127, v128, v129, v130, v131, v132, v133, v134, v135, v136, v137, v138, v139, v140, v141, v142, v143, v144, v145, v146]
def w157 : List PyData := [v27, v28, v29, v30, v31, v32, v33, v34, v35, v36, v37, v38, v39, v40, v41, v42, v43, v44, v45, v46, v47, v48, v49, v50]
def w158 : List PyData := [v51, v52, v53, v54, v55, v56, v57, v58, v59, v60, v61, v62, v63, v64, v65, v66, v67, v68, v69, v70, v71, v72, v73, v74]
def w159 : List PyData := [v75, v76, v77, v78, v79, v80, v81, v82, v83, v84, v85, v86, v87, v88, v89, v90, v91, v92, v93, v94, v95, v96, v97, v98]
def w160 : List PyData := [v99, v100, v101, v102, v103, v104, v105, v106, v107, v108, v109, v110, v111, v112, v113, v114, v115, v116, v117, v118, v119, v120, v121, v122]
def w161 : List PyData := [v123, v124, v125, v126, v127, v128, v129, v130, v131, v132, v133, v134, v135, v136, v137, v138, v139, v140, v141, v142, v143, v144, v145, v146]
def w162 : List PyData := [v27, v28, v29, v30, v31, v32, v33, v34, v35, v36, v37, v38, v39, v40, v41, v42, v43, v44, v45, v46, v47, v48, v49, v50]
def w163 : List PyData := [v51, v52, v53, v54, v55, v56, v57, v58, v59, v60, v61, v62, v63, v64, v65, v66, v67, v68, v69, v70, v71, v72, v73, v74]
def w164 : List PyData := [v75, v76, v77, v78, v79, v80, v81, v82, v83, v84, v85, v86, v87, v88, v89, v90, v91, v92, v93, v94, v95, v96, v97, v98]
def w165 : List PyData := [v99, v100, v101, v102, v103, v104, v105, v106, v107, v108, v109, v110, v111, v112, v113, v114, v115, v116, v117, v118, v119, v120, v121, v122]
def w166 : List PyData := [v123, v124, v125, v126, v127, v128, v129, v130, v131, v132, v133, v134, v135, v136, v137, v138, v139, v140, v141, v142, v143, v144, v145, v146]
def w167 : List PyData := [v27, v28, v29, v30, v31, v32, v33, v34, v35, v36, v37, v38, v39, v40, v41, v42, v43, v44, v45, v46, v47, v48, v49, v50]
def w168 : List PyData := [v51, v52, v53, v54, v55, v56, v57, v58, v59, v60, v61, v62, v63, v64, v65, v66, v67, v68, v69, v70, v71, v72, v73, v74]
def w169 : List PyData := [v75, v76, v77, v78, v79, v80, v81, v82, v83, v84, v85, v86, v87, v88, v89, v90, v91, v92, v93, v94, v95, v96, v97, v98]
def w170 : List PyData := [v99, v100, v101, v102, v103, v104, v105, v106, v107, v108, v109, v110, v111, v112, v113, v114, v115, v116, v117, v118, v119, v120, v121, v122]
def w171 : List PyData := [v123, v124, v125, v126, v127, v128, v129, v130, v131, v132, v133, v134, v135, v136, v137, v138, v139, v140, v141, v142, v143, v144, v145, v146]
def w172 : List PyData := [v27, v28, v29, v30, v31, v32, v33, v34, v35, v36, v37, v38, v39, v40, v41, v42, v43, v44, v45, v46, v47, v48, v49, v50]
def w173 : List PyData := [v51, v52, v53, v54, v55, v56, v57, v58, v59, v60, v61, v62, v63, v64, v65, v66, v67, v68, v69, v70, v71, v72, v73, v74]
def w174 : List PyData := [v75, v76, v77, v78, v79, v80, v81, v82, v83, v84, v85, v86, v87, v88, v89, v90, v91, v92, v93, v94, v95, v96, v97, v98]
def w175 : List PyData := [v99, v100, v101, v102, v103, v104, v105, v106, v107, v108, v109, v110, v111, v112, v113, v114, v115, v116, v117, v118, v119, v120, v121, v122]
def w176 : List PyData := [v123, v124, v125, v126, v127, v128, v129, v130, v131, v132, v133, v134, v135, v136, v137, v138, v139, v140, v141, v142, v143, v144, v145, v146]
def w177 : List PyData := [v27, v28, v29, v30, v31, v32, v33, v34, v35, v36, v37, v38, v39, v40, v41, v42, v43, v44, v45, v46, v47, v48, v49, v50]
def w178 : List PyData := [v51, v52, v53, v54, v55, v56, v57, v58, v59, v60, v61, v62, v63, v64, v65, v66, v67, v68, v69, v70, v71, v72, v73, v74]
def w179 : List PyData := [v75, v76, v77, v78, v79, v80, v81, v82, v83, v84, v85, v86, v87, v88, v89, v90, v91, v92, v93, v94, v95, v96, v97, v98]
def w180 : List PyData := [v99, v100, v101, v102, v103, v104, v105, v106, v107, v108, v109, v110, v111, v112, v113, v114, v115, v116, v117, v118, v119, v120, v121, v122]
def w181 : List PyData := [v123, v124, v125, v126, v127, v128, v129, v130, v131, v132, v133, v134, v135, v136, v137, v138, v139, v140, v141, v142, v143, v144, v145, v146]
def w182 : List PyData := [v27, v28, v29, v30, v31, v32, v33, v34, v35, v36, v37, v38, v39, v40, v41, v42, v43, v44, v45, v46, v47, v48, v49, v50]
def w183 : List PyData := [v51, v52, v53, v54, v55, v56, v57, v58, v59, v60, v61, v62, v63, v64, v65, v66, v67, v68, v69, v70, v71, v72, v73, v74]
def w184 : List PyData := [v75, v76, v77, v78, v79, v80, v81, v82, v83, v84, v85, v86, v87, v88, v89, v90, v91, v92, v93, v94, v95, v96, v97, v98]
def w185 : List PyData := [v99, v100, v101, v102, v103, v104, v105, v106, v107, v108, v109, v110, v111, v112, v113, v114, v115, v116, v117, v118, v119, v120, v121, v122]
def w186 : List PyData := [v123, v124, v125, v126, v127, v128, v129, v130, v131, v132, v133, v134, v135, v136, v137, v138, v139, v140, v141, v142, v143, v144, v145, v146]
def w187 : List PyData := [v27, v28, v29, v30, v31, v32, v33, v34, v35, v36, v37, v38, v39, v40, v41, v42, v43, v44, v45, v46, v47, v48, v49, v50]
def w188 : List PyData := [v51, v52, v53, v54, v55, v56, v57, v58, v59, v60, v61, v62, v63, v64, v65, v66, v67, v68, v69, v70, v71, v72, v73, v74]
def w189 : List PyData := [v75, v76, v77, v78, v79, v80, v81, v82, v83, v84, v85, v86, v87, v88, v89, v90, v91, v92, v93, v94, v95, v96, v97, v98]
def w190 : List PyData := [v99, v100, v101, v102, v103, v104, v105, v106, v107, v108, v109, v110, v111, v112, v113, v114, v115, v116, v117, v118, v119, v120, v121, v122]
def w191 : List PyData := [v123, v124, v125, v126, v127, v128, v129, v130, v131, v132, v133, v134, v135, v136, v137, v138, v139, v140, v141, v142, v143, v144, v145, v146]
def w192 : List PyData := [v27, v28, v29, v30, v31, v32, v33, v34, v35, v36, v37, v38, v39, v40, v41, v42, v43, v44, v45, v46, v47, v48, v49, v50]
def w193 : List PyData := [v51, v52, v53, v54, v55, v56, v57, v58, v59, v60, v61, v62, v63, v64, v65, v66, v67, v68, v69, v70, v71, v72, v73, v74]
def w194 : List PyData := [v75, v76, v77, v78, v79, v80, v81, v82, v83, v84, v85, v86, v87, v88, v89, v90, v91, v92, v93, v94, v95, v96, v97, v98]
def w195 : List PyData := [v99, v100, v101, v102, v103, v104, v105, v106, v107, v108, v109, v110, v111, v112, v113, v114, v115, v116, v117, v118, v119, v120, v121, v122]
def w196 : List PyData := [v123, v124, v125, v126, v127, v128, v129, v130, v131, v132, v133, v134, v135, v136, v137, v138, v139, v140, v141, v142, v143, v144, v145, v146]
def w197 : List PyData := [v27, v28, v29, v30, v31, v32, v33, v34, v35, v36, v37, v38, v39, v40, v41, v42, v43, v44, v45, v46, v47, v48, v49, v50]
def w198 : List PyData := [v51, v52, v53, v54, v55, v56, v57, v58, v59, v60, v61, v62, v63, v64, v65, v66, v67, v68, v69, v70, v71, v72, v73, v74]
def w199 : List PyData := [v75, v76, v77, v78, v79, v80, v81, v82, v83, v84, v85, v86, v87, v88, v89, v90, v91, v92, v93, v94, v95, v96, v97, v98]
def w200 : List PyData := [v99, v100, v101, v102, v103, v104, v105, v106, v107, v108, v109, v110, v111, v112, v113, v114, v115, v116, v117, v118, v119, v120, v121, v122]
def w201 : List PyData := [v123, v124, v125, v126, v127, v128, v129, v130, v131, v132, v133, v134, v135, v136, v137, v138, v139, v140, v141, v142, v143, v144, v145, v146]
def w202 : List PyData := [v27, v28, v29, v30, v31, v32, v33, v34, v35, v36, v37, v38, v39, v40, v41, v42, v43, v44, v45, v46, v47, v48, v49, v50]
def w203 : List PyData := [v51, v52, v53, v54, v55, v56, v57, v58, v59, v60, v61, v62, v63, v64, v65, v66, v67, v68, v69, v70, v71, v72, v73, v74]
def w204 : List PyData := [v75, v76, v77, v78, v79, v80, v81, v82, v83, v84, v85, v86, v87, v88, v89, v90, v91, v92, v93, v94, v95, v96, v97, v98]
def w205 : List PyData := [v99, v100, v101, v102, v103, v104, v105, v106, v107, v108, v109, v110, v111, v112, v113, v114, v115, v116, v117, v118, v119, v120, v121, v122]
def w206 : List PyData := [v123, v124, v125, v126, v127, v128, v129, v130, v131, v132, v133, v134, v135, v136, v137, v138, v139, v140, v141, v142, v143, v144, v145, v146]
def w207 : List PyData := [v27, v28, v29, v30, v31, v32, v33, v34, v35, v36, v37, v38, v39, v40, v41, v42, v43, v44, v45, v46, v47, v48, v49, v50]
def w208 : List PyData := [v51, v52, v53, v54, v55, v56, v57, v58, v59, v60, v61, v62, v63, v64, v65, v66, v67, v68, v69, v70, v71, v72, v73, v74]
def w209 : List PyData := [v75, v76, v77, v78, v79, v80, v81, v82, v83, v84, v85, v86, v87, v88, v89, v90, v91, v92, v93, v94, v95, v96, v97, v98]
def w210 : List PyData := [v99, v100, v101, v102, v103, v104, v105, v106, v107, v108, v109, v110, v111, v112, v113, v114, v115, v116, v117, v118, v119, v120, v121, v122]
def w211 : List PyData := [v123, v124, v125, v126, v127, v128, v129, v130, v131, v132, v133, v134, v135, v136, v137, v138, v139, v140, v141, v142, v143, v144, v145, v146]
def w212 : List PyData := [v27, v28, v29, v30, v31, v32, v33, v34, v35, v36, v37, v38, v39, v40, v41, v42, v43, v44, v45, v46, v47, v48, v49, v50]
def w213 : List PyData := [v51, v52, v53, v54, v55, v56, v57, v58, v59, v60, v61, v62, v63, v64, v65, v66, v67, v68, v69, v70, v71, v72, v73, v74]
def w214 : List PyData := [v75, v76, v77, v78, v79, v80, v81, v82, v83, v84, v85, v86, v87, v88, v89, v90, v91, v92, v93, v94, v95, v96, v97, v98]
def w215 : List PyData := [v99, v100, v101, v102, v103, v104, v105, v106, v107, v108, v109, v110, v111, v112, v113, v114, v115, v116, v117, v118, v119, v120, v121, v122]
def w216 : List PyData := [v123, v124, v125, v126, v127, v128, v129, v130, v131, v132, v133, v134, v135, v136, v137, v138, v139, v140, v141, v142, v143, v144, v145, v146]
def w217 : List PyData := [v27, v28, v29, v30, v31, v32, v33, v34, v35, v36, v37, v38, v39, v40, v41, v42, v43, v44, v45, v46, v47, v48, v49, v50]
def w218 : List PyData := [v51, v52, v53, v54, v55, v56, v57, v58, v59, v60, v61, v62, v63, v64, v65, v66, v67, v68, v69, v70, v71, v72, v73, v74]
def w219 : List PyData := [v75, v76, v77, v78, v79, v80, v81, v82, v83, v84, v85, v86, v87, v88, v89, v90, v91, v92, v93, v94, v95, v96, v97, v98]
def w220 : List PyData := [v99, v100, v101, v102, v103, v104, v105, v106, v107, v108, v109, v110, v111, v112, v113, v114, v115, v116, v117, v118, v119, v120, v121, v122]
def w221 : List PyData := [v123, v124, v125, v126, v127, v128, v129, v130, v131, v132, v133, v134, v135, v136, v137, v138, v139, v140, v141, v142, v143, v144, v145, v146]
def w222 : List PyData := [v27, v28, v29, v30, v31, v32, v33, v34, v35, v36, v37, v38, v39, v40, v41, v42, v43, v44, v45, v46, v47, v48, v49, v50]
def w223 : List PyData := [v51, v52, v53, v54, v55, v56, v57, v58, v59, v60, v61, v62, v63, v64, v65, v66, v67, v68, v69, v70, v71, v72, v73, v74]
def w224 : List PyData := [v75, v76, v77, v78, v79, v80, v81, v82, v83, v84, v85, v86, v87, v88, v89, v90, v91, v92, v93, v94, v95, v96, v97, v98]
def w225 : List PyData := [v99, v100, v101, v102, v103, v104, v105, v106, v107, v108, v109, v110, v111, v112, v113, v114, v115, v116, v117, v118, v119, v120, v121, v122]
def w226 : List PyData := [v123, v124, v125, v126, v127, v128, v129, v130, v131, v132, v133, v134, v135, v136, v137, v138, v139, v140, v141, v142, v143, v144, v145, v146]
def w227 : List PyData := [v27, v28, v29, v30, v31, v32, v33, v34, v35, v36, v37, v38, v39, v40, v41, v42, v43, v44, v45, v46, v47, v48, v49, v50]
def w228 : List PyData := [v51, v52, v53, v54, v55, v56, v57, v58, v59, v60, v61, v62, v63, v64, v65, v66, v67, v68, v69, v70, v71, v72, v73, v74]
def w229 : List PyData := [v75, v76, v77, v78, v79, v80, v81, v82, v83, v84, v85, v86, v87, v88, v89, v90, v91, v92, v93, v94, v95, v96, v97, v98]
def w230 : List PyData := [v99, v100, v101, v102, v103, v104, v105, v106, v107, v108, v109, v110, v111, v112, v113, v114, v115, v116, v117, v118, v119, v120, v121, v122]
def w231 : List PyData := [v123, v124, v125, v126, v127, v128, v129, v130, v131, v132, v133, v134, v135, v136, v137, v138, v139, v140, v141, v142, v143, v144, v145, v146]
def w232 : List PyData := [v27, v28, v29, v30, v31, v32, v33, v34, v35, v36, v37, v38, v39, v40, v41, v42, v43, v44, v45, v46, v47, v48, v49, v50]
def w233 : List PyData := [v51, v52, v53, v54, v55, v56, v57, v58, v59, v60, v61, v62, v63, v64, v65, v66, v67, v68, v69, v70, v71, v72, v73, v74]
def w234 : List PyData := [v75, v76, v77, v78, v79, v80, v81, v82, v83, v84, v85, v86, v87, v88, v89, v90, v91, v92, v93, v94, v95, v96, v97, v98]
def w235 : List PyData := [v99, v100, v101, v102, v103, v104, v105, v106, v107, v108, v109, v110, v111, v112, v113, v114, v115, v116, v117, v118, v119, v120, v121, v122]
def w236 : List PyData := [v123, v124, v125, v126, v127, v128, v129, v130, v131, v132, v133, v134, v135, v136, v137, v138, v139, v140, v141, v142, v143, v144, v145, v146]
def w237 : List PyData := [v27, v28, v29, v30, v31, v32, v33, v34, v35, v36, v37, v38, v39, v40, v41, v42, v43, v44, v45, v46, v47, v48, v49, v50]
def w238 : List PyData := [v51, v52, v53, v54, v55, v56, v57, v58, v59, v60, v61, v62, v63, v64, v65, v66, v67, v68, v69, v70, v71, v72, v73, v74]
def w239 : List PyData := [v75, v76, v77, v78, v79, v80, v81, v82, v83, v84, v85, v86, v87, v88, v89, v90, v91, v92, v93, v94, v95, v96, v97, v98]
def w240 : List PyData := [v99, v100, v101, v102, v103, v104, v105, v106, v107, v108, v109, v110, v111, v112, v113, v114, v115, v116, v117, v118, v119, v120, v121, v122]
def w241 : List PyData := [v123, v124, v125, v126, v127, v128, v129, v130, v131, v132, v133, v134, v135, v136, v137, v138, v139, v140, v141, v142, v143, v144, v145, v146]
def w242 : List PyData := [v27, v28, v29, v30, v31, v32, v33, v34, v35, v36, v37, v38, v39, v40, v41, v42, v43, v44, v45, v46, v47, v48, v49, v50]
def w243 : List PyData := [v51, v52, v53, v54, v55, v56, v57, v58, v59, v60, v61, v62, v63, v64, v65, v66, v67, v68, v69, v70, v71, v72, v73, v74]
def w244 : List PyData := [v75, v76, v77, v78, v79, v80, v81, v82, v83, v84, v85, v86, v87, v88, v89, v90, v91, v92, v93, v94, v95, v96, v97, v98]
def w245 : List PyData := [v99, v100, v101, v102, v103, v104, v105, v106, v107, v108, v109, v110, v111, v112, v113, v114, v115, v116, v117, v118, v119, v120, v121, v122]
def w246 : List PyData := [v123, v124, v125, v126, v127, v128, v129, v130, v131, v132, v133, v134, v135, v136, v137, v138, v139, v140, v141, v142, v143, v144, v145, v146]
def w247 : List PyData := [v27, v28, v29, v30, v31, v32, v33, v34, v35, v36, v37, v38, v39, v40, v41, v42, v43, v44, v45, v46, v47, v48, v49, v50]
def w248 : List PyData := [v51, v52, v53, v54, v55, v56, v57, v58, v59, v60, v61, v62, v63, v64, v65, v66, v67, v68, v69, v70, v71, v72, v73, v74]
def w249 : List PyData := [v75, v76, v77, v78, v79, v80, v81, v82, v83, v84, v85, v86, v87, v88, v89, v90, v91, v92, v93, v94, v95, v96, v97, v98]
def w250 : List PyData := [v99, v100, v101, v102, v103, v104, v105, v106, v107, v108, v109, v110, v111, v112, v113, v114, v115, v116, v117, v118, v119, v120, v121, v122]
def w251 : List PyData := [v123, v124, v125, v126, v127, v128, v129, v130, v131, v132, v133, v134, v135, v136, v137, v138, v139, v140, v141, v142, v143, v144, v145, v146]
def w252 : List PyData := [v27, v28, v29, v30, v31, v32, v33, v34, v35, v36, v37, v38, v39, v40, v41, v42, v43, v44, v45, v46, v47, v48, v49, v50]
def w253 : List PyData := [v51, v52, v53, v54, v55, v56, v57, v58, v59, v60, v61, v62, v63, v64, v65, v66, v67, v68, v69, v70, v71, v72, v73, v74]
def w254 : List PyData := [v75, v76, v77, v78, v79, v80, v81, v82, v83, v84, v85, v86, v87, v88, v89, v90, v91, v92, v93, v94, v95, v96, v97, v98]
def w255 : List PyData := [v99, v100, v101, v102, v103, v104, v105, v106, v107, v108, v109, v110, v111, v112, v113, v114, v115, v116, v117, v118, v119, v120, v121, v122]
def w256 : List PyData := [v123, v124, v125, v126, v127, v128, v129, v130, v131, v132, v133, v134, v135, v136, v137, v138, v139, v140, v141, v142, v143, v144, v145, v146]
def w257 : List PyData := [v27, v28, v29, v30, v31, v32, v33, v34, v35, v36, v37, v38, v39, v40, v41, v42, v43, v44, v45, v46, v47, v48, v49, v50]
def w258 : List PyData := [v51, v52, v53, v54, v55, v56, v57, v58, v59, v60, v61, v62, v63, v64, v65, v66, v67, v68, v69, v70, v71, v72, v73, v74]
def w259 : List PyData := [v75, v76, v77, v78, v79, v80, v81, v82, v83, v84, v85, v86, v87, v88, v89, v90, v91, v92, v93, v94, v95, v96, v97, v98]
def w260 : List PyData := [v99, v100, v101, v102, v103, v104, v105, v106, v107, v108, v109, v110, v111, v112, v113, v114, v115, v116, v117, v118, v119, v120, v121, v122]
def w261 : List PyData := [v123, v124, v125, v126, v127, v128, v129, v130, v131, v132, v133, v134, v135, v136, v137, v138, v139, v140, v141, v142, v143, v144, v145, v146]
def w262 : List PyData := [v27, v28, v29, v30, v31, v32, v33, v34, v35, v36, v37, v38, v39, v40, v41, v42, v43, v44, v45, v46, v47, v48, v49, v50]
def w263 : List PyData := [v51, v52, v53, v54, v55, v56, v57, v58, v59, v60, v61, v62, v63, v64, v65, v66, v67, v68, v69, v70, v71, v72, v73, v74]
def w264 : List PyData := [v75, v76, v77, v78, v79, v80, v81, v82, v83, v84, v85, v86, v87, v88, v89, v90, v91, v92, v93, v94, v95, v96, v97, v98]
def w265 : List PyData := [v99, v100, v101, v102, v103, v104, v105, v106, v107, v108, v109, v110, v111, v112, v113, v114, v115, v116, v117, v118, v119, v120, v121, v122]
def w266 : List PyData := [v123, v124, v125, v126, v127, v128, v129, v130, v131, v132, v133, v134, v135, v136, v137, v138, v139, v140, v141, v142, v143, v144, v145, v146]
def w267 : List PyData := [v27, v28, v29, v30, v31, v32, v33, v34, v35, v36, v37, v38, v39, v40, v41, v42, v43, v44, v45, v46, v47, v48, v49, v50]
def w268 : List PyData := [v51, v52, v53, v54, v55, v56, v57, v58, v59, v60, v61, v62, v63, v64, v65, v66, v67, v68, v69, v70, v71, v72, v73, v74]
def w269 : List PyData := [v75, v76, v77, v78, v79, v80, v81, v82, v83, v84, v85, v86, v87, v88, v89, v90, v91, v92, v93, v94, v95, v96, v97, v98]
def w270 : List PyData := [v99, v100, v101, v102, v103, v104, v105, v106, v107, v108, v109, v110, v111, v112, v113, v114, v115, v116, v117, v118, v119, v120, v121, v122]
def w271 : List PyData := [v123, v124, v125, v126, v127, v128, v129, v130, v131, v132, v133, v134, v135, v136, v137, v138, v139, v140, v141, v142, v143, v144, v145, v146]
def w272 : List PyData := [v27, v28, v29, v30, v31, v32, v33, v34, v35, v36, v37, v38, v39, v40, v41, v42, v43, v44, v45, v46, v47, v48, v49, v50]
def w273 : List PyData := [v51, v52, v53, v54, v55, v56, v57, v58, v59, v60, v61, v62, v63, v64, v65, v66, v67, v68, v69, v70, v71, v72, v73, v74]
def w274 : List PyData := [v75, v76, v77, v78, v79, v80, v81, v82, v83, v84, v85, v86, v87, v88, v89, v90, v91, v92, v93, v94, v95, v96, v97, v98]
def w275 : List PyData := [v99, v100, v101, v102, v103, v104, v105, v106, v107, v108, v109, v110, v111, v112, v113, v114, v115, v116, v117, v118, v119, v120, v121, v122]
def w276 : List PyData := [v123, v124, v125, v126, v127, v128, v129, v130, v131, v132, v133, v134, v135, v136, v137, v138, v139, v140, v141, v142, v143, v144, v145, v146]
def w277 : List PyData := [v27, v28, v29, v30, v31, v32, v33, v34, v35, v36, v37, v38, v39, v40, v41, v42, v43, v44, v45, v46, v47, v48, v49, v50]
def w278 : List PyData := [v51, v52, v53, v54, v55, v56, v57, v58, v59, v60, v61, v62, v63, v64, v65, v66, v67, v68, v69, v70, v71, v72, v73, v74]
def w279 : List PyData := [v75, v76, v77, v78, v79, v80, v81, v82, v83, v84, v85, v86, v87, v88, v89, v90, v91, v92, v93, v94, v95, v96, v97, v98]
def w280 : List PyData := [v99, v100, v101, v102, v103, v104, v105, v106, v107, v108, v109, v110, v111, v112, v113, v114, v115, v116, v117, v118, v119, v120, v121, v122]
def w281 : List PyData := [v123, v124, v125, v126, v127, v128, v129, v130, v131, v132, v133, v134, v135, v136, v137, v138, v139, v140, v141, v142, v143, v144, v145, v146]
def w282 : List PyData := [v27, v28, v29, v30, v31, v32, v33, v34, v35, v36, v37, v38, v39, v40, v41, v42, v43, v44, v45, v46, v47, v48, v49, v50]
def w283 : List PyData := [v51, v52, v53, v54, v55, v56, v57, v58, v59, v60, v61, v62, v63, v64, v65, v66, v67, v68, v69, v70, v71, v72, v73, v74]
def w284 : List PyData := [v75, v76, v77, v78, v79, v80, v81, v82, v83, v84, v85, v86, v87, v88, v89, v90, v91, v92, v93, v94, v95, v96, v97, v98]
def w285 : List PyData := [v99, v100, v101, v102, v103, v104, v105, v106, v107, v108, v109, v110, v111, v112, v113, v114, v115, v116, v117, v118, v119, v120, v121, v122]
def w286 : List PyData := [v123, v124, v125, v126, v127, v128, v129, v130, v131, v132, v133, v134, v135, v136, v137, v138, v139, v140, v141, v142, v143, v144, v145, v146]
instance : Swf sw_flat r_law_flat := swf_flat
def m0_law_orders : MS := (mSeq (mAsg (bName 1) (mLst (maCons (mTup maNil) maNil)))
  (mSeq (mFor (miR rg1 (maCons (mVar 0) maNil)) (bName 2) (mAsg (bName 1) (mCall 1 sw_flat (maCons (mComp [3] (miSeq (mVar 1)) (bName 3) mtYes (mComp [4] (miR rg1 (maCons (mVar 0) maNil)) (bName 4) (mtB (mOp (iInF true) (mVar 4) (mVar 3))) (mOp iAddA (mVar 3) (mTup (maCons (mVar 4) maNil))))) maNil))))
  (mRet (mVar 1))))
def q_law_orders : List PyData → R PyData := fun ds => bif Nat.ble ds.length 5 then runS 5 m0_law_orders ds else .stuck
instance : Swf q_law_orders r_law_orders := by
  haveI : SimS orc 99 m0_law_orders m_law_orders := by
    unfold m0_law_orders m_law_orders
    infer_instance
  exact swf_def (by decide) inferInstance
def s0 : MS := (mAsg (bName 3) (mOp iAddA (mC (.int 1)) (mCallM 1 r_law_roll 1 (maCons (mC (.int 5)) maNil))))
def s0o : MS := (mAsg (bName 3) (mOp iAddA (mC (.int 1)) (mCallM 1 orc 1 (maCons (mC (.int 5)) maNil))))
def S0_0 : List LEnv := [[none, some (.ow true []), none, none, none, none, none, none, none, none, none, none, none, none, none, none, none, none, none]]
def S0 : List LEnv := S0_0
def P0_0 : List (List (Path × Nat)) := [[([(5, 0)], 0), ([(5, 1)], 1), ([(5, 2)], 2), ([(5, 3)], 3), ([(5, 4)], 4)]]
def s1 : MS := (mAsg (bName 4) (mCall 1 r_law_orders (maCons (mVar 3) maNil)))
def s1o : MS := (mAsg (bName 4) (mCall 1 q_law_orders (maCons (mVar 3) maNil)))
def S1_0 : List LEnv := [[none, some (.ow true []), none, some (.sh (.int (.ofNat 1))), none, none, none, none, none, none, none, none, none, none, none, none, none, none, none],
  [none, some (.ow true []), none, some (.sh (.int (.ofNat 2))), none, none, none, none, none, none, none, none, none, none, none, none, none, none, none],
  [none, some (.ow true []), none, some (.sh (.int (.ofNat 3))), none, none, none, none, none, none, none, none, none, none, none, none, none, none, none],
  [none, some (.ow true []), none, some (.sh (.int (.ofNat 4))), none, none, none, none, none, none, none, none, none, none, none, none, none, none, none]]
def S1_1 : List LEnv := [[none, some (.ow true []), none, some (.sh (.int (.ofNat 5))), none, none, none, none, none, none, none, none, none, none, none, none, none, none, none]]
def S1 : List LEnv := S1_0 ++ (S1_1)
def P1_0 : List (List (Path × Nat)) := [[([], 0)],
  [([], 1)],
  [([], 2)],
  [([], 3)]]
def P1_1 : List (List (Path × Nat)) := [[([], 4)]]
def c2_0 : MT := (mtB (mOp iNe (mMeth "Spread" "shown" 1 r_Spread_shown (mCall 1 r_wrong_pairs (maCons (mVar 3) maNil)) (fun e => .ok (e, []))) (mMeth "Spread" "shown" 1 r_Spread_shown (mCall 1 r_even (maCons (mComp [6] (miSeq (mVar 4)) (bName 6) mtYes (mCa cLenA (maCons (mCall 1 r_law_flat (maCons (mComp [16] (miR rg1 (maCons (mVar 3) maNil)) (bName 16) mtYes (mComp [18] (miR rg1 (maCons (mVar 16) maNil)) (bName 18) (mtB (mOp (iCmp fun i j => decide (j < i)) (mIxV 6 (mVar 18)) (mIxV 6 (mVar 16)))) (mC (.int 1)))) maNil)) maNil))) maNil)) (fun e => .ok (e, [])))))
def c2_0o : MT := (mtB (mOp iNe (mMeth "Spread" "shown" 1 r_Spread_shown (mCall 1 r_wrong_pairs (maCons (mVar 3) maNil)) (fun e => .ok (e, []))) (mMeth "Spread" "shown" 1 r_Spread_shown (mCall 1 r_even (maCons (mComp [6] (miSeq (mVar 4)) (bName 6) mtYes (mCa cLenA (maCons (mCall 1 sw_flat (maCons (mComp [16] (miR rg1 (maCons (mVar 3) maNil)) (bName 16) mtYes (mComp [18] (miR rg1 (maCons (mVar 16) maNil)) (bName 18) (mtB (mOp (iCmp fun i j => decide (j < i)) (mIxV 6 (mVar 18)) (mIxV 6 (mVar 16)))) (mC (.int 1)))) maNil)) maNil))) maNil)) (fun e => .ok (e, [])))))
def Q2_0_0 : List LEnv := [[none, some (.ow true []), none, some (.sh (.int (.ofNat 1))), some (.sh (.list [.tuple [.int (.ofNat 0)]])), none, none, none, none, none, none, none, none, none, none, none, none, none, none],
  [none, some (.ow true []), none, some (.sh (.int (.ofNat 2))), some (.sh (v0)), none, none, none, none, none, none, none, none, none, none, none, none, none, none],
  [none, some (.ow true []), none, some (.sh (.int (.ofNat 3))), some (.sh (v1)), none, none, none, none, none, none, none, none, none, none, none, none, none, none],
  [none, some (.ow true []), none, some (.sh (.int (.ofNat 4))), some (.sh (v26)), none, none, none, none, none, none, none, none, none, none, none, none, none, none]]
def Q2_0_1 : List LEnv := [[none, some (.ow true []), none, some (.sh (.int (.ofNat 5))), some (.sh (.list (w147 ++ w148 ++ w149 ++ w150 ++ w151))), none, none, none, none, none, none, none, none, none, none, none, none, none, none]]
def Q2_0 : List LEnv := Q2_0_0 ++ (Q2_0_1)
def s2 : MS := mIfS (c2_0) (mRet (mC (.bool false))) mNext
def S2_0 : List LEnv := [[none, some (.ow true []), none, some (.sh (.int (.ofNat 1))), some (.sh (.list [.tuple [.int (.ofNat 0)]])), none, none, none, none, none, none, none, none, none, none, none, none, none, none],
  [none, some (.ow true []), none, some (.sh (.int (.ofNat 2))), some (.sh (v0)), none, none, none, none, none, none, none, none, none, none, none, none, none, none],
  [none, some (.ow true []), none, some (.sh (.int (.ofNat 3))), some (.sh (v1)), none, none, none, none, none, none, none, none, none, none, none, none, none, none],
  [none, some (.ow true []), none, some (.sh (.int (.ofNat 4))), some (.sh (v26)), none, none, none, none, none, none, none, none, none, none, none, none, none, none],
  [none, some (.ow true []), none, some (.sh (.int (.ofNat 5))), some (.sh (.list (w152 ++ w153 ++ w154 ++ w155 ++ w156))), none, none, none, none, none, none, none, none, none, none, none, none, none, none]]
def S2 : List LEnv := S2_0
def c3_0 : MT := (mtB (mOp iNe (mMeth "Spread" "shown" 1 r_Spread_shown (mCall 1 r_at_home (maCons (mVar 3) maNil)) (fun e => .ok (e, []))) (mMeth "Spread" "shown" 1 r_Spread_shown (mCall 1 r_even (maCons (mComp [6] (miSeq (mVar 4)) (bName 6) mtYes (mCa cLenA (maCons (mComp [11] (miR rg1 (maCons (mVar 3) maNil)) (bName 11) (mtB (mOp iEq (mIxV 6 (mVar 11)) (mVar 11))) (mVar 11)) maNil))) maNil)) (fun e => .ok (e, [])))))
def c3_0o : MT := (mtB (mOp iNe (mMeth "Spread" "shown" 1 r_Spread_shown (mCall 1 r_at_home (maCons (mVar 3) maNil)) (fun e => .ok (e, []))) (mMeth "Spread" "shown" 1 r_Spread_shown (mCall 1 r_even (maCons (mComp [6] (miSeq (mVar 4)) (bName 6) mtYes (mCa cLenA (maCons (mComp [11] (miR rg1 (maCons (mVar 3) maNil)) (bName 11) (mtB (mOp iEq (mIxV 6 (mVar 11)) (mVar 11))) (mVar 11)) maNil))) maNil)) (fun e => .ok (e, [])))))
def Q3_0_0 : List LEnv := [[none, some (.ow true []), none, some (.sh (.int (.ofNat 1))), some (.sh (.list [.tuple [.int (.ofNat 0)]])), none, none, none, none, none, none, none, none, none, none, none, none, none, none],
  [none, some (.ow true []), none, some (.sh (.int (.ofNat 2))), some (.sh (v0)), none, none, none, none, none, none, none, none, none, none, none, none, none, none],
  [none, some (.ow true []), none, some (.sh (.int (.ofNat 3))), some (.sh (v1)), none, none, none, none, none, none, none, none, none, none, none, none, none, none],
  [none, some (.ow true []), none, some (.sh (.int (.ofNat 4))), some (.sh (v26)), none, none, none, none, none, none, none, none, none, none, none, none, none, none]]
def Q3_0_1 : List LEnv := [[none, some (.ow true []), none, some (.sh (.int (.ofNat 5))), some (.sh (.list (w157 ++ w158 ++ w159 ++ w160 ++ w161))), none, none, none, none, none, none, none, none, none, none, none, none, none, none]]
def Q3_0 : List LEnv := Q3_0_0 ++ (Q3_0_1)
def c3_1 : MT := (mtB (mOp iNe (mCall 1 r_check_many (maCons (mVar 3) maNil)) (mVar 3)))
def c3_1o : MT := (mtB (mOp iNe (mCall 1 r_check_many (maCons (mVar 3) maNil)) (mVar 3)))
def Q3_1_0 : List LEnv := [[none, some (.ow true []), none, some (.sh (.int (.ofNat 1))), none, none, none, none, none, none, none, none, none, none, none, none, none, none, none],
  [none, some (.ow true []), none, some (.sh (.int (.ofNat 2))), none, none, none, none, none, none, none, none, none, none, none, none, none, none, none],
  [none, some (.ow true []), none, some (.sh (.int (.ofNat 3))), none, none, none, none, none, none, none, none, none, none, none, none, none, none, none],
  [none, some (.ow true []), none, some (.sh (.int (.ofNat 4))), none, none, none, none, none, none, none, none, none, none, none, none, none, none, none],
  [none, some (.ow true []), none, some (.sh (.int (.ofNat 5))), none, none, none, none, none, none, none, none, none, none, none, none, none, none, none]]
def Q3_1 : List LEnv := Q3_1_0
def s3 : MS := mIfS (mtOr c3_0 (c3_1)) (mRet (mC (.bool false))) mNext
def S3_0 : List LEnv := [[none, some (.ow true []), none, some (.sh (.int (.ofNat 1))), some (.sh (.list [.tuple [.int (.ofNat 0)]])), none, none, none, none, none, none, none, none, none, none, none, none, none, none],
  [none, some (.ow true []), none, some (.sh (.int (.ofNat 2))), some (.sh (v0)), none, none, none, none, none, none, none, none, none, none, none, none, none, none],
  [none, some (.ow true []), none, some (.sh (.int (.ofNat 3))), some (.sh (v1)), none, none, none, none, none, none, none, none, none, none, none, none, none, none],
  [none, some (.ow true []), none, some (.sh (.int (.ofNat 4))), some (.sh (v26)), none, none, none, none, none, none, none, none, none, none, none, none, none, none],
  [none, some (.ow true []), none, some (.sh (.int (.ofNat 5))), some (.sh (.list (w162 ++ w163 ++ w164 ++ w165 ++ w166))), none, none, none, none, none, none, none, none, none, none, none, none, none, none]]
def S3 : List LEnv := S3_0
def c4_0 : MT := (mtB (mOp iNe (mMeth "Spread" "shown" 1 r_Spread_shown (mCall 1 r_rings (maCons (mVar 3) maNil)) (fun e => .ok (e, []))) (mMeth "Spread" "shown" 1 r_Spread_shown (mCall 1 r_even (maCons (mComp [6] (miSeq (mVar 4)) (bName 6) mtYes (mCa cLenA (maCons (mCall 1 r_law_rings (maCons (mVar 6) maNil)) maNil))) maNil)) (fun e => .ok (e, [])))))
def c4_0o : MT := (mtB (mOp iNe (mMeth "Spread" "shown" 1 r_Spread_shown (mCall 1 r_rings (maCons (mVar 3) maNil)) (fun e => .ok (e, []))) (mMeth "Spread" "shown" 1 r_Spread_shown (mCall 1 r_even (maCons (mComp [6] (miSeq (mVar 4)) (bName 6) mtYes (mCa cLenA (maCons (mCall 1 r_law_rings (maCons (mVar 6) maNil)) maNil))) maNil)) (fun e => .ok (e, [])))))
def Q4_0_0 : List LEnv := [[none, some (.ow true []), none, some (.sh (.int (.ofNat 1))), some (.sh (.list [.tuple [.int (.ofNat 0)]])), none, none, none, none, none, none, none, none, none, none, none, none, none, none],
  [none, some (.ow true []), none, some (.sh (.int (.ofNat 2))), some (.sh (v0)), none, none, none, none, none, none, none, none, none, none, none, none, none, none],
  [none, some (.ow true []), none, some (.sh (.int (.ofNat 3))), some (.sh (v1)), none, none, none, none, none, none, none, none, none, none, none, none, none, none],
  [none, some (.ow true []), none, some (.sh (.int (.ofNat 4))), some (.sh (v26)), none, none, none, none, none, none, none, none, none, none, none, none, none, none]]
def Q4_0_1 : List LEnv := [[none, some (.ow true []), none, some (.sh (.int (.ofNat 5))), some (.sh (.list (w167 ++ w168 ++ w169 ++ w170 ++ w171))), none, none, none, none, none, none, none, none, none, none, none, none, none, none]]
def Q4_0 : List LEnv := Q4_0_0 ++ (Q4_0_1)
def c4_1 : MT := (mtB (mOp iNe (mMeth "Spread" "shown" 1 r_Spread_shown (mCall 1 r_tops (maCons (mVar 3) maNil)) (fun e => .ok (e, []))) (mMeth "Spread" "shown" 1 r_Spread_shown (mCall 1 r_even (maCons (mComp [6] (miSeq (mVar 4)) (bName 6) mtYes (mCa cLenA (maCons (mComp [11] (miR rg1 (maCons (mVar 3) maNil)) (bName 11) (mtB (mOp iEq (mIxV 6 (mVar 11)) (mCa cMaxB (maCons (mSl (mVar 6) mNoPart (mPart (mOp iAddA (mVar 11) (mC (.int 1))))) maNil)))) (mVar 11)) maNil))) maNil)) (fun e => .ok (e, [])))))
def c4_1o : MT := (mtB (mOp iNe (mMeth "Spread" "shown" 1 r_Spread_shown (mCall 1 r_tops (maCons (mVar 3) maNil)) (fun e => .ok (e, []))) (mMeth "Spread" "shown" 1 r_Spread_shown (mCall 1 r_even (maCons (mComp [6] (miSeq (mVar 4)) (bName 6) mtYes (mCa cLenA (maCons (mComp [11] (miR rg1 (maCons (mVar 3) maNil)) (bName 11) (mtB (mOp iEq (mIxV 6 (mVar 11)) (mCa cMaxB (maCons (mSl (mVar 6) mNoPart (mPart (mOp iAddA (mVar 11) (mC (.int 1))))) maNil)))) (mVar 11)) maNil))) maNil)) (fun e => .ok (e, [])))))
def Q4_1_0 : List LEnv := [[none, some (.ow true []), none, some (.sh (.int (.ofNat 1))), some (.sh (.list [.tuple [.int (.ofNat 0)]])), none, none, none, none, none, none, none, none, none, none, none, none, none, none],
  [none, some (.ow true []), none, some (.sh (.int (.ofNat 2))), some (.sh (v0)), none, none, none, none, none, none, none, none, none, none, none, none, none, none],
  [none, some (.ow true []), none, some (.sh (.int (.ofNat 3))), some (.sh (v1)), none, none, none, none, none, none, none, none, none, none, none, none, none, none],
  [none, some (.ow true []), none, some (.sh (.int (.ofNat 4))), some (.sh (v26)), none, none, none, none, none, none, none, none, none, none, none, none, none, none]]
def Q4_1_1 : List LEnv := [[none, some (.ow true []), none, some (.sh (.int (.ofNat 5))), some (.sh (.list (w172 ++ w173 ++ w174 ++ w175 ++ w176))), none, none, none, none, none, none, none, none, none, none, none, none, none, none]]
def Q4_1 : List LEnv := Q4_1_0 ++ (Q4_1_1)
def s4 : MS := mIfS (mtOr c4_0 (c4_1)) (mRet (mC (.bool false))) mNext
def S4_0 : List LEnv := [[none, some (.ow true []), none, some (.sh (.int (.ofNat 1))), some (.sh (.list [.tuple [.int (.ofNat 0)]])), none, none, none, none, none, none, none, none, none, none, none, none, none, none],
  [none, some (.ow true []), none, some (.sh (.int (.ofNat 2))), some (.sh (v0)), none, none, none, none, none, none, none, none, none, none, none, none, none, none],
  [none, some (.ow true []), none, some (.sh (.int (.ofNat 3))), some (.sh (v1)), none, none, none, none, none, none, none, none, none, none, none, none, none, none],
  [none, some (.ow true []), none, some (.sh (.int (.ofNat 4))), some (.sh (v26)), none, none, none, none, none, none, none, none, none, none, none, none, none, none],
  [none, some (.ow true []), none, some (.sh (.int (.ofNat 5))), some (.sh (.list (w177 ++ w178 ++ w179 ++ w180 ++ w181))), none, none, none, none, none, none, none, none, none, none, none, none, none, none]]
def S4 : List LEnv := S4_0
def s5 : MS := (mOwn 5 (nLst maNil))
def s5o : MS := (mOwn 5 (nLst maNil))
def S5_0 : List LEnv := [[none, some (.ow true []), none, some (.sh (.int (.ofNat 1))), some (.sh (.list [.tuple [.int (.ofNat 0)]])), none, none, none, none, none, none, none, none, none, none, none, none, none, none],
  [none, some (.ow true []), none, some (.sh (.int (.ofNat 2))), some (.sh (v0)), none, none, none, none, none, none, none, none, none, none, none, none, none, none],
  [none, some (.ow true []), none, some (.sh (.int (.ofNat 3))), some (.sh (v1)), none, none, none, none, none, none, none, none, none, none, none, none, none, none],
  [none, some (.ow true []), none, some (.sh (.int (.ofNat 4))), some (.sh (v26)), none, none, none, none, none, none, none, none, none, none, none, none, none, none],
  [none, some (.ow true []), none, some (.sh (.int (.ofNat 5))), some (.sh (.list (w182 ++ w183 ++ w184 ++ w185 ++ w186))), none, none, none, none, none, none, none, none, none, none, none, none, none, none]]
def S5 : List LEnv := S5_0
def P5_0 : List (List (Path × Nat)) := [[([], 0)],
  [([], 1)],
  [([], 2)],
  [([], 3)],
  [([], 4)]]
def s6 : MS := (mFor (miSeq (mVar 4)) (bName 6) (mSeq (mOwn 10 (nLst maNil))
  (mSeq (mFor (miR rg1 (maCons (mVar 3) maNil)) (bName 11) (mApp 10 (mOp iAddA (mC (.int 1)) (mCa cMaxB (maCons (mOp iAddA (mComp [15] (miR rg1 (maCons (mVar 11) maNil)) (bName 15) (mtB (mOp (iCmp fun i j => decide (i < j)) (mIxV 6 (mVar 15)) (mIxV 6 (mVar 11)))) (mIxV 10 (mVar 15))) (mLst (maCons (mC (.int 0)) maNil))) maNil)))))
  (mApp 5 (mCa cMaxB (maCons (mShow 10) maNil))))))
def s6o : MS := (mFor (miSeq (mVar 4)) (bName 6) (mSeq (mOwn 10 (nLst maNil))
  (mSeq (mFor (miR rg1 (maCons (mVar 3) maNil)) (bName 11) (mApp 10 (mOp iAddA (mC (.int 1)) (mCa cMaxB (maCons (mOp iAddA (mComp [15] (miR rg1 (maCons (mVar 11) maNil)) (bName 15) (mtB (mOp (iCmp fun i j => decide (i < j)) (mIxV 6 (mVar 15)) (mIxV 6 (mVar 11)))) (mIxV 10 (mVar 15))) (mLst (maCons (mC (.int 0)) maNil))) maNil)))))
  (mApp 5 (mCa cMaxB (maCons (mShow 10) maNil))))))
def S6_0 : List LEnv := [[none, some (.ow true []), none, some (.sh (.int (.ofNat 1))), some (.sh (.list [.tuple [.int (.ofNat 0)]])), some (.ow false []), none, none, none, none, none, none, none, none, none, none, none, none, none],
  [none, some (.ow true []), none, some (.sh (.int (.ofNat 2))), some (.sh (v0)), some (.ow false []), none, none, none, none, none, none, none, none, none, none, none, none, none],
  [none, some (.ow true []), none, some (.sh (.int (.ofNat 3))), some (.sh (v1)), some (.ow false []), none, none, none, none, none, none, none, none, none, none, none, none, none],
  [none, some (.ow true []), none, some (.sh (.int (.ofNat 4))), some (.sh (v26)), some (.ow false []), none, none, none, none, none, none, none, none, none, none, none, none, none]]
def S6_1 : List LEnv := [[none, some (.ow true []), none, some (.sh (.int (.ofNat 5))), some (.sh (.list (w187 ++ w188 ++ w189 ++ w190 ++ w191))), some (.ow false []), none, none, none, none, none, none, none, none, none, none, none, none, none]]
def S6 : List LEnv := S6_0 ++ (S6_1)
def P6_0 : List (List (Path × Nat)) := [[([], 0)],
  [([], 1)],
  [([], 2)],
  [([], 3)]]
def P6_1 : List (List (Path × Nat)) := [[([], 4)]]
def s7 : MS := (mIfS (mtOr (mtB (mOp iNe (mMeth "Spread" "shown" 1 r_Spread_shown (mCall 1 r_rise_spread (maCons (mVar 3) maNil)) (fun e => .ok (e, []))) (mMeth "Spread" "shown" 1 r_Spread_shown (mCall 1 r_even (maCons (mShow 5) maNil)) (fun e => .ok (e, []))))) (mtB (mOp iNe (mComp [6] (miSeq (mSl (mVar 4) mNoPart (mPart (mC (.int 20))))) (bName 6) (mtB (mOp iNe (mCall 1 r_longest_rise (maCons (mVar 6) maNil)) (mIxV 5 (mIndex (mVar 4) (mVar 6))))) (mVar 6)) (mLst maNil)))) (mRet (mC (.bool false))) mNext)
def s7o : MS := (mIfS (mtOr (mtB (mOp iNe (mMeth "Spread" "shown" 1 r_Spread_shown (mCall 1 r_rise_spread (maCons (mVar 3) maNil)) (fun e => .ok (e, []))) (mMeth "Spread" "shown" 1 r_Spread_shown (mCall 1 r_even (maCons (mShow 5) maNil)) (fun e => .ok (e, []))))) (mtB (mOp iNe (mComp [6] (miSeq (mSl (mVar 4) mNoPart (mPart (mC (.int 20))))) (bName 6) (mtB (mOp iNe (mCall 1 r_longest_rise (maCons (mVar 6) maNil)) (mIxV 5 (mIndex (mVar 4) (mVar 6))))) (mVar 6)) (mLst maNil)))) (mRet (mC (.bool false))) mNext)
def S7_0 : List LEnv := [[none, some (.ow true []), none, some (.sh (.int (.ofNat 1))), some (.sh (.list [.tuple [.int (.ofNat 0)]])), some (.ow false [.int (.ofNat 1)]), some (.sh (.tuple [.int (.ofNat 0)])), none, none, none, none, none, none, none, none, none, none, none, none],
  [none, some (.ow true []), none, some (.sh (.int (.ofNat 2))), some (.sh (v0)), some (.ow false [.int (.ofNat 2), .int (.ofNat 1)]), some (.sh (.tuple [.int (.ofNat 1), .int (.ofNat 0)])), none, none, none, none, none, none, none, none, none, none, none, none],
  [none, some (.ow true []), none, some (.sh (.int (.ofNat 3))), some (.sh (v1)), some (.ow false [.int (.ofNat 3), .int (.ofNat 2), .int (.ofNat 2), .int (.ofNat 2), .int (.ofNat 2), .int (.ofNat 1)]), some (.sh (.tuple [.int (.ofNat 2), .int (.ofNat 1), .int (.ofNat 0)])), none, none, none, none, none, none, none, none, none, none, none, none]]
def S7_1 : List LEnv := [[none, some (.ow true []), none, some (.sh (.int (.ofNat 4))), some (.sh (v26)), some (.ow false [.int (.ofNat 4), .int (.ofNat 3), .int (.ofNat 3), .int (.ofNat 3), .int (.ofNat 3), .int (.ofNat 2), .int (.ofNat 3), .int (.ofNat 2), .int (.ofNat 3), .int (.ofNat 3), .int (.ofNat 2), .int (.ofNat 2), .int (.ofNat 3), .int (.ofNat 2), .int (.ofNat 2), .int (.ofNat 2), .int (.ofNat 2), .int (.ofNat 2), .int (.ofNat 3), .int (.ofNat 2), .int (.ofNat 2), .int (.ofNat 2), .int (.ofNat 2), .int (.ofNat 1)]), some (.sh (v25)), none, none, none, none, none, none, none, none, none, none, none, none]]
def S7_2 : List LEnv := [[none, some (.ow true []), none, some (.sh (.int (.ofNat 5))), some (.sh (.list (w192 ++ w193 ++ w194 ++ w195 ++ w196))), some (.ow false [.int (.ofNat 5), .int (.ofNat 4), .int (.ofNat 4), .int (.ofNat 4), .int (.ofNat 4), .int (.ofNat 3), .int (.ofNat 4), .int (.ofNat 3), .int (.ofNat 4), .int (.ofNat 4), .int (.ofNat 3), .int (.ofNat 3), .int (.ofNat 4), .int (.ofNat 3), .int (.ofNat 3), .int (.ofNat 3), .int (.ofNat 3), .int (.ofNat 3), .int (.ofNat 4), .int (.ofNat 3), .int (.ofNat 3), .int (.ofNat 3), .int (.ofNat 3), .int (.ofNat 2), .int (.ofNat 4), .int (.ofNat 3), .int (.ofNat 3), .int (.ofNat 3), .int (.ofNat 3), .int (.ofNat 2), .int (.ofNat 4), .int (.ofNat 3), .int (.ofNat 4), .int (.ofNat 4), .int (.ofNat 3), .int (.ofNat 3), .int (.ofNat 3), .int (.ofNat 3), .int (.ofNat 3), .int (.ofNat 3), .int (.ofNat 3), .int (.ofNat 3), .int (.ofNat 3), .int (.ofNat 2), .int (.ofNat 3), .int (.ofNat 3), .int (.ofNat 2), .int (.ofNat 2), .int (.ofNat 4), .int (.ofNat 3), .int (.ofNat 3), .int (.ofNat 3), .int (.ofNat 3), .int (.ofNat 2), .int (.ofNat 3), .int (.ofNat 2), .int (.ofNat 3), .int (.ofNat 3), .int (.ofNat 2), .int (.ofNat 2), .int (.ofNat 3), .int (.ofNat 3), .int (.ofNat 3), .int (.ofNat 3), .int (.ofNat 3), .int (.ofNat 3), .int (.ofNat 3), .int (.ofNat 2), .int (.ofNat 2), .int (.ofNat 2), .int (.ofNat 2), .int (.ofNat 2), .int (.ofNat 4), .int (.ofNat 3), .int (.ofNat 3), .int (.ofNat 3), .int (.ofNat 3), .int (.ofNat 2), .int (.ofNat 3), .int (.ofNat 2), .int (.ofNat 3), .int (.ofNat 3), .int (.ofNat 2), .int (.ofNat 2), .int (.ofNat 3), .int (.ofNat 2), .int (.ofNat 2), .int (.ofNat 2), .int (.ofNat 2), .int (.ofNat 2), .int (.ofNat 3), .int (.ofNat 2), .int (.ofNat 2), .int (.ofNat 2), .int (.ofNat 2), .int (.ofNat 2), .int (.ofNat 4), .int (.ofNat 3), .int (.ofNat 3), .int (.ofNat 3), .int (.ofNat 3), .int (.ofNat 2), .int (.ofNat 3), .int (.ofNat 2), .int (.ofNat 3), .int (.ofNat 3), .int (.ofNat 2), .int (.ofNat 2), .int (.ofNat 3), .int (.ofNat 2), .int (.ofNat 2), .int (.ofNat 2), .int (.ofNat 2), .int (.ofNat 2), .int (.ofNat 3), .int (.ofNat 2), .int (.ofNat 2), .int (.ofNat 2), .int (.ofNat 2), .int (.ofNat 1)]), some (.sh (v146)), none, none, none, none, none, none, none, none, none, none, none, none]]
def S7 : List LEnv := S7_0 ++ (S7_1 ++ (S7_2))
def P7_0 : List (List (Path × Nat)) := [[([], 0)],
  [([], 1)],
  [([], 2)]]
def P7_1 : List (List (Path × Nat)) := [[([], 3)]]
def P7_2 : List (List (Path × Nat)) := [[([], 4)]]
def s8 : MS := (mOwn 7 (nLst maNil))
def s8o : MS := (mOwn 7 (nLst maNil))
def S8_0 : List LEnv := [[none, some (.ow true []), none, some (.sh (.int (.ofNat 1))), some (.sh (.list [.tuple [.int (.ofNat 0)]])), none, some (.sh (.tuple [.int (.ofNat 0)])), none, none, none, none, none, none, none, none, none, none, none, none],
  [none, some (.ow true []), none, some (.sh (.int (.ofNat 2))), some (.sh (v0)), none, some (.sh (.tuple [.int (.ofNat 1), .int (.ofNat 0)])), none, none, none, none, none, none, none, none, none, none, none, none],
  [none, some (.ow true []), none, some (.sh (.int (.ofNat 3))), some (.sh (v1)), none, some (.sh (.tuple [.int (.ofNat 2), .int (.ofNat 1), .int (.ofNat 0)])), none, none, none, none, none, none, none, none, none, none, none, none],
  [none, some (.ow true []), none, some (.sh (.int (.ofNat 4))), some (.sh (v26)), none, some (.sh (v25)), none, none, none, none, none, none, none, none, none, none, none, none],
  [none, some (.ow true []), none, some (.sh (.int (.ofNat 5))), some (.sh (.list (w197 ++ w198 ++ w199 ++ w200 ++ w201))), none, some (.sh (v146)), none, none, none, none, none, none, none, none, none, none, none, none]]
def S8 : List LEnv := S8_0
def P8_0 : List (List (Path × Nat)) := [[([], 0)],
  [([], 1)],
  [([], 2)],
  [([], 3)],
  [([], 4)]]
def s9 : MS := (mFor (miR rg1 (maCons (mVar 3) maNil)) (bName 8) (mSeq (mAsg (bName 12) (mC (.int 0)))
  (mSeq (mFor (miSeq (mVar 4)) (bName 6) (mSeq (mAsg (bName 13) (mComp [11] (miR rg2 (maCons (mVar 8) (maCons (mVar 3) maNil))) (bName 11) (mtB (mOp (iCmp fun i j => decide (j < i)) (mIxV 6 (mVar 11)) (mCa cMaxB (maCons (mOp iAddA (mCa cListOf (maCons (mSl (mVar 6) mNoPart (mPart (mVar 8))) maNil)) (mLst (maCons (mOp iSub (mC (.int 0)) (mC (.int 1))) maNil))) maNil)))) (mVar 11)))
  (mAsg (bName 12) (mOp iAddA (mVar 12) (mCa cInt (maCons (mAndV (mOp iNe (mVar 13) (mLst maNil)) (mOp iEq (mIxV 6 (mIxV 13 (mC (.int 0)))) (mOp iSub (mVar 3) (mC (.int 1))))) maNil))))))
  (mSeq (mApp 7 (mCall 2 r_part (maCons (mVar 12) (maCons (mCa cLenA (maCons (mVar 4) maNil)) maNil))))
  (mIfS (mtB (mOp iNe (mCall 2 r_best_chance (maCons (mVar 3) (maCons (mVar 8) maNil))) (mIxV 7 (mVar 8)))) (mRet (mC (.bool false))) mNext)))))
def s9o : MS := (mFor (miR rg1 (maCons (mVar 3) maNil)) (bName 8) (mSeq (mAsg (bName 12) (mC (.int 0)))
  (mSeq (mFor (miSeq (mVar 4)) (bName 6) (mSeq (mAsg (bName 13) (mComp [11] (miR rg2 (maCons (mVar 8) (maCons (mVar 3) maNil))) (bName 11) (mtB (mOp (iCmp fun i j => decide (j < i)) (mIxV 6 (mVar 11)) (mCa cMaxB (maCons (mOp iAddA (mCa cListOf (maCons (mSl (mVar 6) mNoPart (mPart (mVar 8))) maNil)) (mLst (maCons (mOp iSub (mC (.int 0)) (mC (.int 1))) maNil))) maNil)))) (mVar 11)))
  (mAsg (bName 12) (mOp iAddA (mVar 12) (mCa cInt (maCons (mAndV (mOp iNe (mVar 13) (mLst maNil)) (mOp iEq (mIxV 6 (mIxV 13 (mC (.int 0)))) (mOp iSub (mVar 3) (mC (.int 1))))) maNil))))))
  (mSeq (mApp 7 (mCall 2 r_part (maCons (mVar 12) (maCons (mCa cLenA (maCons (mVar 4) maNil)) maNil))))
  (mIfS (mtB (mOp iNe (mCall 2 r_best_chance (maCons (mVar 3) (maCons (mVar 8) maNil))) (mIxV 7 (mVar 8)))) (mRet (mC (.bool false))) mNext)))))
def S9_0 : List LEnv := [[none, some (.ow true []), none, some (.sh (.int (.ofNat 1))), some (.sh (.list [.tuple [.int (.ofNat 0)]])), none, some (.sh (.tuple [.int (.ofNat 0)])), some (.ow false []), none, none, none, none, none, none, none, none, none, none, none],
  [none, some (.ow true []), none, some (.sh (.int (.ofNat 2))), some (.sh (v0)), none, some (.sh (.tuple [.int (.ofNat 1), .int (.ofNat 0)])), some (.ow false []), none, none, none, none, none, none, none, none, none, none, none],
  [none, some (.ow true []), none, some (.sh (.int (.ofNat 3))), some (.sh (v1)), none, some (.sh (.tuple [.int (.ofNat 2), .int (.ofNat 1), .int (.ofNat 0)])), some (.ow false []), none, none, none, none, none, none, none, none, none, none, none],
  [none, some (.ow true []), none, some (.sh (.int (.ofNat 4))), some (.sh (v26)), none, some (.sh (v25)), some (.ow false []), none, none, none, none, none, none, none, none, none, none, none]]
def S9_1 : List LEnv := [[none, some (.ow true []), none, some (.sh (.int (.ofNat 5))), some (.sh (.list (w202 ++ w203 ++ w204 ++ w205 ++ w206))), none, some (.sh (v146)), some (.ow false []), none, none, none, none, none, none, none, none, none, none, none]]
def S9 : List LEnv := S9_0 ++ (S9_1)
def P9_0 : List (List (Path × Nat)) := [[([], 0)],
  [([], 1)],
  [([], 2)],
  [([], 3)]]
def P9_1 : List (List (Path × Nat)) := [[([], 4)]]
def s10 : MS := (mIfS (mtB (mOp iNe (mCall 1 r_best_skipped (maCons (mVar 3) maNil)) (mOp iIx (mComp [11] (miR rg1 (maCons (mVar 3) maNil)) (bName 11) (mtB (mOp iEq (mComp [15] (miR rg1 (maCons (mVar 3) maNil)) (bName 15) (mtTru (mCall 2 r_is_less (maCons (mIxV 7 (mVar 11)) (maCons (mIxV 7 (mVar 15)) maNil)))) (mVar 15)) (mLst maNil))) (mVar 11)) (mC (.int 0))))) (mRet (mC (.bool false))) mNext)
def s10o : MS := (mIfS (mtB (mOp iNe (mCall 1 r_best_skipped (maCons (mVar 3) maNil)) (mOp iIx (mComp [11] (miR rg1 (maCons (mVar 3) maNil)) (bName 11) (mtB (mOp iEq (mComp [15] (miR rg1 (maCons (mVar 3) maNil)) (bName 15) (mtTru (mCall 2 r_is_less (maCons (mIxV 7 (mVar 11)) (maCons (mIxV 7 (mVar 15)) maNil)))) (mVar 15)) (mLst maNil))) (mVar 11)) (mC (.int 0))))) (mRet (mC (.bool false))) mNext)
def S10_0 : List LEnv := [[none, some (.ow true []), none, some (.sh (.int (.ofNat 1))), some (.sh (.list [.tuple [.int (.ofNat 0)]])), none, none, some (.ow false [.tuple [.int (.ofNat 1), .int (.ofNat 1)]]), none, none, none, none, none, none, none, none, none, none, none],
  [none, some (.ow true []), none, some (.sh (.int (.ofNat 2))), some (.sh (v0)), none, none, some (.ow false [.tuple [.int (.ofNat 1), .int (.ofNat 2)], .tuple [.int (.ofNat 1), .int (.ofNat 2)]]), none, none, none, none, none, none, none, none, none, none, none],
  [none, some (.ow true []), none, some (.sh (.int (.ofNat 3))), some (.sh (v1)), none, none, some (.ow false [.tuple [.int (.ofNat 1), .int (.ofNat 3)], .tuple [.int (.ofNat 1), .int (.ofNat 2)], .tuple [.int (.ofNat 1), .int (.ofNat 3)]]), none, none, none, none, none, none, none, none, none, none, none],
  [none, some (.ow true []), none, some (.sh (.int (.ofNat 4))), some (.sh (v26)), none, none, some (.ow false [.tuple [.int (.ofNat 1), .int (.ofNat 4)], .tuple [.int (.ofNat 11), .int (.ofNat 24)], .tuple [.int (.ofNat 5), .int (.ofNat 12)], .tuple [.int (.ofNat 1), .int (.ofNat 4)]]), none, none, none, none, none, none, none, none, none, none, none],
  [none, some (.ow true []), none, some (.sh (.int (.ofNat 5))), some (.sh (.list (w207 ++ w208 ++ w209 ++ w210 ++ w211))), none, none, some (.ow false [.tuple [.int (.ofNat 1), .int (.ofNat 5)], .tuple [.int (.ofNat 5), .int (.ofNat 12)], .tuple [.int (.ofNat 13), .int (.ofNat 30)], .tuple [.int (.ofNat 7), .int (.ofNat 20)], .tuple [.int (.ofNat 1), .int (.ofNat 5)]]), none, none, none, none, none, none, none, none, none, none, none]]
def S10 : List LEnv := S10_0
def P10_0 : List (List (Path × Nat)) := [[([], 0)],
  [([], 1)],
  [([], 2)],
  [([], 3)],
  [([], 4)]]
def s11 : MS := (mAsg (bName 9) (mCallM 1 r_law_roll 1 (maCons (mOp iAddA (mVar 3) (mC (.int 1))) maNil)))
def s11o : MS := (mAsg (bName 9) (mCallM 1 orc 1 (maCons (mOp iAddA (mVar 3) (mC (.int 1))) maNil)))
def S11_0 : List LEnv := [[none, some (.ow true []), none, some (.sh (.int (.ofNat 1))), some (.sh (.list [.tuple [.int (.ofNat 0)]])), none, none, none, none, none, none, none, none, none, none, none, none, none, none],
  [none, some (.ow true []), none, some (.sh (.int (.ofNat 2))), some (.sh (v0)), none, none, none, none, none, none, none, none, none, none, none, none, none, none],
  [none, some (.ow true []), none, some (.sh (.int (.ofNat 3))), some (.sh (v1)), none, none, none, none, none, none, none, none, none, none, none, none, none, none],
  [none, some (.ow true []), none, some (.sh (.int (.ofNat 4))), some (.sh (v26)), none, none, none, none, none, none, none, none, none, none, none, none, none, none],
  [none, some (.ow true []), none, some (.sh (.int (.ofNat 5))), some (.sh (.list (w212 ++ w213 ++ w214 ++ w215 ++ w216))), none, none, none, none, none, none, none, none, none, none, none, none, none, none]]
def S11 : List LEnv := S11_0
def P11_0 : List (List (Path × Nat)) := [[([(2, 0)], 0), ([(2, 1)], 1)],
  [([(3, 0)], 2), ([(3, 1)], 3), ([(3, 2)], 4)],
  [([(4, 0)], 5), ([(4, 1)], 6), ([(4, 2)], 7), ([(4, 3)], 8)],
  [([(5, 0)], 9), ([(5, 1)], 10), ([(5, 2)], 11), ([(5, 3)], 12), ([(5, 4)], 13)],
  [([(6, 0)], 14), ([(6, 1)], 15), ([(6, 2)], 16), ([(6, 3)], 17), ([(6, 4)], 18), ([(6, 5)], 19)]]
def c12_0 : MT := (mtB (mOp iNe (mCall 2 r_all_found (maCons (mVar 3) (maCons (mVar 9) maNil))) (mCall 2 r_part (maCons (mCa cLenA (maCons (mComp [6] (miSeq (mVar 4)) (bName 6) (mtB (mOp (iCmp fun i j => decide (i ≤ j)) (mCa cMaxB (maCons (mComp [17] (miSeq (mCall 1 r_law_rings (maCons (mVar 6) maNil))) (bName 17) mtYes (mCa cLenA (maCons (mVar 17) maNil))) maNil)) (mVar 9))) (mC (.int 1))) maNil)) (maCons (mCa cLenA (maCons (mVar 4) maNil)) maNil)))))
def c12_0o : MT := (mtB (mOp iNe (mCall 2 r_all_found (maCons (mVar 3) (maCons (mVar 9) maNil))) (mCall 2 r_part (maCons (mCa cLenA (maCons (mComp [6] (miSeq (mVar 4)) (bName 6) (mtB (mOp (iCmp fun i j => decide (i ≤ j)) (mCa cMaxB (maCons (mComp [17] (miSeq (mCall 1 r_law_rings (maCons (mVar 6) maNil))) (bName 17) mtYes (mCa cLenA (maCons (mVar 17) maNil))) maNil)) (mVar 9))) (mC (.int 1))) maNil)) (maCons (mCa cLenA (maCons (mVar 4) maNil)) maNil)))))
def Q12_0_0 : List LEnv := [[none, some (.ow true []), none, some (.sh (.int (.ofNat 1))), some (.sh (.list [.tuple [.int (.ofNat 0)]])), none, none, none, none, some (.sh (.int (.ofNat 0))), none, none, none, none, none, none, none, none, none],
  [none, some (.ow true []), none, some (.sh (.int (.ofNat 1))), some (.sh (.list [.tuple [.int (.ofNat 0)]])), none, none, none, none, some (.sh (.int (.ofNat 1))), none, none, none, none, none, none, none, none, none],
  [none, some (.ow true []), none, some (.sh (.int (.ofNat 2))), some (.sh (v0)), none, none, none, none, some (.sh (.int (.ofNat 0))), none, none, none, none, none, none, none, none, none],
  [none, some (.ow true []), none, some (.sh (.int (.ofNat 2))), some (.sh (v0)), none, none, none, none, some (.sh (.int (.ofNat 1))), none, none, none, none, none, none, none, none, none],
  [none, some (.ow true []), none, some (.sh (.int (.ofNat 2))), some (.sh (v0)), none, none, none, none, some (.sh (.int (.ofNat 2))), none, none, none, none, none, none, none, none, none],
  [none, some (.ow true []), none, some (.sh (.int (.ofNat 3))), some (.sh (v1)), none, none, none, none, some (.sh (.int (.ofNat 0))), none, none, none, none, none, none, none, none, none],
  [none, some (.ow true []), none, some (.sh (.int (.ofNat 3))), some (.sh (v1)), none, none, none, none, some (.sh (.int (.ofNat 1))), none, none, none, none, none, none, none, none, none],
  [none, some (.ow true []), none, some (.sh (.int (.ofNat 3))), some (.sh (v1)), none, none, none, none, some (.sh (.int (.ofNat 2))), none, none, none, none, none, none, none, none, none],
  [none, some (.ow true []), none, some (.sh (.int (.ofNat 3))), some (.sh (v1)), none, none, none, none, some (.sh (.int (.ofNat 3))), none, none, none, none, none, none, none, none, none]]
def Q12_0_1 : List LEnv := [[none, some (.ow true []), none, some (.sh (.int (.ofNat 4))), some (.sh (v26)), none, none, none, none, some (.sh (.int (.ofNat 0))), none, none, none, none, none, none, none, none, none]]
def Q12_0_2 : List LEnv := [[none, some (.ow true []), none, some (.sh (.int (.ofNat 4))), some (.sh (v26)), none, none, none, none, some (.sh (.int (.ofNat 1))), none, none, none, none, none, none, none, none, none]]
def Q12_0_3 : List LEnv := [[none, some (.ow true []), none, some (.sh (.int (.ofNat 4))), some (.sh (v26)), none, none, none, none, some (.sh (.int (.ofNat 2))), none, none, none, none, none, none, none, none, none]]
def Q12_0_4 : List LEnv := [[none, some (.ow true []), none, some (.sh (.int (.ofNat 4))), some (.sh (v26)), none, none, none, none, some (.sh (.int (.ofNat 3))), none, none, none, none, none, none, none, none, none]]
def Q12_0_5 : List LEnv := [[none, some (.ow true []), none, some (.sh (.int (.ofNat 4))), some (.sh (v26)), none, none, none, none, some (.sh (.int (.ofNat 4))), none, none, none, none, none, none, none, none, none]]
def Q12_0_6 : List LEnv := [[none, some (.ow true []), none, some (.sh (.int (.ofNat 5))), some (.sh (.list (w217 ++ w218 ++ w219 ++ w220 ++ w221))), none, none, none, none, some (.sh (.int (.ofNat 0))), none, none, none, none, none, none, none, none, none]]
def Q12_0_7 : List LEnv := [[none, some (.ow true []), none, some (.sh (.int (.ofNat 5))), some (.sh (.list (w222 ++ w223 ++ w224 ++ w225 ++ w226))), none, none, none, none, some (.sh (.int (.ofNat 1))), none, none, none, none, none, none, none, none, none]]
def Q12_0_8 : List LEnv := [[none, some (.ow true []), none, some (.sh (.int (.ofNat 5))), some (.sh (.list (w227 ++ w228 ++ w229 ++ w230 ++ w231))), none, none, none, none, some (.sh (.int (.ofNat 2))), none, none, none, none, none, none, none, none, none]]
def Q12_0_9 : List LEnv := [[none, some (.ow true []), none, some (.sh (.int (.ofNat 5))), some (.sh (.list (w232 ++ w233 ++ w234 ++ w235 ++ w236))), none, none, none, none, some (.sh (.int (.ofNat 3))), none, none, none, none, none, none, none, none, none]]
def Q12_0_10 : List LEnv := [[none, some (.ow true []), none, some (.sh (.int (.ofNat 5))), some (.sh (.list (w237 ++ w238 ++ w239 ++ w240 ++ w241))), none, none, none, none, some (.sh (.int (.ofNat 4))), none, none, none, none, none, none, none, none, none]]
def Q12_0_11 : List LEnv := [[none, some (.ow true []), none, some (.sh (.int (.ofNat 5))), some (.sh (.list (w242 ++ w243 ++ w244 ++ w245 ++ w246))), none, none, none, none, some (.sh (.int (.ofNat 5))), none, none, none, none, none, none, none, none, none]]
def Q12_0 : List LEnv := Q12_0_0 ++ (Q12_0_1 ++ (Q12_0_2 ++ (Q12_0_3 ++ (Q12_0_4 ++ (Q12_0_5 ++ (Q12_0_6 ++ (Q12_0_7 ++ (Q12_0_8 ++ (Q12_0_9 ++ (Q12_0_10 ++ (Q12_0_11)))))))))))
def s12 : MS := mIfS (c12_0) (mRet (mC (.bool false))) mNext
def S12_0 : List LEnv := [[none, some (.ow true []), none, some (.sh (.int (.ofNat 1))), some (.sh (.list [.tuple [.int (.ofNat 0)]])), none, none, none, none, some (.sh (.int (.ofNat 0))), none, none, none, none, none, none, none, none, none],
  [none, some (.ow true []), none, some (.sh (.int (.ofNat 1))), some (.sh (.list [.tuple [.int (.ofNat 0)]])), none, none, none, none, some (.sh (.int (.ofNat 1))), none, none, none, none, none, none, none, none, none],
  [none, some (.ow true []), none, some (.sh (.int (.ofNat 2))), some (.sh (v0)), none, none, none, none, some (.sh (.int (.ofNat 0))), none, none, none, none, none, none, none, none, none],
  [none, some (.ow true []), none, some (.sh (.int (.ofNat 2))), some (.sh (v0)), none, none, none, none, some (.sh (.int (.ofNat 1))), none, none, none, none, none, none, none, none, none],
  [none, some (.ow true []), none, some (.sh (.int (.ofNat 2))), some (.sh (v0)), none, none, none, none, some (.sh (.int (.ofNat 2))), none, none, none, none, none, none, none, none, none],
  [none, some (.ow true []), none, some (.sh (.int (.ofNat 3))), some (.sh (v1)), none, none, none, none, some (.sh (.int (.ofNat 0))), none, none, none, none, none, none, none, none, none],
  [none, some (.ow true []), none, some (.sh (.int (.ofNat 3))), some (.sh (v1)), none, none, none, none, some (.sh (.int (.ofNat 1))), none, none, none, none, none, none, none, none, none],
  [none, some (.ow true []), none, some (.sh (.int (.ofNat 3))), some (.sh (v1)), none, none, none, none, some (.sh (.int (.ofNat 2))), none, none, none, none, none, none, none, none, none],
  [none, some (.ow true []), none, some (.sh (.int (.ofNat 3))), some (.sh (v1)), none, none, none, none, some (.sh (.int (.ofNat 3))), none, none, none, none, none, none, none, none, none],
  [none, some (.ow true []), none, some (.sh (.int (.ofNat 4))), some (.sh (v26)), none, none, none, none, some (.sh (.int (.ofNat 0))), none, none, none, none, none, none, none, none, none],
  [none, some (.ow true []), none, some (.sh (.int (.ofNat 4))), some (.sh (v26)), none, none, none, none, some (.sh (.int (.ofNat 1))), none, none, none, none, none, none, none, none, none],
  [none, some (.ow true []), none, some (.sh (.int (.ofNat 4))), some (.sh (v26)), none, none, none, none, some (.sh (.int (.ofNat 2))), none, none, none, none, none, none, none, none, none],
  [none, some (.ow true []), none, some (.sh (.int (.ofNat 4))), some (.sh (v26)), none, none, none, none, some (.sh (.int (.ofNat 3))), none, none, none, none, none, none, none, none, none],
  [none, some (.ow true []), none, some (.sh (.int (.ofNat 4))), some (.sh (v26)), none, none, none, none, some (.sh (.int (.ofNat 4))), none, none, none, none, none, none, none, none, none],
  [none, some (.ow true []), none, some (.sh (.int (.ofNat 5))), some (.sh (.list (w247 ++ w248 ++ w249 ++ w250 ++ w251))), none, none, none, none, some (.sh (.int (.ofNat 0))), none, none, none, none, none, none, none, none, none],
  [none, some (.ow true []), none, some (.sh (.int (.ofNat 5))), some (.sh (.list (w252 ++ w253 ++ w254 ++ w255 ++ w256))), none, none, none, none, some (.sh (.int (.ofNat 1))), none, none, none, none, none, none, none, none, none],
  [none, some (.ow true []), none, some (.sh (.int (.ofNat 5))), some (.sh (.list (w257 ++ w258 ++ w259 ++ w260 ++ w261))), none, none, none, none, some (.sh (.int (.ofNat 2))), none, none, none, none, none, none, none, none, none],
  [none, some (.ow true []), none, some (.sh (.int (.ofNat 5))), some (.sh (.list (w262 ++ w263 ++ w264 ++ w265 ++ w266))), none, none, none, none, some (.sh (.int (.ofNat 3))), none, none, none, none, none, none, none, none, none],
  [none, some (.ow true []), none, some (.sh (.int (.ofNat 5))), some (.sh (.list (w267 ++ w268 ++ w269 ++ w270 ++ w271))), none, none, none, none, some (.sh (.int (.ofNat 4))), none, none, none, none, none, none, none, none, none],
  [none, some (.ow true []), none, some (.sh (.int (.ofNat 5))), some (.sh (.list (w272 ++ w273 ++ w274 ++ w275 ++ w276))), none, none, none, none, some (.sh (.int (.ofNat 5))), none, none, none, none, none, none, none, none, none]]
def S12 : List LEnv := S12_0
def c13_0 : MT := (mtAnd (mtB (mOp (iCmp fun i j => decide (j < i)) (mVar 3) (mC (.int 1)))) (mtB (mOp iNe (mCall 1 r_same_ring (maCons (mVar 3) maNil)) (mCall 2 r_part (maCons (mCa cLenA (maCons (mComp [6] (miSeq (mVar 4)) (bName 6) (mtB (mOp iNe (mComp [17] (miSeq (mCall 1 r_law_rings (maCons (mVar 6) maNil))) (bName 17) (mtAnd (mtB (mOp iIn (mC (.int 0)) (mVar 17))) (mtB (mOp iIn (mC (.int 1)) (mVar 17)))) (mVar 17)) (mLst maNil))) (mC (.int 1))) maNil)) (maCons (mCa cLenA (maCons (mVar 4) maNil)) maNil))))))
def c13_0o : MT := (mtAnd (mtB (mOp (iCmp fun i j => decide (j < i)) (mVar 3) (mC (.int 1)))) (mtB (mOp iNe (mCall 1 r_same_ring (maCons (mVar 3) maNil)) (mCall 2 r_part (maCons (mCa cLenA (maCons (mComp [6] (miSeq (mVar 4)) (bName 6) (mtB (mOp iNe (mComp [17] (miSeq (mCall 1 r_law_rings (maCons (mVar 6) maNil))) (bName 17) (mtAnd (mtB (mOp iIn (mC (.int 0)) (mVar 17))) (mtB (mOp iIn (mC (.int 1)) (mVar 17)))) (mVar 17)) (mLst maNil))) (mC (.int 1))) maNil)) (maCons (mCa cLenA (maCons (mVar 4) maNil)) maNil))))))
def Q13_0_0 : List LEnv := [[none, some (.ow true []), none, some (.sh (.int (.ofNat 1))), some (.sh (.list [.tuple [.int (.ofNat 0)]])), none, none, none, none, none, none, none, none, none, none, none, none, none, none],
  [none, some (.ow true []), none, some (.sh (.int (.ofNat 2))), some (.sh (v0)), none, none, none, none, none, none, none, none, none, none, none, none, none, none],
  [none, some (.ow true []), none, some (.sh (.int (.ofNat 3))), some (.sh (v1)), none, none, none, none, none, none, none, none, none, none, none, none, none, none],
  [none, some (.ow true []), none, some (.sh (.int (.ofNat 4))), some (.sh (v26)), none, none, none, none, none, none, none, none, none, none, none, none, none, none]]
def Q13_0_1 : List LEnv := [[none, some (.ow true []), none, some (.sh (.int (.ofNat 5))), some (.sh (.list (w277 ++ w278 ++ w279 ++ w280 ++ w281))), none, none, none, none, none, none, none, none, none, none, none, none, none, none]]
def Q13_0 : List LEnv := Q13_0_0 ++ (Q13_0_1)
def s13 : MS := mIfS (c13_0) (mRet (mC (.bool false))) mNext
def S13_0 : List LEnv := [[none, some (.ow true []), none, some (.sh (.int (.ofNat 1))), some (.sh (.list [.tuple [.int (.ofNat 0)]])), none, none, none, none, none, none, none, none, none, none, none, none, none, none],
  [none, some (.ow true []), none, some (.sh (.int (.ofNat 2))), some (.sh (v0)), none, none, none, none, none, none, none, none, none, none, none, none, none, none],
  [none, some (.ow true []), none, some (.sh (.int (.ofNat 3))), some (.sh (v1)), none, none, none, none, none, none, none, none, none, none, none, none, none, none],
  [none, some (.ow true []), none, some (.sh (.int (.ofNat 4))), some (.sh (v26)), none, none, none, none, none, none, none, none, none, none, none, none, none, none],
  [none, some (.ow true []), none, some (.sh (.int (.ofNat 5))), some (.sh (.list (w282 ++ w283 ++ w284 ++ w285 ++ w286))), none, none, none, none, none, none, none, none, none, none, none, none, none, none]]
def S13 : List LEnv := S13_0
def S14_0 : List LEnv := [[none, some (.ow true []), none, none, none, none, none, none, none, none, none, none, none, none, none, none, none, none, none]]
def S14 : List LEnv := S14_0
end K10

namespace K10
open PySem PySem.Spec PyProof.Rows L2 LW
theorem t0_0 : runAll 1 s0o S1 S0_0 P0_0 = true := by kernel_rfl
theorem t4_1_0 : chkAll 1 c4_1o Q4_1_0 = true := by kernel_rfl
theorem t12_0_1 : chkAll 1 c12_0o Q12_0_1 = true := by kernel_rfl
theorem h13 : covSub 1 S14 S13 [0, 0, 0, 0, 0] = true := by kernel_rfl
end K10

namespace K10
open PySem PySem.Spec PyProof.Rows L2 LW
theorem t1_0 : runAll 1 s1o S2 S1_0 P1_0 = true := by kernel_rfl
theorem t4_1_1 : chkAll 1 c4_1o Q4_1_1 = true := by kernel_rfl
theorem t12_0_2 : chkAll 1 c12_0o Q12_0_2 = true := by kernel_rfl
end K10

namespace K10
open PySem PySem.Spec PyProof.Rows L2 LW
theorem t1_1 : runAll 1 s1o S2 S1_1 P1_1 = true := by kernel_rfl
theorem u4_1 : covAll 1 Q4_1 S4 [0, 1, 2, 3, 4] = true := by kernel_rfl
theorem t12_0_3 : chkAll 1 c12_0o Q12_0_3 = true := by kernel_rfl
end K10

namespace K10
open PySem PySem.Spec PyProof.Rows L2 LW
theorem t2_0_0 : chkAll 1 c2_0o Q2_0_0 = true := by kernel_rfl
theorem h4 : covSub 1 S5 S4 [0, 1, 2, 3, 4] = true := by kernel_rfl
theorem t12_0_4 : chkAll 1 c12_0o Q12_0_4 = true := by kernel_rfl
end K10

namespace K10
open PySem PySem.Spec PyProof.Rows L2 LW
theorem t2_0_1 : chkAll 1 c2_0o Q2_0_1 = true := by kernel_rfl
theorem t5_0 : runAll 1 s5o S6 S5_0 P5_0 = true := by kernel_rfl
theorem t12_0_5 : chkAll 1 c12_0o Q12_0_5 = true := by kernel_rfl
end K10

namespace K10
open PySem PySem.Spec PyProof.Rows L2 LW
theorem u2_0 : covAll 1 Q2_0 S2 [0, 1, 2, 3, 4] = true := by kernel_rfl
theorem t6_0 : runAll 1 s6o S7 S6_0 P6_0 = true := by kernel_rfl
theorem t12_0_6 : chkAll 1 c12_0o Q12_0_6 = true := by kernel_rfl
end K10

namespace K10
open PySem PySem.Spec PyProof.Rows L2 LW
theorem h2 : covSub 1 S3 S2 [0, 1, 2, 3, 4] = true := by kernel_rfl
theorem t6_1 : runAll 1 s6o S7 S6_1 P6_1 = true := by kernel_rfl
theorem t12_0_7 : chkAll 1 c12_0o Q12_0_7 = true := by kernel_rfl
end K10

namespace K10
open PySem PySem.Spec PyProof.Rows L2 LW
theorem t3_0_0 : chkAll 1 c3_0o Q3_0_0 = true := by kernel_rfl
theorem t7_0 : runAll 1 s7o S8 S7_0 P7_0 = true := by kernel_rfl
theorem t12_0_8 : chkAll 1 c12_0o Q12_0_8 = true := by kernel_rfl
end K10

namespace K10
open PySem PySem.Spec PyProof.Rows L2 LW
theorem t3_0_1 : chkAll 1 c3_0o Q3_0_1 = true := by kernel_rfl
theorem t7_1 : runAll 1 s7o S8 S7_1 P7_1 = true := by kernel_rfl
theorem t12_0_9 : chkAll 1 c12_0o Q12_0_9 = true := by kernel_rfl
end K10

namespace K10
open PySem PySem.Spec PyProof.Rows L2 LW
theorem u3_0 : covAll 1 Q3_0 S3 [0, 1, 2, 3, 4] = true := by kernel_rfl
theorem t7_2 : runAll 1 s7o S8 S7_2 P7_2 = true := by kernel_rfl
theorem t12_0_10 : chkAll 1 c12_0o Q12_0_10 = true := by kernel_rfl
end K10

namespace K10
open PySem PySem.Spec PyProof.Rows L2 LW
theorem t3_1_0 : chkAll 1 c3_1o Q3_1_0 = true := by kernel_rfl
theorem t8_0 : runAll 1 s8o S9 S8_0 P8_0 = true := by kernel_rfl
theorem t12_0_11 : chkAll 1 c12_0o Q12_0_11 = true := by kernel_rfl
end K10

namespace K10
open PySem PySem.Spec PyProof.Rows L2 LW
theorem u3_1 : covAll 1 Q3_1 S3 [0, 1, 2, 3, 4] = true := by kernel_rfl
theorem t9_0 : runAll 1 s9o S10 S9_0 P9_0 = true := by kernel_rfl
theorem u12_0 : covAll 1 Q12_0 S12 [0, 1, 2, 3, 4, 5, 6, 7, 8, 9, 10, 11, 12, 13, 14, 15, 16, 17, 18, 19] = true := by kernel_rfl
end K10

namespace K10
open PySem PySem.Spec PyProof.Rows L2 LW
theorem h3 : covSub 1 S4 S3 [0, 1, 2, 3, 4] = true := by kernel_rfl
theorem t9_1 : runAll 1 s9o S10 S9_1 P9_1 = true := by kernel_rfl
theorem h12 : covSub 1 S13 S12 [0, 0, 1, 1, 1, 2, 2, 2, 2, 3, 3, 3, 3, 3, 4, 4, 4, 4, 4, 4] = true := by kernel_rfl
end K10

namespace K10
open PySem PySem.Spec PyProof.Rows L2 LW
theorem t4_0_0 : chkAll 1 c4_0o Q4_0_0 = true := by kernel_rfl
theorem t10_0 : runAll 1 s10o S11 S10_0 P10_0 = true := by kernel_rfl
theorem t13_0_0 : chkAll 1 c13_0o Q13_0_0 = true := by kernel_rfl
end K10

namespace K10
open PySem PySem.Spec PyProof.Rows L2 LW
theorem t4_0_1 : chkAll 1 c4_0o Q4_0_1 = true := by kernel_rfl
theorem t11_0 : runAll 1 s11o S12 S11_0 P11_0 = true := by kernel_rfl
theorem t13_0_1 : chkAll 1 c13_0o Q13_0_1 = true := by kernel_rfl
end K10

namespace K10
open PySem PySem.Spec PyProof.Rows L2 LW
theorem u4_0 : covAll 1 Q4_0 S4 [0, 1, 2, 3, 4] = true := by kernel_rfl
theorem t12_0_0 : chkAll 1 c12_0o Q12_0_0 = true := by kernel_rfl
theorem u13_0 : covAll 1 Q13_0 S13 [0, 1, 2, 3, 4] = true := by kernel_rfl
end K10

namespace K10
open PySem PySem.Spec PyProof.Rows L2 LW
theorem g0 : Good kr_roll 1 S0 s0 S1 := by
  haveI : SimS kr_roll 1 s0o s0 := by
    show SimS r_law_roll 1 _ _
    unfold s0o s0
    infer_instance
  exact (good_run dice_gen t0_0)
theorem g1 : Good kr_roll 1 S1 s1 S2 := by
  haveI : SimS kr_roll 1 s1o s1 := by
    show SimS r_law_roll 1 _ _
    unfold s1o s1
    infer_instance
  exact (good_app (good_run dice_gen t1_0) (good_run dice_gen t1_1))
theorem n2_0 : No kr_roll 1 S2 c2_0 := by
  haveI : Sim kr_roll 1 c2_0o c2_0 := by
    show Sim r_law_roll 1 _ _
    unfold c2_0o c2_0
    infer_instance
  exact no_chk u2_0 (chk_app t2_0_0 t2_0_1)
theorem g2 : Good kr_roll 1 S2 s2 S2 := good_if n2_0
theorem n3_0 : No kr_roll 1 S3 c3_0 := by
  haveI : Sim kr_roll 1 c3_0o c3_0 := by
    show Sim r_law_roll 1 _ _
    unfold c3_0o c3_0
    infer_instance
  exact no_chk u3_0 (chk_app t3_0_0 t3_0_1)
theorem n3_1 : No kr_roll 1 S3 c3_1 := by
  haveI : Sim kr_roll 1 c3_1o c3_1 := by
    show Sim r_law_roll 1 _ _
    unfold c3_1o c3_1
    infer_instance
  exact no_chk u3_1 t3_1_0
theorem g3 : Good kr_roll 1 S3 s3 S3 := good_if (no_or n3_0 n3_1)
theorem n4_0 : No kr_roll 1 S4 c4_0 := by
  haveI : Sim kr_roll 1 c4_0o c4_0 := by
    show Sim r_law_roll 1 _ _
    unfold c4_0o c4_0
    infer_instance
  exact no_chk u4_0 (chk_app t4_0_0 t4_0_1)
theorem n4_1 : No kr_roll 1 S4 c4_1 := by
  haveI : Sim kr_roll 1 c4_1o c4_1 := by
    show Sim r_law_roll 1 _ _
    unfold c4_1o c4_1
    infer_instance
  exact no_chk u4_1 (chk_app t4_1_0 t4_1_1)
theorem g4 : Good kr_roll 1 S4 s4 S4 := good_if (no_or n4_0 n4_1)
theorem g5 : Good kr_roll 1 S5 s5 S6 := by
  haveI : SimS kr_roll 1 s5o s5 := by
    show SimS r_law_roll 1 _ _
    unfold s5o s5
    infer_instance
  exact (good_run dice_gen t5_0)
theorem g6 : Good kr_roll 1 S6 s6 S7 := by
  haveI : SimS kr_roll 1 s6o s6 := by
    show SimS r_law_roll 1 _ _
    unfold s6o s6
    infer_instance
  exact (good_app (good_run dice_gen t6_0) (good_run dice_gen t6_1))
theorem g7 : Good kr_roll 1 S7 s7 S8 := by
  haveI : SimS kr_roll 1 s7o s7 := by
    show SimS r_law_roll 1 _ _
    unfold s7o s7
    infer_instance
  exact (good_app (good_run dice_gen t7_0) (good_app (good_run dice_gen t7_1) (good_run dice_gen t7_2)))
theorem g8 : Good kr_roll 1 S8 s8 S9 := by
  haveI : SimS kr_roll 1 s8o s8 := by
    show SimS r_law_roll 1 _ _
    unfold s8o s8
    infer_instance
  exact (good_run dice_gen t8_0)
theorem g9 : Good kr_roll 1 S9 s9 S10 := by
  haveI : SimS kr_roll 1 s9o s9 := by
    show SimS r_law_roll 1 _ _
    unfold s9o s9
    infer_instance
  exact (good_app (good_run dice_gen t9_0) (good_run dice_gen t9_1))
theorem g10 : Good kr_roll 1 S10 s10 S11 := by
  haveI : SimS kr_roll 1 s10o s10 := by
    show SimS r_law_roll 1 _ _
    unfold s10o s10
    infer_instance
  exact (good_run dice_gen t10_0)
theorem g11 : Good kr_roll 1 S11 s11 S12 := by
  haveI : SimS kr_roll 1 s11o s11 := by
    show SimS r_law_roll 1 _ _
    unfold s11o s11
    infer_instance
  exact (good_run dice_gen t11_0)
theorem n12_0 : No kr_roll 1 S12 c12_0 := by
  haveI : Sim kr_roll 1 c12_0o c12_0 := by
    show Sim r_law_roll 1 _ _
    unfold c12_0o c12_0
    infer_instance
  exact no_chk u12_0 (chk_app t12_0_0 (chk_app t12_0_1 (chk_app t12_0_2 (chk_app t12_0_3 (chk_app t12_0_4 (chk_app t12_0_5 (chk_app t12_0_6 (chk_app t12_0_7 (chk_app t12_0_8 (chk_app t12_0_9 (chk_app t12_0_10 t12_0_11)))))))))))
theorem g12 : Good kr_roll 1 S12 s12 S12 := good_if n12_0
theorem n13_0 : No kr_roll 1 S13 c13_0 := by
  haveI : Sim kr_roll 1 c13_0o c13_0 := by
    show Sim r_law_roll 1 _ _
    unfold c13_0o c13_0
    infer_instance
  exact no_chk u13_0 (chk_app t13_0_0 t13_0_1)
theorem g13 : Good kr_roll 1 S13 s13 S13 := good_if n13_0
theorem m_law_eq : m_law = mSeq s0 (mSeq s1 (mSeq s2 (mSeq s3 (mSeq s4 (mSeq s5 (mSeq s6 (mSeq s7 (mSeq s8 (mSeq s9 (mSeq s10 (mSeq s11 (mSeq s12 (s13))))))))))))) := rfl
theorem body_good : Good kr_roll 1 S0 m_law S14 := by
  rw [m_law_eq]
  exact (good_seq g0
  (good_seq g1
  (good_seq (good_up g2 h2)
  (good_seq (good_up g3 h3)
  (good_seq (good_up g4 h4)
  (good_seq g5
  (good_seq g6
  (good_seq g7
  (good_seq g8
  (good_seq g9
  (good_seq g10
  (good_seq g11
  (good_seq (good_up g12 h12)
  (good_up g13 h13))))))))))))))
theorem math2 (z : Int) (_ : Builtin.Int.intBits z ≤ 1048576) : ∃ e, m_law (startL 19 (diceOf z)) = .nx e ∧ e.length = 19 := cov_end body_good (cov_start 19 z (by decide)) (by kernel_rfl)
theorem math0 : ∃ e, m_law_rounds [none, some (.sh (.int 1)), some (.sh (.list [])), none] = .rt e (.list [.list (intsD (diceOf 0))]) := rounds0
theorem math1 (z : Int) : ∃ e, m_law_rounds [none, some (.sh (.int 1)), some (.sh (.list [.int z])), none] = .rt e (.list [.list (intsD (diceOf z))]) := rounds1 z
end K10

open PySem PySem.W PySem.Calls PyProof.Rows
theorem PySem.Challenge.cw_luckwright_k10_orders_by_luck_holds : PySem.Challenge.rw_luckwright_k10_orders_by_luck.Holds := by
  w_on; o_law
  refine HandSHeadRun.head_imp (r := K10.RR) (q := view K10.RR.prog [0, 1, 2, 53]) (H := K10.hk) (ob := K10.ob) (M := 4000) (loose := K10.loose) (d := HandSHeadRun.topDef K10.RR.prog 53) (kwd := []) K10.ob_eq K10.run
    (by kernel_rfl) (by kernel_rfl) (by kernel_rfl) (by rfl) (by first | assumption | decide +kernel) (by decide +kernel) ⟨rfl, rfl, rfl, rfl, rfl, by decide +kernel⟩ ?hw ?hc
  case hw => w_witness2
  case hc =>
    refine LamX.walk_ofTsE (l := K10.RWL) (n := 63) (k := 9) (x := "script") (CX := fun w => L2.CX K10.RWL.prog w) rfl (by decide) (by kernel_rfl) ⟨rfl, by decide, by decide⟩ ?F (fun w H s e s' z => ?hCX)
    case F =>
      intro w mg fa h Y G hmg0
      obtain ⟨K, KX, c⟩ := Y
      have hmg : mg ("law" : PySem.Str) = some (.ref fa) := by
        have e : (HandSHeadRun.topDef K10.RR.prog 53).name = ("law" : PySem.Str) := by kernel_rfl
        rw [← e]
        exact hmg0
      exact ⟨K, KX, K10.facts KX G hmg c K10.math0 K10.math1 K10.math2⟩
    case hCX =>
      obtain ⟨_, _, _, _, _, _, _, _, _, _, _, _, hE⟩ := z
      exact hE
