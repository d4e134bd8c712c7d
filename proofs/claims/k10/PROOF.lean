import PyProof.Rows.All
import Wide.All
import OpenK.AllK
import Wide.FinOn
import HandS.Base
import HandS.Call
import HandS.List
import HandS.Ends
import HandS.Exc
import HandS.ExcInit
import HandS.Defaults
import KE.KIsAll
import KE.KTryMore
import HandS.IsInst
import HandS.Words
import HandS.ExcOwn
import HandS.ExcValue
import PyProof.ReprReads
import PyProof.ReprRoads
import HandS.Head0
import HandS.Head1
import HandS.Head2
import HandS.HeadEnd
import HandS.HeadHook1
import HandS.HeadHook2
import HandS.Iter
import HandS.Walk
import HandS.Evl
import HandS.Text
import HandS.Flow
import HandS.Wide
import HandS.Dict
import PyProof.ReprBulk
import PyProof.FitsInt
import PySem.Challenge.RW_uplines_k10_errors_and_kinds_of_values
set_option Elab.async false
set_option linter.all false
set_option maxRecDepth 100000
set_option maxHeartbeats 4000000
/-! an exception class of one's own over any base, made by a call with keywords as well -/
namespace PySem
namespace XV
open PySem.W PySem.Calls PyProof.Rows PySem.HandSPX
section
variable {M : Model} {A : Around} {E : Value → Shared → Prop} {h : Heap} {g : Array GenState} {d : Drawn} {t : Nat} {os : OsState}
variable {nm q : Str} {C N : Addr} {bs bm bmB : List Value} {hdct : Bool} {sn : List Str} {sub : List Value} {ab : Bool} {col : Option Bool} {dd : Option Addr} {k0 k1 k2 k3 k5 : Option Value} {B newId initId : String} {kw : List (Str × Value)}
theorem check_new_kw (F : ExcBaseFacts B newId initId bmB) (hT : ∀ X : String, bm.contains (.type X) = bmB.contains (.type X)) {rest : List Value} {Q : Unit → Shared → Prop}
    (hC : h.get? C = some (excClassObj nm q C N bs bm hdct sn sub ab col dd k0 k1 k2 k3 k5 newId)) (hq : Q () ⟨h, g, d, t, os⟩) : wpAny M A (checkBuiltinCall newId ⟨.ref C :: rest, kw⟩) Q E ⟨h, g, d, t, os⟩ := by
  have hcont : (Value.ref C :: bm).contains (.type B) = true := by rw [List.contains_cons, hT, F.hasB, Bool.or_true]
  have hstar := F.noStar
  simp only [checkBuiltinCall, F.newKind, F.newSplit, F.newRow]
  repeat (first | refine wpAny_loadPart_at hC ?_ | (refine wpAny_isSubtype_exc hC ?_; rw [hcont]) | refine wpAny_staticBase_exc hC ?_ | refine wpAny_madeBy_exc hC ?_ | simp only [bne_self_eq_false, Bool.false_eq_true, if_false] | wp_step)
  exact hq
end
section
variable {prog : Program} {w : World} {A : Around} {E : Value → Shared → Prop} {R : Result → Shared → Prop} {h : Heap} {g : Array GenState} {d : Drawn} {t : Nat} {os : OsState}
variable {nm q : Str} {C N : Addr} {bs bm bmB : List Value} {hdct : Bool} {sn : List Str} {sub : List Value} {ab : Bool} {col : Option Bool} {dd : Option Addr} {k0 k1 k2 k3 k5 : Option Value} {B newId initId : String} {kw : List (Str × Value)}
theorem new_kw (F : ExcBaseFacts B newId initId bmB) (hT : ∀ X : String, bm.contains (.type X) = bmB.contains (.type X)) {rest : List Value}
    (hC : h.get? C = some (excClassObj nm q C N bs bm hdct sn sub ab col dd k0 k1 k2 k3 k5 newId))
    (hq : R (.ok (.ret (.ref (h.objs.size + 1)))) ⟨(h.push { cls := .type "tuple", data := .seq rest.toArray }).push
      { cls := .ref C, data := .fields #[.ref h.objs.size, .none, .none, .none, .bool false, .none] }, g, d, t, os⟩) (hrest : rest.length ≤ sizeLine) :
    codeAny (model prog w) A (.builtin newId ⟨.ref C :: rest, kw⟩) R ⟨h, g, d, t, os⟩ := by
  have hends := F.ends
  have hcB : (Value.ref C :: bm).contains (.type B) = true := by rw [List.contains_cons, hT, F.hasB, Bool.or_true]
  have hcA : (Value.ref C :: bm).contains (.type "AttributeError") = false := by rw [List.contains_cons, hT, F.noAttr]; rfl
  have hcN : (Value.ref C :: bm).contains (.type "NameError") = false := by rw [List.contains_cons, hT, F.noName]; rfl
  refine codeAny_builtinAt F.entry ?_
  unfold Builtin.«BaseException.__new__»
  refine wpAt_bind ?_
  show wpAt _ _ _ (stack >>= _) _ _ _
  refine wpAt_bind (wpAt_stack fun p below => wpAt_of_wpAny ?_)
  wp_walk
  refine wpAt_of_wpAny ?_
  rw [F.owner]
  repeat (first | with_reducible refine wpAny_madeHere_exc F.canon hC ?_ | with_reducible refine wpAny_loadPart_at hC ?_ | (with_reducible refine wpAny_isSubtype_exc hC ?_; first | rw [hcB] | rw [hcA] | rw [hcN]) | wp_step)
  show R _ _
  rw [Heap.size_push]
  exact hq
theorem type_call_kw (F : ExcBaseFacts B newId initId bmB) (hT : ∀ X : String, bm.contains (.type X) = bmB.contains (.type X)) {rest : List Value} {fI : Addr} {Q : Fin → Shared → Prop}
    (hC : h.get? C = some (excClassObj nm q C N bs bm hdct sn sub ab col dd k0 k1 k2 k3 k5 newId))
    (hi : W.Looks (model prog w) h (typeLookup (.ref C) "__init__") (some (.ref fI))) (hb : ∀ self, W.Looks (model prog w) h (bindSpecial (.ref fI) self) (.ref fI, [self])) (hrest : rest.length ≤ sizeLine)
    (hq : codeAny (model prog w) A (.call (.ref fI) ⟨.ref (h.objs.size + 1) :: rest, kw⟩)
      (fun r s' => match r with | .ok (.ret v) => v = .none ∧ Q (.done (.ret (.ref (h.objs.size + 1)))) s' | .ok _ => False | .error e => E e s')
      ⟨(h.push (W.kdv_tup rest)).push (excO C h.objs.size), g, d, t, os⟩) :
    wpAny (model prog w) A (Builtin.«type.__call__» ⟨.ref C :: rest, kw⟩) Q E ⟨h, g, d, t, os⟩ := by
  repeat (first | with_reducible refine wpAny_loadPart_at hC ?_ | with_reducible refine wpAny_madeBy_exc hC ?_ | wp_step)
  refine codeAny_call_builtin_code (Code.quiet_builtin _ F.quiet) (check_new_kw F hT hC ?_)
  refine new_kw F hT hC ?_ hrest
  show wpAny _ _ _ _ _ _
  have k : ∀ b o, h.get? b = some o → ((h.push (W.kdv_tup rest)).push (excO C h.objs.size)).get? b = some o := fun b o e => Heap.get?_push_of_some _ (Heap.get?_push_of_some _ e)
  have hC₁ := k _ _ hC
  have hget : ((h.push (W.kdv_tup rest)).push (excO C h.objs.size)).get? (h.objs.size + 1) = some (excO C h.objs.size) := by heap_get
  have hcC : (Value.ref C :: bm).contains (.ref C) = true := by simp
  have i1 := hi.keeps k
  have b1 := (hb (.ref (h.objs.size + 1))).keeps k
  unfold isInstance
  repeat (first | with_reducible refine wpAny_loadPart_at hget ?_ | (with_reducible refine wpAny_isSubtype_exc hC₁ ?_; rw [hcC]) | wp_step)
  show wpAny _ _ (typeLookup (.ref C) _) _ _ _
  refine i1.at ?_
  refine wpAny_holding (wpAny_bind (b1.at ?_))
  refine wpAny_bind (wpAny_call (codeAny_mono hq fun r s' z => ?_))
  rcases r with e | (v | _ | _ | _) <;> first | exact z | exact z.elim | skip
  obtain ⟨rfl, z⟩ := z
  first
    | exact wpAny_pure (wpAny_pure z)
    | (wp_walk; exact z)
theorem call_kw (F : ExcBaseFacts B newId initId bmB) (hT : ∀ X : String, bm.contains (.type X) = bmB.contains (.type X)) {rest : List Value} {fI : Addr}
    (hC : h.get? C = some (excClassObj nm q C N bs bm hdct sn sub ab col dd k0 k1 k2 k3 k5 newId))
    (hi : W.Looks (model prog w) h (typeLookup (.ref C) "__init__") (some (.ref fI))) (hb : ∀ self, W.Looks (model prog w) h (bindSpecial (.ref fI) self) (.ref fI, [self])) (hrest : rest.length ≤ sizeLine)
    (hcall : W.Looks (model prog w) h (specialOf (.ref C) "__call__") (some (.builtin "type.__call__"))) (htyp : W.Looks (model prog w) h (isInstance (.ref C) (.type "type")) true)
    (hq : codeAny (model prog w) (A.under (.builtin "type.__call__" ⟨.ref C :: rest, kw⟩)) (.call (.ref fI) ⟨.ref (h.objs.size + 1) :: rest, kw⟩) (W.InitBack (h.objs.size + 1) R)
      ⟨(h.push (W.kdv_tup rest)).push (excO C h.objs.size), g, d, t, os⟩) :
    codeAny (model prog w) A (.call (.ref C) ⟨rest, kw⟩) R ⟨h, g, d, t, os⟩ := by
  refine codeAny_of_tree ?_
  show wpAny _ _ (callAny (.ref C) _) _ _ _
  refine W.nd_load hC ?_
  show wpAny _ _ (callAny.viaDunder (.ref C) _) _ _ _
  unfold callAny.viaDunder
  refine wpAny_bind (hcall.at ?_)
  dsimp only
  rw [tc_bind]
  refine wpAny_bind (wpAny_pure (wpAny_bind (wpAny_pure ?_)))
  refine wpAny_pure (a := Fin.again (.call (.builtin "type.__call__") ⟨.ref C :: rest, kw⟩)) (And.intro rfl ?_)
  refine codeAny_call_builtin_at (Code.quiet_builtin _ (by decide +kernel)) entry_typeCall (W.check_slot (s := ⟨h, g, d, t, os⟩) tc_kind tc_split htyp (tc_args _ _ _) ?_)
  refine type_call_kw F hT hC hi hb hrest (codeAny_mono hq fun r s' z => ?_)
  rcases r with e | (v | _ | _ | _) <;> exact z
end
end XV
end PySem
set_option Elab.async false
set_option linter.all false
set_option maxRecDepth 100000
set_option maxHeartbeats 4000000
/-! an own exception over any base as a value: its stores, its fields, isinstance -/
namespace PySem
namespace XV
open PySem.W PySem.Calls PyProof.Rows PySem.HandSPX
/-- a built-in error and its chain -/
structure ErrBase (B newId initId : String) (tail : List Value) : Prop where
  F : ExcBaseFacts B newId initId tail
  passes : ∀ self : Value, refuseLoop self "__setattr__" tail = pure ()
  obj : tail.contains (.type "object") = true
theorem base_value : ErrBase "ValueError" "ValueError.__new__" "ValueError.__init__" [.type "ValueError", .type "Exception", .type "BaseException", .type "object"] := ⟨F.excBase_ValueError, fun self => by kernel_rfl, by decide +kernel⟩
theorem base_lookup : ErrBase "LookupError" "LookupError.__new__" "LookupError.__init__" [.type "LookupError", .type "Exception", .type "BaseException", .type "object"] := ⟨F.excBase_LookupError, fun self => by kernel_rfl, by decide +kernel⟩
theorem base_runtime : ErrBase "RuntimeError" "RuntimeError.__new__" "RuntimeError.__init__" [.type "RuntimeError", .type "Exception", .type "BaseException", .type "object"] := ⟨F.excBase_RuntimeError, fun self => by kernel_rfl, by decide +kernel⟩
theorem base_arith : ErrBase "ArithmeticError" "ArithmeticError.__new__" "ArithmeticError.__init__" [.type "ArithmeticError", .type "Exception", .type "BaseException", .type "object"] := ⟨F.excBase_ArithmeticError, fun self => by kernel_rfl, by decide +kernel⟩
/-- own classes, then the chain -/
def refsB (tail : List Value) : List Value → Bool
  | .ref _ :: r => refsB tail r
  | l => l == tail
section
variable {tail : List Value}
theorem refsB_cases : ∀ l : List Value, refsB tail l = true → (∃ c r, l = .ref c :: r ∧ refsB tail r = true) ∨ l = tail
  | [], e => .inr (beq_iff_eq.mp e)
  | .ref c :: r, e => .inl ⟨c, r, rfl, e⟩
  | .none :: _, e => .inr (beq_iff_eq.mp e)
  | .ellipsis :: _, e => .inr (beq_iff_eq.mp e)
  | .notImplemented :: _, e => .inr (beq_iff_eq.mp e)
  | .bool _ :: _, e => .inr (beq_iff_eq.mp e)
  | .int _ _ :: _, e => .inr (beq_iff_eq.mp e)
  | .float _ _ :: _, e => .inr (beq_iff_eq.mp e)
  | .str _ _ :: _, e => .inr (beq_iff_eq.mp e)
  | .bytes _ _ :: _, e => .inr (beq_iff_eq.mp e)
  | .type _ :: _, e => .inr (beq_iff_eq.mp e)
  | .builtin _ :: _, e => .inr (beq_iff_eq.mp e)
theorem refsB_pass (hp : ∀ self : Value, refuseLoop self "__setattr__" tail = pure ()) (self : Value) : ∀ l : List Value, refsB tail l = true → refuseLoop self "__setattr__" l = pure () := by
  intro l
  induction l with
  | nil =>
    intro e
    have q : ([] : List Value) = tail := beq_iff_eq.mp e
    rw [q]
    exact hp self
  | cons a r ih =>
    intro e
    rcases refsB_cases (a :: r) e with ⟨c, r', q, h⟩ | q
    · obtain ⟨rfl, rfl⟩ := List.cons.inj q
      rw [refuseLoop_ref]
      exact ih h
    · rw [q]
      exact hp self
theorem refsB_contains (X : String) : ∀ l : List Value, refsB tail l = true → l.contains (.type X) = tail.contains (.type X) := by
  intro l
  induction l with
  | nil =>
    intro e
    have q : ([] : List Value) = tail := beq_iff_eq.mp e
    rw [q]
  | cons a r ih =>
    intro e
    rcases refsB_cases (a :: r) e with ⟨c, r', q, h⟩ | q
    · obtain ⟨rfl, rfl⟩ := List.cons.inj q
      rw [List.contains_cons, ih h]
      rfl
    · rw [q]
end
section
open Builtin Builtin.ObjectAttr
variable {prog : Program} {w : World} {A : Around} {E : Value → Shared → Prop} {R : Result → Shared → Prop} {hp : Heap} {g : Array GenState} {d : Drawn} {t : Nat} {os : OsState} {tail : List Value} {B newId initId : String}
theorem osa_new {K : W.Frag} {name : Str} {tk : Tok} {v : Value} {x C : Addr} {fv : Array Value} {cd : ClassData} (EB : ErrBase B newId initId tail)
    (X : K.In hp) (hx : hp.get? x = some { cls := .ref C, data := .fields fv }) (hcd : W.clsIn K C = some cd) (hm : refsB tail cd.mro = true) (hne : cd.mro.isEmpty = false) (hh : cd.hasDict = true) (ha : W.findIn K (.ref C) name = some none)
    (hq : ∀ h' tk' dx, (∀ b o, b ≠ x → hp.get? b = some o → h'.get? b = some o) → hp.objs.size ≤ dx → dx ≠ x → h'.get? x = some { cls := .ref C, dict := some dx, data := .fields fv } →
      h'.Ns1 dx (fun y => if y = name then some v else none) → R (.ok (.ret .none)) ⟨h', g, d, tk', os⟩) :
    codeAny (model prog w) A (.call (.builtin "object.__setattr__") ⟨[.ref x, .str name tk, v], []⟩) R ⟨hp, g, d, t, os⟩ := by
  have I : W.InstAt hp x { cls := .ref C, data := .fields fv } C none := ⟨hx, rfl, rfl, trivial⟩
  have SF := F.store_object
  have hob : cd.mro.contains (.type "object") = true := (refsB_contains "object" _ hm).trans EB.obj
  have hxs : x ≠ hp.objs.size := Nat.ne_of_lt (Heap.lt_size hx)
  have sub : W.Looks (model prog w) hp (isInstance (.ref x) (.type "object")) true := I.type.andThen (W.looks_mroIn X (by unfold W.mroIn; rw [hcd, Option.bind_some, if_neg (by rw [hne]; decide), hob]))
  refine codeAny_call_builtin SF.slot.plain SF.entry (@W.check_slot (model prog w) _ _ ⟨hp, g, d, t, os⟩ "object.__setattr__" "object" "__setattr__" (.ref x) [.str name tk, v] [] _ SF.kind SF.split sub (SF.args (.ref x) (.str name tk) v) ?_)
  have hmr : W.Looks (model prog w) hp (mroOf (.ref C)) cd.mro := (W.looks_clsIn X hcd).andThen .now
  have L3 : W.Looks (model prog w) hp (storeTaker? none) none := .now
  have hcls : W.Looks (model prog w) hp (classData C) cd := W.looks_clsIn X hcd
  rw [W.osa_eq, refuse_eq]
  refine wpAny_bind (wpAny_bind (I.type.at (wpAny_bind (hmr.at ?_))))
  rw [refsB_pass EB.passes _ _ hm]
  refine wpAny_pure (wpAny_bind (I.type.at (wpAny_bind ((W.looks_findIn X ha).at (wpAny_bind (L3.at ?_))))))
  show wpAny _ _ (storeInOwnDict (.ref x) (.ref C) (.str name tk) name v false) _ _ _
  obtain ⟨nm, bs, mro, ns, qn, hd, sn, sb, ab, col, del⟩ := cd
  dsimp only at hh
  subst hh
  unfold storeInOwnDict ownDictForStores
  repeat (first | with_reducible refine store_in_new ?_ ?_ | with_reducible refine wpAny_loadPart_at hx ?_ | with_reducible refine hcls.at ?_ | wp_step)
  · exact ⟨_, #[], _, (Heap.get?_update_ne _ _ _ _ hxs.symm).trans (Heap.get?_push_at rfl rfl), rfl, fun e he => absurd he (by simp), fun _ => rfl⟩
  · intro h' tk' hn' hs
    have hx₁ : (hp.push { cls := .type "dict", data := .dict #[] }).get? x = some { cls := .ref C, data := .fields fv } := Heap.get?_push_of_some _ hx
    refine hq h' tk' hp.objs.size (fun b o hb ho => ?_) (Nat.le_refl _) hxs.symm ?_ hn'
    · exact (hs.2 b (Nat.ne_of_lt (Heap.lt_size ho))).trans ((Heap.get?_update_ne _ _ _ _ hb).trans (Heap.get?_push_of_some _ ho))
    · exact (hs.2 x hxs).trans (Heap.get?_update_self _ hx₁ rfl)
theorem osa_more {K : W.Frag} {name : Str} {tk : Tok} {v : Value} {x C dx : Addr} {fv : Array Value} {cd : ClassData} {m0 : Str → Option Value} {nl : List Str} (EB : ErrBase B newId initId tail)
    (X : K.In hp) (hx : hp.get? x = some { cls := .ref C, dict := some dx, data := .fields fv }) (hns : hp.Ns1 dx m0) (hw : Within m0 nl) (hz : nl.length ≤ 1000) (hcd : W.clsIn K C = some cd) (hm : refsB tail cd.mro = true) (hne : cd.mro.isEmpty = false) (hh : cd.hasDict = true)
    (ha : W.findIn K (.ref C) name = some none)
    (hq : ∀ h' tk', (∀ b o, b ≠ dx → hp.get? b = some o → h'.get? b = some o) → h'.Ns1 dx (fun y => if y = name then some v else m0 y) → R (.ok (.ret .none)) ⟨h', g, d, tk', os⟩) :
    codeAny (model prog w) A (.call (.builtin "object.__setattr__") ⟨[.ref x, .str name tk, v], []⟩) R ⟨hp, g, d, t, os⟩ := by
  obtain ⟨oD, esD, epD, hoD, hdD, _⟩ := hns.count hw
  have I : W.InstAt hp x { cls := .ref C, dict := some dx, data := .fields fv } C (some oD) := ⟨hx, rfl, rfl, hoD⟩
  have SF := F.store_object
  have hob : cd.mro.contains (.type "object") = true := (refsB_contains "object" _ hm).trans EB.obj
  have sub : W.Looks (model prog w) hp (isInstance (.ref x) (.type "object")) true := I.type.andThen (W.looks_mroIn X (by unfold W.mroIn; rw [hcd, Option.bind_some, if_neg (by rw [hne]; decide), hob]))
  refine codeAny_call_builtin SF.slot.plain SF.entry (@W.check_slot (model prog w) _ _ ⟨hp, g, d, t, os⟩ "object.__setattr__" "object" "__setattr__" (.ref x) [.str name tk, v] [] _ SF.kind SF.split sub (SF.args (.ref x) (.str name tk) v) ?_)
  have hmr : W.Looks (model prog w) hp (mroOf (.ref C)) cd.mro := (W.looks_clsIn X hcd).andThen .now
  have L3 : W.Looks (model prog w) hp (storeTaker? none) none := .now
  have hcls : W.Looks (model prog w) hp (classData C) cd := W.looks_clsIn X hcd
  rw [W.osa_eq, refuse_eq]
  refine wpAny_bind (wpAny_bind (I.type.at (wpAny_bind (hmr.at ?_))))
  rw [refsB_pass EB.passes _ _ hm]
  refine wpAny_pure (wpAny_bind (I.type.at (wpAny_bind ((W.looks_findIn X ha).at (wpAny_bind (L3.at ?_))))))
  show wpAny _ _ (storeInOwnDict (.ref x) (.ref C) (.str name tk) name v false) _ _ _
  obtain ⟨nm, bs, mro, ns, qn, hd, sn, sb, ab, col, del⟩ := cd
  dsimp only at hh
  subst hh
  unfold storeInOwnDict ownDictForStores
  repeat (first | with_reducible refine OEX.store_in_old hns hw hz ?_ | with_reducible refine wpAny_loadPart_at hx ?_ | with_reducible refine hcls.at ?_ | wp_step)
  intro h' tk' hn' hs
  exact hq h' tk' (fun b o hb ho => (hs.2 b hb).trans ho) hn'
end
section
variable {prog : Program} {w : World} {A : Around} {E : Value → Shared → Prop} {s : Shared} {K : Frag} {x D : Addr} {ox : Obj} {od : Option Obj}
theorem findObj_dataO {C : Addr} {name : Str} {a g : Value} (hc : (clsIn K C).isSome = true) (ha : findIn K (.ref C) name = some (some a)) (hg : specialIn K a "__get__" = some (some g)) (ht : takesIn K a = some true) : findObj K C od name = some (.bind g a) := by
  obtain ⟨cd, hc⟩ := Option.isSome_iff_exists.mp hc
  unfold findObj
  rw [hc, Option.bind_some, ha, Option.bind_some]
  simp [hg, ht]
/-- x.__class__ of an exception with or without its dict -/
theorem class_of {Q : Option Value → Shared → Prop} (hga : findIn K (.ref D) "__getattribute__" = some (some (.builtin "BaseException.__getattribute__"))) (hgt : findIn K (.ref D) "__getattr__" = some none) (hsub : subIn K (.ref D) (.type "BaseException") = some true)
    (hdct : hasDictIn K D = true) (ha : findIn K (.ref D) "__class__" = some (some (.builtin "object.__class__")))
    (hn : specialIn K (.builtin "object.__class__") "__get__" = some (some (.builtin "getset_descriptor.__get__"))) (htk : takesIn K (.builtin "object.__class__") = some true) (hm : mroIn K D (.type "object") = some true)
    (X : K.In s.heap) (I : InstAt s.heap x ox D od) (h : Q (some (.ref D)) { s with toks := s.toks + 1 }) : wpAny (model prog w) A (getAttr? (.ref x) "__class__") Q E s := by
  have hf : findObj K D od "__class__" = some (.bind (.builtin "getset_descriptor.__get__") (.builtin "object.__class__")) := findObj_dataO (by obtain ⟨cd, hc, _⟩ := any_some hdct; rw [hc]; rfl) ha hn htk
  obtain ⟨hp, g, d, t, os⟩ := s
  have L0 := I.type (M := model prog w)
  have L1 := looks_findIn (M := model prog w) X hga
  have L2 := looks_findIn (M := model prog w) X hgt
  have L3 := looks_find (M := model prog w) X I hf
  have sub : Looks (model prog w) hp (isInstance (.ref x) (.type "BaseException")) true := L0.andThen (looks_subIn X hsub)
  have hx0 : (false && onTheHeap (Value.builtin "BaseException.__getattribute__")) = false := rfl
  have hx2 : (Value.builtin "BaseException.__getattribute__" == Value.builtin "object.__getattribute__") = false := by decide +kernel
  have hx1 : (onTheHeap (Value.ref D) && Value.builtin "BaseException.__getattribute__" == Value.builtin "object.__getattribute__") = false := by rw [hx2]; rfl
  unfold getAttr? getAttrBy? getAttrBy
  refine wpAny_bind (wpAny_mkText (wpAny_bind (wpAny_attempt (wpAny_holding (wpAny_bind (L0.at (wpAny_bind (L1.at ?_))))))))
  show wpAny _ _ (if (onTheHeap (Value.ref D) && Value.builtin "BaseException.__getattribute__" == Value.builtin "object.__getattribute__") = true then _ else _) _ _ _
  rw [hx1, if_neg Bool.false_ne_true]
  unfold getAttrByItsOwn hookBefore
  refine wpAny_bind ?_
  rw [if_pos (show onTheHeap (Value.ref D) = true from rfl)]
  refine L2.at ?_
  refine wpAny_bind (wpAny_attempt (wpAny_holding ?_))
  unfold callGetattribute
  rw [hx0, if_neg Bool.false_ne_true]
  unfold boundAndCalled
  rw [PySem.F.excAttr_ValueError.ga.bind (.ref x)]
  refine wpAny_bind (wpAny_pure ?_)
  show wpAny _ _ (call (.builtin "BaseException.__getattribute__") [.ref x, .str "__class__" t]) _ _ _
  refine wpAny_call (codeAny_call_builtin PySem.F.excAttr_ValueError.ga.plain PySem.F.entry_bexc_ga ?_)
  refine @check_slot (model prog w) _ _ ⟨hp, g, d, t + 1, os⟩ "BaseException.__getattribute__" "BaseException" "__getattribute__" (.ref x) [.str "__class__" t] [] _ (by decide +kernel) (by decide +kernel) sub (PySem.F.args_bexc_ga (.ref x) (.str "__class__" t)) ?_
  unfold Builtin.«object.__getattribute__»
  refine wpAny_bind (wpAny_of_eq (a := ((Value.ref x : Value), [Value.str "__class__" t])) (by first | rfl | (simp only [slotArgs]; rfl)) ?_)
  refine wpAny_bind (wpAny_pure (wpAny_bind (L0.at (wpAny_bind (L3.at ?_)))))
  show wpAny _ _ (holding [Value.builtin "object.__class__"] (call (.builtin "getset_descriptor.__get__") [.builtin "object.__class__", .ref x, .ref D]) >>= ret) _ _ _
  refine wpAny_bind (wpAny_holding (wpAny_call (class_get (s := ⟨hp, g, d, t + 1, os⟩) (ox := ox) (od := od) X I hm ?_)))
  refine wpAny_pure ?_
  show wpAny _ _ (handedOut (.ref D)) _ _ _
  rw [handedOut_of (v := .ref D) rfl]
  first
    | exact wpAny_pure (wpAny_pure h)
    | exact wpAny_pure h
    | exact wpAny_pure (wpAny_bind (wpAny_pure (wpAny_pure h)))
theorem kitx_err (hga : findIn K (.ref D) "__getattribute__" = some (some (.builtin "BaseException.__getattribute__"))) (hgt : findIn K (.ref D) "__getattr__" = some none) (hsub : subIn K (.ref D) (.type "BaseException") = some true) (hdct : hasDictIn K D = true) (ha : findIn K (.ref D) "__class__" = some (some (.builtin "object.__class__")))
    (hn : specialIn K (.builtin "object.__class__") "__get__" = some (some (.builtin "getset_descriptor.__get__"))) (htk : takesIn K (.builtin "object.__class__") = some true) (hm : mroIn K D (.type "object") = some true) :
    KitX K (.ref x) (.ref D) (fun h => ∃ ox od, InstAt h x ox D od) where
  ty := fun _ _ _ ⟨_, _, I⟩ => I.type
  it := fun _ _ X _ => by
    obtain ⟨cdD, hcD, _⟩ := any_some hdct
    unfold clsIn at hcD
    split at hcD
    · rename_i c' d' cd' sl' ho
      intro A' Q' E' s' k q
      unfold isType loadHead
      exact wpAny_bind (wpAny_loadPart (k _ _ (X _ _ ho)) (wpAny_pure q))
    · cases hcD
  ne := fun h tp dd its n sl X htp => by
    obtain ⟨cdD, hcD, _⟩ := any_some hdct
    refine Bool.eq_false_iff.mpr fun q => ?_
    have e : D = tp := Value.ref.inj (beq_iff_eq.mp q)
    subst e
    unfold clsIn at hcD
    split at hcD
    · rename_i c' d' cd' sl' ho
      have z := (X _ _ ho).symm.trans htp
      cases z
    · cases hcD
  ca := fun X ⟨_, _, I⟩ k => class_of hga hgt hsub hdct ha hn htk hm X I k
end
end XV
end PySem

namespace L2
open PySem PySem.Spec PyProof.Rows
open PySem.XV (ErrBase refsB)
/-- what the written part says of an own exception's class -/
structure ExC (K : PySem.W.Frag) (C : Addr) : Prop where
  cls : ∃ nm q N bs bm sn sub ab col dd k0 k1 k2 k3 k5 B newId initId tail, ErrBase B newId initId tail ∧ K.lookup C = some (excClassObj nm q C N bs bm true sn sub ab col dd k0 k1 k2 k3 k5 newId) ∧ refsB tail bm = true
  sa : PySem.W.findIn K (.ref C) "__setattr__" = some (some (.builtin "object.__setattr__"))
  ga : PySem.W.findIn K (.ref C) "__getattribute__" = some (some (.builtin "BaseException.__getattribute__"))
  gg : PySem.W.findIn K (.ref C) "__getattr__" = some none
  exC : PySem.W.subIn K (.ref C) (.type "BaseException") = some true
  tyC : PySem.W.typeIn K (.ref C) = some (.type "type")
  kC : PySem.W.keepIn K (.ref C) = true
  cl : PySem.W.specialIn K (.ref C) "__call__" = some (some (.builtin "type.__call__"))
  inT : PySem.W.instIn K (.ref C) (.type "type") = some true
  hd : PySem.W.hasDictIn K C = true
  ha : PySem.W.findIn K (.ref C) "__class__" = some (some (.builtin "object.__class__"))
  hm : PySem.W.mroIn K C (.type "object") = some true
  hn : PySem.W.specialIn K (.builtin "object.__class__") "__get__" = some (some (.builtin "getset_descriptor.__get__"))
  ht : PySem.W.takesIn K (.builtin "object.__class__") = some true
section
variable {X : Cx} {pins : List (Addr × Obj)} {σ : St} {H : Hp} {s : Shared} {a C dx : Addr} {f : Str} {y : V} {u : Value} {fs : List (Str × V)} {Q : Unit → Shared → Prop} {E : Value → Shared → Prop} {A : Around}
theorem est_new (T : ExC X.K C) (I : Inv X pins σ H s) (e : H a = some (exo a C none)) (hno : PySem.W.findIn X.K (.ref C) f = some none) (ry : RelV y u)
    (h : ∀ dx s', H dx = none → dx ≠ a → Inv X pins σ (upd (upd H dx (exd dx [(f, y)])) a (exo a C (some dx))) s' → Q () s') : wpAny (model X.prog X.w) A (setAttr (.ref a) f u) Q E s := by
  obtain ⟨nm, q, N, bs, bm, sn, sub, ab, col, dd, k0, k1, k2, k3, k5, B, newId, initId, tail, EB, hC, hbm⟩ := T.cls
  have hcl : PySem.W.clsIn X.K C = some { name := nm, bases := bs, mro := .ref C :: bm, ns := N, qualname := q, hasDict := true, slotNames := sn, subclasses := sub, abstract := ab, collection := col, hasDel := false } := by unfold PySem.W.clsIn; rw [hC] <;> rfl
  obtain ⟨t1, ho⟩ := exo_at I.hok e
  obtain ⟨hp, g, d, t, os⟩ := s
  refine PySem.W.set_plain I.kIn (ox := { cls := .ref C, dict := none, data := .fields #[.ref t1, .none, .none, .none, .bool false, .none] }) (od := none) ⟨ho, rfl, rfl, trivial⟩ T.sa ?_
  refine PySem.XV.osa_new EB I.kIn ho hcl (show refsB tail (.ref C :: bm) = true from hbm) rfl rfl hno (fun h' tk' dx k dn dne hx hn => ?_)
  have hnd : H dx = none := I.hok.fresh dn
  have nd : ∀ {b : Addr} {o : Obj}, hp.get? b = some o → b ≠ dx := fun {b o} q => Nat.ne_of_lt (Nat.lt_of_lt_of_le (Heap.lt_size q) dn)
  have na : ∀ {b : Addr}, H b = none → b ≠ a := fun {b} n z => by
    rw [z, e] at n
    cases n
  have Un1 : Un X.fs [] H (upd (upd H dx (exd dx [(f, y)])) a (exo a C (some dx))) hp h' := {
    keep := fun b o q n _ _ => k b o (na n) q
    slot := fun b o q n _ _ => ⟨o.slots, k b o (na n) q⟩
    free := fun b o q n _ => by rw [upd_ne (na n), upd_ne (nd q)]; exact n
    there := fun b o q _ => by
      by_cases hb : b = a
      · exact ⟨_, by rw [hb]; exact hx⟩
      · exact ⟨o, k b o hb q⟩
    tups := fun b xs q => by rw [upd_ne (at_ne e q exo_tup), upd_ne (ne_of_none q hnd)]; exact q
    frzs := fun b o v q => by rw [upd_ne (at_ne e q exo_frz), upd_ne (ne_of_none q hnd)]; exact q
    tbls := fun b ps q => ⟨#[], by rw [upd_ne (at_ne e q exo_tbl), upd_ne (ne_of_none q hnd), q]; simp⟩ }
  refine h dx _ hnd dne (I.un (t' := tk') Un1 fun b o q => ?_)
  by_cases hb : b = a
  · subst hb
    rw [upd_same] at q
    cases q
    exact exo_ok hx
  · rw [upd_ne hb] at q
    by_cases hd : b = dx
    · subst hd
      rw [upd_same] at q
      cases q
      exact exd_ok hn (relO_put (fs := []) ry fun g => True.intro)
    · rw [upd_ne hd] at q
      exact (I.hok b o q).stay (fun c v hc z => k c v (by
          rcases hc with hc | hc
          · rw [hc]
            exact hb
          · exact at_ne e hc exo_own) z)
        (fun c hc => by rw [upd_ne (at_ne e hc exo_own), upd_ne (ne_of_none hc hnd)]; exact hc) (fun c xs hc => by rw [upd_ne (at_ne e hc exo_tup), upd_ne (ne_of_none hc hnd)]; exact hc)
theorem est_more (T : ExC X.K C) (I : Inv X pins σ H s) (e : H a = some (exo a C (some dx))) (ed : H dx = some (exd dx fs)) (hl : fs.length ≤ 900) (hno : PySem.W.findIn X.K (.ref C) f = some none) (ry : RelV y u)
    (h : ∀ s', Inv X pins σ (upd H dx (exd dx ((f, y) :: fs))) s' → Q () s') : wpAny (model X.prog X.w) A (setAttr (.ref a) f u) Q E s := by
  obtain ⟨nm, q, N, bs, bm, sn, sub, ab, col, dd, k0, k1, k2, k3, k5, B, newId, initId, tail, EB, hC, hbm⟩ := T.cls
  have hcl : PySem.W.clsIn X.K C = some { name := nm, bases := bs, mro := .ref C :: bm, ns := N, qualname := q, hasDict := true, slotNames := sn, subclasses := sub, abstract := ab, collection := col, hasDel := false } := by unfold PySem.W.clsIn; rw [hC] <;> rfl
  obtain ⟨t1, ho⟩ := exo_at I.hok e
  obtain ⟨mA, hns, rel⟩ := exd_at I.hok ed
  have hw := within_of rel
  obtain ⟨hp, g, d, t, os⟩ := s
  obtain ⟨oD, _, _, hoD, _, _⟩ := hns.count hw
  refine PySem.W.set_plain I.kIn (ox := { cls := .ref C, dict := some dx, data := .fields #[.ref t1, .none, .none, .none, .bool false, .none] }) (od := some oD) ⟨ho, rfl, rfl, hoD⟩ T.sa ?_
  refine PySem.XV.osa_more EB I.kIn ho hns hw (by rw [List.length_map]; omega) hcl (show refsB tail (.ref C :: bm) = true from hbm) rfl rfl hno (fun h' tk' k hn => ?_)
  have hd : ∃ o, h'.get? dx = some o := by
    obtain ⟨o, _, _, e', _⟩ := hn
    exact ⟨o, e'⟩
  exact h _ (I.write (t' := tk') (x := dx) (e := dx) (o := exd dx ((f, y) :: fs)) (by rw [ed]; exact True.intro) (.inl rfl) k hd (exd_ok hn (relO_put ry rel)))
end
/-- self.f = e -/
def tEst (K : PySem.W.Frag) (f : Str) (to te : TE) : TS := fun D σ H => te σ H fun y H1 => to σ H1 fun x H2 => ∃ a C : Addr, x = .ref a ∧ ExC K C ∧ PySem.W.findIn K (.ref C) f = some none ∧
  ((H2 a = some (exo a C none) ∧ ∀ dx, H2 dx = none → dx ≠ a → D.nx σ (upd (upd H2 dx (exd dx [(f, y)])) a (exo a C (some dx)))) ∨
    ∃ (dx : Addr) (fs : List (Str × V)), H2 a = some (exo a C (some dx)) ∧ H2 dx = some (exd dx fs) ∧ fs.length ≤ 900 ∧ D.nx σ (upd H2 dx (exd dx ((f, y) :: fs))))
section
variable {X : Cx} {o e : Expr} {es : List Expr} {to te : TE} {ta : TA} {f : Str} {p p' p1 p2 pos : Pos}
theorem ps_est (ho : PE X o to) (he : PE X e te) (hs : swapsWith e (some (.Attribute o f p')) pos.line X.env = pure false := by rfl) : PS X (.Assign [.Attribute o f p'] e pos) (tEst X.K f to te) := by
  refine ⟨fun pins s σ H D I h => ?_⟩
  refine plainObj_wpAny_Assign_Attribute (thn (he.run pins s σ H _ I h) fun v s1 ⟨y, H1, I1, r1, q1⟩ => thn (ho.run pins s1 σ H1 _ I1 q1) fun u s2 ⟨x, H2, I2, r2, a, C, ex, T, hno, q⟩ => ?_) hs
  subst ex
  obtain rfl : u = Value.ref a := r2
  rcases q with ⟨ea, q⟩ | ⟨dx, fs, ea, ed, hl, q⟩
  · exact est_new T I2 ea hno r1 fun dx s' n ne J => ⟨σ, _, J, q dx n ne⟩
  · exact est_more T I2 ea ed hl hno r1 fun s' J => ⟨σ, _, J, q⟩
/-- e.f of an exception that stands as a value -/
def tEfd (K : PySem.W.Frag) (f : Str) (te : TE) : TE := fun σ H Q => te σ H fun x H1 => ∃ (a C dx : Addr) (fs : List (Str × V)) (v : V), x = .ref a ∧ ExC K C ∧ PySem.W.findIn K (.ref C) f = some none ∧ H1 a = some (exo a C (some dx)) ∧ H1 dx = some (exd dx fs) ∧ fs.lookup f = some v ∧ Q v H1
theorem pe_efd (he : PE X e te) (hb : attributeBase e f X.env (eval e X.env) = eval e X.env := by rfl) : PE X (.Attribute e f pos) (tEfd X.K f te) := by
  refine ⟨fun pins s σ H Q I h => ?_⟩
  refine attr_of hb (thn (he.run pins s σ H _ I h) fun u s1 hh => ?_)
  obtain ⟨x, H1, I1, rx, a, C, dx, fs, v, ex, T, hno, ea, ed, hl, q⟩ := hh
  subst ex
  obtain rfl : u = Value.ref a := rx
  obtain ⟨t1, ho⟩ := exo_at I1.hok ea
  obtain ⟨mA, hns, rel⟩ := exd_at I1.hok ed
  obtain ⟨od, hod, hlk⟩ := lookIn_ns hns
  obtain ⟨u, hu, ru⟩ := RelO.some_of (v := v) (o := mA f) (by rw [← hl]; exact rel f)
  have J : PySem.W.InstAt s1.heap a { cls := .ref C, dict := some dx, data := .fields #[.ref t1, .none, .none, .none, .bool false, .none] } C (some od) := ⟨ho, rfl, rfl, hod⟩
  exact HandSPX.exc_get I1.kIn J T.ga T.gg T.exC (PySem.W.findObj_own T.hd hno rfl (by rw [hlk, hu])) (handed_of ru) ⟨v, H1, I1.tok _, ru, q⟩
/-- isinstance(e, c), e an exception that stands as a value -/
def rIsV (K : PySem.W.Frag) : List V → Hp → VK → Prop := fun xs H Q => ∃ (a C : Addr) (c : V) (u : Value) (b : Bool), xs = [.ref a, c] ∧ ClsV c u ∧ ExC K C ∧ (H a = some (exo a C none) ∨ ∃ dx fs, H a = some (exo a C (some dx)) ∧ H dx = some (exd dx fs)) ∧ PySem.W.kitOne K (.ref C) u = some b ∧ Q (.bl b) H
theorem call_isV {X : Cx} : CallR X (.builtin "isinstance") (rIsV X.K) := by
  intro pins s σ H xs us Q I r h
  obtain ⟨a, C, c, u, b, rfl, k, T, ha, e, q⟩ := h
  obtain ⟨u1, u2, rfl, r1, r2⟩ := vals2 r
  have e2 := k.eq r2
  subst e2
  obtain rfl : u1 = Value.ref a := r1
  have J : ∃ ox od, PySem.W.InstAt s.heap a ox C od := by
    rcases ha with ha | ⟨dx, fs, ha, hd⟩
    · obtain ⟨t1, ho⟩ := exo_at I.hok ha
      exact ⟨_, none, ho, rfl, rfl, trivial⟩
    · obtain ⟨t1, ho⟩ := exo_at I.hok ha
      obtain ⟨mA, hns, rel⟩ := exd_at I.hok hd
      obtain ⟨od, hod, _⟩ := lookIn_ns hns
      exact ⟨_, some od, ho, rfl, rfl, hod⟩
  exact PySem.W.kia_one (PySem.XV.kitx_err T.ga T.gg T.exC T.hd T.ha T.hn T.ht T.hm) I.kIn J e (fun z => nomatch z) fun tk => ⟨.bl b, H, I.tok tk, rfl, q⟩
end
/-! ### made by a call -/
/-- C(e, ..), C(k = e, ..): a new exception, then its __init__ -/
def tEmk (C : Addr) (n m : Nat) (sp : Sp) (gV : List V → List V → List V) (t tk : TA) : TE := fun σ H Q => t σ H fun vs H1 => tk σ H1 fun zs H2 => vs.length = n ∧ zs.length = m ∧ n ≤ 1000 ∧ ∀ a, H2 a = none →
  sp (gV (.ref a :: vs) zs) (upd H2 a (exo a C none)) (fun v H3 => v = .non ∧ Q (.ref a) H3) E0
section
variable {X : Cx} {CX : CXT} {k n : Nat} {fI C : Addr} {fd : FuncData} {ps ks : List Str} {sp : Sp} {x : Str} {p pos : Pos} {e : Expr} {es : List Expr} {kws : List Keyword} {t tk : TA} {g : List Value → List Value → List Value} {gV : List V → List V → List V}
theorem run_emk {pins : List (Addr × Obj)} {σ : St} {H : Hp} {s : Shared} {Q : VK} {us ws : List Value} {vs zs : List V} (T : ExC X.K C) (iC : PySem.W.findIn X.K (.ref C) "__init__" = some (some (.ref fI))) (tI : PySem.W.typeIn X.K (.ref fI) = some (.type "function"))
    (F : FnOk X.prog X.w X.K X.mg X.base CX k fI fd ps sp) (hr : Room (k + 1) X.A) (hb : KBn X.K fd ps (n + 1) ks g gV) (hx : Passes CX X E0)
    (I : Inv X pins σ H s) (r : Vals vs us) (rz : Vals zs ws) (l1 : vs.length = n) (l2 : zs.length = ks.length) (l3 : n ≤ 1000)
    (h : ∀ a, H a = none → sp (gV (.ref a :: vs) zs) (upd H a (exo a C none)) (fun v H2 => v = .non ∧ Q (.ref a) H2) E0) :
    wpAny (model X.prog X.w) X.A (call (.ref C) us (ks.zip ws)) (EP X pins σ Q) X.xe s := by
  obtain ⟨nm, q, N, bs, bm, sn, sub, ab, col, dd, k0, k1, k2, k3, k5, B, newId, initId, tail, EB, hC, hbm⟩ := T.cls
  obtain ⟨hp, gg, dr, tok, os⟩ := s
  have hsz : hp.objs.size ≤ hp.objs.size + 1 := Nat.le_succ _
  have hn : H (hp.objs.size + 1) = none := I.hok.fresh hsz
  have hq := h (hp.objs.size + 1) hn
  have kk : ∀ b o, hp.get? b = some o → ((hp.push (PySem.W.kdv_tup us)).push (PySem.HandSPX.excO C hp.objs.size)).get? b = some o := fun b o e => Heap.get?_push_of_some _ (Heap.get?_push_of_some _ e)
  have hget : ((hp.push (PySem.W.kdv_tup us)).push (PySem.HandSPX.excO C hp.objs.size)).get? (hp.objs.size + 1) = some (PySem.HandSPX.excO C hp.objs.size) := by heap_get
  have I2 : Inv X pins σ (upd H (hp.objs.size + 1) (exo (hp.objs.size + 1) C none)) ⟨(hp.push (PySem.W.kdv_tup us)).push (PySem.HandSPX.excO C hp.objs.size), gg, dr, tok, os⟩ :=
    I.laid (t' := tok) (a := hp.objs.size + 1) (o := exo (hp.objs.size + 1) C none) (h' := (hp.push (PySem.W.kdv_tup us)).push (PySem.HandSPX.excO C hp.objs.size)) kk hsz (exo_ok hget)
  have r1 : Vals (V.ref (hp.objs.size + 1) :: vs) (Value.ref (hp.objs.size + 1) :: us) := .cons rfl r
  have r2 := hb.rel r1 rz
  have e1 : (Value.ref (hp.objs.size + 1) :: us).length = n + 1 := r1.length.symm.trans (congrArg Nat.succ l1)
  have e2 : ws.length = ks.length := rz.length.symm.trans l2
  have hus : us.length ≤ sizeLine := by
    rw [← Paired.length r, sizeLine_eq]
    omega
  refine wpAny_call (PySem.XV.call_kw EB.F (fun Y => PySem.XV.refsB_contains Y bm hbm) (I.kIn _ _ hC) (PySem.W.looks_findIn I.kIn iC) (fun self => PySem.W.bind_fn I.kIn self tI) hus (PySem.W.looks_specialIn I.kIn T.cl) (PySem.W.looks_instIn I.kIn T.inT)
    (codeAny_mono (F.run _ X.stack _ _ ⟨Value.ref (hp.objs.size + 1) :: us, ks.zip ws⟩ (g (Value.ref (hp.objs.size + 1) :: us) ws) _ _ E0 (hr.make C us (ks.zip ws)) (I2.env0.make C us (ks.zip ws)) (hb.to _ (Value.ref (hp.objs.size + 1) :: us) ws I2.kIn e1 e2) r2 hq) fun r s' hq' => ?_))
  cases r with
  | error er => exact hx pins σ _ _ er s' I2 hq'
  | ok fl =>
    cases fl with
    | ret u =>
      obtain ⟨v, H', I3, rv, ev, q3⟩ := I2.after hq'
      subst ev
      exact ⟨rv, ⟨V.ref (hp.objs.size + 1), H', I3, rfl, q3⟩⟩
    | next => exact False.elim hq'
    | brk => exact False.elim hq'
    | cont => exact False.elim hq'
theorem pe_emk (T : ExC X.K C) (iC : PySem.W.findIn X.K (.ref C) "__init__" = some (some (.ref fI))) (tI : PySem.W.typeIn X.K (.ref fI) = some (.type "function"))
    (F : FnOk X.prog X.w X.K X.mg X.base CX k fI fd ps sp) (hr : Room (k + 1) X.A) (hg : Gl X x) (hm : X.mg x = some (.ref C)) (hb : KBn X.K fd ps (n + 1) [] g gV) (hx : Passes CX X E0)
    (ha : PA X (e :: es) t) (hdb : (x == ("__debug__" : Str)) = false := by decide) (he : starEach (e :: es) X.env = (false, eval e X.env) :: starEach es X.env := by rfl) (hpl : (backTo pos (starEach es X.env)).any (·.1) = false := by rfl) :
    PE X (.Call (.Name x p) (e :: es) [] pos) (tEmk C n 0 sp gV t tNil) := by
  refine ⟨fun pins s σ H Q I h => ?_⟩
  refine wpAny_Call_Name_kw (ld_glob I hg hm ?_ hdb)
  refine PySem.W.callWith_K (h₀ := X.base) I.ok.mod.kin T.kC (thn (ha.run pos pins s σ H _ I h) fun us s1 ⟨vs, H1, I1, r, l1, l2, l3, q⟩ => ⟨I1.kIn, ?_⟩) he hpl
  exact run_emk (ks := []) (ws := []) T iC tI F hr hb hx I1 r .nil l1 l2 l3 q
theorem pe_emk0 (T : ExC X.K C) (iC : PySem.W.findIn X.K (.ref C) "__init__" = some (some (.ref fI))) (tI : PySem.W.typeIn X.K (.ref fI) = some (.type "function"))
    (F : FnOk X.prog X.w X.K X.mg X.base CX k fI fd ps sp) (hr : Room (k + 1) X.A) (hg : Gl X x) (hm : X.mg x = some (.ref C)) (hb : KBn X.K fd ps 1 ks g gV) (hx : Passes CX X E0) (hkw : PK X kws tk)
    (hall : (backToKw pos (keywordEach kws X.env)).all (·.1.isSome) = true := by rfl) (hks : (backToKw pos (keywordEach kws X.env)).filterMap (·.1) = ks := by rfl) (hdb : (x == ("__debug__" : Str)) = false := by decide)
    (hpl : ((backTo pos (starEach [] X.env)).any (·.1) || (backToKw pos (keywordEach kws X.env)).any (·.1.isNone)) = false := by rfl) :
    PE X (.Call (.Name x p) [] kws pos) (tEmk C 0 ks.length sp gV tNil tk) := by
  refine ⟨fun pins s σ H Q I h => ?_⟩
  refine wpAny_Call_Name_kw (ld_glob I hg hm ?_ hdb)
  refine PySem.W.callWith_KW0 (h₀ := X.base) I.ok.mod.kin T.kC hall ?_ hpl
  refine thn (hkw.run pos pins s σ H _ I h) fun ws s2 ⟨zs, H2, I2, rz, l1, l2, l3, q2⟩ => ⟨I2.kIn, ?_⟩
  rw [hks]
  exact run_emk (us := []) (vs := []) T iC tI F hr hb hx I2 .nil rz rfl l2 l3 q2
/-- f(k = e, ..): keywords alone -/
theorem pe_callN0 {f : Addr} {E : XK} (F : FnOk X.prog X.w X.K X.mg X.base CX k f fd ps sp) (hr : Room k X.A) (hg : Gl X x) (hm : X.mg x = some (.ref f)) (hk : PySem.W.keepIn X.K (.ref f) = true) (hb : KBn X.K fd ps 0 ks g gV) (hx : Passes CX X E) (hkw : PK X kws tk)
    (hall : (backToKw pos (keywordEach kws X.env)).all (·.1.isSome) = true := by rfl) (hks : (backToKw pos (keywordEach kws X.env)).filterMap (·.1) = ks := by rfl) (hdb : (x == ("__debug__" : Str)) = false := by decide)
    (hpl : ((backTo pos (starEach [] X.env)).any (·.1) || (backToKw pos (keywordEach kws X.env)).any (·.1.isNone)) = false := by rfl) :
    PE X (.Call (.Name x p) [] kws pos) (tCallN 0 ks.length sp gV E tNil tk) := by
  refine ⟨fun pins s σ H Q I h => ?_⟩
  refine wpAny_Call_Name_kw (ld_glob I hg hm ?_ hdb)
  refine PySem.W.callWith_KW0 (h₀ := X.base) I.ok.mod.kin hk hall ?_ hpl
  refine thn (hkw.run pos pins s σ H _ I h) fun ws s2 ⟨zs, H2, I2, rz, l1, l2, q2⟩ => ⟨I2.kIn, ?_⟩
  rw [hks]
  exact run_fnN (us := []) (vs := []) F hr hb hx I2 .nil rz rfl l2 q2
end
end L2
set_option Elab.async false
set_option linter.all false
set_option maxRecDepth 100000
set_option maxHeartbeats 4000000
/-! own exceptions: made without an __init__ of their own, with one field, with two -/
namespace L2
open PySem PySem.Spec PyProof.Rows
section
variable {X : Cx}
/-- C(), no __init__ of its own -/
theorem pe_emkN {C : Addr} {bmB : List Value} {B newId initId : String} {x : Str} {p pos : Pos} (F : ExcBaseFacts B newId initId bmB) (q : PySem.W.excIn X.K C bmB newId = true) (gC : X.mg x = some (.ref C)) (kC : PySem.W.keepIn X.K (.ref C) = true) (hg : Gl X x)
    (hdb : (x == ("__debug__" : Str)) = false := by decide) :
    PE X (.Call (.Name x p) [] [] pos) (fun _ H Q => ∀ a, H a = none → Q (.ref a) (upd H a (exo a C none))) := by
  refine ⟨fun pins s σ H Q I h => ?_⟩
  refine wpAny_Call_Name_kw (ld_glob I hg gC ?_ hdb)
  refine PySem.W.callWith_K0 I.kIn kC ?_
  obtain ⟨bm, N, nm, qn, bs, hdct, sn, sub, ab, col, dd, k0, k1, k2, k3, k5, mN, hC, hN, hni, T⟩ := exc_obj I.kIn q
  refine wpAny_call_exc_subT F T hC hN hni (fun h' a hm => ?_) (by show 0 ≤ sizeLine; exact Nat.zero_le _)
  have hn : H a = none := I.hok.gone hm.new
  obtain ⟨t, ht, _, _⟩ := hm.there
  exact ⟨.ref a, upd H a (exo a C none), I.laidN hm.keeps hm.new hn (exo_ok ht), rfl, h a hn⟩
end
theorem upd_thrice {H : Hp} {a dx : Addr} {o1 o2 o3 : HO} : upd (upd (upd H a o1) dx o2) a o3 = upd (upd H dx o2) a o3 := by
  funext b
  unfold upd
  by_cases h1 : b = a
  · rw [if_pos h1, if_pos h1]
  · rw [if_neg h1, if_neg h1]
    by_cases h2 : b = dx
    · rw [if_pos h2, if_neg h1]
    · rw [if_neg h2, if_neg h1]
theorem upd_comm {H : Hp} {a dx : Addr} {o1 o2 : HO} (ne : dx ≠ a) : upd (upd H a o1) dx o2 = upd (upd H dx o2) a o1 := by
  funext b
  unfold upd
  by_cases h1 : b = dx
  · rw [if_pos h1, if_neg (fun z => ne (h1.symm.trans z)), if_pos h1]
  · rw [if_neg h1]
    by_cases h2 : b = a
    · rw [if_pos h2, if_pos h2]
    · rw [if_neg h2, if_neg h2, if_neg h1]
/-! ### __init__ with one field -/
def iA1 (f : Str) (p1 p2 : Pos) : Arguments := { posonlyargs := [], args := [{ arg := "self", annotation := none, pos := p1 }, { arg := f, annotation := none, pos := p2 }], vararg := none, kwonlyargs := [], kw_defaults := [], kwarg := none, defaults := [] }
def iB1 (f : Str) (q1 q2 q3 q4 : Pos) : List Stmt := [.Assign [.Attribute (.Name "self" q1) f q2] (.Name f q3) q4]
def iS1 (f : Str) : Scope := { kind := .function, names := [(PySem.Str.ofString "self", .local), (f, .local)], isGenerator := false, isCoroutine := false, more := [] }
def iSt1 (f : Str) (p1 p2 q1 q2 q3 q4 pos : Pos) : Stmt := .FunctionDef "__init__" (iA1 f p1 p2) (iB1 f q1 q2 q3 q4) [] none [] (iS1 f) none "__init__" pos
def iA2 (f g : Str) (p1 p2 p3 : Pos) : Arguments := { posonlyargs := [], args := [{ arg := "self", annotation := none, pos := p1 }, { arg := f, annotation := none, pos := p2 }, { arg := g, annotation := none, pos := p3 }], vararg := none, kwonlyargs := [], kw_defaults := [], kwarg := none, defaults := [] }
def iB2 (f g : Str) (q1 q2 q3 q4 r1 r2 r3 r4 : Pos) : List Stmt := [.Assign [.Attribute (.Name "self" q1) f q2] (.Name f q3) q4, .Assign [.Attribute (.Name "self" r1) g r2] (.Name g r3) r4]
def iS2 (f g : Str) : Scope := { kind := .function, names := [(PySem.Str.ofString "self", .local), (f, .local), (g, .local)], isGenerator := false, isCoroutine := false, more := [] }
def iSt2 (f g : Str) (p1 p2 p3 q1 q2 q3 q4 r1 r2 r3 r4 pos : Pos) : Stmt := .FunctionDef "__init__" (iA2 f g p1 p2 p3) (iB2 f g q1 q2 q3 q4 r1 r2 r3 r4) [] none [] (iS2 f g) none "__init__" pos
theorem sc_value : FnScope ["self", "value"] ["self", "value"] (iS1 "value") := ⟨rfl, rfl, rfl, by decide +kernel, rfl, by decide +kernel, by decide +kernel⟩
theorem sc_position : FnScope ["self", "position"] ["self", "position"] (iS1 "position") := ⟨rfl, rfl, rfl, by decide +kernel, rfl, by decide +kernel, by decide +kernel⟩
theorem sc_line : FnScope ["self", "line"] ["self", "line"] (iS1 "line") := ⟨rfl, rfl, rfl, by decide +kernel, rfl, by decide +kernel, by decide +kernel⟩
theorem sc_one : FnScope ["self", "one", "other"] ["self", "one", "other"] (iS2 "one" "other") := ⟨rfl, rfl, rfl, by decide +kernel, rfl, by decide +kernel, by decide +kernel⟩
theorem sc_what : FnScope ["self", "what", "limit"] ["self", "what", "limit"] (iS2 "what" "limit") := ⟨rfl, rfl, rfl, by decide +kernel, rfl, by decide +kernel, by decide +kernel⟩
def spI1 (K : PySem.W.Frag) (f : Str) : Sp := fun vs H Q _ => ∃ (a C : Addr) (y : V), vs = [.ref a, y] ∧ ExC K C ∧ PySem.W.findIn K (.ref C) f = some none ∧ H a = some (exo a C none) ∧
  ∀ dx, H dx = none → dx ≠ a → Q .non (upd (upd H dx (exd dx [(f, y)])) a (exo a C (some dx)))
def spI2 (K : PySem.W.Frag) (f g : Str) : Sp := fun vs H Q _ => ∃ (a C : Addr) (y z : V), vs = [.ref a, y, z] ∧ ExC K C ∧ PySem.W.findIn K (.ref C) f = some none ∧ PySem.W.findIn K (.ref C) g = some none ∧ H a = some (exo a C none) ∧
  ∀ dx, H dx = none → dx ≠ a → Q .non (upd (upd (upd H dx (exd dx [(f, y)])) a (exo a C (some dx))) dx (exd dx [(g, z), (f, y)]))
def one1 (k : V → Hp → Prop) : List V → Hp → Prop
  | [y], H => k y H
  | _, _ => False
def two2 (k : V → V → Hp → Prop) : List V → Hp → Prop
  | [y, z], H => k y z H
  | _, _ => False
section
variable {P : Program} {w : World} {K : PySem.W.Frag} {mg : Str → Option Value} {base : Heap} {qual : Str} {fI : Addr} {fd : FuncData} {p1 p2 p3 q1 q2 q3 q4 r1 r2 r3 r4 pos : Pos}
theorem ok_value (F : Fun K "__init__" qual (iSt1 "value" p1 p2 q1 q2 q3 q4 pos) fI fd) : FnOk P w K mg base CX0 1 fI fd ["self", "value"] (spI1 K "value") := by
  refine F.ok (show FnScope _ _ (defScope _) from sc_value) (fun vs H Q E h => ?_) (fun cdv A outer s H vs Q E hr h => ?_)
  · obtain ⟨a, C, y, rfl, _⟩ := h
    rfl
  · obtain ⟨a, C, y, rfl, T, no, ha, q⟩ := h
    exact ⟨_, pss_one (ps_est (pv 0) (pv 1)), _, rfl, _, rfl, a, C, rfl, T, no, .inl ⟨ha, q⟩⟩
theorem ok_position (F : Fun K "__init__" qual (iSt1 "position" p1 p2 q1 q2 q3 q4 pos) fI fd) : FnOk P w K mg base CX0 1 fI fd ["self", "position"] (spI1 K "position") := by
  refine F.ok (show FnScope _ _ (defScope _) from sc_position) (fun vs H Q E h => ?_) (fun cdv A outer s H vs Q E hr h => ?_)
  · obtain ⟨a, C, y, rfl, _⟩ := h
    rfl
  · obtain ⟨a, C, y, rfl, T, no, ha, q⟩ := h
    exact ⟨_, pss_one (ps_est (pv 0) (pv 1)), _, rfl, _, rfl, a, C, rfl, T, no, .inl ⟨ha, q⟩⟩
theorem ok_line (F : Fun K "__init__" qual (iSt1 "line" p1 p2 q1 q2 q3 q4 pos) fI fd) : FnOk P w K mg base CX0 1 fI fd ["self", "line"] (spI1 K "line") := by
  refine F.ok (show FnScope _ _ (defScope _) from sc_line) (fun vs H Q E h => ?_) (fun cdv A outer s H vs Q E hr h => ?_)
  · obtain ⟨a, C, y, rfl, _⟩ := h
    rfl
  · obtain ⟨a, C, y, rfl, T, no, ha, q⟩ := h
    exact ⟨_, pss_one (ps_est (pv 0) (pv 1)), _, rfl, _, rfl, a, C, rfl, T, no, .inl ⟨ha, q⟩⟩
theorem ok_one (F : Fun K "__init__" qual (iSt2 "one" "other" p1 p2 p3 q1 q2 q3 q4 r1 r2 r3 r4 pos) fI fd) : FnOk P w K mg base CX0 1 fI fd ["self", "one", "other"] (spI2 K "one" "other") := by
  refine F.ok (show FnScope _ _ (defScope _) from sc_one) (fun vs H Q E h => ?_) (fun cdv A outer s H vs Q E hr h => ?_)
  · obtain ⟨a, C, y, z, rfl, _⟩ := h
    rfl
  · obtain ⟨a, C, y, z, rfl, T, no, no2, ha, q⟩ := h
    refine ⟨_, pss_cons (ps_est (pv 0) (pv 1)) (pss_one (ps_est (pv 0) (pv 2))), _, rfl, _, rfl, a, C, rfl, T, no, .inl ⟨ha, fun dx nd ne => ?_⟩⟩
    exact ⟨_, rfl, _, rfl, a, C, rfl, T, no2, .inr ⟨dx, [("one", y)], upd_same, by rw [upd_ne ne, upd_same], Nat.le_of_ble_eq_true rfl, q dx nd ne⟩⟩
theorem ok_what (F : Fun K "__init__" qual (iSt2 "what" "limit" p1 p2 p3 q1 q2 q3 q4 r1 r2 r3 r4 pos) fI fd) : FnOk P w K mg base CX0 1 fI fd ["self", "what", "limit"] (spI2 K "what" "limit") := by
  refine F.ok (show FnScope _ _ (defScope _) from sc_what) (fun vs H Q E h => ?_) (fun cdv A outer s H vs Q E hr h => ?_)
  · obtain ⟨a, C, y, z, rfl, _⟩ := h
    rfl
  · obtain ⟨a, C, y, z, rfl, T, no, no2, ha, q⟩ := h
    refine ⟨_, pss_cons (ps_est (pv 0) (pv 1)) (pss_one (ps_est (pv 0) (pv 2))), _, rfl, _, rfl, a, C, rfl, T, no, .inl ⟨ha, fun dx nd ne => ?_⟩⟩
    exact ⟨_, rfl, _, rfl, a, C, rfl, T, no2, .inr ⟨dx, [("what", y)], upd_same, by rw [upd_ne ne, upd_same], Nat.le_of_ble_eq_true rfl, q dx nd ne⟩⟩
end
/-- an own error named x with the one field f -/
structure ErC1 (K : PySem.W.Frag) (mg : Str → Option Value) (f x : Str) (C : Addr) : Prop where
  T : ExC K C
  g : mg x = some (.ref C)
  no : PySem.W.findIn K (.ref C) f = some none
  init : ∃ (fI : Addr) (fd : FuncData), PySem.W.findIn K (.ref C) "__init__" = some (some (.ref fI)) ∧ PySem.W.typeIn K (.ref fI) = some (.type "function") ∧ KBn K fd ["self", f] 2 [] (fun us _ => us) (fun vs _ => vs) ∧
    KBn K fd ["self", f] 1 [f] (fun us ws => us ++ ws) (fun vs zs => vs ++ zs) ∧ ∀ (P : Program) (w : World) (base : Heap), FnOk P w K mg base CX0 1 fI fd ["self", f] (spI1 K f)
structure ErC2 (K : PySem.W.Frag) (mg : Str → Option Value) (f g x : Str) (C : Addr) : Prop where
  T : ExC K C
  gm : mg x = some (.ref C)
  no : PySem.W.findIn K (.ref C) f = some none
  no2 : PySem.W.findIn K (.ref C) g = some none
  init : ∃ (fI : Addr) (fd : FuncData), PySem.W.findIn K (.ref C) "__init__" = some (some (.ref fI)) ∧ PySem.W.typeIn K (.ref fI) = some (.type "function") ∧ KBn K fd ["self", f, g] 3 [] (fun us _ => us) (fun vs _ => vs) ∧
    KBn K fd ["self", f, g] 1 [g, f] (fun us ws => us ++ ws.reverse) (fun vs zs => vs ++ zs.reverse) ∧ ∀ (P : Program) (w : World) (base : Heap), FnOk P w K mg base CX0 1 fI fd ["self", f, g] (spI2 K f g)
theorem Vals.rev {vs : List V} {us : List Value} (r : Vals vs us) : Vals vs.reverse us.reverse := by
  induction r with
  | nil => exact .nil
  | cons h t ih =>
    rw [List.reverse_cons, List.reverse_cons]
    exact ih.append (.cons h .nil)
section
variable {K : PySem.W.Frag} {mg : Str → Option Value} {C fI : Addr} {x qual : Str} {oc : Value} {od an : Option Addr} {osl : Array (Option Value)} {kV doc pm cdv ct : Value} {p1 p2 p3 q1 q2 q3 q4 r1 r2 r3 r4 : Pos}
theorem erc_value (T : ExC K C) (g : mg x = some (.ref C)) (no : PySem.W.findIn K (.ref C) "value" = some none) (i : PySem.W.findIn K (.ref C) "__init__" = some (some (.ref fI))) (t : PySem.W.typeIn K (.ref fI) = some (.type "function"))
    (l : K.lookup fI = some ⟨oc, od, .func (PySem.W.fnOf "__init__" qual (iA1 "value" p1 p2) (iB1 "value" q1 q2 q3 q4) (iS1 "value") .none kV doc pm an cdv ct), osl⟩) (c : PySem.W.codeIn K cdv qual = true) (k : PySem.W.keepIn K (.ref fI) = true) : ErC1 K mg "value" x C :=
  ⟨T, g, no, fI, _, i, t, ⟨fun s us ws _ h1 h2 => match us, h1, ws, h2 with | [_, _], _, [], _ => .of_eq rfl, fun r _ => r⟩, ⟨fun s us ws _ h1 h2 => match us, h1, ws, h2 with | [_], _, [_], _ => .of_eq rfl, fun r r' => r.append r'⟩,
    fun P w base => ok_value (fun_mk (st := iSt1 "value" p1 p2 q1 q2 q3 q4 p1) l c k)⟩
theorem erc_position (T : ExC K C) (g : mg x = some (.ref C)) (no : PySem.W.findIn K (.ref C) "position" = some none) (i : PySem.W.findIn K (.ref C) "__init__" = some (some (.ref fI))) (t : PySem.W.typeIn K (.ref fI) = some (.type "function"))
    (l : K.lookup fI = some ⟨oc, od, .func (PySem.W.fnOf "__init__" qual (iA1 "position" p1 p2) (iB1 "position" q1 q2 q3 q4) (iS1 "position") .none kV doc pm an cdv ct), osl⟩) (c : PySem.W.codeIn K cdv qual = true) (k : PySem.W.keepIn K (.ref fI) = true) : ErC1 K mg "position" x C :=
  ⟨T, g, no, fI, _, i, t, ⟨fun s us ws _ h1 h2 => match us, h1, ws, h2 with | [_, _], _, [], _ => .of_eq rfl, fun r _ => r⟩, ⟨fun s us ws _ h1 h2 => match us, h1, ws, h2 with | [_], _, [_], _ => .of_eq rfl, fun r r' => r.append r'⟩,
    fun P w base => ok_position (fun_mk (st := iSt1 "position" p1 p2 q1 q2 q3 q4 p1) l c k)⟩
theorem erc_line (T : ExC K C) (g : mg x = some (.ref C)) (no : PySem.W.findIn K (.ref C) "line" = some none) (i : PySem.W.findIn K (.ref C) "__init__" = some (some (.ref fI))) (t : PySem.W.typeIn K (.ref fI) = some (.type "function"))
    (l : K.lookup fI = some ⟨oc, od, .func (PySem.W.fnOf "__init__" qual (iA1 "line" p1 p2) (iB1 "line" q1 q2 q3 q4) (iS1 "line") .none kV doc pm an cdv ct), osl⟩) (c : PySem.W.codeIn K cdv qual = true) (k : PySem.W.keepIn K (.ref fI) = true) : ErC1 K mg "line" x C :=
  ⟨T, g, no, fI, _, i, t, ⟨fun s us ws _ h1 h2 => match us, h1, ws, h2 with | [_, _], _, [], _ => .of_eq rfl, fun r _ => r⟩, ⟨fun s us ws _ h1 h2 => match us, h1, ws, h2 with | [_], _, [_], _ => .of_eq rfl, fun r r' => r.append r'⟩,
    fun P w base => ok_line (fun_mk (st := iSt1 "line" p1 p2 q1 q2 q3 q4 p1) l c k)⟩
theorem erc_one (T : ExC K C) (g : mg x = some (.ref C)) (no : PySem.W.findIn K (.ref C) "one" = some none) (no2 : PySem.W.findIn K (.ref C) "other" = some none) (i : PySem.W.findIn K (.ref C) "__init__" = some (some (.ref fI))) (t : PySem.W.typeIn K (.ref fI) = some (.type "function"))
    (l : K.lookup fI = some ⟨oc, od, .func (PySem.W.fnOf "__init__" qual (iA2 "one" "other" p1 p2 p3) (iB2 "one" "other" q1 q2 q3 q4 r1 r2 r3 r4) (iS2 "one" "other") .none kV doc pm an cdv ct), osl⟩) (c : PySem.W.codeIn K cdv qual = true) (k : PySem.W.keepIn K (.ref fI) = true) : ErC2 K mg "one" "other" x C :=
  ⟨T, g, no, no2, fI, _, i, t, ⟨fun s us ws _ h1 h2 => match us, h1, ws, h2 with | [_, _, _], _, [], _ => .of_eq rfl, fun r _ => r⟩, ⟨fun s us ws _ h1 h2 => match us, h1, ws, h2 with | [_], _, [_, _], _ => .of_eq rfl, fun r r' => r.append r'.rev⟩,
    fun P w base => ok_one (fun_mk (st := iSt2 "one" "other" p1 p2 p3 q1 q2 q3 q4 r1 r2 r3 r4 p1) l c k)⟩
theorem erc_what (T : ExC K C) (g : mg x = some (.ref C)) (no : PySem.W.findIn K (.ref C) "what" = some none) (no2 : PySem.W.findIn K (.ref C) "limit" = some none) (i : PySem.W.findIn K (.ref C) "__init__" = some (some (.ref fI))) (t : PySem.W.typeIn K (.ref fI) = some (.type "function"))
    (l : K.lookup fI = some ⟨oc, od, .func (PySem.W.fnOf "__init__" qual (iA2 "what" "limit" p1 p2 p3) (iB2 "what" "limit" q1 q2 q3 q4 r1 r2 r3 r4) (iS2 "what" "limit") .none kV doc pm an cdv ct), osl⟩) (c : PySem.W.codeIn K cdv qual = true) (k : PySem.W.keepIn K (.ref fI) = true) : ErC2 K mg "what" "limit" x C :=
  ⟨T, g, no, no2, fI, _, i, t, ⟨fun s us ws _ h1 h2 => match us, h1, ws, h2 with | [_, _, _], _, [], _ => .of_eq rfl, fun r _ => r⟩, ⟨fun s us ws _ h1 h2 => match us, h1, ws, h2 with | [_], _, [_, _], _ => .of_eq rfl, fun r r' => r.append r'.rev⟩,
    fun P w base => ok_what (fun_mk (st := iSt2 "what" "limit" p1 p2 p3 q1 q2 q3 q4 r1 r2 r3 r4 p1) l c k)⟩
end
/-! ### the calls -/
def tEr1 (C : Addr) (f : Str) (te : TE) : TE := fun σ H Q => te σ H fun y H1 => ∀ a dx, H1 a = none → H1 dx = none → dx ≠ a → Q (.ref a) (upd (upd H1 dx (exd dx [(f, y)])) a (exo a C (some dx)))
/-- C(y, z) -/
def tEr2 (C : Addr) (f g : Str) (ty tz : TE) : TE := fun σ H Q => ty σ H fun y H1 => tz σ H1 fun z H2 => ∀ a dx, H2 a = none → H2 dx = none → dx ≠ a → Q (.ref a) (upd (upd H2 dx (exd dx [(g, z), (f, y)])) a (exo a C (some dx)))
/-- C(g = z, f = y) -/
def tEr2k (C : Addr) (f g : Str) (tz ty : TE) : TE := fun σ H Q => tz σ H fun z H1 => ty σ H1 fun y H2 => ∀ a dx, H2 a = none → H2 dx = none → dx ≠ a → Q (.ref a) (upd (upd H2 dx (exd dx [(g, z), (f, y)])) a (exo a C (some dx)))
section
variable {X : Cx} {C : Addr} {f g x : Str} {te ty tz : TE} {p pos kp1 kp2 : Pos} {e e1 e2 : Expr}
theorem pe_er1 (c : ErC1 X.K X.mg f x C) (hr : Room 2 X.A) (hg : Gl X x) (he : PE X e te) (hdb : (x == ("__debug__" : Str)) = false := by decide)
    (hs : starEach (e :: []) X.env = (false, eval e X.env) :: starEach [] X.env := by rfl) (hpl : (backTo pos (starEach [] X.env)).any (·.1) = false := by rfl) : PE X (.Call (.Name x p) [e] [] pos) (tEr1 C f te) := by
  refine ⟨fun pins s σ H Q I h => ?_⟩
  obtain ⟨fI, fd, iC, tI, kb, _, F⟩ := c.init
  refine wpAny_Call_Name_kw (ld_glob I hg c.g ?_ hdb)
  refine PySem.W.callWith_K (h₀ := X.base) I.ok.mod.kin c.T.kC (thn ((pa_cons he pa_nil hs).run pos pins s σ H (one1 fun y H1 => ∀ a dx, H1 a = none → H1 dx = none → dx ≠ a → Q (.ref a) (upd (upd H1 dx (exd dx [(f, y)])) a (exo a C (some dx)))) I h) fun us s1 hh => ?_) hs hpl
  obtain ⟨vs, H1, I1, r, q⟩ := hh
  refine ⟨I1.kIn, ?_⟩
  match vs, q, r with
  | [y], q, r =>
    refine run_emk (n := 1) (ks := []) (ws := []) c.T iC tI (F _ _ _) hr kb pass0 I1 r .nil rfl rfl (by decide) fun a na => ?_
    refine ⟨a, C, y, rfl, c.T, c.no, upd_same, fun dx nd ne => ⟨rfl, ?_⟩⟩
    rw [upd_thrice]
    rw [upd_ne ne] at nd
    exact q a dx na nd ne
theorem pe_er1k (c : ErC1 X.K X.mg f x C) (hr : Room 2 X.A) (hg : Gl X x) (he : PE X e te) (hdb : (x == ("__debug__" : Str)) = false := by decide)
    (hall : (backToKw pos (keywordEach [⟨some f, e, kp1⟩] X.env)).all (·.1.isSome) = true := by rfl) (hks : (backToKw pos (keywordEach [⟨some f, e, kp1⟩] X.env)).filterMap (·.1) = [f] := by rfl)
    (hpl : ((backTo pos (starEach [] X.env)).any (·.1) || (backToKw pos (keywordEach [⟨some f, e, kp1⟩] X.env)).any (·.1.isNone)) = false := by rfl) : PE X (.Call (.Name x p) [] [⟨some f, e, kp1⟩] pos) (tEr1 C f te) := by
  refine ⟨fun pins s σ H Q I h => ?_⟩
  obtain ⟨fI, fd, iC, tI, _, kb, F⟩ := c.init
  refine wpAny_Call_Name_kw (ld_glob I hg c.g ?_ hdb)
  refine PySem.W.callWith_KW0 (h₀ := X.base) I.ok.mod.kin c.T.kC hall ?_ hpl
  refine thn ((pk_cons he pk_nil).run pos pins s σ H (one1 fun y H1 => ∀ a dx, H1 a = none → H1 dx = none → dx ≠ a → Q (.ref a) (upd (upd H1 dx (exd dx [(f, y)])) a (exo a C (some dx)))) I h) fun ws s2 hh => ?_
  obtain ⟨zs, H1, I1, r, q⟩ := hh
  refine ⟨I1.kIn, ?_⟩
  rw [hks]
  match zs, q, r with
  | [y], q, r =>
    refine run_emk (n := 0) (us := []) (vs := []) c.T iC tI (F _ _ _) hr kb pass0 I1 .nil r rfl rfl (by decide) fun a na => ?_
    refine ⟨a, C, y, rfl, c.T, c.no, upd_same, fun dx nd ne => ⟨rfl, ?_⟩⟩
    rw [upd_thrice]
    rw [upd_ne ne] at nd
    exact q a dx na nd ne
theorem pe_er2 (c : ErC2 X.K X.mg f g x C) (hr : Room 2 X.A) (hg : Gl X x) (h1 : PE X e1 ty) (h2 : PE X e2 tz) (hdb : (x == ("__debug__" : Str)) = false := by decide)
    (hs : starEach (e1 :: [e2]) X.env = (false, eval e1 X.env) :: starEach [e2] X.env := by rfl) (hs2 : starEach (e2 :: []) X.env = (false, eval e2 X.env) :: starEach [] X.env := by rfl) (hpl : (backTo pos (starEach [e2] X.env)).any (·.1) = false := by rfl) : PE X (.Call (.Name x p) [e1, e2] [] pos) (tEr2 C f g ty tz) := by
  refine ⟨fun pins s σ H Q I h => ?_⟩
  obtain ⟨fI, fd, iC, tI, kb, _, F⟩ := c.init
  refine wpAny_Call_Name_kw (ld_glob I hg c.gm ?_ hdb)
  refine PySem.W.callWith_K (h₀ := X.base) I.ok.mod.kin c.T.kC (thn ((pa_cons h1 (pa_cons h2 pa_nil hs2) hs).run pos pins s σ H (two2 fun y z H1 => ∀ a dx, H1 a = none → H1 dx = none → dx ≠ a → Q (.ref a) (upd (upd H1 dx (exd dx [(g, z), (f, y)])) a (exo a C (some dx)))) I h) fun us s1 hh => ?_) hs hpl
  obtain ⟨vs, H1, I1, r, q⟩ := hh
  refine ⟨I1.kIn, ?_⟩
  match vs, q, r with
  | [y, z], q, r =>
    refine run_emk (n := 2) (ks := []) (ws := []) c.T iC tI (F _ _ _) hr kb pass0 I1 r .nil rfl rfl (by decide) fun a na => ?_
    refine ⟨a, C, y, z, rfl, c.T, c.no, c.no2, upd_same, fun dx nd ne => ⟨rfl, ?_⟩⟩
    rw [upd_thrice, upd_upd, upd_comm ne]
    rw [upd_ne ne] at nd
    exact q a dx na nd ne
theorem pe_er2k (c : ErC2 X.K X.mg f g x C) (hr : Room 2 X.A) (hg : Gl X x) (h1 : PE X e1 tz) (h2 : PE X e2 ty) (hdb : (x == ("__debug__" : Str)) = false := by decide)
    (hall : (backToKw pos (keywordEach [⟨some g, e1, kp1⟩, ⟨some f, e2, kp2⟩] X.env)).all (·.1.isSome) = true := by rfl) (hks : (backToKw pos (keywordEach [⟨some g, e1, kp1⟩, ⟨some f, e2, kp2⟩] X.env)).filterMap (·.1) = [g, f] := by rfl)
    (hpl : ((backTo pos (starEach [] X.env)).any (·.1) || (backToKw pos (keywordEach [⟨some g, e1, kp1⟩, ⟨some f, e2, kp2⟩] X.env)).any (·.1.isNone)) = false := by rfl) : PE X (.Call (.Name x p) [] [⟨some g, e1, kp1⟩, ⟨some f, e2, kp2⟩] pos) (tEr2k C f g tz ty) := by
  refine ⟨fun pins s σ H Q I h => ?_⟩
  obtain ⟨fI, fd, iC, tI, _, kb, F⟩ := c.init
  refine wpAny_Call_Name_kw (ld_glob I hg c.gm ?_ hdb)
  refine PySem.W.callWith_KW0 (h₀ := X.base) I.ok.mod.kin c.T.kC hall ?_ hpl
  refine thn ((pk_cons h1 (pk_cons h2 pk_nil)).run pos pins s σ H (two2 fun z y H1 => ∀ a dx, H1 a = none → H1 dx = none → dx ≠ a → Q (.ref a) (upd (upd H1 dx (exd dx [(g, z), (f, y)])) a (exo a C (some dx)))) I h) fun ws s2 hh => ?_
  obtain ⟨zs, H1, I1, r, q⟩ := hh
  refine ⟨I1.kIn, ?_⟩
  rw [hks]
  match zs, q, r with
  | [z, y], q, r =>
    refine run_emk (n := 0) (us := []) (vs := []) c.T iC tI (F _ _ _) hr kb pass0 I1 .nil r rfl rfl (by decide) fun a na => ?_
    refine ⟨a, C, y, z, rfl, c.T, c.no, c.no2, upd_same, fun dx nd ne => ⟨rfl, ?_⟩⟩
    rw [upd_thrice, upd_upd, upd_comm ne]
    rw [upd_ne ne] at nd
    exact q a dx na nd ne
end
/-! ### defs whose callers ask no repr above them -/
structure FnOkG (P : Program) (w : World) (K : PySem.W.Frag) (mg : Str → Option Value) (base : Heap) (CX : CXT) (k : Nat) (f : Addr) (fd : FuncData) (ps : List Str) (sp : Sp) : Prop where
  len : ∀ vs H Q E, sp vs H Q E → vs.length = ps.length
  run : ∀ (A : Around) (outer : List Env) (s : Shared) (H : Hp) (args : Args) (us : List Value) (vs : List V) (Q : VK) (E : XK), A.guards = some [] → Room k A → Env0 P w K mg base A outer s H → BindsTo s fd args (ps.zip us) → Vals vs us → sp vs H Q E →
    codeAny (model P w) A (.call (.ref f) args) (CR CX outer P w H s Q E) s
theorem FnOk.g {P : Program} {w : World} {K : PySem.W.Frag} {mg : Str → Option Value} {base : Heap} {CX : CXT} {k : Nat} {f : Addr} {fd : FuncData} {ps : List Str} {sp : Sp} (F : FnOk P w K mg base CX k f fd ps sp) : FnOkG P w K mg base CX k f fd ps sp :=
  ⟨F.len, fun A outer s H args us vs Q E _ hr he hb hv hs => F.run A outer s H args us vs Q E hr he hb hv hs⟩
theorem fn_ofG {CX : CXT} {P : Program} {w : World} {K : PySem.W.Frag} {mg : Str → Option Value} {base : Heap} {k : Nat} {f : Addr} {name qual : Str} {params : Arguments} {body : List Stmt} {scope : Scope} {dV kV doc pm cdv ct oc : Value} {an od : Option Addr}
    {osl : Array (Option Value)} {N ps : List Str} {sp : Sp} (lk : K.lookup f = some ⟨oc, od, .func (PySem.W.fnOf name qual params body scope dV kV doc pm an cdv ct), osl⟩) (hcd : PySem.W.codeIn K cdv qual = true) (S : FnScope N ps scope)
    (len : ∀ vs H Q E, sp vs H Q E → vs.length = ps.length)
    (hbody : ∀ (A : Around) (outer : List Env) (s : Shared) (H : Hp) (vs : List V) (Q : VK) (E : XK), (A.deeper (envOfC qual scope s.heap.objs.size f cdv)).guards = some [] → Room k (A.deeper (envOfC qual scope s.heap.objs.size f cdv)) → sp vs H Q E →
      ∃ t, PSs (cxOf CX P w K mg base N qual scope f cdv A outer s H E) body t ∧ t { nx := fun _ H' => Q .non H', rt := Q } (start N vs) H) :
    FnOkG P w K mg base CX (k + 1) f (PySem.W.fnOf name qual params body scope dV kV doc pm an cdv ct) ps sp := by
  refine ⟨len, fun A outer s H args us vs Q E hG hr e0 hb r hsp => ?_⟩
  have hl := len _ _ _ _ hsp
  have KX : K.In s.heap := e0.mod.kin.keeps fun b o e => (e0.bs b o e).1
  have lim : s.heap.NoLimit := e0.mod.nolimit.keeps fun b o e => (e0.bs b o e).1
  have hkind : ∀ y ∈ ps.zip us, scope.names.lookup y.1 = some .local ∨ (scope.names.lookup y.1 = some .cell ∧ ((cellsFrom (s.heap.objs.size + 1) scope.names []).lookup y.1).isSome = true) := fun ⟨n, v⟩ hy => by
    rcases S.par n (List.of_mem_zip hy).1 with q | q
    · exact .inl q
    · exact .inr ⟨q, PySem.W.cellsFrom_some _ _ _ (.inl q)⟩
  refine codeAny_call_function hr.depth (KX _ _ lk) rfl S.co S.gen rfl (PySem.W.codeRec_of KX hcd) (hb _ _ _ _ ?_)
  refine wpAny_newFunctionEnv_cells S.kind hkind fun env he s1 x => ?_
  subst he
  refine ⟨lim.keeps x.toInCall.keep, codeAny_func ?_⟩
  obtain ⟨t, ht, hq⟩ := hbody A outer s H vs Q E hG (hr.deeper _) hsp
  have I : Inv (cxOf CX P w K mg base N qual scope f cdv A outer s H E) [] (start N vs) H s1 := inv_start S hr.hd e0 hl r x
  refine wpAny_mono (ht.run [] s1 (start N vs) H _ I hq) (fun fl s' hs => ?_) fun e s' hs => hs
  have fin : ∀ {σ' : St} {H' : Hp} {v : V} {u : Value}, Inv (cxOf CX P w K mg base N qual scope f cdv A outer s H E) [] σ' H' s' → RelV v u → Q v H' → CE outer P w H s Q u s' :=
    fun {σ' H' v u} J rv q => ⟨v, H', J.os, J.bare, J.base, J.hok, rv, q⟩
  cases fl with
  | ret u =>
    obtain ⟨v, σ', H', J, rv, q⟩ := hs
    exact fin J rv q
  | next =>
    obtain ⟨σ', H', J, q⟩ := hs
    exact fin (v := V.non) (u := Value.none) J rfl q
  | brk =>
    obtain ⟨_, _, _, q⟩ := hs
    exact False.elim q
  | cont =>
    obtain ⟨_, _, _, q⟩ := hs
    exact False.elim q
theorem Fun.okG {P : Program} {w : World} {K : PySem.W.Frag} {mg : Str → Option Value} {base : Heap} {x qual : Str} {st : Stmt} {f : Addr} {fd : FuncData} {N ps : List Str} {k : Nat} {sp : Sp} (F : Fun K x qual st f fd) (S : FnScope N ps (defScope st)) (len : ∀ vs H Q E, sp vs H Q E → vs.length = ps.length)
    (hbody : ∀ (cdv : Value) (A : Around) (outer : List Env) (s : Shared) (H : Hp) (vs : List V) (Q : VK) (E : XK), (A.deeper (envOfC qual (defScope st) s.heap.objs.size f cdv)).guards = some [] → Room k (A.deeper (envOfC qual (defScope st) s.heap.objs.size f cdv)) → sp vs H Q E →
      ∃ t, PSs (cxOf CX0 P w K mg base N qual (defScope st) f cdv A outer s H E).nox (defBody st) t ∧ t { nx := fun _ H' => Q .non H', rt := Q } (start N vs) H) : FnOkG P w K mg base CX0 (k + 1) f fd ps sp := by
  obtain ⟨oc, od, kV, doc, pm, an, cdv, ct, osl, rfl, lk, hcd⟩ := F.ex
  refine fn_ofG lk hcd S len fun A outer s H vs Q E hG hr hsp => ?_
  obtain ⟨t, h, q⟩ := hbody cdv A outer s H vs Q E hG hr hsp
  exact ⟨t, h.nox, q⟩
section
variable {X : Cx} {CX : CXT} {k : Nat} {f : Addr} {fd : FuncData} {ps : List Str} {sp : Sp} {E : XK} {x : Str} {p pos : Pos} {e : Expr} {es : List Expr} {t : TA}
theorem run_fnG {pins : List (Addr × Obj)} {σ : St} {H : Hp} {s : Shared} {Q : VK} {us : List Value} {vs : List V} (F : FnOkG X.prog X.w X.K X.mg X.base CX k f fd ps sp) (hG : X.A.guards = some []) (hr : Room k X.A) (hb : Binds X.K fd ps []) (hx : Passes CX X E)
    (I : Inv X pins σ H s) (r : Vals vs us) (h : sp vs H Q E) : wpAny (model X.prog X.w) X.A (call (.ref f) us) (EP X pins σ Q) X.xe s := by
  have hl : us.length = ps.length := by rw [← r.length]; exact F.len _ _ _ _ h
  have b := hb s us I.kIn (by rw [List.append_nil]; exact hl)
  rw [List.append_nil] at b
  refine wpAny_call (codeAny_mono (F.run X.A X.stack s H ⟨us, []⟩ us vs Q E hG hr I.env0 b r h) fun r s' hq => ?_)
  cases r with
  | error e => exact hx pins σ H s e s' I hq
  | ok fl =>
    cases fl with
    | ret u => exact I.after hq
    | next => exact False.elim hq
    | brk => exact False.elim hq
    | cont => exact False.elim hq
def tCallG (sp : Sp) (E : XK) (t : TA) : TE := fun σ H Q => t σ H fun vs H1 => sp vs H1 Q E
theorem pe_callG (F : FnOkG X.prog X.w X.K X.mg X.base CX k f fd ps sp) (hG : X.A.guards = some []) (hr : Room k X.A) (hg : Gl X x) (hm : X.mg x = some (.ref f)) (hk : PySem.W.keepIn X.K (.ref f) = true) (hb : Binds X.K fd ps []) (hx : Passes CX X E)
    (ha : PA X (e :: es) t) (hdb : (x == ("__debug__" : Str)) = false := by decide) (he : starEach (e :: es) X.env = (false, eval e X.env) :: starEach es X.env := by rfl) (hpl : (backTo pos (starEach es X.env)).any (·.1) = false := by rfl) :
    PE X (.Call (.Name x p) (e :: es) [] pos) (tCallG sp E t) := by
  refine ⟨fun pins s σ H Q I h => ?_⟩
  refine wpAny_Call_Name_kw (ld_glob I hg hm ?_ hdb)
  refine PySem.W.callWith_K (h₀ := X.base) I.ok.mod.kin hk (thn (ha.run pos pins s σ H _ I h) fun us s1 ⟨vs, H1, I1, r, q⟩ => ⟨I1.kIn, ?_⟩) he hpl
  exact run_fnG F hG hr hb hx I1 r q
end
end L2
set_option Elab.async false
set_option linter.all false
set_option maxRecDepth 100000
set_option maxHeartbeats 4000000
/-! repr of data at any depth, dicts among it -/
namespace L2
open PySem PySem.Spec PyProof.Rows
def keyData : Key → PyData
  | .inl i => .int i
  | .inr x => .str x
mutual
inductive Dq (K : PySem.W.Frag) (H : Hp) : V → PyData → Prop
  | non : Dq K H .non .none
  | bl (b : Bool) : Dq K H (.bl b) (.bool b)
  | int (i : Int) : Dq K H (.int i) (.int i)
  | str (x : Str) : Dq K H (.str x) (.str x)
  | lst {a : Addr} {xs : List V} {ds : List PyData} : SqL K H a xs → DqAll K H xs ds → Dq K H (.ref a) (.list ds)
  | tup {a : Addr} {xs : List V} {ds : List PyData} : SqT K H a xs → DqAll K H xs ds → Dq K H (.ref a) (.tuple ds)
  | dic {a : Addr} {kvs : List (Key × V)} {ds : List (PyData × PyData)} : H a = some (.dK kvs) → ds.map (·.1) = kvs.map (fun p => keyData p.1) → DqAll K H (kvs.map (·.2)) (ds.map (·.2)) → Dq K H (.ref a) (.dict ds)
inductive DqAll (K : PySem.W.Frag) (H : Hp) : List V → List PyData → Prop
  | nil : DqAll K H [] []
  | cons {v : V} {vs : List V} {d : PyData} {ds : List PyData} : Dq K H v d → DqAll K H vs ds → DqAll K H (v :: vs) (d :: ds)
end
theorem keys_read {P : Program} {w : World} {h : Heap} : ∀ {es : List DictEntry} {vs : List (Key × Value)}, Pairs (mixKind P w) es vs → ReadsAll h (es.map (·.key)) (vs.map fun p => keyData p.1) [] := by
  intro es vs p
  induction p with
  | nil => exact .nil
  | @cons e kv es kvs h1 h2 _ ih =>
    have q : Reads h e.key (keyData kv.1) [] := by
      obtain ⟨k, y⟩ := kv
      rcases keyIs_shape (show keyIs k e.key = true from h1) with ⟨i, t, e1, e2⟩ | ⟨x, t, e1, e2⟩
      · rw [e2, e1]
        exact .int i t
      · rw [e2, e1]
        exact .str x t
    exact .cons q ih
theorem keys_repr {P : Program} {w : World} {h : Heap} {n : Nat} : ∀ {es : List DictEntry} {vs : List (Key × Value)}, Pairs (mixKind P w) es vs → PyData.showableAll (vs.map fun p => keyData p.1) = true → (∀ t ∈ PyData.shownAll (vs.map fun p => keyData p.1), t.length ≤ sizeLine) →
    ReprAllK P w [] h n (es.map (·.key)) (PyData.shownAll (vs.map fun p => keyData p.1)) := by
  intro es vs p
  induction p with
  | nil => intro _ _; exact .nil
  | @cons e kv es kvs h1 h2 _ ih =>
    intro hs hz
    obtain ⟨k, y⟩ := kv
    simp only [List.map_cons, PyData.showableAll, Bool.and_eq_true] at hs
    simp only [List.map_cons, PyData.shownAll, List.mem_cons, forall_eq_or_imp] at hz
    have q : ReprK P w [] h n e.key (keyData k).shown := by
      rcases keyIs_shape (show keyIs k e.key = true from h1) with ⟨i, t, e1, e2⟩ | ⟨x, t, e1, e2⟩
      · rw [e2, e1]
        rw [e1] at hs
        show ReprK P w [] h n _ (PyData.shown (.int i))
        simp only [PyData.shown]
        exact .of_is (ReprIs.int t (by simpa [keyData, PyData.showable] using hs.1)) _ _ _
      · rw [e2, e1]
        rw [e1] at hz
        show ReprK P w [] h n _ (PyData.shown (.str x))
        simp only [PyData.shown]
        exact .of_is (ReprIs.str x t (by simpa only [keyData, PyData.shown] using hz.1)) _ _ _
    exact .cons q (ih hs.2 hz.2)
theorem vals_kv {kvs : List (Key × V)} {vs : List (Key × Value)} (r : KV kvs vs) : Vals (kvs.map (·.2)) (vs.map (·.2)) ∧ kvs.map (fun p => keyData p.1) = vs.map (fun p => keyData p.1) := by
  unfold KV at r
  induction r with
  | nil => exact ⟨.nil, rfl⟩
  | cons h t ih =>
    refine ⟨.cons h.2 ih.1, ?_⟩
    rw [List.map_cons, List.map_cons, ih.2, h.1]
theorem pairs_vals {P : Program} {w : World} : ∀ {es : List DictEntry} {vs : List (Key × Value)}, Pairs (mixKind P w) es vs → es.map (·.val) = vs.map (·.2) := by
  intro es vs p
  induction p with
  | nil => rfl
  | cons h1 h2 _ ih => rw [List.map_cons, List.map_cons, ih, h2]
section
variable {X : Cx} {pins : List (Addr × Obj)} {σ : St} {H : Hp} {s : Shared}
mutual
theorem Dq.repr (I : Inv X pins σ H s) : ∀ {v : V} {d : PyData}, Dq X.K H v d → ∀ u : Value, RelV v u → d.showable = true → d.shown.length ≤ sizeLine →
    ∃ as bs, Reads s.heap u d as ∧ ReadAtMost s.heap d.depth bs ∧ ReprK X.prog X.w bs s.heap d.depth u d.shown
  | _, _, .non, u, r, _, _ => by
    cases r
    exact ⟨_, [], .none, (fun _ h => nomatch h), by simp only [PyData.shown]; exact .of_is ReprIs.none _ _ _⟩
  | _, _, .bl b, u, r, _, _ => by
    cases r
    exact ⟨_, [], .bool b, (fun _ h => nomatch h), by simp only [PyData.shown]; exact .of_is (ReprIs.bool b) _ _ _⟩
  | _, _, .int i, u, r, hs, _ => by
    obtain ⟨t, rfl⟩ := r
    exact ⟨_, [], .int i t, (fun _ h => nomatch h), by simp only [PyData.shown]; exact .of_is (ReprIs.int t (by simpa [PyData.showable] using hs)) _ _ _⟩
  | _, _, .str x, u, r, _, hz => by
    obtain ⟨t, rfl⟩ := r
    exact ⟨_, [], .str x t, (fun _ h => nomatch h), by simp only [PyData.shown]; exact .of_is (ReprIs.str x t (by simpa only [PyData.shown] using hz)) _ _ _⟩
  | _, _, .lst (a := a) (xs := xs) (ds := ds) hq ha, u, r, hs, hz => by
    cases r
    obtain ⟨its, rv, ⟨o, n, ho, hc, _, hd⟩, _⟩ := I.list hq
    have hz' : (listText (PyData.shownAll ds)).length ≤ sizeLine := by simpa only [PyData.shown] using hz
    obtain ⟨as, bs, hr, hb, hk⟩ := DqAll.repr I ha its rv (by simpa [PyData.showable] using hs) (fun t ht => Nat.le_trans (listText_mem_le ht) hz')
    have rr : Reads s.heap (.ref a) (.list ds) _ := .list ho hc hd hr
    have hna : a ∉ bs := not_mem_of_deeper rr (by simp only [PyData.depth]; omega) hb
    refine ⟨_, a :: bs, rr, ReadAtMost.cons rr (by simp only [PyData.depth]; omega) hb, ?_⟩
    simp only [PyData.depth, PyData.shown]
    cases its with
    | nil =>
      cases hr
      simp only [PyData.shownAll, listText_nil]
      exact ReprK.listEmpty ho hc hd
    | cons x l => exact ReprK.list ho hc hd hna (by simpa using hk.length_eq) (fun i y e => hk.item i y (by simpa using e))
  | _, _, .tup (a := a) (xs := xs) (ds := ds) hq ha, u, r, hs, hz => by
    cases r
    obtain ⟨its, rv, ⟨o, ho, hc, n, hd⟩, _⟩ := I.tuple hq
    have hz' : (tupleText (PyData.shownAll ds)).length ≤ sizeLine := by simpa only [PyData.shown] using hz
    obtain ⟨as, bs, hr, hb, hk⟩ := DqAll.repr I ha its rv (by simpa [PyData.showable] using hs) (fun t ht => Nat.le_trans (tupleText_mem_le ht) hz')
    have rr : Reads s.heap (.ref a) (.tuple ds) _ := .tuple ho hc hd hr
    have hna : a ∉ bs := not_mem_of_deeper rr (by simp only [PyData.depth]; omega) hb
    refine ⟨_, a :: bs, rr, ReadAtMost.cons rr (by simp only [PyData.depth]; omega) hb, ?_⟩
    simp only [PyData.depth, PyData.shown]
    exact ReprK.tuple ho hc hd hna hk
  | _, _, .dic (a := a) (kvs := kvs) (ds := ds) hq he ha, u, r, hs, hz => by
    cases r
    obtain ⟨_, hsys, vs, rkv, o, es, ep, ho, hx, hd, _, hp, _⟩ := (show ObjOk X.prog X.w H s.heap a (.dK kvs) from I.hok a _ hq)
    obtain ⟨rv, ek⟩ := vals_kv rkv
    have hz' : (dictText (PyData.shownKv ds)).length ≤ sizeLine := by simpa only [PyData.shown] using hz
    obtain ⟨hs1, hs2⟩ := PyData.showableKv_split ds (by simpa [PyData.showable] using hs)
    obtain ⟨as, bs, hr, hb, hk⟩ := DqAll.repr I ha _ rv hs2 (fun t ht => let ⟨p, hp, hl⟩ := PyData.shownKv_val_le ds t ht; Nat.le_trans hl (Nat.le_trans (dictText_mem_le hp) hz'))
    have k0 := keys_repr (h := s.heap) (n := PyData.depthAll (ds.map (·.2))) hp (by rw [← ek, ← he]; exact hs1) (by rw [← ek, ← he]; exact fun t ht => let ⟨p, hp, hl⟩ := PyData.shownKv_key_le ds t ht; Nat.le_trans hl (Nat.le_trans (dictText_mem_le hp) hz'))
    have r0 := keys_read (h := s.heap) hp
    rw [← ek, ← he] at k0 r0
    have r1 : ReadsAll s.heap (es.toList.map (·.val)) (ds.map (·.2)) as := by rw [pairs_vals hp]; exact hr
    have rr : Reads s.heap (.ref a) (.dict ds) _ := .dict ho hx.1 hd r0 r1
    have hbd : ReadAtMost s.heap (PyData.depthKv ds) bs := hb.mono (PyData.depthAll_vals_le ds)
    have hna : a ∉ bs := not_mem_of_deeper rr (by simp only [PyData.depth]; omega) hbd
    refine ⟨_, a :: bs, rr, ReadAtMost.cons rr (by simp only [PyData.depth]; omega) hbd, ?_⟩
    simp only [PyData.depth, PyData.shown, PyData.shownKv_eq]
    have hk' : ReprAllK X.prog X.w bs s.heap (PyData.depthAll (ds.map (·.2))) (es.toList.map (·.val)) (PyData.shownAll (ds.map (·.2))) := by rw [pairs_vals hp]; exact hk
    exact ReprK.dict ho hx.1 hd hsys hna (ReprEntriesK.of_two es.toList _ _
      (k0.more_le (fun b (hb : b ∈ ([] : List Addr)) => absurd hb (by simp)) (PyData.depthAll_vals_le ds)) (hk'.more_le (fun b hb => hb) (PyData.depthAll_vals_le ds)))
theorem DqAll.repr (I : Inv X pins σ H s) : ∀ {vs : List V} {ds : List PyData}, DqAll X.K H vs ds → ∀ us : List Value, Vals vs us → PyData.showableAll ds = true → (∀ t ∈ PyData.shownAll ds, t.length ≤ sizeLine) →
    ∃ as bs, ReadsAll s.heap us ds as ∧ ReadAtMost s.heap (PyData.depthAll ds) bs ∧ ReprAllK X.prog X.w bs s.heap (PyData.depthAll ds) us (PyData.shownAll ds)
  | _, _, .nil, us, r, _, _ => by
    cases r
    exact ⟨_, [], .nil, (fun _ h => nomatch h), by simp only [PyData.shownAll]; exact .nil⟩
  | _, _, .cons (d := d) (ds := ds) h1 h2, us, r, hs, hz => by
    cases r with
    | cons r1 r2 =>
      have hs' : d.showable = true ∧ PyData.showableAll ds = true := by simpa [PyData.showableAll] using hs
      obtain ⟨a1, b1, q1, hb1, k1⟩ := Dq.repr I h1 _ r1 hs'.1 (hz _ (by simp only [PyData.shownAll]; exact List.mem_cons_self ..))
      obtain ⟨a2, b2, q2, hb2, k2⟩ := DqAll.repr I h2 _ r2 hs'.2 (fun t ht => hz t (by simp only [PyData.shownAll]; exact List.mem_cons_of_mem _ ht))
      refine ⟨_, b1 ++ b2, .cons q1 q2, ?_, ?_⟩
      · intro b hm
        simp only [PyData.depthAll]
        rcases List.mem_append.mp hm with hm | hm
        · obtain ⟨d', as', r', hd'⟩ := hb1 b hm
          exact ⟨d', as', r', Nat.le_trans hd' (Nat.le_max_left _ _)⟩
        · obtain ⟨d', as', r', hd'⟩ := hb2 b hm
          exact ⟨d', as', r', Nat.le_trans hd' (Nat.le_max_right _ _)⟩
      · simp only [PyData.depthAll, PyData.shownAll]
        exact .cons ((k1.more fun b hb => List.mem_append_left _ hb).level_le (Nat.le_max_left _ _)) (k2.more_le (fun b hb => List.mem_append_right _ hb) (Nat.le_max_right _ _))
end
end
/-- repr(x) -/
def rRepr (K : PySem.W.Frag) : List V → Hp → VK → Prop := fun xs H Q => ∃ (v : V) (d : PyData), xs = [v] ∧ Dq K H v d ∧ d.showable = true ∧ d.depth ≤ 40 ∧ d.shown.length ≤ sizeLine ∧ Q (.str d.shown) H
section
variable {X : Cx}
theorem call_repr (hg : X.A.guards = some []) (hu : X.A.units + 64 < cLine) : CallR X (.builtin "repr") (rRepr X.K) := by
  intro pins s σ H xs us Q I r h
  obtain ⟨v, d, rfl, hq, hs, hdp, hz, q⟩ := h
  obtain ⟨u, rfl, ru⟩ := vals1 r
  have fin : ∀ h' u' tk, (∀ b o, s.heap.get? b = some o → h'.get? b = some o) → EP X pins σ Q (.str d.shown u') { s with heap := h', toks := tk } := fun h' u' tk hk => ⟨.str d.shown, H, I.kept (t' := tk) hk, ⟨_, rfl⟩, q⟩
  cases hq with
  | non => cases ru; simp only [PyData.shown] at fin; exact PySem.P.repr_of_none (fin _ _ _ fun _ _ e => e)
  | bl b => cases ru; simp only [PyData.shown] at fin; exact PySem.P.repr_of_bool (fin _ _ _ fun _ _ e => e)
  | int i =>
    obtain ⟨t, rfl⟩ := ru
    simp only [PyData.shown] at fin
    exact PySem.P.repr_of_int (by simpa [PyData.showable] using hs) (fin _ _ _ fun _ _ e => e)
  | str x =>
    obtain ⟨t, rfl⟩ := ru
    simp only [PyData.shown] at fin hz
    exact PySem.P.repr_of_str (fin _ _ _ fun _ _ e => e) hz
  | @lst a ys ds hq ha =>
    cases ru
    obtain ⟨its, rv, ⟨o, n, ho, hc, _, hd⟩, _⟩ := I.list hq
    have hz' : (listText (PyData.shownAll ds)).length ≤ sizeLine := by simpa only [PyData.shown] using hz
    obtain ⟨as, bs, hr, hb, hk⟩ := DqAll.repr I ha its rv (by simpa [PyData.showable] using hs) (fun t ht => Nat.le_trans (listText_mem_le ht) hz')
    have rr : Reads s.heap (.ref a) (.list ds) _ := .list ho hc hd hr
    have hna : a ∉ bs := not_mem_of_deeper rr (by simp only [PyData.depth]; omega) hb
    simp only [PyData.depth] at hdp
    simp only [PyData.shown] at fin
    refine call_repr_slot (by omega) ⟨o, ho, hc⟩ F.slot_list_repr.toG ?_
    cases its with
    | nil =>
      cases hr
      simp only [PyData.shownAll, listText_nil] at fin
      exact call_list_repr_empty ⟨o, ho, hc⟩ ho hd ⟨_, _, rfl, fin _ _ _ fun _ _ e => e⟩
    | cons x l =>
      exact call_list_reprK ho hc hd hna (by simpa using hk.length_eq) (fun i y e => hk.item i y (by simpa using e)) hg (fun b _ => Clear.nil b) (by show X.A.units + 1 + _ < _; omega) (fun _ _ e => e) (fun h' u tk hk => ⟨_, _, rfl, fin h' u tk hk⟩) hz'
  | @tup a ys ds hq ha =>
    cases ru
    obtain ⟨its, rv, ⟨o, ho, hc, n, hd⟩, _⟩ := I.tuple hq
    have hz' : (tupleText (PyData.shownAll ds)).length ≤ sizeLine := by simpa only [PyData.shown] using hz
    obtain ⟨as, bs, hr, hb, hk⟩ := DqAll.repr I ha its rv (by simpa [PyData.showable] using hs) (fun t ht => Nat.le_trans (tupleText_mem_le ht) hz')
    have rr : Reads s.heap (.ref a) (.tuple ds) _ := .tuple ho hc hd hr
    have hna : a ∉ bs := not_mem_of_deeper rr (by simp only [PyData.depth]; omega) hb
    simp only [PyData.depth] at hdp
    simp only [PyData.shown] at fin
    refine call_repr_slot (by omega) ⟨o, ho, hc⟩ F.slot_tuple_repr ?_
    exact call_tuple_reprK ho hc hd hna hk hg (fun b _ => Clear.nil b) (by show X.A.units + 1 + _ < _; omega) (fun _ _ e => e) (fun h' u tk hk => ⟨_, _, rfl, fin h' u tk hk⟩) hz'
  | @dic a kvs ds hq he ha =>
    cases ru
    obtain ⟨_, hsys, vs, rkv, o, es, ep, ho, hx, hd, _, hp, _⟩ := (show ObjOk X.prog X.w H s.heap a (.dK kvs) from I.hok a _ hq)
    obtain ⟨rv, ek⟩ := vals_kv rkv
    have hz' : (dictText (PyData.shownKv ds)).length ≤ sizeLine := by simpa only [PyData.shown] using hz
    obtain ⟨hs1, hs2⟩ := PyData.showableKv_split ds (by simpa [PyData.showable] using hs)
    obtain ⟨as, bs, hr, hb, hk⟩ := DqAll.repr I ha _ rv hs2 (fun t ht => let ⟨p, hp, hl⟩ := PyData.shownKv_val_le ds t ht; Nat.le_trans hl (Nat.le_trans (dictText_mem_le hp) hz'))
    have k0 := keys_repr (h := s.heap) (n := PyData.depthAll (ds.map (·.2))) hp (by rw [← ek, ← he]; exact hs1) (by rw [← ek, ← he]; exact fun t ht => let ⟨p, hp, hl⟩ := PyData.shownKv_key_le ds t ht; Nat.le_trans hl (Nat.le_trans (dictText_mem_le hp) hz'))
    have r0 := keys_read (h := s.heap) hp
    rw [← ek, ← he] at k0 r0
    have r1 : ReadsAll s.heap (es.toList.map (·.val)) (ds.map (·.2)) as := by rw [pairs_vals hp]; exact hr
    have rr : Reads s.heap (.ref a) (.dict ds) _ := .dict ho hx.1 hd r0 r1
    have hbd : ReadAtMost s.heap (PyData.depthKv ds) bs := hb.mono (PyData.depthAll_vals_le ds)
    have hna : a ∉ bs := not_mem_of_deeper rr (by simp only [PyData.depth]; omega) hbd
    simp only [PyData.depth] at hdp
    simp only [PyData.shown, PyData.shownKv_eq] at fin
    have hk' : ReprAllK X.prog X.w bs s.heap (PyData.depthAll (ds.map (·.2))) (es.toList.map (·.val)) (PyData.shownAll (ds.map (·.2))) := by rw [pairs_vals hp]; exact hk
    refine call_repr_slot (by omega) ⟨o, ho, hx.1⟩ F.slot_dict_repr ?_
    exact call_dict_reprK ho hx.1 hd hsys hna (ReprEntriesK.of_two es.toList _ _
      (k0.more_le (fun b (hb : b ∈ ([] : List Addr)) => absurd hb (by simp)) (PyData.depthAll_vals_le ds)) (hk'.more_le (fun b hb => hb) (PyData.depthAll_vals_le ds))) hg (fun b _ => Clear.nil b) (by show X.A.units + 1 + _ < _; omega) (fun _ _ e => e) (fun h' u tk hk => ⟨_, _, rfl, fin h' u tk hk⟩) (by rw [← PyData.shownKv_eq]; exact hz')
end
end L2
set_option Elab.async false
set_option linter.all false
set_option maxRecDepth 100000
set_option maxHeartbeats 4000000
/-! the head's facts with own errors among them -/
namespace He
open PySem PySem.Spec PyProof.Rows L2
open PySem.XV (ErrBase refsB)
def tV : List Value := [.type "ValueError", .type "Exception", .type "BaseException", .type "object"]
def tL : List Value := [.type "LookupError", .type "Exception", .type "BaseException", .type "object"]
def tR : List Value := [.type "RuntimeError", .type "Exception", .type "BaseException", .type "object"]
def tA : List Value := [.type "ArithmeticError", .type "Exception", .type "BaseException", .type "object"]
def baseB (n : String) (bm : List Value) : Bool := (n == "ValueError.__new__" && refsB tV bm) || (n == "LookupError.__new__" && refsB tL bm) || (n == "RuntimeError.__new__" && refsB tR bm) || (n == "ArithmeticError.__new__" && refsB tA bm)
theorem baseB_ok {n : String} {bm : List Value} (h : baseB n bm = true) : ∃ B initId tail, ErrBase B n initId tail ∧ refsB tail bm = true := by
  unfold baseB at h
  simp only [Bool.or_eq_true, Bool.and_eq_true, beq_iff_eq] at h
  rcases h with ((⟨rfl, h⟩ | ⟨rfl, h⟩) | ⟨rfl, h⟩) | ⟨rfl, h⟩
  · exact ⟨_, _, _, PySem.XV.base_value, h⟩
  · exact ⟨_, _, _, PySem.XV.base_lookup, h⟩
  · exact ⟨_, _, _, PySem.XV.base_runtime, h⟩
  · exact ⟨_, _, _, PySem.XV.base_arith, h⟩
def clsB (K : PySem.W.Frag) (C : Addr) : Bool := match K.lookup C with
  | some ⟨.type t, _, .cls cd, sl⟩ => (match cd.mro, sl.toList with
    | .ref C' :: bm, [_, _, _, _, some (.builtin n), _] => t == "type" && (C' == C && (!cd.hasDel && (cd.hasDict && baseB n bm)))
    | _, _ => false)
  | _ => false
theorem clsB_ok {K : PySem.W.Frag} {C : Addr} (h : clsB K C = true) : ∃ nm q N bs bm sn sub ab col dd k0 k1 k2 k3 k5 B newId initId tail, ErrBase B newId initId tail ∧ K.lookup C = some (excClassObj nm q C N bs bm true sn sub ab col dd k0 k1 k2 k3 k5 newId) ∧ refsB tail bm = true := by
  unfold clsB at h
  split at h
  · rename_i t dd cd sl ho
    split at h
    · rename_i C' bm k0 k1 k2 k3 n k5 hm hs
      obtain ⟨h1, h⟩ := ba h
      obtain ⟨h2, h⟩ := ba h
      obtain ⟨h3, h⟩ := ba h
      obtain ⟨h4, h5⟩ := ba h
      obtain ⟨B, initId, tail, EB, hr⟩ := baseB_ok h5
      have e1 : t = "type" := beq_iff_eq.mp h1
      have e2 : C' = C := beq_iff_eq.mp h2
      subst e1 e2
      obtain ⟨nm, bs, mro, ns, qn, hd, sn, sub, ab, col, del⟩ := cd
      dsimp only at hm h3 h4
      have e3 : del = false := by simpa using h3
      subst hm e3 h4
      have hsl : sl = #[k0, k1, k2, k3, some (.builtin n), k5] := by
        obtain ⟨l⟩ := sl
        simp only at hs
        rw [hs]
      subst hsl
      exact ⟨_, _, _, _, _, _, _, _, _, _, _, _, _, _, _, _, _, _, _, EB, ho, hr⟩
    · cases h
  · cases h
def exB (K : PySem.W.Frag) (x : Str) : Bool :=
  eqO (PySem.W.nsIn K mainGlobals x) (some (some (.ref (ga K x)))) && (clsB K (ga K x) && (eqO (PySem.W.findIn K (.ref (ga K x)) "__setattr__") (some (some (.builtin "object.__setattr__"))) &&
  (eqO (PySem.W.findIn K (.ref (ga K x)) "__getattribute__") (some (some (.builtin "BaseException.__getattribute__"))) && (eqO (PySem.W.findIn K (.ref (ga K x)) "__getattr__") (some none) &&
  (decide (PySem.W.subIn K (.ref (ga K x)) (.type "BaseException") = some true) && (decide (PySem.W.typeIn K (.ref (ga K x)) = some (.type "type")) && (PySem.W.keepIn K (.ref (ga K x)) &&
  (eqO (PySem.W.specialIn K (.ref (ga K x)) "__call__") (some (some (.builtin "type.__call__"))) && (decide (PySem.W.instIn K (.ref (ga K x)) (.type "type") = some true) && (PySem.W.hasDictIn K (ga K x) &&
  (eqO (PySem.W.findIn K (.ref (ga K x)) "__class__") (some (some (.builtin "object.__class__"))) && (decide (PySem.W.mroIn K (ga K x) (.type "object") = some true) &&
  (eqO (PySem.W.specialIn K (.builtin "object.__class__") "__get__") (some (some (.builtin "getset_descriptor.__get__"))) && decide (PySem.W.takesIn K (.builtin "object.__class__") = some true))))))))))))))
section
variable {K : PySem.W.Frag} {h : Heap} {mg : Str → Option Value} {x f g : Str}
theorem exB_ok (c : exB K x = true) : (Fa.glo x).ok K = true ∧ ExC K (ga K x) := by
  obtain ⟨c0, c⟩ := ba c
  obtain ⟨c1, c⟩ := ba c
  obtain ⟨c2, c⟩ := ba c
  obtain ⟨c3, c⟩ := ba c
  obtain ⟨c4, c⟩ := ba c
  obtain ⟨c5, c⟩ := ba c
  obtain ⟨c6, c⟩ := ba c
  obtain ⟨c7, c⟩ := ba c
  obtain ⟨c8, c⟩ := ba c
  obtain ⟨c9, c⟩ := ba c
  obtain ⟨d0, c⟩ := ba c
  obtain ⟨d1, c⟩ := ba c
  obtain ⟨d2, c⟩ := ba c
  obtain ⟨d3, d4⟩ := ba c
  exact ⟨c0, clsB_ok c1, eqO_ok c2, eqO_ok c3, eqO_ok c4, of_decide_eq_true c5, of_decide_eq_true c6, c7, eqO_ok c8, of_decide_eq_true c9, d0, eqO_ok d1, of_decide_eq_true d2, eqO_ok d3, of_decide_eq_true d4⟩
def inB (K : PySem.W.Frag) (x : Str) : Bool := eqO (PySem.W.findIn K (.ref (ga K x)) "__init__") (some (some (.ref (ma K (ga K x) "__init__")))) && decide (PySem.W.typeIn K (.ref (ma K (ga K x) "__init__")) = some (.type "function"))
def er1B (K : PySem.W.Frag) (x f : Str) : Bool := exB K x && (eqO (PySem.W.findIn K (.ref (ga K x)) f) (some none) && inB K x)
def er2B (K : PySem.W.Frag) (x f g : Str) : Bool := exB K x && (eqO (PySem.W.findIn K (.ref (ga K x)) f) (some none) && (eqO (PySem.W.findIn K (.ref (ga K x)) g) (some none) && inB K x))
/-- no __init__, over RuntimeError -/
def erRB (K : PySem.W.Frag) (x : Str) : Bool := exB K x && PySem.W.excIn K (ga K x) [.type "RuntimeError", .type "Exception", .type "BaseException", .type "object"] "RuntimeError.__new__"
end
/-! ### the Hook -/
abbrev AlX : Type := Bool × AlD
def obsX (ex : PySem.W.Frag → Bool) (fa : List Fa) (fn : List DefD) (K : PySem.W.Frag) : AlX := (ex K, obsD fa fn K)
def SaysX (ex : PySem.W.Frag → Bool) (fa : List Fa) (fn : List DefD) (K : PySem.W.Frag) : Prop := obsX ex fa fn K = (true, valD fn)
def obsXG (ex : PySem.W.Frag → Bool) (n : Nat) (fa : List Fa) (fn : List DefD) (g : Addr → Option Obj) : AlX := obsX ex fa fn (frG g (asD g n))
def hookX (ex : PySem.W.Frag → Bool) (n : Nat) (fa : List Fa) (fn : List DefD) : PySem.W.Hook where
  α := AlX
  obs := fun s => obsXG ex n fa fn s.heap.get?
  val := fun _ => (true, valD fn)
  says := fun _ h => ∃ K : PySem.W.Frag, K.In h ∧ SaysX ex fa fn K
  of := fun _ _ e => ⟨_, frG_in, e⟩
  keeps := fun _ _ _ ⟨K, hK, c⟩ k => ⟨K, PySem.W.Frag.In.keeps hK k, c⟩
theorem obsXG_eq {ex : PySem.W.Frag → Bool} {n : Nat} {fa : List Fa} {fn : List DefD} {g : Addr → Option Obj} {s : Shared} (h : ∀ a, g a = s.heap.get? a) : obsXG ex n fa fn g = (hookX ex n fa fn).obs s := by
  have e : g = s.heap.get? := funext h
  rw [e] <;> rfl
theorem SaysX.ex {ex : PySem.W.Frag → Bool} {fa : List Fa} {fn : List DefD} {K : PySem.W.Frag} (c : SaysX ex fa fn K) : ex K = true := congrArg (fun z : AlX => z.1) c
theorem SaysX.d {ex : PySem.W.Frag → Bool} {fa : List Fa} {fn : List DefD} {K : PySem.W.Frag} (c : SaysX ex fa fn K) : SaysD fa fn K := congrArg (fun z : AlX => z.2) c
end He
namespace L2
open PySem PySem.Spec PyProof.Rows
theorem FunD.toFun {K : PySem.W.Frag} {x qual : Str} {st : Stmt} {f : Addr} {fd : FuncData} {kws : List (Str × V)} (F : FunD K x qual (defArgs st) (defBody st) (defScope st) [] kws f fd) : Fun K x qual st f fd := by
  obtain ⟨oc, od, dV, kV, doc, pm, an, cdv, ct, osl, rfl, lk, hcd, hD, hK⟩ := F.ex
  rcases hD with ⟨_, rfl⟩ | ⟨e, _⟩
  · exact ⟨⟨oc, od, kV, doc, pm, an, cdv, ct, osl, rfl, lk, hcd⟩, F.kp⟩
  · exact absurd rfl e
/-- the law's end over facts, the law's def one that asks no repr above it -/
theorem law_callG {P : Program} {w : World} {K : PySem.W.Frag} {mg mb : Str → Option Value} {k : Nat} {fa a : Addr} {fd : FuncData} {x : Str} {sp : Sp} {s₁ : Shared} {vs : List Value} {ns : List Int}
    (KX : K.In s₁.heap) (hns : s₁.heap.Ns mainGlobals mg) (hb : s₁.heap.Ns builtinsNs mb) (hbb : ∀ x : Str, x ≠ "__name__" → mb x = bootBuiltins x) (hlim : s₁.heap.NoLimit) (hg : s₁.gens = #[])
    (ha : s₁.heap.get? a = some { cls := .type "list", data := .seq vs.toArray }) (hi : IntsAre vs ns) (hl : ns.length ≤ sizeLine) (hr : Room k callerA)
    (F : ∀ base : Heap, K.In base → base.Ns mainGlobals mg → FnOkG P w K mg base CX0 k fa fd [x] sp) (hbind : ∀ (s : Shared) (u : Value), BindsTo s fd ⟨[u], []⟩ [(x, u)])
    (hsp : ∀ H : Hp, Only H → SqL K H a (ns.map V.int) → sp [.ref a] H (fun v _ => v = .bl true) fun _ _ _ => False) :
    codeAny (model P w) callerA (.call (.ref fa) ⟨[.ref a], []⟩) (fun r s' => r = .ok (.ret (.bool true)) ∧ OldK s₁.heap s'.heap ∧ s'.os = s₁.os ∧ AllBare s'.gens) s₁ := by
  have rv := vals_ints hi
  have lenV := hi.length
  have core : ∀ H : Hp, Only H → SqL K H a (ns.map V.int) → HOk P w H s₁.heap → (∀ b, H b ≠ none → b = a) → (H a ≠ none → K.lookup a = none) →
      codeAny (model P w) callerA (.call (.ref fa) ⟨[.ref a], []⟩) (fun r s' => r = .ok (.ret (.bool true)) ∧ OldK s₁.heap s'.heap ∧ s'.os = s₁.os ∧ AllBare s'.gens) s₁ := by
    intro H hO hS hok hA hK
    have base_of : ∀ {b : Addr} {o : Obj}, s₁.heap.get? b = some o → H b = none → (hidT s₁.heap H).get? b = some o := fun e n => hidT_get e n
    have noA : ∀ {b : Addr} {o : Obj} {es : Array DictEntry} {ep : Nat}, s₁.heap.get? b = some o → o.data = .dict es ep → H b = none := fun {b o es ep} e d => by
      cases q : H b with
      | none => rfl
      | some u =>
        have e' : b = a := hA b (by rw [q]; simp)
        subst e'
        rw [ha] at e; cases e
        have d' : Data.seq vs.toArray _ = Data.dict es ep := d
        cases d'
    have nsK : ∀ {b : Addr} {m : Str → Option Value}, s₁.heap.Ns b m → (hidT s₁.heap H).Ns b m := fun {b m} ⟨o, es, ep, e, d, r⟩ => ⟨o, es, ep, base_of e (noA e d), d, r⟩
    have hKb : K.In (hidT s₁.heap H) := fun b o e => base_of (KX b o e) (by
      cases q : H b with
      | none => rfl
      | some u =>
        have e' : b = a := hA b (by rw [q]; simp)
        subst e'
        rw [hK (by rw [q]; simp)] at e; cases e)
    have hM : Mod K mg (hidT s₁.heap H) := ⟨hKb, nsK hns, ⟨mb, nsK hb, hbb⟩, let ⟨mc, h1, h2⟩ := hlim; ⟨mc, nsK h1, h2⟩⟩
    have e0 : Env0 P w K mg (hidT s₁.heap H) callerA [] s₁ H := ⟨rfl, hM, fun b o e => of_hidT e, Nat.le_of_eq (hidT_size _ _), trivial, fun b hb => absurd (show b ∈ ([] : List Addr) from hb) (by simp), hok, .of_eq hg⟩
    refine codeAny_mono ((F _ hKb (nsK hns)).run callerA [] s₁ H ⟨[.ref a], []⟩ [.ref a] [.ref a] _ _ rfl hr e0 (hbind s₁ (.ref a)) (.cons rfl .nil) (hsp H hO hS)) fun r s' h => ?_
    cases r with
    | error e => exact False.elim h
    | ok fl =>
      cases fl with
      | next => exact False.elim h
      | brk => exact False.elim h
      | cont => exact False.elim h
      | ret u =>
        obtain ⟨v, H', os, bare, un, hok', r', q⟩ := h
        have q' : v = .bl true := q
        subst q'
        obtain rfl : u = Value.bool true := r'
        refine ⟨rfl, OldK.of_keep fun b o e => ?_, os, bare⟩
        cases q : H b with
        | none => exact un.keep b o e q (by intro z; exact absurd (show b ∈ ([] : List Addr) from z) (by simp)) (by simp)
        | some u =>
          rcases hO b with z | ⟨ob, xs, z⟩
          · rw [q] at z; cases z
          · have z2 := un.frzs b ob _ z
            obtain ⟨e1, _⟩ := hok b _ z
            obtain ⟨e2, _⟩ := hok' b _ z2
            rw [e] at e1; cases e1
            exact e2
  cases hk : K.lookup a with
  | some o =>
    have e := KX a o hk
    rw [ha] at e
    cases e
    refine core (fun _ => none) (fun _ => .inl rfl) (.inr ⟨_, vs.toArray, _, hk, rfl, rfl, rfl, by rw [List.size_toArray, lenV]; exact hl, by simpa using rv⟩) (fun b u z => by have z' : (none : Option HO) = some u := z; cases z') (fun b z => absurd rfl z) fun z => absurd rfl z
  | none =>
    refine core (fun b => if b = a then some (.frz { cls := .type "list", data := .seq vs.toArray } (.lst (ns.map V.int))) else none) (fun b => ?_) (.inl (.inr ⟨{ cls := .type "list", data := .seq vs.toArray }, if_pos rfl⟩)) (fun b u z => ?_) (fun b z => ?_) fun _ => hk
    · by_cases hb : b = a
      · exact .inr ⟨_, _, if_pos hb⟩
      · exact .inl (if_neg hb)
    · by_cases hb : b = a
      · have z' := (if_pos hb).symm.trans z
        cases z'
        subst hb
        exact ⟨ha, by rw [List.length_map]; exact hl, vs, _, rv, ha⟩
      · have z' := (if_neg hb).symm.trans z
        cases z'
    · by_cases hb : b = a
      · exact hb
      · exact absurd (if_neg hb) z
theorem walk_ofG {l : PySem.W.OpenLaw} {n k : Nat} {q : Program} {loose : List Str} {XP : (Str → Option Value) → Heap → Prop} {YP : World → Heap → Prop} {d : DefRec} {x : Str}
    (hn : l.most = some n) (hn2 : n ≤ sizeLine) (hdf : d.params.defaults = []) (hr : Room k callerA)
    (F : ∀ (w : World) (mg : Str → Option Value) (fa : Addr) (h : Heap), YP w h → h.Ns mainGlobals mg → mg d.name = some (.ref fa) →
      ∃ (K : PySem.W.Frag) (fd : FuncData) (sp : Sp), K.In h ∧ (∀ (s : Shared) (u : Value), BindsTo s fd ⟨[u], []⟩ [(x, u)]) ∧
        (∀ (H : Hp) (a : Addr) (ns : List Int), ns.length ≤ n → Only H → SqL K H a (ns.map V.int) → sp [.ref a] H (fun v _ => v = .bl true) fun _ _ _ => False) ∧
        ∀ base : Heap, K.In base → base.Ns mainGlobals mg → FnOkG l.prog w K mg base CX0 k fa fd [x] sp) :
    PySem.W.WalkO q loose XP YP l.row.toRowW d [] (fun f vs => PySem.call f vs) := by
  refine Att.attach_call hn hdf fun w s₀ s₁ mg mb fa o pm cd doc a vs ns G Y ho hd hcd hmg hobj hints hlen hg => ?_
  obtain ⟨K, fd, sp, KX, hb, hsp, hF⟩ := F w mg fa _ Y G.T.g hmg
  exact law_callG KX G.T.g G.T.b G.T.builtins G.T.nolimit hg hobj hints (Nat.le_trans hlen hn2) hr hF hb (fun H hO hS => hsp H a ns hlen hO hS)
end L2
set_option Elab.async false
set_option linter.all false
set_option maxRecDepth 100000
set_option maxHeartbeats 0
namespace K10
open PySem PySem.Spec PyProof.Rows L2
def topS (i : Nat) : Stmt := PySem.Challenge.pw_uplines_k10_errors_and_kinds_of_values.main.body.getD i (.Pass ⟨0, 0, 0, 0⟩)
abbrev iniS (i : Nat) : Stmt := inClass (topS i) 0
def dF (i : Nat) (x : Str) : He.DefD := ⟨(x, none), x, x, defArgs (topS i), defBody (topS i), defScope (topS i), [], []⟩
def dI (i : Nat) (x q : Str) : He.DefD := ⟨(x, some "__init__"), "__init__", q, defArgs (iniS i), defBody (iniS i), defScope (iniS i), [], []⟩
def fn1 : List He.DefD := [dF 3 "is_integer", dF 4 "is_count", dF 5 "is_name", dF 40 "_law_pot", dF 41 "_law_draw", dF 42 "_law_pick", dF 44 "_law_values", dF 45 "_law_is_name", dF 46 "_law_kinds_right", dF 47 "_law_valued_right", dF 48 "_law_is_of", dF 49 "_law_placed_right", dF 50 "_law_two_right", dF 51 "_law_apart_right", dF 52 "_law_marks", dF 53 "_law_right", dF 54 "law"]
def fn2 : List He.DefD := [dI 8 "InvalidName" "InvalidName.__init__", dI 9 "InvalidLevel" "InvalidLevel.__init__", dI 10 "InvalidNumber" "InvalidNumber.__init__", dI 11 "InvalidPair" "InvalidPair.__init__", dI 12 "InvalidLine" "InvalidLine.__init__", dI 13 "InvalidOrder" "InvalidOrder.__init__", dI 14 "InvalidOrders" "InvalidOrders.__init__", dI 15 "InvalidDrawing" "InvalidDrawing.__init__", dI 16 "InvalidSheet" "InvalidSheet.__init__", dI 17 "InvalidClaim" "InvalidClaim.__init__", dI 18 "InvalidCommand" "InvalidCommand.__init__", dI 19 "InvalidLevels" "InvalidLevels.__init__", dI 20 "InvalidNodes" "InvalidNodes.__init__", dI 21 "InvalidLines" "InvalidLines.__init__", dI 22 "InvalidPairs" "InvalidPairs.__init__", dI 23 "InvalidWalk" "InvalidWalk.__init__", dI 24 "InvalidText" "InvalidText.__init__", dI 26 "UnknownNode" "UnknownNode.__init__", dI 27 "UnknownLine" "UnknownLine.__init__", dI 29 "NameTaken" "NameTaken.__init__", dI 31 "Refused" "Refused.__init__", dI 32 "OtherSheets" "OtherSheets.__init__", dI 33 "OtherLevels" "OtherLevels.__init__", dI 36 "CommandFailed" "CommandFailed.__init__", dI 38 "TooMany" "TooMany.__init__"]
def fn : List He.DefD := fn1 ++ fn2
def fa : List He.Fa := [.int "LONGEST_NAME" 6, .str "SIGNS" "abcdefghijklmnopqrstuvwxyz0123456789", .glo "is_integer", .glo "is_count", .glo "is_name", .glo "_law_pot", .glo "_law_draw", .glo "_law_pick", .glo "_law_values", .glo "_law_is_name", .glo "_law_kinds_right", .glo "_law_valued_right", .glo "_law_is_of", .glo "_law_placed_right", .glo "_law_two_right", .glo "_law_apart_right", .glo "_law_marks", .glo "_law_right", .glo "law", .glo "SheetError", .glo "MissingError", .glo "StateError", .glo "LimitError", .free "isinstance", .free "int", .free "bool", .free "str", .free "len", .free "all", .free "repr", .free "range", .free "max", .free "min", .free "abs", .free "divmod", .free "ValueError", .free "LookupError", .free "RuntimeError", .free "ArithmeticError"]
def all28 : List Str := ["CommandFailed", "InvalidClaim", "InvalidCommand", "InvalidDrawing", "InvalidLevel", "InvalidLevels", "InvalidLine", "InvalidLines", "InvalidName", "InvalidNodes", "InvalidNumber", "InvalidOrder", "InvalidOrders", "InvalidPair", "InvalidPairs", "InvalidSheet", "InvalidText", "InvalidWalk", "NameTaken", "NothingClean", "NothingToUndo", "NotTrue", "OtherLevels", "OtherSheets", "Refused", "TooMany", "UnknownLine", "UnknownNode"]
def fam28 : List Nat := [2, 0, 0, 0, 0, 0, 0, 0, 0, 0, 0, 0, 0, 0, 0, 0, 0, 0, 2, 2, 2, 2, 2, 2, 2, 3, 1, 1]
def fams : List Str := ["SheetError", "MissingError", "StateError", "LimitError"]
def ones : List (Str × Str) := [("InvalidName", "value"), ("InvalidLevel", "value"), ("InvalidNumber", "value"), ("InvalidPair", "value"), ("InvalidLine", "value"), ("InvalidOrder", "value"), ("InvalidOrders", "value"), ("InvalidDrawing", "value"), ("InvalidSheet", "value"), ("InvalidClaim", "value"), ("InvalidCommand", "value"), ("InvalidLevels", "position"), ("InvalidNodes", "position"), ("InvalidLines", "position"), ("InvalidPairs", "position"), ("InvalidWalk", "position"), ("InvalidText", "line"), ("UnknownNode", "value"), ("UnknownLine", "value"), ("NameTaken", "value"), ("Refused", "value"), ("CommandFailed", "position")]
def twos : List (Str × Str × Str) := [("OtherSheets", "one", "other"), ("OtherLevels", "one", "other"), ("TooMany", "what", "limit")]
def nons : List Str := ["NothingClean", "NothingToUndo", "NotTrue"]
def bts : List String := ["ValueError", "LookupError", "RuntimeError", "ArithmeticError"]
def ex (K : PySem.W.Frag) : Bool := (ones.all fun q => He.er1B K q.1 q.2) && ((twos.all fun q => He.er2B K q.1 q.2.1 q.2.2) && ((nons.all fun x => He.erRB K x) &&
  ((all28.zipIdx.all fun p => all28.zipIdx.all fun q => decide (PySem.W.kitOne K (.ref (He.ga K p.1)) (.ref (He.ga K q.1)) = some (p.2 == q.2))) &&
  (((all28.zip fam28).all fun p => fams.zipIdx.all fun q => decide (PySem.W.kitOne K (.ref (He.ga K p.1)) (.ref (He.ga K q.1)) = some (p.2 == q.2))) &&
  ((all28.zip fam28).all fun p => bts.zipIdx.all fun q => decide (PySem.W.kitOne K (.ref (He.ga K p.1)) (.type q.1) = some (p.2 == q.2)))))))
def lo1 : List PySem.Str := ["SIGNS", "LONGEST_NAME", "is_integer", "is_count", "is_name", "SheetError", "InvalidName", "InvalidLevel", "InvalidNumber", "InvalidPair", "InvalidLine", "InvalidOrder", "InvalidOrders", "InvalidDrawing", "InvalidSheet", "InvalidClaim", "InvalidCommand", "InvalidLevels", "InvalidNodes", "InvalidLines", "InvalidPairs", "InvalidWalk", "InvalidText", "MissingError", "UnknownNode"]
def lo2 : List PySem.Str := ["UnknownLine", "StateError", "NameTaken", "NothingClean", "Refused", "OtherSheets", "OtherLevels", "NotTrue", "NothingToUndo", "CommandFailed", "LimitError", "TooMany", "_law_pot", "_law_draw", "_law_pick", "_law_some", "_law_values", "_law_is_name", "_law_kinds_right", "_law_valued_right", "_law_is_of", "_law_placed_right", "_law_two_right", "_law_apart_right", "_law_marks", "_law_right"]
def loose : List PySem.Str := lo1 ++ lo2
abbrev R : PySem.W.OpenRow := PySem.W.OpenLaw.row PySem.Challenge.rw_uplines_k10_errors_and_kinds_of_values
abbrev hk : PySem.W.Hook := He.hookX ex 5 fa fn
def ob (s : PySem.W.SharedT) : He.AlX := He.obsXG ex 5 fa fn (HandSHeadRun.getT s)
theorem ob_eq (s : PySem.W.SharedT) : ob s = hk.obs s.abs := He.obsXG_eq (HandSHeadRun.getT_eq s)
theorem run (w : World) : HandSHeadRun.RunEq R (PySem.W.view R.prog [54]) hk ob 9000 loose w := by
  intro os
  kernel_rfl
end K10
set_option Elab.async false
set_option linter.all false
set_option maxRecDepth 100000
set_option maxHeartbeats 4000000
namespace K10
open PySem PySem.Spec PyProof.Rows L2 Evl
/-! ### the facts by name -/
theorem one_value {K : PySem.W.Frag} {h : Heap} {mg : Str → Option Value} (X : K.In h) (G : h.Ns mainGlobals mg) {x q : Str} {st : Stmt} {fd : FuncData} {p1 p2 q1 q2 q3 q4 pos : Pos} (b : He.er1B K x "value" = true)
    (F : FunD K "__init__" q (defArgs st) (defBody st) (defScope st) [] [] (He.ma K (He.ga K x) "__init__") fd) (hs : st = iSt1 "value" p1 p2 q1 q2 q3 q4 pos) : ErC1 K mg "value" x (He.ga K x) := by
  subst hs
  obtain ⟨b1, b⟩ := He.ba b
  obtain ⟨b2, b⟩ := He.ba b
  obtain ⟨b3, b4⟩ := He.ba b
  obtain ⟨g, T⟩ := He.exB_ok b1
  obtain ⟨⟨oc, od, kV, doc, pm, an, cdv, ct, osl, e, lk, hcd⟩, kp⟩ := FunD.toFun F
  subst e
  exact erc_value T (He.glo_ok X G g) (He.eqO_ok b2) (He.eqO_ok b3) (of_decide_eq_true b4) lk hcd kp
theorem one_position {K : PySem.W.Frag} {h : Heap} {mg : Str → Option Value} (X : K.In h) (G : h.Ns mainGlobals mg) {x q : Str} {st : Stmt} {fd : FuncData} {p1 p2 q1 q2 q3 q4 pos : Pos} (b : He.er1B K x "position" = true)
    (F : FunD K "__init__" q (defArgs st) (defBody st) (defScope st) [] [] (He.ma K (He.ga K x) "__init__") fd) (hs : st = iSt1 "position" p1 p2 q1 q2 q3 q4 pos) : ErC1 K mg "position" x (He.ga K x) := by
  subst hs
  obtain ⟨b1, b⟩ := He.ba b
  obtain ⟨b2, b⟩ := He.ba b
  obtain ⟨b3, b4⟩ := He.ba b
  obtain ⟨g, T⟩ := He.exB_ok b1
  obtain ⟨⟨oc, od, kV, doc, pm, an, cdv, ct, osl, e, lk, hcd⟩, kp⟩ := FunD.toFun F
  subst e
  exact erc_position T (He.glo_ok X G g) (He.eqO_ok b2) (He.eqO_ok b3) (of_decide_eq_true b4) lk hcd kp
theorem one_line {K : PySem.W.Frag} {h : Heap} {mg : Str → Option Value} (X : K.In h) (G : h.Ns mainGlobals mg) {x q : Str} {st : Stmt} {fd : FuncData} {p1 p2 q1 q2 q3 q4 pos : Pos} (b : He.er1B K x "line" = true)
    (F : FunD K "__init__" q (defArgs st) (defBody st) (defScope st) [] [] (He.ma K (He.ga K x) "__init__") fd) (hs : st = iSt1 "line" p1 p2 q1 q2 q3 q4 pos) : ErC1 K mg "line" x (He.ga K x) := by
  subst hs
  obtain ⟨b1, b⟩ := He.ba b
  obtain ⟨b2, b⟩ := He.ba b
  obtain ⟨b3, b4⟩ := He.ba b
  obtain ⟨g, T⟩ := He.exB_ok b1
  obtain ⟨⟨oc, od, kV, doc, pm, an, cdv, ct, osl, e, lk, hcd⟩, kp⟩ := FunD.toFun F
  subst e
  exact erc_line T (He.glo_ok X G g) (He.eqO_ok b2) (He.eqO_ok b3) (of_decide_eq_true b4) lk hcd kp
theorem two_one {K : PySem.W.Frag} {h : Heap} {mg : Str → Option Value} (X : K.In h) (G : h.Ns mainGlobals mg) {x q : Str} {st : Stmt} {fd : FuncData} {p1 p2 p3 q1 q2 q3 q4 r1 r2 r3 r4 pos : Pos} (b : He.er2B K x "one" "other" = true)
    (F : FunD K "__init__" q (defArgs st) (defBody st) (defScope st) [] [] (He.ma K (He.ga K x) "__init__") fd) (hs : st = iSt2 "one" "other" p1 p2 p3 q1 q2 q3 q4 r1 r2 r3 r4 pos) : ErC2 K mg "one" "other" x (He.ga K x) := by
  subst hs
  obtain ⟨b1, b⟩ := He.ba b
  obtain ⟨b2, b⟩ := He.ba b
  obtain ⟨b2', b⟩ := He.ba b
  obtain ⟨b3, b4⟩ := He.ba b
  obtain ⟨g, T⟩ := He.exB_ok b1
  obtain ⟨⟨oc, od, kV, doc, pm, an, cdv, ct, osl, e, lk, hcd⟩, kp⟩ := FunD.toFun F
  subst e
  exact erc_one T (He.glo_ok X G g) (He.eqO_ok b2) (He.eqO_ok b2') (He.eqO_ok b3) (of_decide_eq_true b4) lk hcd kp
theorem two_what {K : PySem.W.Frag} {h : Heap} {mg : Str → Option Value} (X : K.In h) (G : h.Ns mainGlobals mg) {x q : Str} {st : Stmt} {fd : FuncData} {p1 p2 p3 q1 q2 q3 q4 r1 r2 r3 r4 pos : Pos} (b : He.er2B K x "what" "limit" = true)
    (F : FunD K "__init__" q (defArgs st) (defBody st) (defScope st) [] [] (He.ma K (He.ga K x) "__init__") fd) (hs : st = iSt2 "what" "limit" p1 p2 p3 q1 q2 q3 q4 r1 r2 r3 r4 pos) : ErC2 K mg "what" "limit" x (He.ga K x) := by
  subst hs
  obtain ⟨b1, b⟩ := He.ba b
  obtain ⟨b2, b⟩ := He.ba b
  obtain ⟨b2', b⟩ := He.ba b
  obtain ⟨b3, b4⟩ := He.ba b
  obtain ⟨g, T⟩ := He.exB_ok b1
  obtain ⟨⟨oc, od, kV, doc, pm, an, cdv, ct, osl, e, lk, hcd⟩, kp⟩ := FunD.toFun F
  subst e
  exact erc_what T (He.glo_ok X G g) (He.eqO_ok b2) (He.eqO_ok b2') (He.eqO_ok b3) (of_decide_eq_true b4) lk hcd kp
structure Tx (K : PySem.W.Frag) (mg : Str → Option Value) (fd : Nat → FuncData) : Prop where
  gl : ∀ (i : Nat) (x : Str), fa[i]? = some (He.Fa.glo x) → mg x = some (.ref (He.ga K x))
  fr : ∀ (i : Nat) (x : Str), fa[i]? = some (He.Fa.free x) → mg x = none
  df : ∀ (i j : Nat) (x : Str), fn[i]? = some (dF j x) → Fun K x x (topS j) (He.ga K x) (fd i)
  long : ∃ t, mg "LONGEST_NAME" = some (.int 6 t)
  signs : ∃ t, mg "SIGNS" = some (.str "abcdefghijklmnopqrstuvwxyz0123456789" t)
  e1 : ∀ (i : Nat) (q : Str × Str), ones[i]? = some q → ErC1 K mg q.2 q.1 (He.ga K q.1)
  e2 : ∀ (i : Nat) (q : Str × Str × Str), twos[i]? = some q → ErC2 K mg q.2.1 q.2.2 q.1 (He.ga K q.1)
  e0 : ∀ (i : Nat) (x : Str), nons[i]? = some x → ExC K (He.ga K x) ∧ PySem.W.excIn K (He.ga K x) [.type "RuntimeError", .type "Exception", .type "BaseException", .type "object"] "RuntimeError.__new__" = true ∧ mg x = some (.ref (He.ga K x))
  own : ∀ (i j : Nat) (x y : Str), all28[i]? = some x → all28[j]? = some y → PySem.W.kitOne K (.ref (He.ga K x)) (.ref (He.ga K y)) = some (i == j)
  fam : ∀ (i : Nat) (x : Str) (n j : Nat) (y : Str), (all28.zip fam28)[i]? = some (x, n) → fams[j]? = some y → PySem.W.kitOne K (.ref (He.ga K x)) (.ref (He.ga K y)) = some (n == j)
  bas : ∀ (i : Nat) (x : Str) (n j : Nat) (y : String), (all28.zip fam28)[i]? = some (x, n) → bts[j]? = some y → PySem.W.kitOne K (.ref (He.ga K x)) (.type y) = some (n == j)
theorem zi {α : Type} {l : List α} {i : Nat} {a : α} (h : l[i]? = some a) : (a, i) ∈ l.zipIdx := List.mem_zipIdx_iff_getElem?.mpr h
theorem Tx.of {K : PySem.W.Frag} {h : Heap} {mg : Str → Option Value} (X : K.In h) (G : h.Ns mainGlobals mg) (c : He.SaysX ex fa fn K) : ∃ fd, Tx K mg fd := by
  have hd : ∀ i : Nat, ∃ fd : FuncData, ∀ d : He.DefD, fn[i]? = some d → FunD K d.name d.qual d.params d.body d.scope (d.dvs K) (d.kws K) (He.fAd K d.at_) fd := fun i => by
    cases e : fn[i]? with
    | none => exact ⟨(Classical.choose (c.d.def_ 0 rfl)), fun d z => nomatch z⟩
    | some d =>
      obtain ⟨fd, F⟩ := c.d.def_ i e
      exact ⟨fd, fun d' z => by cases z; exact F⟩
  obtain ⟨fd, hF⟩ := Classical.axiomOfChoice hd
  have hex := c.ex
  unfold ex at hex
  obtain ⟨x1, hex⟩ := He.ba hex
  obtain ⟨x2, hex⟩ := He.ba hex
  obtain ⟨x3, hex⟩ := He.ba hex
  obtain ⟨x4, hex⟩ := He.ba hex
  obtain ⟨x5, x6⟩ := He.ba hex
  have y1 := List.all_eq_true.mp x1
  have y2 := List.all_eq_true.mp x2
  have y3 := List.all_eq_true.mp x3
  refine ⟨fd, ?_, ?_, ?_, He.int_ok X G (c.d.fact 0 rfl), He.str_ok X G (c.d.fact 1 rfl), ?_, ?_, ?_, ?_, ?_, ?_⟩
  · exact fun i x h => He.glo_ok X G (c.d.fact i h)
  · exact fun i x h => He.free_ok X G (c.d.fact i h)
  · exact fun i j x h => FunD.toFun (st := topS j) (hF i _ h)
  · intro i q h
    have hb := y1 q (List.mem_of_getElem? h)
    match i, h with
    | 0, h => cases h; exact one_value X G (st := iniS 8) hb (hF 17 (dI 8 "InvalidName" "InvalidName.__init__") rfl) rfl
    | 1, h => cases h; exact one_value X G (st := iniS 9) hb (hF 18 (dI 9 "InvalidLevel" "InvalidLevel.__init__") rfl) rfl
    | 2, h => cases h; exact one_value X G (st := iniS 10) hb (hF 19 (dI 10 "InvalidNumber" "InvalidNumber.__init__") rfl) rfl
    | 3, h => cases h; exact one_value X G (st := iniS 11) hb (hF 20 (dI 11 "InvalidPair" "InvalidPair.__init__") rfl) rfl
    | 4, h => cases h; exact one_value X G (st := iniS 12) hb (hF 21 (dI 12 "InvalidLine" "InvalidLine.__init__") rfl) rfl
    | 5, h => cases h; exact one_value X G (st := iniS 13) hb (hF 22 (dI 13 "InvalidOrder" "InvalidOrder.__init__") rfl) rfl
    | 6, h => cases h; exact one_value X G (st := iniS 14) hb (hF 23 (dI 14 "InvalidOrders" "InvalidOrders.__init__") rfl) rfl
    | 7, h => cases h; exact one_value X G (st := iniS 15) hb (hF 24 (dI 15 "InvalidDrawing" "InvalidDrawing.__init__") rfl) rfl
    | 8, h => cases h; exact one_value X G (st := iniS 16) hb (hF 25 (dI 16 "InvalidSheet" "InvalidSheet.__init__") rfl) rfl
    | 9, h => cases h; exact one_value X G (st := iniS 17) hb (hF 26 (dI 17 "InvalidClaim" "InvalidClaim.__init__") rfl) rfl
    | 10, h => cases h; exact one_value X G (st := iniS 18) hb (hF 27 (dI 18 "InvalidCommand" "InvalidCommand.__init__") rfl) rfl
    | 11, h => cases h; exact one_position X G (st := iniS 19) hb (hF 28 (dI 19 "InvalidLevels" "InvalidLevels.__init__") rfl) rfl
    | 12, h => cases h; exact one_position X G (st := iniS 20) hb (hF 29 (dI 20 "InvalidNodes" "InvalidNodes.__init__") rfl) rfl
    | 13, h => cases h; exact one_position X G (st := iniS 21) hb (hF 30 (dI 21 "InvalidLines" "InvalidLines.__init__") rfl) rfl
    | 14, h => cases h; exact one_position X G (st := iniS 22) hb (hF 31 (dI 22 "InvalidPairs" "InvalidPairs.__init__") rfl) rfl
    | 15, h => cases h; exact one_position X G (st := iniS 23) hb (hF 32 (dI 23 "InvalidWalk" "InvalidWalk.__init__") rfl) rfl
    | 16, h => cases h; exact one_line X G (st := iniS 24) hb (hF 33 (dI 24 "InvalidText" "InvalidText.__init__") rfl) rfl
    | 17, h => cases h; exact one_value X G (st := iniS 26) hb (hF 34 (dI 26 "UnknownNode" "UnknownNode.__init__") rfl) rfl
    | 18, h => cases h; exact one_value X G (st := iniS 27) hb (hF 35 (dI 27 "UnknownLine" "UnknownLine.__init__") rfl) rfl
    | 19, h => cases h; exact one_value X G (st := iniS 29) hb (hF 36 (dI 29 "NameTaken" "NameTaken.__init__") rfl) rfl
    | 20, h => cases h; exact one_value X G (st := iniS 31) hb (hF 37 (dI 31 "Refused" "Refused.__init__") rfl) rfl
    | 21, h => cases h; exact one_position X G (st := iniS 36) hb (hF 40 (dI 36 "CommandFailed" "CommandFailed.__init__") rfl) rfl
    | n + 22, h => cases h
  · intro i q h
    have hb := y2 q (List.mem_of_getElem? h)
    match i, h with
    | 0, h => cases h; exact two_one X G (st := iniS 32) hb (hF 38 (dI 32 "OtherSheets" "OtherSheets.__init__") rfl) rfl
    | 1, h => cases h; exact two_one X G (st := iniS 33) hb (hF 39 (dI 33 "OtherLevels" "OtherLevels.__init__") rfl) rfl
    | 2, h => cases h; exact two_what X G (st := iniS 38) hb (hF 41 (dI 38 "TooMany" "TooMany.__init__") rfl) rfl
    | n + 3, h => cases h
  · intro i x h
    obtain ⟨b1, b2⟩ := He.ba (y3 x (List.mem_of_getElem? h))
    obtain ⟨g, T⟩ := He.exB_ok b1
    exact ⟨T, b2, He.glo_ok X G g⟩
  · intro i j x y hx hy
    exact of_decide_eq_true (List.all_eq_true.mp (List.all_eq_true.mp x4 _ (zi hx)) _ (zi hy))
  · intro i x n j y hx hy
    exact of_decide_eq_true (List.all_eq_true.mp (List.all_eq_true.mp x5 _ (List.mem_of_getElem? hx)) _ (zi hy))
  · intro i x n j y hx hy
    exact of_decide_eq_true (List.all_eq_true.mp (List.all_eq_true.mp x6 _ (List.mem_of_getElem? hx)) _ (zi hy))
end K10
set_option Elab.async false
set_option linter.all false
set_option maxRecDepth 100000
set_option maxHeartbeats 4000000
namespace K10
open PySem PySem.Spec PyProof.Rows L2 Evl
/-! ### data that is told, under more heap -/
mutual
theorem dq_ex {K : PySem.W.Frag} {H H' : Hp} (e : Ex H H') : ∀ {v : V} {d : PyData}, Dq K H v d → Dq K H' v d
  | _, _, .non => .non
  | _, _, .bl b => .bl b
  | _, _, .int i => .int i
  | _, _, .str x => .str x
  | _, _, .lst h1 h2 => .lst (ex_l e h1) (dqa_ex e h2)
  | _, _, .tup h1 h2 => .tup (ex_t e h1) (dqa_ex e h2)
  | _, _, .dic h1 h2 h3 => .dic (e _ _ h1) h2 (dqa_ex e h3)
theorem dqa_ex {K : PySem.W.Frag} {H H' : Hp} (e : Ex H H') : ∀ {vs : List V} {ds : List PyData}, DqAll K H vs ds → DqAll K H' vs ds
  | _, _, .nil => .nil
  | _, _, .cons h1 h2 => .cons (dq_ex e h1) (dqa_ex e h2)
end
inductive Ky (H : Hp) : V → String → Prop
  | non : Ky H .non "NoneType"
  | bl (b : Bool) : Ky H (.bl b) "bool"
  | int (i : Int) : Ky H (.int i) "int"
  | str (x : Str) : Ky H (.str x) "str"
  | lst {a : Addr} {xs : List V} : H a = some (.lst xs) → Ky H (.ref a) "list"
  | tup {a : Addr} {xs : List V} : H a = some (.tup xs) → Ky H (.ref a) "tuple"
  | dic {a : Addr} {kvs : List (Key × V)} : H a = some (.dK kvs) → Ky H (.ref a) "dict"
theorem Ky.ex {H H' : Hp} (e : Ex H H') {v : V} {t : String} (h : Ky H v t) : Ky H' v t := by
  cases h with
  | non => exact .non
  | bl b => exact .bl b
  | int i => exact .int i
  | str x => exact .str x
  | lst h => exact .lst (e _ _ h)
  | tup h => exact .tup (e _ _ h)
  | dic h => exact .dic (e _ _ h)
theorem Ky.ty {K : PySem.W.Frag} {H : Hp} {v : V} {t : String} (h : Ky H v t) : TyX K H v (.type t) := by
  cases h with
  | non => exact .base .non
  | bl b => exact .base (.bl b)
  | int i => exact .base (.int i)
  | str x => exact .base (.str x)
  | lst h => exact .base (.lst h)
  | tup h => exact .base (.tup h)
  | dic h => exact .base (.dK h)
def kI : V → Bool
  | .int _ => true
  | .bl _ => true
  | _ => false
def kB : V → Bool
  | .bl _ => true
  | _ => false
def kS : V → Bool
  | .str _ => true
  | _ => false
theorem Ky.int_ {H : Hp} {v : V} {t : String} (h : Ky H v t) : kitB t "int" = some (kI v) := by
  cases h <;> first | (show kitB _ _ = some true; decide +kernel) | (show kitB _ _ = some false; decide +kernel)
theorem Ky.bool_ {H : Hp} {v : V} {t : String} (h : Ky H v t) : kitB t "bool" = some (kB v) := by
  cases h <;> first | (show kitB _ _ = some true; decide +kernel) | (show kitB _ _ = some false; decide +kernel)
theorem Ky.str_ {H : Hp} {v : V} {t : String} (h : Ky H v t) : kitB t "str" = some (kS v) := by
  cases h <;> first | (show kitB _ _ = some true; decide +kernel) | (show kitB _ _ = some false; decide +kernel)
/-- small data -/
structure Sm (n : Nat) (d : PyData) : Prop where
  sh : d.showable = true
  lv : d.leavesShort 40 = true
  bk : d.bulk ≤ n
  dp : d.depth ≤ 20
theorem Sm.len {n : Nat} {d : PyData} (s : Sm n d) (hn : n ≤ 10000) : d.shown.length ≤ sizeLine := by
  have h := PyData.shown_le_bulk 40 (by decide) d s.lv
  have h2 : (40 + 2) * d.bulk ≤ 42 * 10000 := Nat.mul_le_mul (by decide) (Nat.le_trans s.bk hn)
  rw [sizeLine_eq]
  omega
structure Gd (K : PySem.W.Frag) (H : Hp) (v : V) (d : PyData) : Prop where
  q : Dq K H v d
  s : Sm 100 d
  d10 : d.depth ≤ 10
  k : ∃ t, Ky H v t
theorem Gd.ex {K : PySem.W.Frag} {H H' : Hp} {v : V} {d : PyData} (h : Gd K H v d) (e : Ex H H') : Gd K H' v d := ⟨dq_ex e h.q, h.s, h.d10, let ⟨t, k⟩ := h.k; ⟨t, k.ex e⟩⟩
section
variable {K : PySem.W.Frag} {σ : L2.St} {H H' : Hp} {ta tb te tx : TE} {x y z v : V} {d : PyData} {n : Nat}
/-- repr -/
theorem ev_repr (h : Ev te σ H v) (q : ∀ H1, Ex H H1 → Dq K H1 v d) (s : Sm n d) (hn : n ≤ 10000) : Ev (tCB (rRepr K) (tCons te tNil)) σ H (.str d.shown) := fun H1 e Q k =>
  h H1 e _ fun H2 e2 => ⟨v, d, rfl, q H2 (e.trans e2), s.sh, Nat.le_trans s.dp (by decide), s.len hn, k H2 e2⟩
theorem ev_reprL {xs : List V} {ds : List PyData} (h : EvL te σ H xs) (q : ∀ H1, Ex H H1 → DqAll K H1 xs ds) (s : Sm n (.list ds)) (hn : n ≤ 10000) : Ev (tCB (rRepr K) (tCons te tNil)) σ H (.str (PyData.shown (.list ds))) := fun H1 e Q k =>
  h H1 e _ fun p H2 _ e2 hp => ⟨.ref p, .list ds, rfl, .lst (sq_of hp) (q H2 (e.trans e2)), s.sh, Nat.le_trans s.dp (by decide), s.len hn, k H2 e2⟩
/-- isinstance of data -/
theorem ev_isi {t n : String} {b : Bool} (h : Ev te σ H v) (k : Ky H v t) (hb : kitB t n = some b) (hc : Ev tx σ H (.ty n)) : Ev (tCB (rIsi K) (tCons te (tCons tx tNil))) σ H (.bl b) := fun H1 e Q q =>
  h H1 e _ fun H2 e2 => hc H2 (e.trans e2) _ fun H3 e3 => ⟨v, .ty n, .type t, .type n, b, rfl, .ty n, (k.ex ((e.trans e2).trans e3)).ty, kit_ty hb, q H3 (e2.trans e3)⟩
theorem ev_all {bs : List Bool} (h : EvL te σ H (bs.map V.bl)) : Ev (tCB (rAll K) (tCons te tNil)) σ H (.bl (bs.all id)) := fun H1 e Q q =>
  h H1 e _ fun p H2 _ e2 hp => ⟨p, bs, rfl, sq_of hp, q H2 e2⟩
theorem ev_callG {sp : Sp} {vs : List V} {E : XK} {ta : TA} (h : EvA ta σ H vs) (hs : SpV sp vs H z) : Ev (tCallG sp E ta) σ H z := fun H1 e Q q =>
  h H1 e _ fun H2 e2 => hs H2 (e.trans e2) Q (fun H3 e3 => q H3 (e2.trans e3)) E
theorem ev_call0 {sp : Sp} {vs : List V} {E : XK} {ta : TA} (h : EvA ta σ H vs) (hs : SpV sp vs H z) : Ev (tCall sp [] E ta) σ H z := fun H1 e Q q =>
  h H1 e _ fun H2 e2 => by
    have g := hs H2 (e.trans e2) Q (fun H3 e3 => q H3 (e2.trans e3)) E
    show sp (vs ++ []) H2 Q E
    rw [List.append_nil]
    exact g
theorem ev_callK {sp : Sp} {ws : List V} {E : XK} {tk : TA} {m : Nat} {gV : List V → List V → List V} (h : EvA tk σ H ws) (hm : ws.length = m) (hs : SpV sp (gV [] ws) H z) : Ev (tCallN 0 m sp gV E tNil tk) σ H z := fun H1 e Q q => by
  show tk σ H1 fun zs H2 => ([] : List V).length = 0 ∧ zs.length = m ∧ sp (gV [] zs) H2 Q E
  exact h H1 e _ fun H2 e2 => ⟨rfl, hm, hs H2 (e.trans e2) Q (fun H3 e3 => q H3 (e2.trans e3)) E⟩
theorem et_chain {i j m : Int} {r r' : R2} {tc : TE} {a b : Bool} (h1 : Ev ta σ H (.int i)) (h2 : Ev tb σ H (.int j)) (h3 : Ev tc σ H (.int m)) (r1 : RV r (.int i) (.int j) H (.bl a)) (r2 : RV r' (.int j) (.int m) H (.bl b)) :
    EvT (tTest (tChain r r' ta tb tc)) σ H (a && b) := fun H1 e Q q =>
  h1 H1 e _ fun H2 e2 => h2 H2 (e.trans e2) _ fun H3 e3 => r1 H3 ((e.trans e2).trans e3) _ fun H4 e4 => ⟨a, rfl, by
    cases a with
    | true =>
      rw [if_pos rfl]
      exact h3 H4 (((e.trans e2).trans e3).trans e4) _ fun H5 e5 => r2 H5 ((((e.trans e2).trans e3).trans e4).trans e5) _ fun H6 e6 => ⟨b, rfl, q H6 ((((e2.trans e3).trans e4).trans e5).trans e6)⟩
    | false =>
      rw [if_neg (by decide)]
      exact ⟨false, rfl, q H4 ((e2.trans e3).trans e4)⟩⟩
theorem et_opT {r : R2} {b : Bool} (h : Ev (tOp r ta tb) σ H (.bl b)) : EvT (tTest (tOp r ta tb)) σ H b := et_test h
theorem ev_lenX {r : List V → Hp → VK → Prop} {n : Int} (ha : Ev ta σ H x) (hr : ∀ H1, Ex H H1 → ∀ Q : VK, Q (.int n) H1 → r [x] H1 Q) : Ev (tCB r (tCons ta tNil)) σ H (.int n) := fun H1 e Q q =>
  ha H1 e _ fun H2 e2 => hr H2 (e.trans e2) Q (q H2 e2)
end
/-- over a text, sign by sign -/
theorem el_lcS {σ : L2.St} {H : Hp} {te tl : TE} {j : Nat} {vs : List Nat} {w : Str} (f : Nat → Bool) (h : Ev tl σ H (.str w)) (hz : w.cps.size ≤ 40000) (hw : ∀ x, wipe ((wipe σ vs).set j (some x)) vs = wipe σ vs)
    (he : ∀ (c : Nat) H1, Ex H H1 → Ev te ((wipe σ vs).set j (some (.str ⟨#[c]⟩))) H1 (.bl (f c))) :
    EvL (tLc (iStr tl) (gName j) tYes te vs) σ H ((w.cps.toList.map f).map V.bl) := fun H0 e Q q => h H0 e _ fun H1 e1 => ⟨w, rfl, fun Dl hD =>
  lc_it (walk_str (z := w)) (fun i H' => H1 Dl = none ∧ Ex H1 H' ∧ H' Dl = some (.lst (((w.cps.toList.take i).map f).map V.bl))) ⟨hD, Ex.new hD, by rw [upd_same]; rfl⟩ (fun _ _ _ _ => trivial)
    (fun i x H' H'' hi p y => by
      obtain ⟨rfl, c, hc, rfl⟩ := y
      obtain ⟨p1, p2, p3⟩ := p
      refine ⟨hw _, ?_⟩
      refine he c H'' ((e.trans e1).trans p2) H'' (Ex.refl _) _ fun H4 e4 => ⟨_, e4 _ _ p3, sz_lt (by simp only [List.length_map, List.length_take]; omega), p1, Ex.mut (p2.trans e4) p1, ?_⟩
      rw [upd_same]
      have ht : w.cps.toList.take (i + 1) = w.cps.toList.take i ++ [c] := by
        rw [List.take_add_one]
        have hc' : w.cps.toList[i]? = some c := by rw [Array.getElem?_toList]; exact hc
        rw [hc']
        rfl
      rw [ht, List.map_append, List.map_append] <;> rfl)
    (fun H' p => by
      obtain ⟨p1, p2, p3⟩ := p
      refine q Dl H' (fresh_back e1 p1) (e1.trans p2) ?_
      rw [p3]
      have hl : w.cps.toList.take w.cps.size = w.cps.toList := List.take_of_length_le (by simp)
      rw [hl])⟩
end K10
set_option Elab.async false
set_option linter.all false
set_option maxRecDepth 100000
set_option maxHeartbeats 4000000
namespace K10
open PySem PySem.Spec PyProof.Rows L2 Evl
section
variable {P : Program} {w : World} {K : PySem.W.Frag} {mg : Str → Option Value} {base : Heap} {fd : Nat → FuncData}

def isI (v : V) : Bool := kI v && !kB v
def ge0 : V → Bool
  | .int i => decide (0 ≤ i)
  | _ => false
def isC (v : V) : Bool := isI v && ge0 v
def sgn : Str := "abcdefghijklmnopqrstuvwxyz0123456789"
def isN : V → Bool
  | .str x => decide (1 ≤ (x.length : Int)) && decide ((x.length : Int) ≤ 6) && (x.cps.toList.map fun c => decide (c ∈ sgn.cps.toList)).all id
  | _ => false
def spV1 (f : V → Bool) : Sp := fun vs H Q _ => ∃ v t, vs = [v] ∧ Ky H v t ∧ (∀ x, v = .str x → x.cps.size ≤ 100) ∧ RetV (.bl (f v)) H Q
theorem spV {f : V → Bool} {H : Hp} {v : V} {t : String} (k : Ky H v t) (hz : ∀ x, v = .str x → x.cps.size ≤ 100) : SpV (spV1 f) [v] H (.bl (f v)) := fun H1 e Q q E => ⟨v, t, rfl, k.ex e, hz, q⟩
theorem isI_int {H : Hp} {v : V} {t : String} (k : Ky H v t) (h : isI v = true) : ∃ i, v = .int i := by
  cases k with
  | int i => exact ⟨i, rfl⟩
  | _ => exact absurd h (by simp [isI, kI, kB])
theorem kS_str {v : V} (h : kS v = true) : ∃ x, v = .str x := by
  cases v with
  | str x => exact ⟨x, rfl⟩
  | _ => cases h
theorem isN_no {v : V} (h : kS v = false) : isN v = false := by
  cases v with
  | str x => cases h
  | _ => rfl
theorem isN_out {x : Str} (h : (decide (1 ≤ (x.length : Int)) && decide ((x.length : Int) ≤ 6)) = false) : isN (.str x) = false := by
  show (decide (1 ≤ (x.length : Int)) && decide ((x.length : Int) ≤ 6) && _) = false
  rw [h]
  rfl
theorem isN_in {x : Str} (h : (decide (1 ≤ (x.length : Int)) && decide ((x.length : Int) ≤ 6)) = true) : isN (.str x) = (x.cps.toList.map fun c => decide (c ∈ sgn.cps.toList)).all id := by
  show (decide (1 ≤ (x.length : Int)) && decide ((x.length : Int) ≤ 6) && _) = _
  rw [h]
  rfl
theorem z_in {w : Str} (h : w.cps.size ≤ 100) : w.length ≤ sizeLine := Nat.le_trans h (by rw [sizeLine_eq]; decide)
theorem scis_integer : FnScope ["value"] ["value"] (defScope (topS 3)) := ⟨rfl, rfl, rfl, by decide +kernel, rfl, by decide +kernel, by decide +kernel⟩
theorem okis_integer (T : Tx K mg fd) : FnOk P w K mg base CX0 1 (He.ga K "is_integer") (fd 0) ["value"] (spV1 isI) := by
  refine (T.df 0 3 "is_integer" rfl).ok scis_integer (fun vs H Q E h => ?len) (fun cdv A outer s H vs Q E hr h => ?body)
  case body =>
    refine ⟨_, (pss_one (ps_ret (pe_and (pe_callB call_isi (by rfl) (T.fr 23 "isinstance" rfl) (by decide +kernel) (pa_cons (pv 0) (pa_cons (pe_bltn (v := V.ty "int") (by rfl) (T.fr 24 "int" rfl) (by decide +kernel) rfl) pa_nil))) (pe_one (pe_not (pe_callB call_isi (by rfl) (T.fr 23 "isinstance" rfl) (by decide +kernel) (pa_cons (pv 0) (pa_cons (pe_bltn (v := V.ty "bool") (by rfl) (T.fr 25 "bool" rfl) (by decide +kernel) rfl) pa_nil)))))))), ?_⟩
    obtain ⟨v, t, rfl, k, hz, q⟩ := h
    refine s_ret (v := .bl (isI v)) ?_ fun H1 e => q.go e
    exact ev_andV (ev_isi (ev_var rfl) k k.int_ ev_c) fun _ => ev_notV (ev_isi (ev_var rfl) k k.bool_ ev_c)

  case len =>
    obtain ⟨v, t, rfl, _⟩ := h
    rfl
theorem kbis_integer {f' : Addr} {fd' : FuncData} (F : Fun K "is_integer" "is_integer" (topS 3) f' fd') : KBn K fd' ["value"] 0 ["value"] (fun us ws => us ++ ws) (fun vs zs => vs ++ zs) := by
  obtain ⟨⟨oc, od, kV, doc, pm, an, cdv, ct, osl, rfl, lk, hcd⟩, kp⟩ := F
  exact ⟨fun s us ws _ h1 h2 => match us, h1, ws, h2 with | [], _, [_], _ => .of_eq rfl, fun r r' => r.append r'⟩
theorem scis_count : FnScope ["value"] ["value"] (defScope (topS 4)) := ⟨rfl, rfl, rfl, by decide +kernel, rfl, by decide +kernel, by decide +kernel⟩
theorem okis_count (T : Tx K mg fd) : FnOk P w K mg base CX0 2 (He.ga K "is_count") (fd 1) ["value"] (spV1 isC) := by
  refine (T.df 1 4 "is_count" rfl).ok scis_count (fun vs H Q E h => ?len) (fun cdv A outer s H vs Q E hr h => ?body)
  case body =>
    refine ⟨_, (pss_one (ps_ret (pe_and (pe_call (okis_integer T) (hr.mono (by decide)) (by rfl) (T.gl 2 "is_integer" rfl) (T.df 0 3 "is_integer" rfl).kp ((T.df 0 3 "is_integer" rfl).binds (ps := ["value"]) fun _ _ _ _ _ _ us hl => match us, hl with | [_], _ => rfl) .nil pass0 (pa_cons (pv 0) pa_nil)) (pe_one (pe_cmpR op_ge (pv 0) pe_int (nomark _)))))), ?_⟩
    obtain ⟨v, t, rfl, k, hz, q⟩ := h
    refine s_ret (v := .bl (isC v)) ?_ fun H1 e => q.go e
    refine ev_andV (ev_call0 (ea_cons (ev_var rfl) ea_nil) (spV k hz)) fun hb => ?_
    obtain ⟨i, rfl⟩ := isI_int k hb
    exact ev_op (ev_var rfl) ev_c rv_I0

  case len =>
    obtain ⟨v, t, rfl, _⟩ := h
    rfl
theorem kbis_count {f' : Addr} {fd' : FuncData} (F : Fun K "is_count" "is_count" (topS 4) f' fd') : KBn K fd' ["value"] 0 ["value"] (fun us ws => us ++ ws) (fun vs zs => vs ++ zs) := by
  obtain ⟨⟨oc, od, kV, doc, pm, an, cdv, ct, osl, rfl, lk, hcd⟩, kp⟩ := F
  exact ⟨fun s us ws _ h1 h2 => match us, h1, ws, h2 with | [], _, [_], _ => .of_eq rfl, fun r r' => r.append r'⟩
theorem scis_name : FnScope ["value", "sign"] ["value"] (defScope (topS 5)) := ⟨rfl, rfl, rfl, by decide +kernel, rfl, by decide +kernel, by decide +kernel⟩
theorem okis_name (T : Tx K mg fd) : FnOk P w K mg base CX0 1 (He.ga K "is_name") (fd 2) ["value"] (spV1 isN) := by
  obtain ⟨tL, hL⟩ := T.long
  obtain ⟨tS, hS⟩ := T.signs
  refine (T.df 2 5 "is_name" rfl).ok scis_name (fun vs H Q E h => ?len) (fun cdv A outer s H vs Q E hr h => ?body)
  case body =>
    refine ⟨_, (pss_cons (ps_if (PW.pt (pw_or (pt_not (pt_val (pe_callB call_isi (by rfl) (T.fr 23 "isinstance" rfl) (by decide +kernel) (pa_cons (pv 0) (pa_cons (pe_bltn (v := V.ty "str") (by rfl) (T.fr 26 "str" rfl) (by decide +kernel) rfl) pa_nil))))) (pw_or1 (pt_not (pt_chain op_le op_le pe_int (pe_callB call_len (by rfl) (T.fr 27 "len" rfl) (by decide +kernel) (pa_cons (pv 0) pa_nil)) (pe_glob (v := V.int 6) (by rfl) hL ⟨_, rfl⟩)))))) (pss_one (ps_ret pe_bl)) pss_nil) (pss_one (ps_ret (pe_callB (cr_all rfl) (by rfl) (T.fr 28 "all" rfl) (by decide +kernel) (pa_cons (pe_lc (own := [("sign", 1)]) (g := gName 1) rfl scis_name.nd (pi_str (pv 0)) (blkOk_by (N := ["value", "sign"]) (sc := (defScope (topS 5))) (own := [("sign", 1)]) (by decide +kernel)) (fun _ _ _ _ _ => (pg_name (i := 1) scis_name.nd rfl (Or.inl rfl))) (fun _ _ _ _ _ => pts_nil) (fun _ _ _ _ _ => (pe_cmpR op_in_sign (pv 1) (pe_glob (v := V.str sgn) (by rfl) hS ⟨_, rfl⟩) rfl))) pa_nil))))), ?_⟩
    obtain ⟨v, t, rfl, k, hz, q⟩ := h
    cases hk : kS v with
    | false =>
      refine q_when (b := true) ?_ (fun _ H1 e => s_ret ev_c fun H2 e2 => ?_) (fun z => nomatch z)
      · refine et_is (a := (!kS v) || false) (et_or (b := false) (et_not (et_B (ev_isi (ev_var rfl) k k.str_ ev_c))) (fun h => ?_)) (by rw [hk]; rfl)
        rw [hk] at h
        cases h
      · have g := q H2 (e.trans e2)
        rw [isN_no hk] at g
        exact g
    | true =>
      obtain ⟨x, rfl⟩ := kS_str hk
      have hzx := hz x rfl
      refine q_when (b := !(decide (1 ≤ (x.length : Int)) && decide ((x.length : Int) ≤ 6))) ?_ (fun hb H1 e => s_ret ev_c fun H2 e2 => ?_) (fun hb H1 e => ?_)
      · refine et_or (a := false) (b := !(decide (1 ≤ (x.length : Int)) && decide ((x.length : Int) ≤ 6))) (et_not (a := true) (et_B (ev_isi (ev_var rfl) k k.str_ ev_c))) (fun _ => et_not ?_)
        exact et_chain ev_c (ev_lenX (ev_var rfl) fun H1 _ Q q => ⟨_, _, rfl, ⟨z_in hzx, rfl⟩, q⟩) ev_c rv_I0 rv_I0
      · have g := q H2 (e.trans e2)
        have e0 : isN (.str x) = false := isN_out (by cases hc : (decide (1 ≤ (x.length : Int)) && decide ((x.length : Int) ≤ 6)) with
          | true => rw [hc] at hb; cases hb
          | false => rfl)
        rw [e0] at g
        exact g
      · refine s_ret (v := .bl (isN (.str x))) ?_ fun H2 e2 => q.go (e.trans e2)
        have e0 : isN (.str x) = (x.cps.toList.map fun c => decide (c ∈ sgn.cps.toList)).all id := isN_in (by cases hc : (decide (1 ≤ (x.length : Int)) && decide ((x.length : Int) ≤ 6)) with
          | true => rfl
          | false => rw [hc] at hb; cases hb)
        rw [e0]
        exact ev_all (el_lcS _ (ev_var rfl) (Nat.le_trans hzx (by decide)) (fun _ => rfl) fun c H1 _ => ev_op (ev_var rfl) ev_c fun H2 _ Q q => ⟨c, sgn, rfl, rfl, q H2 (Ex.refl _)⟩)

  case len =>
    obtain ⟨v, t, rfl, _⟩ := h
    rfl
theorem kbis_name {f' : Addr} {fd' : FuncData} (F : Fun K "is_name" "is_name" (topS 5) f' fd') : KBn K fd' ["value"] 0 ["value"] (fun us ws => us ++ ws) (fun vs zs => vs ++ zs) := by
  obtain ⟨⟨oc, od, kV, doc, pm, an, cdv, ct, osl, rfl, lk, hcd⟩, kp⟩ := F
  exact ⟨fun s us ws _ h1 h2 => match us, h1, ws, h2 with | [], _, [_], _ => .of_eq rfl, fun r r' => r.append r'⟩
end
end K10
set_option Elab.async false
set_option linter.all false
set_option maxRecDepth 100000
set_option maxHeartbeats 4000000
namespace K10
open PySem PySem.Spec PyProof.Rows L2 Evl
section
variable {P : Program} {w : World} {K : PySem.W.Frag} {mg : Str → Option Value} {base : Heap} {fd : Nat → FuncData}

theorem isN_law (x : Str) : (decide (V.str x = V.str (Str.ofString "")) || decide ((6 : Int) < (x.length : Int))) = !(decide (1 ≤ (x.length : Int)) && decide ((x.length : Int) ≤ 6)) := by
  have e0 : decide (V.str x = V.str (Str.ofString "")) = !decide (1 ≤ (x.length : Int)) := by
    rw [Bool.eq_iff_iff]
    simp only [decide_eq_true_eq, Bool.not_eq_true', decide_eq_false_iff_not]
    constructor
    · intro h
      cases h
      decide
    · intro h
      have h0 : x.cps.size = 0 := by
        have : x.length = x.cps.size := rfl
        omega
      obtain ⟨c⟩ := x
      have hc : c = #[] := Array.size_eq_zero_iff.mp h0
      subst hc
      rfl
  have e1 : decide ((6 : Int) < (x.length : Int)) = !decide ((x.length : Int) ≤ 6) := by
    rw [Bool.eq_iff_iff]
    simp only [decide_eq_true_eq, Bool.not_eq_true', decide_eq_false_iff_not]
    omega
  rw [e0, e1, Bool.not_and]
theorem sc_law_is_name : FnScope ["_law_value_there", "_law_signs", "_law_sign"] ["_law_value_there"] (defScope (topS 45)) := ⟨rfl, rfl, rfl, by decide +kernel, rfl, by decide +kernel, by decide +kernel⟩
theorem ok_law_is_name (T : Tx K mg fd) : FnOk P w K mg base CX0 1 (He.ga K "_law_is_name") (fd 7) ["_law_value_there"] (spV1 isN) := by
  refine (T.df 7 45 "_law_is_name" rfl).ok sc_law_is_name (fun vs H Q E h => ?len) (fun cdv A outer s H vs Q E hr h => ?body)
  case body =>
    refine ⟨_, (pss_cons (ps_if (PW.pt (pw_or (pt_not (pt_val (pe_callB call_isi (by rfl) (T.fr 23 "isinstance" rfl) (by decide +kernel) (pa_cons (pv 0) (pa_cons (pe_bltn (v := V.ty "str") (by rfl) (T.fr 26 "str" rfl) (by decide +kernel) rfl) pa_nil))))) (pw_or (pt_cmpR op_eq (pv 0) pe_str (nomark _)) (pw_or1 (pt_cmpR op_gt (pe_callB call_len (by rfl) (T.fr 27 "len" rfl) (by decide +kernel) (pa_cons (pv 0) pa_nil)) pe_int (nomark _)))))) (pss_one (ps_ret pe_bl)) pss_nil) (pss_cons (ps_set (i := 1) sc_law_is_name.nd rfl (Or.inr rfl) pe_str) (pss_one (ps_ret (pe_callB (cr_all rfl) (by rfl) (T.fr 28 "all" rfl) (by decide +kernel) (pa_cons (pe_lc (own := [("_law_sign", 2)]) (g := gName 2) rfl sc_law_is_name.nd (pi_str (pv 0)) (blkOk_by (N := ["_law_value_there", "_law_signs", "_law_sign"]) (sc := (defScope (topS 45))) (own := [("_law_sign", 2)]) (by decide +kernel)) (fun _ _ _ _ _ => (pg_name (i := 2) sc_law_is_name.nd rfl (Or.inl rfl))) (fun _ _ _ _ _ => pts_nil) (fun _ _ _ _ _ => (pe_cmpR op_in_sign (pv 2) (pv 1) rfl))) pa_nil)))))), ?_⟩
    obtain ⟨v, t, rfl, k, hz, q⟩ := h
    cases hk : kS v with
    | false =>
      refine q_when (b := true) ?_ (fun _ H1 e => s_ret ev_c fun H2 e2 => ?_) (fun z => nomatch z)
      · refine et_is (a := (!kS v) || false) (et_or (b := false) (et_not (et_B (ev_isi (ev_var rfl) k k.str_ ev_c))) (fun h => ?_)) (by rw [hk]; rfl)
        rw [hk] at h
        cases h
      · have g := q H2 (e.trans e2)
        rw [isN_no hk] at g
        exact g
    | true =>
      obtain ⟨x, rfl⟩ := kS_str hk
      have hzx := hz x rfl
      refine q_when (b := !(decide (1 ≤ (x.length : Int)) && decide ((x.length : Int) ≤ 6))) ?_ (fun hb H1 e => s_ret ev_c fun H2 e2 => ?_) (fun hb H1 e => ?_)
      · rw [← isN_law x]
        refine et_or (a := false) (b := decide (V.str x = V.str (Str.ofString "")) || decide ((6 : Int) < (x.length : Int))) (et_not (a := true) (et_B (ev_isi (ev_var rfl) k k.str_ ev_c))) (fun _ => et_or ?_ fun _ => ?_)
        · exact et_test (ev_op (ev_var rfl) ev_c (rv_eq rfl))
        · exact et_test (ev_op (ev_lenX (ev_var rfl) fun H1 _ Q q => ⟨_, _, rfl, ⟨z_in hzx, rfl⟩, q⟩) ev_c rv_I0)
      · have g := q H2 (e.trans e2)
        have e0 : isN (.str x) = false := isN_out (by cases hc : (decide (1 ≤ (x.length : Int)) && decide ((x.length : Int) ≤ 6)) with
          | true => rw [hc] at hb; cases hb
          | false => rfl)
        rw [e0] at g
        exact g
      · refine q_asg ev_c fun H2 e2 => ?_
        refine s_ret (v := .bl (isN (.str x))) ?_ fun H3 e3 => q.go ((e.trans e2).trans e3)
        have e0 : isN (.str x) = (x.cps.toList.map fun c => decide (c ∈ sgn.cps.toList)).all id := isN_in (by cases hc : (decide (1 ≤ (x.length : Int)) && decide ((x.length : Int) ≤ 6)) with
          | true => rfl
          | false => rw [hc] at hb; cases hb)
        rw [e0]
        exact ev_all (el_lcS _ (ev_var rfl) (Nat.le_trans hzx (by decide)) (fun _ => rfl) fun c H1 _ => ev_op (ev_var rfl) (ev_var rfl) fun H2 _ Q q => ⟨c, sgn, rfl, rfl, q H2 (Ex.refl _)⟩)

  case len =>
    obtain ⟨v, t, rfl, _⟩ := h
    rfl

theorem ev_int1 {σ : L2.St} {H : Hp} {te : TE} {i : Int} (h : Ev te σ H (.int i)) : Ev (tCB (fun xs H Q => (∃ i, xs = [.int i] ∧ Q (V.int i) H) ∨ ∃ k, xs = [.bl k] ∧ Q (V.int (if k = true then 1 else 0)) H) (tCons te tNil)) σ H (.int i) := fun H1 e Q q =>
  h H1 e _ fun H2 e2 => .inl ⟨i, rfl, q H2 e2⟩
theorem ev_absI {σ : L2.St} {H : Hp} {te : TE} {i : Int} (h : Ev te σ H (.int i)) : Ev (tCB (fun xs H Q => ∃ i, xs = [.int i] ∧ Q (V.int (if i < 0 then -i else i)) H) (tCons te tNil)) σ H (.int (if i < 0 then -i else i)) := fun H1 e Q q =>
  h H1 e _ fun H2 e2 => ⟨i, rfl, q H2 e2⟩
theorem ev_maxI {σ : L2.St} {H : Hp} {ta tb : TE} {i j : Int} (ha : Ev ta σ H (.int i)) (hb : Ev tb σ H (.int j)) : Ev (tCB (fun xs H Q => ∃ i j, xs = [.int i, .int j] ∧ Q (V.int (if j > i then j else i)) H) (tCons ta (tCons tb tNil))) σ H (.int (if j > i then j else i)) := fun H1 e Q q =>
  ha H1 e _ fun H2 e2 => hb H2 (e.trans e2) _ fun H3 e3 => ⟨i, j, rfl, q H3 (e2.trans e3)⟩
theorem ev_minI {σ : L2.St} {H : Hp} {ta tb : TE} {i j : Int} (ha : Ev ta σ H (.int i)) (hb : Ev tb σ H (.int j)) : Ev (tCB (fun xs H Q => ∃ i j, xs = [.int i, .int j] ∧ Q (V.int (if j < i then j else i)) H) (tCons ta (tCons tb tNil))) σ H (.int (if j < i then j else i)) := fun H1 e Q q =>
  ha H1 e _ fun H2 e2 => hb H2 (e.trans e2) _ fun H3 e3 => ⟨i, j, rfl, q H3 (e2.trans e3)⟩
/-- the pot: a list of two ints -/
structure Pot (H : Hp) (p : Addr) : Prop where
  at_ : ∃ x y : Int, H p = some (.lst [.int x, .int y]) ∧ 0 ≤ x ∧ 0 ≤ y ∧ y < 2147483648
/-- all but what stands at p -/
def rem (p : Addr) (H : Hp) : Hp := fun b => if b = p then none else H b
theorem rem_ex {p : Addr} {H : Hp} : Ex (rem p H) H := fun b o h => by
  unfold rem at h
  split at h
  · cases h
  · exact h
theorem rem_mono {p : Addr} {H H' : Hp} (e : Ex H H') : Ex (rem p H) (rem p H') := fun b o h => by
  unfold rem at h ⊢
  split at h
  · cases h
  · rename_i hb
    rw [if_neg hb]
    exact e b o h
theorem rem_upd {p : Addr} {H : Hp} {o : HO} : Ex (rem p H) (rem p (upd H p o)) := fun b u h => by
  unfold rem at h ⊢
  split at h
  · cases h
  · rename_i hb
    rw [if_neg hb, upd_ne hb]
    exact h
/-- what is laid at a new place -/
theorem rem_at {p q : Addr} {H : Hp} {o : HO} (h : H q = some o) (hq : q ≠ p) : rem p H q = some o := by
  unfold rem
  rw [if_neg hq]
  exact h
theorem ne_pot {p q : Addr} {H : Hp} {o : HO} (hp : H p = some o) (hq : H q = none) : q ≠ p := by
  intro z
  subst z
  rw [hp] at hq
  cases hq
def spPot (K : PySem.W.Frag) : Sp := fun vs H Q _ => ∃ (a : Addr) (ns : List Int) (j : Nat), vs = [.ref a, .int (j : Int)] ∧ SqL K H a (ns.map V.int) ∧ ns.length ≤ 1000 ∧ j ≤ 3 ∧ ∀ p H', H p = none → Ex H H' → Pot H' p → Q (.ref p) H'
def spDraw : Sp := fun vs H Q _ => ∃ (p : Addr) (m : Int), vs = [.ref p, .int m] ∧ Pot H p ∧ 0 < m ∧ m ≤ 1000000000 ∧ ∀ (d : Int) H', Ex (rem p H) (rem p H') → Pot H' p → 0 ≤ d → d < m → Q (.int d) H'
def spPick (K : PySem.W.Frag) : Sp := fun vs H Q _ => ∃ (p a : Addr) (xs : List V), vs = [.ref p, .ref a] ∧ Pot H p ∧ rem p H a = some (.lst xs) ∧ 0 < xs.length ∧ xs.length ≤ 1000 ∧ ∀ x H', x ∈ xs → Ex (rem p H) (rem p H') → Pot H' p → Q x H'
theorem sc_law_pot : FnScope ["_law_script", "_law_k", "_law_taken"] ["_law_script", "_law_k"] (defScope (topS 40)) := ⟨rfl, rfl, rfl, by decide +kernel, rfl, by decide +kernel, by decide +kernel⟩
theorem ok_law_pot (T : Tx K mg fd) : FnOk P w K mg base CX0 1 (He.ga K "_law_pot") (fd 3) ["_law_script", "_law_k"] (spPot K) := by
  refine (T.df 3 40 "_law_pot" rfl).ok sc_law_pot (fun vs H Q E h => ?len) (fun cdv A outer s H vs Q E hr h => ?body)
  case body =>
    refine ⟨_, (pss_cons (ps_set (i := 2) sc_law_pot.nd rfl (Or.inl rfl) (pe_op op_add (pe_op op_mulW pe_int (pv 1)) pe_int)) (pss_cons (ps_if (pt_cmpR op_lt (pv 1) (pe_callB call_len (by rfl) (T.fr 27 "len" rfl) (by decide +kernel) (pa_cons (pv 0) pa_nil)) (nomark _)) (pss_one (ps_set (i := 2) sc_law_pot.nd rfl (Or.inl rfl) (pe_callB call_abs (by rfl) (T.fr 33 "abs" rfl) (by decide +kernel) (pa_cons (pe_ix ix_list (pv 0) (pv 1) (fun _ _ => rfl)) pa_nil)))) pss_nil) (pss_one (ps_ret (pe_lst (pa_cons (pe_callB (call_max2 rfl) (by rfl) (T.fr 31 "max" rfl) (by decide +kernel) (pa_cons pe_int (pa_cons (pe_op op_sub (pv 2) (pe_op op_pow pe_int pe_int)) pa_nil))) (pa_cons (pe_op op_add (pe_op op_mod (pe_op op_mulW (pe_callTy call_int1 (by rfl) (T.fr 24 "int" rfl) (by decide +kernel) (pa_cons (pe_op op_add (pe_op op_mod (pe_callTy call_int1 (by rfl) (T.fr 24 "int" rfl) (by decide +kernel) (pa_cons (pv 2) pa_nil)) pe_int) pe_int) pa_nil)) (pe_op op_pow (pe_op op_add (pe_op op_mulW pe_int (pv 1)) pe_int) pe_int)) pe_int) pe_int) pa_nil))))))), ?_⟩
    obtain ⟨a, ns, j, rfl, hS, hl, hj, q⟩ := h
    refine q_asg (v := .int (23 * (j : Int) + 17)) (ev_op (ev_op ev_c (ev_var rfl) (rv_I (wide_mul (a := 10) (b := 10) (by decide) (by omega) (by decide) (by decide) (by decide)))) ev_c rv_I0) fun H1 e1 => ?_
    have ev0 : ∃ tk : Int, 0 ≤ tk ∧ (decide ((j : Int) < (ns.length : Int)) = true → ∃ i, ns[j]? = some i ∧ tk = if i < 0 then -i else i) ∧ (decide ((j : Int) < (ns.length : Int)) = false → tk = 23 * (j : Int) + 17) := by
      by_cases hlt : (j : Int) < (ns.length : Int)
      · have hlt' : j < ns.length := by omega
        refine ⟨if ns[j] < 0 then -ns[j] else ns[j], by split <;> omega, fun _ => ⟨ns[j], by simp [hlt'], rfl⟩, fun z => ?_⟩
        rw [decide_eq_true hlt] at z
        cases z
      · exact ⟨23 * (j : Int) + 17, by omega, fun z => absurd (of_decide_eq_true z) hlt, fun _ => rfl⟩
    obtain ⟨tk, tk0, tk1, tk2⟩ := ev0
    refine q_ifAsg (v := .int tk) (b := decide ((j : Int) < (ns.length : Int))) (et_test (ev_op (ev_var rfl) (ev_lenX (ev_var rfl) fun H2 e2 Q q => ⟨_, _, rfl, .inl ⟨_, ex_l (e1.trans e2) hS, by rw [List.length_map]⟩, q⟩) rv_I0)) (fun hb => ?_) (fun hb => ?_) (fun H2 e2 => ?_)
    · obtain ⟨i, hi, et⟩ := tk1 hb
      rw [et]
      exact ev_absI (ev_op (ev_var rfl) (ev_var rfl) (rv_ixL (ex_l e1 hS) (atI_nat (by rw [List.getElem?_map, hi] <;> rfl))))
    · rw [tk2 hb]
      rfl
    · have m1 := Int.emod_nonneg tk (show (2147483497 : Int) ≠ 0 by decide)
      have m2 := Int.emod_lt_of_pos tk (show (0 : Int) < 2147483497 by decide)
      have mb : ((2 * (j : Int) + 5) ^ (3 : Int).toNat).natAbs < 2 ^ 40 := by
        have : j = 0 ∨ j = 1 ∨ j = 2 ∨ j = 3 := by omega
        rcases this with rfl | rfl | rfl | rfl <;> decide
      refine s_retL (el_lst (ea_cons (ev_maxI ev_c (ev_op (ev_var rfl) (ev_op ev_c ev_c (rv_I ⟨by decide, by decide, by decide⟩)) rv_I0)) (ea_cons (ev_op (ev_op (ev_op (ev_int1 (ev_op (ev_op (ev_int1 (ev_var rfl)) ev_c (rv_I (by decide))) ev_c rv_I0)) (ev_op (ev_op (ev_op ev_c (ev_var rfl) (rv_I (wide_mul (a := 10) (b := 10) (by decide) (by omega) (by decide) (by decide) (by decide)))) ev_c rv_I0) ev_c (rv_I ⟨by decide, by decide, by omega⟩)) (rv_I (wide_mul (a := 40) (b := 40) (by omega) mb (by decide) (by decide) (by decide)))) ev_c (rv_I (by decide))) ev_c rv_I0) ea_nil)) (by show 2 ≤ 100000; decide)) fun p H3 hp e3 h3 => ?_
      refine q p H3 (fresh_back (e1.trans e2) hp) ((e1.trans e2).trans e3) ⟨_, _, h3, ?_, ?_, ?_⟩
      · split <;> omega
      · have := Int.emod_nonneg ((tk % 2147483497 + 31) * (2 * (j : Int) + 5) ^ (3 : Int).toNat) (show (2147483543 : Int) ≠ 0 by decide)
        omega
      · have := Int.emod_lt_of_pos ((tk % 2147483497 + 31) * (2 * (j : Int) + 5) ^ (3 : Int).toNat) (show (0 : Int) < 2147483543 by decide)
        omega

  case len =>
    obtain ⟨a, ns, j, rfl, _⟩ := h
    rfl
theorem sc_law_draw : FnScope ["_law_pot_here", "_law_many", "_law_digit"] ["_law_pot_here", "_law_many"] (defScope (topS 41)) := ⟨rfl, rfl, rfl, by decide +kernel, rfl, by decide +kernel, by decide +kernel⟩
theorem ok_law_draw (T : Tx K mg fd) : FnOk P w K mg base CX0 1 (He.ga K "_law_draw") (fd 4) ["_law_pot_here", "_law_many"] spDraw := by
  refine (T.df 4 41 "_law_draw" rfl).ok sc_law_draw (fun vs H Q E h => ?len) (fun cdv A outer s H vs Q E hr h => ?body)
  case body =>
    refine ⟨_, (pss_cons (ps_if (pt_cmpR op_gt (pe_ix ix_list (pv 0) pe_int (fun _ _ => rfl)) pe_int (nomark _)) (pss_cons (ps_asg (pe_callB call_divmod (by rfl) (T.fr 34 "divmod" rfl) (by decide +kernel) (pa_cons (pe_ix ix_list (pv 0) pe_int (fun _ _ => rfl)) (pa_cons (pv 1) pa_nil))) (pg_tup rfl (pgs_cons (pg_sub (pv 0) pe_int set_list) (pgs_cons (pg_name (i := 2) sc_law_draw.nd rfl (Or.inl rfl)) pgs_nil)))) (pss_one (ps_ret (pv 2)))) pss_nil) (pss_cons (ps_asg (pe_op op_mod (pe_callTy call_int1 (by rfl) (T.fr 24 "int" rfl) (by decide +kernel) (pa_cons (pe_op op_add (pe_op op_mulW (pe_ix ix_list (pv 0) pe_int (fun _ _ => rfl)) pe_int) pe_int) pa_nil)) pe_int) (pg_sub (pv 0) pe_int set_list)) (pss_one (ps_ret (pe_op op_mod (pe_callTy call_int1 (by rfl) (T.fr 24 "int" rfl) (by decide +kernel) (pa_cons (pe_op op_fdiv (pe_op op_mod (pe_callTy call_int1 (by rfl) (T.fr 24 "int" rfl) (by decide +kernel) (pa_cons (pe_op op_mulW (pe_ix ix_list (pv 0) pe_int (fun _ _ => rfl)) (pe_ix ix_list (pv 0) pe_int (fun _ _ => rfl))) pa_nil)) pe_int) pe_int) pa_nil)) (pv 1)))))), ?_⟩
    obtain ⟨p, m, rfl, ⟨x, y, hp, x0, y0, y1⟩, m0, m1, q⟩ := h
    refine q_when (b := decide ((0 : Int) < x)) (et_test (ev_op (ev_op (ev_var rfl) ev_c (rv_ixL (sq_of hp) (atI_nat (j := 0) rfl))) ev_c rv_I0)) (fun hb H1 e1 => ?_) (fun hb H1 e1 => ?_)
    · have hp1 := e1 p _ hp
      refine ⟨_, rfl, p, [.int x, .int y], 0, .int x, rfl, rfl, sq_of hp1, atI_nat (j := 0) rfl, _, rfl, x, m, rfl, ⟨m0, by omega⟩, fun t ht => ?_⟩
      have hpt : p ≠ t := (ne_pot hp1 ht).symm
      refine ⟨t, [.int (x / m), .int (x % m)], rfl, st_of upd_same, rfl, _, _, rfl, _, rfl, p, [.int x, .int y], 0, 0, rfl, rfl, by rw [upd_ne hpt]; exact hp1, rfl, _, _, rfl, rfl, ?_⟩
      refine s_ret (v := .int (x % m)) (ev_var rfl) fun H2 e2 => ?_
      refine q (x % m) H2 ?_ ?_ (Int.emod_nonneg _ (by omega)) (Int.emod_lt_of_pos _ m0)
      · exact (((rem_mono e1).trans (rem_mono (Ex.new ht))).trans rem_upd).trans (rem_mono e2)
      · exact ⟨x / m, y, e2 p _ upd_same, Int.ediv_nonneg x0 (by omega), y0, y1⟩
    · have hp1 := e1 p _ hp
      have c1 := Int.emod_nonneg (y * 40009 + 15013) (show (2147483629 : Int) ≠ 0 by decide)
      have c2 := Int.emod_lt_of_pos (y * 40009 + 15013) (show (0 : Int) < 2147483629 by decide)
      refine q_setL (j := 1) hp1 (ev_op (ev_int1 (ev_op (ev_op (ev_op (ev_var rfl) ev_c (rv_ixL (sq_of hp1) (atI_nat (j := 1) rfl))) ev_c (rv_I (wide_mul (a := 40) (b := 40) (by omega) (by decide) (by decide) (by decide) (by decide)))) ev_c rv_I0)) ev_c (rv_I (by decide))) (ev_var rfl) ev_c (by show 1 < 2; decide) fun H2 e2 => ?_
      have hp2 : (upd H2 p (.lst [.int x, .int ((y * 40009 + 15013) % 2147483629)])) p = some (.lst [.int x, .int ((y * 40009 + 15013) % 2147483629)]) := upd_same
      refine s_ret (ev_op (ev_int1 (ev_op (ev_op (ev_int1 (ev_op (ev_op (ev_var rfl) ev_c (rv_ixL (sq_of hp2) (atI_nat (j := 1) rfl))) (ev_op (ev_var rfl) ev_c (rv_ixL (sq_of hp2) (atI_nat (j := 1) rfl))) (rv_I (wide_mul (a := 40) (b := 40) (by omega) (by omega) (by decide) (by decide) (by decide))))) ev_c (rv_I (by decide))) ev_c (rv_I ⟨by decide, by decide⟩))) (ev_var rfl) (rv_I m0)) fun H3 e3 => ?_
      refine q _ H3 ?_ ⟨x, _, e3 p _ hp2, x0, c1, by omega⟩ (Int.emod_nonneg _ (by omega)) (Int.emod_lt_of_pos _ m0)
      exact ((rem_mono (e1.trans e2)).trans rem_upd).trans (rem_mono e3)

  case len =>
    obtain ⟨p, m, rfl, _⟩ := h
    rfl
theorem sc_law_pick : FnScope ["_law_pot_here", "_law_some_here"] ["_law_pot_here", "_law_some_here"] (defScope (topS 42)) := ⟨rfl, rfl, rfl, by decide +kernel, rfl, by decide +kernel, by decide +kernel⟩
theorem ok_law_pick (T : Tx K mg fd) : FnOk P w K mg base CX0 2 (He.ga K "_law_pick") (fd 5) ["_law_pot_here", "_law_some_here"] (spPick K) := by
  refine (T.df 5 42 "_law_pick" rfl).ok sc_law_pick (fun vs H Q E h => ?len) (fun cdv A outer s H vs Q E hr h => ?body)
  case body =>
    refine ⟨_, (pss_one (ps_ret (pe_ix ix_list (pv 1) (pe_call (ok_law_draw T) (hr.mono (by decide)) (by rfl) (T.gl 6 "_law_draw" rfl) (T.df 4 41 "_law_draw" rfl).kp ((T.df 4 41 "_law_draw" rfl).binds (ps := ["_law_pot_here", "_law_many"]) fun _ _ _ _ _ _ us hl => match us, hl with | [_, _], _ => rfl) .nil pass0 (pa_cons (pv 0) (pa_cons (pe_callB call_len (by rfl) (T.fr 27 "len" rfl) (by decide +kernel) (pa_cons (pv 1) pa_nil)) pa_nil))) (fun _ _ => rfl)))), ?_⟩
    obtain ⟨p, a, xs, rfl, hp, hs, l0, l1, q⟩ := h
    have hs' : SqL K H a xs := sq_of (rem_ex a _ hs)
    refine ⟨_, rfl, _, rfl, _, rfl, _, _, rfl, .inl ⟨_, hs', rfl⟩, p, _, rfl, hp, by omega, by omega, fun d H' e hp' d0 d1 => ?_⟩
    obtain ⟨j, rfl⟩ := Int.eq_ofNat_of_zero_le d0
    have hj : j < xs.length := by omega
    exact ⟨a, xs, (j : Int), xs[j], rfl, rfl, sq_of (rem_ex a _ (e a _ hs)), atI_nat (by simp [hj]), q _ _ (List.getElem_mem hj) e hp'⟩

  case len =>
    obtain ⟨p, a, xs, rfl, _⟩ := h
    rfl
end
end K10
set_option Elab.async false
set_option linter.all false
set_option maxRecDepth 100000
set_option maxHeartbeats 4000000
namespace K10
open PySem PySem.Spec PyProof.Rows L2 Evl
section
variable {P : Program} {w : World} {K : PySem.W.Frag} {mg : Str → Option Value} {base : Heap} {fd : Nat → FuncData}
end
/-! ### values told by words that stay under more heap -/
structure MP where
  p : V → Hp → Prop
  m : ∀ {v : V} {H H' : Hp}, Ex H H' → p v H → p v H'
def AllP : List MP → List V → Hp → Prop
  | [], [], _ => True
  | P :: Ps, v :: vs, H => P.p v H ∧ AllP Ps vs H
  | _, _, _ => False
theorem AllP.mono {H H' : Hp} (e : Ex H H') : ∀ {Ps : List MP} {vs : List V}, AllP Ps vs H → AllP Ps vs H'
  | [], [], _ => trivial
  | P :: Ps, v :: vs, h => ⟨P.m e h.1, AllP.mono e h.2⟩
  | [], _ :: _, h => h.elim
  | _ :: _, [], h => h.elim
theorem AllP.app {H : Hp} {Qs : List MP} {ws : List V} : ∀ {Ps : List MP} {vs : List V}, AllP Ps vs H → AllP Qs ws H → AllP (Ps ++ Qs) (vs ++ ws) H
  | [], [], _, h2 => h2
  | _ :: _, _ :: _, h, h2 => ⟨h.1, AllP.app h.2 h2⟩
  | [], _ :: _, h, _ => h.elim
  | _ :: _, [], h, _ => h.elim
theorem AllP.len {H : Hp} : ∀ {Ps : List MP} {vs : List V}, AllP Ps vs H → vs.length = Ps.length
  | [], [], _ => rfl
  | _ :: _, _ :: _, h => by rw [List.length_cons, List.length_cons, AllP.len h.2]
  | [], _ :: _, h => h.elim
  | _ :: _, [], h => h.elim
theorem AllP.at_ {H : Hp} : ∀ {Ps : List MP} {vs : List V} {i : Nat} {P : MP} {v : V}, AllP Ps vs H → Ps[i]? = some P → vs[i]? = some v → P.p v H
  | [], [], _, _, _, _, h1, _ => by cases h1
  | _ :: _, _ :: _, 0, _, _, h, h1, h2 => by
    cases h1
    cases h2
    exact h.1
  | _ :: _, _ :: _, i + 1, _, _, h, h1, h2 => AllP.at_ (i := i) h.2 h1 h2
  | [], _ :: _, _, _, _, h, _, _ => h.elim
  | _ :: _, [], _, _, _, h, _, _ => h.elim
theorem AllP.rep {H : Hp} {P : MP} : ∀ {n : Nat} {vs : List V}, AllP (List.replicate n P) vs H → ∀ v ∈ vs, P.p v H
  | 0, [], _ => fun v z => nomatch z
  | n + 1, v :: vs, h => fun u hu => by
    rcases List.mem_cons.mp hu with rfl | z
    · exact h.1
    · exact AllP.rep (n := n) h.2 u z
  | 0, _ :: _, h => h.elim
  | _ + 1, [], h => h.elim
def EvP (te : TE) (σ : L2.St) (H : Hp) (P : MP) : Prop := ∀ H1, Ex H H1 → ∀ Q : VK, (∀ v H2, Ex H1 H2 → P.p v H2 → Q v H2) → te σ H1 Q
def EvAP (ta : TA) (σ : L2.St) (H : Hp) (Ps : List MP) : Prop := ∀ H1, Ex H H1 → ∀ Q : List V → Hp → Prop, (∀ vs H2, Ex H1 H2 → AllP Ps vs H2 → Q vs H2) → ta σ H1 Q
def EvLP (te : TE) (σ : L2.St) (H : Hp) (Ps : List MP) : Prop := ∀ H1, Ex H H1 → ∀ Q : VK, (∀ vs p H2, H1 p = none → Ex H1 H2 → AllP Ps vs H2 → H2 p = some (.lst vs) → Q (.ref p) H2) → te σ H1 Q
section
variable {K : PySem.W.Frag} {σ : L2.St} {H H' : Hp} {ta tb te tx tl : TE} {tr : TA} {x y z v : V} {P : MP} {Ps Qs : List MP} {a C dx : Addr} {f : Str}
theorem eap_nil : EvAP tNil σ H [] := fun H1 _ _ q => q [] H1 (Ex.refl _) trivial
theorem eap_cons (h : EvP te σ H P) (hr : EvAP tr σ H Ps) : EvAP (tCons te tr) σ H (P :: Ps) := fun H1 e Q q =>
  h H1 e _ fun v H2 e2 hv => hr H2 (e.trans e2) _ fun vs H3 e3 hs => q (v :: vs) H3 (e2.trans e3) ⟨P.m e3 hv, hs⟩
theorem evp_of (h : Ev te σ H v) (hp : ∀ H1, Ex H H1 → P.p v H1) : EvP te σ H P := fun H1 e Q q => h H1 e _ fun H2 e2 => q v H2 e2 (hp H2 (e.trans e2))
theorem evp_weak {P' : MP} (h : EvP te σ H P) (hp : ∀ v H1, P.p v H1 → P'.p v H1) : EvP te σ H P' := fun H1 e Q q => h H1 e _ fun v H2 e2 hv => q v H2 e2 (hp v H2 hv)
theorem elp_lst {ta : TA} (h : EvAP ta σ H Ps) (hl : Ps.length ≤ 100000) : EvLP (tLst ta) σ H Ps := fun H1 e Q q =>
  h H1 e _ fun vs H2 e2 hs => ⟨sz_of (by rw [hs.len]; exact hl), fun p hp => q vs p _ (fresh_back e2 hp) (e2.trans (Ex.new hp)) (hs.mono (Ex.new hp)) upd_same⟩
theorem elp_cat {xs : List V} (ha : Ev ta σ H (.ref a)) (hx : H a = some (.lst xs)) (hP : AllP Ps xs H) (hb : EvLP tb σ H Qs) (hl : Ps.length + Qs.length ≤ 100000) : EvLP (tOp rCat ta tb) σ H (Ps ++ Qs) := fun H1 e Q q =>
  ha H1 e _ fun H2 e2 => hb H2 (e.trans e2) _ fun ws b H3 hb3 e3 hs h3 => ⟨a, b, xs, ws, rfl, rfl, ((e.trans e2).trans e3) a _ hx, h3, sz_of (by rw [hP.len, hs.len]; exact hl), fun p hp =>
    q (xs ++ ws) p _ (fresh_back (e2.trans e3) hp) ((e2.trans e3).trans (Ex.new hp)) ((hP.mono ((e.trans e2).trans e3)).app hs |>.mono (Ex.new hp)) upd_same⟩
variable {D : Ends} {tu tz : TS} {g : TG}
theorem q_asgP {i : Nat} (h : EvLP te σ H Ps) (k : ∀ vs p H1, H p = none → Ex H H1 → AllP Ps vs H1 → H1 p = some (.lst vs) → tz D (σ.set i (some (.ref p))) H1) : tSeq (tAsg te (gName i)) tz D σ H := h H (Ex.refl H) _ fun vs p H1 hp e hs h1 => k vs p H1 hp e hs h1
theorem s_retP (h : EvLP te σ H Ps) (k : ∀ vs p H1, H p = none → Ex H H1 → AllP Ps vs H1 → H1 p = some (.lst vs) → D.rt (.ref p) H1) : tRet te D σ H := h H (Ex.refl H) _ fun vs p H1 hp e hs h1 => k vs p H1 hp e hs h1
/-- a walk over a list whose items are told by one word; the slot j alone changes -/
def Nst (H : Hp) (σ : L2.St) (j : Nat) : L2.St → Hp → Prop := fun σ' H' => Ex H H' ∧ ∃ o, σ' = σ.set j o
theorem q_forV {xs : List V} {j : Nat} (h : Ev tl σ H (.ref a)) (hx : H a = some (.lst xs)) (hP : ∀ v ∈ xs, P.p v H) (h0 : ∃ o, σ = σ.set j o)
    (hs : ∀ v H1, Ex H H1 → P.p v H1 → tu { D with nx := Nst H σ j, ct := Nst H σ j, bk := tz D } (σ.set j (some v)) H1) (hd : ∀ o H1, Ex H H1 → tz D (σ.set j o) H1) : tSeq (tFor (iList K tl) (gName j) tu) tz D σ H := by
  refine q_forLn (D := D) h (sq_of hx) (fun _ => Nst H σ j) (fun H1 e => ⟨e, h0⟩) (fun i σ' H' _ p => sq_of (p.1 a _ hx)) (fun i x σ' H' hi p => ?_) (fun σ' H' p => ?_)
  · obtain ⟨e, o, rfl⟩ := p
    rw [List.set_set]
    exact hs x H' e (P.m e (hP x (List.mem_of_getElem? hi)))
  · obtain ⟨e, o, rfl⟩ := p
    exact hd o H' e
theorem q_forN {n : Nat} {j : Nat} (h : EvLP tl σ H (List.replicate n P)) (h0 : ∃ o, σ = σ.set j o)
    (hs : ∀ H0 v H1, Ex H H0 → Ex H0 H1 → P.p v H1 → tu { D with nx := Nst H0 σ j, ct := Nst H0 σ j, bk := tz D } (σ.set j (some v)) H1) (hd : ∀ o H1, Ex H H1 → tz D (σ.set j o) H1) : tSeq (tFor (iList K tl) (gName j) tu) tz D σ H := by
  show tl σ H _
  refine h H (Ex.refl H) _ fun vs p H1 hp e hP h1 => ?_
  refine ⟨p, rfl, ⟨vs, sq_of h1⟩, for_list (fun _ => Nst H1 σ j) ⟨Ex.refl _, h0⟩ (fun i σ' H' _ q => sq_of (q.1 p _ h1)) (fun i x σ' H' hi q => ?_) (fun σ' H' q => ?_)⟩
  · obtain ⟨e1, o, rfl⟩ := q
    show tu _ ((σ.set j o).set j (some x)) H'
    rw [List.set_set]
    exact hs H1 x H' e e1 (P.m e1 (hP.rep x (List.mem_of_getElem? hi)))
  · obtain ⟨e1, o, rfl⟩ := q
    exact hd o H' (e.trans e1)
/-! ### errors as values -/
def EAt (K : PySem.W.Frag) (H : Hp) (a : Addr) (x : Str) : Prop := ExC K (He.ga K x) ∧ (H a = some (exo a (He.ga K x) none) ∨ ∃ dx fs, H a = some (exo a (He.ga K x) (some dx)) ∧ H dx = some (exd dx fs))
theorem EAt.ex {x : Str} (h : EAt K H a x) (e : Ex H H') : EAt K H' a x := ⟨h.1, by
  rcases h.2 with h | ⟨dx, fs, h1, h2⟩
  · exact .inl (e _ _ h)
  · exact .inr ⟨dx, fs, e _ _ h1, e _ _ h2⟩⟩
/-- one error of the class named x, with this field -/
def E1 (K : PySem.W.Frag) (fam : Nat) (f : Str) (y : V) : MP := ⟨fun v H => ∃ (i : Nat) (x : Str) (a dx : Addr), (all28.zip fam28)[i]? = some (x, fam) ∧ v = .ref a ∧ ExC K (He.ga K x) ∧ PySem.W.findIn K (.ref (He.ga K x)) f = some none ∧ H a = some (exo a (He.ga K x) (some dx)) ∧ H dx = some (exd dx [(f, y)]),
  fun e ⟨i, x, a, dx, h1, h2, h3, h4, h5, h6⟩ => ⟨i, x, a, dx, h1, h2, h3, h4, e _ _ h5, e _ _ h6⟩⟩
def E2 (K : PySem.W.Frag) (fam : Nat) (f g : Str) (y z : V) : MP := ⟨fun v H => ∃ (i : Nat) (x : Str) (a dx : Addr), (all28.zip fam28)[i]? = some (x, fam) ∧ v = .ref a ∧ ExC K (He.ga K x) ∧ PySem.W.findIn K (.ref (He.ga K x)) f = some none ∧ PySem.W.findIn K (.ref (He.ga K x)) g = some none ∧ H a = some (exo a (He.ga K x) (some dx)) ∧ H dx = some (exd dx [(g, z), (f, y)]),
  fun e ⟨i, x, a, dx, h1, h2, h3, h4, h4', h5, h6⟩ => ⟨i, x, a, dx, h1, h2, h3, h4, h4', e _ _ h5, e _ _ h6⟩⟩
def EF (K : PySem.W.Frag) (fam : Nat) : MP := ⟨fun v H => ∃ (i : Nat) (x : Str) (a : Addr), (all28.zip fam28)[i]? = some (x, fam) ∧ v = .ref a ∧ EAt K H a x,
  fun e ⟨i, x, a, h1, h2, h3⟩ => ⟨i, x, a, h1, h2, h3.ex e⟩⟩
def EI (K : PySem.W.Frag) (i : Nat) : MP := ⟨fun v H => ∃ (x : Str) (a : Addr), all28[i]? = some x ∧ v = .ref a ∧ EAt K H a x,
  fun e ⟨x, a, h1, h2, h3⟩ => ⟨x, a, h1, h2, h3.ex e⟩⟩
theorem ex_two {o1 o2 : HO} (h1 : H a = none) (h2 : H dx = none) (h : dx ≠ a) : Ex H (upd (upd H dx o1) a o2) := (Ex.new h2).trans (Ex.new (by rw [upd_ne h.symm]; exact h1))
theorem evp_er1 {mg : Str → Option Value} {x : Str} {fam i : Nat} (c : ErC1 K mg f x (He.ga K x)) (hi : (all28.zip fam28)[i]? = some (x, fam)) (h : Ev te σ H y) : EvP (tEr1 (He.ga K x) f te) σ H (E1 K fam f y) := fun H1 e Q q =>
  h H1 e _ fun H2 e2 a dx ha hdx hne => q _ _ (e2.trans (ex_two ha hdx hne)) ⟨i, x, a, dx, hi, rfl, c.T, c.no, upd_same, by rw [upd_ne hne]; exact upd_same⟩
theorem evp_er1i {mg : Str → Option Value} {x : Str} {i : Nat} (c : ErC1 K mg f x (He.ga K x)) (hi : all28[i]? = some x) (h : Ev te σ H y) : EvP (tEr1 (He.ga K x) f te) σ H (EI K i) := fun H1 e Q q =>
  h H1 e _ fun H2 e2 a dx ha hdx hne => q _ _ (e2.trans (ex_two ha hdx hne)) ⟨x, a, hi, rfl, c.T, .inr ⟨dx, _, upd_same, by rw [upd_ne hne]; exact upd_same⟩⟩
theorem evp_er2 {mg : Str → Option Value} {x g : Str} {fam i : Nat} (c : ErC2 K mg f g x (He.ga K x)) (hi : (all28.zip fam28)[i]? = some (x, fam)) (h : Ev te σ H y) (h' : Ev tx σ H z) : EvP (tEr2 (He.ga K x) f g te tx) σ H (E2 K fam f g y z) := fun H1 e Q q =>
  h H1 e _ fun H2 e2 => h' H2 (e.trans e2) _ fun H3 e3 a dx ha hdx hne => q _ _ ((e2.trans e3).trans (ex_two ha hdx hne)) ⟨i, x, a, dx, hi, rfl, c.T, c.no, c.no2, upd_same, by rw [upd_ne hne]; exact upd_same⟩
theorem evp_er2k {mg : Str → Option Value} {x g : Str} {fam i : Nat} (c : ErC2 K mg f g x (He.ga K x)) (hi : (all28.zip fam28)[i]? = some (x, fam)) (h : Ev tx σ H z) (h' : Ev te σ H y) : EvP (tEr2k (He.ga K x) f g tx te) σ H (E2 K fam f g y z) := fun H1 e Q q =>
  h H1 e _ fun H2 e2 => h' H2 (e.trans e2) _ fun H3 e3 a dx ha hdx hne => q _ _ ((e2.trans e3).trans (ex_two ha hdx hne)) ⟨i, x, a, dx, hi, rfl, c.T, c.no, c.no2, upd_same, by rw [upd_ne hne]; exact upd_same⟩
theorem evp_er2i {mg : Str → Option Value} {x g : Str} {i : Nat} (c : ErC2 K mg f g x (He.ga K x)) (hi : all28[i]? = some x) (h : Ev te σ H y) (h' : Ev tx σ H z) : EvP (tEr2 (He.ga K x) f g te tx) σ H (EI K i) := fun H1 e Q q =>
  h H1 e _ fun H2 e2 => h' H2 (e.trans e2) _ fun H3 e3 a dx ha hdx hne => q _ _ ((e2.trans e3).trans (ex_two ha hdx hne)) ⟨x, a, hi, rfl, c.T, .inr ⟨dx, _, upd_same, by rw [upd_ne hne]; exact upd_same⟩⟩
theorem evp_er0 {x : Str} {fam i : Nat} (c : ExC K (He.ga K x)) (hi : (all28.zip fam28)[i]? = some (x, fam)) : EvP (fun _ H Q => ∀ a, H a = none → Q (.ref a) (upd H a (exo a (He.ga K x) none))) σ H (EF K fam) := fun H1 e Q q a ha =>
  q _ _ (Ex.new ha) ⟨i, x, a, hi, rfl, c, .inl upd_same⟩
theorem evp_er0i {x : Str} {i : Nat} (c : ExC K (He.ga K x)) (hi : all28[i]? = some x) : EvP (fun _ H Q => ∀ a, H a = none → Q (.ref a) (upd H a (exo a (He.ga K x) none))) σ H (EI K i) := fun H1 e Q q a ha =>
  q _ _ (Ex.new ha) ⟨x, a, hi, rfl, c, .inl upd_same⟩
theorem ev_efd {fs : List (Str × V)} (h : Ev te σ H (.ref a)) (c : ExC K C) (no : PySem.W.findIn K (.ref C) f = some none) (ha : H a = some (exo a C (some dx))) (hd : H dx = some (exd dx fs)) (hl : fs.lookup f = some v) : Ev (tEfd K f te) σ H v := fun H1 e Q q =>
  h H1 e _ fun H2 e2 => ⟨a, C, dx, fs, v, rfl, c, no, (e.trans e2) _ _ ha, (e.trans e2) _ _ hd, hl, q H2 e2⟩
theorem ev_isV {x : Str} {u : Value} {c : V} {b : Bool} (h : Ev te σ H (.ref a)) (hc : Ev tx σ H c) (he : EAt K H a x) (cu : ClsV c u) (hb : PySem.W.kitOne K (.ref (He.ga K x)) u = some b) : Ev (tCB (rIsV K) (tCons te (tCons tx tNil))) σ H (.bl b) := fun H1 e Q q =>
  h H1 e _ fun H2 e2 => hc H2 (e.trans e2) _ fun H3 e3 => ⟨a, He.ga K x, c, u, b, rfl, cu, he.1, (he.ex ((e.trans e2).trans e3)).2, hb, q H3 (e2.trans e3)⟩
theorem dp_bools (H : Hp) : ∀ bs : List Bool, DpAll K H (bs.map V.bl) (bs.map PyData.bool)
  | [] => .nil
  | b :: bs => .cons (.bl b) (dp_bools H bs)
theorem dq_bools (H : Hp) : ∀ bs : List Bool, DqAll K H (bs.map V.bl) (bs.map PyData.bool)
  | [] => .nil
  | b :: bs => .cons (.bl b) (dq_bools H bs)
mutual
theorem dp_ex {H H' : Hp} (e : Ex H H') : ∀ {v : V} {d : PyData}, Dp K H v d → Dp K H' v d
  | _, _, .non => .non
  | _, _, .bl b => .bl b
  | _, _, .int i => .int i
  | _, _, .str x => .str x
  | _, _, .lst h1 h2 => .lst (ex_l e h1) (dpa_ex e h2)
  | _, _, .tup h1 h2 => .tup (ex_t e h1) (dpa_ex e h2)
theorem dpa_ex {H H' : Hp} (e : Ex H H') : ∀ {vs : List V} {ds : List PyData}, DpAll K H vs ds → DpAll K H' vs ds
  | _, _, .nil => .nil
  | _, _, .cons h1 h2 => .cons (dp_ex e h1) (dpa_ex e h2)
end
/-- equal data are equal -/
theorem rv_eqD {d : PyData} {x y : V} (hx : Dp K H x d) (hy : Dp K H y d) (s : SeqAt.shaped d = true) : RV (rEqD K) x y H (.bl true) := fun H1 e Q q =>
  ⟨d, d, dp_ex e hx, dp_ex e hy, s, s, by rw [SeqAt.eqv_refl d (SeqAt.canLay_of_shaped s)]; exact q H1 (Ex.refl _)⟩
theorem el_cat {xs zs : List V} (ha : Ev ta σ H (.ref a)) (hx : H a = some (.lst xs)) (hb : EvL tb σ H zs) (hl : xs.length + zs.length ≤ 100000) : EvL (tOp rCat ta tb) σ H (xs ++ zs) := fun H1 e Q q =>
  ha H1 e _ fun H2 e2 => hb H2 (e.trans e2) _ fun b H3 hb3 e3 h3 => ⟨a, b, xs, zs, rfl, rfl, ((e.trans e2).trans e3) a _ hx, h3, sz_of hl, fun p hp => q p _ (fresh_back (e2.trans e3) hp) ((e2.trans e3).trans (Ex.new hp)) upd_same⟩
theorem q_ext {l : Addr} {xs ys : List V} (hl : H l = some (.lst xs)) (ha : Ev ta σ H (.ref l)) (h : EvL te σ H ys) (hz : xs.length + ys.length ≤ 100000) (k : ∀ H1, Ex H H1 → tz D σ (upd H1 l (.lst (xs ++ ys)))) :
    tSeq (tDrop (tBM K "list" rExtend ta (tCons te tNil))) tz D σ H := ha H (Ex.refl H) _ fun H1 e1 =>
  ⟨Or.inl ⟨rfl, xs, sq_of (e1 l _ hl)⟩, h H1 e1 _ fun p H2 hp e2 h2 => ⟨l, p, xs, ys, rfl, rfl, e2 l _ (e1 l _ hl), h2, sz_of hz, k H2 (e1.trans e2)⟩⟩
theorem q_ext0 {H0 : Hp} {l : Addr} {xs ys : List V} (hf : H0 l = none) (e0 : Ex H0 H) (hl : H l = some (.lst xs)) (ha : Ev ta σ H (.ref l)) (h : EvL te σ H ys) (hz : xs.length + ys.length ≤ 100000) (k : ∀ H1, Ex H0 H1 → H1 l = some (.lst (xs ++ ys)) → tz D σ H1) :
    tSeq (tDrop (tBM K "list" rExtend ta (tCons te tNil))) tz D σ H := q_ext hl ha h hz fun H1 e => k _ (Ex.mut (e0.trans e) hf) upd_same
theorem q_extP {l : Addr} {xs : List V} (hl : H l = some (.lst xs)) (ha : Ev ta σ H (.ref l)) (h : EvLP te σ H Ps) (hz : xs.length + Ps.length ≤ 100000) (k : ∀ ys H1, Ex H H1 → AllP Ps ys H1 → tz D σ (upd H1 l (.lst (xs ++ ys)))) :
    tSeq (tDrop (tBM K "list" rExtend ta (tCons te tNil))) tz D σ H := ha H (Ex.refl H) _ fun H1 e1 =>
  ⟨Or.inl ⟨rfl, xs, sq_of (e1 l _ hl)⟩, h H1 e1 _ fun ys p H2 hp e2 hs h2 => ⟨l, p, xs, ys, rfl, rfl, e2 l _ (e1 l _ hl), h2, sz_of (by rw [hs.len]; exact hz), k ys H2 (e1.trans e2) hs⟩⟩
end
end K10
set_option Elab.async false
set_option linter.all false
set_option maxRecDepth 100000
set_option maxHeartbeats 4000000
namespace K10
open PySem PySem.Spec PyProof.Rows L2 Evl
section
variable {P : Program} {w : World} {K : PySem.W.Frag} {mg : Str → Option Value} {base : Heap} {fd : Nat → FuncData}
end
section
variable {K : PySem.W.Frag} {σ : L2.St} {H H' H0 : Hp} {ta tb te tx tl : TE} {tr : TA} {x y z v : V} {P : MP} {Ps Qs : List MP} {a f : Addr} {D : Ends} {tz : TS}
theorem ei_mut {i : Nat} {xs ys : List V} (hf : H f = some (.lst xs)) (h : (EI K i).p v H) : (EI K i).p v (upd H f (.lst ys)) := by
  obtain ⟨x, a, h1, h2, h3, h4⟩ := h
  refine ⟨x, a, h1, h2, h3, ?_⟩
  have nq : ∀ {q : Addr} {g : Heap → Prop}, H q = some (.ext g) → q ≠ f := fun {q g} hq z => by
    subst z
    rw [hf] at hq
    cases hq
  rcases h4 with h4 | ⟨dx, fs, h4, h5⟩
  · exact .inl (by rw [upd_ne (nq h4)]; exact h4)
  · exact .inr ⟨dx, fs, by rw [upd_ne (nq h4)]; exact h4, by rw [upd_ne (nq h5)]; exact h5⟩
theorem eis_mut {xs ys : List V} (hf : H f = some (.lst xs)) : ∀ {is : List Nat} {vs : List V}, AllP (is.map (EI K)) vs H → AllP (is.map (EI K)) vs (upd H f (.lst ys))
  | [], [], _ => trivial
  | i :: is, v :: vs, h => ⟨ei_mut hf h.1, eis_mut hf (is := is) h.2⟩
  | [], _ :: _, h => h.elim
  | _ :: _, [], h => h.elim
theorem q_ap {js : List Nat} (is : List Nat) {xs : List V} (hf : H0 f = none) (e0 : Ex H0 H) (hl : H f = some (.lst xs)) (hA : AllP (is.map (EI K)) xs H) (ha : Ev ta σ H (.ref f)) (h : EvLP te σ H (js.map (EI K))) (hz : is.length + js.length ≤ 1000)
    (k : ∀ ys H1, Ex H0 H1 → H1 f = some (.lst ys) → AllP ((is ++ js).map (EI K)) ys H1 → tz D σ H1) : tSeq (tDrop (tBM K "list" rExtend ta (tCons te tNil))) tz D σ H :=
  q_extP hl ha h (by rw [hA.len, List.length_map, List.length_map]; omega) fun ys H1 e hs => k _ _ (Ex.mut (e0.trans e) hf) upd_same (by
    rw [List.map_append]
    exact (eis_mut (e f _ hl) (hA.mono e)).app (eis_mut (e f _ hl) hs))
def Rws (row : Nat → List V) (Dl : Addr) (rs : List V) (H : Hp) : Prop := ∀ (j : Nat) (v : V), rs[j]? = some v → ∃ p, p ≠ Dl ∧ v = .ref p ∧ H p = some (.lst (row j))
def RW (H1 : Hp) (row : Nat → List V) (Dl : Addr) (k : Nat) (H' : Hp) : Prop := H1 Dl = none ∧ Ex H1 H' ∧ ∃ rs, rs.length = k ∧ H' Dl = some (.lst rs) ∧ Rws row Dl rs H'
def EvR (te : TE) (σ : L2.St) (H : Hp) (n : Nat) (row : Nat → List V) : Prop := ∀ H1, Ex H H1 → ∀ Q : VK, (∀ rs Dl H2, H1 Dl = none → Ex H1 H2 → H2 Dl = some (.lst rs) → rs.length = n → Rws row Dl rs H2 → Q (.ref Dl) H2) → te σ H1 Q
theorem rw_turn {H1 : Hp} {row : Nat → List V} {Dl : Addr} {k : Nat} {σ2 : L2.St} (p : RW H1 row Dl k H') (hk : k < 50000) (h : EvL te σ2 H' (row k)) : te σ2 H' fun y H4 => ∃ acc, H4 Dl = some (.lst acc) ∧ acc.length < sizeLine ∧ RW H1 row Dl (k + 1) (upd H4 Dl (.lst (acc ++ [y]))) := by
  obtain ⟨p1, p2, rs, p3, p4, p5⟩ := p
  refine h H' (Ex.refl _) _ fun q H4 hq e4 h4 => ⟨rs, e4 _ _ p4, sz_lt (by omega), p1, Ex.mut (p2.trans e4) p1, rs ++ [.ref q], by rw [List.length_append, p3]; rfl, upd_same, ?_⟩
  have nq : q ≠ Dl := by
    intro z
    subst z
    rw [p4] at hq
    cases hq
  intro j v hj
  by_cases hlt : j < rs.length
  · rw [List.getElem?_append_left hlt] at hj
    obtain ⟨p', n', ev, hp'⟩ := p5 j v hj
    exact ⟨p', n', ev, by rw [upd_ne n']; exact e4 _ _ hp'⟩
  · have hj' := (List.getElem?_eq_some_iff.mp hj).1
    rw [List.length_append] at hj'
    have e : j = rs.length := by simp only [List.length_cons, List.length_nil] at hj'; omega
    subst e
    rw [List.getElem?_append_right (Nat.le_refl _), Nat.sub_self] at hj
    cases hj
    rw [p3]
    exact ⟨q, nq, rfl, by rw [upd_ne nq]; exact h4⟩
theorem el_rowsL {xs : List V} {j : Nat} {vs : List Nat} (row : Nat → List V) (h : Ev tl σ H (.ref a)) (hx : SqL K H a xs) (hz : xs.length ≤ 40000) (hw : ∀ x, wipe ((wipe σ vs).set j (some x)) vs = wipe σ vs)
    (he : ∀ (i : Nat) (x : V) H1, Ex H H1 → xs[i]? = some x → EvL te ((wipe σ vs).set j (some x)) H1 (row i)) : EvR (tLc (iList K tl) (gName j) tYes te vs) σ H xs.length row := fun H0 e Q q => h H0 e _ fun H1 e1 => ⟨a, rfl, ⟨xs, ex_l (e.trans e1) hx⟩, fun Dl hD =>
  lc_list (xs := xs) (RW H1 row Dl) ⟨hD, Ex.new hD, [], rfl, upd_same, fun j v z => by cases z⟩ (fun i H' _ p => ex_l ((e.trans e1).trans p.2.1) hx)
    (fun i x H' hi p => ⟨hw x, rw_turn p (by have := (List.getElem?_eq_some_iff.mp hi).1; omega) (he i x H' ((e.trans e1).trans p.2.1) hi)⟩)
    (fun H' p => let ⟨rs, h1, h2, h3⟩ := p.2.2; q rs Dl H' (fresh_back e1 p.1) (e1.trans p.2.1) h2 h1 h3)⟩
theorem el_rowsR {n : Nat} {j : Nat} {vs : List Nat} {ta : TA} (row : Nat → List V) (h : EvA ta σ H [.int (n : Int)]) (hz : n ≤ 40000) (hw : ∀ x, wipe ((wipe σ vs).set j (some x)) vs = wipe σ vs)
    (he : ∀ (i : Nat) H1, Ex H H1 → i < n → EvL te ((wipe σ vs).set j (some (.int (i : Int)))) H1 (row i)) : EvR (tLc (iRng1 ta) (gName j) tYes te vs) σ H n row := fun H0 e Q q => h H0 e _ fun H1 e1 => ⟨(n : Int), rfl, by omega, by omega, fun Dl hD =>
  lc_range (lo := 0) (n := (n : Int).toNat) (RW H1 row Dl) ⟨hD, Ex.new hD, [], rfl, upd_same, fun j v z => by cases z⟩
    (fun i H' hi p => by
      have e0 : (0 : Int) + (i : Int) = (i : Int) := Int.zero_add _
      show wipe ((wipe σ vs).set j (some (.int ((0 : Int) + (i : Int))))) vs = wipe σ vs ∧ te ((wipe σ vs).set j (some (.int ((0 : Int) + (i : Int))))) H' fun y H4 => ∃ acc, H4 Dl = some (.lst acc) ∧ acc.length < sizeLine ∧ RW H1 row Dl (i + 1) (upd H4 Dl (.lst (acc ++ [y])))
      rw [e0]
      exact ⟨hw _, rw_turn p (by omega) (he i H' ((e.trans e1).trans p.2.1) (by omega))⟩)
    (fun H' p => let ⟨rs, h1, h2, h3⟩ := p.2.2; q rs Dl H' (fresh_back e1 p.1) (e1.trans p.2.1) h2 (by rw [h1, Int.toNat_natCast]) h3)⟩
theorem q_asgR {n i : Nat} {row : Nat → List V} (h : EvR te σ H n row) (k : ∀ rs Dl H2, H Dl = none → Ex H H2 → H2 Dl = some (.lst rs) → rs.length = n → Rws row Dl rs H2 → tz D (σ.set i (some (.ref Dl))) H2) : tSeq (tAsg te (gName i)) tz D σ H := h H (Ex.refl _) _ fun rs Dl H2 h1 h2 h3 h4 h5 => k rs Dl H2 h1 h2 h3 h4 h5
/-- rows of bools as data -/
def rowD (rb : Nat → List Bool) (n : Nat) : List PyData := (List.range n).map fun i => .list ((rb i).map PyData.bool)
theorem rows_dp {Dl : Addr} : ∀ {rs : List V} {rb : Nat → List Bool}, Rws (fun i => (rb i).map V.bl) Dl rs H → DpAll K H rs (rowD rb rs.length)
  | [], _, _ => .nil
  | v :: rs, rb, h => by
    obtain ⟨p, _, rfl, hp⟩ := h 0 _ rfl
    have e : rowD rb (V.ref p :: rs).length = .list ((rb 0).map PyData.bool) :: rowD (fun i => rb (i + 1)) rs.length := by
      unfold rowD
      rw [List.length_cons, List.range_succ_eq_map, List.map_cons, List.map_map]
      rfl
    rw [e]
    exact .cons (.lst (sq_of hp) (dp_bools H _)) (rows_dp (rb := fun i => rb (i + 1)) fun j v hj => h (j + 1) v hj)
theorem rws_ex {Dl : Addr} {rs : List V} {row : Nat → List V} (h : Rws row Dl rs H) (e : Ex H H') : Rws row Dl rs H' := fun j v hj => let ⟨p, h1, h2, h3⟩ := h j v hj; ⟨p, h1, h2, e _ _ h3⟩
end
section
variable {P : Program} {w : World} {K : PySem.W.Frag} {mg : Str → Option Value} {base : Heap} {fd : Nat → FuncData}
def spVals (K : PySem.W.Frag) : Sp := fun vs H Q _ => ∃ (a : Addr) (xs : List V), vs = [.ref a] ∧ H a = some (.lst xs) ∧ (∀ v ∈ xs, ∃ d, Gd K H v d) ∧ RetV (.bl true) H Q
def spOf (K : PySem.W.Frag) : Sp := fun vs H Q _ => ∃ (a l : Addr) (i : Nat) (x : Str) (n : Nat), vs = [.ref a, .ref l] ∧ (all28.zip fam28)[i]? = some (x, n) ∧ EAt K H a x ∧ H l = some (.lst ([n == 0, n == 1, n == 2, n == 3].map V.bl)) ∧ RetV (.bl true) H Q
def mrk (i : Nat) : List Bool := (List.range 28).map fun j => i == j
def spMarks (K : PySem.W.Frag) : Sp := fun vs H Q _ => ∃ (a : Addr) (i : Nat) (x : Str), vs = [.ref a] ∧ all28[i]? = some x ∧ EAt K H a x ∧ RetL ((mrk i).map V.bl) H Q
def spTrue : Sp := fun vs H Q _ => vs = [] ∧ RetV (.bl true) H Q
def gdP (K : PySem.W.Frag) : MP := ⟨fun v H => ∃ d, Gd K H v d, fun e ⟨d, h⟩ => ⟨d, h.ex e⟩⟩
def bls (a b c : Bool) : PyData := .list [.bool a, .bool b, .bool c]
theorem Gd.str {H : Hp} {v : V} {d : PyData} (g : Gd K H v d) : ∀ x, v = .str x → x.cps.size ≤ 100 := by
  intro x e
  subst e
  have q := g.q
  cases q
  exact g.s.bk
theorem sc_law_is_of : FnScope ["_law_e", "_law_kinds", "_law_told", "_law_bases"] ["_law_e", "_law_kinds"] (defScope (topS 48)) := ⟨rfl, rfl, rfl, by decide +kernel, rfl, by decide +kernel, by decide +kernel⟩
theorem ok_law_is_of (T : Tx K mg fd) : FnOk P w K mg base CX0 1 (He.ga K "_law_is_of") (fd 10) ["_law_e", "_law_kinds"] (spOf K) := by
  refine (T.df 10 48 "_law_is_of" rfl).ok sc_law_is_of (fun vs H Q E h => ?len) (fun cdv A outer s H vs Q E hr h => ?body)
  case body =>
    refine ⟨_, (pss_cons (ps_set (i := 2) sc_law_is_of.nd rfl (Or.inl rfl) (pe_lst (pa_cons (pe_callB call_isV (by rfl) (T.fr 23 "isinstance" rfl) (by decide +kernel) (pa_cons (pv 0) (pa_cons (pe_glob (v := V.ref (He.ga K "SheetError")) (by rfl) (T.gl 19 "SheetError" rfl) rfl) pa_nil))) (pa_cons (pe_callB call_isV (by rfl) (T.fr 23 "isinstance" rfl) (by decide +kernel) (pa_cons (pv 0) (pa_cons (pe_glob (v := V.ref (He.ga K "MissingError")) (by rfl) (T.gl 20 "MissingError" rfl) rfl) pa_nil))) (pa_cons (pe_callB call_isV (by rfl) (T.fr 23 "isinstance" rfl) (by decide +kernel) (pa_cons (pv 0) (pa_cons (pe_glob (v := V.ref (He.ga K "StateError")) (by rfl) (T.gl 21 "StateError" rfl) rfl) pa_nil))) (pa_cons (pe_callB call_isV (by rfl) (T.fr 23 "isinstance" rfl) (by decide +kernel) (pa_cons (pv 0) (pa_cons (pe_glob (v := V.ref (He.ga K "LimitError")) (by rfl) (T.gl 22 "LimitError" rfl) rfl) pa_nil))) pa_nil)))))) (pss_cons (ps_set (i := 3) sc_law_is_of.nd rfl (Or.inl rfl) (pe_lst (pa_cons (pe_callB call_isV (by rfl) (T.fr 23 "isinstance" rfl) (by decide +kernel) (pa_cons (pv 0) (pa_cons (pe_bltn (v := V.ty "ValueError") (by rfl) (T.fr 35 "ValueError" rfl) (by decide +kernel) rfl) pa_nil))) (pa_cons (pe_callB call_isV (by rfl) (T.fr 23 "isinstance" rfl) (by decide +kernel) (pa_cons (pv 0) (pa_cons (pe_bltn (v := V.ty "LookupError") (by rfl) (T.fr 36 "LookupError" rfl) (by decide +kernel) rfl) pa_nil))) (pa_cons (pe_callB call_isV (by rfl) (T.fr 23 "isinstance" rfl) (by decide +kernel) (pa_cons (pv 0) (pa_cons (pe_bltn (v := V.ty "RuntimeError") (by rfl) (T.fr 37 "RuntimeError" rfl) (by decide +kernel) rfl) pa_nil))) pa_nil))))) (pss_one (ps_ret (pe_and (pe_cmpR (op_eqD hr.units) (pv 2) (pv 1) (nomark _)) (pe_one (pe_cmpR (op_eqD hr.units) (pe_op op_cat (pv 3) (pe_lst (pa_cons (pe_callB call_isV (by rfl) (T.fr 23 "isinstance" rfl) (by decide +kernel) (pa_cons (pv 0) (pa_cons (pe_bltn (v := V.ty "ArithmeticError") (by rfl) (T.fr 38 "ArithmeticError" rfl) (by decide +kernel) rfl) pa_nil))) pa_nil))) (pv 1) (nomark _)))))))), ?_⟩
    obtain ⟨a, l, i, x, n, rfl, hi, he, hl, q⟩ := h
    refine q_asgL (el_lst (ea_cons (ev_isV (ev_var rfl) ev_c he (.own _) (T.fam i x n 0 _ hi rfl)) (ea_cons (ev_isV (ev_var rfl) ev_c he (.own _) (T.fam i x n 1 _ hi rfl)) (ea_cons (ev_isV (ev_var rfl) ev_c he (.own _) (T.fam i x n 2 _ hi rfl)) (ea_cons (ev_isV (ev_var rfl) ev_c he (.own _) (T.fam i x n 3 _ hi rfl)) ea_nil)))) (by show 4 ≤ 100000; decide)) fun p1 H1 hp1 e1 h1 => ?_
    refine q_asgL (el_lst (ea_cons (ev_isV (ev_var rfl) ev_c (he.ex e1) (.ty _) (T.bas i x n 0 _ hi rfl)) (ea_cons (ev_isV (ev_var rfl) ev_c (he.ex e1) (.ty _) (T.bas i x n 1 _ hi rfl)) (ea_cons (ev_isV (ev_var rfl) ev_c (he.ex e1) (.ty _) (T.bas i x n 2 _ hi rfl)) ea_nil))) (by show 3 ≤ 100000; decide)) fun p2 H2 hp2 e2 h2 => ?_
    have hl2 := (e1.trans e2) _ _ hl
    have sh : SeqAt.shaped (.list ([n == 0, n == 1, n == 2, n == 3].map PyData.bool)) = true := rfl
    refine s_ret (v := .bl true) (ev_andV (a := true) (b := true) (ev_op (ev_var rfl) (ev_var rfl) (rv_eqD (.lst (sq_of (e2 _ _ h1)) (dp_bools _ [n == 0, n == 1, n == 2, n == 3])) (.lst (sq_of hl2) (dp_bools _ _)) sh)) fun _ => ?_) fun H3 e3 => q.go ((e1.trans e2).trans e3)
    refine ev_opL1 (el_cat (ev_var rfl) h2 (el_lst (ea_cons (ev_isV (ev_var rfl) ev_c (he.ex (e1.trans e2)) (.ty _) (T.bas i x n 3 _ hi rfl)) ea_nil) (by show 1 ≤ 100000; decide)) (by show 4 ≤ 100000; decide)) (fun H3 e3 => ev_var rfl) fun p H3 hp e3 => ?_
    exact rv_eqD (.lst (sq_of hp) (dp_bools _ [n == 0, n == 1, n == 2, n == 3])) (.lst (sq_of (e3 _ _ hl2)) (dp_bools _ _)) sh

  case len =>
    obtain ⟨a, l, i, x, n, rfl, _⟩ := h
    rfl
theorem sc_law_marks : FnScope ["_law_e", "_law_found"] ["_law_e"] (defScope (topS 52)) := ⟨rfl, rfl, rfl, by decide +kernel, rfl, by decide +kernel, by decide +kernel⟩
theorem ok_law_marks (T : Tx K mg fd) : FnOk P w K mg base CX0 1 (He.ga K "_law_marks") (fd 14) ["_law_e"] (spMarks K) := by
  refine (T.df 14 52 "_law_marks" rfl).ok sc_law_marks (fun vs H Q E h => ?len) (fun cdv A outer s H vs Q E hr h => ?body)
  case body =>
    refine ⟨_, (pss_cons (ps_set (i := 1) sc_law_marks.nd rfl (Or.inl rfl) (pe_lst pa_nil)) (pss_cons (ps_expr (pe_bm PySem.F.plainAttrs_list PySem.F.slot_list_extend PySem.F.type_list_extend mt_extend (pv 1) (pa_cons (pe_lst (pa_cons (pe_callB call_isV (by rfl) (T.fr 23 "isinstance" rfl) (by decide +kernel) (pa_cons (pv 0) (pa_cons (pe_glob (v := V.ref (He.ga K "CommandFailed")) (by rfl) (T.e1 21 _ rfl).g rfl) pa_nil))) (pa_cons (pe_callB call_isV (by rfl) (T.fr 23 "isinstance" rfl) (by decide +kernel) (pa_cons (pv 0) (pa_cons (pe_glob (v := V.ref (He.ga K "InvalidClaim")) (by rfl) (T.e1 9 _ rfl).g rfl) pa_nil))) (pa_cons (pe_callB call_isV (by rfl) (T.fr 23 "isinstance" rfl) (by decide +kernel) (pa_cons (pv 0) (pa_cons (pe_glob (v := V.ref (He.ga K "InvalidCommand")) (by rfl) (T.e1 10 _ rfl).g rfl) pa_nil))) pa_nil)))) pa_nil))) (pss_cons (ps_expr (pe_bm PySem.F.plainAttrs_list PySem.F.slot_list_extend PySem.F.type_list_extend mt_extend (pv 1) (pa_cons (pe_lst (pa_cons (pe_callB call_isV (by rfl) (T.fr 23 "isinstance" rfl) (by decide +kernel) (pa_cons (pv 0) (pa_cons (pe_glob (v := V.ref (He.ga K "InvalidDrawing")) (by rfl) (T.e1 7 _ rfl).g rfl) pa_nil))) (pa_cons (pe_callB call_isV (by rfl) (T.fr 23 "isinstance" rfl) (by decide +kernel) (pa_cons (pv 0) (pa_cons (pe_glob (v := V.ref (He.ga K "InvalidLevel")) (by rfl) (T.e1 1 _ rfl).g rfl) pa_nil))) (pa_cons (pe_callB call_isV (by rfl) (T.fr 23 "isinstance" rfl) (by decide +kernel) (pa_cons (pv 0) (pa_cons (pe_glob (v := V.ref (He.ga K "InvalidLevels")) (by rfl) (T.e1 11 _ rfl).g rfl) pa_nil))) pa_nil)))) pa_nil))) (pss_cons (ps_expr (pe_bm PySem.F.plainAttrs_list PySem.F.slot_list_extend PySem.F.type_list_extend mt_extend (pv 1) (pa_cons (pe_lst (pa_cons (pe_callB call_isV (by rfl) (T.fr 23 "isinstance" rfl) (by decide +kernel) (pa_cons (pv 0) (pa_cons (pe_glob (v := V.ref (He.ga K "InvalidLine")) (by rfl) (T.e1 4 _ rfl).g rfl) pa_nil))) (pa_cons (pe_callB call_isV (by rfl) (T.fr 23 "isinstance" rfl) (by decide +kernel) (pa_cons (pv 0) (pa_cons (pe_glob (v := V.ref (He.ga K "InvalidLines")) (by rfl) (T.e1 13 _ rfl).g rfl) pa_nil))) (pa_cons (pe_callB call_isV (by rfl) (T.fr 23 "isinstance" rfl) (by decide +kernel) (pa_cons (pv 0) (pa_cons (pe_glob (v := V.ref (He.ga K "InvalidName")) (by rfl) (T.e1 0 _ rfl).g rfl) pa_nil))) pa_nil)))) pa_nil))) (pss_cons (ps_expr (pe_bm PySem.F.plainAttrs_list PySem.F.slot_list_extend PySem.F.type_list_extend mt_extend (pv 1) (pa_cons (pe_lst (pa_cons (pe_callB call_isV (by rfl) (T.fr 23 "isinstance" rfl) (by decide +kernel) (pa_cons (pv 0) (pa_cons (pe_glob (v := V.ref (He.ga K "InvalidNodes")) (by rfl) (T.e1 12 _ rfl).g rfl) pa_nil))) (pa_cons (pe_callB call_isV (by rfl) (T.fr 23 "isinstance" rfl) (by decide +kernel) (pa_cons (pv 0) (pa_cons (pe_glob (v := V.ref (He.ga K "InvalidNumber")) (by rfl) (T.e1 2 _ rfl).g rfl) pa_nil))) (pa_cons (pe_callB call_isV (by rfl) (T.fr 23 "isinstance" rfl) (by decide +kernel) (pa_cons (pv 0) (pa_cons (pe_glob (v := V.ref (He.ga K "InvalidOrder")) (by rfl) (T.e1 5 _ rfl).g rfl) pa_nil))) pa_nil)))) pa_nil))) (pss_cons (ps_expr (pe_bm PySem.F.plainAttrs_list PySem.F.slot_list_extend PySem.F.type_list_extend mt_extend (pv 1) (pa_cons (pe_lst (pa_cons (pe_callB call_isV (by rfl) (T.fr 23 "isinstance" rfl) (by decide +kernel) (pa_cons (pv 0) (pa_cons (pe_glob (v := V.ref (He.ga K "InvalidOrders")) (by rfl) (T.e1 6 _ rfl).g rfl) pa_nil))) (pa_cons (pe_callB call_isV (by rfl) (T.fr 23 "isinstance" rfl) (by decide +kernel) (pa_cons (pv 0) (pa_cons (pe_glob (v := V.ref (He.ga K "InvalidPair")) (by rfl) (T.e1 3 _ rfl).g rfl) pa_nil))) (pa_cons (pe_callB call_isV (by rfl) (T.fr 23 "isinstance" rfl) (by decide +kernel) (pa_cons (pv 0) (pa_cons (pe_glob (v := V.ref (He.ga K "InvalidPairs")) (by rfl) (T.e1 14 _ rfl).g rfl) pa_nil))) pa_nil)))) pa_nil))) (pss_cons (ps_expr (pe_bm PySem.F.plainAttrs_list PySem.F.slot_list_extend PySem.F.type_list_extend mt_extend (pv 1) (pa_cons (pe_lst (pa_cons (pe_callB call_isV (by rfl) (T.fr 23 "isinstance" rfl) (by decide +kernel) (pa_cons (pv 0) (pa_cons (pe_glob (v := V.ref (He.ga K "InvalidSheet")) (by rfl) (T.e1 8 _ rfl).g rfl) pa_nil))) (pa_cons (pe_callB call_isV (by rfl) (T.fr 23 "isinstance" rfl) (by decide +kernel) (pa_cons (pv 0) (pa_cons (pe_glob (v := V.ref (He.ga K "InvalidText")) (by rfl) (T.e1 16 _ rfl).g rfl) pa_nil))) (pa_cons (pe_callB call_isV (by rfl) (T.fr 23 "isinstance" rfl) (by decide +kernel) (pa_cons (pv 0) (pa_cons (pe_glob (v := V.ref (He.ga K "InvalidWalk")) (by rfl) (T.e1 15 _ rfl).g rfl) pa_nil))) pa_nil)))) pa_nil))) (pss_cons (ps_expr (pe_bm PySem.F.plainAttrs_list PySem.F.slot_list_extend PySem.F.type_list_extend mt_extend (pv 1) (pa_cons (pe_lst (pa_cons (pe_callB call_isV (by rfl) (T.fr 23 "isinstance" rfl) (by decide +kernel) (pa_cons (pv 0) (pa_cons (pe_glob (v := V.ref (He.ga K "NameTaken")) (by rfl) (T.e1 19 _ rfl).g rfl) pa_nil))) (pa_cons (pe_callB call_isV (by rfl) (T.fr 23 "isinstance" rfl) (by decide +kernel) (pa_cons (pv 0) (pa_cons (pe_glob (v := V.ref (He.ga K "NothingClean")) (by rfl) (T.e0 0 _ rfl).2.2 rfl) pa_nil))) (pa_cons (pe_callB call_isV (by rfl) (T.fr 23 "isinstance" rfl) (by decide +kernel) (pa_cons (pv 0) (pa_cons (pe_glob (v := V.ref (He.ga K "NothingToUndo")) (by rfl) (T.e0 1 _ rfl).2.2 rfl) pa_nil))) pa_nil)))) pa_nil))) (pss_cons (ps_expr (pe_bm PySem.F.plainAttrs_list PySem.F.slot_list_extend PySem.F.type_list_extend mt_extend (pv 1) (pa_cons (pe_lst (pa_cons (pe_callB call_isV (by rfl) (T.fr 23 "isinstance" rfl) (by decide +kernel) (pa_cons (pv 0) (pa_cons (pe_glob (v := V.ref (He.ga K "NotTrue")) (by rfl) (T.e0 2 _ rfl).2.2 rfl) pa_nil))) (pa_cons (pe_callB call_isV (by rfl) (T.fr 23 "isinstance" rfl) (by decide +kernel) (pa_cons (pv 0) (pa_cons (pe_glob (v := V.ref (He.ga K "OtherLevels")) (by rfl) (T.e2 1 _ rfl).gm rfl) pa_nil))) (pa_cons (pe_callB call_isV (by rfl) (T.fr 23 "isinstance" rfl) (by decide +kernel) (pa_cons (pv 0) (pa_cons (pe_glob (v := V.ref (He.ga K "OtherSheets")) (by rfl) (T.e2 0 _ rfl).gm rfl) pa_nil))) pa_nil)))) pa_nil))) (pss_cons (ps_expr (pe_bm PySem.F.plainAttrs_list PySem.F.slot_list_extend PySem.F.type_list_extend mt_extend (pv 1) (pa_cons (pe_lst (pa_cons (pe_callB call_isV (by rfl) (T.fr 23 "isinstance" rfl) (by decide +kernel) (pa_cons (pv 0) (pa_cons (pe_glob (v := V.ref (He.ga K "Refused")) (by rfl) (T.e1 20 _ rfl).g rfl) pa_nil))) (pa_cons (pe_callB call_isV (by rfl) (T.fr 23 "isinstance" rfl) (by decide +kernel) (pa_cons (pv 0) (pa_cons (pe_glob (v := V.ref (He.ga K "TooMany")) (by rfl) (T.e2 2 _ rfl).gm rfl) pa_nil))) (pa_cons (pe_callB call_isV (by rfl) (T.fr 23 "isinstance" rfl) (by decide +kernel) (pa_cons (pv 0) (pa_cons (pe_glob (v := V.ref (He.ga K "UnknownLine")) (by rfl) (T.e1 18 _ rfl).g rfl) pa_nil))) pa_nil)))) pa_nil))) (pss_cons (ps_expr (pe_bm PySem.F.plainAttrs_list PySem.F.slot_list_extend PySem.F.type_list_extend mt_extend (pv 1) (pa_cons (pe_lst (pa_cons (pe_callB call_isV (by rfl) (T.fr 23 "isinstance" rfl) (by decide +kernel) (pa_cons (pv 0) (pa_cons (pe_glob (v := V.ref (He.ga K "UnknownNode")) (by rfl) (T.e1 17 _ rfl).g rfl) pa_nil))) pa_nil)) pa_nil))) (pss_one (ps_ret (pv 1)))))))))))))), ?_⟩
    obtain ⟨a, i, x, rfl, hi, he, q⟩ := h
    refine q_asgL (el_lst ea_nil (by show 0 ≤ 100000; decide)) fun f H1 hf e1 h1 => ?_
    refine q_ext0 hf e1 h1 (ev_var rfl) (el_lst (ea_cons (ev_isV (ev_var rfl) ev_c (he.ex e1) (.own _) (T.own i 0 x _ hi rfl)) (ea_cons (ev_isV (ev_var rfl) ev_c (he.ex e1) (.own _) (T.own i 1 x _ hi rfl)) (ea_cons (ev_isV (ev_var rfl) ev_c (he.ex e1) (.own _) (T.own i 2 x _ hi rfl)) ea_nil))) (by show 3 ≤ 100000; decide)) (by show 3 ≤ 100000; decide) fun G0 x0 g0 => ?_
    refine q_ext0 hf x0 g0 (ev_var rfl) (el_lst (ea_cons (ev_isV (ev_var rfl) ev_c (he.ex x0) (.own _) (T.own i 3 x _ hi rfl)) (ea_cons (ev_isV (ev_var rfl) ev_c (he.ex x0) (.own _) (T.own i 4 x _ hi rfl)) (ea_cons (ev_isV (ev_var rfl) ev_c (he.ex x0) (.own _) (T.own i 5 x _ hi rfl)) ea_nil))) (by show 3 ≤ 100000; decide)) (by show 6 ≤ 100000; decide) fun G1 x1 g1 => ?_
    refine q_ext0 hf x1 g1 (ev_var rfl) (el_lst (ea_cons (ev_isV (ev_var rfl) ev_c (he.ex x1) (.own _) (T.own i 6 x _ hi rfl)) (ea_cons (ev_isV (ev_var rfl) ev_c (he.ex x1) (.own _) (T.own i 7 x _ hi rfl)) (ea_cons (ev_isV (ev_var rfl) ev_c (he.ex x1) (.own _) (T.own i 8 x _ hi rfl)) ea_nil))) (by show 3 ≤ 100000; decide)) (by show 9 ≤ 100000; decide) fun G2 x2 g2 => ?_
    refine q_ext0 hf x2 g2 (ev_var rfl) (el_lst (ea_cons (ev_isV (ev_var rfl) ev_c (he.ex x2) (.own _) (T.own i 9 x _ hi rfl)) (ea_cons (ev_isV (ev_var rfl) ev_c (he.ex x2) (.own _) (T.own i 10 x _ hi rfl)) (ea_cons (ev_isV (ev_var rfl) ev_c (he.ex x2) (.own _) (T.own i 11 x _ hi rfl)) ea_nil))) (by show 3 ≤ 100000; decide)) (by show 12 ≤ 100000; decide) fun G3 x3 g3 => ?_
    refine q_ext0 hf x3 g3 (ev_var rfl) (el_lst (ea_cons (ev_isV (ev_var rfl) ev_c (he.ex x3) (.own _) (T.own i 12 x _ hi rfl)) (ea_cons (ev_isV (ev_var rfl) ev_c (he.ex x3) (.own _) (T.own i 13 x _ hi rfl)) (ea_cons (ev_isV (ev_var rfl) ev_c (he.ex x3) (.own _) (T.own i 14 x _ hi rfl)) ea_nil))) (by show 3 ≤ 100000; decide)) (by show 15 ≤ 100000; decide) fun G4 x4 g4 => ?_
    refine q_ext0 hf x4 g4 (ev_var rfl) (el_lst (ea_cons (ev_isV (ev_var rfl) ev_c (he.ex x4) (.own _) (T.own i 15 x _ hi rfl)) (ea_cons (ev_isV (ev_var rfl) ev_c (he.ex x4) (.own _) (T.own i 16 x _ hi rfl)) (ea_cons (ev_isV (ev_var rfl) ev_c (he.ex x4) (.own _) (T.own i 17 x _ hi rfl)) ea_nil))) (by show 3 ≤ 100000; decide)) (by show 18 ≤ 100000; decide) fun G5 x5 g5 => ?_
    refine q_ext0 hf x5 g5 (ev_var rfl) (el_lst (ea_cons (ev_isV (ev_var rfl) ev_c (he.ex x5) (.own _) (T.own i 18 x _ hi rfl)) (ea_cons (ev_isV (ev_var rfl) ev_c (he.ex x5) (.own _) (T.own i 19 x _ hi rfl)) (ea_cons (ev_isV (ev_var rfl) ev_c (he.ex x5) (.own _) (T.own i 20 x _ hi rfl)) ea_nil))) (by show 3 ≤ 100000; decide)) (by show 21 ≤ 100000; decide) fun G6 x6 g6 => ?_
    refine q_ext0 hf x6 g6 (ev_var rfl) (el_lst (ea_cons (ev_isV (ev_var rfl) ev_c (he.ex x6) (.own _) (T.own i 21 x _ hi rfl)) (ea_cons (ev_isV (ev_var rfl) ev_c (he.ex x6) (.own _) (T.own i 22 x _ hi rfl)) (ea_cons (ev_isV (ev_var rfl) ev_c (he.ex x6) (.own _) (T.own i 23 x _ hi rfl)) ea_nil))) (by show 3 ≤ 100000; decide)) (by show 24 ≤ 100000; decide) fun G7 x7 g7 => ?_
    refine q_ext0 hf x7 g7 (ev_var rfl) (el_lst (ea_cons (ev_isV (ev_var rfl) ev_c (he.ex x7) (.own _) (T.own i 24 x _ hi rfl)) (ea_cons (ev_isV (ev_var rfl) ev_c (he.ex x7) (.own _) (T.own i 25 x _ hi rfl)) (ea_cons (ev_isV (ev_var rfl) ev_c (he.ex x7) (.own _) (T.own i 26 x _ hi rfl)) ea_nil))) (by show 3 ≤ 100000; decide)) (by show 27 ≤ 100000; decide) fun G8 x8 g8 => ?_
    refine q_ext0 hf x8 g8 (ev_var rfl) (el_lst (ea_cons (ev_isV (ev_var rfl) ev_c (he.ex x8) (.own _) (T.own i 27 x _ hi rfl)) ea_nil) (by show 1 ≤ 100000; decide)) (by show 28 ≤ 100000; decide) fun G9 x9 g9 => ?_
    exact s_ret (ev_var rfl) fun H' e' => q f H' hf (x9.trans e') (e' f _ g9)

  case len =>
    obtain ⟨a, i, x, rfl, _⟩ := h
    rfl
end
end K10
set_option Elab.async false
set_option linter.all false
set_option maxRecDepth 100000
set_option maxHeartbeats 4000000
namespace K10
open PySem PySem.Spec PyProof.Rows L2 Evl
section
variable {P : Program} {w : World} {K : PySem.W.Frag} {mg : Str → Option Value} {base : Heap} {fd : Nat → FuncData}

def rLenK (K : PySem.W.Frag) : List V → Hp → VK → Prop := fun xs H Q => ∃ x n, xs = [x] ∧ LenV K x H n ∧ Q (.int n) H
theorem call_lenK {X : Cx} : CallR X (.builtin "len") (rLenK X.K) := call_len
theorem sc_law_apart_right : FnScope ["_law_some_here", "_law_rows", "_law_e", "_law_spot", "_law_at"] [] (defScope (topS 51)) := ⟨rfl, rfl, rfl, by decide +kernel, rfl, by decide +kernel, by decide +kernel⟩
theorem ok_law_apart_right (T : Tx K mg fd) : FnOk P w K mg base CX0 3 (He.ga K "_law_apart_right") (fd 13) [] spTrue := by
  refine (T.df 13 51 "_law_apart_right" rfl).ok sc_law_apart_right (fun vs H Q E h => ?len) (fun cdv A outer s H vs Q E hr h => ?body)
  case body =>
    refine ⟨_, (pss_cons (ps_set (i := 0) sc_law_apart_right.nd rfl (Or.inr rfl) (pe_lst pa_nil)) (pss_cons (ps_expr (pe_bm PySem.F.plainAttrs_list PySem.F.slot_list_extend PySem.F.type_list_extend mt_extend (pv 0) (pa_cons (pe_lst (pa_cons (pe_er1 (T.e1 21 _ rfl) (hr.mono (by decide)) (by rfl) pe_int) (pa_cons (pe_er1 (T.e1 9 _ rfl) (hr.mono (by decide)) (by rfl) pe_int) (pa_cons (pe_er1 (T.e1 10 _ rfl) (hr.mono (by decide)) (by rfl) pe_int) (pa_cons (pe_er1 (T.e1 7 _ rfl) (hr.mono (by decide)) (by rfl) pe_int) pa_nil))))) pa_nil))) (pss_cons (ps_expr (pe_bm PySem.F.plainAttrs_list PySem.F.slot_list_extend PySem.F.type_list_extend mt_extend (pv 0) (pa_cons (pe_lst (pa_cons (pe_er1 (T.e1 1 _ rfl) (hr.mono (by decide)) (by rfl) pe_int) (pa_cons (pe_er1 (T.e1 11 _ rfl) (hr.mono (by decide)) (by rfl) pe_int) (pa_cons (pe_er1 (T.e1 4 _ rfl) (hr.mono (by decide)) (by rfl) pe_int) (pa_cons (pe_er1 (T.e1 13 _ rfl) (hr.mono (by decide)) (by rfl) pe_int) pa_nil))))) pa_nil))) (pss_cons (ps_expr (pe_bm PySem.F.plainAttrs_list PySem.F.slot_list_extend PySem.F.type_list_extend mt_extend (pv 0) (pa_cons (pe_lst (pa_cons (pe_er1 (T.e1 0 _ rfl) (hr.mono (by decide)) (by rfl) pe_int) (pa_cons (pe_er1 (T.e1 12 _ rfl) (hr.mono (by decide)) (by rfl) pe_int) (pa_cons (pe_er1 (T.e1 2 _ rfl) (hr.mono (by decide)) (by rfl) pe_int) (pa_cons (pe_er1 (T.e1 5 _ rfl) (hr.mono (by decide)) (by rfl) pe_int) pa_nil))))) pa_nil))) (pss_cons (ps_expr (pe_bm PySem.F.plainAttrs_list PySem.F.slot_list_extend PySem.F.type_list_extend mt_extend (pv 0) (pa_cons (pe_lst (pa_cons (pe_er1 (T.e1 6 _ rfl) (hr.mono (by decide)) (by rfl) pe_int) (pa_cons (pe_er1 (T.e1 3 _ rfl) (hr.mono (by decide)) (by rfl) pe_int) (pa_cons (pe_er1 (T.e1 14 _ rfl) (hr.mono (by decide)) (by rfl) pe_int) (pa_cons (pe_er1 (T.e1 8 _ rfl) (hr.mono (by decide)) (by rfl) pe_int) pa_nil))))) pa_nil))) (pss_cons (ps_expr (pe_bm PySem.F.plainAttrs_list PySem.F.slot_list_extend PySem.F.type_list_extend mt_extend (pv 0) (pa_cons (pe_lst (pa_cons (pe_er1 (T.e1 16 _ rfl) (hr.mono (by decide)) (by rfl) pe_int) (pa_cons (pe_er1 (T.e1 15 _ rfl) (hr.mono (by decide)) (by rfl) pe_int) (pa_cons (pe_er1 (T.e1 19 _ rfl) (hr.mono (by decide)) (by rfl) pe_int) (pa_cons (pe_emkN PySem.F.excBase_RuntimeError (T.e0 0 _ rfl).2.1 (T.e0 0 _ rfl).2.2 (T.e0 0 _ rfl).1.kC (by rfl)) pa_nil))))) pa_nil))) (pss_cons (ps_expr (pe_bm PySem.F.plainAttrs_list PySem.F.slot_list_extend PySem.F.type_list_extend mt_extend (pv 0) (pa_cons (pe_lst (pa_cons (pe_emkN PySem.F.excBase_RuntimeError (T.e0 1 _ rfl).2.1 (T.e0 1 _ rfl).2.2 (T.e0 1 _ rfl).1.kC (by rfl)) (pa_cons (pe_emkN PySem.F.excBase_RuntimeError (T.e0 2 _ rfl).2.1 (T.e0 2 _ rfl).2.2 (T.e0 2 _ rfl).1.kC (by rfl)) (pa_cons (pe_er2 (T.e2 1 _ rfl) (hr.mono (by decide)) (by rfl) pe_int pe_int) (pa_cons (pe_er2 (T.e2 0 _ rfl) (hr.mono (by decide)) (by rfl) pe_int pe_int) pa_nil))))) pa_nil))) (pss_cons (ps_expr (pe_bm PySem.F.plainAttrs_list PySem.F.slot_list_extend PySem.F.type_list_extend mt_extend (pv 0) (pa_cons (pe_lst (pa_cons (pe_er1 (T.e1 20 _ rfl) (hr.mono (by decide)) (by rfl) pe_int) (pa_cons (pe_er2 (T.e2 2 _ rfl) (hr.mono (by decide)) (by rfl) pe_int pe_int) (pa_cons (pe_er1 (T.e1 18 _ rfl) (hr.mono (by decide)) (by rfl) pe_int) (pa_cons (pe_er1 (T.e1 17 _ rfl) (hr.mono (by decide)) (by rfl) pe_int) pa_nil))))) pa_nil))) (pss_cons (ps_setLc (i := 1) (own := [("_law_e", 2)]) (g := gName 2) rfl sc_law_apart_right.nd rfl rfl (sw_true rfl rfl rfl (by decide +kernel)) (pi_list (pv 0)) (blkOk_by (N := ["_law_some_here", "_law_rows", "_law_e", "_law_spot", "_law_at"]) (sc := (defScope (topS 51))) (own := [("_law_e", 2)]) (by decide +kernel)) (fun _ _ _ _ _ => (pg_name (i := 2) sc_law_apart_right.nd rfl (Or.inl rfl))) (fun _ _ _ _ _ => pts_nil) (fun _ _ _ _ _ => (pe_call (ok_law_marks T) (hr.mono (by decide)) (by rfl) (T.gl 16 "_law_marks" rfl) (T.df 14 52 "_law_marks" rfl).kp ((T.df 14 52 "_law_marks" rfl).binds (ps := ["_law_e"]) fun _ _ _ _ _ _ us hl => match us, hl with | [_], _ => rfl) .nil pass0 (pa_cons (pv 2) pa_nil)))) (pss_one (ps_ret (pe_cmpR (op_eqD hr.units) (pv 1) (pe_lc (own := [("_law_at", 4)]) (g := gName 4) rfl sc_law_apart_right.nd (pi_range1 (by rfl) (T.fr 30 "range" rfl) (pa_cons (pe_callB (r := rLenK K) call_lenK (by rfl) (T.fr 27 "len" rfl) (by decide +kernel) (pa_cons (pv 0) pa_nil)) pa_nil)) (blkOk_by (N := ["_law_some_here", "_law_rows", "_law_e", "_law_spot", "_law_at"]) (sc := (defScope (topS 51))) (own := [("_law_at", 4)]) (by decide +kernel)) (fun _ _ _ _ _ => (pg_name (i := 4) sc_law_apart_right.nd rfl (Or.inr rfl))) (fun _ _ _ _ _ => pts_nil) (fun _ _ _ _ _ => (pe_lc (own := [("_law_spot", 3)]) (g := gName 3) rfl sc_law_apart_right.nd (pi_range1 (by rfl) (T.fr 30 "range" rfl) (pa_cons (pe_callB (r := rLenK K) call_lenK (by rfl) (T.fr 27 "len" rfl) (by decide +kernel) (pa_cons (pv 0) pa_nil)) pa_nil)) (blkOk_by (N := ["_law_some_here", "_law_rows", "_law_e", "_law_spot", "_law_at"]) (sc := { kind := .function, names := [(".0", .local), ("_law_at", .cell), ("range", .globalImplicit), ("len", .globalImplicit), ("_law_some_here", .cell)], isGenerator := false, isCoroutine := false }) (own := [("_law_spot", 3)]) (by decide +kernel)) (fun _ _ _ _ _ => (pg_name (i := 3) sc_law_apart_right.nd rfl (Or.inl rfl))) (fun _ _ _ _ _ => pts_nil) (fun _ _ _ _ _ => (pe_cmpR op_eq (pv 4) (pv 3) (nomark _)))))) (nomark _))))))))))))), ?_⟩
    obtain ⟨rfl, q⟩ := h
    refine q_asgL (el_lst ea_nil (by show 0 ≤ 100000; decide)) fun f H1 hf e1 h1 => ?_
    refine q_ap (K := K) (js := [0, 1, 2, 3]) [] hf e1 h1 trivial (ev_var rfl) (elp_lst (eap_cons (evp_er1i (i := 0) (T.e1 21 _ rfl) rfl ev_c) (eap_cons (evp_er1i (i := 1) (T.e1 9 _ rfl) rfl ev_c) (eap_cons (evp_er1i (i := 2) (T.e1 10 _ rfl) rfl ev_c) (eap_cons (evp_er1i (i := 3) (T.e1 7 _ rfl) rfl ev_c) eap_nil)))) (by show 4 ≤ 100000; decide)) (by show 0 + 4 ≤ 1000; decide) fun y0 G0 x0 g0 a0 => ?_
    refine q_ap (K := K) (js := [4, 5, 6, 7]) [0, 1, 2, 3] hf x0 g0 a0 (ev_var rfl) (elp_lst (eap_cons (evp_er1i (i := 4) (T.e1 1 _ rfl) rfl ev_c) (eap_cons (evp_er1i (i := 5) (T.e1 11 _ rfl) rfl ev_c) (eap_cons (evp_er1i (i := 6) (T.e1 4 _ rfl) rfl ev_c) (eap_cons (evp_er1i (i := 7) (T.e1 13 _ rfl) rfl ev_c) eap_nil)))) (by show 4 ≤ 100000; decide)) (by show 4 + 4 ≤ 1000; decide) fun y1 G1 x1 g1 a1 => ?_
    refine q_ap (K := K) (js := [8, 9, 10, 11]) [0, 1, 2, 3, 4, 5, 6, 7] hf x1 g1 a1 (ev_var rfl) (elp_lst (eap_cons (evp_er1i (i := 8) (T.e1 0 _ rfl) rfl ev_c) (eap_cons (evp_er1i (i := 9) (T.e1 12 _ rfl) rfl ev_c) (eap_cons (evp_er1i (i := 10) (T.e1 2 _ rfl) rfl ev_c) (eap_cons (evp_er1i (i := 11) (T.e1 5 _ rfl) rfl ev_c) eap_nil)))) (by show 4 ≤ 100000; decide)) (by show 8 + 4 ≤ 1000; decide) fun y2 G2 x2 g2 a2 => ?_
    refine q_ap (K := K) (js := [12, 13, 14, 15]) [0, 1, 2, 3, 4, 5, 6, 7, 8, 9, 10, 11] hf x2 g2 a2 (ev_var rfl) (elp_lst (eap_cons (evp_er1i (i := 12) (T.e1 6 _ rfl) rfl ev_c) (eap_cons (evp_er1i (i := 13) (T.e1 3 _ rfl) rfl ev_c) (eap_cons (evp_er1i (i := 14) (T.e1 14 _ rfl) rfl ev_c) (eap_cons (evp_er1i (i := 15) (T.e1 8 _ rfl) rfl ev_c) eap_nil)))) (by show 4 ≤ 100000; decide)) (by show 12 + 4 ≤ 1000; decide) fun y3 G3 x3 g3 a3 => ?_
    refine q_ap (K := K) (js := [16, 17, 18, 19]) [0, 1, 2, 3, 4, 5, 6, 7, 8, 9, 10, 11, 12, 13, 14, 15] hf x3 g3 a3 (ev_var rfl) (elp_lst (eap_cons (evp_er1i (i := 16) (T.e1 16 _ rfl) rfl ev_c) (eap_cons (evp_er1i (i := 17) (T.e1 15 _ rfl) rfl ev_c) (eap_cons (evp_er1i (i := 18) (T.e1 19 _ rfl) rfl ev_c) (eap_cons (evp_er0i (i := 19) (T.e0 0 _ rfl).1 rfl) eap_nil)))) (by show 4 ≤ 100000; decide)) (by show 16 + 4 ≤ 1000; decide) fun y4 G4 x4 g4 a4 => ?_
    refine q_ap (K := K) (js := [20, 21, 22, 23]) [0, 1, 2, 3, 4, 5, 6, 7, 8, 9, 10, 11, 12, 13, 14, 15, 16, 17, 18, 19] hf x4 g4 a4 (ev_var rfl) (elp_lst (eap_cons (evp_er0i (i := 20) (T.e0 1 _ rfl).1 rfl) (eap_cons (evp_er0i (i := 21) (T.e0 2 _ rfl).1 rfl) (eap_cons (evp_er2i (i := 22) (T.e2 1 _ rfl) rfl ev_c ev_c) (eap_cons (evp_er2i (i := 23) (T.e2 0 _ rfl) rfl ev_c ev_c) eap_nil)))) (by show 4 ≤ 100000; decide)) (by show 20 + 4 ≤ 1000; decide) fun y5 G5 x5 g5 a5 => ?_
    refine q_ap (K := K) (js := [24, 25, 26, 27]) [0, 1, 2, 3, 4, 5, 6, 7, 8, 9, 10, 11, 12, 13, 14, 15, 16, 17, 18, 19, 20, 21, 22, 23] hf x5 g5 a5 (ev_var rfl) (elp_lst (eap_cons (evp_er1i (i := 24) (T.e1 20 _ rfl) rfl ev_c) (eap_cons (evp_er2i (i := 25) (T.e2 2 _ rfl) rfl ev_c ev_c) (eap_cons (evp_er1i (i := 26) (T.e1 18 _ rfl) rfl ev_c) (eap_cons (evp_er1i (i := 27) (T.e1 17 _ rfl) rfl ev_c) eap_nil)))) (by show 4 ≤ 100000; decide)) (by show 24 + 4 ≤ 1000; decide) fun y6 G6 x6 g6 a6 => ?_
    have al := a6
    have ln : y6.length = 28 := al.len
    have ati : ∀ (i : Nat) (v : V), y6[i]? = some v → ∃ (x : Str) (a : Addr), all28[i]? = some x ∧ v = .ref a ∧ EAt K G6 a x := fun i v hi => by
      have hlt : i < 28 := by have := (List.getElem?_eq_some_iff.mp hi).1; omega
      refine AllP.at_ (P := EI K i) al ?_ hi
      show ((List.range 28).map (EI K))[i]? = some (EI K i)
      rw [List.getElem?_map, List.getElem?_range hlt]
      rfl
    refine q_asgR (el_rowsL (fun i => (mrk i).map V.bl) (ev_var rfl) (sq_of g6) (by omega) (fun _ => rfl) (fun i x H2 e2 hi => ?_)) fun rs D1 H2 hD1 e2 h2 l2 r2 => ?_
    · obtain ⟨x, a, h1, rfl, he⟩ := ati i _ hi
      intro H3 e3 Q' k
      exact ⟨_, rfl, a, i, x, rfl, h1, he.ex (e2.trans e3), fun p H' hp e h => k p H' hp e h⟩
    · rw [ln] at l2
      refine s_ret (v := .bl true) ?_ fun H3 e3 => q.go ((x6.trans e2).trans e3)
      intro H3 e3 Q' k
      refine ⟨_, rfl, ?_⟩
      refine el_rowsR (n := 28) (H := H2) (σ := ([some (.ref f), some (.ref D1), none, none, none] : L2.St)) (vs := [4]) (j := 4) (fun i => (mrk i).map V.bl) (ea_cons (ev_lenX (r := rLenK K) (n := 28) (ev_var (i := 0) rfl) fun H4 e4 Q'' q'' => ⟨_, 28, rfl, .inl ⟨y6, sq_of ((e2.trans e4) _ _ g6), by rw [ln]⟩, q''⟩) ea_nil) (by decide) (fun _ => rfl) (fun i H4 e4 hi => ?_) H3 e3 _ fun rs' D2 H4 hD2 e4 h4 l4 r4 => ?_
      · have g := el_lcR1 (σ := ([some (.ref f), some (.ref D1), none, none, some (.int (i : Int))] : L2.St)) (vs := [3]) (j := 3) (H := H4) (t := tYes) (te := tOp rEq (tVar 4) (tVar 3)) (fun _ => true) (fun j => V.bl (decide (V.int (i : Int) = V.int (j : Int)))) (ea_cons (ev_lenX (r := rLenK K) (n := 28) (ev_var (i := 0) rfl) fun H5 e5 Q'' q'' => ⟨_, 28, rfl, .inl ⟨y6, sq_of (((e2.trans e4).trans e5) _ _ g6), by rw [ln]⟩, q''⟩) ea_nil) (by decide) (fun _ => rfl) (fun _ _ _ _ => fun H5 _ Q5 q5 => q5 H5 (Ex.refl _)) (fun j H5 e5 hj _ => ev_op (ev_var rfl) (ev_var rfl) (rv_eq rfl))
        have e0 : given (28 : Int).toNat (fun _ => true) (fun j => V.bl (decide (V.int (i : Int) = V.int (j : Int)))) = (mrk i).map V.bl := by
          unfold given mrk
          rw [List.filter_eq_self.mpr (fun _ _ => rfl), List.map_map]
          refine List.map_congr_left fun j _ => ?_
          have e1 : decide (V.int (i : Int) = V.int (j : Int)) = (i == j) := by
            rw [Bool.eq_iff_iff, decide_eq_true_eq, beq_iff_eq]
            constructor
            · intro z
              cases z
              rfl
            · intro z
              rw [z]
          rw [e1] <;> rfl
        rw [e0] at g
        exact g
      · have s1 : SeqAt.shaped (.list (rowD mrk 28)) = true := by decide +kernel
        have d1 := rows_dp (K := K) (rb := mrk) (rws_ex r2 (e3.trans e4))
        have d2 := rows_dp (K := K) (rb := mrk) r4
        rw [l2] at d1
        rw [l4] at d2
        exact rv_eqD (H := H4) (.lst (sq_of ((e3.trans e4) _ _ h2)) d1) (.lst (sq_of h4) d2) s1 H4 (Ex.refl _) _ fun H5 e5 => k H5 (e4.trans e5)

  case len =>
    obtain ⟨rfl, _⟩ := h
    rfl
end
end K10
set_option Elab.async false
set_option linter.all false
set_option maxRecDepth 100000
set_option maxHeartbeats 4000000
namespace K10
open PySem PySem.Spec PyProof.Rows L2 Evl
section
variable {P : Program} {w : World} {K : PySem.W.Frag} {mg : Str → Option Value} {base : Heap} {fd : Nat → FuncData}
end
section
variable {K : PySem.W.Frag} {σ : L2.St} {H H' H0 : Hp} {ta tb te tx tl : TE} {v : V} {a : Addr} {d d1 d2 : PyData}
theorem sm_two (s1 : Sm 100 d1) (s2 : Sm 100 d2) (p1 : d1.depth ≤ 10) (p2 : d2.depth ≤ 10) : Sm 202 (.list [d1, d2]) := by
  refine ⟨?_, ?_, ?_, ?_⟩
  · simp only [PyData.showable, PyData.showableAll, s1.sh, s2.sh, Bool.and_true]
  · simp only [PyData.leavesShort, PyData.leavesShortAll, s1.lv, s2.lv, Bool.and_true]
  · have := s1.bk
    have := s2.bk
    simp only [PyData.bulk, PyData.bulkAll]
    omega
  · simp only [PyData.depth, PyData.depthAll]
    omega
theorem ev_isof {i n : Nat} {x : Str} {E : XK} (h : Ev te σ H (.ref a)) (hl : EvL tl σ H ([n == 0, n == 1, n == 2, n == 3].map V.bl)) (hi : (all28.zip fam28)[i]? = some (x, n)) (he : EAt K H a x) : Ev (tCall (spOf K) [] E (tCons te (tCons tl tNil))) σ H (.bl true) := fun H1 e Q q =>
  h H1 e _ fun H2 e2 => hl H2 (e.trans e2) _ fun l H3 _ e3 h3 => ⟨a, l, i, x, n, rfl, hi, he.ex ((e.trans e2).trans e3), h3, fun H4 e4 => q H4 ((e2.trans e3).trans e4)⟩
theorem rv_neS (x : Str) : RV rNe (.str x) (.str x) H (.bl false) := by
  have g := rv_ne (H := H) (x := .str x) (y := .str x) rfl
  rw [decide_eq_true rfl] at g
  exact g
end
section
variable {P : Program} {w : World} {K : PySem.W.Frag} {mg : Str → Option Value} {base : Heap} {fd : Nat → FuncData}
def spGd (K : PySem.W.Frag) : Sp := fun vs H Q _ => ∃ (v : V) (d : PyData), vs = [v] ∧ Gd K H v d ∧ RetV (.bl true) H Q
def spGd2 (K : PySem.W.Frag) : Sp := fun vs H Q _ => ∃ (v u : V) (d e : PyData), vs = [v, u] ∧ Gd K H v d ∧ Gd K H u e ∧ RetV (.bl true) H Q
theorem isC_ge {H : Hp} {v : V} {t : String} (k : Ky H v t) (h : isI v = true) : ∃ i, v = .int i ∧ isC v = decide (0 ≤ i) := by
  obtain ⟨i, rfl⟩ := isI_int k h
  refine ⟨i, rfl, ?_⟩
  show (isI (.int i) && decide (0 ≤ i)) = decide (0 ≤ i)
  rfl
theorem sc_law_kinds_right : FnScope ["_law_some_here", "_law_one", "_law_whole", "_law_due", "_law_told", "_law_named"] ["_law_some_here"] (defScope (topS 46)) := ⟨rfl, rfl, rfl, by decide +kernel, rfl, by decide +kernel, by decide +kernel⟩
theorem ok_law_kinds_right (T : Tx K mg fd) : FnOkG P w K mg base CX0 3 (He.ga K "_law_kinds_right") (fd 8) ["_law_some_here"] (spVals K) := by
  refine (T.df 8 46 "_law_kinds_right" rfl).okG sc_law_kinds_right (fun vs H Q E h => ?len) (fun cdv A outer s H vs Q E hG hr h => ?body)
  case body =>
    refine ⟨_, (pss_cons (ps_for PassesOwn.never rfl (pi_list (pv 0)) (pg_name (i := 1) sc_law_kinds_right.nd rfl (Or.inl rfl)) (pss_cons (ps_set (i := 2) sc_law_kinds_right.nd rfl (Or.inl rfl) (pe_and (pe_callB call_isi (by rfl) (T.fr 23 "isinstance" rfl) (by decide +kernel) (pa_cons (pv 1) (pa_cons (pe_bltn (v := V.ty "int") (by rfl) (T.fr 24 "int" rfl) (by decide +kernel) rfl) pa_nil))) (pe_one (pe_not (pe_callB call_isi (by rfl) (T.fr 23 "isinstance" rfl) (by decide +kernel) (pa_cons (pv 1) (pa_cons (pe_bltn (v := V.ty "bool") (by rfl) (T.fr 25 "bool" rfl) (by decide +kernel) rfl) pa_nil))))))) (pss_cons (ps_set (i := 3) sc_law_kinds_right.nd rfl (Or.inl rfl) (pe_lst (pa_cons (pv 2) (pa_cons (pe_and (pv 2) (pe_one (pe_cmpR op_ge (pv 1) pe_int (nomark _)))) (pa_cons (pe_call (ok_law_is_name T) (hr.mono (by decide)) (by rfl) (T.gl 9 "_law_is_name" rfl) (T.df 7 45 "_law_is_name" rfl).kp ((T.df 7 45 "_law_is_name" rfl).binds (ps := ["_law_value_there"]) fun _ _ _ _ _ _ us hl => match us, hl with | [_], _ => rfl) .nil pass0 (pa_cons (pv 1) pa_nil)) pa_nil))))) (pss_cons (ps_set (i := 4) sc_law_kinds_right.nd rfl (Or.inl rfl) (pe_lst (pa_cons (pe_call (okis_integer T) (hr.mono (by decide)) (by rfl) (T.gl 2 "is_integer" rfl) (T.df 0 3 "is_integer" rfl).kp ((T.df 0 3 "is_integer" rfl).binds (ps := ["value"]) fun _ _ _ _ _ _ us hl => match us, hl with | [_], _ => rfl) .nil pass0 (pa_cons (pv 1) pa_nil)) (pa_cons (pe_call (okis_count T) (hr.mono (by decide)) (by rfl) (T.gl 3 "is_count" rfl) (T.df 1 4 "is_count" rfl).kp ((T.df 1 4 "is_count" rfl).binds (ps := ["value"]) fun _ _ _ _ _ _ us hl => match us, hl with | [_], _ => rfl) .nil pass0 (pa_cons (pv 1) pa_nil)) (pa_cons (pe_call (okis_name T) (hr.mono (by decide)) (by rfl) (T.gl 4 "is_name" rfl) (T.df 2 5 "is_name" rfl).kp ((T.df 2 5 "is_name" rfl).binds (ps := ["value"]) fun _ _ _ _ _ _ us hl => match us, hl with | [_], _ => rfl) .nil pass0 (pa_cons (pv 1) pa_nil)) pa_nil))))) (pss_cons (ps_set (i := 5) sc_law_kinds_right.nd rfl (Or.inl rfl) (pe_lst (pa_cons (pe_callN0 (okis_integer T) (hr.mono (by decide)) (by rfl) (T.gl 2 "is_integer" rfl) (T.df 0 3 "is_integer" rfl).kp (kbis_integer (T.df 0 3 "is_integer" rfl)) pass0 (pk_cons (pv 1) pk_nil)) (pa_cons (pe_callN0 (okis_count T) (hr.mono (by decide)) (by rfl) (T.gl 3 "is_count" rfl) (T.df 1 4 "is_count" rfl).kp (kbis_count (T.df 1 4 "is_count" rfl)) pass0 (pk_cons (pv 1) pk_nil)) (pa_cons (pe_callN0 (okis_name T) (hr.mono (by decide)) (by rfl) (T.gl 4 "is_name" rfl) (T.df 2 5 "is_name" rfl).kp (kbis_name (T.df 2 5 "is_name" rfl)) pass0 (pk_cons (pv 1) pk_nil)) pa_nil))))) (pss_one (ps_if (pt_cmpR op_ne (pe_callB (call_repr hG hr.units) (by rfl) (T.fr 29 "repr" rfl) (by decide +kernel) (pa_cons (pe_lst (pa_cons (pv 4) (pa_cons (pv 5) pa_nil))) pa_nil)) (pe_callB (call_repr hG hr.units) (by rfl) (T.fr 29 "repr" rfl) (by decide +kernel) (pa_cons (pe_lst (pa_cons (pv 3) (pa_cons (pv 3) pa_nil))) pa_nil)) (nomark _)) (pss_one (ps_ret pe_bl)) pss_nil))))))) (pss_one (ps_ret pe_bl))), ?_⟩
    obtain ⟨a, xs, rfl, hx, hg, q⟩ := h
    refine q_forLn (ev_var rfl) (sq_of hx) (fun _ σ' H' => Ex H H' ∧ ∃ o1 o2 o3 o4 o5, σ' = [some (.ref a), o1, o2, o3, o4, o5]) (fun H1 e1 => ⟨e1, _, _, _, _, _, rfl⟩) (fun i σ' H' _ p => sq_of (p.1 _ _ hx)) (fun i x σ' H' hi p => ?_) (fun σ' H' p => s_ret ev_c fun H2 e2 => q.go (p.1.trans e2))
    obtain ⟨e1, o1, o2, o3, o4, o5, rfl⟩ := p
    obtain ⟨d, gx⟩ := hg x (List.mem_of_getElem? hi)
    have gx := gx.ex e1
    have hz := gx.str
    obtain ⟨tx, kx⟩ := gx.k
    have spI : ∀ f, SpV (spV1 f) [x] H' (.bl (f x)) := fun f H9 e9 Q9 q9 E9 => ⟨x, tx, rfl, kx.ex e9, hz, q9⟩
    refine q_asg (v := .bl (isI x)) (ev_andV (ev_isi (ev_var rfl) kx kx.int_ ev_c) fun _ => ev_notV (ev_isi (ev_var rfl) kx kx.bool_ ev_c)) fun H1 f1 => ?_
    refine q_asgL (xs := [isI x, isC x, isN x].map V.bl) (el_lst (ea_cons (ev_var rfl) (ea_cons (ev_is (ev_andV (a := isI x) (b := ge0 x) (ev_var rfl) fun hb => ?_) (by rfl)) (ea_cons (ev_call0 (ea_cons (ev_var rfl) ea_nil) (fun H9 e9 => spI isN H9 (f1.trans e9))) ea_nil))) (by show 3 ≤ 100000; decide)) fun p1 H2 hp1 f2 h1 => ?_
    · obtain ⟨i, rfl⟩ := isI_int kx hb
      exact ev_op (ev_var rfl) ev_c rv_I0
    refine q_asgL (xs := [isI x, isC x, isN x].map V.bl) (el_lst (ea_cons (ev_call0 (ea_cons (ev_var rfl) ea_nil) (fun H9 e9 => spI isI H9 ((f1.trans f2).trans e9))) (ea_cons (ev_call0 (ea_cons (ev_var rfl) ea_nil) (fun H9 e9 => spI isC H9 ((f1.trans f2).trans e9))) (ea_cons (ev_call0 (ea_cons (ev_var rfl) ea_nil) (fun H9 e9 => spI isN H9 ((f1.trans f2).trans e9))) ea_nil))) (by show 3 ≤ 100000; decide)) fun p2 H3 hp2 f3 h2 => ?_
    refine q_asgL (xs := [isI x, isC x, isN x].map V.bl) (el_lst (ea_cons (ev_callK (ea_cons (ev_var rfl) ea_nil) rfl (fun H9 e9 => spI isI H9 (((f1.trans f2).trans f3).trans e9))) (ea_cons (ev_callK (ea_cons (ev_var rfl) ea_nil) rfl (fun H9 e9 => spI isC H9 (((f1.trans f2).trans f3).trans e9))) (ea_cons (ev_callK (ea_cons (ev_var rfl) ea_nil) rfl (fun H9 e9 => spI isN H9 (((f1.trans f2).trans f3).trans e9))) ea_nil))) (by show 3 ≤ 100000; decide)) fun p3 H4 hp3 f4 h3 => ?_
    have sb : Sm 100 (.list [.list ([isI x, isC x, isN x].map PyData.bool), .list ([isI x, isC x, isN x].map PyData.bool)]) := ⟨rfl, rfl, Nat.le_of_ble_eq_true rfl, Nat.le_of_ble_eq_true rfl⟩
    have dq : ∀ (p : Addr) (G : Hp), G p = some (.lst ([isI x, isC x, isN x].map V.bl)) → Dq K G (.ref p) (.list ([isI x, isC x, isN x].map PyData.bool)) := fun p G h => .lst (sq_of h) (dq_bools G _)
    refine s_when (b := false) (et_test (ev_op (ev_reprL (el_lst (ea_cons (ev_var rfl) (ea_cons (ev_var rfl) ea_nil)) (by show 2 ≤ 100000; decide)) (fun G g => .cons (dq p2 G (g _ _ (f4 _ _ h2))) (.cons (dq p3 G (g _ _ h3)) .nil)) sb (by decide)) (ev_reprL (el_lst (ea_cons (ev_var rfl) (ea_cons (ev_var rfl) ea_nil)) (by show 2 ≤ 100000; decide)) (fun G g => .cons (dq p1 G ((f3.trans f4).trans g _ _ h1)) (.cons (dq p1 G ((f3.trans f4).trans g _ _ h1)) .nil)) sb (by decide)) (rv_neS _))) (fun z => nomatch z) fun _ H5 f5 => ?_
    exact ⟨((((e1.trans f1).trans f2).trans f3).trans f4).trans f5, _, _, _, _, _, rfl⟩

  case len =>
    obtain ⟨a, xs, rfl, _⟩ := h
    rfl
theorem sc_law_valued_right : FnScope ["_law_one", "_law_some_here", "_law_e"] ["_law_one"] (defScope (topS 47)) := ⟨rfl, rfl, rfl, by decide +kernel, rfl, by decide +kernel, by decide +kernel⟩
theorem ok_law_valued_right (T : Tx K mg fd) : FnOkG P w K mg base CX0 3 (He.ga K "_law_valued_right") (fd 9) ["_law_one"] (spGd K) := by
  refine (T.df 9 47 "_law_valued_right" rfl).okG sc_law_valued_right (fun vs H Q E h => ?len) (fun cdv A outer s H vs Q E hG hr h => ?body)
  case body =>
    refine ⟨_, (pss_cons (ps_set (i := 1) sc_law_valued_right.nd rfl (Or.inl rfl) (pe_lst (pa_cons (pe_er1 (T.e1 0 _ rfl) (hr.mono (by decide)) (by rfl) (pv 0)) (pa_cons (pe_er1 (T.e1 1 _ rfl) (hr.mono (by decide)) (by rfl) (pv 0)) (pa_cons (pe_er1 (T.e1 2 _ rfl) (hr.mono (by decide)) (by rfl) (pv 0)) (pa_cons (pe_er1 (T.e1 3 _ rfl) (hr.mono (by decide)) (by rfl) (pv 0)) (pa_cons (pe_er1 (T.e1 4 _ rfl) (hr.mono (by decide)) (by rfl) (pv 0)) pa_nil))))))) (pss_cons (ps_set (i := 1) sc_law_valued_right.nd rfl (Or.inl rfl) (pe_op op_cat (pv 1) (pe_lst (pa_cons (pe_er1 (T.e1 5 _ rfl) (hr.mono (by decide)) (by rfl) (pv 0)) (pa_cons (pe_er1 (T.e1 6 _ rfl) (hr.mono (by decide)) (by rfl) (pv 0)) (pa_cons (pe_er1 (T.e1 7 _ rfl) (hr.mono (by decide)) (by rfl) (pv 0)) (pa_cons (pe_er1 (T.e1 8 _ rfl) (hr.mono (by decide)) (by rfl) (pv 0)) (pa_cons (pe_er1 (T.e1 9 _ rfl) (hr.mono (by decide)) (by rfl) (pv 0)) pa_nil)))))))) (pss_cons (ps_set (i := 1) sc_law_valued_right.nd rfl (Or.inl rfl) (pe_op op_cat (pv 1) (pe_lst (pa_cons (pe_er1 (T.e1 10 _ rfl) (hr.mono (by decide)) (by rfl) (pv 0)) (pa_cons (pe_er1k (T.e1 0 _ rfl) (hr.mono (by decide)) (by rfl) (pv 0)) (pa_cons (pe_er1k (T.e1 8 _ rfl) (hr.mono (by decide)) (by rfl) (pv 0)) (pa_cons (pe_er1k (T.e1 10 _ rfl) (hr.mono (by decide)) (by rfl) (pv 0)) pa_nil))))))) (pss_cons (ps_for PassesOwn.never rfl (pi_list (pv 1)) (pg_name (i := 2) sc_law_valued_right.nd rfl (Or.inl rfl)) (pss_one (ps_if (PW.pt (pw_or (pt_cmpR op_ne (pe_callB (call_repr hG hr.units) (by rfl) (T.fr 29 "repr" rfl) (by decide +kernel) (pa_cons (pe_efd (pv 2)) pa_nil)) (pe_callB (call_repr hG hr.units) (by rfl) (T.fr 29 "repr" rfl) (by decide +kernel) (pa_cons (pv 0) pa_nil)) (nomark _)) (pw_or1 (pt_not (pt_val (pe_call (ok_law_is_of T) (hr.mono (by decide)) (by rfl) (T.gl 12 "_law_is_of" rfl) (T.df 10 48 "_law_is_of" rfl).kp ((T.df 10 48 "_law_is_of" rfl).binds (ps := ["_law_e", "_law_kinds"]) fun _ _ _ _ _ _ us hl => match us, hl with | [_, _], _ => rfl) .nil pass0 (pa_cons (pv 2) (pa_cons (pe_lst (pa_cons pe_bl (pa_cons pe_bl (pa_cons pe_bl (pa_cons pe_bl pa_nil))))) pa_nil)))))))) (pss_one (ps_ret pe_bl)) pss_nil))) (pss_cons (ps_for PassesOwn.never rfl (pi_list (pe_lst (pa_cons (pe_er1 (T.e1 17 _ rfl) (hr.mono (by decide)) (by rfl) (pv 0)) (pa_cons (pe_er1 (T.e1 18 _ rfl) (hr.mono (by decide)) (by rfl) (pv 0)) (pa_cons (pe_er1k (T.e1 17 _ rfl) (hr.mono (by decide)) (by rfl) (pv 0)) (pa_cons (pe_er1k (T.e1 18 _ rfl) (hr.mono (by decide)) (by rfl) (pv 0)) pa_nil)))))) (pg_name (i := 2) sc_law_valued_right.nd rfl (Or.inl rfl)) (pss_one (ps_if (PW.pt (pw_or (pt_cmpR op_ne (pe_callB (call_repr hG hr.units) (by rfl) (T.fr 29 "repr" rfl) (by decide +kernel) (pa_cons (pe_efd (pv 2)) pa_nil)) (pe_callB (call_repr hG hr.units) (by rfl) (T.fr 29 "repr" rfl) (by decide +kernel) (pa_cons (pv 0) pa_nil)) (nomark _)) (pw_or1 (pt_not (pt_val (pe_call (ok_law_is_of T) (hr.mono (by decide)) (by rfl) (T.gl 12 "_law_is_of" rfl) (T.df 10 48 "_law_is_of" rfl).kp ((T.df 10 48 "_law_is_of" rfl).binds (ps := ["_law_e", "_law_kinds"]) fun _ _ _ _ _ _ us hl => match us, hl with | [_, _], _ => rfl) .nil pass0 (pa_cons (pv 2) (pa_cons (pe_lst (pa_cons pe_bl (pa_cons pe_bl (pa_cons pe_bl (pa_cons pe_bl pa_nil))))) pa_nil)))))))) (pss_one (ps_ret pe_bl)) pss_nil))) (pss_cons (ps_for PassesOwn.never rfl (pi_list (pe_lst (pa_cons (pe_er1 (T.e1 19 _ rfl) (hr.mono (by decide)) (by rfl) (pv 0)) (pa_cons (pe_er1 (T.e1 20 _ rfl) (hr.mono (by decide)) (by rfl) (pv 0)) (pa_cons (pe_er1k (T.e1 19 _ rfl) (hr.mono (by decide)) (by rfl) (pv 0)) (pa_cons (pe_er1k (T.e1 20 _ rfl) (hr.mono (by decide)) (by rfl) (pv 0)) pa_nil)))))) (pg_name (i := 2) sc_law_valued_right.nd rfl (Or.inl rfl)) (pss_one (ps_if (PW.pt (pw_or (pt_cmpR op_ne (pe_callB (call_repr hG hr.units) (by rfl) (T.fr 29 "repr" rfl) (by decide +kernel) (pa_cons (pe_efd (pv 2)) pa_nil)) (pe_callB (call_repr hG hr.units) (by rfl) (T.fr 29 "repr" rfl) (by decide +kernel) (pa_cons (pv 0) pa_nil)) (nomark _)) (pw_or1 (pt_not (pt_val (pe_call (ok_law_is_of T) (hr.mono (by decide)) (by rfl) (T.gl 12 "_law_is_of" rfl) (T.df 10 48 "_law_is_of" rfl).kp ((T.df 10 48 "_law_is_of" rfl).binds (ps := ["_law_e", "_law_kinds"]) fun _ _ _ _ _ _ us hl => match us, hl with | [_, _], _ => rfl) .nil pass0 (pa_cons (pv 2) (pa_cons (pe_lst (pa_cons pe_bl (pa_cons pe_bl (pa_cons pe_bl (pa_cons pe_bl pa_nil))))) pa_nil)))))))) (pss_one (ps_ret pe_bl)) pss_nil))) (pss_one (ps_ret pe_bl)))))))), ?_⟩
    obtain ⟨v, d, rfl, gv, q⟩ := h
    refine q_asgP (Ps := List.replicate 5 (E1 K 0 "value" v)) (elp_lst (eap_cons (evp_er1 (fam := 0) (i := 8) (T.e1 0 _ rfl) rfl (ev_var rfl)) (eap_cons (evp_er1 (fam := 0) (i := 4) (T.e1 1 _ rfl) rfl (ev_var rfl)) (eap_cons (evp_er1 (fam := 0) (i := 10) (T.e1 2 _ rfl) rfl (ev_var rfl)) (eap_cons (evp_er1 (fam := 0) (i := 13) (T.e1 3 _ rfl) rfl (ev_var rfl)) (eap_cons (evp_er1 (fam := 0) (i := 6) (T.e1 4 _ rfl) rfl (ev_var rfl)) eap_nil))))) (by show 5 ≤ 100000; decide)) fun vs p H1 hp e1 hs h1 => ?_
    refine q_asgP (Ps := List.replicate 10 (E1 K 0 "value" v)) (elp_cat (Ps := List.replicate 5 (E1 K 0 "value" v)) (Qs := List.replicate 5 (E1 K 0 "value" v)) (ev_var rfl) h1 hs (elp_lst (eap_cons (evp_er1 (fam := 0) (i := 11) (T.e1 5 _ rfl) rfl (ev_var rfl)) (eap_cons (evp_er1 (fam := 0) (i := 12) (T.e1 6 _ rfl) rfl (ev_var rfl)) (eap_cons (evp_er1 (fam := 0) (i := 3) (T.e1 7 _ rfl) rfl (ev_var rfl)) (eap_cons (evp_er1 (fam := 0) (i := 15) (T.e1 8 _ rfl) rfl (ev_var rfl)) (eap_cons (evp_er1 (fam := 0) (i := 1) (T.e1 9 _ rfl) rfl (ev_var rfl)) eap_nil))))) (by show 5 ≤ 100000; decide)) (by show 5 + 5 ≤ 100000; decide)) fun vs p2 H2 hp2 e2 hs h2 => ?_
    refine q_asgP (Ps := List.replicate 14 (E1 K 0 "value" v)) (elp_cat (Ps := List.replicate 10 (E1 K 0 "value" v)) (Qs := List.replicate 4 (E1 K 0 "value" v)) (ev_var rfl) h2 hs (elp_lst (eap_cons (evp_er1 (fam := 0) (i := 2) (T.e1 10 _ rfl) rfl (ev_var rfl)) (eap_cons (evp_er1 (fam := 0) (i := 8) (T.e1 0 _ rfl) rfl (ev_var rfl)) (eap_cons (evp_er1 (fam := 0) (i := 15) (T.e1 8 _ rfl) rfl (ev_var rfl)) (eap_cons (evp_er1 (fam := 0) (i := 2) (T.e1 10 _ rfl) rfl (ev_var rfl)) eap_nil)))) (by show 4 ≤ 100000; decide)) (by show 10 + 4 ≤ 100000; decide)) fun vs p3 H3 hp3 e3 hs h3 => ?_
    have x3 := (e1.trans e2).trans e3
    refine q_forV (P := E1 K 0 "value" v) (ev_var rfl) h3 hs.rep ⟨none, rfl⟩ (fun u H4 e4 hu => ?_) fun o4 H4 e4 => ?_
    · have y4 := x3.trans e4
      obtain ⟨i, x, b, dx, hi, rfl, c, no, hb, hdx⟩ := hu
      refine s_when (b := false) (et_or (a := false) (b := false) (et_test (ev_op (ev_repr (ev_efd (ev_var rfl) c no hb hdx rfl) (fun G g => dq_ex (y4.trans g) gv.q) gv.s (by decide)) (ev_repr (ev_var rfl) (fun G g => dq_ex (y4.trans g) gv.q) gv.s (by decide)) (rv_neS _))) fun _ => et_not (a := true) (et_B (ev_isof (n := 0) (ev_var rfl) (el_lst (ea_cons ev_c (ea_cons ev_c (ea_cons ev_c (ea_cons ev_c ea_nil)))) (by show 4 ≤ 100000; decide)) hi ⟨c, .inr ⟨dx, _, hb, hdx⟩⟩))) (fun z => nomatch z) fun _ H9 e9 => ?_
      exact ⟨e4.trans e9, _, rfl⟩
    have x4 := x3.trans e4
    refine q_forN (n := 4) (P := E1 K 1 "value" v) (elp_lst (eap_cons (evp_er1 (fam := 1) (i := 27) (T.e1 17 _ rfl) rfl (ev_var rfl)) (eap_cons (evp_er1 (fam := 1) (i := 26) (T.e1 18 _ rfl) rfl (ev_var rfl)) (eap_cons (evp_er1 (fam := 1) (i := 27) (T.e1 17 _ rfl) rfl (ev_var rfl)) (eap_cons (evp_er1 (fam := 1) (i := 26) (T.e1 18 _ rfl) rfl (ev_var rfl)) eap_nil)))) (by show 4 ≤ 100000; decide)) ⟨o4, rfl⟩ (fun H0 u H5 e0 e5 hu => ?_) fun o5 H5 e5 => ?_
    · have y5 := (x4.trans e0).trans e5
      obtain ⟨i, x, b, dx, hi, rfl, c, no, hb, hdx⟩ := hu
      refine s_when (b := false) (et_or (a := false) (b := false) (et_test (ev_op (ev_repr (ev_efd (ev_var rfl) c no hb hdx rfl) (fun G g => dq_ex (y5.trans g) gv.q) gv.s (by decide)) (ev_repr (ev_var rfl) (fun G g => dq_ex (y5.trans g) gv.q) gv.s (by decide)) (rv_neS _))) fun _ => et_not (a := true) (et_B (ev_isof (n := 1) (ev_var rfl) (el_lst (ea_cons ev_c (ea_cons ev_c (ea_cons ev_c (ea_cons ev_c ea_nil)))) (by show 4 ≤ 100000; decide)) hi ⟨c, .inr ⟨dx, _, hb, hdx⟩⟩))) (fun z => nomatch z) fun _ H9 e9 => ?_
      exact ⟨e5.trans e9, _, rfl⟩
    have x5 := x4.trans e5
    refine q_forN (n := 4) (P := E1 K 2 "value" v) (elp_lst (eap_cons (evp_er1 (fam := 2) (i := 18) (T.e1 19 _ rfl) rfl (ev_var rfl)) (eap_cons (evp_er1 (fam := 2) (i := 24) (T.e1 20 _ rfl) rfl (ev_var rfl)) (eap_cons (evp_er1 (fam := 2) (i := 18) (T.e1 19 _ rfl) rfl (ev_var rfl)) (eap_cons (evp_er1 (fam := 2) (i := 24) (T.e1 20 _ rfl) rfl (ev_var rfl)) eap_nil)))) (by show 4 ≤ 100000; decide)) ⟨o5, rfl⟩ (fun H0 u H6 e0 e6 hu => ?_) fun o6 H6 e6 => ?_
    · have y6 := (x5.trans e0).trans e6
      obtain ⟨i, x, b, dx, hi, rfl, c, no, hb, hdx⟩ := hu
      refine s_when (b := false) (et_or (a := false) (b := false) (et_test (ev_op (ev_repr (ev_efd (ev_var rfl) c no hb hdx rfl) (fun G g => dq_ex (y6.trans g) gv.q) gv.s (by decide)) (ev_repr (ev_var rfl) (fun G g => dq_ex (y6.trans g) gv.q) gv.s (by decide)) (rv_neS _))) fun _ => et_not (a := true) (et_B (ev_isof (n := 2) (ev_var rfl) (el_lst (ea_cons ev_c (ea_cons ev_c (ea_cons ev_c (ea_cons ev_c ea_nil)))) (by show 4 ≤ 100000; decide)) hi ⟨c, .inr ⟨dx, _, hb, hdx⟩⟩))) (fun z => nomatch z) fun _ H9 e9 => ?_
      exact ⟨e6.trans e9, _, rfl⟩
    exact s_ret ev_c fun H8 e8 => q.go ((x5.trans e6).trans e8)

  case len =>
    obtain ⟨v, d, rfl, _⟩ := h
    rfl
theorem sc_law_placed_right : FnScope ["_law_one", "_law_some_here", "_law_e"] ["_law_one"] (defScope (topS 49)) := ⟨rfl, rfl, rfl, by decide +kernel, rfl, by decide +kernel, by decide +kernel⟩
theorem ok_law_placed_right (T : Tx K mg fd) : FnOkG P w K mg base CX0 3 (He.ga K "_law_placed_right") (fd 11) ["_law_one"] (spGd K) := by
  refine (T.df 11 49 "_law_placed_right" rfl).okG sc_law_placed_right (fun vs H Q E h => ?len) (fun cdv A outer s H vs Q E hG hr h => ?body)
  case body =>
    refine ⟨_, (pss_cons (ps_set (i := 1) sc_law_placed_right.nd rfl (Or.inl rfl) (pe_lst (pa_cons (pe_er1 (T.e1 11 _ rfl) (hr.mono (by decide)) (by rfl) (pv 0)) (pa_cons (pe_er1 (T.e1 12 _ rfl) (hr.mono (by decide)) (by rfl) (pv 0)) (pa_cons (pe_er1 (T.e1 13 _ rfl) (hr.mono (by decide)) (by rfl) (pv 0)) (pa_cons (pe_er1 (T.e1 14 _ rfl) (hr.mono (by decide)) (by rfl) (pv 0)) (pa_cons (pe_er1 (T.e1 15 _ rfl) (hr.mono (by decide)) (by rfl) (pv 0)) pa_nil))))))) (pss_cons (ps_set (i := 1) sc_law_placed_right.nd rfl (Or.inl rfl) (pe_op op_cat (pv 1) (pe_lst (pa_cons (pe_er1k (T.e1 11 _ rfl) (hr.mono (by decide)) (by rfl) (pv 0)) (pa_cons (pe_er1k (T.e1 15 _ rfl) (hr.mono (by decide)) (by rfl) (pv 0)) pa_nil))))) (pss_cons (ps_for PassesOwn.never rfl (pi_list (pv 1)) (pg_name (i := 2) sc_law_placed_right.nd rfl (Or.inl rfl)) (pss_one (ps_if (PW.pt (pw_or (pt_cmpR op_ne (pe_callB (call_repr hG hr.units) (by rfl) (T.fr 29 "repr" rfl) (by decide +kernel) (pa_cons (pe_efd (pv 2)) pa_nil)) (pe_callB (call_repr hG hr.units) (by rfl) (T.fr 29 "repr" rfl) (by decide +kernel) (pa_cons (pv 0) pa_nil)) (nomark _)) (pw_or1 (pt_not (pt_val (pe_call (ok_law_is_of T) (hr.mono (by decide)) (by rfl) (T.gl 12 "_law_is_of" rfl) (T.df 10 48 "_law_is_of" rfl).kp ((T.df 10 48 "_law_is_of" rfl).binds (ps := ["_law_e", "_law_kinds"]) fun _ _ _ _ _ _ us hl => match us, hl with | [_, _], _ => rfl) .nil pass0 (pa_cons (pv 2) (pa_cons (pe_lst (pa_cons pe_bl (pa_cons pe_bl (pa_cons pe_bl (pa_cons pe_bl pa_nil))))) pa_nil)))))))) (pss_one (ps_ret pe_bl)) pss_nil))) (pss_cons (ps_for PassesOwn.never rfl (pi_list (pe_lst (pa_cons (pe_er1 (T.e1 16 _ rfl) (hr.mono (by decide)) (by rfl) (pv 0)) (pa_cons (pe_er1k (T.e1 16 _ rfl) (hr.mono (by decide)) (by rfl) (pv 0)) pa_nil)))) (pg_name (i := 2) sc_law_placed_right.nd rfl (Or.inl rfl)) (pss_one (ps_if (PW.pt (pw_or (pt_cmpR op_ne (pe_callB (call_repr hG hr.units) (by rfl) (T.fr 29 "repr" rfl) (by decide +kernel) (pa_cons (pe_efd (pv 2)) pa_nil)) (pe_callB (call_repr hG hr.units) (by rfl) (T.fr 29 "repr" rfl) (by decide +kernel) (pa_cons (pv 0) pa_nil)) (nomark _)) (pw_or1 (pt_not (pt_val (pe_call (ok_law_is_of T) (hr.mono (by decide)) (by rfl) (T.gl 12 "_law_is_of" rfl) (T.df 10 48 "_law_is_of" rfl).kp ((T.df 10 48 "_law_is_of" rfl).binds (ps := ["_law_e", "_law_kinds"]) fun _ _ _ _ _ _ us hl => match us, hl with | [_, _], _ => rfl) .nil pass0 (pa_cons (pv 2) (pa_cons (pe_lst (pa_cons pe_bl (pa_cons pe_bl (pa_cons pe_bl (pa_cons pe_bl pa_nil))))) pa_nil)))))))) (pss_one (ps_ret pe_bl)) pss_nil))) (pss_cons (ps_for PassesOwn.never rfl (pi_list (pe_lst (pa_cons (pe_er1 (T.e1 21 _ rfl) (hr.mono (by decide)) (by rfl) (pv 0)) (pa_cons (pe_er1k (T.e1 21 _ rfl) (hr.mono (by decide)) (by rfl) (pv 0)) pa_nil)))) (pg_name (i := 2) sc_law_placed_right.nd rfl (Or.inl rfl)) (pss_one (ps_if (PW.pt (pw_or (pt_cmpR op_ne (pe_callB (call_repr hG hr.units) (by rfl) (T.fr 29 "repr" rfl) (by decide +kernel) (pa_cons (pe_efd (pv 2)) pa_nil)) (pe_callB (call_repr hG hr.units) (by rfl) (T.fr 29 "repr" rfl) (by decide +kernel) (pa_cons (pv 0) pa_nil)) (nomark _)) (pw_or1 (pt_not (pt_val (pe_call (ok_law_is_of T) (hr.mono (by decide)) (by rfl) (T.gl 12 "_law_is_of" rfl) (T.df 10 48 "_law_is_of" rfl).kp ((T.df 10 48 "_law_is_of" rfl).binds (ps := ["_law_e", "_law_kinds"]) fun _ _ _ _ _ _ us hl => match us, hl with | [_, _], _ => rfl) .nil pass0 (pa_cons (pv 2) (pa_cons (pe_lst (pa_cons pe_bl (pa_cons pe_bl (pa_cons pe_bl (pa_cons pe_bl pa_nil))))) pa_nil)))))))) (pss_one (ps_ret pe_bl)) pss_nil))) (pss_one (ps_ret pe_bl))))))), ?_⟩
    obtain ⟨v, d, rfl, gv, q⟩ := h
    refine q_asgP (Ps := List.replicate 5 (E1 K 0 "position" v)) (elp_lst (eap_cons (evp_er1 (fam := 0) (i := 5) (T.e1 11 _ rfl) rfl (ev_var rfl)) (eap_cons (evp_er1 (fam := 0) (i := 9) (T.e1 12 _ rfl) rfl (ev_var rfl)) (eap_cons (evp_er1 (fam := 0) (i := 7) (T.e1 13 _ rfl) rfl (ev_var rfl)) (eap_cons (evp_er1 (fam := 0) (i := 14) (T.e1 14 _ rfl) rfl (ev_var rfl)) (eap_cons (evp_er1 (fam := 0) (i := 17) (T.e1 15 _ rfl) rfl (ev_var rfl)) eap_nil))))) (by show 5 ≤ 100000; decide)) fun vs p H1 hp e1 hs h1 => ?_
    refine q_asgP (Ps := List.replicate 7 (E1 K 0 "position" v)) (elp_cat (Ps := List.replicate 5 (E1 K 0 "position" v)) (Qs := List.replicate 2 (E1 K 0 "position" v)) (ev_var rfl) h1 hs (elp_lst (eap_cons (evp_er1 (fam := 0) (i := 5) (T.e1 11 _ rfl) rfl (ev_var rfl)) (eap_cons (evp_er1 (fam := 0) (i := 17) (T.e1 15 _ rfl) rfl (ev_var rfl)) eap_nil)) (by show 2 ≤ 100000; decide)) (by show 5 + 2 ≤ 100000; decide)) fun vs p2 H3 hp2 e2 hs h3 => ?_
    have x3 := e1.trans e2
    refine q_forV (P := E1 K 0 "position" v) (ev_var rfl) h3 hs.rep ⟨none, rfl⟩ (fun u H4 e4 hu => ?_) fun o4 H4 e4 => ?_
    · have y4 := x3.trans e4
      obtain ⟨i, x, b, dx, hi, rfl, c, no, hb, hdx⟩ := hu
      refine s_when (b := false) (et_or (a := false) (b := false) (et_test (ev_op (ev_repr (ev_efd (ev_var rfl) c no hb hdx rfl) (fun G g => dq_ex (y4.trans g) gv.q) gv.s (by decide)) (ev_repr (ev_var rfl) (fun G g => dq_ex (y4.trans g) gv.q) gv.s (by decide)) (rv_neS _))) fun _ => et_not (a := true) (et_B (ev_isof (n := 0) (ev_var rfl) (el_lst (ea_cons ev_c (ea_cons ev_c (ea_cons ev_c (ea_cons ev_c ea_nil)))) (by show 4 ≤ 100000; decide)) hi ⟨c, .inr ⟨dx, _, hb, hdx⟩⟩))) (fun z => nomatch z) fun _ H9 e9 => ?_
      exact ⟨e4.trans e9, _, rfl⟩
    have x4 := x3.trans e4
    refine q_forN (n := 2) (P := E1 K 0 "line" v) (elp_lst (eap_cons (evp_er1 (fam := 0) (i := 16) (T.e1 16 _ rfl) rfl (ev_var rfl)) (eap_cons (evp_er1 (fam := 0) (i := 16) (T.e1 16 _ rfl) rfl (ev_var rfl)) eap_nil)) (by show 2 ≤ 100000; decide)) ⟨o4, rfl⟩ (fun H0 u H5 e0 e5 hu => ?_) fun o5 H5 e5 => ?_
    · have y5 := (x4.trans e0).trans e5
      obtain ⟨i, x, b, dx, hi, rfl, c, no, hb, hdx⟩ := hu
      refine s_when (b := false) (et_or (a := false) (b := false) (et_test (ev_op (ev_repr (ev_efd (ev_var rfl) c no hb hdx rfl) (fun G g => dq_ex (y5.trans g) gv.q) gv.s (by decide)) (ev_repr (ev_var rfl) (fun G g => dq_ex (y5.trans g) gv.q) gv.s (by decide)) (rv_neS _))) fun _ => et_not (a := true) (et_B (ev_isof (n := 0) (ev_var rfl) (el_lst (ea_cons ev_c (ea_cons ev_c (ea_cons ev_c (ea_cons ev_c ea_nil)))) (by show 4 ≤ 100000; decide)) hi ⟨c, .inr ⟨dx, _, hb, hdx⟩⟩))) (fun z => nomatch z) fun _ H9 e9 => ?_
      exact ⟨e5.trans e9, _, rfl⟩
    have x5 := x4.trans e5
    refine q_forN (n := 2) (P := E1 K 2 "position" v) (elp_lst (eap_cons (evp_er1 (fam := 2) (i := 0) (T.e1 21 _ rfl) rfl (ev_var rfl)) (eap_cons (evp_er1 (fam := 2) (i := 0) (T.e1 21 _ rfl) rfl (ev_var rfl)) eap_nil)) (by show 2 ≤ 100000; decide)) ⟨o5, rfl⟩ (fun H0 u H6 e0 e6 hu => ?_) fun o6 H6 e6 => ?_
    · have y6 := (x5.trans e0).trans e6
      obtain ⟨i, x, b, dx, hi, rfl, c, no, hb, hdx⟩ := hu
      refine s_when (b := false) (et_or (a := false) (b := false) (et_test (ev_op (ev_repr (ev_efd (ev_var rfl) c no hb hdx rfl) (fun G g => dq_ex (y6.trans g) gv.q) gv.s (by decide)) (ev_repr (ev_var rfl) (fun G g => dq_ex (y6.trans g) gv.q) gv.s (by decide)) (rv_neS _))) fun _ => et_not (a := true) (et_B (ev_isof (n := 2) (ev_var rfl) (el_lst (ea_cons ev_c (ea_cons ev_c (ea_cons ev_c (ea_cons ev_c ea_nil)))) (by show 4 ≤ 100000; decide)) hi ⟨c, .inr ⟨dx, _, hb, hdx⟩⟩))) (fun z => nomatch z) fun _ H9 e9 => ?_
      exact ⟨e6.trans e9, _, rfl⟩
    exact s_ret ev_c fun H8 e8 => q.go ((x5.trans e6).trans e8)

  case len =>
    obtain ⟨v, d, rfl, _⟩ := h
    rfl
theorem sc_law_two_right : FnScope ["_law_here", "_law_there", "_law_e"] ["_law_here", "_law_there"] (defScope (topS 50)) := ⟨rfl, rfl, rfl, by decide +kernel, rfl, by decide +kernel, by decide +kernel⟩
theorem ok_law_two_right (T : Tx K mg fd) : FnOkG P w K mg base CX0 3 (He.ga K "_law_two_right") (fd 12) ["_law_here", "_law_there"] (spGd2 K) := by
  refine (T.df 12 50 "_law_two_right" rfl).okG sc_law_two_right (fun vs H Q E h => ?len) (fun cdv A outer s H vs Q E hG hr h => ?body)
  case body =>
    refine ⟨_, (pss_cons (ps_for PassesOwn.never rfl (pi_list (pe_lst (pa_cons (pe_er2 (T.e2 0 _ rfl) (hr.mono (by decide)) (by rfl) (pv 0) (pv 1)) (pa_cons (pe_er2 (T.e2 1 _ rfl) (hr.mono (by decide)) (by rfl) (pv 0) (pv 1)) (pa_cons (pe_er2k (T.e2 0 _ rfl) (hr.mono (by decide)) (by rfl) (pv 1) (pv 0)) pa_nil))))) (pg_name (i := 2) sc_law_two_right.nd rfl (Or.inl rfl)) (pss_one (ps_if (PW.pt (pw_or (pt_cmpR op_ne (pe_callB (call_repr hG hr.units) (by rfl) (T.fr 29 "repr" rfl) (by decide +kernel) (pa_cons (pe_lst (pa_cons (pe_efd (pv 2)) (pa_cons (pe_efd (pv 2)) pa_nil))) pa_nil)) (pe_callB (call_repr hG hr.units) (by rfl) (T.fr 29 "repr" rfl) (by decide +kernel) (pa_cons (pe_lst (pa_cons (pv 0) (pa_cons (pv 1) pa_nil))) pa_nil)) (nomark _)) (pw_or1 (pt_not (pt_val (pe_call (ok_law_is_of T) (hr.mono (by decide)) (by rfl) (T.gl 12 "_law_is_of" rfl) (T.df 10 48 "_law_is_of" rfl).kp ((T.df 10 48 "_law_is_of" rfl).binds (ps := ["_law_e", "_law_kinds"]) fun _ _ _ _ _ _ us hl => match us, hl with | [_, _], _ => rfl) .nil pass0 (pa_cons (pv 2) (pa_cons (pe_lst (pa_cons pe_bl (pa_cons pe_bl (pa_cons pe_bl (pa_cons pe_bl pa_nil))))) pa_nil)))))))) (pss_one (ps_ret pe_bl)) pss_nil))) (pss_cons (ps_for PassesOwn.never rfl (pi_list (pe_lst (pa_cons (pe_er2 (T.e2 2 _ rfl) (hr.mono (by decide)) (by rfl) (pv 0) (pv 1)) (pa_cons (pe_er2k (T.e2 2 _ rfl) (hr.mono (by decide)) (by rfl) (pv 1) (pv 0)) pa_nil)))) (pg_name (i := 2) sc_law_two_right.nd rfl (Or.inl rfl)) (pss_one (ps_if (PW.pt (pw_or (pt_cmpR op_ne (pe_callB (call_repr hG hr.units) (by rfl) (T.fr 29 "repr" rfl) (by decide +kernel) (pa_cons (pe_lst (pa_cons (pe_efd (pv 2)) (pa_cons (pe_efd (pv 2)) pa_nil))) pa_nil)) (pe_callB (call_repr hG hr.units) (by rfl) (T.fr 29 "repr" rfl) (by decide +kernel) (pa_cons (pe_lst (pa_cons (pv 0) (pa_cons (pv 1) pa_nil))) pa_nil)) (nomark _)) (pw_or1 (pt_not (pt_val (pe_call (ok_law_is_of T) (hr.mono (by decide)) (by rfl) (T.gl 12 "_law_is_of" rfl) (T.df 10 48 "_law_is_of" rfl).kp ((T.df 10 48 "_law_is_of" rfl).binds (ps := ["_law_e", "_law_kinds"]) fun _ _ _ _ _ _ us hl => match us, hl with | [_, _], _ => rfl) .nil pass0 (pa_cons (pv 2) (pa_cons (pe_lst (pa_cons pe_bl (pa_cons pe_bl (pa_cons pe_bl (pa_cons pe_bl pa_nil))))) pa_nil)))))))) (pss_one (ps_ret pe_bl)) pss_nil))) (pss_cons (ps_for PassesOwn.never rfl (pi_list (pe_lst (pa_cons (pe_emkN PySem.F.excBase_RuntimeError (T.e0 0 _ rfl).2.1 (T.e0 0 _ rfl).2.2 (T.e0 0 _ rfl).1.kC (by rfl)) (pa_cons (pe_emkN PySem.F.excBase_RuntimeError (T.e0 2 _ rfl).2.1 (T.e0 2 _ rfl).2.2 (T.e0 2 _ rfl).1.kC (by rfl)) (pa_cons (pe_emkN PySem.F.excBase_RuntimeError (T.e0 1 _ rfl).2.1 (T.e0 1 _ rfl).2.2 (T.e0 1 _ rfl).1.kC (by rfl)) pa_nil))))) (pg_name (i := 2) sc_law_two_right.nd rfl (Or.inl rfl)) (pss_one (ps_if (pt_not (pt_val (pe_call (ok_law_is_of T) (hr.mono (by decide)) (by rfl) (T.gl 12 "_law_is_of" rfl) (T.df 10 48 "_law_is_of" rfl).kp ((T.df 10 48 "_law_is_of" rfl).binds (ps := ["_law_e", "_law_kinds"]) fun _ _ _ _ _ _ us hl => match us, hl with | [_, _], _ => rfl) .nil pass0 (pa_cons (pv 2) (pa_cons (pe_lst (pa_cons pe_bl (pa_cons pe_bl (pa_cons pe_bl (pa_cons pe_bl pa_nil))))) pa_nil))))) (pss_one (ps_ret pe_bl)) pss_nil))) (pss_one (ps_ret pe_bl))))), ?_⟩
    obtain ⟨v, u0, d, d2, rfl, gv, gu, q⟩ := h
    have sm := sm_two gv.s gu.s gv.d10 gu.d10
    refine q_forN (n := 3) (P := E2 K 2 "one" "other" v u0) (elp_lst (eap_cons (evp_er2 (fam := 2) (i := 23) (T.e2 0 _ rfl) rfl (ev_var rfl) (ev_var rfl)) (eap_cons (evp_er2 (fam := 2) (i := 22) (T.e2 1 _ rfl) rfl (ev_var rfl) (ev_var rfl)) (eap_cons (evp_er2k (fam := 2) (i := 23) (T.e2 0 _ rfl) rfl (ev_var rfl) (ev_var rfl)) eap_nil))) (by show 3 ≤ 100000; decide)) ⟨none, rfl⟩ (fun H0 u H4 e0 e4 hu => ?_) fun o4 H4 e4 => ?_
    · have y4 := e0.trans e4
      obtain ⟨i, x, b, dx, hi, rfl, c, no, no2, hb, hdx⟩ := hu
      have qq : ∀ G, Ex _ G → DqAll K G [v, u0] [d, d2] := fun G g => .cons (dq_ex (y4.trans g) gv.q) (.cons (dq_ex (y4.trans g) gu.q) .nil)
      refine s_when (b := false) (et_or (a := false) (b := false) (et_test (ev_op (ev_reprL (xs := [v, u0]) (el_lst (ea_cons (ev_efd (ev_var rfl) c no hb hdx rfl) (ea_cons (ev_efd (ev_var rfl) c no2 hb hdx rfl) ea_nil)) (by show 2 ≤ 100000; decide)) qq sm (by decide)) (ev_reprL (xs := [v, u0]) (el_lst (ea_cons (ev_var rfl) (ea_cons (ev_var rfl) ea_nil)) (by show 2 ≤ 100000; decide)) qq sm (by decide)) (rv_neS _))) fun _ => et_not (a := true) (et_B (ev_isof (n := 2) (ev_var rfl) (el_lst (ea_cons ev_c (ea_cons ev_c (ea_cons ev_c (ea_cons ev_c ea_nil)))) (by show 4 ≤ 100000; decide)) hi ⟨c, .inr ⟨dx, _, hb, hdx⟩⟩))) (fun z => nomatch z) fun _ H9 e9 => ?_
      exact ⟨e4.trans e9, _, rfl⟩
    refine q_forN (n := 2) (P := E2 K 3 "what" "limit" v u0) (elp_lst (eap_cons (evp_er2 (fam := 3) (i := 25) (T.e2 2 _ rfl) rfl (ev_var rfl) (ev_var rfl)) (eap_cons (evp_er2k (fam := 3) (i := 25) (T.e2 2 _ rfl) rfl (ev_var rfl) (ev_var rfl)) eap_nil)) (by show 2 ≤ 100000; decide)) ⟨o4, rfl⟩ (fun H0 u H5 e0 e5 hu => ?_) fun o5 H5 e5 => ?_
    · have y5 := (e4.trans e0).trans e5
      obtain ⟨i, x, b, dx, hi, rfl, c, no, no2, hb, hdx⟩ := hu
      have qq : ∀ G, Ex _ G → DqAll K G [v, u0] [d, d2] := fun G g => .cons (dq_ex (y5.trans g) gv.q) (.cons (dq_ex (y5.trans g) gu.q) .nil)
      refine s_when (b := false) (et_or (a := false) (b := false) (et_test (ev_op (ev_reprL (xs := [v, u0]) (el_lst (ea_cons (ev_efd (ev_var rfl) c no hb hdx rfl) (ea_cons (ev_efd (ev_var rfl) c no2 hb hdx rfl) ea_nil)) (by show 2 ≤ 100000; decide)) qq sm (by decide)) (ev_reprL (xs := [v, u0]) (el_lst (ea_cons (ev_var rfl) (ea_cons (ev_var rfl) ea_nil)) (by show 2 ≤ 100000; decide)) qq sm (by decide)) (rv_neS _))) fun _ => et_not (a := true) (et_B (ev_isof (n := 3) (ev_var rfl) (el_lst (ea_cons ev_c (ea_cons ev_c (ea_cons ev_c (ea_cons ev_c ea_nil)))) (by show 4 ≤ 100000; decide)) hi ⟨c, .inr ⟨dx, _, hb, hdx⟩⟩))) (fun z => nomatch z) fun _ H9 e9 => ?_
      exact ⟨e5.trans e9, _, rfl⟩
    have x5 := e4.trans e5
    refine q_forN (n := 3) (P := EF K 2) (elp_lst (eap_cons (evp_er0 (fam := 2) (i := 19) (T.e0 0 _ rfl).1 rfl) (eap_cons (evp_er0 (fam := 2) (i := 21) (T.e0 2 _ rfl).1 rfl) (eap_cons (evp_er0 (fam := 2) (i := 20) (T.e0 1 _ rfl).1 rfl) eap_nil))) (by show 3 ≤ 100000; decide)) ⟨o5, rfl⟩ (fun H0 u H6 e0 e6 hu => ?_) fun o6 H6 e6 => ?_
    · obtain ⟨i, x, b, hi, rfl, he⟩ := hu
      refine s_when (b := false) (et_not (a := true) (et_B (ev_isof (n := 2) (ev_var rfl) (el_lst (ea_cons ev_c (ea_cons ev_c (ea_cons ev_c (ea_cons ev_c ea_nil)))) (by show 4 ≤ 100000; decide)) hi he))) (fun z => nomatch z) fun _ H9 e9 => ?_
      exact ⟨e6.trans e9, _, rfl⟩
    exact s_ret ev_c fun H8 e8 => q.go ((x5.trans e6).trans e8)

  case len =>
    obtain ⟨v, u, d, e, rfl, _⟩ := h
    rfl
end
end K10
set_option Elab.async false
set_option linter.all false
set_option maxRecDepth 100000
set_option maxHeartbeats 4000000
namespace K10
open PySem PySem.Spec PyProof.Rows L2 Evl
section
variable {P : Program} {w : World} {K : PySem.W.Frag} {mg : Str → Option Value} {base : Heap} {fd : Nat → FuncData}
end
section
variable {K : PySem.W.Frag} {σ : L2.St} {H H' H0 : Hp} {ta : TA} {tb te tx tl : TE} {v : V} {a p : Addr} {d : PyData} {xs : List V} {ds : List PyData}
theorem gd_non : Gd K H .non .none := ⟨.non, ⟨rfl, rfl, Nat.le_of_ble_eq_true rfl, Nat.le_of_ble_eq_true rfl⟩, Nat.le_of_ble_eq_true rfl, _, .non⟩
theorem gd_bl (b : Bool) : Gd K H (.bl b) (.bool b) := ⟨.bl b, ⟨rfl, rfl, Nat.le_of_ble_eq_true rfl, Nat.le_of_ble_eq_true rfl⟩, Nat.le_of_ble_eq_true rfl, _, .bl b⟩
theorem int_sh {i : Int} (h : i.natAbs < 10 ^ 30) : PyData.showable (.int i) = true ∧ PyData.leavesShort 40 (.int i) = true := by
  refine ⟨?_, ?_⟩
  · show decide (i.natAbs.log2 < 1920) = true
    rw [decide_eq_true_eq]
    by_cases h0 : i.natAbs = 0
    · rw [h0]; decide
    · exact (Nat.log2_lt h0).mpr (Nat.lt_of_lt_of_le h (Nat.le_trans (by decide : 10 ^ 30 ≤ 2 ^ 100) (Nat.pow_le_pow_right (by decide) (by decide))))
  · show decide ((Str.ofString (toString i)).length ≤ 40) = true
    rw [decide_eq_true_eq, PySem.ofString_length]
    have := int_text_length_le10 (k := 30) (by decide) h
    omega
theorem gd_int {i : Int} (h : i.natAbs < 10 ^ 30) : Gd K H (.int i) (.int i) := ⟨.int i, ⟨(int_sh h).1, (int_sh h).2, Nat.le_of_ble_eq_true rfl, Nat.le_of_ble_eq_true rfl⟩, Nat.le_of_ble_eq_true rfl, _, .int i⟩
theorem gd_str {x : Str} (h : x.cps.size ≤ 100) (h2 : (x.cps.toList.all fun c => decide (c < 16 ^ 8)) = true) : Gd K H (.str x) (.str x) := ⟨.str x, ⟨rfl, h2, h, Nat.le_of_ble_eq_true rfl⟩, Nat.le_of_ble_eq_true rfl, _, .str x⟩
def GP (K : PySem.W.Frag) (p : Addr) : MP := ⟨fun v H => ∃ d, Gd K (rem p H) v d, fun e ⟨d, g⟩ => ⟨d, g.ex (rem_mono e)⟩⟩
theorem evp_c (h : ∀ G, Gd K G v d) : EvP (tC v) σ H (GP K p) := evp_of ev_c fun H1 _ => ⟨d, h _⟩
theorem evp_v (h : ∀ G, Gd K G v d) (e : Ev te σ H v) : EvP te σ H (GP K p) := evp_of e fun H1 _ => ⟨d, h _⟩
theorem evp_lst (hp : ∃ o, H p = some o) (h : EvA ta σ H xs) (hl : xs.length ≤ 100) (hd : ∀ G, DqAll K G xs ds) (s : Sm 100 (.list ds)) (hq : PyData.depth (.list ds) ≤ 10) : EvP (tLst ta) σ H (GP K p) := fun H1 e Q q =>
  el_lst h (by omega) H1 e _ fun b H2 hb e2 h2 => q _ H2 e2 (by
    obtain ⟨o, ho⟩ := hp
    have hr := rem_at h2 (ne_pot (e _ _ ho) hb)
    exact ⟨_, .lst (sq_of hr) (hd _), s, hq, _, .lst hr⟩)
theorem evp_tup (hp : ∃ o, H p = some o) (h : EvA ta σ H xs) (hl : xs.length ≤ 100) (hd : ∀ G, DqAll K G xs ds) (s : Sm 100 (.tuple ds)) (hq : PyData.depth (.tuple ds) ≤ 10) : EvP (tTup ta) σ H (GP K p) := fun H1 e Q q =>
  eu_tup h (by omega) H1 e _ fun b H2 hb e2 h2 => q _ H2 e2 (by
    obtain ⟨o, ho⟩ := hp
    have hr := rem_at h2 (ne_pot (e _ _ ho) hb)
    exact ⟨_, .tup (st_of hr) (hd _), s, hq, _, .tup hr⟩)
theorem evp_dic0 (hp : ∃ o, H p = some o) : EvP tDNewK σ H (GP K p) := fun H1 e Q q b hb => q _ _ (Ex.new hb) (by
    obtain ⟨o, ho⟩ := hp
    have hr := rem_at (o := .dK []) (upd_same (H := H1) (a := b)) (ne_pot (e _ _ ho) hb)
    exact ⟨.dict [], .dic hr rfl .nil, ⟨rfl, rfl, Nat.le_of_ble_eq_true rfl, Nat.le_of_ble_eq_true rfl⟩, Nat.le_of_ble_eq_true rfl, _, .dic hr⟩)
theorem evp_dic1 (hp : ∃ o, H p = some o) : EvP (tDisp [(tC (.str "a"), tC (.int 1))]) σ H (GP K p) := fun H1 e Q q b hb =>
  ⟨upd_same, [(.inr "a", .int 1)], rfl, by decide, by
    obtain ⟨o, ho⟩ := hp
    have e1 : Ex H1 (upd (upd H1 b (.dK [])) b (.dK (mergeK [] [(.inr "a", .int 1)]))) := Ex.mut (Ex.new hb) hb
    refine q _ _ e1 ?_
    have hr := rem_at (o := .dK [(.inr "a", .int 1)]) (H := upd (upd H1 b (.dK [])) b (.dK (mergeK [] [(.inr "a", .int 1)]))) upd_same (ne_pot (e _ _ ho) hb)
    exact ⟨.dict [(.str "a", .int 1)], .dic hr rfl (.cons (.int 1) .nil), ⟨by decide +kernel, by decide +kernel, by decide +kernel, by decide +kernel⟩, by decide +kernel, _, .dic hr⟩⟩
theorem pot_ne {o : HO} (hp : Pot H p) (ha : H a = none) : a ≠ p := by
  obtain ⟨x, y, h, _⟩ := hp.at_
  exact ne_pot h ha
theorem Pot.ex (hp : Pot H p) (e : Ex H H') : Pot H' p := let ⟨x, y, h, r⟩ := hp.at_; ⟨x, y, e _ _ h, r⟩
end
section
variable {P : Program} {w : World} {K : PySem.W.Frag} {mg : Str → Option Value} {base : Heap} {fd : Nat → FuncData}
def spValues (K : PySem.W.Frag) : Sp := fun vs H Q _ => ∃ p : Addr, vs = [.ref p] ∧ Pot H p ∧ ∀ (a : Addr) H' xs, a ≠ p → Ex (rem p H) (rem p H') → Pot H' p → H' a = some (.lst xs) → xs.length = 32 → (∀ v ∈ xs, ∃ d, Gd K (rem p H') v d) → Q (.ref a) H'
def spRight : Sp := fun vs H Q _ => ∃ p : Addr, vs = [.ref p] ∧ Pot H p ∧ ∀ H', Ex (rem p H) (rem p H') → Q (.bl true) H'
def spLaw (K : PySem.W.Frag) : Sp := fun vs H Q _ => ∃ (a : Addr) (ns : List Int), vs = [.ref a] ∧ SqL K H a (ns.map V.int) ∧ ns.length ≤ 63 ∧ ∀ H', Q (.bl true) H'
theorem sc_law_values : FnScope ["_law_pot_here", "_law_far", "_law_found"] ["_law_pot_here"] (defScope (topS 44)) := ⟨rfl, rfl, rfl, by decide +kernel, rfl, by decide +kernel, by decide +kernel⟩
theorem ok_law_values (T : Tx K mg fd) : FnOk P w K mg base CX0 3 (He.ga K "_law_values") (fd 6) ["_law_pot_here"] (spValues K) := by
  refine (T.df 6 44 "_law_values" rfl).ok sc_law_values (fun vs H Q E h => ?len) (fun cdv A outer s H vs Q E hr h => ?body)
  case body =>
    refine ⟨_, (pss_cons (ps_set (i := 1) sc_law_values.nd rfl (Or.inl rfl) (pe_op op_sub (pe_call (ok_law_draw T) (hr.mono (by decide)) (by rfl) (T.gl 6 "_law_draw" rfl) (T.df 4 41 "_law_draw" rfl).kp ((T.df 4 41 "_law_draw" rfl).binds (ps := ["_law_pot_here", "_law_many"]) fun _ _ _ _ _ _ us hl => match us, hl with | [_, _], _ => rfl) .nil pass0 (pa_cons (pv 0) (pa_cons (pe_op op_pow pe_int pe_int) pa_nil))) (pe_op op_mulW pe_int (pe_op op_pow pe_int pe_int)))) (pss_cons (ps_set (i := 2) sc_law_values.nd rfl (Or.inl rfl) (pe_lst (pa_cons pe_non (pa_cons pe_bl (pa_cons pe_bl (pa_cons pe_int (pa_cons pe_int (pa_cons (pe_un un_neg pe_int) (pa_cons (pv 1) (pa_cons (pe_op op_pow pe_int pe_int) (pa_cons (pe_un un_neg (pe_op op_pow pe_int pe_int)) (pa_cons pe_str (pa_cons pe_str (pa_cons pe_str (pa_cons pe_str (pa_cons pe_str (pa_cons pe_str (pa_cons pe_str pa_nil)))))))))))))))))) (pss_cons (ps_set (i := 2) sc_law_values.nd rfl (Or.inl rfl) (pe_op op_cat (pv 2) (pe_lst (pa_cons pe_str (pa_cons pe_str (pa_cons pe_str (pa_cons pe_str (pa_cons pe_str (pa_cons pe_str (pa_cons (pe_lst pa_nil) (pa_cons (pe_lst (pa_cons pe_str pa_nil)) (pa_cons (pe_tup pa_nil) (pa_cons (pe_tup (pa_cons pe_str (pa_cons pe_str pa_nil))) (pa_cons pe_dnewK (pa_cons (pe_disp (pps_cons pe_str pe_int pps_nil) (by rfl) (by rfl) (fun z => by cases z) (by decide)) (pa_cons (pe_lst (pa_cons pe_non pa_nil)) (pa_cons pe_str (pa_cons pe_str pa_nil)))))))))))))))))) (pss_one (ps_ret (pe_op op_cat (pv 2) (pe_lst (pa_cons (pe_call (ok_law_pick T) (hr.mono (by decide)) (by rfl) (T.gl 7 "_law_pick" rfl) (T.df 5 42 "_law_pick" rfl).kp ((T.df 5 42 "_law_pick" rfl).binds (ps := ["_law_pot_here", "_law_some_here"]) fun _ _ _ _ _ _ us hl => match us, hl with | [_, _], _ => rfl) .nil pass0 (pa_cons (pv 0) (pa_cons (pe_lst (pa_cons pe_str (pa_cons pe_str (pa_cons pe_str (pa_cons pe_str (pa_cons pe_str (pa_cons pe_str (pa_cons pe_str (pa_cons pe_str pa_nil))))))))) pa_nil))) pa_nil)))))))), ?_⟩
    obtain ⟨p, rfl, hp, q⟩ := h
    refine ⟨_, rfl, 10, 9, rfl, rfl, ⟨by decide, by decide, by decide⟩, p, _, rfl, hp, by decide, by decide, fun dg H1 e1 hp1 d0 d1 => ?_⟩
    refine (ev_op ev_c (ev_op ev_c ev_c (rv_I ⟨by decide, by decide, by decide⟩)) (rv_I (wide_mul (a := 10) (b := 40) (by decide) (by decide) (by decide) (by decide) (by decide))) : Ev _ _ H1 (.int (5 * 10 ^ (8 : Int).toNat))) H1 (Ex.refl _) _ fun H2 e2 => ⟨dg, _, rfl, rfl, ?_⟩
    have hp2 := hp1.ex e2
    have x2 := e1.trans (rem_mono e2)
    have hfar : (dg - 5 * 10 ^ (8 : Int).toNat).natAbs < 10 ^ 30 := by
      have n1 : (10 : Int) ^ (8 : Int).toNat = 100000000 := by decide
      have n2 : (10 : Int) ^ (9 : Int).toNat = 1000000000 := by decide
      rw [n2] at d1
      rw [n1]
      omega
    have po : ∃ o, H2 p = some o := let ⟨x, y, h, _⟩ := hp2.at_; ⟨_, h⟩
    show tSeq _ _ _ _ H2
    refine q_asgP (Ps := List.replicate 16 (GP K p)) (elp_lst (eap_cons (evp_c fun _ => gd_non) (eap_cons (evp_c fun _ => gd_bl _) (eap_cons (evp_c fun _ => gd_bl _) (eap_cons (evp_c fun _ => gd_int (by decide)) (eap_cons (evp_c fun _ => gd_int (by decide)) (eap_cons (evp_v (fun _ => gd_int (by decide)) (ev_un ev_c ru_neg)) (eap_cons (evp_v (fun _ => gd_int hfar) (ev_var rfl)) (eap_cons (evp_v (fun _ => gd_int (by decide)) (ev_op ev_c ev_c (rv_I ⟨by decide, by decide, by decide⟩))) (eap_cons (evp_v (fun _ => gd_int (by decide)) (ev_un (ev_op ev_c ev_c (rv_I ⟨by decide, by decide, by decide⟩)) ru_neg)) (eap_cons (evp_c fun _ => gd_str (by decide +kernel) (by decide +kernel)) (eap_cons (evp_c fun _ => gd_str (by decide +kernel) (by decide +kernel)) (eap_cons (evp_c fun _ => gd_str (by decide +kernel) (by decide +kernel)) (eap_cons (evp_c fun _ => gd_str (by decide +kernel) (by decide +kernel)) (eap_cons (evp_c fun _ => gd_str (by decide +kernel) (by decide +kernel)) (eap_cons (evp_c fun _ => gd_str (by decide +kernel) (by decide +kernel)) (eap_cons (evp_c fun _ => gd_str (by decide +kernel) (by decide +kernel)) eap_nil)))))))))))))))) (by show 16 ≤ 100000; decide)) fun vs1 p1 H3 hn1 e3 hs1 h1 => ?_
    have po3 : ∃ o, H3 p = some o := let ⟨o, h⟩ := po; ⟨o, e3 _ _ h⟩
    refine q_asgP (Ps := List.replicate 31 (GP K p)) (elp_cat (Ps := List.replicate 16 (GP K p)) (Qs := List.replicate 15 (GP K p)) (ev_var rfl) h1 hs1 (elp_lst (eap_cons (evp_c fun _ => gd_str (by decide +kernel) (by decide +kernel)) (eap_cons (evp_c fun _ => gd_str (by decide +kernel) (by decide +kernel)) (eap_cons (evp_c fun _ => gd_str (by decide +kernel) (by decide +kernel)) (eap_cons (evp_c fun _ => gd_str (by decide +kernel) (by decide +kernel)) (eap_cons (evp_c fun _ => gd_str (by decide +kernel) (by decide +kernel)) (eap_cons (evp_c fun _ => gd_str (by decide +kernel) (by decide +kernel)) (eap_cons (evp_lst po3 ea_nil (by show 0 ≤ 100; decide) (fun _ => .nil) ⟨by decide +kernel, by decide +kernel, by decide +kernel, by decide +kernel⟩ (by decide +kernel)) (eap_cons (evp_lst po3 (ea_cons ev_c ea_nil) (by show 1 ≤ 100; decide) (fun _ => (.cons (.str _) .nil)) ⟨by decide +kernel, by decide +kernel, by decide +kernel, by decide +kernel⟩ (by decide +kernel)) (eap_cons (evp_tup po3 ea_nil (by show 0 ≤ 100; decide) (fun _ => .nil) ⟨by decide +kernel, by decide +kernel, by decide +kernel, by decide +kernel⟩ (by decide +kernel)) (eap_cons (evp_tup po3 (ea_cons ev_c (ea_cons ev_c ea_nil)) (by show 2 ≤ 100; decide) (fun _ => (.cons (.str _) (.cons (.str _) .nil))) ⟨by decide +kernel, by decide +kernel, by decide +kernel, by decide +kernel⟩ (by decide +kernel)) (eap_cons (evp_dic0 po3) (eap_cons (evp_dic1 po3) (eap_cons (evp_lst po3 (ea_cons ev_c ea_nil) (by show 1 ≤ 100; decide) (fun _ => (.cons .non .nil)) ⟨by decide +kernel, by decide +kernel, by decide +kernel, by decide +kernel⟩ (by decide +kernel)) (eap_cons (evp_c fun _ => gd_str (by decide +kernel) (by decide +kernel)) (eap_cons (evp_c fun _ => gd_str (by decide +kernel) (by decide +kernel)) eap_nil))))))))))))))) (by show 15 ≤ 100000; decide)) (by show 16 + 15 ≤ 100000; decide)) fun vs2 p2 H4 hn2 e4 hs2 h2 => ?_
    have hp4 := hp2.ex (e3.trans e4)
    have x4 := x2.trans (rem_mono (e3.trans e4))
    have np2 : p2 ≠ p := let ⟨o, h⟩ := po3; ne_pot h hn2
    have ln2 : vs2.length = 31 := hs2.len
    refine ⟨_, rfl, _, rfl, ?_⟩
    refine (el_lst (vs := [.str "ab", .str "12", .str "x1y2z3", .str "aB", .str "a.", .str "ab\n", .str "levels", .str "line"]) (ea_cons ev_c (ea_cons ev_c (ea_cons ev_c (ea_cons ev_c (ea_cons ev_c (ea_cons ev_c (ea_cons ev_c (ea_cons ev_c ea_nil)))))))) (by show 8 ≤ 100000; decide) : EvL _ _ H4 _) H4 (Ex.refl _) _ fun a8 H5 ha8 e5 h5 => ?_
    have hp5 := hp4.ex e5
    have na8 : a8 ≠ p := let ⟨x, y, h, _⟩ := hp4.at_; ne_pot h ha8
    refine ⟨p, a8, _, rfl, hp5, rem_at h5 na8, by show 0 < 8; decide, by show 8 ≤ 1000; decide, fun x H6 hx e6 hp6 => ?_⟩
    refine ⟨by show 1 ≤ sizeLine; decide, fun b hb => ?_⟩
    have nb : b ≠ p := let ⟨x, y, h, _⟩ := hp6.at_; ne_pot h hb
    have l6 : H6 p2 = some (.lst vs2) := rem_ex _ _ (e6 _ _ (rem_at (e5 _ _ h2) np2))
    have n2b : p2 ≠ b := ne_of_none l6 hb
    refine ⟨p2, b, vs2, [x], rfl, rfl, by rw [upd_ne n2b]; exact l6, upd_same, sz_of (by rw [ln2]; show 31 + 1 ≤ 100000; decide), fun a9 ha9 => ?_⟩
    have ha9' : H6 a9 = none := fresh_back (Ex.new hb) ha9
    have n9 : a9 ≠ p := let ⟨x, y, h, _⟩ := hp6.at_; ne_pot h ha9'
    have x9 := (Ex.new (o := HO.lst [x]) hb).trans (Ex.new (o := HO.lst (vs2 ++ [x])) ha9)
    refine q a9 _ (vs2 ++ [x]) n9 (((x4.trans (rem_mono e5)).trans e6).trans (rem_mono x9)) (hp6.ex x9) upd_same (by rw [List.length_append, ln2]; rfl) fun v hv => ?_
    rcases List.mem_append.mp hv with hv | hv
    · obtain ⟨d, g⟩ := hs2.rep v hv
      exact ⟨d, ((g.ex (rem_mono e5)).ex e6).ex (rem_mono x9)⟩
    · have ev : v = x := by simpa using hv
      subst ev
      simp only [List.mem_cons, List.not_mem_nil, or_false] at hx
      rcases hx with rfl | rfl | rfl | rfl | rfl | rfl | rfl | rfl <;> exact ⟨_, gd_str (by decide +kernel) (by decide +kernel)⟩

  case len =>
    obtain ⟨p, rfl, _⟩ := h
    rfl
theorem sc_law_right : FnScope ["_law_pot_here", "_law_some_here", "_law_turn", "_law_here", "_law_there"] ["_law_pot_here"] (defScope (topS 53)) := ⟨rfl, rfl, rfl, by decide +kernel, rfl, by decide +kernel, by decide +kernel⟩
theorem ok_law_right (T : Tx K mg fd) : FnOkG P w K mg base CX0 4 (He.ga K "_law_right") (fd 15) ["_law_pot_here"] spRight := by
  refine (T.df 15 53 "_law_right" rfl).okG sc_law_right (fun vs H Q E h => ?len) (fun cdv A outer s H vs Q E hG hr h => ?body)
  case body =>
    refine ⟨_, (pss_cons (ps_set (i := 1) sc_law_right.nd rfl (Or.inl rfl) (pe_call (ok_law_values T) (hr.mono (by decide)) (by rfl) (T.gl 8 "_law_values" rfl) (T.df 6 44 "_law_values" rfl).kp ((T.df 6 44 "_law_values" rfl).binds (ps := ["_law_pot_here"]) fun _ _ _ _ _ _ us hl => match us, hl with | [_], _ => rfl) .nil pass0 (pa_cons (pv 0) pa_nil))) (pss_cons (ps_if (PW.pt (pw_or (pt_not (pt_val (pe_callG (ok_law_kinds_right T) hG (hr.mono (by decide)) (by rfl) (T.gl 10 "_law_kinds_right" rfl) (T.df 8 46 "_law_kinds_right" rfl).kp ((T.df 8 46 "_law_kinds_right" rfl).binds (ps := ["_law_some_here"]) fun _ _ _ _ _ _ us hl => match us, hl with | [_], _ => rfl) pass0 (pa_cons (pv 1) pa_nil)))) (pw_or1 (pt_not (pt_val (pe_call0 (ok_law_apart_right T) (hr.mono (by decide)) (by rfl) (T.gl 15 "_law_apart_right" rfl) (T.df 13 51 "_law_apart_right" rfl).kp ((T.df 13 51 "_law_apart_right" rfl).binds (ps := []) fun _ _ _ _ _ _ us hl => match us, hl with | [], _ => rfl) .nil pass0)))))) (pss_one (ps_ret pe_bl)) pss_nil) (pss_cons (ps_for PassesOwn.never rfl (pi_range1 (by rfl) (T.fr 30 "range" rfl) (pa_cons pe_int pa_nil)) (pg_name (i := 2) sc_law_right.nd rfl (Or.inl rfl)) (pss_cons (ps_par (i := 3) (j := 4) (by rfl) sc_law_right.nd rfl rfl (by decide) rfl rfl (pa_cons (pe_call (ok_law_pick T) (hr.mono (by decide)) (by rfl) (T.gl 7 "_law_pick" rfl) (T.df 5 42 "_law_pick" rfl).kp ((T.df 5 42 "_law_pick" rfl).binds (ps := ["_law_pot_here", "_law_some_here"]) fun _ _ _ _ _ _ us hl => match us, hl with | [_, _], _ => rfl) .nil pass0 (pa_cons (pv 0) (pa_cons (pv 1) pa_nil))) (pa_cons (pe_call (ok_law_pick T) (hr.mono (by decide)) (by rfl) (T.gl 7 "_law_pick" rfl) (T.df 5 42 "_law_pick" rfl).kp ((T.df 5 42 "_law_pick" rfl).binds (ps := ["_law_pot_here", "_law_some_here"]) fun _ _ _ _ _ _ us hl => match us, hl with | [_, _], _ => rfl) .nil pass0 (pa_cons (pv 0) (pa_cons (pv 1) pa_nil))) pa_nil)) (by rfl)) (pss_one (ps_if (PW.pt (pw_or (pt_not (pt_val (pe_callG (ok_law_valued_right T) hG (hr.mono (by decide)) (by rfl) (T.gl 11 "_law_valued_right" rfl) (T.df 9 47 "_law_valued_right" rfl).kp ((T.df 9 47 "_law_valued_right" rfl).binds (ps := ["_law_one"]) fun _ _ _ _ _ _ us hl => match us, hl with | [_], _ => rfl) pass0 (pa_cons (pv 3) pa_nil)))) (pw_or (pt_not (pt_val (pe_callG (ok_law_placed_right T) hG (hr.mono (by decide)) (by rfl) (T.gl 13 "_law_placed_right" rfl) (T.df 11 49 "_law_placed_right" rfl).kp ((T.df 11 49 "_law_placed_right" rfl).binds (ps := ["_law_one"]) fun _ _ _ _ _ _ us hl => match us, hl with | [_], _ => rfl) pass0 (pa_cons (pv 3) pa_nil)))) (pw_or1 (pt_not (pt_val (pe_callG (ok_law_two_right T) hG (hr.mono (by decide)) (by rfl) (T.gl 14 "_law_two_right" rfl) (T.df 12 50 "_law_two_right" rfl).kp ((T.df 12 50 "_law_two_right" rfl).binds (ps := ["_law_here", "_law_there"]) fun _ _ _ _ _ _ us hl => match us, hl with | [_, _], _ => rfl) pass0 (pa_cons (pv 3) (pa_cons (pv 4) pa_nil))))))))) (pss_one (ps_ret pe_bl)) pss_nil)))) (pss_one (ps_ret pe_bl))))), ?_⟩
    obtain ⟨p, rfl, hp, q⟩ := h
    refine ⟨_, rfl, p, rfl, hp, fun a H1 xs na e1 hp1 ha hl hg => ?_⟩
    have gd : ∀ {G : Hp}, Ex (rem p H1) (rem p G) → ∀ v ∈ xs, ∃ d, Gd K G v d := fun {G} e v hv => let ⟨d, g⟩ := hg v hv; ⟨d, (g.ex e).ex rem_ex⟩
    have ra := rem_at ha na
    show tSeq _ _ _ _ H1
    refine q_when (b := false) (et_or (a := false) (b := false) (et_not (a := true) (et_B (ev_callG (ea_cons (ev_var rfl) ea_nil) fun H2 e2 Q2 q2 E2 => ⟨a, xs, rfl, e2 _ _ ha, gd (rem_mono e2), q2⟩))) fun _ => et_not (a := true) (et_B fun H2 e2 Q2 q2 => ⟨rfl, q2⟩)) (fun z => nomatch z) fun _ H2 e2 => ?_
    refine q_forR1 (n := 6) (ea_cons ev_c ea_nil) (by decide) (fun _ σ' H' => Ex (rem p H1) (rem p H') ∧ Pot H' p ∧ ∃ o2 o3 o4, σ' = [some (.ref p), some (.ref a), o2, o3, o4]) (fun H3 e3 => ⟨rem_mono (e2.trans e3), hp1.ex (e2.trans e3), _, _, _, rfl⟩) (fun i σ' H3 hi p3 => ?_) (fun σ' H3 p3 => s_ret ev_c fun H4 e4 => q H4 ((e1.trans p3.1).trans (rem_mono e4)))
    obtain ⟨e3, hp3, o2, o3, o4, rfl⟩ := p3
    refine ⟨_, rfl, _, rfl, p, a, xs, rfl, hp3, e3 _ _ ra, by omega, by omega, fun x H4 hx e4 hp4 => ⟨_, rfl, _, rfl, p, a, xs, rfl, hp4, (e3.trans e4) _ _ ra, by omega, by omega, fun y H5 hy e5 hp5 => ⟨x, y, rfl, ?_⟩⟩⟩
    have x5 := (e3.trans e4).trans e5
    obtain ⟨dx, gx⟩ := gd x5 x hx
    obtain ⟨dy, gy⟩ := gd x5 y hy
    refine s_when (b := false) (et_or (a := false) (b := false) (et_not (a := true) (et_B (ev_callG (ea_cons (ev_var rfl) ea_nil) fun H6 e6 Q6 q6 E6 => ⟨x, dx, rfl, gx.ex e6, q6⟩))) fun _ => et_or (a := false) (b := false) (et_not (a := true) (et_B (ev_callG (ea_cons (ev_var rfl) ea_nil) fun H6 e6 Q6 q6 E6 => ⟨x, dx, rfl, gx.ex e6, q6⟩))) fun _ => et_not (a := true) (et_B (ev_callG (ea_cons (ev_var rfl) (ea_cons (ev_var rfl) ea_nil)) fun H6 e6 Q6 q6 E6 => ⟨x, y, dx, dy, rfl, gx.ex e6, gy.ex e6, q6⟩))) (fun z => nomatch z) fun _ H6 e6 => ?_
    exact ⟨x5.trans (rem_mono e6), hp5.ex e6, _, _, _, rfl⟩

  case len =>
    obtain ⟨p, rfl, _⟩ := h
    rfl
theorem sc_law : FnScope ["_law_script", "_law_k"] ["_law_script"] (defScope (topS 54)) := ⟨rfl, rfl, rfl, by decide +kernel, rfl, by decide +kernel, by decide +kernel⟩
theorem ok_law (T : Tx K mg fd) : FnOkG P w K mg base CX0 5 (He.ga K "law") (fd 16) ["_law_script"] (spLaw K) := by
  refine (T.df 16 54 "law" rfl).okG sc_law (fun vs H Q E h => ?len) (fun cdv A outer s H vs Q E hG hr h => ?body)
  case body =>
    refine ⟨_, (pss_one (ps_ret (pe_callB (cr_all rfl) (by rfl) (T.fr 28 "all" rfl) (by decide +kernel) (pa_cons (pe_lc (own := [("_law_k", 1)]) (g := gName 1) rfl sc_law.nd (pi_range1 (by rfl) (T.fr 30 "range" rfl) (pa_cons (pe_callB (call_max2 rfl) (by rfl) (T.fr 31 "max" rfl) (by decide +kernel) (pa_cons pe_int (pa_cons (pe_callB (call_min2 rfl) (by rfl) (T.fr 32 "min" rfl) (by decide +kernel) (pa_cons pe_int (pa_cons (pe_callB call_len (by rfl) (T.fr 27 "len" rfl) (by decide +kernel) (pa_cons (pv 0) pa_nil)) pa_nil))) pa_nil))) pa_nil)) (blkOk_by (N := ["_law_script", "_law_k"]) (sc := (defScope (topS 54))) (own := [("_law_k", 1)]) (by decide +kernel)) (fun _ _ _ _ _ => (pg_name (i := 1) sc_law.nd rfl (Or.inl rfl))) (fun _ _ _ _ _ => pts_nil) (fun _ _ _ _ _ => (pe_callG (ok_law_right T) hG (hr.mono (by decide)) (by rfl) (T.gl 17 "_law_right" rfl) (T.df 15 53 "_law_right" rfl).kp ((T.df 15 53 "_law_right" rfl).binds (ps := ["_law_pot_here"]) fun _ _ _ _ _ _ us hl => match us, hl with | [_], _ => rfl) pass0 (pa_cons (pe_call (ok_law_pot T) (hr.mono (by decide)) (by rfl) (T.gl 5 "_law_pot" rfl) (T.df 3 40 "_law_pot" rfl).kp ((T.df 3 40 "_law_pot" rfl).binds (ps := ["_law_script", "_law_k"]) fun _ _ _ _ _ _ us hl => match us, hl with | [_, _], _ => rfl) .nil pass0 (pa_cons (pv 0) (pa_cons (pv 1) pa_nil))) pa_nil)))) pa_nil)))), ?_⟩
    obtain ⟨a, ns, rfl, hS, hl, q⟩ := h
    have hn : ∃ n : Int, n = (if (if (ns.length : Int) < 3 then (ns.length : Int) else 3) > 1 then (if (ns.length : Int) < 3 then (ns.length : Int) else 3) else 1) ∧ 0 ≤ n ∧ n ≤ 3 := ⟨_, rfl, by split <;> (try split) <;> omega, by split <;> (try split) <;> omega⟩
    obtain ⟨n, en, n0, n3⟩ := hn
    refine s_ret (v := .bl true) ?_ fun H1 e1 => q H1
    refine ev_is (ev_all (bs := (List.range n.toNat).map fun _ => true) ?_) (by rw [List.all_map]; exact congrArg V.bl (List.all_eq_true.mpr fun _ _ => rfl))
    have e0 : given n.toNat (fun _ => true) (fun _ => V.bl true) = ((List.range n.toNat).map fun _ => true).map V.bl := by
      unfold given
      rw [List.filter_eq_self.mpr (fun _ _ => rfl), List.map_map] <;> rfl
    rw [← e0]
    refine el_lcR1 (fun _ => true) (fun _ => V.bl true) (ea_cons ?_ ea_nil) ⟨n0, by omega⟩ (fun _ => rfl) (fun _ _ _ _ H1 _ Q1 q1 => q1 H1 (Ex.refl _)) fun i H1 e1 hi _ => ?_
    · rw [en]
      exact ev_maxI ev_c (ev_minI ev_c (ev_lenX (ev_var rfl) fun H2 e2 Q2 q2 => ⟨_, _, rfl, .inl ⟨_, ex_l e2 hS, by rw [List.length_map]⟩, q2⟩))
    · intro H2 e2 Q2 q2
      refine ⟨_, rfl, _, rfl, a, ns, i, rfl, ex_l (e1.trans e2) hS, by omega, by omega, fun p H3 hp e3 hp3 => ⟨p, rfl, hp3, fun H4 e4 => q2 H4 fun b o hb => ?_⟩⟩
      exact rem_ex _ _ (e4 _ _ (rem_at (e3 _ _ hb) (ne_of_none hb hp)))

  case len =>
    obtain ⟨a, ns, rfl, _⟩ := h
    rfl
end
end K10
set_option Elab.async false
set_option linter.all false
set_option maxRecDepth 100000
set_option maxHeartbeats 0
namespace K10
open PySem PySem.Spec PyProof.Rows L2
theorem facts {P : Program} {w : World} {K : PySem.W.Frag} {h : Heap} {mg : Str → Option Value} {f : Addr} (X : K.In h) (G : h.Ns mainGlobals mg) (hfa : mg ("law" : Str) = some (.ref f)) (c : He.SaysX ex fa fn K) :
    ∃ fd : FuncData, (∀ (s : Shared) (v : Value), BindsTo s fd ⟨[v], []⟩ [("_law_script", v)]) ∧ ∀ base : Heap, K.In base → base.Ns mainGlobals mg → FnOkG P w K mg base CX0 5 f fd ["_law_script"] (spLaw K) := by
  obtain ⟨fd, T⟩ := Tx.of X G c
  obtain ⟨fd0, F⟩ := c.d.def_ 16 (d := dF 54 "law") rfl
  have e := hfa.symm.trans (T.gl 18 "law" rfl)
  cases e
  obtain ⟨⟨oc, od, kV, doc, pm, an, cdv, ct, osl, efd, lk, hcd⟩, kp⟩ := T.df 16 54 "law" rfl
  refine ⟨fd 16, fun s v => ?_, fun base _ _ => ok_law T⟩
  rw [efd]
  exact .of_eq rfl
end K10
open PySem PySem.W PySem.Calls PyProof.Rows
theorem PySem.Challenge.cw_uplines_k10_errors_and_kinds_of_values_holds : PySem.Challenge.rw_uplines_k10_errors_and_kinds_of_values.Holds := by
  w_on; o_law
  refine HandSHeadRun.head_any (r := OpenLaw.row PySem.Challenge.rw_uplines_k10_errors_and_kinds_of_values) (q := view (OpenLaw.row PySem.Challenge.rw_uplines_k10_errors_and_kinds_of_values).prog [54]) (H := K10.hk) (ob := K10.ob) (M := 9000) (loose := K10.loose) (d := HandSHeadRun.topDef (OpenLaw.row PySem.Challenge.rw_uplines_k10_errors_and_kinds_of_values).prog 54) (kwd := []) K10.ob_eq
    (by kernel_rfl) (fun s => by kernel_rfl) K10.run (by kernel_rfl) (by kernel_rfl) (by kernel_rfl) (by rfl) (by first | assumption | decide +kernel) (by decide +kernel) ⟨rfl, rfl, rfl, rfl, rfl, by decide +kernel⟩ ?hw ?hc
  case hw => w_witness2
  case hc =>
    refine L2.walk_ofG (l := PySem.Challenge.rw_uplines_k10_errors_and_kinds_of_values) (n := 63) (k := 5) (x := "_law_script") rfl (by decide) (by kernel_rfl) ⟨rfl, by decide, by decide⟩ ?F
    intro w mg fa h Y G hmg0
    obtain ⟨K, KX, c⟩ := Y
    have hmg : mg ("law" : PySem.Str) = some (.ref fa) := by
      have e : (HandSHeadRun.topDef (OpenLaw.row PySem.Challenge.rw_uplines_k10_errors_and_kinds_of_values).prog 54).name = ("law" : PySem.Str) := by kernel_rfl
      rw [← e]
      exact hmg0
    obtain ⟨fd, hb, hF⟩ := K10.facts (P := (PySem.Challenge.rw_uplines_k10_errors_and_kinds_of_values).prog) (w := w) KX G hmg c
    exact ⟨K, fd, K10.spLaw K, KX, hb, fun H a ns hl _ hS => ⟨a, ns, rfl, hS, hl, fun _ => rfl⟩, hF⟩
