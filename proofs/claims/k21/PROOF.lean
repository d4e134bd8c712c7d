import PyProof.Rows.All
import Wide.All
import OpenK.AllK
import Wide.FinOn
import HandS.Base
import HandS.Call
import HandS.List
import HandS.Ends
import HandS.Exc
import HandS.ExcInit
import HandS.Defaults
import KE.KIsAll
import KE.KTryMore
import HandS.IsInst
import HandS.Words
import HandS.ExcOwn
import HandS.ExcValue
import PyProof.ReprReads
import PyProof.ReprRoads
import HandS.Head0
import HandS.Head1
import HandS.Head2
import HandS.HeadEnd
import HandS.HeadHook1
import HandS.HeadHook2
import HandS.HeadNt
import HandS.EndTab
import KE.KOpsOwn
import OpenK.KOps
import HandS.IterNext
import PyProof.TupleOps
import HandS.OwnEq
import KE.GoesMore
import KE.GoesEnum
import PyProof.EnumMake
import HandS.Iter
import HandS.Walk
import HandS.Evl
import HandS.TupSets
import HandS.Set
import HandS.SetKeys
import PyProof.SetRoads
import KE.KSortTup
import KE.KSortTupAny
import HandS.Sort
import HandS.SortOrd
import HandS.SortRule
import HandS.Text
import HandS.Flow
import HandS.Wide
import HandS.Dict
import HandS.ClsMeth
import PyProof.ReprBulk
import PyProof.FitsInt
import HandS.WordsDict
import PyProof.Rows.StrMeet
import PyProof.Rows.TmSorted
import PyProof.InstNe
import HandS.IterVal
import HandS.OwnIter
import HandS.FStr
import HandS.Comp
import HandS.Star
import HandS.Style
import HandS.More
import HandS.Conv
import HandS.MakeKw
import HandS.Deep
import HandS.ExcIs
import HandS.ExcField
import HandS.Lambda
import HandS.TryMany
import PySem.Challenge.RW_uplines_k21_whole_steps
set_option Elab.async false
set_option linter.all false
set_option maxRecDepth 100000
set_option maxHeartbeats 4000000
/-! an exception class of one's own over any base, made by a call with keywords as well -/
namespace PySem
namespace XV
open PySem.W PySem.Calls PyProof.Rows PySem.HandSPX
section
variable {M : Model} {A : Around} {E : Value → Shared → Prop} {h : Heap} {g : Array GenState} {d : Drawn} {t : Nat} {os : OsState}
variable {nm q : Str} {C N : Addr} {bs bm bmB : List Value} {hdct : Bool} {sn : List Str} {sub : List Value} {ab : Bool} {col : Option Bool} {dd : Option Addr} {k0 k1 k2 k3 k5 : Option Value} {B newId initId : String} {kw : List (Str × Value)}
theorem check_new_kw (F : ExcBaseFacts B newId initId bmB) (hT : ∀ X : String, bm.contains (.type X) = bmB.contains (.type X)) {rest : List Value} {Q : Unit → Shared → Prop}
    (hC : h.get? C = some (excClassObj nm q C N bs bm hdct sn sub ab col dd k0 k1 k2 k3 k5 newId)) (hq : Q () ⟨h, g, d, t, os⟩) : wpAny M A (checkBuiltinCall newId ⟨.ref C :: rest, kw⟩) Q E ⟨h, g, d, t, os⟩ := by
  have hcont : (Value.ref C :: bm).contains (.type B) = true := by rw [List.contains_cons, hT, F.hasB, Bool.or_true]
  have hstar := F.noStar
  simp only [checkBuiltinCall, F.newKind, F.newSplit, F.newRow]
  repeat (first | refine wpAny_loadPart_at hC ?_ | (refine wpAny_isSubtype_exc hC ?_; rw [hcont]) | refine wpAny_staticBase_exc hC ?_ | refine wpAny_madeBy_exc hC ?_ | simp only [bne_self_eq_false, Bool.false_eq_true, if_false] | wp_step)
  exact hq
end
section
variable {prog : Program} {w : World} {A : Around} {E : Value → Shared → Prop} {R : Result → Shared → Prop} {h : Heap} {g : Array GenState} {d : Drawn} {t : Nat} {os : OsState}
variable {nm q : Str} {C N : Addr} {bs bm bmB : List Value} {hdct : Bool} {sn : List Str} {sub : List Value} {ab : Bool} {col : Option Bool} {dd : Option Addr} {k0 k1 k2 k3 k5 : Option Value} {B newId initId : String} {kw : List (Str × Value)}
theorem new_kw (F : ExcBaseFacts B newId initId bmB) (hT : ∀ X : String, bm.contains (.type X) = bmB.contains (.type X)) {rest : List Value}
    (hC : h.get? C = some (excClassObj nm q C N bs bm hdct sn sub ab col dd k0 k1 k2 k3 k5 newId))
    (hq : R (.ok (.ret (.ref (h.objs.size + 1)))) ⟨(h.push { cls := .type "tuple", data := .seq rest.toArray }).push
      { cls := .ref C, data := .fields #[.ref h.objs.size, .none, .none, .none, .bool false, .none] }, g, d, t, os⟩) (hrest : rest.length ≤ sizeLine) :
    codeAny (model prog w) A (.builtin newId ⟨.ref C :: rest, kw⟩) R ⟨h, g, d, t, os⟩ := by
  have hends := F.ends
  have hcB : (Value.ref C :: bm).contains (.type B) = true := by rw [List.contains_cons, hT, F.hasB, Bool.or_true]
  have hcA : (Value.ref C :: bm).contains (.type "AttributeError") = false := by rw [List.contains_cons, hT, F.noAttr]; rfl
  have hcN : (Value.ref C :: bm).contains (.type "NameError") = false := by rw [List.contains_cons, hT, F.noName]; rfl
  refine codeAny_builtinAt F.entry ?_
  unfold Builtin.«BaseException.__new__»
  refine wpAt_bind ?_
  show wpAt _ _ _ (stack >>= _) _ _ _
  refine wpAt_bind (wpAt_stack fun p below => wpAt_of_wpAny ?_)
  wp_walk
  refine wpAt_of_wpAny ?_
  rw [F.owner]
  repeat (first | with_reducible refine wpAny_madeHere_exc F.canon hC ?_ | with_reducible refine wpAny_loadPart_at hC ?_ | (with_reducible refine wpAny_isSubtype_exc hC ?_; first | rw [hcB] | rw [hcA] | rw [hcN]) | wp_step)
  show R _ _
  rw [Heap.size_push]
  exact hq
theorem type_call_kw (F : ExcBaseFacts B newId initId bmB) (hT : ∀ X : String, bm.contains (.type X) = bmB.contains (.type X)) {rest : List Value} {fI : Addr} {Q : Fin → Shared → Prop}
    (hC : h.get? C = some (excClassObj nm q C N bs bm hdct sn sub ab col dd k0 k1 k2 k3 k5 newId))
    (hi : W.Looks (model prog w) h (typeLookup (.ref C) "__init__") (some (.ref fI))) (hb : ∀ self, W.Looks (model prog w) h (bindSpecial (.ref fI) self) (.ref fI, [self])) (hrest : rest.length ≤ sizeLine)
    (hq : codeAny (model prog w) A (.call (.ref fI) ⟨.ref (h.objs.size + 1) :: rest, kw⟩)
      (fun r s' => match r with | .ok (.ret v) => v = .none ∧ Q (.done (.ret (.ref (h.objs.size + 1)))) s' | .ok _ => False | .error e => E e s')
      ⟨(h.push (W.kdv_tup rest)).push (excO C h.objs.size), g, d, t, os⟩) :
    wpAny (model prog w) A (Builtin.«type.__call__» ⟨.ref C :: rest, kw⟩) Q E ⟨h, g, d, t, os⟩ := by
  repeat (first | with_reducible refine wpAny_loadPart_at hC ?_ | with_reducible refine wpAny_madeBy_exc hC ?_ | wp_step)
  refine codeAny_call_builtin_code (Code.quiet_builtin _ F.quiet) (check_new_kw F hT hC ?_)
  refine new_kw F hT hC ?_ hrest
  show wpAny _ _ _ _ _ _
  have k : ∀ b o, h.get? b = some o → ((h.push (W.kdv_tup rest)).push (excO C h.objs.size)).get? b = some o := fun b o e => Heap.get?_push_of_some _ (Heap.get?_push_of_some _ e)
  have hC₁ := k _ _ hC
  have hget : ((h.push (W.kdv_tup rest)).push (excO C h.objs.size)).get? (h.objs.size + 1) = some (excO C h.objs.size) := by heap_get
  have hcC : (Value.ref C :: bm).contains (.ref C) = true := by simp
  have i1 := hi.keeps k
  have b1 := (hb (.ref (h.objs.size + 1))).keeps k
  unfold isInstance
  repeat (first | with_reducible refine wpAny_loadPart_at hget ?_ | (with_reducible refine wpAny_isSubtype_exc hC₁ ?_; rw [hcC]) | wp_step)
  show wpAny _ _ (typeLookup (.ref C) _) _ _ _
  refine i1.at ?_
  refine wpAny_holding (wpAny_bind (b1.at ?_))
  refine wpAny_bind (wpAny_call (codeAny_mono hq fun r s' z => ?_))
  rcases r with e | (v | _ | _ | _) <;> first | exact z | exact z.elim | skip
  obtain ⟨rfl, z⟩ := z
  first
    | exact wpAny_pure (wpAny_pure z)
    | (wp_walk; exact z)
theorem call_kw (F : ExcBaseFacts B newId initId bmB) (hT : ∀ X : String, bm.contains (.type X) = bmB.contains (.type X)) {rest : List Value} {fI : Addr}
    (hC : h.get? C = some (excClassObj nm q C N bs bm hdct sn sub ab col dd k0 k1 k2 k3 k5 newId))
    (hi : W.Looks (model prog w) h (typeLookup (.ref C) "__init__") (some (.ref fI))) (hb : ∀ self, W.Looks (model prog w) h (bindSpecial (.ref fI) self) (.ref fI, [self])) (hrest : rest.length ≤ sizeLine)
    (hcall : W.Looks (model prog w) h (specialOf (.ref C) "__call__") (some (.builtin "type.__call__"))) (htyp : W.Looks (model prog w) h (isInstance (.ref C) (.type "type")) true)
    (hq : codeAny (model prog w) (A.under (.builtin "type.__call__" ⟨.ref C :: rest, kw⟩)) (.call (.ref fI) ⟨.ref (h.objs.size + 1) :: rest, kw⟩) (W.InitBack (h.objs.size + 1) R)
      ⟨(h.push (W.kdv_tup rest)).push (excO C h.objs.size), g, d, t, os⟩) :
    codeAny (model prog w) A (.call (.ref C) ⟨rest, kw⟩) R ⟨h, g, d, t, os⟩ := by
  refine codeAny_of_tree ?_
  show wpAny _ _ (callAny (.ref C) _) _ _ _
  refine W.nd_load hC ?_
  show wpAny _ _ (callAny.viaDunder (.ref C) _) _ _ _
  unfold callAny.viaDunder
  refine wpAny_bind (hcall.at ?_)
  dsimp only
  rw [tc_bind]
  refine wpAny_bind (wpAny_pure (wpAny_bind (wpAny_pure ?_)))
  refine wpAny_pure (a := Fin.again (.call (.builtin "type.__call__") ⟨.ref C :: rest, kw⟩)) (And.intro rfl ?_)
  refine codeAny_call_builtin_at (Code.quiet_builtin _ (by decide +kernel)) entry_typeCall (W.check_slot (s := ⟨h, g, d, t, os⟩) tc_kind tc_split htyp (tc_args _ _ _) ?_)
  refine type_call_kw F hT hC hi hb hrest (codeAny_mono hq fun r s' z => ?_)
  rcases r with e | (v | _ | _ | _) <;> exact z
end
end XV
end PySem
set_option Elab.async false
set_option linter.all false
set_option maxRecDepth 100000
set_option maxHeartbeats 4000000
/-! an own exception over any base as a value: its stores, its fields, isinstance -/
namespace PySem
namespace XV
open PySem.W PySem.Calls PyProof.Rows PySem.HandSPX
/-- a built-in error and its chain -/
structure ErrBase (B newId initId : String) (tail : List Value) : Prop where
  F : ExcBaseFacts B newId initId tail
  passes : ∀ self : Value, refuseLoop self "__setattr__" tail = pure ()
  obj : tail.contains (.type "object") = true
theorem base_value : ErrBase "ValueError" "ValueError.__new__" "ValueError.__init__" [.type "ValueError", .type "Exception", .type "BaseException", .type "object"] := ⟨F.excBase_ValueError, fun self => by kernel_rfl, by decide +kernel⟩
theorem base_lookup : ErrBase "LookupError" "LookupError.__new__" "LookupError.__init__" [.type "LookupError", .type "Exception", .type "BaseException", .type "object"] := ⟨F.excBase_LookupError, fun self => by kernel_rfl, by decide +kernel⟩
theorem base_runtime : ErrBase "RuntimeError" "RuntimeError.__new__" "RuntimeError.__init__" [.type "RuntimeError", .type "Exception", .type "BaseException", .type "object"] := ⟨F.excBase_RuntimeError, fun self => by kernel_rfl, by decide +kernel⟩
theorem base_arith : ErrBase "ArithmeticError" "ArithmeticError.__new__" "ArithmeticError.__init__" [.type "ArithmeticError", .type "Exception", .type "BaseException", .type "object"] := ⟨F.excBase_ArithmeticError, fun self => by kernel_rfl, by decide +kernel⟩
/-- own classes, then the chain -/
def refsB (tail : List Value) : List Value → Bool
  | .ref _ :: r => refsB tail r
  | l => l == tail
section
variable {tail : List Value}
theorem refsB_cases : ∀ l : List Value, refsB tail l = true → (∃ c r, l = .ref c :: r ∧ refsB tail r = true) ∨ l = tail
  | [], e => .inr (beq_iff_eq.mp e)
  | .ref c :: r, e => .inl ⟨c, r, rfl, e⟩
  | .none :: _, e => .inr (beq_iff_eq.mp e)
  | .ellipsis :: _, e => .inr (beq_iff_eq.mp e)
  | .notImplemented :: _, e => .inr (beq_iff_eq.mp e)
  | .bool _ :: _, e => .inr (beq_iff_eq.mp e)
  | .int _ _ :: _, e => .inr (beq_iff_eq.mp e)
  | .float _ _ :: _, e => .inr (beq_iff_eq.mp e)
  | .str _ _ :: _, e => .inr (beq_iff_eq.mp e)
  | .bytes _ _ :: _, e => .inr (beq_iff_eq.mp e)
  | .type _ :: _, e => .inr (beq_iff_eq.mp e)
  | .builtin _ :: _, e => .inr (beq_iff_eq.mp e)
theorem refsB_pass (hp : ∀ self : Value, refuseLoop self "__setattr__" tail = pure ()) (self : Value) : ∀ l : List Value, refsB tail l = true → refuseLoop self "__setattr__" l = pure () := by
  intro l
  induction l with
  | nil =>
    intro e
    have q : ([] : List Value) = tail := beq_iff_eq.mp e
    rw [q]
    exact hp self
  | cons a r ih =>
    intro e
    rcases refsB_cases (a :: r) e with ⟨c, r', q, h⟩ | q
    · obtain ⟨rfl, rfl⟩ := List.cons.inj q
      rw [refuseLoop_ref]
      exact ih h
    · rw [q]
      exact hp self
theorem refsB_contains (X : String) : ∀ l : List Value, refsB tail l = true → l.contains (.type X) = tail.contains (.type X) := by
  intro l
  induction l with
  | nil =>
    intro e
    have q : ([] : List Value) = tail := beq_iff_eq.mp e
    rw [q]
  | cons a r ih =>
    intro e
    rcases refsB_cases (a :: r) e with ⟨c, r', q, h⟩ | q
    · obtain ⟨rfl, rfl⟩ := List.cons.inj q
      rw [List.contains_cons, ih h]
      rfl
    · rw [q]
end
section
open Builtin Builtin.ObjectAttr
variable {prog : Program} {w : World} {A : Around} {E : Value → Shared → Prop} {R : Result → Shared → Prop} {hp : Heap} {g : Array GenState} {d : Drawn} {t : Nat} {os : OsState} {tail : List Value} {B newId initId : String}
theorem osa_new {K : W.Frag} {name : Str} {tk : Tok} {v : Value} {x C : Addr} {fv : Array Value} {cd : ClassData} (EB : ErrBase B newId initId tail)
    (X : K.In hp) (hx : hp.get? x = some { cls := .ref C, data := .fields fv }) (hcd : W.clsIn K C = some cd) (hm : refsB tail cd.mro = true) (hne : cd.mro.isEmpty = false) (hh : cd.hasDict = true) (ha : W.findIn K (.ref C) name = some none)
    (hq : ∀ h' tk' dx, (∀ b o, b ≠ x → hp.get? b = some o → h'.get? b = some o) → hp.objs.size ≤ dx → dx ≠ x → h'.get? x = some { cls := .ref C, dict := some dx, data := .fields fv } →
      h'.Ns1 dx (fun y => if y = name then some v else none) → R (.ok (.ret .none)) ⟨h', g, d, tk', os⟩) :
    codeAny (model prog w) A (.call (.builtin "object.__setattr__") ⟨[.ref x, .str name tk, v], []⟩) R ⟨hp, g, d, t, os⟩ := by
  have I : W.InstAt hp x { cls := .ref C, data := .fields fv } C none := ⟨hx, rfl, rfl, trivial⟩
  have SF := F.store_object
  have hob : cd.mro.contains (.type "object") = true := (refsB_contains "object" _ hm).trans EB.obj
  have hxs : x ≠ hp.objs.size := Nat.ne_of_lt (Heap.lt_size hx)
  have sub : W.Looks (model prog w) hp (isInstance (.ref x) (.type "object")) true := I.type.andThen (W.looks_mroIn X (by unfold W.mroIn; rw [hcd, Option.bind_some, if_neg (by rw [hne]; decide), hob]))
  refine codeAny_call_builtin SF.slot.plain SF.entry (@W.check_slot (model prog w) _ _ ⟨hp, g, d, t, os⟩ "object.__setattr__" "object" "__setattr__" (.ref x) [.str name tk, v] [] _ SF.kind SF.split sub (SF.args (.ref x) (.str name tk) v) ?_)
  have hmr : W.Looks (model prog w) hp (mroOf (.ref C)) cd.mro := (W.looks_clsIn X hcd).andThen .now
  have L3 : W.Looks (model prog w) hp (storeTaker? none) none := .now
  have hcls : W.Looks (model prog w) hp (classData C) cd := W.looks_clsIn X hcd
  rw [W.osa_eq, refuse_eq]
  refine wpAny_bind (wpAny_bind (I.type.at (wpAny_bind (hmr.at ?_))))
  rw [refsB_pass EB.passes _ _ hm]
  refine wpAny_pure (wpAny_bind (I.type.at (wpAny_bind ((W.looks_findIn X ha).at (wpAny_bind (L3.at ?_))))))
  show wpAny _ _ (storeInOwnDict (.ref x) (.ref C) (.str name tk) name v false) _ _ _
  obtain ⟨nm, bs, mro, ns, qn, hd, sn, sb, ab, col, del⟩ := cd
  dsimp only at hh
  subst hh
  unfold storeInOwnDict ownDictForStores
  repeat (first | with_reducible refine store_in_new ?_ ?_ | with_reducible refine wpAny_loadPart_at hx ?_ | with_reducible refine hcls.at ?_ | wp_step)
  · exact ⟨_, #[], _, (Heap.get?_update_ne _ _ _ _ hxs.symm).trans (Heap.get?_push_at rfl rfl), rfl, fun e he => absurd he (by simp), fun _ => rfl⟩
  · intro h' tk' hn' hs
    have hx₁ : (hp.push { cls := .type "dict", data := .dict #[] }).get? x = some { cls := .ref C, data := .fields fv } := Heap.get?_push_of_some _ hx
    refine hq h' tk' hp.objs.size (fun b o hb ho => ?_) (Nat.le_refl _) hxs.symm ?_ hn'
    · exact (hs.2 b (Nat.ne_of_lt (Heap.lt_size ho))).trans ((Heap.get?_update_ne _ _ _ _ hb).trans (Heap.get?_push_of_some _ ho))
    · exact (hs.2 x hxs).trans (Heap.get?_update_self _ hx₁ rfl)
theorem osa_more {K : W.Frag} {name : Str} {tk : Tok} {v : Value} {x C dx : Addr} {fv : Array Value} {cd : ClassData} {m0 : Str → Option Value} {nl : List Str} (EB : ErrBase B newId initId tail)
    (X : K.In hp) (hx : hp.get? x = some { cls := .ref C, dict := some dx, data := .fields fv }) (hns : hp.Ns1 dx m0) (hw : Within m0 nl) (hz : nl.length ≤ 1000) (hcd : W.clsIn K C = some cd) (hm : refsB tail cd.mro = true) (hne : cd.mro.isEmpty = false) (hh : cd.hasDict = true)
    (ha : W.findIn K (.ref C) name = some none)
    (hq : ∀ h' tk', (∀ b o, b ≠ dx → hp.get? b = some o → h'.get? b = some o) → h'.Ns1 dx (fun y => if y = name then some v else m0 y) → R (.ok (.ret .none)) ⟨h', g, d, tk', os⟩) :
    codeAny (model prog w) A (.call (.builtin "object.__setattr__") ⟨[.ref x, .str name tk, v], []⟩) R ⟨hp, g, d, t, os⟩ := by
  obtain ⟨oD, esD, epD, hoD, hdD, _⟩ := hns.count hw
  have I : W.InstAt hp x { cls := .ref C, dict := some dx, data := .fields fv } C (some oD) := ⟨hx, rfl, rfl, hoD⟩
  have SF := F.store_object
  have hob : cd.mro.contains (.type "object") = true := (refsB_contains "object" _ hm).trans EB.obj
  have sub : W.Looks (model prog w) hp (isInstance (.ref x) (.type "object")) true := I.type.andThen (W.looks_mroIn X (by unfold W.mroIn; rw [hcd, Option.bind_some, if_neg (by rw [hne]; decide), hob]))
  refine codeAny_call_builtin SF.slot.plain SF.entry (@W.check_slot (model prog w) _ _ ⟨hp, g, d, t, os⟩ "object.__setattr__" "object" "__setattr__" (.ref x) [.str name tk, v] [] _ SF.kind SF.split sub (SF.args (.ref x) (.str name tk) v) ?_)
  have hmr : W.Looks (model prog w) hp (mroOf (.ref C)) cd.mro := (W.looks_clsIn X hcd).andThen .now
  have L3 : W.Looks (model prog w) hp (storeTaker? none) none := .now
  have hcls : W.Looks (model prog w) hp (classData C) cd := W.looks_clsIn X hcd
  rw [W.osa_eq, refuse_eq]
  refine wpAny_bind (wpAny_bind (I.type.at (wpAny_bind (hmr.at ?_))))
  rw [refsB_pass EB.passes _ _ hm]
  refine wpAny_pure (wpAny_bind (I.type.at (wpAny_bind ((W.looks_findIn X ha).at (wpAny_bind (L3.at ?_))))))
  show wpAny _ _ (storeInOwnDict (.ref x) (.ref C) (.str name tk) name v false) _ _ _
  obtain ⟨nm, bs, mro, ns, qn, hd, sn, sb, ab, col, del⟩ := cd
  dsimp only at hh
  subst hh
  unfold storeInOwnDict ownDictForStores
  repeat (first | with_reducible refine OEX.store_in_old hns hw hz ?_ | with_reducible refine wpAny_loadPart_at hx ?_ | with_reducible refine hcls.at ?_ | wp_step)
  intro h' tk' hn' hs
  exact hq h' tk' (fun b o hb ho => (hs.2 b hb).trans ho) hn'
end
section
variable {prog : Program} {w : World} {A : Around} {E : Value → Shared → Prop} {s : Shared} {K : Frag} {x D : Addr} {ox : Obj} {od : Option Obj}
theorem findObj_dataO {C : Addr} {name : Str} {a g : Value} (hc : (clsIn K C).isSome = true) (ha : findIn K (.ref C) name = some (some a)) (hg : specialIn K a "__get__" = some (some g)) (ht : takesIn K a = some true) : findObj K C od name = some (.bind g a) := by
  obtain ⟨cd, hc⟩ := Option.isSome_iff_exists.mp hc
  unfold findObj
  rw [hc, Option.bind_some, ha, Option.bind_some]
  simp [hg, ht]
/-- x.__class__ of an exception with or without its dict -/
theorem class_of {Q : Option Value → Shared → Prop} (hga : findIn K (.ref D) "__getattribute__" = some (some (.builtin "BaseException.__getattribute__"))) (hgt : findIn K (.ref D) "__getattr__" = some none) (hsub : subIn K (.ref D) (.type "BaseException") = some true)
    (hdct : hasDictIn K D = true) (ha : findIn K (.ref D) "__class__" = some (some (.builtin "object.__class__")))
    (hn : specialIn K (.builtin "object.__class__") "__get__" = some (some (.builtin "getset_descriptor.__get__"))) (htk : takesIn K (.builtin "object.__class__") = some true) (hm : mroIn K D (.type "object") = some true)
    (X : K.In s.heap) (I : InstAt s.heap x ox D od) (h : Q (some (.ref D)) { s with toks := s.toks + 1 }) : wpAny (model prog w) A (getAttr? (.ref x) "__class__") Q E s := by
  have hf : findObj K D od "__class__" = some (.bind (.builtin "getset_descriptor.__get__") (.builtin "object.__class__")) := findObj_dataO (by obtain ⟨cd, hc, _⟩ := any_some hdct; rw [hc]; rfl) ha hn htk
  obtain ⟨hp, g, d, t, os⟩ := s
  have L0 := I.type (M := model prog w)
  have L1 := looks_findIn (M := model prog w) X hga
  have L2 := looks_findIn (M := model prog w) X hgt
  have L3 := looks_find (M := model prog w) X I hf
  have sub : Looks (model prog w) hp (isInstance (.ref x) (.type "BaseException")) true := L0.andThen (looks_subIn X hsub)
  have hx0 : (false && onTheHeap (Value.builtin "BaseException.__getattribute__")) = false := rfl
  have hx2 : (Value.builtin "BaseException.__getattribute__" == Value.builtin "object.__getattribute__") = false := by decide +kernel
  have hx1 : (onTheHeap (Value.ref D) && Value.builtin "BaseException.__getattribute__" == Value.builtin "object.__getattribute__") = false := by rw [hx2]; rfl
  unfold getAttr? getAttrBy? getAttrBy
  refine wpAny_bind (wpAny_mkText (wpAny_bind (wpAny_attempt (wpAny_holding (wpAny_bind (L0.at (wpAny_bind (L1.at ?_))))))))
  show wpAny _ _ (if (onTheHeap (Value.ref D) && Value.builtin "BaseException.__getattribute__" == Value.builtin "object.__getattribute__") = true then _ else _) _ _ _
  rw [hx1, if_neg Bool.false_ne_true]
  unfold getAttrByItsOwn hookBefore
  refine wpAny_bind ?_
  rw [if_pos (show onTheHeap (Value.ref D) = true from rfl)]
  refine L2.at ?_
  refine wpAny_bind (wpAny_attempt (wpAny_holding ?_))
  unfold callGetattribute
  rw [hx0, if_neg Bool.false_ne_true]
  unfold boundAndCalled
  rw [PySem.F.excAttr_ValueError.ga.bind (.ref x)]
  refine wpAny_bind (wpAny_pure ?_)
  show wpAny _ _ (call (.builtin "BaseException.__getattribute__") [.ref x, .str "__class__" t]) _ _ _
  refine wpAny_call (codeAny_call_builtin PySem.F.excAttr_ValueError.ga.plain PySem.F.entry_bexc_ga ?_)
  refine @check_slot (model prog w) _ _ ⟨hp, g, d, t + 1, os⟩ "BaseException.__getattribute__" "BaseException" "__getattribute__" (.ref x) [.str "__class__" t] [] _ (by decide +kernel) (by decide +kernel) sub (PySem.F.args_bexc_ga (.ref x) (.str "__class__" t)) ?_
  unfold Builtin.«object.__getattribute__»
  refine wpAny_bind (wpAny_of_eq (a := ((Value.ref x : Value), [Value.str "__class__" t])) (by first | rfl | (simp only [slotArgs]; rfl)) ?_)
  refine wpAny_bind (wpAny_pure (wpAny_bind (L0.at (wpAny_bind (L3.at ?_)))))
  show wpAny _ _ (holding [Value.builtin "object.__class__"] (call (.builtin "getset_descriptor.__get__") [.builtin "object.__class__", .ref x, .ref D]) >>= ret) _ _ _
  refine wpAny_bind (wpAny_holding (wpAny_call (class_get (s := ⟨hp, g, d, t + 1, os⟩) (ox := ox) (od := od) X I hm ?_)))
  refine wpAny_pure ?_
  show wpAny _ _ (handedOut (.ref D)) _ _ _
  rw [handedOut_of (v := .ref D) rfl]
  first
    | exact wpAny_pure (wpAny_pure h)
    | exact wpAny_pure h
    | exact wpAny_pure (wpAny_bind (wpAny_pure (wpAny_pure h)))
theorem kitx_err (hga : findIn K (.ref D) "__getattribute__" = some (some (.builtin "BaseException.__getattribute__"))) (hgt : findIn K (.ref D) "__getattr__" = some none) (hsub : subIn K (.ref D) (.type "BaseException") = some true) (hdct : hasDictIn K D = true) (ha : findIn K (.ref D) "__class__" = some (some (.builtin "object.__class__")))
    (hn : specialIn K (.builtin "object.__class__") "__get__" = some (some (.builtin "getset_descriptor.__get__"))) (htk : takesIn K (.builtin "object.__class__") = some true) (hm : mroIn K D (.type "object") = some true) :
    KitX K (.ref x) (.ref D) (fun h => ∃ ox od, InstAt h x ox D od) where
  ty := fun _ _ _ ⟨_, _, I⟩ => I.type
  it := fun _ _ X _ => by
    obtain ⟨cdD, hcD, _⟩ := any_some hdct
    unfold clsIn at hcD
    split at hcD
    · rename_i c' d' cd' sl' ho
      intro A' Q' E' s' k q
      unfold isType loadHead
      exact wpAny_bind (wpAny_loadPart (k _ _ (X _ _ ho)) (wpAny_pure q))
    · cases hcD
  ne := fun h tp dd its n sl X htp => by
    obtain ⟨cdD, hcD, _⟩ := any_some hdct
    refine Bool.eq_false_iff.mpr fun q => ?_
    have e : D = tp := Value.ref.inj (beq_iff_eq.mp q)
    subst e
    unfold clsIn at hcD
    split at hcD
    · rename_i c' d' cd' sl' ho
      have z := (X _ _ ho).symm.trans htp
      cases z
    · cases hcD
  ca := fun X ⟨_, _, I⟩ k => class_of hga hgt hsub hdct ha hn htk hm X I k
end
end XV
end PySem

namespace L2
open PySem PySem.Spec PyProof.Rows
open PySem.XV (ErrBase refsB)
/-- what the written part says of an own exception's class -/
structure ExC (K : PySem.W.Frag) (C : Addr) : Prop where
  cls : ∃ nm q N bs bm sn sub ab col dd k0 k1 k2 k3 k5 B newId initId tail, ErrBase B newId initId tail ∧ K.lookup C = some (excClassObj nm q C N bs bm true sn sub ab col dd k0 k1 k2 k3 k5 newId) ∧ refsB tail bm = true
  sa : PySem.W.findIn K (.ref C) "__setattr__" = some (some (.builtin "object.__setattr__"))
  ga : PySem.W.findIn K (.ref C) "__getattribute__" = some (some (.builtin "BaseException.__getattribute__"))
  gg : PySem.W.findIn K (.ref C) "__getattr__" = some none
  exC : PySem.W.subIn K (.ref C) (.type "BaseException") = some true
  tyC : PySem.W.typeIn K (.ref C) = some (.type "type")
  kC : PySem.W.keepIn K (.ref C) = true
  cl : PySem.W.specialIn K (.ref C) "__call__" = some (some (.builtin "type.__call__"))
  inT : PySem.W.instIn K (.ref C) (.type "type") = some true
  hd : PySem.W.hasDictIn K C = true
  ha : PySem.W.findIn K (.ref C) "__class__" = some (some (.builtin "object.__class__"))
  hm : PySem.W.mroIn K C (.type "object") = some true
  hn : PySem.W.specialIn K (.builtin "object.__class__") "__get__" = some (some (.builtin "getset_descriptor.__get__"))
  ht : PySem.W.takesIn K (.builtin "object.__class__") = some true
section
variable {X : Cx} {pins : List (Addr × Obj)} {σ : St} {H : Hp} {s : Shared} {a C dx : Addr} {f : Str} {y : V} {u : Value} {fs : List (Str × V)} {Q : Unit → Shared → Prop} {E : Value → Shared → Prop} {A : Around}
theorem est_new (T : ExC X.K C) (I : Inv X pins σ H s) (e : H a = some (exo a C none)) (hno : PySem.W.findIn X.K (.ref C) f = some none) (ry : RelV y u)
    (h : ∀ dx s', H dx = none → dx ≠ a → Inv X pins σ (upd (upd H dx (exd dx [(f, y)])) a (exo a C (some dx))) s' → Q () s') : wpAny (model X.prog X.w) A (setAttr (.ref a) f u) Q E s := by
  obtain ⟨nm, q, N, bs, bm, sn, sub, ab, col, dd, k0, k1, k2, k3, k5, B, newId, initId, tail, EB, hC, hbm⟩ := T.cls
  have hcl : PySem.W.clsIn X.K C = some { name := nm, bases := bs, mro := .ref C :: bm, ns := N, qualname := q, hasDict := true, slotNames := sn, subclasses := sub, abstract := ab, collection := col, hasDel := false } := by unfold PySem.W.clsIn; rw [hC] <;> rfl
  obtain ⟨t1, ho⟩ := exo_at I.hok e
  obtain ⟨hp, g, d, t, os⟩ := s
  refine PySem.W.set_plain I.kIn (ox := { cls := .ref C, dict := none, data := .fields #[.ref t1, .none, .none, .none, .bool false, .none] }) (od := none) ⟨ho, rfl, rfl, trivial⟩ T.sa ?_
  refine PySem.XV.osa_new EB I.kIn ho hcl (show refsB tail (.ref C :: bm) = true from hbm) rfl rfl hno (fun h' tk' dx k dn dne hx hn => ?_)
  have hnd : H dx = none := I.hok.fresh dn
  have nd : ∀ {b : Addr} {o : Obj}, hp.get? b = some o → b ≠ dx := fun {b o} q => Nat.ne_of_lt (Nat.lt_of_lt_of_le (Heap.lt_size q) dn)
  have na : ∀ {b : Addr}, H b = none → b ≠ a := fun {b} n z => by
    rw [z, e] at n
    cases n
  have Un1 : Un X.fs [] H (upd (upd H dx (exd dx [(f, y)])) a (exo a C (some dx))) hp h' := {
    keep := fun b o q n _ _ => k b o (na n) q
    slot := fun b o q n _ _ => ⟨o.slots, k b o (na n) q⟩
    free := fun b o q n _ => by rw [upd_ne (na n), upd_ne (nd q)]; exact n
    there := fun b o q _ => by
      by_cases hb : b = a
      · exact ⟨_, by rw [hb]; exact hx⟩
      · exact ⟨o, k b o hb q⟩
    tups := fun b xs q => by rw [upd_ne (at_ne e q exo_tup), upd_ne (ne_of_none q hnd)]; exact q
    frzs := fun b o v q => by rw [upd_ne (at_ne e q exo_frz), upd_ne (ne_of_none q hnd)]; exact q
    tbls := fun b ps q => ⟨#[], by rw [upd_ne (at_ne e q exo_tbl), upd_ne (ne_of_none q hnd), q]; simp⟩ }
  refine h dx _ hnd dne (I.un (t' := tk') Un1 fun b o q => ?_)
  by_cases hb : b = a
  · subst hb
    rw [upd_same] at q
    cases q
    exact exo_ok hx
  · rw [upd_ne hb] at q
    by_cases hd : b = dx
    · subst hd
      rw [upd_same] at q
      cases q
      exact exd_ok hn (relO_put (fs := []) ry fun g => True.intro)
    · rw [upd_ne hd] at q
      exact (I.hok b o q).stay (fun c v hc z => k c v (by
          rcases hc with hc | hc
          · rw [hc]
            exact hb
          · exact at_ne e hc exo_own) z)
        (fun c hc => by rw [upd_ne (at_ne e hc exo_own), upd_ne (ne_of_none hc hnd)]; exact hc) (fun c xs hc => by rw [upd_ne (at_ne e hc exo_tup), upd_ne (ne_of_none hc hnd)]; exact hc)
theorem est_more (T : ExC X.K C) (I : Inv X pins σ H s) (e : H a = some (exo a C (some dx))) (ed : H dx = some (exd dx fs)) (hl : fs.length ≤ 900) (hno : PySem.W.findIn X.K (.ref C) f = some none) (ry : RelV y u)
    (h : ∀ s', Inv X pins σ (upd H dx (exd dx ((f, y) :: fs))) s' → Q () s') : wpAny (model X.prog X.w) A (setAttr (.ref a) f u) Q E s := by
  obtain ⟨nm, q, N, bs, bm, sn, sub, ab, col, dd, k0, k1, k2, k3, k5, B, newId, initId, tail, EB, hC, hbm⟩ := T.cls
  have hcl : PySem.W.clsIn X.K C = some { name := nm, bases := bs, mro := .ref C :: bm, ns := N, qualname := q, hasDict := true, slotNames := sn, subclasses := sub, abstract := ab, collection := col, hasDel := false } := by unfold PySem.W.clsIn; rw [hC] <;> rfl
  obtain ⟨t1, ho⟩ := exo_at I.hok e
  obtain ⟨mA, hns, rel⟩ := exd_at I.hok ed
  have hw := within_of rel
  obtain ⟨hp, g, d, t, os⟩ := s
  obtain ⟨oD, _, _, hoD, _, _⟩ := hns.count hw
  refine PySem.W.set_plain I.kIn (ox := { cls := .ref C, dict := some dx, data := .fields #[.ref t1, .none, .none, .none, .bool false, .none] }) (od := some oD) ⟨ho, rfl, rfl, hoD⟩ T.sa ?_
  refine PySem.XV.osa_more EB I.kIn ho hns hw (by rw [List.length_map]; omega) hcl (show refsB tail (.ref C :: bm) = true from hbm) rfl rfl hno (fun h' tk' k hn => ?_)
  have hd : ∃ o, h'.get? dx = some o := by
    obtain ⟨o, _, _, e', _⟩ := hn
    exact ⟨o, e'⟩
  exact h _ (I.write (t' := tk') (x := dx) (e := dx) (o := exd dx ((f, y) :: fs)) (by rw [ed]; exact True.intro) (.inl rfl) k hd (exd_ok hn (relO_put ry rel)))
end
/-- self.f = e -/
def tEst (K : PySem.W.Frag) (f : Str) (to te : TE) : TS := fun D σ H => te σ H fun y H1 => to σ H1 fun x H2 => ∃ a C : Addr, x = .ref a ∧ ExC K C ∧ PySem.W.findIn K (.ref C) f = some none ∧
  ((H2 a = some (exo a C none) ∧ ∀ dx, H2 dx = none → dx ≠ a → D.nx σ (upd (upd H2 dx (exd dx [(f, y)])) a (exo a C (some dx)))) ∨
    ∃ (dx : Addr) (fs : List (Str × V)), H2 a = some (exo a C (some dx)) ∧ H2 dx = some (exd dx fs) ∧ fs.length ≤ 900 ∧ D.nx σ (upd H2 dx (exd dx ((f, y) :: fs))))
section
variable {X : Cx} {o e : Expr} {es : List Expr} {to te : TE} {ta : TA} {f : Str} {p p' p1 p2 pos : Pos}
theorem ps_est (ho : PE X o to) (he : PE X e te) (hs : swapsWith e (some (.Attribute o f p')) pos.line X.env = pure false := by rfl) : PS X (.Assign [.Attribute o f p'] e pos) (tEst X.K f to te) := by
  refine ⟨fun pins s σ H D I h => ?_⟩
  refine plainObj_wpAny_Assign_Attribute (thn (he.run pins s σ H _ I h) fun v s1 ⟨y, H1, I1, r1, q1⟩ => thn (ho.run pins s1 σ H1 _ I1 q1) fun u s2 ⟨x, H2, I2, r2, a, C, ex, T, hno, q⟩ => ?_) hs
  subst ex
  obtain rfl : u = Value.ref a := r2
  rcases q with ⟨ea, q⟩ | ⟨dx, fs, ea, ed, hl, q⟩
  · exact est_new T I2 ea hno r1 fun dx s' n ne J => ⟨σ, _, J, q dx n ne⟩
  · exact est_more T I2 ea ed hl hno r1 fun s' J => ⟨σ, _, J, q⟩
/-- e.f of an exception that stands as a value -/
def tEfd (K : PySem.W.Frag) (f : Str) (te : TE) : TE := fun σ H Q => te σ H fun x H1 => ∃ (a C dx : Addr) (fs : List (Str × V)) (v : V), x = .ref a ∧ ExC K C ∧ PySem.W.findIn K (.ref C) f = some none ∧ H1 a = some (exo a C (some dx)) ∧ H1 dx = some (exd dx fs) ∧ fs.lookup f = some v ∧ Q v H1
theorem pe_efd (he : PE X e te) (hb : attributeBase e f X.env (eval e X.env) = eval e X.env := by rfl) : PE X (.Attribute e f pos) (tEfd X.K f te) := by
  refine ⟨fun pins s σ H Q I h => ?_⟩
  refine attr_of hb (thn (he.run pins s σ H _ I h) fun u s1 hh => ?_)
  obtain ⟨x, H1, I1, rx, a, C, dx, fs, v, ex, T, hno, ea, ed, hl, q⟩ := hh
  subst ex
  obtain rfl : u = Value.ref a := rx
  obtain ⟨t1, ho⟩ := exo_at I1.hok ea
  obtain ⟨mA, hns, rel⟩ := exd_at I1.hok ed
  obtain ⟨od, hod, hlk⟩ := lookIn_ns hns
  obtain ⟨u, hu, ru⟩ := RelO.some_of (v := v) (o := mA f) (by rw [← hl]; exact rel f)
  have J : PySem.W.InstAt s1.heap a { cls := .ref C, dict := some dx, data := .fields #[.ref t1, .none, .none, .none, .bool false, .none] } C (some od) := ⟨ho, rfl, rfl, hod⟩
  exact HandSPX.exc_get I1.kIn J T.ga T.gg T.exC (PySem.W.findObj_own T.hd hno rfl (by rw [hlk, hu])) (handed_of ru) ⟨v, H1, I1.tok _, ru, q⟩
/-- isinstance(e, c), e an exception that stands as a value -/
def rIsV (K : PySem.W.Frag) : List V → Hp → VK → Prop := fun xs H Q => ∃ (a C : Addr) (c : V) (u : Value) (b : Bool), xs = [.ref a, c] ∧ ClsV c u ∧ ExC K C ∧ (H a = some (exo a C none) ∨ ∃ dx fs, H a = some (exo a C (some dx)) ∧ H dx = some (exd dx fs)) ∧ PySem.W.kitOne K (.ref C) u = some b ∧ Q (.bl b) H
theorem call_isV {X : Cx} : CallR X (.builtin "isinstance") (rIsV X.K) := by
  intro pins s σ H xs us Q I r h
  obtain ⟨a, C, c, u, b, rfl, k, T, ha, e, q⟩ := h
  obtain ⟨u1, u2, rfl, r1, r2⟩ := vals2 r
  have e2 := k.eq r2
  subst e2
  obtain rfl : u1 = Value.ref a := r1
  have J : ∃ ox od, PySem.W.InstAt s.heap a ox C od := by
    rcases ha with ha | ⟨dx, fs, ha, hd⟩
    · obtain ⟨t1, ho⟩ := exo_at I.hok ha
      exact ⟨_, none, ho, rfl, rfl, trivial⟩
    · obtain ⟨t1, ho⟩ := exo_at I.hok ha
      obtain ⟨mA, hns, rel⟩ := exd_at I.hok hd
      obtain ⟨od, hod, _⟩ := lookIn_ns hns
      exact ⟨_, some od, ho, rfl, rfl, hod⟩
  exact PySem.W.kia_one (PySem.XV.kitx_err T.ga T.gg T.exC T.hd T.ha T.hn T.ht T.hm) I.kIn J e (fun z => nomatch z) fun tk => ⟨.bl b, H, I.tok tk, rfl, q⟩
end
/-! ### made by a call -/
/-- C(e, ..), C(k = e, ..): a new exception, then its __init__ -/
def tEmk (C : Addr) (n m : Nat) (sp : Sp) (gV : List V → List V → List V) (t tk : TA) : TE := fun σ H Q => t σ H fun vs H1 => tk σ H1 fun zs H2 => vs.length = n ∧ zs.length = m ∧ n ≤ 1000 ∧ ∀ a, H2 a = none →
  sp (gV (.ref a :: vs) zs) (upd H2 a (exo a C none)) (fun v H3 => v = .non ∧ Q (.ref a) H3) E0
section
variable {X : Cx} {CX : CXT} {k n : Nat} {fI C : Addr} {fd : FuncData} {ps ks : List Str} {sp : Sp} {x : Str} {p pos : Pos} {e : Expr} {es : List Expr} {kws : List Keyword} {t tk : TA} {g : List Value → List Value → List Value} {gV : List V → List V → List V}
theorem run_emk {pins : List (Addr × Obj)} {σ : St} {H : Hp} {s : Shared} {Q : VK} {us ws : List Value} {vs zs : List V} (T : ExC X.K C) (iC : PySem.W.findIn X.K (.ref C) "__init__" = some (some (.ref fI))) (tI : PySem.W.typeIn X.K (.ref fI) = some (.type "function"))
    (F : FnOk X.prog X.w X.K X.mg X.base CX k fI fd ps sp) (hr : Room (k + 1) X.A) (hb : KBn X.K fd ps (n + 1) ks g gV) (hx : Passes CX X E0)
    (I : Inv X pins σ H s) (r : Vals vs us) (rz : Vals zs ws) (l1 : vs.length = n) (l2 : zs.length = ks.length) (l3 : n ≤ 1000)
    (h : ∀ a, H a = none → sp (gV (.ref a :: vs) zs) (upd H a (exo a C none)) (fun v H2 => v = .non ∧ Q (.ref a) H2) E0) :
    wpAny (model X.prog X.w) X.A (call (.ref C) us (ks.zip ws)) (EP X pins σ Q) X.xe s := by
  obtain ⟨nm, q, N, bs, bm, sn, sub, ab, col, dd, k0, k1, k2, k3, k5, B, newId, initId, tail, EB, hC, hbm⟩ := T.cls
  obtain ⟨hp, gg, dr, tok, os⟩ := s
  have hsz : hp.objs.size ≤ hp.objs.size + 1 := Nat.le_succ _
  have hn : H (hp.objs.size + 1) = none := I.hok.fresh hsz
  have hq := h (hp.objs.size + 1) hn
  have kk : ∀ b o, hp.get? b = some o → ((hp.push (PySem.W.kdv_tup us)).push (PySem.HandSPX.excO C hp.objs.size)).get? b = some o := fun b o e => Heap.get?_push_of_some _ (Heap.get?_push_of_some _ e)
  have hget : ((hp.push (PySem.W.kdv_tup us)).push (PySem.HandSPX.excO C hp.objs.size)).get? (hp.objs.size + 1) = some (PySem.HandSPX.excO C hp.objs.size) := by heap_get
  have I2 : Inv X pins σ (upd H (hp.objs.size + 1) (exo (hp.objs.size + 1) C none)) ⟨(hp.push (PySem.W.kdv_tup us)).push (PySem.HandSPX.excO C hp.objs.size), gg, dr, tok, os⟩ :=
    I.laid (t' := tok) (a := hp.objs.size + 1) (o := exo (hp.objs.size + 1) C none) (h' := (hp.push (PySem.W.kdv_tup us)).push (PySem.HandSPX.excO C hp.objs.size)) kk hsz (exo_ok hget)
  have r1 : Vals (V.ref (hp.objs.size + 1) :: vs) (Value.ref (hp.objs.size + 1) :: us) := .cons rfl r
  have r2 := hb.rel r1 rz
  have e1 : (Value.ref (hp.objs.size + 1) :: us).length = n + 1 := r1.length.symm.trans (congrArg Nat.succ l1)
  have e2 : ws.length = ks.length := rz.length.symm.trans l2
  have hus : us.length ≤ sizeLine := by
    rw [← Paired.length r, sizeLine_eq]
    omega
  refine wpAny_call (PySem.XV.call_kw EB.F (fun Y => PySem.XV.refsB_contains Y bm hbm) (I.kIn _ _ hC) (PySem.W.looks_findIn I.kIn iC) (fun self => PySem.W.bind_fn I.kIn self tI) hus (PySem.W.looks_specialIn I.kIn T.cl) (PySem.W.looks_instIn I.kIn T.inT)
    (codeAny_mono (F.run _ X.stack _ _ ⟨Value.ref (hp.objs.size + 1) :: us, ks.zip ws⟩ (g (Value.ref (hp.objs.size + 1) :: us) ws) _ _ E0 (hr.make C us (ks.zip ws)) (I2.env0.make C us (ks.zip ws)) (hb.to _ (Value.ref (hp.objs.size + 1) :: us) ws I2.kIn e1 e2) r2 hq) fun r s' hq' => ?_))
  cases r with
  | error er => exact hx pins σ _ _ er s' I2 hq'
  | ok fl =>
    cases fl with
    | ret u =>
      obtain ⟨v, H', I3, rv, ev, q3⟩ := I2.after hq'
      subst ev
      exact ⟨rv, ⟨V.ref (hp.objs.size + 1), H', I3, rfl, q3⟩⟩
    | next => exact False.elim hq'
    | brk => exact False.elim hq'
    | cont => exact False.elim hq'
theorem pe_emk (T : ExC X.K C) (iC : PySem.W.findIn X.K (.ref C) "__init__" = some (some (.ref fI))) (tI : PySem.W.typeIn X.K (.ref fI) = some (.type "function"))
    (F : FnOk X.prog X.w X.K X.mg X.base CX k fI fd ps sp) (hr : Room (k + 1) X.A) (hg : Gl X x) (hm : X.mg x = some (.ref C)) (hb : KBn X.K fd ps (n + 1) [] g gV) (hx : Passes CX X E0)
    (ha : PA X (e :: es) t) (hdb : (x == ("__debug__" : Str)) = false := by decide) (he : starEach (e :: es) X.env = (false, eval e X.env) :: starEach es X.env := by rfl) (hpl : (backTo pos (starEach es X.env)).any (·.1) = false := by rfl) :
    PE X (.Call (.Name x p) (e :: es) [] pos) (tEmk C n 0 sp gV t tNil) := by
  refine ⟨fun pins s σ H Q I h => ?_⟩
  refine wpAny_Call_Name_kw (ld_glob I hg hm ?_ hdb)
  refine PySem.W.callWith_K (h₀ := X.base) I.ok.mod.kin T.kC (thn (ha.run pos pins s σ H _ I h) fun us s1 ⟨vs, H1, I1, r, l1, l2, l3, q⟩ => ⟨I1.kIn, ?_⟩) he hpl
  exact run_emk (ks := []) (ws := []) T iC tI F hr hb hx I1 r .nil l1 l2 l3 q
theorem pe_emk0 (T : ExC X.K C) (iC : PySem.W.findIn X.K (.ref C) "__init__" = some (some (.ref fI))) (tI : PySem.W.typeIn X.K (.ref fI) = some (.type "function"))
    (F : FnOk X.prog X.w X.K X.mg X.base CX k fI fd ps sp) (hr : Room (k + 1) X.A) (hg : Gl X x) (hm : X.mg x = some (.ref C)) (hb : KBn X.K fd ps 1 ks g gV) (hx : Passes CX X E0) (hkw : PK X kws tk)
    (hall : (backToKw pos (keywordEach kws X.env)).all (·.1.isSome) = true := by rfl) (hks : (backToKw pos (keywordEach kws X.env)).filterMap (·.1) = ks := by rfl) (hdb : (x == ("__debug__" : Str)) = false := by decide)
    (hpl : ((backTo pos (starEach [] X.env)).any (·.1) || (backToKw pos (keywordEach kws X.env)).any (·.1.isNone)) = false := by rfl) :
    PE X (.Call (.Name x p) [] kws pos) (tEmk C 0 ks.length sp gV tNil tk) := by
  refine ⟨fun pins s σ H Q I h => ?_⟩
  refine wpAny_Call_Name_kw (ld_glob I hg hm ?_ hdb)
  refine PySem.W.callWith_KW0 (h₀ := X.base) I.ok.mod.kin T.kC hall ?_ hpl
  refine thn (hkw.run pos pins s σ H _ I h) fun ws s2 ⟨zs, H2, I2, rz, l1, l2, l3, q2⟩ => ⟨I2.kIn, ?_⟩
  rw [hks]
  exact run_emk (us := []) (vs := []) T iC tI F hr hb hx I2 .nil rz rfl l2 l3 q2
/-- f(k = e, ..): keywords alone -/
theorem pe_callN0 {f : Addr} {E : XK} (F : FnOk X.prog X.w X.K X.mg X.base CX k f fd ps sp) (hr : Room k X.A) (hg : Gl X x) (hm : X.mg x = some (.ref f)) (hk : PySem.W.keepIn X.K (.ref f) = true) (hb : KBn X.K fd ps 0 ks g gV) (hx : Passes CX X E) (hkw : PK X kws tk)
    (hall : (backToKw pos (keywordEach kws X.env)).all (·.1.isSome) = true := by rfl) (hks : (backToKw pos (keywordEach kws X.env)).filterMap (·.1) = ks := by rfl) (hdb : (x == ("__debug__" : Str)) = false := by decide)
    (hpl : ((backTo pos (starEach [] X.env)).any (·.1) || (backToKw pos (keywordEach kws X.env)).any (·.1.isNone)) = false := by rfl) :
    PE X (.Call (.Name x p) [] kws pos) (tCallN 0 ks.length sp gV E tNil tk) := by
  refine ⟨fun pins s σ H Q I h => ?_⟩
  refine wpAny_Call_Name_kw (ld_glob I hg hm ?_ hdb)
  refine PySem.W.callWith_KW0 (h₀ := X.base) I.ok.mod.kin hk hall ?_ hpl
  refine thn (hkw.run pos pins s σ H _ I h) fun ws s2 ⟨zs, H2, I2, rz, l1, l2, q2⟩ => ⟨I2.kIn, ?_⟩
  rw [hks]
  exact run_fnN (us := []) (vs := []) F hr hb hx I2 .nil rz rfl l2 q2
end
end L2
set_option Elab.async false
set_option linter.all false
set_option maxRecDepth 100000
set_option maxHeartbeats 4000000
/-! own exceptions: made without an __init__ of their own, with one field, with two -/
namespace L2
open PySem PySem.Spec PyProof.Rows
section
variable {X : Cx}
/-- C(), no __init__ of its own -/
theorem pe_emkN {C : Addr} {bmB : List Value} {B newId initId : String} {x : Str} {p pos : Pos} (F : ExcBaseFacts B newId initId bmB) (q : PySem.W.excIn X.K C bmB newId = true) (gC : X.mg x = some (.ref C)) (kC : PySem.W.keepIn X.K (.ref C) = true) (hg : Gl X x)
    (hdb : (x == ("__debug__" : Str)) = false := by decide) :
    PE X (.Call (.Name x p) [] [] pos) (fun _ H Q => ∀ a, H a = none → Q (.ref a) (upd H a (exo a C none))) := by
  refine ⟨fun pins s σ H Q I h => ?_⟩
  refine wpAny_Call_Name_kw (ld_glob I hg gC ?_ hdb)
  refine PySem.W.callWith_K0 I.kIn kC ?_
  obtain ⟨bm, N, nm, qn, bs, hdct, sn, sub, ab, col, dd, k0, k1, k2, k3, k5, mN, hC, hN, hni, T⟩ := exc_obj I.kIn q
  refine wpAny_call_exc_subT F T hC hN hni (fun h' a hm => ?_) (by show 0 ≤ sizeLine; exact Nat.zero_le _)
  have hn : H a = none := I.hok.gone hm.new
  obtain ⟨t, ht, _, _⟩ := hm.there
  exact ⟨.ref a, upd H a (exo a C none), I.laidN hm.keeps hm.new hn (exo_ok ht), rfl, h a hn⟩
end
theorem upd_thrice {H : Hp} {a dx : Addr} {o1 o2 o3 : HO} : upd (upd (upd H a o1) dx o2) a o3 = upd (upd H dx o2) a o3 := by
  funext b
  unfold upd
  by_cases h1 : b = a
  · rw [if_pos h1, if_pos h1]
  · rw [if_neg h1, if_neg h1]
    by_cases h2 : b = dx
    · rw [if_pos h2, if_neg h1]
    · rw [if_neg h2, if_neg h1]
theorem upd_comm {H : Hp} {a dx : Addr} {o1 o2 : HO} (ne : dx ≠ a) : upd (upd H a o1) dx o2 = upd (upd H dx o2) a o1 := by
  funext b
  unfold upd
  by_cases h1 : b = dx
  · rw [if_pos h1, if_neg (fun z => ne (h1.symm.trans z)), if_pos h1]
  · rw [if_neg h1]
    by_cases h2 : b = a
    · rw [if_pos h2, if_pos h2]
    · rw [if_neg h2, if_neg h2, if_neg h1]
/-! ### __init__ with one field -/
def iA1 (f : Str) (p1 p2 : Pos) : Arguments := { posonlyargs := [], args := [{ arg := "self", annotation := none, pos := p1 }, { arg := f, annotation := none, pos := p2 }], vararg := none, kwonlyargs := [], kw_defaults := [], kwarg := none, defaults := [] }
def iB1 (f : Str) (q1 q2 q3 q4 : Pos) : List Stmt := [.Assign [.Attribute (.Name "self" q1) f q2] (.Name f q3) q4]
def iS1 (f : Str) : Scope := { kind := .function, names := [(PySem.Str.ofString "self", .local), (f, .local)], isGenerator := false, isCoroutine := false, more := [] }
def iSt1 (f : Str) (p1 p2 q1 q2 q3 q4 pos : Pos) : Stmt := .FunctionDef "__init__" (iA1 f p1 p2) (iB1 f q1 q2 q3 q4) [] none [] (iS1 f) none "__init__" pos
def iA2 (f g : Str) (p1 p2 p3 : Pos) : Arguments := { posonlyargs := [], args := [{ arg := "self", annotation := none, pos := p1 }, { arg := f, annotation := none, pos := p2 }, { arg := g, annotation := none, pos := p3 }], vararg := none, kwonlyargs := [], kw_defaults := [], kwarg := none, defaults := [] }
def iB2 (f g : Str) (q1 q2 q3 q4 r1 r2 r3 r4 : Pos) : List Stmt := [.Assign [.Attribute (.Name "self" q1) f q2] (.Name f q3) q4, .Assign [.Attribute (.Name "self" r1) g r2] (.Name g r3) r4]
def iS2 (f g : Str) : Scope := { kind := .function, names := [(PySem.Str.ofString "self", .local), (f, .local), (g, .local)], isGenerator := false, isCoroutine := false, more := [] }
def iSt2 (f g : Str) (p1 p2 p3 q1 q2 q3 q4 r1 r2 r3 r4 pos : Pos) : Stmt := .FunctionDef "__init__" (iA2 f g p1 p2 p3) (iB2 f g q1 q2 q3 q4 r1 r2 r3 r4) [] none [] (iS2 f g) none "__init__" pos
theorem sc_value : FnScope ["self", "value"] ["self", "value"] (iS1 "value") := ⟨rfl, rfl, rfl, by decide +kernel, rfl, by decide +kernel, by decide +kernel⟩
theorem sc_position : FnScope ["self", "position"] ["self", "position"] (iS1 "position") := ⟨rfl, rfl, rfl, by decide +kernel, rfl, by decide +kernel, by decide +kernel⟩
theorem sc_line : FnScope ["self", "line"] ["self", "line"] (iS1 "line") := ⟨rfl, rfl, rfl, by decide +kernel, rfl, by decide +kernel, by decide +kernel⟩
theorem sc_one : FnScope ["self", "one", "other"] ["self", "one", "other"] (iS2 "one" "other") := ⟨rfl, rfl, rfl, by decide +kernel, rfl, by decide +kernel, by decide +kernel⟩
theorem sc_what : FnScope ["self", "what", "limit"] ["self", "what", "limit"] (iS2 "what" "limit") := ⟨rfl, rfl, rfl, by decide +kernel, rfl, by decide +kernel, by decide +kernel⟩
def spI1 (K : PySem.W.Frag) (f : Str) : Sp := fun vs H Q _ => ∃ (a C : Addr) (y : V), vs = [.ref a, y] ∧ ExC K C ∧ PySem.W.findIn K (.ref C) f = some none ∧ H a = some (exo a C none) ∧
  ∀ dx, H dx = none → dx ≠ a → Q .non (upd (upd H dx (exd dx [(f, y)])) a (exo a C (some dx)))
def spI2 (K : PySem.W.Frag) (f g : Str) : Sp := fun vs H Q _ => ∃ (a C : Addr) (y z : V), vs = [.ref a, y, z] ∧ ExC K C ∧ PySem.W.findIn K (.ref C) f = some none ∧ PySem.W.findIn K (.ref C) g = some none ∧ H a = some (exo a C none) ∧
  ∀ dx, H dx = none → dx ≠ a → Q .non (upd (upd (upd H dx (exd dx [(f, y)])) a (exo a C (some dx))) dx (exd dx [(g, z), (f, y)]))
def one1 (k : V → Hp → Prop) : List V → Hp → Prop
  | [y], H => k y H
  | _, _ => False
def two2 (k : V → V → Hp → Prop) : List V → Hp → Prop
  | [y, z], H => k y z H
  | _, _ => False
section
variable {P : Program} {w : World} {K : PySem.W.Frag} {mg : Str → Option Value} {base : Heap} {qual : Str} {fI : Addr} {fd : FuncData} {p1 p2 p3 q1 q2 q3 q4 r1 r2 r3 r4 pos : Pos}
theorem ok_value (F : Fun K "__init__" qual (iSt1 "value" p1 p2 q1 q2 q3 q4 pos) fI fd) : FnOk P w K mg base CX0 1 fI fd ["self", "value"] (spI1 K "value") := by
  refine F.ok (show FnScope _ _ (defScope _) from sc_value) (fun vs H Q E h => ?_) (fun cdv A outer s H vs Q E hr h => ?_)
  · obtain ⟨a, C, y, rfl, _⟩ := h
    rfl
  · obtain ⟨a, C, y, rfl, T, no, ha, q⟩ := h
    exact ⟨_, pss_one (ps_est (pv 0) (pv 1)), _, rfl, _, rfl, a, C, rfl, T, no, .inl ⟨ha, q⟩⟩
theorem ok_position (F : Fun K "__init__" qual (iSt1 "position" p1 p2 q1 q2 q3 q4 pos) fI fd) : FnOk P w K mg base CX0 1 fI fd ["self", "position"] (spI1 K "position") := by
  refine F.ok (show FnScope _ _ (defScope _) from sc_position) (fun vs H Q E h => ?_) (fun cdv A outer s H vs Q E hr h => ?_)
  · obtain ⟨a, C, y, rfl, _⟩ := h
    rfl
  · obtain ⟨a, C, y, rfl, T, no, ha, q⟩ := h
    exact ⟨_, pss_one (ps_est (pv 0) (pv 1)), _, rfl, _, rfl, a, C, rfl, T, no, .inl ⟨ha, q⟩⟩
theorem ok_line (F : Fun K "__init__" qual (iSt1 "line" p1 p2 q1 q2 q3 q4 pos) fI fd) : FnOk P w K mg base CX0 1 fI fd ["self", "line"] (spI1 K "line") := by
  refine F.ok (show FnScope _ _ (defScope _) from sc_line) (fun vs H Q E h => ?_) (fun cdv A outer s H vs Q E hr h => ?_)
  · obtain ⟨a, C, y, rfl, _⟩ := h
    rfl
  · obtain ⟨a, C, y, rfl, T, no, ha, q⟩ := h
    exact ⟨_, pss_one (ps_est (pv 0) (pv 1)), _, rfl, _, rfl, a, C, rfl, T, no, .inl ⟨ha, q⟩⟩
theorem ok_one (F : Fun K "__init__" qual (iSt2 "one" "other" p1 p2 p3 q1 q2 q3 q4 r1 r2 r3 r4 pos) fI fd) : FnOk P w K mg base CX0 1 fI fd ["self", "one", "other"] (spI2 K "one" "other") := by
  refine F.ok (show FnScope _ _ (defScope _) from sc_one) (fun vs H Q E h => ?_) (fun cdv A outer s H vs Q E hr h => ?_)
  · obtain ⟨a, C, y, z, rfl, _⟩ := h
    rfl
  · obtain ⟨a, C, y, z, rfl, T, no, no2, ha, q⟩ := h
    refine ⟨_, pss_cons (ps_est (pv 0) (pv 1)) (pss_one (ps_est (pv 0) (pv 2))), _, rfl, _, rfl, a, C, rfl, T, no, .inl ⟨ha, fun dx nd ne => ?_⟩⟩
    exact ⟨_, rfl, _, rfl, a, C, rfl, T, no2, .inr ⟨dx, [("one", y)], upd_same, by rw [upd_ne ne, upd_same], Nat.le_of_ble_eq_true rfl, q dx nd ne⟩⟩
theorem ok_what (F : Fun K "__init__" qual (iSt2 "what" "limit" p1 p2 p3 q1 q2 q3 q4 r1 r2 r3 r4 pos) fI fd) : FnOk P w K mg base CX0 1 fI fd ["self", "what", "limit"] (spI2 K "what" "limit") := by
  refine F.ok (show FnScope _ _ (defScope _) from sc_what) (fun vs H Q E h => ?_) (fun cdv A outer s H vs Q E hr h => ?_)
  · obtain ⟨a, C, y, z, rfl, _⟩ := h
    rfl
  · obtain ⟨a, C, y, z, rfl, T, no, no2, ha, q⟩ := h
    refine ⟨_, pss_cons (ps_est (pv 0) (pv 1)) (pss_one (ps_est (pv 0) (pv 2))), _, rfl, _, rfl, a, C, rfl, T, no, .inl ⟨ha, fun dx nd ne => ?_⟩⟩
    exact ⟨_, rfl, _, rfl, a, C, rfl, T, no2, .inr ⟨dx, [("what", y)], upd_same, by rw [upd_ne ne, upd_same], Nat.le_of_ble_eq_true rfl, q dx nd ne⟩⟩
end
/-- an own error named x with the one field f -/
structure ErC1 (K : PySem.W.Frag) (mg : Str → Option Value) (f x : Str) (C : Addr) : Prop where
  T : ExC K C
  g : mg x = some (.ref C)
  no : PySem.W.findIn K (.ref C) f = some none
  init : ∃ (fI : Addr) (fd : FuncData), PySem.W.findIn K (.ref C) "__init__" = some (some (.ref fI)) ∧ PySem.W.typeIn K (.ref fI) = some (.type "function") ∧ KBn K fd ["self", f] 2 [] (fun us _ => us) (fun vs _ => vs) ∧
    KBn K fd ["self", f] 1 [f] (fun us ws => us ++ ws) (fun vs zs => vs ++ zs) ∧ ∀ (P : Program) (w : World) (base : Heap), FnOk P w K mg base CX0 1 fI fd ["self", f] (spI1 K f)
structure ErC2 (K : PySem.W.Frag) (mg : Str → Option Value) (f g x : Str) (C : Addr) : Prop where
  T : ExC K C
  gm : mg x = some (.ref C)
  no : PySem.W.findIn K (.ref C) f = some none
  no2 : PySem.W.findIn K (.ref C) g = some none
  init : ∃ (fI : Addr) (fd : FuncData), PySem.W.findIn K (.ref C) "__init__" = some (some (.ref fI)) ∧ PySem.W.typeIn K (.ref fI) = some (.type "function") ∧ KBn K fd ["self", f, g] 3 [] (fun us _ => us) (fun vs _ => vs) ∧
    KBn K fd ["self", f, g] 1 [g, f] (fun us ws => us ++ ws.reverse) (fun vs zs => vs ++ zs.reverse) ∧ ∀ (P : Program) (w : World) (base : Heap), FnOk P w K mg base CX0 1 fI fd ["self", f, g] (spI2 K f g)
theorem Vals.rev {vs : List V} {us : List Value} (r : Vals vs us) : Vals vs.reverse us.reverse := by
  induction r with
  | nil => exact .nil
  | cons h t ih =>
    rw [List.reverse_cons, List.reverse_cons]
    exact ih.append (.cons h .nil)
section
variable {K : PySem.W.Frag} {mg : Str → Option Value} {C fI : Addr} {x qual : Str} {oc : Value} {od an : Option Addr} {osl : Array (Option Value)} {kV doc pm cdv ct : Value} {p1 p2 p3 q1 q2 q3 q4 r1 r2 r3 r4 : Pos}
theorem erc_value (T : ExC K C) (g : mg x = some (.ref C)) (no : PySem.W.findIn K (.ref C) "value" = some none) (i : PySem.W.findIn K (.ref C) "__init__" = some (some (.ref fI))) (t : PySem.W.typeIn K (.ref fI) = some (.type "function"))
    (l : K.lookup fI = some ⟨oc, od, .func (PySem.W.fnOf "__init__" qual (iA1 "value" p1 p2) (iB1 "value" q1 q2 q3 q4) (iS1 "value") .none kV doc pm an cdv ct), osl⟩) (c : PySem.W.codeIn K cdv qual = true) (k : PySem.W.keepIn K (.ref fI) = true) : ErC1 K mg "value" x C :=
  ⟨T, g, no, fI, _, i, t, ⟨fun s us ws _ h1 h2 => match us, h1, ws, h2 with | [_, _], _, [], _ => .of_eq rfl, fun r _ => r⟩, ⟨fun s us ws _ h1 h2 => match us, h1, ws, h2 with | [_], _, [_], _ => .of_eq rfl, fun r r' => r.append r'⟩,
    fun P w base => ok_value (fun_mk (st := iSt1 "value" p1 p2 q1 q2 q3 q4 p1) l c k)⟩
theorem erc_position (T : ExC K C) (g : mg x = some (.ref C)) (no : PySem.W.findIn K (.ref C) "position" = some none) (i : PySem.W.findIn K (.ref C) "__init__" = some (some (.ref fI))) (t : PySem.W.typeIn K (.ref fI) = some (.type "function"))
    (l : K.lookup fI = some ⟨oc, od, .func (PySem.W.fnOf "__init__" qual (iA1 "position" p1 p2) (iB1 "position" q1 q2 q3 q4) (iS1 "position") .none kV doc pm an cdv ct), osl⟩) (c : PySem.W.codeIn K cdv qual = true) (k : PySem.W.keepIn K (.ref fI) = true) : ErC1 K mg "position" x C :=
  ⟨T, g, no, fI, _, i, t, ⟨fun s us ws _ h1 h2 => match us, h1, ws, h2 with | [_, _], _, [], _ => .of_eq rfl, fun r _ => r⟩, ⟨fun s us ws _ h1 h2 => match us, h1, ws, h2 with | [_], _, [_], _ => .of_eq rfl, fun r r' => r.append r'⟩,
    fun P w base => ok_position (fun_mk (st := iSt1 "position" p1 p2 q1 q2 q3 q4 p1) l c k)⟩
theorem erc_line (T : ExC K C) (g : mg x = some (.ref C)) (no : PySem.W.findIn K (.ref C) "line" = some none) (i : PySem.W.findIn K (.ref C) "__init__" = some (some (.ref fI))) (t : PySem.W.typeIn K (.ref fI) = some (.type "function"))
    (l : K.lookup fI = some ⟨oc, od, .func (PySem.W.fnOf "__init__" qual (iA1 "line" p1 p2) (iB1 "line" q1 q2 q3 q4) (iS1 "line") .none kV doc pm an cdv ct), osl⟩) (c : PySem.W.codeIn K cdv qual = true) (k : PySem.W.keepIn K (.ref fI) = true) : ErC1 K mg "line" x C :=
  ⟨T, g, no, fI, _, i, t, ⟨fun s us ws _ h1 h2 => match us, h1, ws, h2 with | [_, _], _, [], _ => .of_eq rfl, fun r _ => r⟩, ⟨fun s us ws _ h1 h2 => match us, h1, ws, h2 with | [_], _, [_], _ => .of_eq rfl, fun r r' => r.append r'⟩,
    fun P w base => ok_line (fun_mk (st := iSt1 "line" p1 p2 q1 q2 q3 q4 p1) l c k)⟩
theorem erc_one (T : ExC K C) (g : mg x = some (.ref C)) (no : PySem.W.findIn K (.ref C) "one" = some none) (no2 : PySem.W.findIn K (.ref C) "other" = some none) (i : PySem.W.findIn K (.ref C) "__init__" = some (some (.ref fI))) (t : PySem.W.typeIn K (.ref fI) = some (.type "function"))
    (l : K.lookup fI = some ⟨oc, od, .func (PySem.W.fnOf "__init__" qual (iA2 "one" "other" p1 p2 p3) (iB2 "one" "other" q1 q2 q3 q4 r1 r2 r3 r4) (iS2 "one" "other") .none kV doc pm an cdv ct), osl⟩) (c : PySem.W.codeIn K cdv qual = true) (k : PySem.W.keepIn K (.ref fI) = true) : ErC2 K mg "one" "other" x C :=
  ⟨T, g, no, no2, fI, _, i, t, ⟨fun s us ws _ h1 h2 => match us, h1, ws, h2 with | [_, _, _], _, [], _ => .of_eq rfl, fun r _ => r⟩, ⟨fun s us ws _ h1 h2 => match us, h1, ws, h2 with | [_], _, [_, _], _ => .of_eq rfl, fun r r' => r.append r'.rev⟩,
    fun P w base => ok_one (fun_mk (st := iSt2 "one" "other" p1 p2 p3 q1 q2 q3 q4 r1 r2 r3 r4 p1) l c k)⟩
theorem erc_what (T : ExC K C) (g : mg x = some (.ref C)) (no : PySem.W.findIn K (.ref C) "what" = some none) (no2 : PySem.W.findIn K (.ref C) "limit" = some none) (i : PySem.W.findIn K (.ref C) "__init__" = some (some (.ref fI))) (t : PySem.W.typeIn K (.ref fI) = some (.type "function"))
    (l : K.lookup fI = some ⟨oc, od, .func (PySem.W.fnOf "__init__" qual (iA2 "what" "limit" p1 p2 p3) (iB2 "what" "limit" q1 q2 q3 q4 r1 r2 r3 r4) (iS2 "what" "limit") .none kV doc pm an cdv ct), osl⟩) (c : PySem.W.codeIn K cdv qual = true) (k : PySem.W.keepIn K (.ref fI) = true) : ErC2 K mg "what" "limit" x C :=
  ⟨T, g, no, no2, fI, _, i, t, ⟨fun s us ws _ h1 h2 => match us, h1, ws, h2 with | [_, _, _], _, [], _ => .of_eq rfl, fun r _ => r⟩, ⟨fun s us ws _ h1 h2 => match us, h1, ws, h2 with | [_], _, [_, _], _ => .of_eq rfl, fun r r' => r.append r'.rev⟩,
    fun P w base => ok_what (fun_mk (st := iSt2 "what" "limit" p1 p2 p3 q1 q2 q3 q4 r1 r2 r3 r4 p1) l c k)⟩
end
/-! ### the calls -/
def tEr1 (C : Addr) (f : Str) (te : TE) : TE := fun σ H Q => te σ H fun y H1 => ∀ a dx, H1 a = none → H1 dx = none → dx ≠ a → Q (.ref a) (upd (upd H1 dx (exd dx [(f, y)])) a (exo a C (some dx)))
/-- C(y, z) -/
def tEr2 (C : Addr) (f g : Str) (ty tz : TE) : TE := fun σ H Q => ty σ H fun y H1 => tz σ H1 fun z H2 => ∀ a dx, H2 a = none → H2 dx = none → dx ≠ a → Q (.ref a) (upd (upd H2 dx (exd dx [(g, z), (f, y)])) a (exo a C (some dx)))
/-- C(g = z, f = y) -/
def tEr2k (C : Addr) (f g : Str) (tz ty : TE) : TE := fun σ H Q => tz σ H fun z H1 => ty σ H1 fun y H2 => ∀ a dx, H2 a = none → H2 dx = none → dx ≠ a → Q (.ref a) (upd (upd H2 dx (exd dx [(g, z), (f, y)])) a (exo a C (some dx)))
section
variable {X : Cx} {C : Addr} {f g x : Str} {te ty tz : TE} {p pos kp1 kp2 : Pos} {e e1 e2 : Expr}
theorem pe_er1 (c : ErC1 X.K X.mg f x C) (hr : Room 2 X.A) (hg : Gl X x) (he : PE X e te) (hdb : (x == ("__debug__" : Str)) = false := by decide)
    (hs : starEach (e :: []) X.env = (false, eval e X.env) :: starEach [] X.env := by rfl) (hpl : (backTo pos (starEach [] X.env)).any (·.1) = false := by rfl) : PE X (.Call (.Name x p) [e] [] pos) (tEr1 C f te) := by
  refine ⟨fun pins s σ H Q I h => ?_⟩
  obtain ⟨fI, fd, iC, tI, kb, _, F⟩ := c.init
  refine wpAny_Call_Name_kw (ld_glob I hg c.g ?_ hdb)
  refine PySem.W.callWith_K (h₀ := X.base) I.ok.mod.kin c.T.kC (thn ((pa_cons he pa_nil hs).run pos pins s σ H (one1 fun y H1 => ∀ a dx, H1 a = none → H1 dx = none → dx ≠ a → Q (.ref a) (upd (upd H1 dx (exd dx [(f, y)])) a (exo a C (some dx)))) I h) fun us s1 hh => ?_) hs hpl
  obtain ⟨vs, H1, I1, r, q⟩ := hh
  refine ⟨I1.kIn, ?_⟩
  match vs, q, r with
  | [y], q, r =>
    refine run_emk (n := 1) (ks := []) (ws := []) c.T iC tI (F _ _ _) hr kb pass0 I1 r .nil rfl rfl (by decide) fun a na => ?_
    refine ⟨a, C, y, rfl, c.T, c.no, upd_same, fun dx nd ne => ⟨rfl, ?_⟩⟩
    rw [upd_thrice]
    rw [upd_ne ne] at nd
    exact q a dx na nd ne
theorem pe_er1k (c : ErC1 X.K X.mg f x C) (hr : Room 2 X.A) (hg : Gl X x) (he : PE X e te) (hdb : (x == ("__debug__" : Str)) = false := by decide)
    (hall : (backToKw pos (keywordEach [⟨some f, e, kp1⟩] X.env)).all (·.1.isSome) = true := by rfl) (hks : (backToKw pos (keywordEach [⟨some f, e, kp1⟩] X.env)).filterMap (·.1) = [f] := by rfl)
    (hpl : ((backTo pos (starEach [] X.env)).any (·.1) || (backToKw pos (keywordEach [⟨some f, e, kp1⟩] X.env)).any (·.1.isNone)) = false := by rfl) : PE X (.Call (.Name x p) [] [⟨some f, e, kp1⟩] pos) (tEr1 C f te) := by
  refine ⟨fun pins s σ H Q I h => ?_⟩
  obtain ⟨fI, fd, iC, tI, _, kb, F⟩ := c.init
  refine wpAny_Call_Name_kw (ld_glob I hg c.g ?_ hdb)
  refine PySem.W.callWith_KW0 (h₀ := X.base) I.ok.mod.kin c.T.kC hall ?_ hpl
  refine thn ((pk_cons he pk_nil).run pos pins s σ H (one1 fun y H1 => ∀ a dx, H1 a = none → H1 dx = none → dx ≠ a → Q (.ref a) (upd (upd H1 dx (exd dx [(f, y)])) a (exo a C (some dx)))) I h) fun ws s2 hh => ?_
  obtain ⟨zs, H1, I1, r, q⟩ := hh
  refine ⟨I1.kIn, ?_⟩
  rw [hks]
  match zs, q, r with
  | [y], q, r =>
    refine run_emk (n := 0) (us := []) (vs := []) c.T iC tI (F _ _ _) hr kb pass0 I1 .nil r rfl rfl (by decide) fun a na => ?_
    refine ⟨a, C, y, rfl, c.T, c.no, upd_same, fun dx nd ne => ⟨rfl, ?_⟩⟩
    rw [upd_thrice]
    rw [upd_ne ne] at nd
    exact q a dx na nd ne
theorem pe_er2 (c : ErC2 X.K X.mg f g x C) (hr : Room 2 X.A) (hg : Gl X x) (h1 : PE X e1 ty) (h2 : PE X e2 tz) (hdb : (x == ("__debug__" : Str)) = false := by decide)
    (hs : starEach (e1 :: [e2]) X.env = (false, eval e1 X.env) :: starEach [e2] X.env := by rfl) (hs2 : starEach (e2 :: []) X.env = (false, eval e2 X.env) :: starEach [] X.env := by rfl) (hpl : (backTo pos (starEach [e2] X.env)).any (·.1) = false := by rfl) : PE X (.Call (.Name x p) [e1, e2] [] pos) (tEr2 C f g ty tz) := by
  refine ⟨fun pins s σ H Q I h => ?_⟩
  obtain ⟨fI, fd, iC, tI, kb, _, F⟩ := c.init
  refine wpAny_Call_Name_kw (ld_glob I hg c.gm ?_ hdb)
  refine PySem.W.callWith_K (h₀ := X.base) I.ok.mod.kin c.T.kC (thn ((pa_cons h1 (pa_cons h2 pa_nil hs2) hs).run pos pins s σ H (two2 fun y z H1 => ∀ a dx, H1 a = none → H1 dx = none → dx ≠ a → Q (.ref a) (upd (upd H1 dx (exd dx [(g, z), (f, y)])) a (exo a C (some dx)))) I h) fun us s1 hh => ?_) hs hpl
  obtain ⟨vs, H1, I1, r, q⟩ := hh
  refine ⟨I1.kIn, ?_⟩
  match vs, q, r with
  | [y, z], q, r =>
    refine run_emk (n := 2) (ks := []) (ws := []) c.T iC tI (F _ _ _) hr kb pass0 I1 r .nil rfl rfl (by decide) fun a na => ?_
    refine ⟨a, C, y, z, rfl, c.T, c.no, c.no2, upd_same, fun dx nd ne => ⟨rfl, ?_⟩⟩
    rw [upd_thrice, upd_upd, upd_comm ne]
    rw [upd_ne ne] at nd
    exact q a dx na nd ne
theorem pe_er2k (c : ErC2 X.K X.mg f g x C) (hr : Room 2 X.A) (hg : Gl X x) (h1 : PE X e1 tz) (h2 : PE X e2 ty) (hdb : (x == ("__debug__" : Str)) = false := by decide)
    (hall : (backToKw pos (keywordEach [⟨some g, e1, kp1⟩, ⟨some f, e2, kp2⟩] X.env)).all (·.1.isSome) = true := by rfl) (hks : (backToKw pos (keywordEach [⟨some g, e1, kp1⟩, ⟨some f, e2, kp2⟩] X.env)).filterMap (·.1) = [g, f] := by rfl)
    (hpl : ((backTo pos (starEach [] X.env)).any (·.1) || (backToKw pos (keywordEach [⟨some g, e1, kp1⟩, ⟨some f, e2, kp2⟩] X.env)).any (·.1.isNone)) = false := by rfl) : PE X (.Call (.Name x p) [] [⟨some g, e1, kp1⟩, ⟨some f, e2, kp2⟩] pos) (tEr2k C f g tz ty) := by
  refine ⟨fun pins s σ H Q I h => ?_⟩
  obtain ⟨fI, fd, iC, tI, _, kb, F⟩ := c.init
  refine wpAny_Call_Name_kw (ld_glob I hg c.gm ?_ hdb)
  refine PySem.W.callWith_KW0 (h₀ := X.base) I.ok.mod.kin c.T.kC hall ?_ hpl
  refine thn ((pk_cons h1 (pk_cons h2 pk_nil)).run pos pins s σ H (two2 fun z y H1 => ∀ a dx, H1 a = none → H1 dx = none → dx ≠ a → Q (.ref a) (upd (upd H1 dx (exd dx [(g, z), (f, y)])) a (exo a C (some dx)))) I h) fun ws s2 hh => ?_
  obtain ⟨zs, H1, I1, r, q⟩ := hh
  refine ⟨I1.kIn, ?_⟩
  rw [hks]
  match zs, q, r with
  | [z, y], q, r =>
    refine run_emk (n := 0) (us := []) (vs := []) c.T iC tI (F _ _ _) hr kb pass0 I1 .nil r rfl rfl (by decide) fun a na => ?_
    refine ⟨a, C, y, z, rfl, c.T, c.no, c.no2, upd_same, fun dx nd ne => ⟨rfl, ?_⟩⟩
    rw [upd_thrice, upd_upd, upd_comm ne]
    rw [upd_ne ne] at nd
    exact q a dx na nd ne
end
/-! ### defs whose callers ask no repr above them -/
structure FnOkG (P : Program) (w : World) (K : PySem.W.Frag) (mg : Str → Option Value) (base : Heap) (CX : CXT) (k : Nat) (f : Addr) (fd : FuncData) (ps : List Str) (sp : Sp) : Prop where
  len : ∀ vs H Q E, sp vs H Q E → vs.length = ps.length
  run : ∀ (A : Around) (outer : List Env) (s : Shared) (H : Hp) (args : Args) (us : List Value) (vs : List V) (Q : VK) (E : XK), A.guards = some [] → Room k A → Env0 P w K mg base A outer s H → BindsTo s fd args (ps.zip us) → Vals vs us → sp vs H Q E →
    codeAny (model P w) A (.call (.ref f) args) (CR CX outer P w H s Q E) s
theorem FnOk.g {P : Program} {w : World} {K : PySem.W.Frag} {mg : Str → Option Value} {base : Heap} {CX : CXT} {k : Nat} {f : Addr} {fd : FuncData} {ps : List Str} {sp : Sp} (F : FnOk P w K mg base CX k f fd ps sp) : FnOkG P w K mg base CX k f fd ps sp :=
  ⟨F.len, fun A outer s H args us vs Q E _ hr he hb hv hs => F.run A outer s H args us vs Q E hr he hb hv hs⟩
theorem fn_ofG {CX : CXT} {P : Program} {w : World} {K : PySem.W.Frag} {mg : Str → Option Value} {base : Heap} {k : Nat} {f : Addr} {name qual : Str} {params : Arguments} {body : List Stmt} {scope : Scope} {dV kV doc pm cdv ct oc : Value} {an od : Option Addr}
    {osl : Array (Option Value)} {N ps : List Str} {sp : Sp} (lk : K.lookup f = some ⟨oc, od, .func (PySem.W.fnOf name qual params body scope dV kV doc pm an cdv ct), osl⟩) (hcd : PySem.W.codeIn K cdv qual = true) (S : FnScope N ps scope)
    (len : ∀ vs H Q E, sp vs H Q E → vs.length = ps.length)
    (hbody : ∀ (A : Around) (outer : List Env) (s : Shared) (H : Hp) (vs : List V) (Q : VK) (E : XK), (A.deeper (envOfC qual scope s.heap.objs.size f cdv)).guards = some [] → Room k (A.deeper (envOfC qual scope s.heap.objs.size f cdv)) → sp vs H Q E →
      ∃ t, PSs (cxOf CX P w K mg base N qual scope f cdv A outer s H E) body t ∧ t { nx := fun _ H' => Q .non H', rt := Q } (start N vs) H) :
    FnOkG P w K mg base CX (k + 1) f (PySem.W.fnOf name qual params body scope dV kV doc pm an cdv ct) ps sp := by
  refine ⟨len, fun A outer s H args us vs Q E hG hr e0 hb r hsp => ?_⟩
  have hl := len _ _ _ _ hsp
  have KX : K.In s.heap := e0.mod.kin.keeps fun b o e => (e0.bs b o e).1
  have lim : s.heap.NoLimit := e0.mod.nolimit.keeps fun b o e => (e0.bs b o e).1
  have hkind : ∀ y ∈ ps.zip us, scope.names.lookup y.1 = some .local ∨ (scope.names.lookup y.1 = some .cell ∧ ((cellsFrom (s.heap.objs.size + 1) scope.names []).lookup y.1).isSome = true) := fun ⟨n, v⟩ hy => by
    rcases S.par n (List.of_mem_zip hy).1 with q | q
    · exact .inl q
    · exact .inr ⟨q, PySem.W.cellsFrom_some _ _ _ (.inl q)⟩
  refine codeAny_call_function hr.depth (KX _ _ lk) rfl S.co S.gen rfl (PySem.W.codeRec_of KX hcd) (hb _ _ _ _ ?_)
  refine wpAny_newFunctionEnv_cells S.kind hkind fun env he s1 x => ?_
  subst he
  refine ⟨lim.keeps x.toInCall.keep, codeAny_func ?_⟩
  obtain ⟨t, ht, hq⟩ := hbody A outer s H vs Q E hG (hr.deeper _) hsp
  have I : Inv (cxOf CX P w K mg base N qual scope f cdv A outer s H E) [] (start N vs) H s1 := inv_start S hr.hd e0 hl r x
  refine wpAny_mono (ht.run [] s1 (start N vs) H _ I hq) (fun fl s' hs => ?_) fun e s' hs => hs
  have fin : ∀ {σ' : St} {H' : Hp} {v : V} {u : Value}, Inv (cxOf CX P w K mg base N qual scope f cdv A outer s H E) [] σ' H' s' → RelV v u → Q v H' → CE outer P w H s Q u s' :=
    fun {σ' H' v u} J rv q => ⟨v, H', J.os, J.bare, J.base, J.hok, rv, q⟩
  cases fl with
  | ret u =>
    obtain ⟨v, σ', H', J, rv, q⟩ := hs
    exact fin J rv q
  | next =>
    obtain ⟨σ', H', J, q⟩ := hs
    exact fin (v := V.non) (u := Value.none) J rfl q
  | brk =>
    obtain ⟨_, _, _, q⟩ := hs
    exact False.elim q
  | cont =>
    obtain ⟨_, _, _, q⟩ := hs
    exact False.elim q
theorem Fun.okG {P : Program} {w : World} {K : PySem.W.Frag} {mg : Str → Option Value} {base : Heap} {x qual : Str} {st : Stmt} {f : Addr} {fd : FuncData} {N ps : List Str} {k : Nat} {sp : Sp} (F : Fun K x qual st f fd) (S : FnScope N ps (defScope st)) (len : ∀ vs H Q E, sp vs H Q E → vs.length = ps.length)
    (hbody : ∀ (cdv : Value) (A : Around) (outer : List Env) (s : Shared) (H : Hp) (vs : List V) (Q : VK) (E : XK), (A.deeper (envOfC qual (defScope st) s.heap.objs.size f cdv)).guards = some [] → Room k (A.deeper (envOfC qual (defScope st) s.heap.objs.size f cdv)) → sp vs H Q E →
      ∃ t, PSs (cxOf CX0 P w K mg base N qual (defScope st) f cdv A outer s H E).nox (defBody st) t ∧ t { nx := fun _ H' => Q .non H', rt := Q } (start N vs) H) : FnOkG P w K mg base CX0 (k + 1) f fd ps sp := by
  obtain ⟨oc, od, kV, doc, pm, an, cdv, ct, osl, rfl, lk, hcd⟩ := F.ex
  refine fn_ofG lk hcd S len fun A outer s H vs Q E hG hr hsp => ?_
  obtain ⟨t, h, q⟩ := hbody cdv A outer s H vs Q E hG hr hsp
  exact ⟨t, h.nox, q⟩
section
variable {X : Cx} {CX : CXT} {k : Nat} {f : Addr} {fd : FuncData} {ps : List Str} {sp : Sp} {E : XK} {x : Str} {p pos : Pos} {e : Expr} {es : List Expr} {t : TA}
theorem run_fnG {pins : List (Addr × Obj)} {σ : St} {H : Hp} {s : Shared} {Q : VK} {us : List Value} {vs : List V} (F : FnOkG X.prog X.w X.K X.mg X.base CX k f fd ps sp) (hG : X.A.guards = some []) (hr : Room k X.A) (hb : Binds X.K fd ps []) (hx : Passes CX X E)
    (I : Inv X pins σ H s) (r : Vals vs us) (h : sp vs H Q E) : wpAny (model X.prog X.w) X.A (call (.ref f) us) (EP X pins σ Q) X.xe s := by
  have hl : us.length = ps.length := by rw [← r.length]; exact F.len _ _ _ _ h
  have b := hb s us I.kIn (by rw [List.append_nil]; exact hl)
  rw [List.append_nil] at b
  refine wpAny_call (codeAny_mono (F.run X.A X.stack s H ⟨us, []⟩ us vs Q E hG hr I.env0 b r h) fun r s' hq => ?_)
  cases r with
  | error e => exact hx pins σ H s e s' I hq
  | ok fl =>
    cases fl with
    | ret u => exact I.after hq
    | next => exact False.elim hq
    | brk => exact False.elim hq
    | cont => exact False.elim hq
def tCallG (sp : Sp) (E : XK) (t : TA) : TE := fun σ H Q => t σ H fun vs H1 => sp vs H1 Q E
theorem pe_callG (F : FnOkG X.prog X.w X.K X.mg X.base CX k f fd ps sp) (hG : X.A.guards = some []) (hr : Room k X.A) (hg : Gl X x) (hm : X.mg x = some (.ref f)) (hk : PySem.W.keepIn X.K (.ref f) = true) (hb : Binds X.K fd ps []) (hx : Passes CX X E)
    (ha : PA X (e :: es) t) (hdb : (x == ("__debug__" : Str)) = false := by decide) (he : starEach (e :: es) X.env = (false, eval e X.env) :: starEach es X.env := by rfl) (hpl : (backTo pos (starEach es X.env)).any (·.1) = false := by rfl) :
    PE X (.Call (.Name x p) (e :: es) [] pos) (tCallG sp E t) := by
  refine ⟨fun pins s σ H Q I h => ?_⟩
  refine wpAny_Call_Name_kw (ld_glob I hg hm ?_ hdb)
  refine PySem.W.callWith_K (h₀ := X.base) I.ok.mod.kin hk (thn (ha.run pos pins s σ H _ I h) fun us s1 ⟨vs, H1, I1, r, q⟩ => ⟨I1.kIn, ?_⟩) he hpl
  exact run_fnG F hG hr hb hx I1 r q
end
end L2
set_option Elab.async false
set_option linter.all false
set_option maxRecDepth 100000
set_option maxHeartbeats 4000000
/-! repr of data at any depth, dicts among it -/
namespace L2
open PySem PySem.Spec PyProof.Rows
def keyData : Key → PyData
  | .inl i => .int i
  | .inr x => .str x
mutual
inductive Dq (K : PySem.W.Frag) (H : Hp) : V → PyData → Prop
  | non : Dq K H .non .none
  | bl (b : Bool) : Dq K H (.bl b) (.bool b)
  | int (i : Int) : Dq K H (.int i) (.int i)
  | str (x : Str) : Dq K H (.str x) (.str x)
  | lst {a : Addr} {xs : List V} {ds : List PyData} : SqL K H a xs → DqAll K H xs ds → Dq K H (.ref a) (.list ds)
  | tup {a : Addr} {xs : List V} {ds : List PyData} : SqT K H a xs → DqAll K H xs ds → Dq K H (.ref a) (.tuple ds)
  | dic {a : Addr} {kvs : List (Key × V)} {ds : List (PyData × PyData)} : H a = some (.dK kvs) → ds.map (·.1) = kvs.map (fun p => keyData p.1) → DqAll K H (kvs.map (·.2)) (ds.map (·.2)) → Dq K H (.ref a) (.dict ds)
inductive DqAll (K : PySem.W.Frag) (H : Hp) : List V → List PyData → Prop
  | nil : DqAll K H [] []
  | cons {v : V} {vs : List V} {d : PyData} {ds : List PyData} : Dq K H v d → DqAll K H vs ds → DqAll K H (v :: vs) (d :: ds)
end
theorem keys_read {P : Program} {w : World} {h : Heap} : ∀ {es : List DictEntry} {vs : List (Key × Value)}, Pairs (mixKind P w) es vs → ReadsAll h (es.map (·.key)) (vs.map fun p => keyData p.1) [] := by
  intro es vs p
  induction p with
  | nil => exact .nil
  | @cons e kv es kvs h1 h2 _ ih =>
    have q : Reads h e.key (keyData kv.1) [] := by
      obtain ⟨k, y⟩ := kv
      rcases keyIs_shape (show keyIs k e.key = true from h1) with ⟨i, t, e1, e2⟩ | ⟨x, t, e1, e2⟩
      · rw [e2, e1]
        exact .int i t
      · rw [e2, e1]
        exact .str x t
    exact .cons q ih
theorem keys_repr {P : Program} {w : World} {h : Heap} {n : Nat} : ∀ {es : List DictEntry} {vs : List (Key × Value)}, Pairs (mixKind P w) es vs → PyData.showableAll (vs.map fun p => keyData p.1) = true → (∀ t ∈ PyData.shownAll (vs.map fun p => keyData p.1), t.length ≤ sizeLine) →
    ReprAllK P w [] h n (es.map (·.key)) (PyData.shownAll (vs.map fun p => keyData p.1)) := by
  intro es vs p
  induction p with
  | nil => intro _ _; exact .nil
  | @cons e kv es kvs h1 h2 _ ih =>
    intro hs hz
    obtain ⟨k, y⟩ := kv
    simp only [List.map_cons, PyData.showableAll, Bool.and_eq_true] at hs
    simp only [List.map_cons, PyData.shownAll, List.mem_cons, forall_eq_or_imp] at hz
    have q : ReprK P w [] h n e.key (keyData k).shown := by
      rcases keyIs_shape (show keyIs k e.key = true from h1) with ⟨i, t, e1, e2⟩ | ⟨x, t, e1, e2⟩
      · rw [e2, e1]
        rw [e1] at hs
        show ReprK P w [] h n _ (PyData.shown (.int i))
        simp only [PyData.shown]
        exact .of_is (ReprIs.int t (by simpa [keyData, PyData.showable] using hs.1)) _ _ _
      · rw [e2, e1]
        rw [e1] at hz
        show ReprK P w [] h n _ (PyData.shown (.str x))
        simp only [PyData.shown]
        exact .of_is (ReprIs.str x t (by simpa only [keyData, PyData.shown] using hz.1)) _ _ _
    exact .cons q (ih hs.2 hz.2)
theorem vals_kv {kvs : List (Key × V)} {vs : List (Key × Value)} (r : KV kvs vs) : Vals (kvs.map (·.2)) (vs.map (·.2)) ∧ kvs.map (fun p => keyData p.1) = vs.map (fun p => keyData p.1) := by
  unfold KV at r
  induction r with
  | nil => exact ⟨.nil, rfl⟩
  | cons h t ih =>
    refine ⟨.cons h.2 ih.1, ?_⟩
    rw [List.map_cons, List.map_cons, ih.2, h.1]
theorem pairs_vals {P : Program} {w : World} : ∀ {es : List DictEntry} {vs : List (Key × Value)}, Pairs (mixKind P w) es vs → es.map (·.val) = vs.map (·.2) := by
  intro es vs p
  induction p with
  | nil => rfl
  | cons h1 h2 _ ih => rw [List.map_cons, List.map_cons, ih, h2]
section
variable {X : Cx} {pins : List (Addr × Obj)} {σ : St} {H : Hp} {s : Shared}
mutual
theorem Dq.repr (I : Inv X pins σ H s) : ∀ {v : V} {d : PyData}, Dq X.K H v d → ∀ u : Value, RelV v u → d.showable = true → d.shown.length ≤ sizeLine →
    ∃ as bs, Reads s.heap u d as ∧ ReadAtMost s.heap d.depth bs ∧ ReprK X.prog X.w bs s.heap d.depth u d.shown
  | _, _, .non, u, r, _, _ => by
    cases r
    exact ⟨_, [], .none, (fun _ h => nomatch h), by simp only [PyData.shown]; exact .of_is ReprIs.none _ _ _⟩
  | _, _, .bl b, u, r, _, _ => by
    cases r
    exact ⟨_, [], .bool b, (fun _ h => nomatch h), by simp only [PyData.shown]; exact .of_is (ReprIs.bool b) _ _ _⟩
  | _, _, .int i, u, r, hs, _ => by
    obtain ⟨t, rfl⟩ := r
    exact ⟨_, [], .int i t, (fun _ h => nomatch h), by simp only [PyData.shown]; exact .of_is (ReprIs.int t (by simpa [PyData.showable] using hs)) _ _ _⟩
  | _, _, .str x, u, r, _, hz => by
    obtain ⟨t, rfl⟩ := r
    exact ⟨_, [], .str x t, (fun _ h => nomatch h), by simp only [PyData.shown]; exact .of_is (ReprIs.str x t (by simpa only [PyData.shown] using hz)) _ _ _⟩
  | _, _, .lst (a := a) (xs := xs) (ds := ds) hq ha, u, r, hs, hz => by
    cases r
    obtain ⟨its, rv, ⟨o, n, ho, hc, _, hd⟩, _⟩ := I.list hq
    have hz' : (listText (PyData.shownAll ds)).length ≤ sizeLine := by simpa only [PyData.shown] using hz
    obtain ⟨as, bs, hr, hb, hk⟩ := DqAll.repr I ha its rv (by simpa [PyData.showable] using hs) (fun t ht => Nat.le_trans (listText_mem_le ht) hz')
    have rr : Reads s.heap (.ref a) (.list ds) _ := .list ho hc hd hr
    have hna : a ∉ bs := not_mem_of_deeper rr (by simp only [PyData.depth]; omega) hb
    refine ⟨_, a :: bs, rr, ReadAtMost.cons rr (by simp only [PyData.depth]; omega) hb, ?_⟩
    simp only [PyData.depth, PyData.shown]
    cases its with
    | nil =>
      cases hr
      simp only [PyData.shownAll, listText_nil]
      exact ReprK.listEmpty ho hc hd
    | cons x l => exact ReprK.list ho hc hd hna (by simpa using hk.length_eq) (fun i y e => hk.item i y (by simpa using e))
  | _, _, .tup (a := a) (xs := xs) (ds := ds) hq ha, u, r, hs, hz => by
    cases r
    obtain ⟨its, rv, ⟨o, ho, hc, n, hd⟩, _⟩ := I.tuple hq
    have hz' : (tupleText (PyData.shownAll ds)).length ≤ sizeLine := by simpa only [PyData.shown] using hz
    obtain ⟨as, bs, hr, hb, hk⟩ := DqAll.repr I ha its rv (by simpa [PyData.showable] using hs) (fun t ht => Nat.le_trans (tupleText_mem_le ht) hz')
    have rr : Reads s.heap (.ref a) (.tuple ds) _ := .tuple ho hc hd hr
    have hna : a ∉ bs := not_mem_of_deeper rr (by simp only [PyData.depth]; omega) hb
    refine ⟨_, a :: bs, rr, ReadAtMost.cons rr (by simp only [PyData.depth]; omega) hb, ?_⟩
    simp only [PyData.depth, PyData.shown]
    exact ReprK.tuple ho hc hd hna hk
  | _, _, .dic (a := a) (kvs := kvs) (ds := ds) hq he ha, u, r, hs, hz => by
    cases r
    obtain ⟨_, hsys, vs, rkv, o, es, ep, ho, hx, hd, _, hp, _⟩ := (show ObjOk X.prog X.w H s.heap a (.dK kvs) from I.hok a _ hq)
    obtain ⟨rv, ek⟩ := vals_kv rkv
    have hz' : (dictText (PyData.shownKv ds)).length ≤ sizeLine := by simpa only [PyData.shown] using hz
    obtain ⟨hs1, hs2⟩ := PyData.showableKv_split ds (by simpa [PyData.showable] using hs)
    obtain ⟨as, bs, hr, hb, hk⟩ := DqAll.repr I ha _ rv hs2 (fun t ht => let ⟨p, hp, hl⟩ := PyData.shownKv_val_le ds t ht; Nat.le_trans hl (Nat.le_trans (dictText_mem_le hp) hz'))
    have k0 := keys_repr (h := s.heap) (n := PyData.depthAll (ds.map (·.2))) hp (by rw [← ek, ← he]; exact hs1) (by rw [← ek, ← he]; exact fun t ht => let ⟨p, hp, hl⟩ := PyData.shownKv_key_le ds t ht; Nat.le_trans hl (Nat.le_trans (dictText_mem_le hp) hz'))
    have r0 := keys_read (h := s.heap) hp
    rw [← ek, ← he] at k0 r0
    have r1 : ReadsAll s.heap (es.toList.map (·.val)) (ds.map (·.2)) as := by rw [pairs_vals hp]; exact hr
    have rr : Reads s.heap (.ref a) (.dict ds) _ := .dict ho hx.1 hd r0 r1
    have hbd : ReadAtMost s.heap (PyData.depthKv ds) bs := hb.mono (PyData.depthAll_vals_le ds)
    have hna : a ∉ bs := not_mem_of_deeper rr (by simp only [PyData.depth]; omega) hbd
    refine ⟨_, a :: bs, rr, ReadAtMost.cons rr (by simp only [PyData.depth]; omega) hbd, ?_⟩
    simp only [PyData.depth, PyData.shown, PyData.shownKv_eq]
    have hk' : ReprAllK X.prog X.w bs s.heap (PyData.depthAll (ds.map (·.2))) (es.toList.map (·.val)) (PyData.shownAll (ds.map (·.2))) := by rw [pairs_vals hp]; exact hk
    exact ReprK.dict ho hx.1 hd hsys hna (ReprEntriesK.of_two es.toList _ _
      (k0.more_le (fun b (hb : b ∈ ([] : List Addr)) => absurd hb (by simp)) (PyData.depthAll_vals_le ds)) (hk'.more_le (fun b hb => hb) (PyData.depthAll_vals_le ds)))
theorem DqAll.repr (I : Inv X pins σ H s) : ∀ {vs : List V} {ds : List PyData}, DqAll X.K H vs ds → ∀ us : List Value, Vals vs us → PyData.showableAll ds = true → (∀ t ∈ PyData.shownAll ds, t.length ≤ sizeLine) →
    ∃ as bs, ReadsAll s.heap us ds as ∧ ReadAtMost s.heap (PyData.depthAll ds) bs ∧ ReprAllK X.prog X.w bs s.heap (PyData.depthAll ds) us (PyData.shownAll ds)
  | _, _, .nil, us, r, _, _ => by
    cases r
    exact ⟨_, [], .nil, (fun _ h => nomatch h), by simp only [PyData.shownAll]; exact .nil⟩
  | _, _, .cons (d := d) (ds := ds) h1 h2, us, r, hs, hz => by
    cases r with
    | cons r1 r2 =>
      have hs' : d.showable = true ∧ PyData.showableAll ds = true := by simpa [PyData.showableAll] using hs
      obtain ⟨a1, b1, q1, hb1, k1⟩ := Dq.repr I h1 _ r1 hs'.1 (hz _ (by simp only [PyData.shownAll]; exact List.mem_cons_self ..))
      obtain ⟨a2, b2, q2, hb2, k2⟩ := DqAll.repr I h2 _ r2 hs'.2 (fun t ht => hz t (by simp only [PyData.shownAll]; exact List.mem_cons_of_mem _ ht))
      refine ⟨_, b1 ++ b2, .cons q1 q2, ?_, ?_⟩
      · intro b hm
        simp only [PyData.depthAll]
        rcases List.mem_append.mp hm with hm | hm
        · obtain ⟨d', as', r', hd'⟩ := hb1 b hm
          exact ⟨d', as', r', Nat.le_trans hd' (Nat.le_max_left _ _)⟩
        · obtain ⟨d', as', r', hd'⟩ := hb2 b hm
          exact ⟨d', as', r', Nat.le_trans hd' (Nat.le_max_right _ _)⟩
      · simp only [PyData.depthAll, PyData.shownAll]
        exact .cons ((k1.more fun b hb => List.mem_append_left _ hb).level_le (Nat.le_max_left _ _)) (k2.more_le (fun b hb => List.mem_append_right _ hb) (Nat.le_max_right _ _))
end
end
/-- repr(x) -/
def rRepr (K : PySem.W.Frag) : List V → Hp → VK → Prop := fun xs H Q => ∃ (v : V) (d : PyData), xs = [v] ∧ Dq K H v d ∧ d.showable = true ∧ d.depth ≤ 40 ∧ d.shown.length ≤ sizeLine ∧ Q (.str d.shown) H
section
variable {X : Cx}
theorem call_repr (hg : X.A.guards = some []) (hu : X.A.units + 64 < cLine) : CallR X (.builtin "repr") (rRepr X.K) := by
  intro pins s σ H xs us Q I r h
  obtain ⟨v, d, rfl, hq, hs, hdp, hz, q⟩ := h
  obtain ⟨u, rfl, ru⟩ := vals1 r
  have fin : ∀ h' u' tk, (∀ b o, s.heap.get? b = some o → h'.get? b = some o) → EP X pins σ Q (.str d.shown u') { s with heap := h', toks := tk } := fun h' u' tk hk => ⟨.str d.shown, H, I.kept (t' := tk) hk, ⟨_, rfl⟩, q⟩
  cases hq with
  | non => cases ru; simp only [PyData.shown] at fin; exact PySem.P.repr_of_none (fin _ _ _ fun _ _ e => e)
  | bl b => cases ru; simp only [PyData.shown] at fin; exact PySem.P.repr_of_bool (fin _ _ _ fun _ _ e => e)
  | int i =>
    obtain ⟨t, rfl⟩ := ru
    simp only [PyData.shown] at fin
    exact PySem.P.repr_of_int (by simpa [PyData.showable] using hs) (fin _ _ _ fun _ _ e => e)
  | str x =>
    obtain ⟨t, rfl⟩ := ru
    simp only [PyData.shown] at fin hz
    exact PySem.P.repr_of_str (fin _ _ _ fun _ _ e => e) hz
  | @lst a ys ds hq ha =>
    cases ru
    obtain ⟨its, rv, ⟨o, n, ho, hc, _, hd⟩, _⟩ := I.list hq
    have hz' : (listText (PyData.shownAll ds)).length ≤ sizeLine := by simpa only [PyData.shown] using hz
    obtain ⟨as, bs, hr, hb, hk⟩ := DqAll.repr I ha its rv (by simpa [PyData.showable] using hs) (fun t ht => Nat.le_trans (listText_mem_le ht) hz')
    have rr : Reads s.heap (.ref a) (.list ds) _ := .list ho hc hd hr
    have hna : a ∉ bs := not_mem_of_deeper rr (by simp only [PyData.depth]; omega) hb
    simp only [PyData.depth] at hdp
    simp only [PyData.shown] at fin
    refine call_repr_slot (by omega) ⟨o, ho, hc⟩ F.slot_list_repr.toG ?_
    cases its with
    | nil =>
      cases hr
      simp only [PyData.shownAll, listText_nil] at fin
      exact call_list_repr_empty ⟨o, ho, hc⟩ ho hd ⟨_, _, rfl, fin _ _ _ fun _ _ e => e⟩
    | cons x l =>
      exact call_list_reprK ho hc hd hna (by simpa using hk.length_eq) (fun i y e => hk.item i y (by simpa using e)) hg (fun b _ => Clear.nil b) (by show X.A.units + 1 + _ < _; omega) (fun _ _ e => e) (fun h' u tk hk => ⟨_, _, rfl, fin h' u tk hk⟩) hz'
  | @tup a ys ds hq ha =>
    cases ru
    obtain ⟨its, rv, ⟨o, ho, hc, n, hd⟩, _⟩ := I.tuple hq
    have hz' : (tupleText (PyData.shownAll ds)).length ≤ sizeLine := by simpa only [PyData.shown] using hz
    obtain ⟨as, bs, hr, hb, hk⟩ := DqAll.repr I ha its rv (by simpa [PyData.showable] using hs) (fun t ht => Nat.le_trans (tupleText_mem_le ht) hz')
    have rr : Reads s.heap (.ref a) (.tuple ds) _ := .tuple ho hc hd hr
    have hna : a ∉ bs := not_mem_of_deeper rr (by simp only [PyData.depth]; omega) hb
    simp only [PyData.depth] at hdp
    simp only [PyData.shown] at fin
    refine call_repr_slot (by omega) ⟨o, ho, hc⟩ F.slot_tuple_repr ?_
    exact call_tuple_reprK ho hc hd hna hk hg (fun b _ => Clear.nil b) (by show X.A.units + 1 + _ < _; omega) (fun _ _ e => e) (fun h' u tk hk => ⟨_, _, rfl, fin h' u tk hk⟩) hz'
  | @dic a kvs ds hq he ha =>
    cases ru
    obtain ⟨_, hsys, vs, rkv, o, es, ep, ho, hx, hd, _, hp, _⟩ := (show ObjOk X.prog X.w H s.heap a (.dK kvs) from I.hok a _ hq)
    obtain ⟨rv, ek⟩ := vals_kv rkv
    have hz' : (dictText (PyData.shownKv ds)).length ≤ sizeLine := by simpa only [PyData.shown] using hz
    obtain ⟨hs1, hs2⟩ := PyData.showableKv_split ds (by simpa [PyData.showable] using hs)
    obtain ⟨as, bs, hr, hb, hk⟩ := DqAll.repr I ha _ rv hs2 (fun t ht => let ⟨p, hp, hl⟩ := PyData.shownKv_val_le ds t ht; Nat.le_trans hl (Nat.le_trans (dictText_mem_le hp) hz'))
    have k0 := keys_repr (h := s.heap) (n := PyData.depthAll (ds.map (·.2))) hp (by rw [← ek, ← he]; exact hs1) (by rw [← ek, ← he]; exact fun t ht => let ⟨p, hp, hl⟩ := PyData.shownKv_key_le ds t ht; Nat.le_trans hl (Nat.le_trans (dictText_mem_le hp) hz'))
    have r0 := keys_read (h := s.heap) hp
    rw [← ek, ← he] at k0 r0
    have r1 : ReadsAll s.heap (es.toList.map (·.val)) (ds.map (·.2)) as := by rw [pairs_vals hp]; exact hr
    have rr : Reads s.heap (.ref a) (.dict ds) _ := .dict ho hx.1 hd r0 r1
    have hbd : ReadAtMost s.heap (PyData.depthKv ds) bs := hb.mono (PyData.depthAll_vals_le ds)
    have hna : a ∉ bs := not_mem_of_deeper rr (by simp only [PyData.depth]; omega) hbd
    simp only [PyData.depth] at hdp
    simp only [PyData.shown, PyData.shownKv_eq] at fin
    have hk' : ReprAllK X.prog X.w bs s.heap (PyData.depthAll (ds.map (·.2))) (es.toList.map (·.val)) (PyData.shownAll (ds.map (·.2))) := by rw [pairs_vals hp]; exact hk
    refine call_repr_slot (by omega) ⟨o, ho, hx.1⟩ F.slot_dict_repr ?_
    exact call_dict_reprK ho hx.1 hd hsys hna (ReprEntriesK.of_two es.toList _ _
      (k0.more_le (fun b (hb : b ∈ ([] : List Addr)) => absurd hb (by simp)) (PyData.depthAll_vals_le ds)) (hk'.more_le (fun b hb => hb) (PyData.depthAll_vals_le ds))) hg (fun b _ => Clear.nil b) (by show X.A.units + 1 + _ < _; omega) (fun _ _ e => e) (fun h' u tk hk => ⟨_, _, rfl, fin h' u tk hk⟩) (by rw [← PyData.shownKv_eq]; exact hz')
end
end L2
set_option Elab.async false
set_option linter.all false
set_option maxRecDepth 100000
set_option maxHeartbeats 4000000
/-! the head's facts with own errors among them -/
namespace He
open PySem PySem.Spec PyProof.Rows L2
open PySem.XV (ErrBase refsB)
def tV : List Value := [.type "ValueError", .type "Exception", .type "BaseException", .type "object"]
def tL : List Value := [.type "LookupError", .type "Exception", .type "BaseException", .type "object"]
def tR : List Value := [.type "RuntimeError", .type "Exception", .type "BaseException", .type "object"]
def tA : List Value := [.type "ArithmeticError", .type "Exception", .type "BaseException", .type "object"]
def baseB (n : String) (bm : List Value) : Bool := (n == "ValueError.__new__" && refsB tV bm) || (n == "LookupError.__new__" && refsB tL bm) || (n == "RuntimeError.__new__" && refsB tR bm) || (n == "ArithmeticError.__new__" && refsB tA bm)
theorem baseB_ok {n : String} {bm : List Value} (h : baseB n bm = true) : ∃ B initId tail, ErrBase B n initId tail ∧ refsB tail bm = true := by
  unfold baseB at h
  simp only [Bool.or_eq_true, Bool.and_eq_true, beq_iff_eq] at h
  rcases h with ((⟨rfl, h⟩ | ⟨rfl, h⟩) | ⟨rfl, h⟩) | ⟨rfl, h⟩
  · exact ⟨_, _, _, PySem.XV.base_value, h⟩
  · exact ⟨_, _, _, PySem.XV.base_lookup, h⟩
  · exact ⟨_, _, _, PySem.XV.base_runtime, h⟩
  · exact ⟨_, _, _, PySem.XV.base_arith, h⟩
def clsB (K : PySem.W.Frag) (C : Addr) : Bool := match K.lookup C with
  | some ⟨.type t, _, .cls cd, sl⟩ => (match cd.mro, sl.toList with
    | .ref C' :: bm, [_, _, _, _, some (.builtin n), _] => t == "type" && (C' == C && (!cd.hasDel && (cd.hasDict && baseB n bm)))
    | _, _ => false)
  | _ => false
theorem clsB_ok {K : PySem.W.Frag} {C : Addr} (h : clsB K C = true) : ∃ nm q N bs bm sn sub ab col dd k0 k1 k2 k3 k5 B newId initId tail, ErrBase B newId initId tail ∧ K.lookup C = some (excClassObj nm q C N bs bm true sn sub ab col dd k0 k1 k2 k3 k5 newId) ∧ refsB tail bm = true := by
  unfold clsB at h
  split at h
  · rename_i t dd cd sl ho
    split at h
    · rename_i C' bm k0 k1 k2 k3 n k5 hm hs
      obtain ⟨h1, h⟩ := ba h
      obtain ⟨h2, h⟩ := ba h
      obtain ⟨h3, h⟩ := ba h
      obtain ⟨h4, h5⟩ := ba h
      obtain ⟨B, initId, tail, EB, hr⟩ := baseB_ok h5
      have e1 : t = "type" := beq_iff_eq.mp h1
      have e2 : C' = C := beq_iff_eq.mp h2
      subst e1 e2
      obtain ⟨nm, bs, mro, ns, qn, hd, sn, sub, ab, col, del⟩ := cd
      dsimp only at hm h3 h4
      have e3 : del = false := by simpa using h3
      subst hm e3 h4
      have hsl : sl = #[k0, k1, k2, k3, some (.builtin n), k5] := by
        obtain ⟨l⟩ := sl
        simp only at hs
        rw [hs]
      subst hsl
      exact ⟨_, _, _, _, _, _, _, _, _, _, _, _, _, _, _, _, _, _, _, EB, ho, hr⟩
    · cases h
  · cases h
def exB (K : PySem.W.Frag) (x : Str) : Bool :=
  eqO (PySem.W.nsIn K mainGlobals x) (some (some (.ref (ga K x)))) && (clsB K (ga K x) && (eqO (PySem.W.findIn K (.ref (ga K x)) "__setattr__") (some (some (.builtin "object.__setattr__"))) &&
  (eqO (PySem.W.findIn K (.ref (ga K x)) "__getattribute__") (some (some (.builtin "BaseException.__getattribute__"))) && (eqO (PySem.W.findIn K (.ref (ga K x)) "__getattr__") (some none) &&
  (decide (PySem.W.subIn K (.ref (ga K x)) (.type "BaseException") = some true) && (decide (PySem.W.typeIn K (.ref (ga K x)) = some (.type "type")) && (PySem.W.keepIn K (.ref (ga K x)) &&
  (eqO (PySem.W.specialIn K (.ref (ga K x)) "__call__") (some (some (.builtin "type.__call__"))) && (decide (PySem.W.instIn K (.ref (ga K x)) (.type "type") = some true) && (PySem.W.hasDictIn K (ga K x) &&
  (eqO (PySem.W.findIn K (.ref (ga K x)) "__class__") (some (some (.builtin "object.__class__"))) && (decide (PySem.W.mroIn K (ga K x) (.type "object") = some true) &&
  (eqO (PySem.W.specialIn K (.builtin "object.__class__") "__get__") (some (some (.builtin "getset_descriptor.__get__"))) && decide (PySem.W.takesIn K (.builtin "object.__class__") = some true))))))))))))))
section
variable {K : PySem.W.Frag} {h : Heap} {mg : Str → Option Value} {x f g : Str}
theorem exB_ok (c : exB K x = true) : (Fa.glo x).ok K = true ∧ ExC K (ga K x) := by
  obtain ⟨c0, c⟩ := ba c
  obtain ⟨c1, c⟩ := ba c
  obtain ⟨c2, c⟩ := ba c
  obtain ⟨c3, c⟩ := ba c
  obtain ⟨c4, c⟩ := ba c
  obtain ⟨c5, c⟩ := ba c
  obtain ⟨c6, c⟩ := ba c
  obtain ⟨c7, c⟩ := ba c
  obtain ⟨c8, c⟩ := ba c
  obtain ⟨c9, c⟩ := ba c
  obtain ⟨d0, c⟩ := ba c
  obtain ⟨d1, c⟩ := ba c
  obtain ⟨d2, c⟩ := ba c
  obtain ⟨d3, d4⟩ := ba c
  exact ⟨c0, clsB_ok c1, eqO_ok c2, eqO_ok c3, eqO_ok c4, of_decide_eq_true c5, of_decide_eq_true c6, c7, eqO_ok c8, of_decide_eq_true c9, d0, eqO_ok d1, of_decide_eq_true d2, eqO_ok d3, of_decide_eq_true d4⟩
def inB (K : PySem.W.Frag) (x : Str) : Bool := eqO (PySem.W.findIn K (.ref (ga K x)) "__init__") (some (some (.ref (ma K (ga K x) "__init__")))) && decide (PySem.W.typeIn K (.ref (ma K (ga K x) "__init__")) = some (.type "function"))
def er1B (K : PySem.W.Frag) (x f : Str) : Bool := exB K x && (eqO (PySem.W.findIn K (.ref (ga K x)) f) (some none) && inB K x)
def er2B (K : PySem.W.Frag) (x f g : Str) : Bool := exB K x && (eqO (PySem.W.findIn K (.ref (ga K x)) f) (some none) && (eqO (PySem.W.findIn K (.ref (ga K x)) g) (some none) && inB K x))
/-- no __init__, over RuntimeError -/
def erRB (K : PySem.W.Frag) (x : Str) : Bool := exB K x && PySem.W.excIn K (ga K x) [.type "RuntimeError", .type "Exception", .type "BaseException", .type "object"] "RuntimeError.__new__"
end
/-! ### the Hook -/
abbrev AlX : Type := Bool × AlD
def obsX (ex : PySem.W.Frag → Bool) (fa : List Fa) (fn : List DefD) (K : PySem.W.Frag) : AlX := (ex K, obsD fa fn K)
def SaysX (ex : PySem.W.Frag → Bool) (fa : List Fa) (fn : List DefD) (K : PySem.W.Frag) : Prop := obsX ex fa fn K = (true, valD fn)
def obsXG (ex : PySem.W.Frag → Bool) (n : Nat) (fa : List Fa) (fn : List DefD) (g : Addr → Option Obj) : AlX := obsX ex fa fn (frG g (asD g n))
def hookX (ex : PySem.W.Frag → Bool) (n : Nat) (fa : List Fa) (fn : List DefD) : PySem.W.Hook where
  α := AlX
  obs := fun s => obsXG ex n fa fn s.heap.get?
  val := fun _ => (true, valD fn)
  says := fun _ h => ∃ K : PySem.W.Frag, K.In h ∧ SaysX ex fa fn K
  of := fun _ _ e => ⟨_, frG_in, e⟩
  keeps := fun _ _ _ ⟨K, hK, c⟩ k => ⟨K, PySem.W.Frag.In.keeps hK k, c⟩
theorem obsXG_eq {ex : PySem.W.Frag → Bool} {n : Nat} {fa : List Fa} {fn : List DefD} {g : Addr → Option Obj} {s : Shared} (h : ∀ a, g a = s.heap.get? a) : obsXG ex n fa fn g = (hookX ex n fa fn).obs s := by
  have e : g = s.heap.get? := funext h
  rw [e] <;> rfl
theorem SaysX.ex {ex : PySem.W.Frag → Bool} {fa : List Fa} {fn : List DefD} {K : PySem.W.Frag} (c : SaysX ex fa fn K) : ex K = true := congrArg (fun z : AlX => z.1) c
theorem SaysX.d {ex : PySem.W.Frag → Bool} {fa : List Fa} {fn : List DefD} {K : PySem.W.Frag} (c : SaysX ex fa fn K) : SaysD fa fn K := congrArg (fun z : AlX => z.2) c
end He
namespace L2
open PySem PySem.Spec PyProof.Rows
theorem FunD.toFun {K : PySem.W.Frag} {x qual : Str} {st : Stmt} {f : Addr} {fd : FuncData} {kws : List (Str × V)} (F : FunD K x qual (defArgs st) (defBody st) (defScope st) [] kws f fd) : Fun K x qual st f fd := by
  obtain ⟨oc, od, dV, kV, doc, pm, an, cdv, ct, osl, rfl, lk, hcd, hD, hK⟩ := F.ex
  rcases hD with ⟨_, rfl⟩ | ⟨e, _⟩
  · exact ⟨⟨oc, od, kV, doc, pm, an, cdv, ct, osl, rfl, lk, hcd⟩, F.kp⟩
  · exact absurd rfl e
/-- the law's end over facts, the law's def one that asks no repr above it -/
theorem law_callG {P : Program} {w : World} {K : PySem.W.Frag} {mg mb : Str → Option Value} {k : Nat} {fa a : Addr} {fd : FuncData} {x : Str} {sp : Sp} {s₁ : Shared} {vs : List Value} {ns : List Int}
    (KX : K.In s₁.heap) (hns : s₁.heap.Ns mainGlobals mg) (hb : s₁.heap.Ns builtinsNs mb) (hbb : ∀ x : Str, x ≠ "__name__" → mb x = bootBuiltins x) (hlim : s₁.heap.NoLimit) (hg : s₁.gens = #[])
    (ha : s₁.heap.get? a = some { cls := .type "list", data := .seq vs.toArray }) (hi : IntsAre vs ns) (hl : ns.length ≤ sizeLine) (hr : Room k callerA)
    (F : ∀ base : Heap, K.In base → base.Ns mainGlobals mg → FnOkG P w K mg base CX0 k fa fd [x] sp) (hbind : ∀ (s : Shared) (u : Value), BindsTo s fd ⟨[u], []⟩ [(x, u)])
    (hsp : ∀ H : Hp, Only H → SqL K H a (ns.map V.int) → sp [.ref a] H (fun v _ => v = .bl true) fun _ _ _ => False) :
    codeAny (model P w) callerA (.call (.ref fa) ⟨[.ref a], []⟩) (fun r s' => r = .ok (.ret (.bool true)) ∧ OldK s₁.heap s'.heap ∧ s'.os = s₁.os ∧ AllBare s'.gens) s₁ := by
  have rv := vals_ints hi
  have lenV := hi.length
  have core : ∀ H : Hp, Only H → SqL K H a (ns.map V.int) → HOk P w H s₁.heap → (∀ b, H b ≠ none → b = a) → (H a ≠ none → K.lookup a = none) →
      codeAny (model P w) callerA (.call (.ref fa) ⟨[.ref a], []⟩) (fun r s' => r = .ok (.ret (.bool true)) ∧ OldK s₁.heap s'.heap ∧ s'.os = s₁.os ∧ AllBare s'.gens) s₁ := by
    intro H hO hS hok hA hK
    have base_of : ∀ {b : Addr} {o : Obj}, s₁.heap.get? b = some o → H b = none → (hidT s₁.heap H).get? b = some o := fun e n => hidT_get e n
    have noA : ∀ {b : Addr} {o : Obj} {es : Array DictEntry} {ep : Nat}, s₁.heap.get? b = some o → o.data = .dict es ep → H b = none := fun {b o es ep} e d => by
      cases q : H b with
      | none => rfl
      | some u =>
        have e' : b = a := hA b (by rw [q]; simp)
        subst e'
        rw [ha] at e; cases e
        have d' : Data.seq vs.toArray _ = Data.dict es ep := d
        cases d'
    have nsK : ∀ {b : Addr} {m : Str → Option Value}, s₁.heap.Ns b m → (hidT s₁.heap H).Ns b m := fun {b m} ⟨o, es, ep, e, d, r⟩ => ⟨o, es, ep, base_of e (noA e d), d, r⟩
    have hKb : K.In (hidT s₁.heap H) := fun b o e => base_of (KX b o e) (by
      cases q : H b with
      | none => rfl
      | some u =>
        have e' : b = a := hA b (by rw [q]; simp)
        subst e'
        rw [hK (by rw [q]; simp)] at e; cases e)
    have hM : Mod K mg (hidT s₁.heap H) := ⟨hKb, nsK hns, ⟨mb, nsK hb, hbb⟩, let ⟨mc, h1, h2⟩ := hlim; ⟨mc, nsK h1, h2⟩⟩
    have e0 : Env0 P w K mg (hidT s₁.heap H) callerA [] s₁ H := ⟨rfl, hM, fun b o e => of_hidT e, Nat.le_of_eq (hidT_size _ _), trivial, fun b hb => absurd (show b ∈ ([] : List Addr) from hb) (by simp), hok, .of_eq hg⟩
    refine codeAny_mono ((F _ hKb (nsK hns)).run callerA [] s₁ H ⟨[.ref a], []⟩ [.ref a] [.ref a] _ _ rfl hr e0 (hbind s₁ (.ref a)) (.cons rfl .nil) (hsp H hO hS)) fun r s' h => ?_
    cases r with
    | error e => exact False.elim h
    | ok fl =>
      cases fl with
      | next => exact False.elim h
      | brk => exact False.elim h
      | cont => exact False.elim h
      | ret u =>
        obtain ⟨v, H', os, bare, un, hok', r', q⟩ := h
        have q' : v = .bl true := q
        subst q'
        obtain rfl : u = Value.bool true := r'
        refine ⟨rfl, OldK.of_keep fun b o e => ?_, os, bare⟩
        cases q : H b with
        | none => exact un.keep b o e q (by intro z; exact absurd (show b ∈ ([] : List Addr) from z) (by simp)) (by simp)
        | some u =>
          rcases hO b with z | ⟨ob, xs, z⟩
          · rw [q] at z; cases z
          · have z2 := un.frzs b ob _ z
            obtain ⟨e1, _⟩ := hok b _ z
            obtain ⟨e2, _⟩ := hok' b _ z2
            rw [e] at e1; cases e1
            exact e2
  cases hk : K.lookup a with
  | some o =>
    have e := KX a o hk
    rw [ha] at e
    cases e
    refine core (fun _ => none) (fun _ => .inl rfl) (.inr ⟨_, vs.toArray, _, hk, rfl, rfl, rfl, by rw [List.size_toArray, lenV]; exact hl, by simpa using rv⟩) (fun b u z => by have z' : (none : Option HO) = some u := z; cases z') (fun b z => absurd rfl z) fun z => absurd rfl z
  | none =>
    refine core (fun b => if b = a then some (.frz { cls := .type "list", data := .seq vs.toArray } (.lst (ns.map V.int))) else none) (fun b => ?_) (.inl (.inr ⟨{ cls := .type "list", data := .seq vs.toArray }, if_pos rfl⟩)) (fun b u z => ?_) (fun b z => ?_) fun _ => hk
    · by_cases hb : b = a
      · exact .inr ⟨_, _, if_pos hb⟩
      · exact .inl (if_neg hb)
    · by_cases hb : b = a
      · have z' := (if_pos hb).symm.trans z
        cases z'
        subst hb
        exact ⟨ha, by rw [List.length_map]; exact hl, vs, _, rv, ha⟩
      · have z' := (if_neg hb).symm.trans z
        cases z'
    · by_cases hb : b = a
      · exact hb
      · exact absurd (if_neg hb) z
theorem walk_ofG {l : PySem.W.OpenLaw} {n k : Nat} {q : Program} {loose : List Str} {XP : (Str → Option Value) → Heap → Prop} {YP : World → Heap → Prop} {d : DefRec} {x : Str}
    (hn : l.most = some n) (hn2 : n ≤ sizeLine) (hdf : d.params.defaults = []) (hr : Room k callerA)
    (F : ∀ (w : World) (mg : Str → Option Value) (fa : Addr) (h : Heap), YP w h → h.Ns mainGlobals mg → mg d.name = some (.ref fa) →
      ∃ (K : PySem.W.Frag) (fd : FuncData) (sp : Sp), K.In h ∧ (∀ (s : Shared) (u : Value), BindsTo s fd ⟨[u], []⟩ [(x, u)]) ∧
        (∀ (H : Hp) (a : Addr) (ns : List Int), ns.length ≤ n → Only H → SqL K H a (ns.map V.int) → sp [.ref a] H (fun v _ => v = .bl true) fun _ _ _ => False) ∧
        ∀ base : Heap, K.In base → base.Ns mainGlobals mg → FnOkG l.prog w K mg base CX0 k fa fd [x] sp) :
    PySem.W.WalkO q loose XP YP l.row.toRowW d [] (fun f vs => PySem.call f vs) := by
  refine Att.attach_call hn hdf fun w s₀ s₁ mg mb fa o pm cd doc a vs ns G Y ho hd hcd hmg hobj hints hlen hg => ?_
  obtain ⟨K, fd, sp, KX, hb, hsp, hF⟩ := F w mg fa _ Y G.T.g hmg
  exact law_callG KX G.T.g G.T.b G.T.builtins G.T.nolimit hg hobj hints (Nat.le_trans hlen hn2) hr hF hb (fun H hO hS => hsp H a ns hlen hO hS)
end L2
set_option Elab.async false
set_option linter.all false
set_option maxRecDepth 100000
set_option maxHeartbeats 4000000
/-! Y1's hook, with the interpreter's own table beside (constants read on the class itself) -/
namespace He
open PySem
def obsXS (ex : PySem.W.Frag → Bool) (n : Nat) (fa : List Fa) (fn : List DefD) (g : Addr → Option Obj) : AlX := obsX ex fa fn (frG g (He5.asA g n))
def hookXS (ex : PySem.W.Frag → Bool) (n : Nat) (fa : List Fa) (fn : List DefD) : PySem.W.Hook where
  α := AlX
  obs := fun s => obsXS ex n fa fn s.heap.get?
  val := fun _ => (true, valD fn)
  says := fun _ h => ∃ K : PySem.W.Frag, K.In h ∧ SaysX ex fa fn K
  of := fun _ _ e => ⟨_, frG_in, e⟩
  keeps := fun _ _ _ ⟨K, hK, c⟩ k => ⟨K, PySem.W.Frag.In.keeps hK k, c⟩
theorem obsXS_eq {ex : PySem.W.Frag → Bool} {n : Nat} {fa : List Fa} {fn : List DefD} {g : Addr → Option Obj} {s : Shared} (h : ∀ a, g a = s.heap.get? a) : obsXS ex n fa fn g = (hookXS ex n fa fn).obs s := by
  have e : g = s.heap.get? := funext h
  rw [e] <;> rfl
end He
set_option Elab.async false
set_option linter.all false
set_option maxRecDepth 100000
set_option maxHeartbeats 4000000
/-! the head's facts with tables of code objects; the law's end over both, for defs with guards -/
namespace He
open PySem
abbrev AlT : Type := Bool × AlX
/-- the code object of the def that stands at f; that code object's table -/
def codeAt (K : PySem.W.Frag) (f : Addr) : Addr := match K.lookup f with
  | some ⟨_, _, .func fd, _⟩ => (match fd.code with | .ref c => c | _ => 0)
  | _ => 0
def tabAt (K : PySem.W.Frag) (f : Addr) : Addr := match K.lookup (codeAt K f) with
  | some ⟨_, _, .fields vs, _⟩ => (match (vs[11]? : Option Value) with | some (.ref P) => P | _ => 0)
  | _ => 0
def bareB : Option Obj → Bool
  | some ⟨.none, none, .fields ⟨[]⟩, ⟨[]⟩⟩ => true
  | _ => false
theorem bareB_ok {o : Option Obj} (h : bareB o = true) : o = some (PySem.W.tabObj #[]) := by
  unfold bareB at h
  split at h
  · rfl
  · cases h
def cutF (K : PySem.W.Frag) (xs : List Str) : PySem.W.Frag := K.filter fun q => !(xs.any fun x => tabAt K (ga K x) == q.1)
theorem lookup_none {f : Addr → Bool} {a : Addr} (hf : f a = false) : ∀ l : List (Addr × Obj), (l.filter fun q => f q.1).lookup a = none
  | [] => rfl
  | (b, ob) :: r => by
    by_cases hb : f b = true
    · rw [List.filter_cons_of_pos (by exact hb), List.lookup_cons]
      cases hq : a == b with
      | false => exact lookup_none hf r
      | true =>
        rw [← beq_iff_eq.mp hq, hf] at hb
        cases hb
    · rw [List.filter_cons_of_neg (by exact hb)]
      exact lookup_none hf r
theorem lookup_filter {f : Addr → Bool} {a : Addr} {o : Obj} : ∀ {l : List (Addr × Obj)}, (l.filter fun q => f q.1).lookup a = some o → l.lookup a = some o
  | [], h => h
  | (b, ob) :: r, h => by
    cases ha : f a with
    | false =>
      rw [lookup_none ha] at h
      cases h
    | true =>
      rw [List.lookup_cons]
      by_cases hb : f b = true
      · rw [List.filter_cons_of_pos (by exact hb), List.lookup_cons] at h
        cases hq : a == b with
        | true =>
          rw [hq] at h
          exact h
        | false =>
          rw [hq] at h
          exact lookup_filter h
      · rw [List.filter_cons_of_neg (by exact hb)] at h
        cases hq : a == b with
        | true =>
          rw [beq_iff_eq.mp hq] at ha
          exact absurd ha hb
        | false => exact lookup_filter h
def tabOkB (g : Addr → Option Obj) (K : PySem.W.Frag) (x : Str) : Bool := PySem.W.codeHdIn K (codeAt K (ga K x)) (tabAt K (ga K x)) && ((K.lookup (tabAt K (ga K x))).isNone && bareB (g (tabAt K (ga K x))))
def obsXT (ex : PySem.W.Frag → Bool) (n : Nat) (fa : List Fa) (fn : List DefD) (xs : List Str) (g : Addr → Option Obj) : AlT :=
  let K := cutF (frG g (He5.asA g n)) xs
  (xs.all fun x => tabOkB g K x, obsX ex fa fn K)
structure Tbs (K : PySem.W.Frag) (h : Heap) (xs : List Str) : Prop where
  hd : ∀ x ∈ xs, PySem.W.CodeHd h (codeAt K (ga K x)) (tabAt K (ga K x))
  no : ∀ x ∈ xs, K.lookup (tabAt K (ga K x)) = none
  em : ∀ x ∈ xs, h.get? (tabAt K (ga K x)) = some (PySem.W.tabObj #[])
def hookXT (ex : PySem.W.Frag → Bool) (n : Nat) (fa : List Fa) (fn : List DefD) (xs : List Str) : PySem.W.Hook where
  α := AlT
  obs := fun s => obsXT ex n fa fn xs s.heap.get?
  val := fun _ => (true, (true, valD fn))
  says := fun _ h => ∃ K : PySem.W.Frag, K.In h ∧ SaysX ex fa fn K ∧ Tbs K h xs
  of := fun _ s e => by
    have hK : (cutF (frG s.heap.get? (He5.asA s.heap.get? n)) xs).In s.heap := fun b o z => frG_in b o (lookup_filter (f := fun a => !(xs.any fun x => tabAt (frG s.heap.get? (He5.asA s.heap.get? n)) (ga (frG s.heap.get? (He5.asA s.heap.get? n)) x) == a)) z)
    have e1 : (xs.all fun x => tabOkB s.heap.get? (cutF (frG s.heap.get? (He5.asA s.heap.get? n)) xs) x) = true := congrArg Prod.fst e
    have e2 := congrArg Prod.snd e
    rw [List.all_eq_true] at e1
    have f1 := fun x hx => ba (e1 x hx)
    have f2 := fun x hx => ba (f1 x hx).2
    exact ⟨_, hK, e2, fun x hx => PySem.W.codeHd_of_K hK (f1 x hx).1, fun x hx => Option.isNone_iff_eq_none.mp (f2 x hx).1, fun x hx => bareB_ok (f2 x hx).2⟩
  keeps := fun _ _ _ ⟨K, hK, c, t⟩ k => ⟨K, PySem.W.Frag.In.keeps hK k, c, fun x hx => (t.hd x hx).keeps k, t.no, fun x hx => k _ _ (t.em x hx)⟩
theorem obsXT_eq {ex : PySem.W.Frag → Bool} {n : Nat} {fa : List Fa} {fn : List DefD} {xs : List Str} {g : Addr → Option Obj} {s : Shared} (h : ∀ a, g a = s.heap.get? a) : obsXT ex n fa fn xs g = (hookXT ex n fa fn xs).obs s := by
  have e : g = s.heap.get? := funext h
  rw [e] <;> rfl
end He
namespace L2
open PySem PySem.Spec PyProof.Rows
/-- only the script and the tables may be told -/
def OnlyT (Ps : List Addr) (H : Hp) : Prop := ∀ b, H b = none ∨ (b ∈ Ps ∧ H b = some (.tbl #[])) ∨ ∃ o xs, H b = some (.frz o (.lst xs))
section
variable {P : Program} {w : World} {K : PySem.W.Frag} {mg mb : Str → Option Value} {k : Nat} {fa a : Addr} {cs : List (Addr × Addr)} {fd : FuncData} {x : Str} {sp : Sp} {s₁ : Shared} {vs : List Value} {ns : List Int}
/-- the heap of the law's call: its tables, empty, and its script where that is no part of K -/
def startH (K : PySem.W.Frag) (Ps : List Addr) (a : Addr) (vs : List Value) (ns : List Int) : Hp := fun b =>
  if b ∈ Ps then some (.tbl #[]) else if b = a ∧ K.lookup a = none then some (.frz { cls := .type "list", data := .seq vs.toArray } (.lst (ns.map V.int))) else none
theorem law_callTG (KX : K.In s₁.heap) (hns : s₁.heap.Ns mainGlobals mg) (hb : s₁.heap.Ns builtinsNs mb) (hbb : ∀ x : Str, x ≠ "__name__" → mb x = bootBuiltins x) (hlim : s₁.heap.NoLimit) (hg : s₁.gens = #[])
    (tE : ∀ p ∈ cs, s₁.heap.get? p.2 = some (PySem.W.tabObj #[])) (tN : ∀ p ∈ cs, K.lookup p.2 = none) (tC : ∀ p ∈ cs, PySem.W.CodeHd s₁.heap p.1 p.2)
    (hbm : ∃ (bm : Addr) (ob : Obj), mg "__builtins__" = some (.ref bm) ∧ bm ≠ builtinsNs ∧ s₁.heap.get? bm = some ob ∧ ob.cls = .type "module" ∧ ob.dict = some builtinsNs ∧ ob.data = .plain)
    (ha : s₁.heap.get? a = some { cls := .type "list", data := .seq vs.toArray }) (hi : IntsAre vs ns) (hl : ns.length ≤ sizeLine) (hr : Room k callerA)
    (F : ∀ base : Heap, K.In base → base.Ns mainGlobals mg → (∀ p ∈ cs, LamX.TabB base mg p.1 p.2) → FnOkG P w K mg base CX0 k fa fd [x] sp) (hbind : ∀ (s : Shared) (u : Value), BindsTo s fd ⟨[u], []⟩ [(x, u)])
    (hsp : ∀ H : Hp, (∀ p ∈ cs, H p.2 = some (.tbl #[])) → SqL K H a (ns.map V.int) → sp [.ref a] H (fun v _ => v = .bl true) fun _ _ _ => False) :
    codeAny (model P w) callerA (.call (.ref fa) ⟨[.ref a], []⟩) (fun r s' => r = .ok (.ret (.bool true)) ∧ OldK s₁.heap s'.heap ∧ s'.os = s₁.os ∧ AllBare s'.gens) s₁ := by
  have rv := vals_ints hi
  have hlen : (ns.map V.int).length ≤ sizeLine := by rw [List.length_map]; exact hl
  have tab : ∀ {b}, b ∈ cs.map (·.2) → ∃ c, (c, b) ∈ cs := fun {b} m => by
    obtain ⟨q, h1, h2⟩ := List.mem_map.mp m
    exact ⟨q.1, by rw [← h2]; exact h1⟩
  have isT : ∀ {b}, b ∈ cs.map (·.2) → s₁.heap.get? b = some (PySem.W.tabObj #[]) := fun m => let ⟨_, h1⟩ := tab m; tE _ h1
  have aT : a ∉ cs.map (·.2) := fun m => by
    have z := isT m
    rw [ha] at z
    have z2 := congrArg Obj.data (Option.some.inj z)
    cases z2
  -- what is told of an address
  let H := startH K (cs.map (·.2)) a vs ns
  have atT : ∀ {b}, b ∈ cs.map (·.2) → H b = some (.tbl #[]) := fun m => if_pos m
  have rest : ∀ {b u}, H b = some u → (b ∈ cs.map (·.2) ∧ u = .tbl #[]) ∨ (b = a ∧ K.lookup a = none ∧ u = .frz { cls := .type "list", data := .seq vs.toArray } (.lst (ns.map V.int))) := fun {b u} z => by
    by_cases hb : b ∈ cs.map (·.2)
    · rw [atT hb] at z
      exact .inl ⟨hb, (Option.some.inj z).symm⟩
    · have z1 : (if b = a ∧ K.lookup a = none then some (HO.frz { cls := .type "list", data := .seq vs.toArray } (.lst (ns.map V.int))) else none) = some u := by rw [← z]; exact (if_neg hb).symm
      by_cases h2 : b = a ∧ K.lookup a = none
      · rw [if_pos h2] at z1
        exact .inr ⟨h2.1, h2.2, (Option.some.inj z1).symm⟩
      · rw [if_neg h2] at z1
        cases z1
  have hok : HOk P w H s₁.heap := fun b u z => by
    rcases rest z with ⟨m, rfl⟩ | ⟨rfl, _, rfl⟩
    · exact isT m
    · exact ⟨ha, hlen, vs, _, rv, ha⟩
  have hS : SqL K H a (ns.map V.int) := by
    cases hk : K.lookup a with
    | some o =>
      have e := KX a o hk
      rw [ha] at e
      cases e
      exact .inr ⟨_, vs.toArray, _, hk, rfl, rfl, rfl, by rw [List.size_toArray, hi.length]; exact hl, by simpa using rv⟩
    | none => exact .inl (.inr ⟨_, (if_neg aT).trans (if_pos ⟨rfl, hk⟩)⟩)
  -- the rest is as it was
  have free : ∀ {b : Addr} {o : Obj}, s₁.heap.get? b = some o → o ≠ PySem.W.tabObj #[] → (∀ us m, o.data ≠ .seq us m) → H b = none := fun {b o} e n1 n2 => by
    cases q : H b with
    | none => rfl
    | some u =>
      rcases rest q with ⟨m, _⟩ | ⟨rfl, _, _⟩
      · rw [isT m] at e
        exact absurd (Option.some.inj e).symm n1
      · rw [ha] at e
        cases e
        exact absurd rfl (n2 _ _)
  have dict : ∀ {b : Addr} {o : Obj} {es : Array DictEntry} {ep : Nat}, s₁.heap.get? b = some o → o.data = .dict es ep → H b = none := fun {b o es ep} e d => by
    refine free e (fun z => ?_) fun us m z => ?_
    · rw [z] at d
      cases d
    · rw [z] at d
      cases d
  have ns1 : ∀ {b : Addr} {m : Str → Option Value}, s₁.heap.Ns b m → (hidT s₁.heap H).Ns b m := fun {b m} z => by
    obtain ⟨o, es, ep, e, d, r⟩ := z
    exact ⟨o, es, ep, hidT_get e (dict e d), d, r⟩
  have KB : K.In (hidT s₁.heap H) := fun b o e => hidT_get (KX b o e) (by
    cases q : H b with
    | none => rfl
    | some u =>
      rcases rest q with ⟨m, _⟩ | ⟨rfl, hk, _⟩
      · obtain ⟨c, h1⟩ := tab m
        have z := tN _ h1
        dsimp only at z
        rw [e] at z
        cases z
      · rw [e] at hk
        cases hk)
  have lim2 : (hidT s₁.heap H).NoLimit := by
    obtain ⟨mc, h1, h2⟩ := hlim
    exact ⟨mc, ns1 h1, h2⟩
  have env : Env0 P w K mg (hidT s₁.heap H) callerA [] s₁ H := ⟨rfl, ⟨KB, ns1 hns, ⟨mb, ns1 hb, hbb⟩, lim2⟩, fun _ _ e => of_hidT e, Nat.le_of_eq (hidT_size _ _), trivial, fun _ z => absurd (show _ ∈ ([] : List Addr) from z) (by simp), hok, .of_eq hg⟩
  have TB : ∀ p ∈ cs, LamX.TabB (hidT s₁.heap H) mg p.1 p.2 := fun p hp => by
    have e0 := tE p hp
    have notDict : ∀ {b : Addr} {o : Obj} {es : Array DictEntry} {ep : Nat}, s₁.heap.get? b = some o → o.data = .dict es ep → b ≠ p.2 := fun {b o es ep} e d z => by
      rw [z, e0] at e
      rw [← Option.some.inj e] at d
      cases d
    refine ⟨?_, ?_, fun z => ?_⟩
    · obtain ⟨o, us, file, tf, flags, tg, inF, text, tt, e1, r1, r2, r3, r⟩ := tC p hp
      refine ⟨o, us, file, tf, flags, tg, inF, text, tt, hidT_get e1 (free e1 (fun z => ?_) fun vs m z => ?_), r1, r2, r3, r⟩
      · rw [z] at r1
        cases r1
      · rw [r2] at z
        cases z
    · obtain ⟨bm, ob, b1, b2, b3, b4, b5, b6⟩ := hbm
      refine ⟨bm, ob, b1, b2, fun z => ?_, fun z => ?_, hidT_get b3 (free b3 (fun z => ?_) fun vs m z => ?_), b4, b5, b6⟩
      · obtain ⟨o, es, ep, e, hd, _⟩ := hns
        rw [z, e] at b3
        rw [Option.some.inj b3, b6] at hd
        cases hd
      · rw [z, e0] at b3
        rw [← Option.some.inj b3] at b4
        cases b4
      · rw [z] at b4
        cases b4
      · rw [b6] at z
        cases z
    · obtain ⟨o, es, ep, e, hd, _⟩ := hns
      exact notDict e hd z
  refine codeAny_mono ((F _ KB (ns1 hns) TB).run callerA [] s₁ H ⟨[.ref a], []⟩ [.ref a] [.ref a] _ _ rfl hr env (hbind s₁ (.ref a)) (.cons rfl .nil) (hsp H (fun p hp => atT (List.mem_map.mpr ⟨p, hp, rfl⟩)) hS)) fun r s' z => ?_
  rcases r with e | fl
  · exact False.elim z
  cases fl with
  | next => exact False.elim z
  | brk => exact False.elim z
  | cont => exact False.elim z
  | ret u =>
    obtain ⟨v, H', os, bare, un, hok', r', q⟩ := z
    obtain rfl : v = .bl true := q
    obtain rfl : u = Value.bool true := r'
    have grown : ∀ {b}, b ∈ cs.map (·.2) → ∃ more : Array Value, s'.heap.get? b = some { cls := .none, data := .fields more } := fun m => by
      obtain ⟨more, z⟩ := un.tbls _ #[] (atT m)
      exact ⟨_, hok' _ _ z⟩
    have same : ∀ {b o}, b ∉ cs.map (·.2) → s₁.heap.get? b = some o → s'.heap.get? b = some o := fun {b o} nb e => by
      cases q : H b with
      | none => exact un.keep b o e q (fun z => absurd (show b ∈ ([] : List Addr) from z) (by simp)) (by simp)
      | some u =>
        rcases rest q with ⟨m, _⟩ | ⟨_, _, rfl⟩
        · exact absurd m nb
        · have e1 := (hok b _ q).1
          have e2 := (hok' b _ (un.frzs b _ _ q)).1
          rw [e1] at e
          rw [e2]
          exact e
    refine ⟨rfl, ⟨fun b o e => ?_, fun b o e => ?_⟩, os, bare⟩
    · by_cases hb : b ∈ cs.map (·.2)
      · obtain ⟨more, hm⟩ := grown hb
        obtain ⟨c, hc⟩ := tab hb
        rw [isT hb] at e
        cases e
        refine .inr (.inl ⟨((tC _ hc).tab (tE _ hc)).isCodeTable, rfl, #[], more, rfl, ?_⟩)
        rw [Array.empty_append]
        exact hm
      · exact .inl (same hb e)
    · by_cases hb : b ∈ cs.map (·.2)
      · exact let ⟨_, hm⟩ := grown hb; ⟨_, hm⟩
      · exact ⟨o, same hb e⟩
/-- the law's walk: its head's facts with tables -/
theorem walk_ofGT {l : PySem.W.OpenLaw} {n k : Nat} {q : Program} {loose : List Str} {XP : (Str → Option Value) → Heap → Prop} {YP : World → Heap → Prop} {d : DefRec} {x : Str}
    (hn : l.most = some n) (hn2 : n ≤ sizeLine) (hdf : d.params.defaults = []) (hr : Room k callerA)
    (F : ∀ (w : World) (mg : Str → Option Value) (fa : Addr) (h : Heap), YP w h → h.Ns mainGlobals mg → mg d.name = some (.ref fa) →
      ∃ (K : PySem.W.Frag) (fd : FuncData) (cs : List (Addr × Addr)) (sp : Sp), K.In h ∧ (∀ p ∈ cs, h.get? p.2 = some (PySem.W.tabObj #[])) ∧ (∀ p ∈ cs, K.lookup p.2 = none) ∧ (∀ p ∈ cs, PySem.W.CodeHd h p.1 p.2) ∧ (∀ (s : Shared) (u : Value), BindsTo s fd ⟨[u], []⟩ [(x, u)]) ∧
        (∀ (H : Hp) (a : Addr) (ns : List Int), ns.length ≤ n → (∀ p ∈ cs, H p.2 = some (.tbl #[])) → SqL K H a (ns.map V.int) → sp [.ref a] H (fun v _ => v = .bl true) fun _ _ _ => False) ∧
        ∀ base : Heap, K.In base → base.Ns mainGlobals mg → (∀ p ∈ cs, LamX.TabB base mg p.1 p.2) → FnOkG l.prog w K mg base CX0 k fa fd [x] sp) :
    PySem.W.WalkO q loose XP YP l.row.toRowW d [] (fun f vs => PySem.call f vs) := by
  refine Att.attach_callB hn hdf fun w s₀ s₁ mg mb fa o pm cd doc a vs ns G Y ho hd hcd hmg hobj hints hlen hbits hg => ?_
  obtain ⟨K, fd, cs, sp, KX, t1, t2, t3, hb, hsp, hF⟩ := F w mg fa _ Y G.T.g hmg
  exact law_callTG KX G.T.g G.T.b G.T.builtins G.T.nolimit hg t1 t2 t3 G.T.bmain hobj hints (Nat.le_trans hlen hn2) hr hF hb fun H h1 h2 => hsp H a ns hlen h1 h2
end
end L2
set_option Elab.async false
set_option linter.all false
set_option maxRecDepth 100000
set_option maxHeartbeats 4000000
/-! operators, in, len, ~ by a class's own methods -/
namespace L2
open PySem PySem.Spec PyProof.Rows
section
variable {X : Cx} {CX : CXT} {k : Nat} {f C : Addr} {fd : FuncData} {ps : List Str} {sp : Sp} {ds : List Value} {dvs : List V} {E : XK} {m : Str}
/-- what an own method's call hands back is never NotImplemented -/
theorem back_of {pins : List (Addr × Obj)} {σ : L2.St} {Q : VK} {u : Value} {s' : Shared} (h : EP X pins σ Q u s') : PySem.W.CmpBack (EP X pins σ Q) u s' := by
  obtain ⟨v, H', I, r, q⟩ := h
  cases u with
  | notImplemented =>
    exfalso
    cases v with
    | int _ => obtain ⟨_, r⟩ := r; cases r
    | str _ => obtain ⟨_, r⟩ := r; cases r
    | byt _ => obtain ⟨_, r⟩ := r; cases r
    | flt _ => obtain ⟨_, r⟩ := r; cases r
    | _ => cases r
  | _ => exact ⟨v, H', I, r, q⟩
theorem inst_of {pins : List (Addr × Obj)} {σ : L2.St} {H : Hp} {s : Shared} {a dx : Addr} {fs : List (Str × V)} (I : Inv X pins σ H s) (e : H a = some (.ins C dx fs)) : ∃ od, PySem.W.InstAt s.heap a (PySem.W.instObj C dx) C (some od) := by
  obtain ⟨mA, O, _⟩ := ins_get I.hok e
  obtain ⟨od, J, _⟩ := O.look
  exact ⟨od, J⟩
/-- x op y, both of the class at C -/
def rOwn2 (C : Addr) (sp : Sp) (dvs : List V) (E : XK) : R2 := fun x y H Q => ∃ a b dx dy fs gs, x = .ref a ∧ y = .ref b ∧ H a = some (.ins C dx fs) ∧ H b = some (.ins C dy gs) ∧ sp ([x, y] ++ dvs) H Q E
theorem op_own2 {op : Operator} (F : FnOk X.prog X.w X.K X.mg X.base CX k f fd ps sp) (hr : Room k X.A) (hc : PySem.W.selfFirst X.K C = true) (hm : Meth X.K C (PySem.dunder op.info.2) f) (hb : Binds X.K fd ps ds) (hd : Vals dvs ds) (hx : Passes CX X E) : OpR X (binaryOp op) (rOwn2 C sp dvs E) := by
  intro pins s σ H x y v u Q I rx ry h
  obtain ⟨a, b, dx, dy, fs, gs, rfl, rfl, ea, eb, q⟩ := h
  cases rx
  cases ry
  obtain ⟨oa, Ja⟩ := inst_of I ea
  obtain ⟨ob, Jb⟩ := inst_of I eb
  obtain ⟨_, fr⟩ := I.fr
  exact PySem.W.binop_K fr I.ok.mod.kin Ja Jb.type hc hm.at_ hm.fn (wpAny_mono (run_fn (us := [.ref a, .ref b]) (vs := [.ref a, .ref b]) F hr hb hd hx I (.cons rfl (.cons rfl .nil)) q) (fun _ _ z => back_of z) fun _ _ z => z)
/-- ~x -/
def rOwn1 (C : Addr) (sp : Sp) (dvs : List V) (E : XK) : V → Hp → VK → Prop := fun x H Q => ∃ a dx fs, x = .ref a ∧ H a = some (.ins C dx fs) ∧ sp ([x] ++ dvs) H Q E
theorem un_inv1 (F : FnOk X.prog X.w X.K X.mg X.base CX k f fd ps sp) (hr : Room k X.A) (hm : Meth X.K C "__invert__" f) (hb : Binds X.K fd ps ds) (hd : Vals dvs ds) (hx : Passes CX X E) : UnR X (unaryOp .Invert) (rOwn1 C sp dvs E) := by
  intro pins s σ H x v Q I rx h
  obtain ⟨a, dx, fs, rfl, ea, q⟩ := h
  cases rx
  obtain ⟨oa, Ja⟩ := inst_of I ea
  obtain ⟨_, fr⟩ := I.fr
  exact PySem.W.ksp_inv fr I.ok.mod.kin Ja hm.at_ hm.fn (run_fn (us := [.ref a]) (vs := [.ref a]) F hr hb hd hx I (.cons rfl .nil) q)
/-- y in x, x of the class at C, by its own __contains__, which gives True or False -/
def rOwnIn (C : Addr) (sp : Sp) (dvs : List V) (E : XK) (neg : Bool) : R2 := fun y x H Q => ∃ a dx fs, x = .ref a ∧ H a = some (.ins C dx fs) ∧ sp ([x, y] ++ dvs) H (fun v H' => ∃ c, v = .bl c ∧ Q (.bl (if neg then !c else c)) H') E
theorem truth_bl {pins : List (Addr × Obj)} {σ : L2.St} {Q : VK} {g : Bool → Bool} {u : Value} {s' : Shared} (h : EP X pins σ (fun v H' => ∃ c, v = .bl c ∧ Q (.bl (g c)) H') u s') : wpAny (model X.prog X.w) X.A (truthy u) (fun b s2 => EP X pins σ Q (.bool (g b)) s2) X.xe s' := by
  obtain ⟨v, H', I, r, c, rfl, q⟩ := h
  cases r
  exact wpAny_truthy_bool ⟨.bl (g c), H', I, rfl, q⟩
theorem op_ownIn (F : FnOk X.prog X.w X.K X.mg X.base CX k f fd ps sp) (hr : Room k X.A) (hm : Meth X.K C "__contains__" f) (hb : Binds X.K fd ps ds) (hd : Vals dvs ds) (hx : Passes CX X E) : OpR X (compareOp .In) (rOwnIn C sp dvs E false) := by
  intro pins s σ H y x u v Q I ry rx h
  obtain ⟨a, dx, fs, rfl, ea, q⟩ := h
  cases rx
  obtain ⟨oa, Ja⟩ := inst_of I ea
  obtain ⟨_, fr⟩ := I.fr
  exact PySem.W.in_K fr I.ok.mod.kin Ja hm.at_ hm.fn (wpAny_mono (run_fn (us := [.ref a, u]) (vs := [.ref a, y]) F hr hb hd hx I (.cons rfl (.cons ry .nil)) q) (fun _ _ z => truth_bl (g := fun c => c) z) fun _ _ z => z)
theorem op_ownNotIn (F : FnOk X.prog X.w X.K X.mg X.base CX k f fd ps sp) (hr : Room k X.A) (hm : Meth X.K C "__contains__" f) (hb : Binds X.K fd ps ds) (hd : Vals dvs ds) (hx : Passes CX X E) : OpR X (compareOp .NotIn) (rOwnIn C sp dvs E true) := by
  intro pins s σ H y x u v Q I ry rx h
  obtain ⟨a, dx, fs, rfl, ea, q⟩ := h
  cases rx
  obtain ⟨oa, Ja⟩ := inst_of I ea
  obtain ⟨_, fr⟩ := I.fr
  exact PySem.W.notIn_K fr I.ok.mod.kin Ja hm.at_ hm.fn (wpAny_mono (run_fn (us := [.ref a, u]) (vs := [.ref a, y]) F hr hb hd hx I (.cons rfl (.cons ry .nil)) q) (fun _ _ z => truth_bl (g := fun c => !c) z) fun _ _ z => z)
end
end L2
set_option Elab.async false
set_option linter.all false
set_option maxRecDepth 100000
set_option maxHeartbeats 4000000
/-! an own operator beside a tuple, on either side; len, repr, the walk over an own __iter__ -/
namespace PySem.W
open PySem PySem.Calls PyProof.Rows
section
variable {prog : Program} {w : World} {A : Around} {E : Value → Shared → Prop} {s : Shared} {K : Frag} {x C L f : Addr} {h₀ : Heap} {m : Str → Option Value} {ox : Obj} {od : Option Obj} {T : String}
/-- the left one is of the class at C, the right one of a built-in type that has no say -/
theorem own_left {op : Operator} {b : Value} {t1 t2 own2 : Option Value} {Q : Value → Shared → Prop} (fr : Fr h₀ L s.heap m) (X0 : K.In h₀) (J : InstAt s.heap x ox C od) (tb : Looks (model prog w) s.heap (typeOf b) (.type T)) (sf : selfFirst K C = true)
    (at1 : findIn K (.ref C) (PySem.dunder op.info.2) = some (some (.ref f))) (fn1 : isFn K (.ref f) = true) (at2 : findIn K (.ref C) (dunderR op.info.2) = some own2) (at2' : own2 = none ∨ ∃ g : Addr, own2 = some (.ref g))
    (b1 : findIn K (.type T) (PySem.dunder op.info.2) = some t1) (b2 : findIn K (.type T) (dunderR op.info.2) = some t2) (nsub : subIn K (.type T) (.ref C) = some false)
    (q : wpAny (model prog w) A (call (.ref f) [.ref x, b]) (CmpBack Q) E s) : wpAny (model prog w) A (binaryOp op (.ref x) b) Q E s := by
  have X1 := X0.keeps fr.keep
  obtain ⟨cd, more, c1, c2⟩ := ksp_first sf
  rcases hinf : op.info with ⟨sg, nm⟩
  rw [hinf] at at1 at2 b1 b2
  dsimp only at at1 at2 b1 b2
  have tried := ksp_try X1 J at1 fn1 q
  obtain ⟨hh, gg, dd, tt, oo⟩ := s
  have k1 : Looks (model prog w) hh (typeOf (.ref x)) (.ref C) := J.type
  have k2 : Looks (model prog w) hh (typeOf b) (.type T) := tb
  have k3 : Looks (model prog w) hh (fillsNumberSlot (.ref C) nm) true := fills_K X1 c1 c2 at1
  have k4 := ksp_fillsT (M := model prog w) X1 b1 b2
  have k5 : Looks (model prog w) hh (isSubtype (.type T) (.ref C)) false := looks_subIn X1 nsub
  have k6 : Looks (model prog w) hh (numberSlotInPython (.ref C) nm) true := ksp_inPy X1 at1 at2 at2'
  have k7 : Looks (model prog w) hh (numberSlotInPython (.type T) nm) false := Looks.of_pure rfl
  have k8 : Looks (model prog w) hh (typeLookup (.type T) (dunderR nm)) t2 := looks_findIn X1 b2
  generalize ((t1.isSome && !isSeqSlot t1) || (t2.isSome && !isSeqSlot t2)) = both at k4
  have apart : (Value.ref C == Value.type T) = false := by
    rw [Bool.eq_false_iff]
    intro z
    cases beq_iff_eq.mp z
  simp only [binaryOp, hinf]
  refine wpAny_holding (wpAny_bind ?_)
  unfold binaryOp1
  refine wpAny_bind (k1.at (wpAny_bind (k2.at (wpAny_bind (k3.at ?_)))))
  simp only [apart, Bool.false_eq_true, if_false]
  cases both
  all_goals
    ksp_lk
    refine wpAny_mono tried (fun r s1 z => ?_) fun _ _ z => z
    obtain ⟨v, rfl, z⟩ := z
    ksp_lk
    exact z
/-- the right one is of the class at C, the left one of a built-in type without such a number slot -/
theorem own_right {op : Operator} {b : Value} {Q : Value → Shared → Prop} (fr : Fr h₀ L s.heap m) (X0 : K.In h₀) (J : InstAt s.heap x ox C od) (tb : Looks (model prog w) s.heap (typeOf b) (.type T)) (sf : selfFirst K C = true)
    (at1 : findIn K (.ref C) (PySem.dunder op.info.2) = some (some (.ref f))) (g : Addr) (at2 : findIn K (.ref C) (dunderR op.info.2) = some (some (.ref g))) (fn2 : isFn K (.ref g) = true)
    (b0 : Looks (model prog w) s.heap (fillsNumberSlot (.type T) op.info.2) false)
    (q : wpAny (model prog w) A (call (.ref g) [.ref x, b]) (CmpBack Q) E s) : wpAny (model prog w) A (binaryOp op b (.ref x)) Q E s := by
  have X1 := X0.keeps fr.keep
  obtain ⟨cd, more, c1, c2⟩ := ksp_first sf
  rcases hinf : op.info with ⟨sg, nm⟩
  rw [hinf] at at1 at2 b0
  dsimp only at at1 at2 b0
  have tried := ksp_try X1 J at2 fn2 q
  obtain ⟨hh, gg, dd, tt, oo⟩ := s
  have k1 : Looks (model prog w) hh (typeOf (.ref x)) (.ref C) := J.type
  have k2 : Looks (model prog w) hh (typeOf b) (.type T) := tb
  have k3 : Looks (model prog w) hh (fillsNumberSlot (.ref C) nm) true := fills_K X1 c1 c2 at1
  have k4 : Looks (model prog w) hh (fillsNumberSlot (.type T) nm) false := b0
  have apart : (Value.type T == Value.ref C) = false := by
    rw [Bool.eq_false_iff]
    intro z
    cases beq_iff_eq.mp z
  simp only [binaryOp, hinf]
  refine wpAny_holding (wpAny_bind ?_)
  unfold binaryOp1
  refine wpAny_bind (k2.at (wpAny_bind (k1.at (wpAny_bind (k4.at ?_)))))
  simp only [apart, Bool.false_eq_true, if_false]
  ksp_lk
  refine wpAny_mono tried (fun r s1 z => ?_) fun _ _ z => z
  obtain ⟨v, rfl, z⟩ := z
  ksp_lk
  exact z
end
end PySem.W
set_option Elab.async false
set_option linter.all false
set_option maxRecDepth 100000
set_option maxHeartbeats 4000000
namespace L2
open PySem PySem.Spec PyProof.Rows
section
variable {X : Cx} {CX : CXT} {k : Nat} {f g C : Addr} {fd : FuncData} {ps : List Str} {sp : Sp} {ds : List Value} {dvs : List V} {E : XK} {m : Str}
theorem tup_ty {pins : List (Addr × Obj)} {σ : L2.St} {H : Hp} {s : Shared} {t : Addr} {xs : List V} (I : Inv X pins σ H s) (h : SqT X.K H t xs) : PySem.W.Looks (model X.prog X.w) s.heap (typeOf (.ref t)) (.type "tuple") := by
  obtain ⟨its, r, ⟨o, ho, hc, n, hd⟩, _⟩ := I.tuple h
  have z : PySem.W.Looks (model X.prog X.w) s.heap (typeOf (.ref t)) o.cls := (PySem.W.Looks.ld ho).andThen .now
  rw [hc] at z
  exact z
/-- x op (a, b): x of the class at C -/
def rOwnTup (K : PySem.W.Frag) (C : Addr) (sp : Sp) (dvs : List V) (E : XK) : R2 := fun x y H Q => ∃ a t dx fs xs, x = .ref a ∧ y = .ref t ∧ H a = some (.ins C dx fs) ∧ SqT K H t xs ∧ sp ([x, y] ++ dvs) H Q E
/-- what the class has for a binary operator; tuples have none that goes ahead -/
structure Op2 (K : PySem.W.Frag) (C f : Addr) (op : Operator) : Prop where
  self : PySem.W.selfFirst K C = true
  me : Meth K C (PySem.dunder op.info.2) f
  refl : ∃ own2, PySem.W.findIn K (.ref C) (dunderR op.info.2) = some own2 ∧ (own2 = none ∨ ∃ g : Addr, own2 = some (.ref g))
  tup : ∃ t1 t2, PySem.W.findIn K (.type "tuple") (PySem.dunder op.info.2) = some t1 ∧ PySem.W.findIn K (.type "tuple") (dunderR op.info.2) = some t2
  sub : PySem.W.subIn K (.type "tuple") (.ref C) = some false
theorem op_ownTup {op : Operator} (F : FnOk X.prog X.w X.K X.mg X.base CX k f fd ps sp) (hr : Room k X.A) (c : Op2 X.K C f op) (hb : Binds X.K fd ps ds) (hd : Vals dvs ds) (hx : Passes CX X E) : OpR X (binaryOp op) (rOwnTup X.K C sp dvs E) := by
  intro pins s σ H x y v u Q I rx ry h
  obtain ⟨a, t, dx, fs, xs, rfl, rfl, ea, et, q⟩ := h
  cases rx
  cases ry
  obtain ⟨oa, Ja⟩ := inst_of I ea
  obtain ⟨_, fr⟩ := I.fr
  obtain ⟨o2, r1, r2⟩ := c.refl
  obtain ⟨t1, t2, u1, u2⟩ := c.tup
  exact PySem.W.own_left fr I.ok.mod.kin Ja (tup_ty I et) c.self c.me.at_ c.me.fn r1 r2 u1 u2 c.sub (wpAny_mono (run_fn (us := [.ref a, .ref t]) (vs := [.ref a, .ref t]) F hr hb hd hx I (.cons rfl (.cons rfl .nil)) q) (fun _ _ z => back_of z) fun _ _ z => z)
/-- (a, b) + x -/
def rTupOwn (K : PySem.W.Frag) (C : Addr) (sp : Sp) (dvs : List V) (E : XK) : R2 := fun y x H Q => ∃ a t dx fs xs, x = .ref a ∧ y = .ref t ∧ H a = some (.ins C dx fs) ∧ SqT K H t xs ∧ sp ([x, y] ++ dvs) H Q E
theorem op_tupOwn (F : FnOk X.prog X.w X.K X.mg X.base CX k g fd ps sp) (hr : Room k X.A) (c : Op2 X.K C f .Add) (hm : Meth X.K C (dunderR (Operator.Add).info.2) g) (hb : Binds X.K fd ps ds) (hd : Vals dvs ds) (hx : Passes CX X E) : OpR X (binaryOp .Add) (rTupOwn X.K C sp dvs E) := by
  intro pins s σ H y x u v Q I ry rx h
  obtain ⟨a, t, dx, fs, xs, rfl, rfl, ea, et, q⟩ := h
  cases rx
  cases ry
  obtain ⟨oa, Ja⟩ := inst_of I ea
  obtain ⟨_, fr⟩ := I.fr
  exact PySem.W.own_right fr I.ok.mod.kin Ja (tup_ty I et) c.self c.me.at_ g hm.at_ hm.fn (PySem.W.Looks.of_pure noFill_tuple_add) (wpAny_mono (run_fn (us := [.ref a, .ref t]) (vs := [.ref a, .ref t]) F hr hb hd hx I (.cons rfl (.cons rfl .nil)) q) (fun _ _ z => back_of z) fun _ _ z => z)
/-- len(x) by the class's own __len__ -/
def rOwnLen (C : Addr) (sp : Sp) (dvs : List V) (E : XK) : List V → Hp → VK → Prop := fun xs H Q => ∃ a dx fs, xs = [.ref a] ∧ H a = some (.ins C dx fs) ∧ sp ([.ref a] ++ dvs) H (fun v H' => ∃ n : Int, v = .int n ∧ 0 ≤ n ∧ n < 2 ^ 63 ∧ Q (.int n) H') E
/-- a def run from within a built-in -/
theorem run_at {pins : List (Addr × Obj)} {σ : L2.St} {H : Hp} {s : Shared} {B : Around} {Q : VK} {us : List Value} {vs : List V} (F : FnOk X.prog X.w X.K X.mg X.base CX k f fd ps sp) (hr : Room k B) (hf : B.frames = X.A.frames) (hb : Binds X.K fd ps ds) (hd : Vals dvs ds) (hx : Passes CX X E)
    (I : Inv X pins σ H s) (r : Vals vs us) (h : sp (vs ++ dvs) H Q E) : wpAny (model X.prog X.w) B (call (.ref f) us) (EP X pins σ Q) X.xe s := by
  have all := r.append hd
  have len := F.len _ _ _ _ h
  rw [all.length] at len
  have e1 := I.env0
  have env : Env0 X.prog X.w X.K X.mg X.base B X.stack s H := ⟨hf.trans e1.frames, e1.mod, e1.bs, e1.bsz, e1.funs, e1.frf, e1.hok, e1.bare⟩
  refine wpAny_call (codeAny_mono (F.run B X.stack s H ⟨us, []⟩ (us ++ ds) (vs ++ dvs) Q E hr env (hb s us I.kIn len) all h) fun fin s' z => ?_)
  cases fin with
  | error e => exact hx pins σ H s e s' I z
  | ok fl =>
    cases fl with
    | ret u => exact I.after z
    | next => exact z.elim
    | brk => exact z.elim
    | cont => exact z.elim
theorem call_ownLen (F : FnOk X.prog X.w X.K X.mg X.base CX k f fd ps sp) (hr : Room (k + 1) X.A) (hm : Meth X.K C "__len__" f) (hb : Binds X.K fd ps ds) (hd : Vals dvs ds) (hx : Passes CX X E) : CallR X (.builtin "len") (rOwnLen C sp dvs E) := by
  intro pins s σ H xs us Q I r h
  obtain ⟨a, dx, fs, rfl, ea, q⟩ := h
  obtain ⟨u, rfl, ru⟩ := vals1 r
  cases ru
  obtain ⟨oa, Ja⟩ := inst_of I ea
  obtain ⟨_, fr⟩ := I.fr
  refine PySem.W.len_K fr I.ok.mod.kin Ja hm.at_ hm.fn (wpAny_mono (run_at (us := [.ref a]) (vs := [.ref a]) F hr.in1 rfl hb hd hx I (.cons rfl .nil) q) (fun u s1 z => ?_) fun _ _ z => z)
  obtain ⟨v, H1, I1, rv, n, rfl, n0, n1, q1⟩ := z
  obtain ⟨t, rfl⟩ := rv
  exact ⟨⟨n0, n1⟩, .int n, H1, I1.tok _, ⟨_, rfl⟩, q1⟩
/-- repr(x) by the class's own __repr__ -/
def rOwnRepr (C : Addr) (sp : Sp) (dvs : List V) (E : XK) : List V → Hp → VK → Prop := fun xs H Q => ∃ a dx fs, xs = [.ref a] ∧ H a = some (.ins C dx fs) ∧ sp ([.ref a] ++ dvs) H (fun v H' => ∃ z : Str, v = .str z ∧ Q (.str z) H') E
theorem call_ownRepr (F : FnOk X.prog X.w X.K X.mg X.base CX k f fd ps sp) (hr : Room (k + 1) X.A) (hm : Meth X.K C "__repr__" f) (hb : Binds X.K fd ps ds) (hd : Vals dvs ds) (hx : Passes CX X E) : CallR X (.builtin "repr") (rOwnRepr C sp dvs E) := by
  intro pins s σ H xs us Q I r h
  obtain ⟨a, dx, fs, rfl, ea, q⟩ := h
  obtain ⟨u, rfl, ru⟩ := vals1 r
  cases ru
  obtain ⟨oa, Ja⟩ := inst_of I ea
  obtain ⟨_, fr⟩ := I.fr
  have room : X.A.in1.units < cLine := hr.in1.units0
  refine PySem.W.repr_K room fr I.ok.mod.kin Ja hm.at_ hm.fn (wpAny_mono (run_at (us := [.ref a]) (vs := [.ref a]) F hr.in1 rfl hb hd hx I (.cons rfl .nil) q) (fun u s1 z => ?_) fun _ _ z => z)
  obtain ⟨v, H1, I1, rv, n, rfl, q1⟩ := z
  obtain ⟨t, rfl⟩ := rv
  exact ⟨.str n, H1, I1, ⟨_, rfl⟩, q1⟩
end
end L2
set_option Elab.async false
set_option linter.all false
set_option maxRecDepth 100000
set_option maxHeartbeats 0
namespace K21
open PySem PySem.Spec PyProof.Rows L2
def topS (i : Nat) : Stmt := PySem.Challenge.pw_uplines_k21_whole_steps.main.body.getD i (.Pass ⟨0, 0, 0, 0⟩)
abbrev iniS (i : Nat) : Stmt := inClass (topS i) 0
abbrev shS (j : Nat) : Stmt := inClass (topS 36) j
def dF (i : Nat) (x : Str) : He.DefD := ⟨(x, none), x, x, defArgs (topS i), defBody (topS i), defScope (topS i), [], []⟩
def dI (i : Nat) (x q : Str) : He.DefD := ⟨(x, some "__init__"), "__init__", q, defArgs (iniS i), defBody (iniS i), defScope (iniS i), [], []⟩
def dM (j : Nat) (m q : Str) : He.DefD := ⟨("Sheet", some m), m, q, defArgs (shS j), defBody (shS j), defScope (shS j), [], []⟩
def dS (j : Nat) : He.DefD := ⟨("Sheet", some "__init__"), "__init__", "Sheet.__init__", defArgs (shS j), defBody (shS j), defScope (shS j), [.adr (He.dflAt ("Sheet", some "__init__") 0)], []⟩
def fn1 : List He.DefD := [dF 4 "is_integer", dF 5 "is_name", dF 6 "is_list", dF 25 "check_levels", dF 26 "places_of", dF 27 "is_node", dF 28 "fits_as_line", dF 29 "check_fitting", dF 30 "check_lines", dF 31 "check_limit", dF 32 "check_apart", dF 33 "ends_by_node", dF 34 "reached_from", dF 38 "is_node_of", dF 39 "is_pair_of", dF 40 "check_pair", dF 42 "steps_from", dF 44 "steps", dF 45 "is_step", dF 47 "_law_pot", dF 48 "_law_draw", dF 49 "_law_pick", dF 50 "_law_draft", dF 51 "_law_made", dF 52 "_law_duos", dF 53 "_law_ends", dF 54 "_law_moves", dF 55 "_law_far", dF 56 "_law_is_walk", dF 57 "_law_duo_right", dF 58 "_law_others", dF 59 "_law_plain_right", dF 60 "_law_right", dF 61 "law"]
def fn2 : List He.DefD := [dI 9 "InvalidName" "InvalidName.__init__", dI 10 "InvalidLevel" "InvalidLevel.__init__", dI 11 "InvalidPair" "InvalidPair.__init__", dI 12 "InvalidLine" "InvalidLine.__init__", dI 13 "InvalidSheet" "InvalidSheet.__init__", dI 14 "InvalidLevels" "InvalidLevels.__init__", dI 15 "InvalidLines" "InvalidLines.__init__", dI 17 "UnknownNode" "UnknownNode.__init__", dI 18 "UnknownLine" "UnknownLine.__init__", dI 20 "NameTaken" "NameTaken.__init__", dI 21 "OtherLevels" "OtherLevels.__init__", dI 23 "TooMany" "TooMany.__init__"]
def fn3 : List He.DefD := [dS 3, dM 5 "levels" "Sheet.levels", dM 6 "level" "Sheet.level", dM 7 "lines" "Sheet.lines", dM 9 "level_of" "Sheet.level_of", dM 10 "above" "Sheet.above", dM 11 "below" "Sheet.below", dM 12 "pairs" "Sheet.pairs", dM 13 "parts" "Sheet.parts", dM 15 "__len__" "Sheet.__len__", dM 16 "__contains__" "Sheet.__contains__", dM 17 "__iter__" "Sheet.__iter__", dM 18 "__eq__" "Sheet.__eq__", dM 19 "__repr__" "Sheet.__repr__", dM 20 "__add__" "Sheet.__add__", dM 21 "__radd__" "Sheet.__radd__", dM 22 "__sub__" "Sheet.__sub__", dM 23 "__invert__" "Sheet.__invert__", dM 24 "__or__" "Sheet.__or__", dM 25 "__rshift__" "Sheet.__rshift__", dM 26 "with_node" "Sheet.with_node", dM 27 "without_node" "Sheet.without_node", dM 28 "with_level" "Sheet.with_level", dM 29 "cut" "Sheet.cut", dM 30 "joined" "Sheet.joined", dM 31 "_is_level" "Sheet._is_level", dM 32 "_is_line" "Sheet._is_line", dM 33 "_with_lines" "Sheet._with_lines", dM 34 "_with_only" "Sheet._with_only"]
def fn : List He.DefD := fn1 ++ (fn2 ++ fn3)
def fa : List He.Fa := [.int "LONGEST_NAME" 6, .str "SIGNS" "abcdefghijklmnopqrstuvwxyz0123456789", .glo "is_integer", .glo "is_name", .glo "is_list", .glo "check_levels", .glo "places_of", .glo "is_node", .glo "fits_as_line", .glo "check_fitting", .glo "check_lines", .glo "check_limit", .glo "check_apart", .glo "ends_by_node", .glo "reached_from", .glo "is_node_of", .glo "is_pair_of", .glo "check_pair", .glo "steps_from", .glo "steps", .glo "is_step", .glo "_law_pot", .glo "_law_draw", .glo "_law_pick", .glo "_law_draft", .glo "_law_made", .glo "_law_duos", .glo "_law_ends", .glo "_law_moves", .glo "_law_far", .glo "_law_is_walk", .glo "_law_duo_right", .glo "_law_others", .glo "_law_plain_right", .glo "_law_right", .glo "law", .glo "Sheet", .glo "SheetError", .glo "StateError", .glo "MissingError", .free "isinstance", .free "int", .free "bool", .free "str", .free "list", .free "tuple", .free "set", .free "len", .free "all", .free "repr", .free "range", .free "max", .free "min", .free "abs", .free "divmod", .free "enumerate", .free "sorted", .free "zip", .free "iter", .cls "Sheet", .mkr "Sheet", .noat "Sheet" "_levels", .noat "Sheet" "_lines", .noat "Sheet" "_nodes", .noat "Sheet" "_places", .noat "Sheet" "_ups", .noat "Sheet" "_downs", .meth "Sheet" "levels", .meth "Sheet" "level", .meth "Sheet" "lines", .meth "Sheet" "level_of", .meth "Sheet" "above", .meth "Sheet" "below", .meth "Sheet" "pairs", .meth "Sheet" "parts", .meth "Sheet" "__len__", .meth "Sheet" "__contains__", .meth "Sheet" "__iter__", .meth "Sheet" "__eq__", .meth "Sheet" "__repr__", .meth "Sheet" "__add__", .meth "Sheet" "__radd__", .meth "Sheet" "__sub__", .meth "Sheet" "__invert__", .meth "Sheet" "__or__", .meth "Sheet" "__rshift__", .meth "Sheet" "with_node", .meth "Sheet" "without_node", .meth "Sheet" "with_level", .meth "Sheet" "cut", .meth "Sheet" "joined", .meth "Sheet" "_is_level", .meth "Sheet" "_is_line", .meth "Sheet" "_with_lines", .meth "Sheet" "_with_only"]
def ones : List (Str × Str) := [("InvalidName", "value"), ("InvalidLevel", "value"), ("InvalidPair", "value"), ("InvalidLine", "value"), ("InvalidSheet", "value"), ("InvalidLevels", "position"), ("InvalidLines", "position"), ("UnknownNode", "value"), ("UnknownLine", "value"), ("NameTaken", "value")]
def twos : List (Str × Str × Str) := [("OtherLevels", "one", "other"), ("TooMany", "what", "limit")]
def cons : List (Str × Int) := [("MOST_LEVELS", 12), ("MOST_NODES", 18), ("MOST_LINES", 200)]
def conB (K : PySem.W.Frag) (x : Str) (i : Int) : Bool := match PySem.W.findIn K (.ref (He.ga K "Sheet")) x with
  | some (some (.int j t)) => decide (j = i) && He.eqO (PySem.W.specialIn K (.int j t) "__get__") (some none) && !PySem.W.copiedNames.contains x
  | _ => false
def emptB (K : PySem.W.Frag) : Bool := match K.lookup (He.dflAt ("Sheet", some "__init__") 0 K) with
  | some ⟨.type c, _, .seq its _, _⟩ => c == "tuple" && its.size == 0
  | _ => false
def reflB (K : PySem.W.Frag) (op : Operator) : Bool := (match PySem.W.findIn K (.ref (He.ga K "Sheet")) (dunderR op.info.2) with
  | some none => true
  | some (some (.ref _)) => true
  | _ => false) && ((PySem.W.findIn K (.type "tuple") (PySem.dunder op.info.2)).isSome && (PySem.W.findIn K (.type "tuple") (dunderR op.info.2)).isSome)
def ops : List Operator := [.Add, .Sub, .BitOr, .RShift]
def rdB (K : PySem.W.Frag) : Bool := PySem.W.readsIn K (He.ga K "Sheet") (.type "type") && decide (PySem.W.specialIn K (.ref (He.ga K "Sheet")) "__getattribute__" = some (some (.builtin "type.__getattribute__")))
def cvB (K : PySem.W.Frag) (x : Str) (i : Int) : Bool := match PySem.W.findCls K (.ref (He.ga K "Sheet")) (.type "type") x with
  | some (.val (.int j _)) => decide (j = i)
  | _ => false
def ex0 (K : PySem.W.Frag) : Bool := (ones.all fun q => He.er1B K q.1 q.2) && ((twos.all fun q => He.er2B K q.1 q.2.1 q.2.2) && ((cons.all fun q => conB K q.1 q.2) && (emptB K && (PySem.W.selfFirst K (He.ga K "Sheet") && ((ops.all fun op => reflB K op) &&
  (decide (PySem.W.subIn K (.type "tuple") (.ref (He.ga K "Sheet")) = some false) && decide (PySem.W.kitOne K (.ref (He.ga K "Sheet")) (.ref (He.ga K "Sheet")) = some true)))))))
def neB (K : PySem.W.Frag) : Bool := decide (PySem.W.findIn K (.ref (He.ga K "Sheet")) "__ne__" = some (some (.builtin "object.__ne__"))) && decide (PySem.W.subIn K (.ref (He.ga K "Sheet")) (.type "object") = some true) &&
  (decide (PySem.W.findIn K (.ref (He.ga K "Sheet")) "__class__" = some (some (.builtin "object.__class__"))) && (decide (PySem.W.specialIn K (.builtin "object.__class__") "__get__" = some (some (.builtin "getset_descriptor.__get__"))) &&
  (decide (PySem.W.takesIn K (.builtin "object.__class__") = some true) && decide (PySem.W.mroIn K (He.ga K "Sheet") (.type "object") = some true))))
def kitN : List String := ["NoneType", "bool", "int", "str", "list", "tuple", "dict"]
def kinB (K : PySem.W.Frag) : Bool := kitN.all fun T => decide (PySem.W.kitOne K (.type T) (.ref (He.ga K "Sheet")) = some false)
def heard : List (Str × Str × Str) := []
def exmB (K : PySem.W.Frag) : Bool := heard.all fun p => heard.all fun q => decide (PySem.W.exmOne K (.ref (He.ga K p.1)) (.ref (He.ga K q.1)) = some (decide (p.1 = q.1)))
def bseB (K : PySem.W.Frag) : Bool := heard.all fun p => decide (PySem.W.kitOne K (.ref (He.ga K p.1)) (.ref (He.ga K p.2.2)) = some true)
def tbn : List Str := []
def tnB (K : PySem.W.Frag) : Bool := decide ((tbn.map fun x => He.tabAt K (He.ga K x)).Nodup)
def exH (K : PySem.W.Frag) : Bool := exmB K && (bseB K && tnB K)
def ex (K : PySem.W.Frag) : Bool := ((ex0 K && (rdB K && (neB K && cons.all fun q => cvB K q.1 q.2))) && kinB K) && exH K
def lo1 : List PySem.Str := ["_wall", "SIGNS", "LONGEST_NAME", "is_integer", "is_name", "is_list", "SheetError", "InvalidName", "InvalidLevel", "InvalidPair", "InvalidLine", "InvalidSheet", "InvalidLevels", "InvalidLines", "MissingError", "UnknownNode", "UnknownLine", "StateError", "NameTaken", "OtherLevels", "LimitError", "TooMany", "check_levels", "places_of", "is_node", "fits_as_line"]
def lo2 : List PySem.Str := ["check_fitting", "check_lines", "check_limit", "check_apart", "ends_by_node", "reached_from", "Sheet", "is_node_of", "is_pair_of", "check_pair", "steps_from", "steps", "is_step", "_law_pot", "_law_draw", "_law_pick", "_law_draft", "_law_made", "_law_duos", "_law_ends", "_law_moves", "_law_far", "_law_is_walk", "_law_duo_right", "_law_others", "_law_plain_right", "_law_right"]
def loose : List PySem.Str := lo1 ++ lo2
abbrev R : PySem.W.OpenRow := PySem.W.OpenLaw.row PySem.Challenge.rw_uplines_k21_whole_steps
abbrev hk : PySem.W.Hook := He.hookXT ex 6 fa fn tbn
def ob (s : PySem.W.SharedT) : He.AlT := He.obsXT ex 6 fa fn tbn (HandSHeadRun.getT s)
theorem ob_eq (s : PySem.W.SharedT) : ob s = hk.obs s.abs := He.obsXT_eq (HandSHeadRun.getT_eq s)
open HandSHeadRun PySem.W in
noncomputable abbrev ed (w : World) (os : OsState) := endF (stepQ (denQ tabQ) R.prog w) 12000 R.prog w os
abbrev vw : Program := PySem.W.view R.prog [61]
def oK (s : PySem.W.SharedT) : PySem.W.Frag := He.cutF (He.frG (HandSHeadRun.getT s) (He5.asA (HandSHeadRun.getT s) 6)) tbn
end K21
set_option Elab.async false
set_option linter.all false
set_option maxRecDepth 100000
set_option maxHeartbeats 0
namespace K21
open PySem PySem.Spec PyProof.Rows L2
open HandSHeadRun PySem.W in
theorem run1 (w : World) (os : OsState) : (ed w os).map (fun s => looksF R.prog (boot_heap w.params) s.abs) = some true := by
  kernel_rfl
end K21
set_option Elab.async false
set_option linter.all false
set_option maxRecDepth 100000
set_option maxHeartbeats 0
namespace K21
open PySem PySem.Spec PyProof.Rows L2
open HandSHeadRun PySem.W in
theorem run2 (w : World) (os : OsState) : (ed w os).map (fun s => seenQ vw loose (importedModules R.prog.main.body) (fun s => xlAt vw [] s && recOk R.toRowW.records s) s.abs) = some (openGood vw loose) := by
  kernel_rfl
end K21
set_option Elab.async false
set_option linter.all false
set_option maxRecDepth 100000
set_option maxHeartbeats 0
namespace K21
open PySem PySem.Spec PyProof.Rows L2
theorem run0 (w : World) (os : OsState) : (ed w os).map (fun s => tbn.all fun x => He.tabOkB (HandSHeadRun.getT s) (oK s) x) = some true := by
  kernel_rfl
end K21
set_option Elab.async false
set_option linter.all false
set_option maxRecDepth 100000
set_option maxHeartbeats 0
namespace K21
open PySem PySem.Spec PyProof.Rows L2
theorem run3 (w : World) (os : OsState) : (ed w os).map (fun s => ex (oK s)) = some true := by
  kernel_rfl
end K21
set_option Elab.async false
set_option linter.all false
set_option maxRecDepth 100000
set_option maxHeartbeats 0
namespace K21
open PySem PySem.Spec PyProof.Rows L2
theorem run4 (w : World) (os : OsState) : (ed w os).map (fun s => fa.all fun f => f.ok (oK s)) = some true := by
  kernel_rfl
end K21
set_option Elab.async false
set_option linter.all false
set_option maxRecDepth 100000
set_option maxHeartbeats 0
namespace K21
open PySem PySem.Spec PyProof.Rows L2
theorem run5a (w : World) (os : OsState) : (ed w os).map (fun s => (fn.take 27).all fun d => d.ok (oK s)) = some true := by
  kernel_rfl
end K21
set_option Elab.async false
set_option linter.all false
set_option maxRecDepth 100000
set_option maxHeartbeats 0
namespace K21
open PySem PySem.Spec PyProof.Rows L2
theorem run5b (w : World) (os : OsState) : (ed w os).map (fun s => ((fn.drop 27).take 27).all fun d => d.ok (oK s)) = some true := by
  kernel_rfl
end K21
set_option Elab.async false
set_option linter.all false
set_option maxRecDepth 100000
set_option maxHeartbeats 0
namespace K21
open PySem PySem.Spec PyProof.Rows L2
theorem run5c (w : World) (os : OsState) : (ed w os).map (fun s => (fn.drop 54).all fun d => d.ok (oK s)) = some true := by
  kernel_rfl
end K21
set_option Elab.async false
set_option linter.all false
set_option maxRecDepth 100000
set_option maxHeartbeats 0
namespace K21
open PySem PySem.Spec PyProof.Rows L2
theorem run6 (w : World) (os : OsState) : (ed w os).map (fun s => fn.map fun d => He.fnW (oK s) d.at_) = some (fn.map He.DefD.val) := by
  kernel_rfl
end K21
set_option Elab.async false
set_option linter.all false
set_option maxRecDepth 100000
set_option maxHeartbeats 0
namespace K21
open PySem PySem.Spec PyProof.Rows L2
theorem map_two {α β γ : Type} {o : Option α} {f : α → β} {g : α → γ} {b : β} {c : γ} (h1 : o.map f = some b) (h2 : o.map g = some c) : o.map (fun s => (f s, g s)) = some (b, c) := by
  cases o with
  | none => cases h1
  | some s =>
    have e1 := Option.some.inj h1
    have e2 := Option.some.inj h2
    show some (f s, g s) = _
    rw [e1, e2]
theorem map_and {α : Type} {o : Option α} {f g : α → Bool} (h1 : o.map f = some true) (h2 : o.map g = some true) : o.map (fun s => f s && g s) = some true := by
  cases o with
  | none => cases h1
  | some s =>
    have e1 := Option.some.inj h1
    have e2 := Option.some.inj h2
    show some (f s && g s) = _
    rw [e1, e2]
    rfl
theorem run5 (w : World) (os : OsState) : (ed w os).map (fun s => fn.all fun d => d.ok (oK s)) = some true := by
  have h1 := run5a w os
  have h2 := run5b w os
  have h3 := run5c w os
  generalize ed w os = o at h1 h2 h3 ⊢
  cases o with
  | none => cases h1
  | some s =>
    have e1 : (fn.take 27).all (fun d => d.ok (oK s)) = true := Option.some.inj h1
    have e2 : ((fn.drop 27).take 27).all (fun d => d.ok (oK s)) = true := Option.some.inj h2
    have e3 : (fn.drop 54).all (fun d => d.ok (oK s)) = true := Option.some.inj h3
    have e4 : (fn.drop 27).all (fun d => d.ok (oK s)) = true := by
      rw [← List.take_append_drop 27 (fn.drop 27), List.all_append, e2, List.drop_drop, e3]
      rfl
    show some (fn.all fun d => d.ok (oK s)) = _
    rw [← List.take_append_drop 27 fn, List.all_append, e1, e4]
    rfl
theorem run (w : World) : HandSHeadRun.RunEq R (PySem.W.view R.prog [61]) hk ob 12000 loose w := fun os =>
  map_two (run1 w os) (map_two (run2 w os) (map_two (run0 w os) (map_two (run3 w os) (map_two (map_and (run4 w os) (run5 w os)) (run6 w os)))))
end K21
set_option Elab.async false
set_option linter.all false
set_option maxRecDepth 100000
set_option maxHeartbeats 4000000
/-! own errors with one field, with two, from the head's facts -/
namespace L2
open PySem PySem.Spec PyProof.Rows
theorem one_value {K : PySem.W.Frag} {h : Heap} {mg : Str → Option Value} (X : K.In h) (G : h.Ns mainGlobals mg) {x q : Str} {st : Stmt} {fd : FuncData} {p1 p2 q1 q2 q3 q4 pos : Pos} (b : He.er1B K x "value" = true)
    (F : FunD K "__init__" q (defArgs st) (defBody st) (defScope st) [] [] (He.ma K (He.ga K x) "__init__") fd) (hs : st = iSt1 "value" p1 p2 q1 q2 q3 q4 pos) : ErC1 K mg "value" x (He.ga K x) := by
  subst hs
  obtain ⟨b1, b⟩ := He.ba b
  obtain ⟨b2, b⟩ := He.ba b
  obtain ⟨b3, b4⟩ := He.ba b
  obtain ⟨g, T⟩ := He.exB_ok b1
  obtain ⟨⟨oc, od, kV, doc, pm, an, cdv, ct, osl, e, lk, hcd⟩, kp⟩ := FunD.toFun F
  subst e
  exact erc_value T (He.glo_ok X G g) (He.eqO_ok b2) (He.eqO_ok b3) (of_decide_eq_true b4) lk hcd kp
theorem one_position {K : PySem.W.Frag} {h : Heap} {mg : Str → Option Value} (X : K.In h) (G : h.Ns mainGlobals mg) {x q : Str} {st : Stmt} {fd : FuncData} {p1 p2 q1 q2 q3 q4 pos : Pos} (b : He.er1B K x "position" = true)
    (F : FunD K "__init__" q (defArgs st) (defBody st) (defScope st) [] [] (He.ma K (He.ga K x) "__init__") fd) (hs : st = iSt1 "position" p1 p2 q1 q2 q3 q4 pos) : ErC1 K mg "position" x (He.ga K x) := by
  subst hs
  obtain ⟨b1, b⟩ := He.ba b
  obtain ⟨b2, b⟩ := He.ba b
  obtain ⟨b3, b4⟩ := He.ba b
  obtain ⟨g, T⟩ := He.exB_ok b1
  obtain ⟨⟨oc, od, kV, doc, pm, an, cdv, ct, osl, e, lk, hcd⟩, kp⟩ := FunD.toFun F
  subst e
  exact erc_position T (He.glo_ok X G g) (He.eqO_ok b2) (He.eqO_ok b3) (of_decide_eq_true b4) lk hcd kp
theorem two_one {K : PySem.W.Frag} {h : Heap} {mg : Str → Option Value} (X : K.In h) (G : h.Ns mainGlobals mg) {x q : Str} {st : Stmt} {fd : FuncData} {p1 p2 p3 q1 q2 q3 q4 r1 r2 r3 r4 pos : Pos} (b : He.er2B K x "one" "other" = true)
    (F : FunD K "__init__" q (defArgs st) (defBody st) (defScope st) [] [] (He.ma K (He.ga K x) "__init__") fd) (hs : st = iSt2 "one" "other" p1 p2 p3 q1 q2 q3 q4 r1 r2 r3 r4 pos) : ErC2 K mg "one" "other" x (He.ga K x) := by
  subst hs
  obtain ⟨b1, b⟩ := He.ba b
  obtain ⟨b2, b⟩ := He.ba b
  obtain ⟨b2', b⟩ := He.ba b
  obtain ⟨b3, b4⟩ := He.ba b
  obtain ⟨g, T⟩ := He.exB_ok b1
  obtain ⟨⟨oc, od, kV, doc, pm, an, cdv, ct, osl, e, lk, hcd⟩, kp⟩ := FunD.toFun F
  subst e
  exact erc_one T (He.glo_ok X G g) (He.eqO_ok b2) (He.eqO_ok b2') (He.eqO_ok b3) (of_decide_eq_true b4) lk hcd kp
theorem two_what {K : PySem.W.Frag} {h : Heap} {mg : Str → Option Value} (X : K.In h) (G : h.Ns mainGlobals mg) {x q : Str} {st : Stmt} {fd : FuncData} {p1 p2 p3 q1 q2 q3 q4 r1 r2 r3 r4 pos : Pos} (b : He.er2B K x "what" "limit" = true)
    (F : FunD K "__init__" q (defArgs st) (defBody st) (defScope st) [] [] (He.ma K (He.ga K x) "__init__") fd) (hs : st = iSt2 "what" "limit" p1 p2 p3 q1 q2 q3 q4 r1 r2 r3 r4 pos) : ErC2 K mg "what" "limit" x (He.ga K x) := by
  subst hs
  obtain ⟨b1, b⟩ := He.ba b
  obtain ⟨b2, b⟩ := He.ba b
  obtain ⟨b2', b⟩ := He.ba b
  obtain ⟨b3, b4⟩ := He.ba b
  obtain ⟨g, T⟩ := He.exB_ok b1
  obtain ⟨⟨oc, od, kV, doc, pm, an, cdv, ct, osl, e, lk, hcd⟩, kp⟩ := FunD.toFun F
  subst e
  exact erc_what T (He.glo_ok X G g) (He.eqO_ok b2) (He.eqO_ok b2') (He.eqO_ok b3) (of_decide_eq_true b4) lk hcd kp
end L2
set_option Elab.async false
set_option linter.all false
set_option maxRecDepth 100000
set_option maxHeartbeats 4000000
/-! for i, x in enumerate(t), t a tuple -/
namespace XE
open PySem PyProof.Rows
open Sem (wp)
open AutoSeq1 (wpAny_loadPart')
set_option maxHeartbeats 4000000 in
theorem new_enum {v : Value} {o : Obj} {Ho : Heap → Prop} (B : Begins v o Ho) :
    Meets (Builtin.«enumerate.__new__» ⟨[.type "enumerate", v], []⟩) (fun _ R s => Ho s.heap ∧
      R (.ok (.ret (.ref (s.heap.push o).objs.size))) { s with heap := (s.heap.push o).push { cls := .type "enumerate", data := .fields #[.none, .bool false, .ref s.heap.objs.size, rawInt 0, .none, .none] } }) :=
  .of_wp fun prog w A R s start => by
    obtain ⟨hp, g, d, tk, os⟩ := s
    obtain ⟨b1, fin⟩ := start
    have same := sub_enumerate
    have walk : ∀ {A2 : Around} {E2 : Value → Shared → Prop} {Q2 : Value → Shared → Prop}, Q2 (.ref hp.objs.size) ⟨hp.push o, g, d, tk, os⟩ → wpAny (model prog w) A2 (pyIter v) Q2 E2 ⟨hp, g, d, tk, os⟩ :=
      fun q => B.iter prog w _ _ ⟨hp, g, d, tk, os⟩ _ b1 q
    wp_walk using walk
    refine wpAny_stack_any fun st => wpAny_pure ?_
    split
    · rename_i c _ _ _ _ _
      cases (c == Value.type "enumerate")
      all_goals
        wp_walk using walk
        exact ⟨_, rfl, fin⟩
    · wp_walk using walk
      exact ⟨_, rfl, fin⟩
theorem call_enum {prog : Program} {w : World} {A : Around} {E : Value → Shared → Prop} {s : Shared} {v : Value} {o : Obj} {Ho : Heap → Prop} {Q : Value → Shared → Prop} (B : Begins v o Ho) (b1 : Ho s.heap)
    (q : ∀ h', IsEnum h' (s.heap.objs.size + 1) s.heap.objs.size 0 .none → h'.get? s.heap.objs.size = some o → (∀ b ob, s.heap.get? b = some ob → h'.get? b = some ob) → Q (.ref (s.heap.objs.size + 1)) { s with heap := h' }) :
    wpAny (model prog w) A (call (.type "enumerate") [v]) Q E s := by
  have sz : (s.heap.push o).objs.size = s.heap.objs.size + 1 := Heap.size_push ..
  refine callType_new F.called_enumerate (by decide) (F.typeCall_enumerate_1 _) (F.newCall_enumerate_1 _) (fun obj => F.args_object_init_2 obj _) F.entry_enumerate_new (new_enum B) ⟨b1, ?_⟩
  show _ ∧ _
  rw [sz]
  have en : IsEnum ((s.heap.push o).push { cls := .type "enumerate", data := .fields #[.none, .bool false, .ref s.heap.objs.size, rawInt 0, .none, .none] }) (s.heap.objs.size + 1) s.heap.objs.size 0 .none := by
    have z := Heap.get?_push_size (s.heap.push o) (o := { cls := .type "enumerate", data := .fields #[.none, .bool false, .ref s.heap.objs.size, rawInt 0, .none, .none] }) rfl
    rw [sz] at z
    exact z
  exact ⟨⟨_, en, rfl⟩, q _ en (Heap.get?_push_of_some _ (Heap.get?_push_size _ B.free)) fun b ob z => Heap.get?_push_of_some _ (Heap.get?_push_of_some _ z)⟩
end XE
namespace L2
open PySem PySem.Spec PyProof.Rows
/-- the tuple at a, each item in a new pair -/
def IteT (K : PySem.W.Frag) (a : Addr) (xs : List V) : It :=
  ⟨fun i H => SqT K H a xs ∧ i < xs.length, fun i H v H' => ∃ T x, v = .ref T ∧ H T = none ∧ H' = upd H T (.tup [.int (i : Nat), x]) ∧ xs[i]? = some x, fun i H => SqT K H a xs ∧ xs.length ≤ i⟩
theorem turn_enumT {P : Program} {w : World} {K : PySem.W.Frag} {elts : List Expr} {kk : Nat} {tpos : Pos} (a e it : Addr) (xs : List V) :
    Turn P w K (.Tuple elts kk tpos) (IteT K a xs) [e, it] e (fun i h => (∃ old, IsEnum h e it ((i : Nat) : Int) old) ∧ h.IsTupleIter it a i ∧ e ≠ it) where
  mem := by simp
  obj := fun i h st b hb => by
    obtain ⟨⟨old, he⟩, ⟨o, ho, hc, hd⟩, _⟩ := st
    rcases (by simpa using hb : b = e ∨ b = it) with z | z
    · subst z
      exact ⟨_, he, fun v q => nomatch q⟩
    · subst z
      exact ⟨o, ho, fun v q => by rw [hd] at q; cases q⟩
  keep := fun i h h' st k => let ⟨⟨old, he⟩, hi, hne⟩ := st; ⟨⟨old, k e (by simp) _ he⟩, hi.at fun o q => k it (by simp) o q, hne⟩
  item := by
    intro X hP hw hK hc i pins s σ H E I hf st hg
    subst hP hw hK
    obtain ⟨⟨old, en⟩, hit, hne⟩ := st
    obtain ⟨hq, hlt⟩ := hg
    obtain ⟨its, rv, p, hz⟩ := I.tuple hq
    have tup : s.heap.IsTuple a its.toArray := p
    have apart : a ≠ it := by
      intro z
      subst z
      obtain ⟨o, g1, g2, _⟩ := tup
      obtain ⟨o2, g3, g4, _⟩ := hit
      rw [g1] at g3
      cases g3
      rw [g2] at g4
      exact absurd (Value.type.inj g4) (by decide)
    have le : e < s.heap.objs.size := Heap.lt_size en
    have lit : it < s.heap.objs.size := by obtain ⟨_, q, _⟩ := hit; exact Heap.lt_size q
    have ea : e ≠ a := by
      intro z
      subst z
      obtain ⟨o, g1, g2, _⟩ := tup
      have g3 := (show s.heap.get? e = some _ from en)
      rw [g1] at g3
      cases g3
      exact absurd (Value.type.inj g2) (by decide)
    refine wpAny_pyNext_enum_itemD (Draws.tuple (A := X.A.in1) (show X.A.in1.handled = none from I.ok.hd hc) it a apart its.toArray) en ⟨hit, tup⟩ (by rw [List.size_toArray, ← rv.length]; exact hlt) hne (by simp [hne, ea]) fun u h1 tk hu out st1 hT hsz hk => ?_
    obtain ⟨x, hx⟩ : ∃ x, xs[i]? = some x := ⟨xs[i], List.getElem?_eq_getElem hlt⟩
    obtain ⟨u2, hu2, ru⟩ := rv.get hx
    have eu : u2 = u := by
      have z : its[i]? = some u := by simpa using hu
      rw [hu2] at z
      exact Option.some.inj z
    subst eu
    refine ⟨_, rfl, wpAny_letOwnedTupleGo_enum (s := { s with heap := h1, toks := tk + 1 }) out fun h2 en2 sb => ?_⟩
    have hT2 : h2.get? s.heap.objs.size = some { cls := .type "tuple", data := .seq #[.int i tk, u2] } := (sb.2 _ (Nat.ne_of_gt le)).trans hT
    have new : ObjOk X.prog X.w (upd H s.heap.objs.size (.tup [.int (i : Nat), x])) h2 s.heap.objs.size (.tup [.int (i : Nat), x]) := ⟨by show 2 ≤ sizeLine; decide, [.int i tk, u2], .cons ⟨_, rfl⟩ (.cons ru .nil), ⟨_, hT2, rfl, _, rfl⟩⟩
    have I1 : Inv X pins σ (upd H s.heap.objs.size (.tup [.int (i : Nat), x])) { s with heap := h2, toks := tk + 1 } :=
      I.turnedNew (ch := [e, it]) (fun b ob hb q => (sb.2 b (fun z => hb (by simp [z]))).trans (hk b ob (fun z => hb (by simp [z])) (fun z => hb (by simp [z])) q)) hf (Nat.le_refl _) new
    refine ⟨.ref s.heap.objs.size, _, I1, rfl, ⟨_, x, rfl, I.hok.fresh (Nat.le_refl _), rfl, hx⟩, ⟨⟨u2, ?_⟩, st1.1.at fun o q => (sb.2 it (Ne.symm hne)).trans q, hne⟩, fun b hb => ?_⟩
    · rw [show ((i + 1 : Nat) : Int) = (i : Int) + 1 by omega]
      exact en2
    · have lb : b < s.heap.objs.size := by
        rcases (by simpa using hb : b = e ∨ b = it) with z | z
        · rw [z]; exact le
        · rw [z]; exact lit
      rw [upd_ne (Nat.ne_of_lt lb)]
      exact (hf b hb).1
  done := by
    intro X hP hw hK hc i pins s σ H E I hf st hg
    subst hP hw hK
    obtain ⟨⟨old, en⟩, hit, hne⟩ := st
    obtain ⟨hq, hle⟩ := hg
    obtain ⟨its, rv, p, hz⟩ := I.tuple hq
    have tup : s.heap.IsTuple a its.toArray := p
    obtain ⟨f0, f1, f2, f3, f4, f5⟩ := hf it (by simp)
    have none_ : its.toArray[i]? = none := by
      have := rv.length
      simp
      omega
    have hT : s.TypeIs (.ref e) "enumerate" := ⟨_, en, rfl⟩
    unfold pyNext
    refine wpAny_bind (wpAny_attempt (wpAny_callSpecial?_slot (name := Str.ofString "__next__") hT F.slot_enumerate_next (wpAny_call_entry F.slot_enumerate_next hT F.entry_enumerate_next ?_ (F.args_enumerate_next_1 _))))
    change wpAny _ _ (field (.ref e) 2 >>= _) _ _ _
    refine wpAny_bind (wpAny_field en rfl (x := .ref it) rfl ?_)
    refine wpAny_bind (wpAny_nextOf_tuple_end (show X.A.in1.handled = none from I.ok.hd hc) hit tup none_ fun h1 g eb stop => ?_)
    obtain ⟨o, ho, hcl⟩ := stop
    refine wpAny_bind (wpAny_isInstance (T := "StopIteration") (b := true) ⟨o, ho, hcl⟩ isSubtype_stop ?_)
    exact wpAny_pure ⟨rfl, I.turned (t' := s.toks) (fun b ob hb q => eb b ob hb q) f0 f1 f3 f4 f5⟩
  self := fun A i s Q E st h => let ⟨⟨_, he⟩, _⟩ := st; wpAny_pyIter_enum he h
def iEnumT (K : PySem.W.Frag) (ta : TA) : TI := fun σ H R => ta σ H fun vs H1 => ∃ a xs, vs = [.ref a] ∧ SqT K H1 a xs ∧ R (IteT K a xs) H1
theorem pi_enumT {X : Cx} {e : Expr} {ta : TA} {p pos tpos : Pos} {elts : List Expr} {kk : Nat} (hg : Gl X "enumerate") (hm : X.mg "enumerate" = none) (ha : PA X [e] ta) (hs : starEach [e] X.env = [(false, eval e X.env)] := by rfl) :
    PI X (.Tuple elts kk tpos) (.Call (.Name "enumerate" p) [e] [] pos) (iEnumT X.K ta) := by
  refine ⟨fun pins s σ H R I h => ?_⟩
  refine Call_ (ld_blt I hg hm boot_enumerate (PyProof.Rows.callWith_type1 (thn (ha.run pos pins s σ H _ I h) fun us s1 ⟨vs, H1, I1, r1, a, xs, ex, hq, q⟩ => ?_) hs rfl))
  subst ex
  obtain ⟨u, rfl, ru⟩ := vals1 r1
  cases ru
  obtain ⟨its, rv, p', hz⟩ := I1.tuple hq
  refine XE.call_enum (begins_tuple a its.toArray) (show s1.heap.IsTuple a its.toArray from p') fun h' en it k => wpAny_pyIter_enum en ?_
  have I2 : Inv X pins σ H1 { s1 with heap := h' } := I1.kept (t' := s1.toks) k
  refine ⟨s1.heap.objs.size + 1, [s1.heap.objs.size + 1, s1.heap.objs.size], _, _, H1, rfl, I2, turn_enumT a (s1.heap.objs.size + 1) s1.heap.objs.size xs, ⟨⟨.none, en⟩, ⟨_, it, rfl, rfl⟩, Nat.succ_ne_self _⟩, fun b hb => ?_, q⟩
  have above : s1.heap.objs.size ≤ b := by
    rcases (by simpa using hb : b = s1.heap.objs.size + 1 ∨ b = s1.heap.objs.size) with z | z
    · rw [z]; exact Nat.le_add_right _ _
    · rw [z]; exact Nat.le_refl _
  exact I1.fpOk above (I1.hok.fresh above)
end L2
set_option Elab.async false
set_option linter.all false
set_option maxRecDepth 100000
set_option maxHeartbeats 4000000
/-! what a for walks that is a list or a tuple -/
namespace L2
open PySem PySem.Spec PyProof.Rows
section
variable {X : Cx} {tg e : Expr} {te : TE} {ta : TA}
/-- a list or a tuple of these items -/
def Sq (K : PySem.W.Frag) (H : Hp) (a : Addr) (xs : List V) : Prop := SqL K H a xs ∨ SqT K H a xs
def iSeq (K : PySem.W.Frag) (te : TE) : TI := fun σ H R => te σ H fun x H1 => ∃ a xs, x = .ref a ∧ ((SqL K H1 a xs ∧ R (Itl K a) H1) ∨ (SqT K H1 a xs ∧ R (Itt K a) H1))
theorem pi_seq (he : PE X e te) : PI X tg e (iSeq X.K te) := by
  refine ⟨fun pins s σ H R I h => thn (he.run pins s σ H _ I h) fun v s1 ⟨x, H1, I1, r1, a, xs, ex, hh⟩ => ?_⟩
  subst ex
  cases r1
  have room : ∀ b ∈ [s1.heap.objs.size], FpOk X pins H1 b := fun b hb => by
    have z : b = s1.heap.objs.size := by simpa using hb
    subst z
    exact I1.fpOk (Nat.le_refl _) (I1.hok.fresh (Nat.le_refl _))
  rcases hh with ⟨hq, q⟩ | ⟨hq, q⟩
  · obtain ⟨its, rv, p, hz⟩ := I1.list hq
    exact wpAny_pyIter_list p.isList ⟨_, [s1.heap.objs.size], _, _, H1, rfl, I1.kept (t' := s1.toks) fun b o z => Heap.get?_push_of_some _ z, turn_list a _, ⟨_, Heap.get?_push_size _ rfl, rfl, rfl⟩, room, q⟩
  · obtain ⟨its, rv, p, hz⟩ := I1.tuple hq
    exact wpAny_pyIter_tuple (show s1.heap.IsTuple a its.toArray from p) ⟨_, [s1.heap.objs.size], _, _, H1, rfl, I1.kept (t' := s1.toks) fun b o z => Heap.get?_push_of_some _ z, turn_tuple a _, ⟨_, Heap.get?_push_size _ rfl, rfl, rfl⟩, room, q⟩
def iEnumS (K : PySem.W.Frag) (ta : TA) : TI := fun σ H R => ta σ H fun vs H1 => ∃ a xs, vs = [.ref a] ∧ ((SqL K H1 a xs ∧ R (Ite K a) H1) ∨ (SqT K H1 a xs ∧ R (IteT K a xs) H1))
theorem pi_enumS {p pos tpos : Pos} {elts : List Expr} {kk : Nat} (hg : Gl X "enumerate") (hm : X.mg "enumerate" = none) (ha : PA X [e] ta) (hs : starEach [e] X.env = [(false, eval e X.env)] := by rfl) :
    PI X (.Tuple elts kk tpos) (.Call (.Name "enumerate" p) [e] [] pos) (iEnumS X.K ta) := by
  refine ⟨fun pins s σ H R I h => Call_ (ld_blt I hg hm boot_enumerate (PyProof.Rows.callWith_type1 (thn (ha.run pos pins s σ H _ I h) fun us s1 ⟨vs, H1, I1, r1, a, xs, ex, hh⟩ => ?_) hs rfl))⟩
  subst ex
  obtain ⟨u, rfl, ru⟩ := vals1 r1
  cases ru
  have room : ∀ b ∈ [s1.heap.objs.size + 1, s1.heap.objs.size], FpOk X pins H1 b := fun b hb => by
    have above : s1.heap.objs.size ≤ b := by
      rcases (by simpa using hb : b = s1.heap.objs.size + 1 ∨ b = s1.heap.objs.size) with z | z
      · rw [z]; exact Nat.le_add_right _ _
      · rw [z]; exact Nat.le_refl _
    exact I1.fpOk above (I1.hok.fresh above)
  rcases hh with ⟨hq, q⟩ | ⟨hq, q⟩
  · obtain ⟨its, rv, p', hz⟩ := I1.list hq
    exact call_enumerate_list p'.isList fun h' en it _ k => wpAny_pyIter_enum en ⟨s1.heap.objs.size + 1, [s1.heap.objs.size + 1, s1.heap.objs.size], _, _, H1, rfl, I1.kept (t' := s1.toks) k, turn_enum a (s1.heap.objs.size + 1) s1.heap.objs.size, ⟨⟨.none, en⟩, it, Nat.succ_ne_self _⟩, room, q⟩
  · obtain ⟨its, rv, p', hz⟩ := I1.tuple hq
    exact XE.call_enum (begins_tuple a its.toArray) (show s1.heap.IsTuple a its.toArray from p') fun h' en it k => wpAny_pyIter_enum en
      ⟨s1.heap.objs.size + 1, [s1.heap.objs.size + 1, s1.heap.objs.size], _, _, H1, rfl, I1.kept (t' := s1.toks) k, turn_enumT a (s1.heap.objs.size + 1) s1.heap.objs.size xs, ⟨⟨.none, en⟩, ⟨_, it, rfl, rfl⟩, Nat.succ_ne_self _⟩, room, q⟩
end
end L2
set_option Elab.async false
set_option linter.all false
set_option maxRecDepth 100000
set_option maxHeartbeats 4000000
/-! readings of walks over a list or a tuple, of enumerate over them -/
namespace Evl
open PySem L2
section
variable {K : PySem.W.Frag} {σ : L2.St} {H H' : Hp} {ta : TA} {te tl : TE} {t : TT} {a : Addr} {xs : List V} {D : Ends} {tu tz : TS} {g : TG}
theorem ex_s (e : Ex H H') (h : Sq K H a xs) : Sq K H' a xs := by
  rcases h with h | h
  · exact .inl (ex_l e h)
  · exact .inr (ex_t e h)
theorem sqL_ty (h : SqL K H a xs) : TyX K H (.ref a) (.type "list") := by
  rcases h with (h | ⟨o, h⟩) | ⟨o, its, n, hk, hc, _⟩
  · exact .base (.lst h)
  · exact .base (.frz h)
  · exact .kList hk hc
theorem sqT_ty (h : SqT K H a xs) : TyX K H (.ref a) (.type "tuple") := by
  rcases h with (h | ⟨o, h⟩) | ⟨o, its, n, hk, hc, _⟩
  · exact .base (.tup h)
  · exact .fTuple h
  · exact .kTuple hk hc
theorem walk_enumT : Walk (IteT K a xs) xs.length (fun H => SqT K H a xs) (YPair (fun i => some (.int (i : Nat))) (fun i => xs[i]?)) :=
  ⟨fun i _ hi q => ⟨q, hi⟩, fun _ q => ⟨q, Nat.le_refl _⟩, fun i H v H' _ q y => let ⟨T, x, h1, h2, h3, h4⟩ := y; ⟨T, .int (i : Nat), x, h1, h2, h3, rfl, h4⟩⟩
/-- for x in xs, a list or a tuple -/
theorem s_forS {H0 : Hp} (h : Ev tl σ H (.ref a)) (e0 : Ex H0 H) (hx : Sq K H0 a xs) (Pv : Nat → L2.St → Hp → Prop) (h0 : ∀ H1, Ex H H1 → Pv 0 σ H1) (hl : ∀ i σ' H', Pv i σ' H' → Ex H0 H')
    (hs : ∀ i x σ' H', xs[i]? = some x → Pv i σ' H' → g x σ' H' fun σ2 H2 => tu { D with nx := Pv (i + 1), ct := Pv (i + 1), bk := D.nx } σ2 H2) (hd : ∀ σ' H', Pv xs.length σ' H' → D.nx σ' H') : tFor (iSeq K tl) g tu D σ H :=
  h H (Ex.refl H) _ fun H1 e => ⟨a, xs, rfl, by
    rcases hx with hx | hx
    · exact .inl ⟨ex_l (e0.trans e) hx, for_list Pv (h0 H1 e) (fun i σ' H' _ p => ex_l (hl i σ' H' p) hx) hs hd⟩
    · exact .inr ⟨ex_t (e0.trans e) hx, for_tup Pv (h0 H1 e) (fun i σ' H' _ p => ex_t (hl i σ' H' p) hx) hs hd⟩⟩
theorem q_forS {H0 : Hp} (h : Ev tl σ H (.ref a)) (e0 : Ex H0 H) (hx : Sq K H0 a xs) (Pv : Nat → L2.St → Hp → Prop) (h0 : ∀ H1, Ex H H1 → Pv 0 σ H1) (hl : ∀ i σ' H', Pv i σ' H' → Ex H0 H')
    (hs : ∀ i x σ' H', xs[i]? = some x → Pv i σ' H' → g x σ' H' fun σ2 H2 => tu { D with nx := Pv (i + 1), ct := Pv (i + 1), bk := tz D } σ2 H2) (hd : ∀ σ' H', Pv xs.length σ' H' → tz D σ' H') : tSeq (tFor (iSeq K tl) g tu) tz D σ H :=
  s_forS (D := { D with nx := tz D }) h e0 hx Pv h0 hl hs hd
/-- for i, x in enumerate(xs) -/
theorem s_forE {H0 : Hp} {i j : Nat} (h : EvA ta σ H [.ref a]) (e0 : Ex H0 H) (hx : Sq K H0 a xs) (Pv : Nat → L2.St → Hp → Prop) (h0 : ∀ H1, Ex H H1 → Pv 0 σ H1) (hl : ∀ k σ' H', Pv k σ' H' → Ex H0 H')
    (hs : ∀ (k : Nat) x σ' H' H2, xs[k]? = some x → Pv k σ' H' → Ex H' H2 → tu { D with nx := Pv (k + 1), ct := Pv (k + 1), bk := D.nx } ((σ'.set i (some (.int (k : Int)))).set j (some x)) H2) (hd : ∀ σ' H', Pv xs.length σ' H' → D.nx σ' H') :
    tFor (iEnumS K ta) (gTup K 2 (gCons (gName i) (gCons (gName j) gNil))) tu D σ H :=
  h H (Ex.refl H) _ fun H1 e => by
    have turn : ∀ (k : Nat) (v : V) (σ' : L2.St) (H2 H3 : Hp), k < xs.length → Pv k σ' H2 → YPair (fun i => some (.int (i : Nat))) (fun i => xs[i]?) k H2 v H3 →
        gTup K 2 (gCons (gName i) (gCons (gName j) gNil)) v σ' H3 fun σ2 H4 => tu { D with nx := Pv (k + 1), ct := Pv (k + 1), bk := D.nx } σ2 H4 := by
      rintro k v σ' H2 H3 hk p ⟨T, y, x, rfl, nT, rfl, hy, hx'⟩
      cases hy
      exact ⟨T, _, rfl, st_of upd_same, rfl, _, _, rfl, _, _, rfl, rfl, hs k x σ' H2 _ hx' p (Ex.new nT)⟩
    rcases hx with hx | hx
    · exact ⟨a, xs, rfl, .inl ⟨ex_l (e0.trans e) hx, for_it walk_enum Pv (h0 H1 e) (fun k σ' H' _ p => ex_l (hl k σ' H' p) hx) (fun k v σ' H2 H3 hk p y => turn k v σ' H2 H3 hk p y) hd⟩⟩
    · exact ⟨a, xs, rfl, .inr ⟨ex_t (e0.trans e) hx, for_it walk_enumT Pv (h0 H1 e) (fun k σ' H' _ p => ex_t (hl k σ' H' p) hx) (fun k v σ' H2 H3 hk p y => turn k v σ' H2 H3 hk p y) hd⟩⟩
theorem q_forE {H0 : Hp} {i j : Nat} (h : EvA ta σ H [.ref a]) (e0 : Ex H0 H) (hx : Sq K H0 a xs) (Pv : Nat → L2.St → Hp → Prop) (h0 : ∀ H1, Ex H H1 → Pv 0 σ H1) (hl : ∀ k σ' H', Pv k σ' H' → Ex H0 H')
    (hs : ∀ (k : Nat) x σ' H' H2, xs[k]? = some x → Pv k σ' H' → Ex H' H2 → tu { D with nx := Pv (k + 1), ct := Pv (k + 1), bk := tz D } ((σ'.set i (some (.int (k : Int)))).set j (some x)) H2) (hd : ∀ σ' H', Pv xs.length σ' H' → tz D σ' H') :
    tSeq (tFor (iEnumS K ta) (gTup K 2 (gCons (gName i) (gCons (gName j) gNil))) tu) tz D σ H := s_forE (D := { D with nx := tz D }) h e0 hx Pv h0 hl hs hd
end
end Evl
set_option Elab.async false
set_option linter.all false
set_option maxRecDepth 100000
set_option maxHeartbeats 4000000
/-! sets whose elements are tuples of keys of any kind: the table, the search, the adding -/
namespace XT
open PySem PySem.Spec PyProof.Rows L2
section
variable {P : Program} {w : World} {K : Type} [DecidableEq K] {knd : PySem.KeyKind P w K} {A : Around} {E : Value → Shared → Prop} {s : Shared}
abbrev Hs (knd : PySem.KeyKind P w K) (k : List K) : Int := tupleKeyHash knd k
abbrev At (knd : PySem.KeyKind P w K) (h : Heap) (k : List K) (b : Addr) : Prop := IsTupleKey knd h k b
/-- items of which nothing is asked -/
structure Calm (knd : PySem.KeyKind P w K) : Prop where
  cls : ∀ {k : K} {v : Value} (n : Nat), knd.is k v = true → ofAClassStatement n v = pure false
  byv : ∀ {k : K} {v : Value} (n : Nat), knd.is k v = true → ∃ r, hashByValue n v = pure r
theorem each_is {ks : List K} {vs : List Value} (h : PySem.ItemsAre knd ks vs) : ∀ v ∈ vs, ∃ k, knd.is k v = true := by
  induction h with
  | nil => exact fun v z => nomatch z
  | @cons k v0 ks vs h0 _ ih =>
    intro v z
    cases z with
    | head => exact ⟨k, h0⟩
    | tail _ z => exact ih v z
theorem cls_at (c : Calm knd) {k : List K} {b : Addr} {Q : Bool → Shared → Prop} (x : At knd s.heap k b) (q : Q false s) : wpAny (model P w) A (ofAClassStatement 8 (.ref b)) Q E s := by
  have ty := x.typeIs
  obtain ⟨ob, its, m, h1, _, h2, h3⟩ := x
  unfold ofAClassStatement
  refine wpAny_bind (wpAny_typeOf ty ?_)
  dsimp only
  have eq1 : ("tuple" == "tuple") = true := rfl
  simp only [eq1, if_true, Bool.not_true, Bool.false_eq_true, if_false]
  try refine wpAny_bind (wpAny_pure ?_)
  try simp only [Bool.not_true, Bool.false_eq_true, if_false]
  change wpAny _ _ (seqItems? (.ref b) >>= _) _ _ s
  refine wpAny_bind (wpAny_seqItems h1 h2 ?_)
  dsimp only
  refine wpAny_bind ?_
  change wpAny _ _ (forIn its _ _) _ _ s
  rw [← Array.forIn_toList]
  refine wpAny_forIn_list _ (fun more r s1 => r.1 = none ∧ s1 = s ∧ ∀ v ∈ more, ∃ k, knd.is k v = true) _ ?turn ?fin _ _ ⟨rfl, rfl, each_is h3⟩
  case turn =>
    rintro v more r s1 ⟨hr, rfl, hm⟩
    obtain ⟨k1, hk1⟩ := hm v (List.mem_cons_self ..)
    rw [c.cls _ hk1]
    refine wpAny_bind (wpAny_pure ?_)
    simp only [Bool.false_eq_true, if_false]
    exact wpAny_pure ⟨rfl, rfl, fun u z => hm u (List.mem_cons_of_mem _ z)⟩
  case fin =>
    rintro ⟨r1, r2⟩ s1 ⟨hr, rfl, _⟩
    simp only at hr
    subst hr
    exact wpAny_pure q
theorem byv_at (c : Calm knd) {k : List K} {b : Addr} {Q : Bool → Shared → Prop} (x : At knd s.heap k b) (q : ∀ r, Q r s) : wpAny (model P w) A (hashByValue 8 (.ref b)) Q E s := by
  have ty := x.typeIs
  obtain ⟨ob, its, m, h1, _, h2, h3⟩ := x
  unfold hashByValue
  refine wpAny_bind (wpAny_specialOf ty F.slot_tuple_hash.lookup ?_)
  change wpAny _ _ (seqItems? (.ref b) >>= _) _ _ s
  refine wpAny_bind (wpAny_seqItems h1 h2 (wpAny_bind ?_))
  change wpAny _ _ (forIn its _ _) _ _ s
  rw [← Array.forIn_toList]
  refine wpAny_forIn_list _ (fun more r s1 => r.1 = none ∧ s1 = s ∧ ∀ v ∈ more, ∃ k, knd.is k v = true) _ ?turn ?fin _ _ ⟨rfl, rfl, each_is h3⟩
  case turn =>
    rintro v more r s1 ⟨hr, rfl, hm⟩
    obtain ⟨k1, hk1⟩ := hm v (List.mem_cons_self ..)
    obtain ⟨g, hg⟩ := c.byv 7 hk1
    rw [hg]
    refine wpAny_bind (wpAny_pure ?_)
    cases g with
    | true =>
      simp only [Bool.not_true, Bool.false_eq_true, if_false]
      exact wpAny_pure ⟨rfl, rfl, fun u z => hm u (List.mem_cons_of_mem _ z)⟩
    | false =>
      simp only [Bool.not_false, if_true]
      exact wpAny_pure (wpAny_pure (q false))
  case fin =>
    rintro ⟨r1, r2⟩ s1 ⟨hr, rfl, _⟩
    simp only at hr
    subst hr
    exact wpAny_pure (q true)
/-- whether a search could be seen: never -/
theorem unseen (c : Calm knd) {k : List K} {b : Addr} {Q : Bool → Shared → Prop} (x : At knd s.heap k b) {ys : List Value} (hy : ∀ y ∈ ys, ∃ k1 b1, y = Value.ref b1 ∧ At knd s.heap k1 b1) (q : Q false s) :
    wpAny (model P w) A (searchCouldBeSeen (.ref b) ys) Q E s := by
  unfold searchCouldBeSeen
  refine wpAny_bind ?_
  refine wpAny_forIn_list _ (fun more r s1 => r.1 = none ∧ s1 = s ∧ ∀ y ∈ more, ∃ k1 b1, y = Value.ref b1 ∧ At knd s.heap k1 b1) _ ?turn ?fin _ _ ⟨rfl, rfl, hy⟩
  case turn =>
    rintro v more r s1 ⟨hr, rfl, hm⟩
    obtain ⟨k1, b1, rfl, x1⟩ := hm v (List.mem_cons_self ..)
    have hm2 := fun u (z : u ∈ more) => hm u (List.mem_cons_of_mem _ z)
    dsimp only
    by_cases same : (b == b1 || (carriedByValue (.ref b) && carriedByValue (.ref b1))) = true
    · exact wp_if_pos same (wpAny_pure ⟨rfl, rfl, hm2⟩)
    · refine wp_if_neg same (wpAny_bind (wpAny_eqIsQuiet_tuple x ?_))
      simp only [Bool.not_true, Bool.false_eq_true, if_false]
      refine wpAny_bind (wpAny_eqIsQuiet_tuple x1 ?_)
      simp only [Bool.not_true, Bool.false_eq_true, if_false]
      refine wpAny_bind (cls_at c x ?_)
      simp only [Bool.false_eq_true, if_false]
      refine wpAny_bind (cls_at c x1 ?_)
      simp only [Bool.false_eq_true, if_false]
      exact wpAny_pure ⟨rfl, rfl, hm2⟩
  case fin =>
    rintro ⟨r1, r2⟩ s1 ⟨hr, rfl, _⟩
    simp only at hr
    subst hr
    exact wpAny_pure q
end
end XT
set_option Elab.async false
set_option linter.all false
set_option maxRecDepth 100000
set_option maxHeartbeats 4000000
/-! the search for a tuple in such a set -/
namespace XT
open PySem PySem.Spec PyProof.Rows L2
section
variable {P : Program} {w : World} {K : Type} [DecidableEq K] {knd : PySem.KeyKind P w K} {A : Around} {E : Value → Shared → Prop} {s : Shared}
def entries (knd : PySem.KeyKind P w K) (L : List (Addr × List K)) : List (Int × Value) := L.map fun e => (Hs knd e.2, .ref e.1)
def hashes (knd : PySem.KeyKind P w K) (L : List (Addr × List K)) : List Int := L.map fun e => Hs knd e.2
/-- at a a set whose elements are the tuples of L, told by their addresses and keys -/
structure Tset (knd : PySem.KeyKind P w K) (h : Heap) (a : Addr) (L : List (Addr × List K)) (es : Array (Int × Value)) (ep : Nat) (t : SetTable) : Prop where
  obj : ∃ o, h.get? a = some o ∧ o.ExactSet ∧ o.data = .set es ep t
  ents : es.toList = entries knd L
  tab : TabOk t (hashes knd L)
  once : (L.map Prod.snd).Nodup
  here : ∀ e ∈ L, At knd h e.2 e.1
  led : w.params.followText "set-order" = true ∨ t.led = true
  room : L.length * 5 < t.mask * 3
  few : L.length < 76
variable {a : Addr} {L : List (Addr × List K)} {es : Array (Int × Value)} {ep : Nat} {t : SetTable}
theorem ents_len (h : es.toList = entries knd L) : es.size = L.length := by
  have := congrArg List.length h
  simpa only [entries, Array.length_toList, List.length_map] using this
theorem ents_at (h : es.toList = entries knd L) {i : Nat} {e : Addr × List K} (hi : L[i]? = some e) : es[i]? = some (Hs knd e.2, Value.ref e.1) := by
  have := congrArg (fun l => l[i]?) h
  simpa only [Array.getElem?_toList, entries, List.getElem?_map, hi, Option.map_some] using this
theorem fits_of (h1 : t.place.size = es.size) (h2 : t.dummies = #[]) (h3 : es.size ≤ t.mask) : t.fits es.size = true := by
  simp only [SetTable.fits, SetTable.fill, h2, Bool.and_eq_true, beq_iff_eq, decide_eq_true_eq]
  exact ⟨h1, by simpa [h1] using h3⟩
theorem Tset.place (R : Tset knd s.heap a L es ep t) : t.place.size = L.length := by
  have := R.tab.sz
  simpa only [hashes, List.length_map] using this
theorem Tset.fits (R : Tset knd s.heap a L es ep t) : t.fits es.size = true :=
  fits_of (by rw [R.place, ents_len R.ents]) R.tab.dm (by have := R.room; rw [ents_len R.ents]; omega)
theorem Tset.keeps_way (R : Tset knd s.heap a L es ep t) : ¬ t.gaveWay = true := by
  simp only [SetTable.gaveWay, mask_odd R.tab.mok]
  decide
/-- the c-th step of a hash's way -/
abbrev stepN (m : Nat) (h : Int) (c : Nat) : SetTable.Probe := nth m (runAt m (SetTable.bits h % (m + 1)) (SetTable.bits h)) c
theorem step_more (m : Nat) (h : Int) (c q : Nat) : nth m (stepN m h c) q = stepN m h (c + q) := (nth_add m c _ q).symm
theorem step_way (m : Nat) (h : Int) (c : Nat) : (stepN m h c).j = way m h c := rfl
theorem no_dummy (m : Nat) : ∀ (n : Nat) (p : SetTable.Probe), p.dummy = none → (nth m p n).dummy = none
  | 0, _, h => h
  | n + 1, p, h => no_dummy m n (adv m p) (by unfold adv; split <;> exact h)
/-- from the c-th step on; D steps are left up to the empty slot -/
theorem look (R : Tset knd s.heap a L es ep t) (cm : Calm knd) {x : Addr} {k : List K} (hx : At knd s.heap k x) (hu : A.units < cLine) {Z : Nat} (hZ : Z < 10 * SetTable.turns t.mask)
    (z1 : way t.mask (Hs knd k) Z ∉ t.place.toList) (z2 : ∀ c, c < Z → way t.mask (Hs knd k) c ∈ t.place.toList) {Q : SetFound → Shared → Prop}
    {ad : Bool} (q1 : k ∈ L.map Prod.snd → ∀ r : Option Nat, r.isSome = !ad → Q (.there r) s) (q2 : k ∉ L.map Prod.snd → Q (.free (way t.mask (Hs knd k) Z) false) s) :
    ∀ (f c : Nat) (stand : Option SetTable.Probe), stand.getD (t.probeStart (Hs knd k)) = stepN t.mask (Hs knd k) c → c ≤ Z → Z < f + c →
      (∀ (i : Nat) (e : Addr × List K), L[i]? = some e → e.2 = k → ∃ d, c ≤ d ∧ d < Z ∧ t.place.toList[i]? = some (way t.mask (Hs knd k) d)) →
      wpAny (model P w) A (setSearchFrom a (.ref x) (Hs knd k) ad f stand) Q E s := by
  obtain ⟨ob, o1, o2, o3⟩ := R.obj
  intro f
  induction f with
  | zero => intro c stand _ h1 h2; omega
  | succ f ih =>
    intro c stand hst h1 h2 hall
    rw [setSearchFrom_succ]
    refine wpAny_bind (wpAny_setState_of o1 o3 R.fits ?_)
    dsimp only
    refine wp_if_neg R.keeps_way ?_
    try refine wpAny_bind (wpAny_pure ?_)
    have hashes_at : ∀ (i : Nat) (e : Addr × List K), L[i]? = some e → (es[i]?.map (·.1)).getD 0 = Hs knd e.2 := fun i e h => by rw [ents_at R.ents h] <;> rfl
    have W : ∀ q, (nth t.mask (stepN t.mask (Hs knd k) c) q).j = way t.mask (Hs knd k) (c + q) := fun q => by rw [step_more]
    have found := go_spec t R.tab.ris R.tab.dm (fun i => (es[i]?.map (·.1)).getD 0) (Hs knd k) (10 * SetTable.turns t.mask) (Z - c) (stepN t.mask (Hs knd k) c) (no_dummy _ c _ rfl) (by omega)
      (fun q hq => by rw [W]; exact z2 _ (by omega)) (by rw [W, Nat.add_sub_cancel' h1]; exact z1)
    -- none of k's own is passed unseen
    have unpassed : ∀ (lim : Nat), (∀ (q i : Nat), q < lim → t.place.toList[i]? = some (nth t.mask (stepN t.mask (Hs knd k) c) q).j → (es[i]?.map (·.1)).getD 0 ≠ Hs knd k) → ∀ (i : Nat) (e : Addr × List K), L[i]? = some e → e.2 = k → ∀ d, c ≤ d → d < c + lim → t.place.toList[i]? ≠ some (way t.mask (Hs knd k) d) := by
      intro lim hno i e hi hk d d1 d2 hp
      refine hno (d - c) i (by omega) (by rw [W, Nat.add_sub_cancel' d1]; exact hp) ?_
      rw [hashes_at i e hi, hk]
    rcases found with ⟨q, i, hq, hi, hh, hno, hpr⟩ | ⟨hno, hpr⟩
    · have probe : t.probe (fun i => (es[i]?.map (·.1)).getD 0) (Hs knd k) (stand.getD (t.probeStart (Hs knd k))) = some (.candidate (way t.mask (Hs knd k) (c + q)) i (stepN t.mask (Hs knd k) (c + (q + 1)))) := by
        rw [hst, ← W, ← step_more]
        exact hpr
      rw [probe]
      dsimp only
      rw [W] at hi
      have il : i < L.length := by
        have := (List.getElem?_eq_some_iff.mp hi).1
        rw [Array.length_toList, R.place] at this
        exact this
      obtain ⟨e, he⟩ : ∃ e, L[i]? = some e := ⟨L[i], List.getElem?_eq_getElem il⟩
      have em := List.mem_of_getElem? he
      have behind : wpAny (model P w) A (searchRest a (.ref x) (Hs knd k) ad f es t (way t.mask (Hs knd k) (c + q)) i (stepN t.mask (Hs knd k) (c + (q + 1)))) Q E s := by
        unfold searchRest
        rw [ents_at R.ents he]
        dsimp only
        refine wpAny_bind (wpAny_holding (wpAny_eqBool_tuple hu (R.here e em) hx (wpAny_bind (wpAny_setState_of o1 o3 R.fits ?_))))
        dsimp only
        by_cases same : e.2 = k
        · have kin := q1 (List.mem_map.mpr ⟨e, em, same⟩)
          cases ad with
          | true => exact wp_if_pos (by simp [same]) (wpAny_pure (kin none rfl))
          | false =>
            refine wp_if_neg (by simp) ?_
            try refine wpAny_bind (wpAny_pure ?_)
            rw [sameMem]
            dsimp only
            have live := slot_live R.tab.ris hi
            simp only [if_true, live, ents_at R.ents he]
            refine wpAny_bind (wpAny_isSame_ref_self (wpAny_bind (wpAny_pure ?_)))
            simp only [if_true]
            exact wp_if_pos (by simp [same]) (wpAny_pure (kin _ rfl))
        · refine wp_if_neg (by simp [same]) ?_
          try refine wpAny_bind (wpAny_pure ?_)
          rw [sameMem]
          dsimp only
          have live := slot_live R.tab.ris hi
          simp only [if_true, live, ents_at R.ents he]
          refine wpAny_bind (wpAny_isSame_ref_self (wpAny_bind (wpAny_pure ?_)))
          simp only [if_true]
          refine wp_if_neg (by simp [same]) ?_
          refine ih (c + (q + 1)) (some (stepN t.mask (Hs knd k) (c + (q + 1)))) rfl (by omega) (by omega) fun i1 e1 hi1 hk1 => ?_
          obtain ⟨d, d1, d2, d3⟩ := hall i1 e1 hi1 hk1
          refine ⟨d, ?_, d2, d3⟩
          rcases Nat.lt_trichotomy d (c + q) with y | y | y
          · exact absurd d3 (unpassed q hno i1 e1 hi1 hk1 d d1 y)
          · subst y
            have l2 := slot_live R.tab.ris d3
            rw [live] at l2
            cases l2
            rw [he] at hi1
            cases hi1
            exact absurd hk1 same
          · omega
      by_cases hl : t.led = true
      · refine wp_if_neg (by simp [hl]) ?_
        try refine wpAny_bind (wpAny_pure ?_)
        exact behind
      · refine wp_if_pos (by simp [hl]) (wpAny_bind (unseen cm hx (fun y hy => ?_) (wp_if_neg (by decide) ?_)))
        · obtain ⟨v, hv, rfl⟩ := List.mem_map.mp hy
          have hv1 : v ∈ es.toList := by
            have : v ∈ es ∧ v.1 = Hs knd k := by simpa using hv
            simpa using this.1
          rw [R.ents] at hv1
          obtain ⟨e1, he1, rfl⟩ := List.mem_map.mp hv1
          exact ⟨e1.2, e1.1, rfl, R.here e1 he1⟩
        · try refine wpAny_bind (wpAny_pure ?_)
          exact behind
    · have probe : t.probe (fun i => (es[i]?.map (·.1)).getD 0) (Hs knd k) (stand.getD (t.probeStart (Hs knd k))) = some (.empty (way t.mask (Hs knd k) Z) none) := by
        have e2 := W (Z - c)
        rw [Nat.add_sub_cancel' h1] at e2
        rw [hst, ← e2]
        exact hpr
      rw [probe]
      dsimp only
      refine wpAny_pure (q2 fun hm => ?_)
      obtain ⟨e, he, hk⟩ := List.mem_map.mp hm
      obtain ⟨i, hi⟩ := List.getElem?_of_mem he
      obtain ⟨d, d1, d2, d3⟩ := hall i e hi hk
      exact unpassed (Z - c) hno i e hi hk d d1 (by omega) d3
/-- as adding asks -/
theorem look0 (R : Tset knd s.heap a L es ep t) (cm : Calm knd) {x : Addr} {k : List K} (hx : At knd s.heap k x) (hu : A.units < cLine) {Q : SetFound → Shared → Prop}
    {ad : Bool} (q1 : k ∈ L.map Prod.snd → ∀ r : Option Nat, r.isSome = !ad → Q (.there r) s)
    (q2 : ∀ Z, k ∉ L.map Prod.snd → way t.mask (Hs knd k) Z ∉ t.place.toList → (∀ c, c < Z → way t.mask (Hs knd k) c ∈ t.place.toList) → Q (.free (way t.mask (Hs knd k) Z) false) s) :
    wpAny (model P w) A (setSearch a (.ref x) (Hs knd k) ad) Q E s := by
  obtain ⟨Z, hZ, z1, z2⟩ := R.tab.first (by have := R.room; simp only [hashes, List.length_map]; omega) (Hs knd k)
  have small : Z < 100000 := by
    have : SetTable.turns t.mask ≤ 142 := by
      unfold SetTable.turns
      rcases R.tab.mok with e | e | e <;> omega
    omega
  unfold setSearch
  refine look R cm hx hu hZ z1 z2 q1 (fun n => q2 Z n z1 z2) 100000 0 none rfl (Nat.zero_le _) (by omega) fun i e hi hk => ?_
  have ilt : i < t.place.toList.length := by
    rw [Array.length_toList, R.place]
    exact (List.getElem?_eq_some_iff.mp hi).1
  obtain ⟨d, d1, d2⟩ := R.tab.before z1 (show (hashes knd L)[i]? = some (Hs knd k) by rw [hashes, List.getElem?_map, hi, ← hk] <;> rfl) (List.getElem?_eq_getElem ilt)
  exact ⟨d, Nat.zero_le _, d1, by rw [List.getElem?_eq_getElem ilt, d2]⟩
end
end XT
set_option Elab.async false
set_option linter.all false
set_option maxRecDepth 100000
set_option maxHeartbeats 4000000
/-! such a set laid anew, one put in, one looked for -/
namespace XT
open PySem PySem.Spec PyProof.Rows L2
section
variable {P : Program} {w : World} {K : Type} [DecidableEq K] {knd : PySem.KeyKind P w K} {A : Around} {E : Value → Shared → Prop} {s : Shared}
variable {a : Addr} {L : List (Addr × List K)} {es : Array (Int × Value)} {ep : Nat} {t : SetTable}
theorem at_still {h h' : Heap} {k : List K} {b : Addr} {o : Obj} (x : At knd h k b) (ho : h.get? a = some o) (hd : o.data = .set es ep t) (sb : Heap.SameBut a h h') : At knd h' k b := by
  obtain ⟨o1, its, m, g1, g2, g3, g4⟩ := x
  refine ⟨o1, its, m, (sb.2 b ?_).trans g1, g2, g3, g4⟩
  intro z
  subst z
  rw [ho] at g1
  cases g1
  rw [hd] at g3
  cases g3
/-- the elements told in another sequence of places -/
theorem told_anew (order : Array Nat) (h : es.toList = entries knd L) (hp : order.toList.Perm (List.range L.length)) :
    ∃ M : List (Addr × List K), (order.filterMap (es[·]?)).toList = entries knd M ∧ M.Perm L ∧ hashes knd M = order.toList.map fun i => (es.map (·.1)).getD i 0 := by
  refine ⟨order.toList.filterMap (L[·]?), ?_, ?_, ?_⟩
  · have g : ∀ l : List Nat, l.filterMap (es[·]?) = entries knd (l.filterMap (L[·]?)) := by
      intro l
      induction l with
      | nil => rfl
      | cons i l ih =>
        cases hi : L[i]? with
        | some e =>
          rw [List.filterMap_cons_some (ents_at h hi), List.filterMap_cons_some hi, ih]
          rfl
        | none =>
          have hn : es[i]? = none := by
            rw [Array.getElem?_eq_none_iff, ents_len h]
            exact List.getElem?_eq_none_iff.mp hi
          rw [List.filterMap_cons_none hn, List.filterMap_cons_none hi, ih]
    first
      | rw [Array.toList_filterMap, g]
      | simpa using g order.toList
  · have all : (List.range L.length).filterMap (L[·]?) = L := by
      refine List.ext_getElem? fun i => ?_
      have key : ∀ n, n ≤ L.length → (List.range n).filterMap (L[·]?) = L.take n := by
        intro n
        induction n with
        | zero => exact fun _ => rfl
        | succ n ih =>
          intro hn
          rw [List.range_succ, List.filterMap_append, ih (by omega), List.filterMap_cons_some (List.getElem?_eq_getElem (by omega : n < L.length)), List.filterMap_nil, List.take_add_one, List.getElem?_eq_getElem (by omega : n < L.length)]
          rfl
      rw [key _ (Nat.le_refl _), List.take_length]
    have pm := hp.filterMap (L[·]?)
    rw [all] at pm
    exact pm
  · have g : ∀ l : List Nat, (∀ i ∈ l, i < L.length) → hashes knd (l.filterMap (L[·]?)) = l.map fun i => (es.map (·.1)).getD i 0 := by
      intro l
      induction l with
      | nil => exact fun _ => rfl
      | cons i l ih =>
        intro hl
        have hi := hl i (List.mem_cons_self ..)
        have e1 := List.getElem?_eq_getElem hi
        rw [List.filterMap_cons_some e1, List.map_cons, ← ih fun j hj => hl j (List.mem_cons_of_mem _ hj)]
        have e2 : (es.map (·.1)).getD i 0 = Hs knd (L[i]).2 := by
          rw [Array.getD_eq_getD_getElem?, Array.getElem?_map, ents_at h e1] <;> rfl
        rw [e2] <;> rfl
    exact g _ fun i hi => List.mem_range.mp (hp.mem_iff.mp hi)
theorem relay (o : Obj) (ho : s.heap.get? a = some o) (hex : o.ExactSet) (hd : o.data = .set es ep t) (he : es.toList = entries knd L) (hs : t.place.size = es.size) (hm : t.dummies = #[]) (hf : es.size ≤ t.mask)
    (h1 : (L.map Prod.snd).Nodup) (h2 : ∀ e ∈ L, At knd s.heap e.2 e.1) (h4 : w.params.followText "set-order" = true ∨ t.led = true) (h5 : L.length < 76) {n M : Nat}
    (w1 : SetTable.sizeAbove n - 1 = M) (w2 : MaskOk M) (w3 : SetTable.sizeAbove n ≤ 128) (w4 : L.length * 5 < M * 3) {Q : Unit → Shared → Prop}
    (q : ∀ h' L' es' ep' t', Heap.SameBut a s.heap h' → Tset knd h' a L' es' ep' t' → L'.Perm L → Q () { s with heap := h' }) : wpAny (model P w) A (setRelay a n) Q E s := by
  have len := ents_len he
  obtain ⟨t2, order, r1, r2, r3, r4, r5, r6, r7⟩ := relaid_ok t (hs := es.map (·.1)) (wanted := n) w1 w2 (by rw [Array.size_map, len]; omega)
  rw [Array.size_map, len] at r2
  obtain ⟨N, n1, n2, n3⟩ := told_anew order he r2
  have size2 : (order.filterMap (es[·]?)).size = es.size := by rw [ents_len n1, n2.length_eq, len]
  rw [setRelay_eq]
  refine wpAny_bind (wpAny_setState_of ho hd (fits_of hs hm hf) ?_)
  dsimp only
  refine wp_if_neg (by rw [sizeLine_eq]; omega) ?_
  try refine wpAny_bind (wpAny_pure ?_)
  rw [r1]
  dsimp only
  refine wpAny_bind (wp_if_neg (by rw [size2]; simp) ?_)
  try refine wpAny_bind (wpAny_pure ?_)
  refine wpAny_pure ?_
  dsimp only
  refine wpAny_storeSet_of ho hd ?_ (by rw [size2, len, sizeLine_eq]; omega)
  have sb : Heap.SameBut a s.heap (s.heap.update a (Obj.putSet (order.filterMap (es[·]?)) t2)) := Heap.SameBut.update ..
  refine q _ N _ (ep + 1) t2 sb ⟨⟨_, store_at ho hd, ⟨hex.1, hex.2.1, hex.2.2⟩, rfl⟩, n1, by rw [n3]; exact r3, (n2.map _).nodup_iff.mpr h1, fun e he => at_still (h2 e (n2.mem_iff.mp he)) ho hd sb, by rw [r5]; exact h4, by rw [n2.length_eq, r4]; exact w4, by rw [n2.length_eq]; exact h5⟩ n2
/-- what adding (x, k) leaves -/
def Added (L : List (Addr × List K)) (x : Addr) (k : List K) (L' : List (Addr × List K)) : Prop := (k ∈ L.map Prod.snd → L' = L) ∧ (k ∉ L.map Prod.snd → L'.Perm ((x, k) :: L))
theorem put_in (R : Tset knd s.heap a L es ep t) (cm : Calm knd) {x : Addr} {k : List K} (hx : At knd s.heap k x) (hu : A.units < cLine) (few : L.length + 1 < 76) {Q : Bool → Shared → Prop}
    (q : ∀ b h' L' es' ep' t', Heap.SameBut a s.heap h' → Tset knd h' a L' es' ep' t' → Added L x k L' → Q b { s with heap := h' }) : wpAny (model P w) A (setAddHashed a (.ref x) (Hs knd k)) Q E s := by
  obtain ⟨ob, o1, o2, o3⟩ := R.obj
  have len := ents_len R.ents
  have room := R.room
  unfold setAddHashed
  refine wpAny_holding ?_
  rw [show (100000 : Nat) = 99999 + 1 from rfl, setAddHashedIn_succ]
  refine wpAny_bind (wpAny_setState_of o1 o3 R.fits ?_)
  dsimp only
  refine wp_if_neg (by simp [byScan, Value.scannable]) ?_
  try refine wpAny_bind (wpAny_pure ?_)
  refine wpAny_bind (look0 R cm hx hu (ad := true) (fun m r hr => ?_) fun Z m z1 z2 => ?_)
  · dsimp only
    exact wpAny_pure (q false s.heap L es ep t (Heap.SameBut.refl a s.heap) R ⟨fun _ => rfl, fun z => absurd m z⟩)
  dsimp only
  refine wpAny_bind (wpAny_setState_of o1 o3 R.fits ?_)
  dsimp only
  obtain ⟨p1, p2, p3, p4, p5, p6, p7, p8, p9⟩ := R.tab.put z1 z2
  generalize hg : t.put (way t.mask (Hs knd k) Z) = both at p1 p3 p4 p5 p6 p7 p8 p9 ⊢
  obtain ⟨t1, at_⟩ := both
  dsimp only at p1 p3 p4 p5 p6 p7 p8 p9 ⊢
  subst p1
  have leaf : ∀ t2 : SetTable, t2.place = t1.place → t2.mask = t1.mask → t2.dummies = t1.dummies → t2.led = t1.led → wpAny (model P w) A (do
      storeSet a (SetTable.insertAt es (SetTable.below t.place (way t.mask (Hs knd k) Z)) (Hs knd k, Value.ref x)) t2
      if (!false && t2.tooFull) = true then do
        setRelay a (SetTable.grown (es.size + 1))
        pure true
      else pure true) Q E s := ?leaf
  case leaf =>
    intro t2 y1 y2 y3 y4
    have p3 : TabOk t2 ((hashes knd L).take (SetTable.below t.place (way t.mask (Hs knd k) Z)) ++ Hs knd k :: (hashes knd L).drop (SetTable.below t.place (way t.mask (Hs knd k) Z))) := ⟨by rw [y1]; exact p3.ris, by rw [y3]; exact p3.dm, by rw [y1]; exact p3.sz, by rw [y2]; exact p3.mok, by rw [y1, y2]; exact p3.bd, by rw [y1, y2]; exact p3.reach⟩
    have p4 : t2.mask = t.mask := y2.trans p4
    have p5 : t2.led = t.led := y4.trans p5
    have p9 : t2.fill = (hashes knd L).length + 1 := by
      rw [← p9]
      unfold SetTable.fill
      rw [y1, y3]
    obtain ⟨L1, hL1⟩ : ∃ L1, L1 = L.take (SetTable.below t.place (way t.mask (Hs knd k) Z)) ++ (x, k) :: L.drop (SetTable.below t.place (way t.mask (Hs knd k) Z)) := ⟨_, rfl⟩
    have pm : L1.Perm ((x, k) :: L) := by
      have g : (L.take (SetTable.below t.place (way t.mask (Hs knd k) Z)) ++ (x, k) :: L.drop (SetTable.below t.place (way t.mask (Hs knd k) Z))).Perm _ := List.perm_middle
      rw [List.take_append_drop] at g
      rw [hL1]
      exact g
    have ent2 : (SetTable.insertAt es (SetTable.below t.place (way t.mask (Hs knd k) Z)) (Hs knd k, Value.ref x)).toList = entries knd L1 := by
      rw [SetTable.toList_insertAt, R.ents, hL1]
      simp only [entries, List.map_append, List.map_cons, List.map_take, List.map_drop]
    have hs1 : hashes knd L1 = (hashes knd L).take (SetTable.below t.place (way t.mask (Hs knd k) Z)) ++ Hs knd k :: (hashes knd L).drop (SetTable.below t.place (way t.mask (Hs knd k) Z)) := by
      rw [hL1]
      simp only [hashes, List.map_append, List.map_cons, List.map_take, List.map_drop]
    rw [← hs1] at p3
    clear hs1 hL1
    have l1 : L1.length = L.length + 1 := pm.length_eq
    have once1 : (L1.map Prod.snd).Nodup := (pm.map _).nodup_iff.mpr (List.nodup_cons.mpr ⟨m, R.once⟩)
    have fill1 : t2.fill = L.length + 1 := by rw [p9, hashes, List.length_map]
    generalize SetTable.insertAt es (SetTable.below t.place (way t.mask (Hs knd k) Z)) (Hs knd k, Value.ref x) = es1 at ent2 ⊢
    have len1 : es1.size = L.length + 1 := (ents_len ent2).trans l1
    refine wpAny_bind (wpAny_storeSet_of o1 o3 ?_ (by rw [len1, sizeLine_eq]; omega))
    have sb : Heap.SameBut a s.heap (s.heap.update a (Obj.putSet es1 t2)) := Heap.SameBut.update ..
    have so := store_at (es' := es1) (t' := t2) o1 o3
    generalize s.heap.update a (Obj.putSet es1 t2) = h1 at sb so ⊢
    have here1 : ∀ e ∈ L1, At knd h1 e.2 e.1 := fun e he => by
      rcases List.mem_cons.mp (pm.mem_iff.mp he) with z | z
      · subst z
        exact at_still hx o1 o3 sb
      · exact at_still (R.here e z) o1 o3 sb
    have led1 : w.params.followText "set-order" = true ∨ t2.led = true := by rw [p5]; exact R.led
    have place1 : t2.place.size = es1.size := by
      have g := p3.sz
      rw [hashes, List.length_map, l1] at g
      rw [g, len1]
    by_cases full : t2.tooFull = true
    · have over : (L.length + 1) * 5 ≥ t2.mask * 3 := by
        have g := full
        unfold SetTable.tooFull at g
        rw [decide_eq_true_eq, fill1] at g
        exact g
      first
        | refine wpAny_bind (wp_if_pos (by simp [full]) ?_)
        | refine wp_if_pos (by simp [full]) (wpAny_bind ?_)
      rw [len]
      have more : ∀ M, SetTable.sizeAbove (SetTable.grown (L.length + 1)) - 1 = M → MaskOk M → SetTable.sizeAbove (SetTable.grown (L.length + 1)) ≤ 128 → (L.length + 1) * 5 < M * 3 → L.length + 1 ≤ t.mask →
          wpAny (model P w) A (setRelay a (SetTable.grown (L.length + 1))) (fun _ s' => wpAny (model P w) A (pure true) Q E s') E { s with heap := h1 } := fun M m1 m2 m3 m4 m5 =>
        relay (s := { s with heap := h1 }) _ so ⟨o2.1, o2.2.1, o2.2.2⟩ rfl ent2 place1 p3.dm (by rw [len1, p4]; exact m5) once1 here1 led1 (by rw [l1]; exact few) m1 m2 m3 (by rw [l1]; exact m4)
          fun h2 L2 es2 ep2 t2 sb2 R2 pm2 => wpAny_pure (q true h2 L2 es2 ep2 t2 (sb.trans sb2) R2 ⟨fun z => absurd z m, fun _ => pm2.trans pm⟩)
      rw [p4] at over
      rcases R.tab.mok with e | e | e
      · have e2 : L.length = 4 := by rw [e] at over room; omega
        rw [e2] at more ⊢
        exact more 31 (by rw [size_20]) (.inr (.inl rfl)) (by rw [size_20]; decide) (by omega) (by rw [e]; decide)
      · have e2 : L.length = 18 := by rw [e] at over room; omega
        rw [e2] at more ⊢
        exact more 127 (by rw [size_76]) (.inr (.inr rfl)) (by rw [size_76]; decide) (by omega) (by rw [e]; decide)
      · rw [e] at over
        omega
    · have under : ¬ (L.length + 1) * 5 ≥ t2.mask * 3 := by
        have g := full
        unfold SetTable.tooFull at g
        rw [decide_eq_true_eq, fill1] at g
        exact g
      have fin := q true h1 L1 es1 (ep + 1) t2 sb ⟨⟨_, so, ⟨o2.1, o2.2.1, o2.2.2⟩, rfl⟩, ent2, p3, once1, here1, led1, by rw [l1]; omega, by rw [l1]; exact few⟩ ⟨fun z => absurd z m, fun _ => pm⟩
      first
        | exact wp_if_neg (by simp [full]) (wpAny_pure fin)
        | exact wpAny_bind (wp_if_neg (by simp [full]) (wpAny_pure (wpAny_pure fin)))
  by_cases c : t1.plain = true
  · first
      | refine wpAny_bind (wp_if_pos c (byv_at cm hx fun r => ?_))
      | refine wp_if_pos c (wpAny_bind (byv_at cm hx fun r => ?_))
    cases r with
    | true => exact leaf t1 rfl rfl rfl rfl
    | false => exact leaf { t1 with plain := false } rfl rfl rfl rfl
  · first
      | refine wpAny_bind (wp_if_neg c (wpAny_pure ?_))
      | refine wp_if_neg c (wpAny_bind (wpAny_pure ?_))
    exact leaf t1 rfl rfl rfl rfl
/-- whether it is in -/
theorem find_in (R : Tset knd s.heap a L es ep t) (cm : Calm knd) {x : Addr} {k : List K} (hx : At knd s.heap k x) (hu : A.units < cLine) {Q : Option Nat → Shared → Prop}
    (q : ∀ r : Option Nat, (r.isSome = true ↔ k ∈ L.map Prod.snd) → Q r s) : wpAny (model P w) A (setFind a (.ref x) (Hs knd k)) Q E s := by
  obtain ⟨ob, o1, o2, o3⟩ := R.obj
  unfold setFind
  rw [show (100000 : Nat) = 99999 + 1 from rfl]
  unfold setFindIn
  refine wpAny_bind (wpAny_setState_of o1 o3 R.fits ?_)
  dsimp only
  refine wp_if_neg (by simp [byScan, Value.scannable]) ?_
  try refine wpAny_bind (wpAny_pure ?_)
  refine wpAny_bind (look0 R cm hx hu (ad := false) (fun m r hr => ?_) fun Z m z1 z2 => ?_)
  · dsimp only
    exact wpAny_pure (q r ⟨fun _ => m, fun _ => hr⟩)
  · dsimp only
    exact wpAny_pure (q none ⟨fun z => Bool.noConfusion z, fun z => absurd z m⟩)
end
end XT
set_option Elab.async false
set_option linter.all false
set_option maxRecDepth 100000
set_option maxHeartbeats 4000000
/-! set(), add, in of sets of tuples, over the layer -/
namespace XT
open PySem PySem.Spec PyProof.Rows L2
theorem calm_mix {P : Program} {w : World} : Calm (mixKind P w) := ⟨fun {k v} n h => by
    rcases keyIs_shape (show keyIs k v = true from h) with ⟨i, t, e1, e2⟩ | ⟨x, t, e1, e2⟩ <;> subst e2 <;> cases n <;> rfl,
  fun {k v} n h => by
    rcases keyIs_shape (show keyIs k v = true from h) with ⟨i, t, e1, e2⟩ | ⟨x, t, e1, e2⟩ <;> subst e2
    · exact ⟨true, by cases n <;> rfl⟩
    · exact ⟨false, by cases n <;> rfl⟩⟩
section
variable {P : Program} {w : World} {A : Around} {E : Value → Shared → Prop} {s : Shared} {a : Addr} {L : List (Addr × List Key)} {es : Array (Int × Value)} {ep : Nat} {t : SetTable}
def memB (k : List Key) (L : List (Addr × List Key)) : Bool := (L.map Prod.snd).any fun j => decide (j = k)
theorem memB_iff {k : List Key} {L : List (Addr × List Key)} : memB k L = true ↔ k ∈ L.map Prod.snd := by
  unfold memB
  rw [List.any_eq_true]
  exact ⟨fun ⟨j, h1, h2⟩ => of_decide_eq_true h2 ▸ h1, fun h => ⟨k, h, decide_eq_true rfl⟩⟩
/-- the set's own object, without its elements -/
def Bare (P : Program) (w : World) (h : Heap) (a : Addr) (L : List (Addr × List Key)) : Prop := ∃ (es : Array (Int × Value)) (ep : Nat) (t : SetTable), (∃ o, h.get? a = some o ∧ o.ExactSet ∧ o.data = .set es ep t) ∧ es.toList = entries (mixKind P w) L ∧ TabOk t (hashes (mixKind P w) L) ∧
  (L.map Prod.snd).Nodup ∧ (w.params.followText "set-order" = true ∨ t.led = true) ∧ L.length * 5 < t.mask * 3 ∧ L.length < 76
def TSO (P : Program) (w : World) (a : Addr) (L : List (Addr × List Key)) : HO := .ext fun h => Bare P w h a L
theorem Tset.bare (R : Tset (mixKind P w) s.heap a L es ep t) : Bare P w s.heap a L := ⟨es, ep, t, R.obj, R.ents, R.tab, R.once, R.led, R.room, R.few⟩
theorem bare_ok {H : Hp} {h : Heap} (R : Bare P w h a L) : ObjOk P w H h a (TSO P w a L) := by
  have ⟨_, _, _, ⟨o, ho, _⟩, _⟩ := R
  refine ⟨R, ⟨o, ho⟩, fun h1 h2 p k => ?_⟩
  have ⟨es, ep, t, ⟨o1, g, r⟩, q⟩ := (show Bare P w h1 a L from p)
  exact ⟨es, ep, t, ⟨o1, k o1 g, r⟩, q⟩
theorem fresh_bare {h : Heap} (ho : h.get? a = some { cls := .type "set", dict := none, data := .set #[] 0 (.fresh 0 0 (!w.params.followText "set-order")) }) : Bare P w h a [] := by
  refine ⟨#[], 0, _, ⟨_, ho, ⟨rfl, rfl, rfl⟩, rfl⟩, rfl, ⟨List.Pairwise.nil, rfl, rfl, .inl rfl, fun x z => (by cases z), fun i h j z => (by cases z)⟩, List.nodup_nil, ?_, (by show 0 * 5 < 7 * 3; decide), (by show 0 < 76; decide)⟩
  show _ ∨ (!w.params.followText "set-order") = true
  cases w.params.followText "set-order" <;> simp
theorem set_type (R : Tset (mixKind P w) s.heap a L es ep t) : s.TypeIs (.ref a) "set" := let ⟨o, ho, hc, _⟩ := R.obj; ⟨o, ho, hc.1⟩
theorem add_tup (R : Tset (mixKind P w) s.heap a L es ep t) {b : Addr} {k : List Key} (x : At (mixKind P w) s.heap k b) (hu : A.in1.units < cLine) (few : L.length + 1 < 76) {Q : Value → Shared → Prop}
    (q : ∀ h' L' es' ep' t' n, Heap.SameBut a s.heap h' → Tset (mixKind P w) h' a L' es' ep' t' → Added L b k L' → Q .none { s with heap := h', toks := n }) : wpAny (model P w) A (call (.builtin "set.add") [.ref a, .ref b]) Q E s := by
  refine wpAny_call_entry F.slot_set_add (set_type R) F.entry_set_add ?_ (F.args_set_add_2 _ _)
  unfold Builtin.«set.add» Builtin.Frozenset.oneOther
  simp only [List.isEmpty_nil, bind_assoc]
  unfold Builtin.Frozenset.addrOf setAdd
  refine wpAny_bind (wpAny_pure ?_)
  try dsimp only
  refine wpAny_bind (wpAny_pure ?_)
  try dsimp only
  refine wpAny_bind (wpAny_holding (wpAny_bind (wpAny_pyHash_tuple hu x ?_)))
  refine put_in (s := { s with toks := s.toks + (k.length + 1) }) R calm_mix x hu few fun c h' L' es' ep' t' sb R' ad => ?_
  change wpAny _ _ (ret Value.none) _ _ _
  exact wpAny_pure ⟨_, rfl, q h' L' es' ep' t' _ sb R' ad⟩
theorem in_tup (R : Tset (mixKind P w) s.heap a L es ep t) {b : Addr} {k : List Key} (x : At (mixKind P w) s.heap k b) (hu : A.in1.units < cLine) {Q : Value → Shared → Prop}
    (q : ∀ n, Q (.bool (memB k L)) { s with toks := n }) : wpAny (model P w) A (compareOp .In (.ref b) (.ref a)) Q E s := by
  change wpAny _ _ (do return .bool (← contains (.ref a) (.ref b))) Q E s
  refine wpAny_bind ?_
  unfold contains
  try with_reducible refine wpAny_holding ?_
  have ty := set_type R
  refine wpAny_bind (wpAny_specialOf ty F.slot_set_contains.lookup ?_)
  change wpAny _ _ (if (some (Value.builtin "set.__contains__") == some Value.none) = true then _ else _) _ E s
  rw [if_neg (by rw [beq_builtin_none]; exact Bool.false_ne_true)]
  refine wpAny_bind (wpAny_callSpecialUnlessNone?_slot (name := Str.ofString "__contains__") ty F.slot_set_contains (wpAny_call_entry F.slot_set_contains ty entry_set_contains ?_ (F.args_set_contains_2 _ _)))
  unfold Builtin.«frozenset.__contains__» Builtin.Frozenset.oneOther
  simp only [List.isEmpty_nil, bind_assoc]
  unfold Builtin.Frozenset.addrOf Builtin.Frozenset.withSetAsKey setContains
  refine wpAny_bind (wpAny_pure ?_)
  try dsimp only
  refine wpAny_bind (wpAny_pure ?_)
  try dsimp only
  refine wpAny_bind (wpAny_tryCatch (wpAny_holding (wpAny_bind (wpAny_pyHash_tuple hu x ?_))))
  refine wpAny_bind (find_in (s := { s with toks := s.toks + (k.length + 1) }) R calm_mix x hu fun r hr => ?_)
  refine wpAny_pure ?_
  change wpAny _ _ (ret (Value.bool r.isSome)) _ _ _
  have er : r.isSome = memB k L := by rw [Bool.eq_iff_iff, hr, memB_iff]
  rw [er]
  exact wpAny_pure ⟨_, rfl, wpAny_truthy_bool (wpAny_pure (q _))⟩
end
theorem items_mix {P : Program} {w : World} : ∀ {k : List Key} {us : List Value}, Vals (k.map kV) us → PySem.ItemsAre (mixKind P w) k us
  | [], _, .nil => .nil
  | _ :: _, _, .cons r z => .cons (kV_is r) (items_mix z)
section
variable {X : Cx} {o e : Expr} {es : List Expr} {to : TE} {t : TA} {apos cpos : Pos}
theorem at_of_tup {pins : List (Addr × Obj)} {σ : L2.St} {H : Hp} {s : Shared} {b : Addr} {k : List Key} (I : Inv X pins σ H s) (h : SqT X.K H b (k.map kV)) : At (mixKind X.prog X.w) s.heap k b := by
  obtain ⟨its, r, ⟨ob, g1, g2, n, g3⟩, _⟩ := I.tuple h
  exact ⟨ob, its.toArray, n, g1, g2, g3, by simpa using items_mix r⟩
theorem whole_set {pins : List (Addr × Obj)} {σ : L2.St} {H : Hp} {s : Shared} {a : Addr} {L : List (Addr × List Key)} (I : Inv X pins σ H s) (h : H a = some (TSO X.prog X.w a L)) (he : ∀ e ∈ L, SqT X.K H e.1 (e.2.map kV)) : ∃ es ep t, Tset (mixKind X.prog X.w) s.heap a L es ep t := by
  obtain ⟨es, ep, t, h1, h2, h3, h4, h6, h7, h8⟩ := (show Bare X.prog X.w s.heap a L from (I.hok a _ h).1)
  exact ⟨es, ep, t, h1, h2, h3, h4, fun e z => at_of_tup I (he e z), h6, h7, h8⟩
/-- set(), for tuples -/
def rSet0T (P : Program) (w : World) : List V → Hp → VK → Prop := fun xs H Q => xs = [] ∧ ∀ p, H p = none → Q (.ref p) (upd H p (TSO P w p []))
theorem cr_set0T : CallR X (.type "set") (rSet0T X.prog X.w) := by
  intro pins s σ H xs us Q I r h
  obtain ⟨rfl, q⟩ := h
  cases r
  refine setR_new fun _ => ?_
  exact ⟨.ref _, upd H s.heap.objs.size (TSO X.prog X.w s.heap.objs.size []), I.laid (t' := s.toks) (fun b u z => Heap.get?_push_of_some _ z) (Nat.le_refl _) (bare_ok (fresh_bare (Heap.get?_push_size _ rfl))), rfl, q _ (I.hok.fresh (Nat.le_refl _))⟩
/-- found.add(tuple) -/
def rSAddT (K : PySem.W.Frag) (P : Program) (w : World) : V → List V → Hp → VK → Prop := fun x xs H Q => ∃ (a b : Addr) (L : List (Addr × List Key)) (k : List Key), x = V.ref a ∧ xs = [V.ref b] ∧ H a = some (TSO P w a L) ∧ (∀ e ∈ L, SqT K H e.1 (e.2.map kV)) ∧ SqT K H b (k.map kV) ∧ L.length + 1 < 76 ∧
  ∀ L', Added L b k L' → Q .non (upd H a (TSO P w a L'))
theorem mt_saddT (hu : X.A.in1.units < cLine) : MtR X "set.add" (rSAddT X.K X.prog X.w) := by
  intro pins s σ H x xs v us Q I rx rxs h
  obtain ⟨a, b, L, k, rfl, rfl, ha, he, hb, few, q⟩ := h
  cases rx
  cases rxs with
  | cons ry rt =>
    cases rt
    cases ry
    obtain ⟨es, ep, t, R⟩ := whole_set I ha he
    refine add_tup R (at_of_tup I hb) hu few fun h' L' es' ep' t' n sb R' ad => ?_
    have there : ∃ u, h'.get? a = some u := let ⟨o, ho, _⟩ := R'.obj; ⟨o, ho⟩
    exact ⟨.non, upd H a (TSO X.prog X.w a L'), I.write (e := a) (t' := n) (by rw [ha]; trivial) (.inl rfl) (fun c u hc hk => (sb.2 c hc).trans hk) there (bare_ok (Tset.bare (s := { s with heap := h' }) R')), rfl, q L' ad⟩
def tSAddT (K : PySem.W.Frag) (P : Program) (w : World) (to : TE) (t : TA) : TE := fun σ H Q => to σ H fun x H1 => (∃ a L, x = V.ref a ∧ H1 a = some (TSO P w a L)) ∧ t σ H1 fun xs H2 => rSAddT K P w x xs H2 Q
theorem bare_type {s : Shared} {P : Program} {w : World} {a : Addr} {L : List (Addr × List Key)} (R : Bare P w s.heap a L) : s.TypeIs (.ref a) "set" ∧ ∀ b, Value.ref a = .ref b → ∃ ob, s.heap.get? b = some ob ∧ ob.dict = none := by
  have ⟨_, _, _, ⟨o, ho, hc, _⟩, _⟩ := R
  exact ⟨⟨o, ho, hc.1⟩, fun b z => by cases z; exact ⟨o, ho, hc.2.1⟩⟩
theorem pe_saddT (hu : X.A.in1.units < cLine) (ho : PE X o to) (ha : PA X (e :: es) t)
    (m1 : attributeBase o "add" X.env (eval o X.env) = eval o X.env := by rfl)
    (m2 : ((backTo cpos (starEach (e :: es) X.env)).all (fun x => !x.1) && (backToKw cpos (keywordEach [] X.env)).all (fun x => x.1.isSome) && decide ((e :: es).length + ([] : List Keyword).length + (if ([] : List Keyword).isEmpty then 0 else 1) < 30)) = true := by rfl)
    (m3 : (apos.endLine == cpos.line) = true := by rfl) (m4 : starEach (e :: es) X.env = (false, eval e X.env) :: starEach es X.env := by rfl) (m5 : (backTo cpos (starEach es X.env)).any (·.1) = false := by rfl) :
    PE X (.Call (.Attribute o "add" apos) (e :: es) [] cpos) (tSAddT X.K X.prog X.w to t) := by
  refine ⟨fun pins s σ H Q I h => ?_⟩
  refine wpAny_Call_method_late m1 m2 m3 rfl (thn (ho.run pins s σ H _ I h) fun v s1 ⟨x, H1, I1, r1, ty, q1⟩ => ?_)
  obtain ⟨a, L, rfl, hL⟩ := ty
  obtain ⟨t1, t2⟩ := bare_type (show Bare X.prog X.w s1.heap a L from (I1.hok a _ hL).1)
  cases r1
  refine ⟨"set", "set.add", F.plainAttrs_set, F.slot_set_add, F.type_set_add, t1, t2, ?_⟩
  have args := ha.run cpos pins s1 σ H1 _ I1 q1
  rw [m4] at args ⊢
  refine Calls.callWith_builtin (by show (false || (backTo cpos (starEach es X.env)).any (·.1)) = false; rw [m5] <;> rfl) (Calls.evalArgs_plain (thn args fun us s2 ⟨vs, H2, I2, r2, q2⟩ => ?_))
  exact mt_saddT hu pins s2 σ H2 (.ref a) vs (.ref a) us Q I2 rfl r2 q2
/-- tuple in found -/
def rSInT (K : PySem.W.Frag) (P : Program) (w : World) : V → V → Hp → VK → Prop := fun x y H Q => ∃ (a b : Addr) (L : List (Addr × List Key)) (k : List Key), x = V.ref b ∧ y = V.ref a ∧ H a = some (TSO P w a L) ∧ (∀ e ∈ L, SqT K H e.1 (e.2.map kV)) ∧ SqT K H b (k.map kV) ∧ Q (.bl (memB k L)) H
theorem or_sinT (hu : X.A.in1.units < cLine) : OpR X (compareOp .In) (rSInT X.K X.prog X.w) := by
  intro pins s σ H x y v u Q I rx ry h
  obtain ⟨a, b, L, k, rfl, rfl, ha, he, hb, q⟩ := h
  cases rx
  cases ry
  obtain ⟨es, ep, t, R⟩ := whole_set I ha he
  exact in_tup R (at_of_tup I hb) hu fun n => ⟨.bl _, H, I.tok _, rfl, q⟩
end
end XT
set_option Elab.async false
set_option linter.all false
set_option maxRecDepth 100000
set_option maxHeartbeats 4000000
/-! sorted of pairs of texts, of any length -/
namespace XS
open PySem PySem.Spec PyProof.Rows
abbrev cl (x : Str) : List Nat := x.cps.toList
theorem cl_inj {x y : Str} (h : cl x = cl y) : x = y := by
  obtain ⟨⟨l⟩⟩ := x
  obtain ⟨⟨m⟩⟩ := y
  have e : l = m := h
  rw [e]
/-- x before y: by code points -/
def ltS (x y : Str) : Bool := decide (cl x < cl y)
theorem ltS_tri (x y : Str) : ltS x y = true ∨ x = y ∨ ltS y x = true := by
  unfold ltS
  rw [decide_eq_true_eq, decide_eq_true_eq]
  by_cases h : cl x < cl y
  · exact .inl h
  · by_cases h2 : cl y < cl x
    · exact .inr (.inr h2)
    · exact .inr (.inl (cl_inj (List.le_antisymm (List.not_lt.mp h2) (List.not_lt.mp h))))
theorem ltS_irr (x : Str) : ltS x x = false := by
  unfold ltS
  rw [decide_eq_false_iff_not]
  exact List.lt_irrefl _
theorem ltS_tr {x y z : Str} (h1 : ltS x y = true) (h2 : ltS y z = true) : ltS x z = true := by
  unfold ltS at *
  rw [decide_eq_true_eq] at *
  exact List.lt_trans h1 h2
theorem ltS_as {x y : Str} (h : ltS x y = true) : ltS y x = false := by
  cases g : ltS y x with
  | false => rfl
  | true =>
    have := ltS_tr h g
    rw [ltS_irr] at this
    cases this
/-- pairs: by their first, then by their second -/
def ltT (p q : Str × Str) : Bool := if p.1 = q.1 then ltS p.2 q.2 else ltS p.1 q.1
theorem ltT_iff {p q : Str × Str} : ltT p q = true ↔ ltS p.1 q.1 = true ∨ (p.1 = q.1 ∧ ltS p.2 q.2 = true) := by
  unfold ltT
  by_cases e : p.1 = q.1
  · rw [if_pos e]
    constructor
    · exact fun h => .inr ⟨e, h⟩
    · rintro (h | ⟨_, h⟩)
      · rw [e, ltS_irr] at h
        cases h
      · exact h
  · rw [if_neg e]
    constructor
    · exact .inl
    · rintro (h | ⟨h, _⟩)
      · exact h
      · exact absurd h e
theorem ltT_irr (p : Str × Str) : ltT p p = false := by
  unfold ltT
  rw [if_pos rfl, ltS_irr]
theorem ltT_tr {p q r : Str × Str} (h1 : ltT p q = true) (h2 : ltT q r = true) : ltT p r = true := by
  rw [ltT_iff] at *
  rcases h1 with h1 | ⟨e1, h1⟩ <;> rcases h2 with h2 | ⟨e2, h2⟩
  · exact .inl (ltS_tr h1 h2)
  · exact .inl (e2 ▸ h1)
  · exact .inl (e1 ▸ h2)
  · exact .inr ⟨e1.trans e2, ltS_tr h1 h2⟩
theorem ltT_as {p q : Str × Str} (h : ltT p q = true) : ltT q p = false := by
  cases g : ltT q p with
  | false => rfl
  | true =>
    have := ltT_tr h g
    rw [ltT_irr] at this
    cases this
theorem ltT_tri (p q : Str × Str) : ltT p q = true ∨ p = q ∨ ltT q p = true := by
  rw [ltT_iff, ltT_iff]
  rcases ltS_tri p.1 q.1 with h | h | h
  · exact .inl (.inl h)
  · rcases ltS_tri p.2 q.2 with g | g | g
    · exact .inl (.inr ⟨h, g⟩)
    · exact .inr (.inl (Prod.ext h g))
    · exact .inr (.inr (.inr ⟨h.symm, g⟩))
  · exact .inr (.inr (.inl h))
theorem swoT {α : Type} (k : α → Str × Str) : SrtO.Swo fun v u => ltT (k v) (k u) := by
  refine ⟨fun x y h => ltT_as h, fun x y z h1 h2 => ?_⟩
  cases g : ltT (k z) (k x) with
  | false => rfl
  | true =>
    exfalso
    rcases ltT_tri (k x) (k y) with e | e | e
    · have := ltT_tr g e
      rw [h2] at this
      cases this
    · rw [e, h2] at g
      cases g
    · rw [h1] at e
      cases e
/-- v is a pair of these texts -/
def TP (h : Heap) (v : Value) (p : Str × Str) : Prop := ∃ a o t u n, v = .ref a ∧ h.get? a = some o ∧ o.cls = .type "tuple" ∧ o.data = .seq #[.str p.1 t, .str p.2 u] n
theorem TP.keeps {h h' : Heap} {v : Value} {p : Str × Str} (x : TP h v p) (k : ∀ b o, h.get? b = some o → o.cls = .type "tuple" → h'.get? b = some o) : TP h' v p := by
  obtain ⟨a, o, t, u, n, e, ho, hc, hd⟩ := x
  exact ⟨a, o, t, u, n, e, k _ _ ho hc, hc, hd⟩
theorem firstsT {h : Heap} : ∀ {vs : List Value}, (∀ v ∈ vs, ∃ p, TP h v p) → ∃ fs : List Value, PySem.W.KatTups h vs fs ∧ fs.length = vs.length ∧ ∀ f ∈ fs, ∃ x t, f = Value.str x t
  | [], _ => ⟨[], PySem.W.KatTups.nil, rfl, fun _ z => nomatch z⟩
  | v :: vs, hp => by
    obtain ⟨fs, g1, g2, g3⟩ := firstsT (vs := vs) fun u z => hp u (List.mem_cons_of_mem _ z)
    obtain ⟨p, a, o, t, u, n, rfl, ho, hc, hd⟩ := hp v (List.mem_cons_self ..)
    refine ⟨.str p.1 t :: fs, .cons ho hc hd rfl g1, congrArg (· + 1) g2, fun f z => ?_⟩
    cases z with
    | head => exact ⟨_, _, rfl⟩
    | tail _ z => exact g3 f z
section
variable {prog : Program} {w : World} {A : Around} {E : Value → Shared → Prop} {s : Shared}
theorem cmpT {vs : List Value} {k : Value → Str × Str} (hp : ∀ v ∈ vs, TP s.heap v (k v)) : SrtO.Cmp prog w A s (tuples' true) (fun p => p.1 ∈ vs) (SrtO.lt2 fun v u => ltT (k v) (k u)) := by
  intro p q hm hm'
  have g1 := hp _ hm
  have g2 := hp _ hm'
  change wpAny (model prog w) A (keyLt' (tuples' true) p.1 q.1) (fun r s' => s' = s ∧ r = ltT (k p.1) (k q.1)) (fun _ _ => False) s
  generalize k p.1 = x at g1 ⊢
  generalize k q.1 = y at g2 ⊢
  obtain ⟨x1, x2⟩ := x
  obtain ⟨y1, y2⟩ := y
  obtain ⟨a, o, t, u, n, e, ho, hc, hd⟩ := g1
  obtain ⟨b, o2, t2, u2, n2, e2, ho2, hc2, hd2⟩ := g2
  rw [e, e2]
  refine PySem.W.kat_lt ho hd ho2 hd2 ?_
  change PySem.W.KatLex prog w A true (decide (2 < 2)) _ [(.str x1 t, .str y1 t2), (.str x2 u, .str y2 u2)] 0 s
  refine PySem.W.kat_cons (SeqAt.EqAt.str_str x1 t y1 t2 prog w _ _ (PySem.W.kat_go (fun c => ?_) fun c => ?_))
  · have f1 : x1 = y1 := by simpa using c
    subst f1
    refine PySem.W.kat_yes (PySem.W.kat_cons (SeqAt.EqAt.str_str x2 u y2 u2 prog w _ _ (PySem.W.kat_go (fun d => ?_) fun d => ?_)))
    · have f2 : x2 = y2 := by simpa using d
      subst f2
      exact PySem.W.kat_yes (PySem.W.kat_nil ⟨rfl, (ltT_irr _).symm⟩)
    · refine PySem.W.kat_no (PyProof.Rows.oneLt_any_str ⟨rfl, ?_⟩)
      unfold ltT
      rw [if_pos rfl]
      rfl
  · have f1 : ¬ x1 = y1 := by simpa using c
    refine PySem.W.kat_no (PyProof.Rows.oneLt_any_str ⟨rfl, ?_⟩)
    unfold ltT
    rw [if_neg f1]
    rfl
theorem sortableT {a : Addr} {vs : List Value} {k : Value → Str × Str} (h0 : 0 < vs.length) (hp : ∀ v ∈ vs, TP s.heap v (k v)) (ha : ∀ o, s.heap.get? a = some o → o.cls ≠ .type "tuple") : SrtO.SortableO prog w A s a vs fun v u => ltT (k v) (k u) := by
  intro h' keep
  have hp2 : ∀ v ∈ vs, TP h' v (k v) := fun v z => (hp v z).keeps fun b o e c => keep b o (fun y => by subst y; exact ha o e c) e
  obtain ⟨fs, g1, g2, g3⟩ := firstsT fun v z => ⟨_, hp2 v z⟩
  refine ⟨tuples' true, fun Q E hq => ?_, cmpT hp2⟩
  refine PySem.W.kat_kind (T := .type "str") g1 (by omega) (fun f z => ?_) (by rfl) ?_
  · obtain ⟨x, t, rfl⟩ := g3 f z
    exact PySem.W.Looks.now
  · have e : (Value.type "str" != Value.type "tuple") = true := by first | decide +kernel | rfl | decide
    rw [e]
    exact hq
theorem sortedT {l : Addr} {vs : List Value} {k : Value → Str × Str} {Q : Value → Shared → Prop} (hl : s.heap.IsList l vs.toArray) (hz : vs.length ≤ sizeLine) (hp : ∀ v ∈ vs, TP s.heap v (k v))
    (q : ∀ (h' : Heap) (d : Addr) (out : List Value), SrtO.Srtd (fun v u => ltT (k v) (k u)) out → SrtO.Stb (fun v u => ltT (k v) (k u)) out vs → (∀ b o, s.heap.get? b = some o → h'.get? b = some o) → s.heap.objs.size ≤ d → (∃ n, h'.get? d = some (seqObj "list" out.toArray n)) → Q (.ref d) { s with heap := h' }) :
    wpAny (model prog w) A (call (.builtin "sorted") [.ref l]) Q E s := by
  refine SrtO.sorted_ord (swoT k) hl hz (fun _ h1 a ha kk => ?_) fun out g1 g2 => q _ _ out g1 g2 (fun b o e => sortedAll_old e) (Nat.le_succ _) (sortedAll_at s.heap vs out.toArray)
  refine sortableT (s := { s with heap := h1 }) (by omega) (fun v z => (hp v z).keeps fun b o e _ => (kk b o e).2) fun o e c => ?_
  have e2 := e.symm.trans ha
  cases e2
  exact absurd (Value.type.inj c) (by decide)
end
end XS
namespace L2
open PySem PySem.Spec PyProof.Rows
/-- sorted(xs) of pairs of texts (k says which): a new list of the same objects, sorted -/
def rSortedT2 (K : PySem.W.Frag) : List V → Hp → VK → Prop := fun vs H Q => ∃ (a : Addr) (xs : List V) (k : V → Str × Str), vs = [V.ref a] ∧ SqL K H a xs ∧ (∀ x ∈ xs, ∃ t, x = V.ref t ∧ H t = some (.tup [.str (k x).1, .str (k x).2])) ∧
  ∀ ys p, SrtO.Srtd (fun v u => XS.ltT (k v) (k u)) ys → ys.Perm xs → H p = none → Q (.ref p) (upd H p (.lst ys))
theorem cr_sortedT2 {X : Cx} : CallR X (.builtin "sorted") (rSortedT2 X.K) := by
  intro pins s σ H vs us Q I r h
  obtain ⟨a, xs, k, rfl, hs, hx, q⟩ := h
  obtain ⟨its, rv, hl, hz⟩ := I.list hs
  obtain ⟨u, rfl, ru⟩ := vals1 r
  cases ru
  obtain ⟨e1, e2⟩ := refs_back rv fun x m => let ⟨t, e, _⟩ := hx x m; ⟨t, e⟩
  refine XS.sortedT (k := fun u => k (backV u)) hl.isList (by rw [← rv.length]; exact hz) (fun v hv => ?_) fun h' d out g1 g2 kp hd hn => ?_
  · obtain ⟨t, rfl⟩ := e2 v hv
    have hm : V.ref t ∈ xs := by rw [e1]; exact List.mem_map.mpr ⟨_, hv, rfl⟩
    obtain ⟨t', e, ht⟩ := hx _ hm
    cases e
    obtain ⟨_, its2, r2, o, ho, hc, n, hdd⟩ := I.hok _ _ ht
    obtain ⟨u1, u2, rfl, ⟨t1, rfl⟩, ⟨t2, rfl⟩⟩ := vals2 r2
    exact ⟨t, o, t1, t2, n, rfl, ho, hc, hdd⟩
  · have g3 : ∀ u ∈ out, ∃ a, u = Value.ref a := fun u hu => e2 u (g2.perm.mem_iff.mp hu)
    obtain ⟨n, hn⟩ := hn
    have pm : (out.map backV).Perm xs := by
      rw [e1]
      exact g2.perm.map backV
    exact ⟨.ref d, upd H d (.lst (out.map backV)), I.laid (t' := s.toks) kp hd ⟨by rw [pm.length_eq]; exact hz, out, n, vals_back g3, hn⟩, rfl, q _ d (SrtO.srtd_map g1) pm (I.hok.fresh hd)⟩
end L2
set_option Elab.async false
set_option linter.all false
set_option maxRecDepth 100000
set_option maxHeartbeats 4000000
namespace K21
open PySem PySem.Spec PyProof.Rows L2 Evl
abbrev shC (K : PySem.W.Frag) : Addr := He.ga K "Sheet"
structure Tx (K : PySem.W.Frag) (mg : Str → Option Value) (fd : Nat → FuncData) : Prop where
  gl : ∀ (i : Nat) (x : Str), fa[i]? = some (He.Fa.glo x) → mg x = some (.ref (He.ga K x))
  fr : ∀ (i : Nat) (x : Str), fa[i]? = some (He.Fa.free x) → mg x = none
  df : ∀ (i j : Nat) (x : Str), fn[i]? = some (dF j x) → Fun K x x (topS j) (He.ga K x) (fd i)
  dm : ∀ (i j : Nat) (m q : Str), fn[i]? = some (dM j m q) → Fun K m q (shS j) (He.ma K (shC K) m) (fd i)
  ds : ∀ (i j : Nat), fn[i]? = some (dS j) → FunD K "__init__" "Sheet.__init__" (defArgs (shS j)) (defBody (shS j)) (defScope (shS j)) [.ref (He.dflAt ("Sheet", some "__init__") 0 K)] [] (He.ma K (shC K) "__init__") (fd i)
  long : ∃ t, mg "LONGEST_NAME" = some (.int 6 t)
  signs : ∃ t, mg "SIGNS" = some (.str "abcdefghijklmnopqrstuvwxyz0123456789" t)
  cls : Cls K (shC K)
  mkr : Mk K (shC K) (He.ma K (shC K) "__init__")
  noat : ∀ (i : Nat) (f : Str), fa[i]? = some (He.Fa.noat "Sheet" f) → NoAttr K (shC K) f
  meth : ∀ (i : Nat) (m : Str), fa[i]? = some (He.Fa.meth "Sheet" m) → Meth K (shC K) m (He.ma K (shC K) m)
  con : ∀ (i : Nat) (q : Str × Int), cons[i]? = some q → ∃ u, Con K (shC K) q.1 (.int q.2) u
  emp : ∀ H, SqT K H (He.dflAt ("Sheet", some "__init__") 0 K) []
  self : PySem.W.selfFirst K (shC K) = true
  op2 : ∀ op, op ∈ ops → Meth K (shC K) (PySem.dunder op.info.2) (He.ma K (shC K) (PySem.dunder op.info.2)) → Op2 K (shC K) (He.ma K (shC K) (PySem.dunder op.info.2)) op
  kit : PySem.W.kitOne K (.ref (shC K)) (.ref (shC K)) = some true
  cread : ClX.CRead K (shC K) (.type "type")
  cval : ∀ (i : Nat) (q : Str × Int), cons[i]? = some q → ∃ u, ClX.CVal K (shC K) (.type "type") q.1 (.int q.2) u
  nef : PySem.W.findIn K (.ref (shC K)) "__ne__" = some (some (.builtin "object.__ne__"))
  subO : PySem.W.subIn K (.ref (shC K)) (.type "object") = some true
  cl1 : PySem.W.findIn K (.ref (shC K)) "__class__" = some (some (.builtin "object.__class__"))
  cl2 : PySem.W.specialIn K (.builtin "object.__class__") "__get__" = some (some (.builtin "getset_descriptor.__get__"))
  cl3 : PySem.W.takesIn K (.builtin "object.__class__") = some true
  cl4 : PySem.W.mroIn K (shC K) (.type "object") = some true
  exm : ∀ p ∈ heard, ∀ q ∈ heard, PySem.W.exmOne K (.ref (He.ga K p.1)) (.ref (He.ga K q.1)) = some (decide (p.1 = q.1))
  tnd : (tbn.map fun x => He.tabAt K (He.ga K x)).Nodup
  bse : ∀ p ∈ heard, PySem.W.kitOne K (.ref (He.ga K p.1)) (.ref (He.ga K p.2.2)) = some true
  kin : ∀ T ∈ kitN, PySem.W.kitOne K (.type T) (.ref (shC K)) = some false
theorem con_ok {K : PySem.W.Frag} {x : Str} {i : Int} (h : conB K x i = true) : ∃ u, Con K (shC K) x (.int i) u := by
  unfold conB at h
  split at h
  · rename_i j t e
    simp only [Bool.and_eq_true, decide_eq_true_eq, Bool.not_eq_true'] at h
    obtain ⟨⟨h1, h2⟩, h3⟩ := h
    subst h1
    exact ⟨.int j t, e, ⟨t, rfl⟩, He.eqO_ok h2, h3⟩
  · cases h
theorem emp_ok {K : PySem.W.Frag} (h : emptB K = true) (H : Hp) : SqT K H (He.dflAt ("Sheet", some "__init__") 0 K) [] := by
  unfold emptB at h
  split at h
  · rename_i c dd its n sl e
    simp only [Bool.and_eq_true, beq_iff_eq] at h
    obtain ⟨h1, h2⟩ := h
    have e2 : its = #[] := Array.size_eq_zero_iff.mp h2
    subst e2
    exact .inr ⟨_, #[], n, e, congrArg Value.type h1, rfl, by rw [sizeLine_eq]; decide, .nil⟩
  · cases h
theorem cread_ok {K : PySem.W.Frag} (h : rdB K = true) : ClX.CRead K (shC K) (.type "type") := by
  obtain ⟨h1, h2⟩ := He.ba h
  exact ⟨h1, of_decide_eq_true h2⟩
theorem cv_ok {K : PySem.W.Frag} {x : Str} {i : Int} (h : cvB K x i = true) : ∃ u, ClX.CVal K (shC K) (.type "type") x (.int i) u := by
  unfold cvB at h
  split at h
  · rename_i j t e
    have h1 := of_decide_eq_true h
    subst h1
    exact ⟨.int j t, e, ⟨t, rfl⟩⟩
  · cases h
theorem op2_ok {K : PySem.W.Frag} {op : Operator} (h : reflB K op = true) (self : PySem.W.selfFirst K (shC K) = true) (sub : PySem.W.subIn K (.type "tuple") (.ref (shC K)) = some false) {f : Addr} (hm : Meth K (shC K) (PySem.dunder op.info.2) f) : Op2 K (shC K) f op := by
  unfold reflB at h
  obtain ⟨h1, h⟩ := He.ba h
  obtain ⟨h2, h3⟩ := He.ba h
  obtain ⟨t1, e1⟩ := Option.isSome_iff_exists.mp h2
  obtain ⟨t2, e2⟩ := Option.isSome_iff_exists.mp h3
  refine ⟨self, hm, ?_, ⟨t1, t2, e1, e2⟩, sub⟩
  split at h1
  · rename_i e
    exact ⟨none, e, .inl rfl⟩
  · rename_i g e
    exact ⟨some (.ref g), e, .inr ⟨g, rfl⟩⟩
  · cases h1
theorem Tx.of {K : PySem.W.Frag} {h : Heap} {mg : Str → Option Value} (X : K.In h) (G : h.Ns mainGlobals mg) (c : He.SaysX ex fa fn K) : ∃ fd, Tx K mg fd := by
  have hd : ∀ i : Nat, ∃ fd : FuncData, ∀ d : He.DefD, fn[i]? = some d → FunD K d.name d.qual d.params d.body d.scope (d.dvs K) (d.kws K) (He.fAd K d.at_) fd := fun i => by
    cases e : fn[i]? with
    | none => exact ⟨(Classical.choose (c.d.def_ 0 rfl)), fun d z => nomatch z⟩
    | some d =>
      obtain ⟨fd, F⟩ := c.d.def_ i e
      exact ⟨fd, fun d' z => by cases z; exact F⟩
  obtain ⟨fd, hF⟩ := Classical.axiomOfChoice hd
  have hex := c.ex
  unfold ex at hex
  obtain ⟨hex, w⟩ := He.ba hex
  obtain ⟨w1, w2⟩ := He.ba w
  obtain ⟨w2, w3⟩ := He.ba w2
  obtain ⟨hex, kin⟩ := He.ba hex
  obtain ⟨hex, y⟩ := He.ba hex
  obtain ⟨y1, y⟩ := He.ba y
  obtain ⟨y3, y2⟩ := He.ba y
  obtain ⟨y3, y6⟩ := He.ba y3
  obtain ⟨y4, y5⟩ := He.ba y3
  obtain ⟨z1, y6⟩ := He.ba y6
  obtain ⟨z2, y6⟩ := He.ba y6
  obtain ⟨z3, z4⟩ := He.ba y6
  unfold ex0 at hex
  obtain ⟨x1, hex⟩ := He.ba hex
  obtain ⟨x2, hex⟩ := He.ba hex
  obtain ⟨x3, hex⟩ := He.ba hex
  obtain ⟨x4, hex⟩ := He.ba hex
  obtain ⟨x5, hex⟩ := He.ba hex
  obtain ⟨x6, hex⟩ := He.ba hex
  obtain ⟨x7, x8⟩ := He.ba hex
  refine ⟨fd, ?_, ?_, ?_, ?_, ?_, He.int_ok X G (c.d.fact 0 rfl), He.str_ok X G (c.d.fact 1 rfl), He.cls_ok (c.d.fact 59 rfl), He.mkr_ok (c.d.fact 60 rfl), ?_, ?_, ?_, emp_ok x4, x5, ?_, of_decide_eq_true x8, cread_ok y1, ?_, of_decide_eq_true y4, of_decide_eq_true y5, of_decide_eq_true z1, of_decide_eq_true z2, of_decide_eq_true z3, of_decide_eq_true z4, fun p hp q hq => of_decide_eq_true (List.all_eq_true.mp (List.all_eq_true.mp w1 p hp) q hq), of_decide_eq_true w3, fun p hp => of_decide_eq_true (List.all_eq_true.mp w2 p hp), fun T hT => of_decide_eq_true (List.all_eq_true.mp kin T hT)⟩
  · exact fun i x h => He.glo_ok X G (c.d.fact i h)
  · exact fun i x h => He.free_ok X G (c.d.fact i h)
  · exact fun i j x h => FunD.toFun (st := topS j) (hF i _ h)
  · exact fun i j m q h => FunD.toFun (st := shS j) (hF i _ h)
  · exact fun i j h => hF i _ h
  · exact fun i f h => He.noat_ok (c.d.fact i h)
  · exact fun i m h => He.meth_ok (c.d.fact i h)
  · exact fun i q h => con_ok (List.all_eq_true.mp x3 q (List.mem_of_getElem? h))
  · exact fun op h hm => op2_ok (List.all_eq_true.mp x6 op h) x5 (of_decide_eq_true x7) hm
  · exact fun i q h => cv_ok (List.all_eq_true.mp y2 q (List.mem_of_getElem? h))
end K21
set_option Elab.async false
set_option linter.all false
set_option maxRecDepth 100000
set_option maxHeartbeats 4000000
namespace Gen
open PySem PySem.Spec PyProof.Rows L2 Evl
/-! ### data that is told, under more heap -/
mutual
theorem dq_ex {K : PySem.W.Frag} {H H' : Hp} (e : Ex H H') : ∀ {v : V} {d : PyData}, Dq K H v d → Dq K H' v d
  | _, _, .non => .non
  | _, _, .bl b => .bl b
  | _, _, .int i => .int i
  | _, _, .str x => .str x
  | _, _, .lst h1 h2 => .lst (ex_l e h1) (dqa_ex e h2)
  | _, _, .tup h1 h2 => .tup (ex_t e h1) (dqa_ex e h2)
  | _, _, .dic h1 h2 h3 => .dic (e _ _ h1) h2 (dqa_ex e h3)
theorem dqa_ex {K : PySem.W.Frag} {H H' : Hp} (e : Ex H H') : ∀ {vs : List V} {ds : List PyData}, DqAll K H vs ds → DqAll K H' vs ds
  | _, _, .nil => .nil
  | _, _, .cons h1 h2 => .cons (dq_ex e h1) (dqa_ex e h2)
end
inductive Ky (H : Hp) : V → String → Prop
  | non : Ky H .non "NoneType"
  | bl (b : Bool) : Ky H (.bl b) "bool"
  | int (i : Int) : Ky H (.int i) "int"
  | str (x : Str) : Ky H (.str x) "str"
  | lst {a : Addr} {xs : List V} : H a = some (.lst xs) → Ky H (.ref a) "list"
  | tup {a : Addr} {xs : List V} : H a = some (.tup xs) → Ky H (.ref a) "tuple"
  | dic {a : Addr} {kvs : List (Key × V)} : H a = some (.dK kvs) → Ky H (.ref a) "dict"
theorem Ky.ex {H H' : Hp} (e : Ex H H') {v : V} {t : String} (h : Ky H v t) : Ky H' v t := by
  cases h with
  | non => exact .non
  | bl b => exact .bl b
  | int i => exact .int i
  | str x => exact .str x
  | lst h => exact .lst (e _ _ h)
  | tup h => exact .tup (e _ _ h)
  | dic h => exact .dic (e _ _ h)
theorem Ky.ty {K : PySem.W.Frag} {H : Hp} {v : V} {t : String} (h : Ky H v t) : TyX K H v (.type t) := by
  cases h with
  | non => exact .base .non
  | bl b => exact .base (.bl b)
  | int i => exact .base (.int i)
  | str x => exact .base (.str x)
  | lst h => exact .base (.lst h)
  | tup h => exact .base (.tup h)
  | dic h => exact .base (.dK h)
def kI : V → Bool
  | .int _ => true
  | .bl _ => true
  | _ => false
def kB : V → Bool
  | .bl _ => true
  | _ => false
def kS : V → Bool
  | .str _ => true
  | _ => false
theorem Ky.int_ {H : Hp} {v : V} {t : String} (h : Ky H v t) : kitB t "int" = some (kI v) := by
  cases h <;> first | (show kitB _ _ = some true; decide +kernel) | (show kitB _ _ = some false; decide +kernel)
theorem Ky.bool_ {H : Hp} {v : V} {t : String} (h : Ky H v t) : kitB t "bool" = some (kB v) := by
  cases h <;> first | (show kitB _ _ = some true; decide +kernel) | (show kitB _ _ = some false; decide +kernel)
theorem Ky.str_ {H : Hp} {v : V} {t : String} (h : Ky H v t) : kitB t "str" = some (kS v) := by
  cases h <;> first | (show kitB _ _ = some true; decide +kernel) | (show kitB _ _ = some false; decide +kernel)
/-- small data -/
structure Sm (n : Nat) (d : PyData) : Prop where
  sh : d.showable = true
  lv : d.leavesShort 40 = true
  bk : d.bulk ≤ n
  dp : d.depth ≤ 20
theorem Sm.len {n : Nat} {d : PyData} (s : Sm n d) (hn : n ≤ 10000) : d.shown.length ≤ sizeLine := by
  have h := PyData.shown_le_bulk 40 (by decide) d s.lv
  have h2 : (40 + 2) * d.bulk ≤ 42 * 10000 := Nat.mul_le_mul (by decide) (Nat.le_trans s.bk hn)
  rw [sizeLine_eq]
  omega
structure Gd (K : PySem.W.Frag) (H : Hp) (v : V) (d : PyData) : Prop where
  q : Dq K H v d
  s : Sm 100 d
  d10 : d.depth ≤ 10
  k : ∃ t, Ky H v t
theorem Gd.ex {K : PySem.W.Frag} {H H' : Hp} {v : V} {d : PyData} (h : Gd K H v d) (e : Ex H H') : Gd K H' v d := ⟨dq_ex e h.q, h.s, h.d10, let ⟨t, k⟩ := h.k; ⟨t, k.ex e⟩⟩
section
variable {K : PySem.W.Frag} {σ : L2.St} {H H' : Hp} {ta tb te tx : TE} {x y z v : V} {d : PyData} {n : Nat}
/-- repr -/
theorem ev_repr (h : Ev te σ H v) (q : ∀ H1, Ex H H1 → Dq K H1 v d) (s : Sm n d) (hn : n ≤ 10000) : Ev (tCB (rRepr K) (tCons te tNil)) σ H (.str d.shown) := fun H1 e Q k =>
  h H1 e _ fun H2 e2 => ⟨v, d, rfl, q H2 (e.trans e2), s.sh, Nat.le_trans s.dp (by decide), s.len hn, k H2 e2⟩
theorem ev_reprL {xs : List V} {ds : List PyData} (h : EvL te σ H xs) (q : ∀ H1, Ex H H1 → DqAll K H1 xs ds) (s : Sm n (.list ds)) (hn : n ≤ 10000) : Ev (tCB (rRepr K) (tCons te tNil)) σ H (.str (PyData.shown (.list ds))) := fun H1 e Q k =>
  h H1 e _ fun p H2 _ e2 hp => ⟨.ref p, .list ds, rfl, .lst (sq_of hp) (q H2 (e.trans e2)), s.sh, Nat.le_trans s.dp (by decide), s.len hn, k H2 e2⟩
/-- isinstance of data -/
theorem ev_isi {t n : String} {b : Bool} (h : Ev te σ H v) (k : Ky H v t) (hb : kitB t n = some b) (hc : Ev tx σ H (.ty n)) : Ev (tCB (rIsi K) (tCons te (tCons tx tNil))) σ H (.bl b) := fun H1 e Q q =>
  h H1 e _ fun H2 e2 => hc H2 (e.trans e2) _ fun H3 e3 => ⟨v, .ty n, .type t, .type n, b, rfl, .ty n, (k.ex ((e.trans e2).trans e3)).ty, kit_ty hb, q H3 (e2.trans e3)⟩
theorem ev_all {bs : List Bool} (h : EvL te σ H (bs.map V.bl)) : Ev (tCB (rAll K) (tCons te tNil)) σ H (.bl (bs.all id)) := fun H1 e Q q =>
  h H1 e _ fun p H2 _ e2 hp => ⟨p, bs, rfl, sq_of hp, q H2 e2⟩
theorem ev_callG {sp : Sp} {vs : List V} {E : XK} {ta : TA} (h : EvA ta σ H vs) (hs : SpV sp vs H z) : Ev (tCallG sp E ta) σ H z := fun H1 e Q q =>
  h H1 e _ fun H2 e2 => hs H2 (e.trans e2) Q (fun H3 e3 => q H3 (e2.trans e3)) E
theorem ev_call0 {sp : Sp} {vs : List V} {E : XK} {ta : TA} (h : EvA ta σ H vs) (hs : SpV sp vs H z) : Ev (tCall sp [] E ta) σ H z := fun H1 e Q q =>
  h H1 e _ fun H2 e2 => by
    have g := hs H2 (e.trans e2) Q (fun H3 e3 => q H3 (e2.trans e3)) E
    show sp (vs ++ []) H2 Q E
    rw [List.append_nil]
    exact g
theorem ev_callK {sp : Sp} {ws : List V} {E : XK} {tk : TA} {m : Nat} {gV : List V → List V → List V} (h : EvA tk σ H ws) (hm : ws.length = m) (hs : SpV sp (gV [] ws) H z) : Ev (tCallN 0 m sp gV E tNil tk) σ H z := fun H1 e Q q => by
  show tk σ H1 fun zs H2 => ([] : List V).length = 0 ∧ zs.length = m ∧ sp (gV [] zs) H2 Q E
  exact h H1 e _ fun H2 e2 => ⟨rfl, hm, hs H2 (e.trans e2) Q (fun H3 e3 => q H3 (e2.trans e3)) E⟩
theorem et_chain {i j m : Int} {r r' : R2} {tc : TE} {a b : Bool} (h1 : Ev ta σ H (.int i)) (h2 : Ev tb σ H (.int j)) (h3 : Ev tc σ H (.int m)) (r1 : RV r (.int i) (.int j) H (.bl a)) (r2 : RV r' (.int j) (.int m) H (.bl b)) :
    EvT (tTest (tChain r r' ta tb tc)) σ H (a && b) := fun H1 e Q q =>
  h1 H1 e _ fun H2 e2 => h2 H2 (e.trans e2) _ fun H3 e3 => r1 H3 ((e.trans e2).trans e3) _ fun H4 e4 => ⟨a, rfl, by
    cases a with
    | true =>
      rw [if_pos rfl]
      exact h3 H4 (((e.trans e2).trans e3).trans e4) _ fun H5 e5 => r2 H5 ((((e.trans e2).trans e3).trans e4).trans e5) _ fun H6 e6 => ⟨b, rfl, q H6 ((((e2.trans e3).trans e4).trans e5).trans e6)⟩
    | false =>
      rw [if_neg (by decide)]
      exact ⟨false, rfl, q H4 ((e2.trans e3).trans e4)⟩⟩
theorem et_opT {r : R2} {b : Bool} (h : Ev (tOp r ta tb) σ H (.bl b)) : EvT (tTest (tOp r ta tb)) σ H b := et_test h
theorem ev_lenX {r : List V → Hp → VK → Prop} {n : Int} (ha : Ev ta σ H x) (hr : ∀ H1, Ex H H1 → ∀ Q : VK, Q (.int n) H1 → r [x] H1 Q) : Ev (tCB r (tCons ta tNil)) σ H (.int n) := fun H1 e Q q =>
  ha H1 e _ fun H2 e2 => hr H2 (e.trans e2) Q (q H2 e2)
end
/-- over a text, sign by sign -/
theorem el_lcS {σ : L2.St} {H : Hp} {te tl : TE} {j : Nat} {vs : List Nat} {w : Str} (f : Nat → Bool) (h : Ev tl σ H (.str w)) (hz : w.cps.size ≤ 40000) (hw : ∀ x, wipe ((wipe σ vs).set j (some x)) vs = wipe σ vs)
    (he : ∀ (c : Nat) H1, Ex H H1 → Ev te ((wipe σ vs).set j (some (.str ⟨#[c]⟩))) H1 (.bl (f c))) :
    EvL (tLc (iStr tl) (gName j) tYes te vs) σ H ((w.cps.toList.map f).map V.bl) := fun H0 e Q q => h H0 e _ fun H1 e1 => ⟨w, rfl, fun Dl hD =>
  lc_it (walk_str (z := w)) (fun i H' => H1 Dl = none ∧ Ex H1 H' ∧ H' Dl = some (.lst (((w.cps.toList.take i).map f).map V.bl))) ⟨hD, Ex.new hD, by rw [upd_same]; rfl⟩ (fun _ _ _ _ => trivial)
    (fun i x H' H'' hi p y => by
      obtain ⟨rfl, c, hc, rfl⟩ := y
      obtain ⟨p1, p2, p3⟩ := p
      refine ⟨hw _, ?_⟩
      refine he c H'' ((e.trans e1).trans p2) H'' (Ex.refl _) _ fun H4 e4 => ⟨_, e4 _ _ p3, sz_lt (by simp only [List.length_map, List.length_take]; omega), p1, Ex.mut (p2.trans e4) p1, ?_⟩
      rw [upd_same]
      have ht : w.cps.toList.take (i + 1) = w.cps.toList.take i ++ [c] := by
        rw [List.take_add_one]
        have hc' : w.cps.toList[i]? = some c := by rw [Array.getElem?_toList]; exact hc
        rw [hc']
        rfl
      rw [ht, List.map_append, List.map_append] <;> rfl)
    (fun H' p => by
      obtain ⟨p1, p2, p3⟩ := p
      refine q Dl H' (fresh_back e1 p1) (e1.trans p2) ?_
      rw [p3]
      have hl : w.cps.toList.take w.cps.size = w.cps.toList := List.take_of_length_le (by simp)
      rw [hl])⟩
end Gen
set_option Elab.async false
set_option linter.all false
set_option maxRecDepth 100000
set_option maxHeartbeats 4000000
namespace Gen
open PySem PySem.Spec PyProof.Rows L2 Evl
def isI (v : V) : Bool := kI v && !kB v
def ge0 : V → Bool
  | .int i => decide (0 ≤ i)
  | _ => false
def isC (v : V) : Bool := isI v && ge0 v
def sgn : Str := "abcdefghijklmnopqrstuvwxyz0123456789"
def isN : V → Bool
  | .str x => decide (1 ≤ (x.length : Int)) && decide ((x.length : Int) ≤ 6) && (x.cps.toList.map fun c => decide (c ∈ sgn.cps.toList)).all id
  | _ => false
def spV1 (f : V → Bool) : Sp := fun vs H Q _ => ∃ v t, vs = [v] ∧ Ky H v t ∧ (∀ x, v = .str x → x.cps.size ≤ 100) ∧ RetV (.bl (f v)) H Q
theorem spV {f : V → Bool} {H : Hp} {v : V} {t : String} (k : Ky H v t) (hz : ∀ x, v = .str x → x.cps.size ≤ 100) : SpV (spV1 f) [v] H (.bl (f v)) := fun H1 e Q q E => ⟨v, t, rfl, k.ex e, hz, q⟩
theorem isI_int {H : Hp} {v : V} {t : String} (k : Ky H v t) (h : isI v = true) : ∃ i, v = .int i := by
  cases k with
  | int i => exact ⟨i, rfl⟩
  | _ => exact absurd h (by simp [isI, kI, kB])
theorem kS_str {v : V} (h : kS v = true) : ∃ x, v = .str x := by
  cases v with
  | str x => exact ⟨x, rfl⟩
  | _ => cases h
theorem isN_no {v : V} (h : kS v = false) : isN v = false := by
  cases v with
  | str x => cases h
  | _ => rfl
theorem isN_out {x : Str} (h : (decide (1 ≤ (x.length : Int)) && decide ((x.length : Int) ≤ 6)) = false) : isN (.str x) = false := by
  show (decide (1 ≤ (x.length : Int)) && decide ((x.length : Int) ≤ 6) && _) = false
  rw [h]
  rfl
theorem isN_in {x : Str} (h : (decide (1 ≤ (x.length : Int)) && decide ((x.length : Int) ≤ 6)) = true) : isN (.str x) = (x.cps.toList.map fun c => decide (c ∈ sgn.cps.toList)).all id := by
  show (decide (1 ≤ (x.length : Int)) && decide ((x.length : Int) ≤ 6) && _) = _
  rw [h]
  rfl
theorem z_in {w : Str} (h : w.cps.size ≤ 100) : w.length ≤ sizeLine := Nat.le_trans h (by rw [sizeLine_eq]; decide)
theorem isN_law (x : Str) : (decide (V.str x = V.str (Str.ofString "")) || decide ((6 : Int) < (x.length : Int))) = !(decide (1 ≤ (x.length : Int)) && decide ((x.length : Int) ≤ 6)) := by
  have e0 : decide (V.str x = V.str (Str.ofString "")) = !decide (1 ≤ (x.length : Int)) := by
    rw [Bool.eq_iff_iff]
    simp only [decide_eq_true_eq, Bool.not_eq_true', decide_eq_false_iff_not]
    constructor
    · intro h
      cases h
      decide
    · intro h
      have h0 : x.cps.size = 0 := by
        have : x.length = x.cps.size := rfl
        omega
      obtain ⟨c⟩ := x
      have hc : c = #[] := Array.size_eq_zero_iff.mp h0
      subst hc
      rfl
  have e1 : decide ((6 : Int) < (x.length : Int)) = !decide ((x.length : Int) ≤ 6) := by
    rw [Bool.eq_iff_iff]
    simp only [decide_eq_true_eq, Bool.not_eq_true', decide_eq_false_iff_not]
    omega
  rw [e0, e1, Bool.not_and]
theorem ev_int1 {σ : L2.St} {H : Hp} {te : TE} {i : Int} (h : Ev te σ H (.int i)) : Ev (tCB (fun xs H Q => (∃ i, xs = [.int i] ∧ Q (V.int i) H) ∨ ∃ k, xs = [.bl k] ∧ Q (V.int (if k = true then 1 else 0)) H) (tCons te tNil)) σ H (.int i) := fun H1 e Q q =>
  h H1 e _ fun H2 e2 => .inl ⟨i, rfl, q H2 e2⟩
theorem ev_absI {σ : L2.St} {H : Hp} {te : TE} {i : Int} (h : Ev te σ H (.int i)) : Ev (tCB (fun xs H Q => ∃ i, xs = [.int i] ∧ Q (V.int (if i < 0 then -i else i)) H) (tCons te tNil)) σ H (.int (if i < 0 then -i else i)) := fun H1 e Q q =>
  h H1 e _ fun H2 e2 => ⟨i, rfl, q H2 e2⟩
theorem ev_maxI {σ : L2.St} {H : Hp} {ta tb : TE} {i j : Int} (ha : Ev ta σ H (.int i)) (hb : Ev tb σ H (.int j)) : Ev (tCB (fun xs H Q => ∃ i j, xs = [.int i, .int j] ∧ Q (V.int (if j > i then j else i)) H) (tCons ta (tCons tb tNil))) σ H (.int (if j > i then j else i)) := fun H1 e Q q =>
  ha H1 e _ fun H2 e2 => hb H2 (e.trans e2) _ fun H3 e3 => ⟨i, j, rfl, q H3 (e2.trans e3)⟩
theorem ev_minI {σ : L2.St} {H : Hp} {ta tb : TE} {i j : Int} (ha : Ev ta σ H (.int i)) (hb : Ev tb σ H (.int j)) : Ev (tCB (fun xs H Q => ∃ i j, xs = [.int i, .int j] ∧ Q (V.int (if j < i then j else i)) H) (tCons ta (tCons tb tNil))) σ H (.int (if j < i then j else i)) := fun H1 e Q q =>
  ha H1 e _ fun H2 e2 => hb H2 (e.trans e2) _ fun H3 e3 => ⟨i, j, rfl, q H3 (e2.trans e3)⟩
/-- the pot: a list of two ints -/
structure Pot (H : Hp) (p : Addr) : Prop where
  at_ : ∃ x y : Int, H p = some (.lst [.int x, .int y]) ∧ 0 ≤ x ∧ 0 ≤ y ∧ y < 2147483648
/-- all but what stands at p -/
def rem (p : Addr) (H : Hp) : Hp := fun b => if b = p then none else H b
theorem rem_ex {p : Addr} {H : Hp} : Ex (rem p H) H := fun b o h => by
  unfold rem at h
  split at h
  · cases h
  · exact h
theorem rem_mono {p : Addr} {H H' : Hp} (e : Ex H H') : Ex (rem p H) (rem p H') := fun b o h => by
  unfold rem at h ⊢
  split at h
  · cases h
  · rename_i hb
    rw [if_neg hb]
    exact e b o h
theorem rem_upd {p : Addr} {H : Hp} {o : HO} : Ex (rem p H) (rem p (upd H p o)) := fun b u h => by
  unfold rem at h ⊢
  split at h
  · cases h
  · rename_i hb
    rw [if_neg hb, upd_ne hb]
    exact h
/-- what is laid at a new place -/
theorem rem_at {p q : Addr} {H : Hp} {o : HO} (h : H q = some o) (hq : q ≠ p) : rem p H q = some o := by
  unfold rem
  rw [if_neg hq]
  exact h
theorem ne_pot {p q : Addr} {H : Hp} {o : HO} (hp : H p = some o) (hq : H q = none) : q ≠ p := by
  intro z
  subst z
  rw [hp] at hq
  cases hq
def spPot (K : PySem.W.Frag) : Sp := fun vs H Q _ => ∃ (a : Addr) (ns : List Int) (j : Nat), vs = [.ref a, .int (j : Int)] ∧ SqL K H a (ns.map V.int) ∧ ns.length ≤ 1000 ∧ j ≤ 5 ∧ ∀ p H', H p = none → Ex H H' → Pot H' p → Q (.ref p) H'
def spDraw : Sp := fun vs H Q _ => ∃ (p : Addr) (m : Int), vs = [.ref p, .int m] ∧ Pot H p ∧ 0 < m ∧ m ≤ 1000000000 ∧ ∀ (d : Int) H', Ex (rem p H) (rem p H') → Pot H' p → 0 ≤ d → d < m → Q (.int d) H'
def spPick (K : PySem.W.Frag) : Sp := fun vs H Q _ => ∃ (p a : Addr) (xs : List V), vs = [.ref p, .ref a] ∧ Pot H p ∧ rem p H a = some (.lst xs) ∧ 0 < xs.length ∧ xs.length ≤ 1000 ∧ ∀ x H', x ∈ xs → Ex (rem p H) (rem p H') → Pot H' p → Q x H'
structure MP where
  p : V → Hp → Prop
  m : ∀ {v : V} {H H' : Hp}, Ex H H' → p v H → p v H'
def AllP : List MP → List V → Hp → Prop
  | [], [], _ => True
  | P :: Ps, v :: vs, H => P.p v H ∧ AllP Ps vs H
  | _, _, _ => False
theorem AllP.mono {H H' : Hp} (e : Ex H H') : ∀ {Ps : List MP} {vs : List V}, AllP Ps vs H → AllP Ps vs H'
  | [], [], _ => trivial
  | P :: Ps, v :: vs, h => ⟨P.m e h.1, AllP.mono e h.2⟩
  | [], _ :: _, h => h.elim
  | _ :: _, [], h => h.elim
theorem AllP.app {H : Hp} {Qs : List MP} {ws : List V} : ∀ {Ps : List MP} {vs : List V}, AllP Ps vs H → AllP Qs ws H → AllP (Ps ++ Qs) (vs ++ ws) H
  | [], [], _, h2 => h2
  | _ :: _, _ :: _, h, h2 => ⟨h.1, AllP.app h.2 h2⟩
  | [], _ :: _, h, _ => h.elim
  | _ :: _, [], h, _ => h.elim
theorem AllP.len {H : Hp} : ∀ {Ps : List MP} {vs : List V}, AllP Ps vs H → vs.length = Ps.length
  | [], [], _ => rfl
  | _ :: _, _ :: _, h => by rw [List.length_cons, List.length_cons, AllP.len h.2]
  | [], _ :: _, h => h.elim
  | _ :: _, [], h => h.elim
theorem AllP.at_ {H : Hp} : ∀ {Ps : List MP} {vs : List V} {i : Nat} {P : MP} {v : V}, AllP Ps vs H → Ps[i]? = some P → vs[i]? = some v → P.p v H
  | [], [], _, _, _, _, h1, _ => by cases h1
  | _ :: _, _ :: _, 0, _, _, h, h1, h2 => by
    cases h1
    cases h2
    exact h.1
  | _ :: _, _ :: _, i + 1, _, _, h, h1, h2 => AllP.at_ (i := i) h.2 h1 h2
  | [], _ :: _, _, _, _, h, _, _ => h.elim
  | _ :: _, [], _, _, _, h, _, _ => h.elim
theorem AllP.rep {H : Hp} {P : MP} : ∀ {n : Nat} {vs : List V}, AllP (List.replicate n P) vs H → ∀ v ∈ vs, P.p v H
  | 0, [], _ => fun v z => nomatch z
  | n + 1, v :: vs, h => fun u hu => by
    rcases List.mem_cons.mp hu with rfl | z
    · exact h.1
    · exact AllP.rep (n := n) h.2 u z
  | 0, _ :: _, h => h.elim
  | _ + 1, [], h => h.elim
def EvP (te : TE) (σ : L2.St) (H : Hp) (P : MP) : Prop := ∀ H1, Ex H H1 → ∀ Q : VK, (∀ v H2, Ex H1 H2 → P.p v H2 → Q v H2) → te σ H1 Q
def EvAP (ta : TA) (σ : L2.St) (H : Hp) (Ps : List MP) : Prop := ∀ H1, Ex H H1 → ∀ Q : List V → Hp → Prop, (∀ vs H2, Ex H1 H2 → AllP Ps vs H2 → Q vs H2) → ta σ H1 Q
def EvLP (te : TE) (σ : L2.St) (H : Hp) (Ps : List MP) : Prop := ∀ H1, Ex H H1 → ∀ Q : VK, (∀ vs p H2, H1 p = none → Ex H1 H2 → AllP Ps vs H2 → H2 p = some (.lst vs) → Q (.ref p) H2) → te σ H1 Q
section
variable {K : PySem.W.Frag} {σ : L2.St} {H H' : Hp} {ta tb te tx tl : TE} {tr : TA} {x y z v : V} {P : MP} {Ps Qs : List MP} {a C dx : Addr} {f : Str}
theorem eap_nil : EvAP tNil σ H [] := fun H1 _ _ q => q [] H1 (Ex.refl _) trivial
theorem eap_cons (h : EvP te σ H P) (hr : EvAP tr σ H Ps) : EvAP (tCons te tr) σ H (P :: Ps) := fun H1 e Q q =>
  h H1 e _ fun v H2 e2 hv => hr H2 (e.trans e2) _ fun vs H3 e3 hs => q (v :: vs) H3 (e2.trans e3) ⟨P.m e3 hv, hs⟩
theorem evp_of (h : Ev te σ H v) (hp : ∀ H1, Ex H H1 → P.p v H1) : EvP te σ H P := fun H1 e Q q => h H1 e _ fun H2 e2 => q v H2 e2 (hp H2 (e.trans e2))
theorem evp_weak {P' : MP} (h : EvP te σ H P) (hp : ∀ v H1, P.p v H1 → P'.p v H1) : EvP te σ H P' := fun H1 e Q q => h H1 e _ fun v H2 e2 hv => q v H2 e2 (hp v H2 hv)
theorem elp_lst {ta : TA} (h : EvAP ta σ H Ps) (hl : Ps.length ≤ 100000) : EvLP (tLst ta) σ H Ps := fun H1 e Q q =>
  h H1 e _ fun vs H2 e2 hs => ⟨sz_of (by rw [hs.len]; exact hl), fun p hp => q vs p _ (fresh_back e2 hp) (e2.trans (Ex.new hp)) (hs.mono (Ex.new hp)) upd_same⟩
theorem elp_cat {xs : List V} (ha : Ev ta σ H (.ref a)) (hx : H a = some (.lst xs)) (hP : AllP Ps xs H) (hb : EvLP tb σ H Qs) (hl : Ps.length + Qs.length ≤ 100000) : EvLP (tOp rCat ta tb) σ H (Ps ++ Qs) := fun H1 e Q q =>
  ha H1 e _ fun H2 e2 => hb H2 (e.trans e2) _ fun ws b H3 hb3 e3 hs h3 => ⟨a, b, xs, ws, rfl, rfl, ((e.trans e2).trans e3) a _ hx, h3, sz_of (by rw [hP.len, hs.len]; exact hl), fun p hp =>
    q (xs ++ ws) p _ (fresh_back (e2.trans e3) hp) ((e2.trans e3).trans (Ex.new hp)) ((hP.mono ((e.trans e2).trans e3)).app hs |>.mono (Ex.new hp)) upd_same⟩
variable {D : Ends} {tu tz : TS} {g : TG}
theorem q_asgP {i : Nat} (h : EvLP te σ H Ps) (k : ∀ vs p H1, H p = none → Ex H H1 → AllP Ps vs H1 → H1 p = some (.lst vs) → tz D (σ.set i (some (.ref p))) H1) : tSeq (tAsg te (gName i)) tz D σ H := h H (Ex.refl H) _ fun vs p H1 hp e hs h1 => k vs p H1 hp e hs h1
theorem s_retP (h : EvLP te σ H Ps) (k : ∀ vs p H1, H p = none → Ex H H1 → AllP Ps vs H1 → H1 p = some (.lst vs) → D.rt (.ref p) H1) : tRet te D σ H := h H (Ex.refl H) _ fun vs p H1 hp e hs h1 => k vs p H1 hp e hs h1
/-- a walk over a list whose items are told by one word; the slot j alone changes -/
def Nst (H : Hp) (σ : L2.St) (j : Nat) : L2.St → Hp → Prop := fun σ' H' => Ex H H' ∧ ∃ o, σ' = σ.set j o
theorem q_forV {xs : List V} {j : Nat} (h : Ev tl σ H (.ref a)) (hx : H a = some (.lst xs)) (hP : ∀ v ∈ xs, P.p v H) (h0 : ∃ o, σ = σ.set j o)
    (hs : ∀ v H1, Ex H H1 → P.p v H1 → tu { D with nx := Nst H σ j, ct := Nst H σ j, bk := tz D } (σ.set j (some v)) H1) (hd : ∀ o H1, Ex H H1 → tz D (σ.set j o) H1) : tSeq (tFor (iList K tl) (gName j) tu) tz D σ H := by
  refine q_forLn (D := D) h (sq_of hx) (fun _ => Nst H σ j) (fun H1 e => ⟨e, h0⟩) (fun i σ' H' _ p => sq_of (p.1 a _ hx)) (fun i x σ' H' hi p => ?_) (fun σ' H' p => ?_)
  · obtain ⟨e, o, rfl⟩ := p
    rw [List.set_set]
    exact hs x H' e (P.m e (hP x (List.mem_of_getElem? hi)))
  · obtain ⟨e, o, rfl⟩ := p
    exact hd o H' e
theorem q_forN {n : Nat} {j : Nat} (h : EvLP tl σ H (List.replicate n P)) (h0 : ∃ o, σ = σ.set j o)
    (hs : ∀ H0 v H1, Ex H H0 → Ex H0 H1 → P.p v H1 → tu { D with nx := Nst H0 σ j, ct := Nst H0 σ j, bk := tz D } (σ.set j (some v)) H1) (hd : ∀ o H1, Ex H H1 → tz D (σ.set j o) H1) : tSeq (tFor (iList K tl) (gName j) tu) tz D σ H := by
  show tl σ H _
  refine h H (Ex.refl H) _ fun vs p H1 hp e hP h1 => ?_
  refine ⟨p, rfl, ⟨vs, sq_of h1⟩, for_list (fun _ => Nst H1 σ j) ⟨Ex.refl _, h0⟩ (fun i σ' H' _ q => sq_of (q.1 p _ h1)) (fun i x σ' H' hi q => ?_) (fun σ' H' q => ?_)⟩
  · obtain ⟨e1, o, rfl⟩ := q
    show tu _ ((σ.set j o).set j (some x)) H'
    rw [List.set_set]
    exact hs H1 x H' e e1 (P.m e1 (hP.rep x (List.mem_of_getElem? hi)))
  · obtain ⟨e1, o, rfl⟩ := q
    exact hd o H' (e.trans e1)
theorem dp_bools (H : Hp) : ∀ bs : List Bool, DpAll K H (bs.map V.bl) (bs.map PyData.bool)
  | [] => .nil
  | b :: bs => .cons (.bl b) (dp_bools H bs)
theorem dq_bools (H : Hp) : ∀ bs : List Bool, DqAll K H (bs.map V.bl) (bs.map PyData.bool)
  | [] => .nil
  | b :: bs => .cons (.bl b) (dq_bools H bs)
mutual
theorem dp_ex {H H' : Hp} (e : Ex H H') : ∀ {v : V} {d : PyData}, Dp K H v d → Dp K H' v d
  | _, _, .non => .non
  | _, _, .bl b => .bl b
  | _, _, .int i => .int i
  | _, _, .str x => .str x
  | _, _, .lst h1 h2 => .lst (ex_l e h1) (dpa_ex e h2)
  | _, _, .tup h1 h2 => .tup (ex_t e h1) (dpa_ex e h2)
theorem dpa_ex {H H' : Hp} (e : Ex H H') : ∀ {vs : List V} {ds : List PyData}, DpAll K H vs ds → DpAll K H' vs ds
  | _, _, .nil => .nil
  | _, _, .cons h1 h2 => .cons (dp_ex e h1) (dpa_ex e h2)
end
/-- equal data are equal -/
theorem rv_eqD {d : PyData} {x y : V} (hx : Dp K H x d) (hy : Dp K H y d) (s : SeqAt.shaped d = true) : RV (rEqD K) x y H (.bl true) := fun H1 e Q q =>
  ⟨d, d, dp_ex e hx, dp_ex e hy, s, s, by rw [SeqAt.eqv_refl d (SeqAt.canLay_of_shaped s)]; exact q H1 (Ex.refl _)⟩
theorem el_cat {xs zs : List V} (ha : Ev ta σ H (.ref a)) (hx : H a = some (.lst xs)) (hb : EvL tb σ H zs) (hl : xs.length + zs.length ≤ 100000) : EvL (tOp rCat ta tb) σ H (xs ++ zs) := fun H1 e Q q =>
  ha H1 e _ fun H2 e2 => hb H2 (e.trans e2) _ fun b H3 hb3 e3 h3 => ⟨a, b, xs, zs, rfl, rfl, ((e.trans e2).trans e3) a _ hx, h3, sz_of hl, fun p hp => q p _ (fresh_back (e2.trans e3) hp) ((e2.trans e3).trans (Ex.new hp)) upd_same⟩
theorem q_ext {l : Addr} {xs ys : List V} (hl : H l = some (.lst xs)) (ha : Ev ta σ H (.ref l)) (h : EvL te σ H ys) (hz : xs.length + ys.length ≤ 100000) (k : ∀ H1, Ex H H1 → tz D σ (upd H1 l (.lst (xs ++ ys)))) :
    tSeq (tDrop (tBM K "list" rExtend ta (tCons te tNil))) tz D σ H := ha H (Ex.refl H) _ fun H1 e1 =>
  ⟨Or.inl ⟨rfl, xs, sq_of (e1 l _ hl)⟩, h H1 e1 _ fun p H2 hp e2 h2 => ⟨l, p, xs, ys, rfl, rfl, e2 l _ (e1 l _ hl), h2, sz_of hz, k H2 (e1.trans e2)⟩⟩
theorem q_ext0 {H0 : Hp} {l : Addr} {xs ys : List V} (hf : H0 l = none) (e0 : Ex H0 H) (hl : H l = some (.lst xs)) (ha : Ev ta σ H (.ref l)) (h : EvL te σ H ys) (hz : xs.length + ys.length ≤ 100000) (k : ∀ H1, Ex H0 H1 → H1 l = some (.lst (xs ++ ys)) → tz D σ H1) :
    tSeq (tDrop (tBM K "list" rExtend ta (tCons te tNil))) tz D σ H := q_ext hl ha h hz fun H1 e => k _ (Ex.mut (e0.trans e) hf) upd_same
theorem q_extP {l : Addr} {xs : List V} (hl : H l = some (.lst xs)) (ha : Ev ta σ H (.ref l)) (h : EvLP te σ H Ps) (hz : xs.length + Ps.length ≤ 100000) (k : ∀ ys H1, Ex H H1 → AllP Ps ys H1 → tz D σ (upd H1 l (.lst (xs ++ ys)))) :
    tSeq (tDrop (tBM K "list" rExtend ta (tCons te tNil))) tz D σ H := ha H (Ex.refl H) _ fun H1 e1 =>
  ⟨Or.inl ⟨rfl, xs, sq_of (e1 l _ hl)⟩, h H1 e1 _ fun ys p H2 hp e2 hs h2 => ⟨l, p, xs, ys, rfl, rfl, e2 l _ (e1 l _ hl), h2, sz_of (by rw [hs.len]; exact hz), k ys H2 (e1.trans e2) hs⟩⟩
end
section
variable {K : PySem.W.Frag} {σ : L2.St} {H H' H0 : Hp} {ta tb te tx tl : TE} {tr : TA} {x y z v : V} {P : MP} {Ps Qs : List MP} {a f : Addr} {D : Ends} {tz : TS}
def Rws (row : Nat → List V) (Dl : Addr) (rs : List V) (H : Hp) : Prop := ∀ (j : Nat) (v : V), rs[j]? = some v → ∃ p, p ≠ Dl ∧ v = .ref p ∧ H p = some (.lst (row j))
def RW (H1 : Hp) (row : Nat → List V) (Dl : Addr) (k : Nat) (H' : Hp) : Prop := H1 Dl = none ∧ Ex H1 H' ∧ ∃ rs, rs.length = k ∧ H' Dl = some (.lst rs) ∧ Rws row Dl rs H'
def EvR (te : TE) (σ : L2.St) (H : Hp) (n : Nat) (row : Nat → List V) : Prop := ∀ H1, Ex H H1 → ∀ Q : VK, (∀ rs Dl H2, H1 Dl = none → Ex H1 H2 → H2 Dl = some (.lst rs) → rs.length = n → Rws row Dl rs H2 → Q (.ref Dl) H2) → te σ H1 Q
theorem rw_turn {H1 : Hp} {row : Nat → List V} {Dl : Addr} {k : Nat} {σ2 : L2.St} (p : RW H1 row Dl k H') (hk : k < 50000) (h : EvL te σ2 H' (row k)) : te σ2 H' fun y H4 => ∃ acc, H4 Dl = some (.lst acc) ∧ acc.length < sizeLine ∧ RW H1 row Dl (k + 1) (upd H4 Dl (.lst (acc ++ [y]))) := by
  obtain ⟨p1, p2, rs, p3, p4, p5⟩ := p
  refine h H' (Ex.refl _) _ fun q H4 hq e4 h4 => ⟨rs, e4 _ _ p4, sz_lt (by omega), p1, Ex.mut (p2.trans e4) p1, rs ++ [.ref q], by rw [List.length_append, p3]; rfl, upd_same, ?_⟩
  have nq : q ≠ Dl := by
    intro z
    subst z
    rw [p4] at hq
    cases hq
  intro j v hj
  by_cases hlt : j < rs.length
  · rw [List.getElem?_append_left hlt] at hj
    obtain ⟨p', n', ev, hp'⟩ := p5 j v hj
    exact ⟨p', n', ev, by rw [upd_ne n']; exact e4 _ _ hp'⟩
  · have hj' := (List.getElem?_eq_some_iff.mp hj).1
    rw [List.length_append] at hj'
    have e : j = rs.length := by simp only [List.length_cons, List.length_nil] at hj'; omega
    subst e
    rw [List.getElem?_append_right (Nat.le_refl _), Nat.sub_self] at hj
    cases hj
    rw [p3]
    exact ⟨q, nq, rfl, by rw [upd_ne nq]; exact h4⟩
theorem el_rowsL {xs : List V} {j : Nat} {vs : List Nat} (row : Nat → List V) (h : Ev tl σ H (.ref a)) (hx : SqL K H a xs) (hz : xs.length ≤ 40000) (hw : ∀ x, wipe ((wipe σ vs).set j (some x)) vs = wipe σ vs)
    (he : ∀ (i : Nat) (x : V) H1, Ex H H1 → xs[i]? = some x → EvL te ((wipe σ vs).set j (some x)) H1 (row i)) : EvR (tLc (iList K tl) (gName j) tYes te vs) σ H xs.length row := fun H0 e Q q => h H0 e _ fun H1 e1 => ⟨a, rfl, ⟨xs, ex_l (e.trans e1) hx⟩, fun Dl hD =>
  lc_list (xs := xs) (RW H1 row Dl) ⟨hD, Ex.new hD, [], rfl, upd_same, fun j v z => by cases z⟩ (fun i H' _ p => ex_l ((e.trans e1).trans p.2.1) hx)
    (fun i x H' hi p => ⟨hw x, rw_turn p (by have := (List.getElem?_eq_some_iff.mp hi).1; omega) (he i x H' ((e.trans e1).trans p.2.1) hi)⟩)
    (fun H' p => let ⟨rs, h1, h2, h3⟩ := p.2.2; q rs Dl H' (fresh_back e1 p.1) (e1.trans p.2.1) h2 h1 h3)⟩
theorem el_rowsR {n : Nat} {j : Nat} {vs : List Nat} {ta : TA} (row : Nat → List V) (h : EvA ta σ H [.int (n : Int)]) (hz : n ≤ 40000) (hw : ∀ x, wipe ((wipe σ vs).set j (some x)) vs = wipe σ vs)
    (he : ∀ (i : Nat) H1, Ex H H1 → i < n → EvL te ((wipe σ vs).set j (some (.int (i : Int)))) H1 (row i)) : EvR (tLc (iRng1 ta) (gName j) tYes te vs) σ H n row := fun H0 e Q q => h H0 e _ fun H1 e1 => ⟨(n : Int), rfl, by omega, by omega, fun Dl hD =>
  lc_range (lo := 0) (n := (n : Int).toNat) (RW H1 row Dl) ⟨hD, Ex.new hD, [], rfl, upd_same, fun j v z => by cases z⟩
    (fun i H' hi p => by
      have e0 : (0 : Int) + (i : Int) = (i : Int) := Int.zero_add _
      show wipe ((wipe σ vs).set j (some (.int ((0 : Int) + (i : Int))))) vs = wipe σ vs ∧ te ((wipe σ vs).set j (some (.int ((0 : Int) + (i : Int))))) H' fun y H4 => ∃ acc, H4 Dl = some (.lst acc) ∧ acc.length < sizeLine ∧ RW H1 row Dl (i + 1) (upd H4 Dl (.lst (acc ++ [y])))
      rw [e0]
      exact ⟨hw _, rw_turn p (by omega) (he i H' ((e.trans e1).trans p.2.1) (by omega))⟩)
    (fun H' p => let ⟨rs, h1, h2, h3⟩ := p.2.2; q rs Dl H' (fresh_back e1 p.1) (e1.trans p.2.1) h2 (by rw [h1, Int.toNat_natCast]) h3)⟩
theorem q_asgR {n i : Nat} {row : Nat → List V} (h : EvR te σ H n row) (k : ∀ rs Dl H2, H Dl = none → Ex H H2 → H2 Dl = some (.lst rs) → rs.length = n → Rws row Dl rs H2 → tz D (σ.set i (some (.ref Dl))) H2) : tSeq (tAsg te (gName i)) tz D σ H := h H (Ex.refl _) _ fun rs Dl H2 h1 h2 h3 h4 h5 => k rs Dl H2 h1 h2 h3 h4 h5
/-- rows of bools as data -/
def rowD (rb : Nat → List Bool) (n : Nat) : List PyData := (List.range n).map fun i => .list ((rb i).map PyData.bool)
theorem rows_dp {Dl : Addr} : ∀ {rs : List V} {rb : Nat → List Bool}, Rws (fun i => (rb i).map V.bl) Dl rs H → DpAll K H rs (rowD rb rs.length)
  | [], _, _ => .nil
  | v :: rs, rb, h => by
    obtain ⟨p, _, rfl, hp⟩ := h 0 _ rfl
    have e : rowD rb (V.ref p :: rs).length = .list ((rb 0).map PyData.bool) :: rowD (fun i => rb (i + 1)) rs.length := by
      unfold rowD
      rw [List.length_cons, List.range_succ_eq_map, List.map_cons, List.map_map]
      rfl
    rw [e]
    exact .cons (.lst (sq_of hp) (dp_bools H _)) (rows_dp (rb := fun i => rb (i + 1)) fun j v hj => h (j + 1) v hj)
theorem rws_ex {Dl : Addr} {rs : List V} {row : Nat → List V} (h : Rws row Dl rs H) (e : Ex H H') : Rws row Dl rs H' := fun j v hj => let ⟨p, h1, h2, h3⟩ := h j v hj; ⟨p, h1, h2, e _ _ h3⟩
end
end Gen
set_option Elab.async false
set_option linter.all false
set_option maxRecDepth 100000
set_option maxHeartbeats 4000000
namespace K21
open PySem PySem.Spec PyProof.Rows L2 Evl Gen
section
variable {P : Program} {w : World} {K : PySem.W.Frag} {mg : Str → Option Value} {base : Heap} {fd : Nat → FuncData}
theorem sc_is_integer : FnScope ["value"] ["value"] (defScope (topS 4)) := ⟨rfl, rfl, rfl, by decide +kernel, rfl, by decide +kernel, by decide +kernel⟩
theorem ok_is_integer (T : Tx K mg fd) : FnOk P w K mg base CX0 1 (He.ga K "is_integer") (fd 0) ["value"] (spV1 isI) := by
  refine (T.df 0 4 "is_integer" rfl).ok sc_is_integer (fun vs H Q E h => ?len) (fun cdv A outer s H vs Q E hr h => ?body)
  case body =>
    refine ⟨_, (pss_one (ps_ret (pe_and (pe_callB call_isi (by rfl) (T.fr 40 "isinstance" rfl) (by decide +kernel) (pa_cons (pv 0) (pa_cons (pe_bltn (v := V.ty "int") (by rfl) (T.fr 41 "int" rfl) (by decide +kernel) rfl) pa_nil))) (pe_one (pe_not (pe_callB call_isi (by rfl) (T.fr 40 "isinstance" rfl) (by decide +kernel) (pa_cons (pv 0) (pa_cons (pe_bltn (v := V.ty "bool") (by rfl) (T.fr 42 "bool" rfl) (by decide +kernel) rfl) pa_nil)))))))), ?_⟩
    obtain ⟨v, t, rfl, k, hz, q⟩ := h
    refine s_ret (v := .bl (isI v)) ?_ fun H1 e => q.go e
    exact ev_andV (ev_isi (ev_var rfl) k k.int_ ev_c) fun _ => ev_notV (ev_isi (ev_var rfl) k k.bool_ ev_c)
  case len =>
    obtain ⟨v, t, rfl, _⟩ := h
    rfl
theorem sc_is_name : FnScope ["value", "sign"] ["value"] (defScope (topS 5)) := ⟨rfl, rfl, rfl, by decide +kernel, rfl, by decide +kernel, by decide +kernel⟩
theorem ok_is_name (T : Tx K mg fd) : FnOk P w K mg base CX0 1 (He.ga K "is_name") (fd 1) ["value"] (spV1 isN) := by
  obtain ⟨tL, hL⟩ := T.long
  obtain ⟨tS, hS⟩ := T.signs
  refine (T.df 1 5 "is_name" rfl).ok sc_is_name (fun vs H Q E h => ?len) (fun cdv A outer s H vs Q E hr h => ?body)
  case body =>
    refine ⟨_, (pss_cons (ps_if (PW.pt (pw_or (pt_not (pt_val (pe_callB call_isi (by rfl) (T.fr 40 "isinstance" rfl) (by decide +kernel) (pa_cons (pv 0) (pa_cons (pe_bltn (v := V.ty "str") (by rfl) (T.fr 43 "str" rfl) (by decide +kernel) rfl) pa_nil))))) (pw_or1 (pt_not (pt_chain op_le op_le pe_int (pe_callB call_len (by rfl) (T.fr 47 "len" rfl) (by decide +kernel) (pa_cons (pv 0) pa_nil)) (pe_glob (v := V.int 6) (by rfl) hL ⟨_, rfl⟩)))))) (pss_one (ps_ret pe_bl)) pss_nil) (pss_one (ps_ret (pe_callB (cr_all rfl) (by rfl) (T.fr 48 "all" rfl) (by decide +kernel) (pa_cons (pe_lc (own := [("sign", 1)]) (g := gName 1) rfl sc_is_name.nd (pi_str (pv 0)) (blkOk_by (N := ["value", "sign"]) (sc := (defScope (topS 5))) (own := [("sign", 1)]) (by decide +kernel)) (fun _ _ _ _ _ => (pg_name (i := 1) sc_is_name.nd rfl (Or.inl rfl))) (fun _ _ _ _ _ => pts_nil) (fun _ _ _ _ _ => (pe_cmpR op_in_sign (pv 1) (pe_glob (v := V.str sgn) (by rfl) hS ⟨_, rfl⟩) rfl))) pa_nil))))), ?_⟩
    obtain ⟨v, t, rfl, k, hz, q⟩ := h
    cases hk : kS v with
    | false =>
      refine q_when (b := true) ?_ (fun _ H1 e => s_ret ev_c fun H2 e2 => ?_) (fun z => nomatch z)
      · refine et_is (a := (!kS v) || false) (et_or (b := false) (et_not (et_B (ev_isi (ev_var rfl) k k.str_ ev_c))) (fun h => ?_)) (by rw [hk]; rfl)
        rw [hk] at h
        cases h
      · have g := q H2 (e.trans e2)
        rw [isN_no hk] at g
        exact g
    | true =>
      obtain ⟨x, rfl⟩ := kS_str hk
      have hzx := hz x rfl
      refine q_when (b := !(decide (1 ≤ (x.length : Int)) && decide ((x.length : Int) ≤ 6))) ?_ (fun hb H1 e => s_ret ev_c fun H2 e2 => ?_) (fun hb H1 e => ?_)
      · refine et_or (a := false) (b := !(decide (1 ≤ (x.length : Int)) && decide ((x.length : Int) ≤ 6))) (et_not (a := true) (et_B (ev_isi (ev_var rfl) k k.str_ ev_c))) (fun _ => et_not ?_)
        exact et_chain ev_c (ev_lenX (ev_var rfl) fun H1 _ Q q => ⟨_, _, rfl, ⟨z_in hzx, rfl⟩, q⟩) ev_c rv_I0 rv_I0
      · have g := q H2 (e.trans e2)
        have e0 : isN (.str x) = false := isN_out (by cases hc : (decide (1 ≤ (x.length : Int)) && decide ((x.length : Int) ≤ 6)) with
          | true => rw [hc] at hb; cases hb
          | false => rfl)
        rw [e0] at g
        exact g
      · refine s_ret (v := .bl (isN (.str x))) ?_ fun H2 e2 => q.go (e.trans e2)
        have e0 : isN (.str x) = (x.cps.toList.map fun c => decide (c ∈ sgn.cps.toList)).all id := isN_in (by cases hc : (decide (1 ≤ (x.length : Int)) && decide ((x.length : Int) ≤ 6)) with
          | true => rfl
          | false => rw [hc] at hb; cases hb)
        rw [e0]
        exact ev_all (el_lcS _ (ev_var rfl) (Nat.le_trans hzx (by decide)) (fun _ => rfl) fun c H1 _ => ev_op (ev_var rfl) ev_c fun H2 _ Q q => ⟨c, sgn, rfl, rfl, q H2 (Ex.refl _)⟩)

  case len =>
    obtain ⟨v, t, rfl, _⟩ := h
    rfl
/-- of these kinds: a list, a tuple, neither -/
def kL (t : String) : Bool := t == "list" || t == "tuple"
def spIsList (K : PySem.W.Frag) : Sp := fun vs H Q _ => ∃ (a : Addr) (xs : List V), vs = [.ref a] ∧ Sq K H a xs ∧ RetV (.bl true) H Q
theorem kit_any1 : PySem.W.kitAny K (.type "list") [.type "list", .type "tuple"] = some true :=
  kitAny_cons (b := true) (kit_ty (by decide +kernel)) (fun h => nomatch h) (fun _ => rfl)
theorem kit_any2 : PySem.W.kitAny K (.type "tuple") [.type "list", .type "tuple"] = some true :=
  kitAny_cons (b := false) (kit_ty (by decide +kernel)) (fun _ => kitAny_cons (b := true) (kit_ty (by decide +kernel)) (fun h => nomatch h) (fun _ => rfl)) (fun h => nomatch h)
theorem sc_is_list : FnScope ["value"] ["value"] (defScope (topS 6)) := ⟨rfl, rfl, rfl, by decide +kernel, rfl, by decide +kernel, by decide +kernel⟩
theorem ok_is_list (T : Tx K mg fd) : FnOk P w K mg base CX0 1 (He.ga K "is_list") (fd 2) ["value"] (spIsList K) := by
  refine (T.df 2 6 "is_list" rfl).ok sc_is_list (fun vs H Q E h => ?len) (fun cdv A outer s H vs Q E hr h => ?body)
  case body =>
    refine ⟨_, (pss_one (ps_ret (pe_callB call_isiT (by rfl) (T.fr 40 "isinstance" rfl) (by decide +kernel) (pa_cons (pv 0) (pa_cons (pe_tup (pa_cons (pe_bltn (v := V.ty "list") (by rfl) (T.fr 44 "list" rfl) (by decide +kernel) rfl) (pa_cons (pe_bltn (v := V.ty "tuple") (by rfl) (T.fr 45 "tuple" rfl) (by decide +kernel) rfl) pa_nil))) pa_nil))))), ?_⟩
    obtain ⟨a, xs, rfl, hx, q⟩ := h
    refine ⟨_, rfl, ?_⟩
    refine ⟨by show 2 ≤ sizeLine; decide, fun p hp => ?_⟩
    have e1 := Ex.new (o := HO.tup [.ty "list", .ty "tuple"]) hp
    rcases hx with hx | hx
    · exact ⟨.ref a, p, [.ty "list", .ty "tuple"], .type "list", [.type "list", .type "tuple"], true, rfl, upd_same, .cons (.ty _) (.cons (.ty _) .nil), sqL_ty (ex_l e1 hx), kit_any1, q _ e1⟩
    · exact ⟨.ref a, p, [.ty "list", .ty "tuple"], .type "tuple", [.type "list", .type "tuple"], true, rfl, upd_same, .cons (.ty _) (.cons (.ty _) .nil), sqT_ty (ex_t e1 hx), kit_any2, q _ e1⟩
  case len =>
    obtain ⟨a, xs, rfl, _⟩ := h
    rfl
end
end K21
set_option Elab.async false
set_option linter.all false
set_option maxRecDepth 100000
set_option maxHeartbeats 4000000
/-! readings of dicts by texts, of levels -/
namespace Gen
open PySem L2 Evl
theorem u1 {n : Nat} (h : n + 64 < cLine) : n + 1 < cLine := by omega
section
variable {K : PySem.W.Frag} {σ : L2.St} {H H' : Hp} {td ty tv : TE} {d a : Addr} {kvs : List (Key × V)} {x : Str} {v : V} {D : Ends} {tz : TS}
theorem ev_din (hy : Ev ty σ H (.str x)) (hd : Ev td σ H (.ref d)) (h : H d = some (.dK kvs)) : Ev (tDIn ty td) σ H (.bl (valV kvs (.inr x)).isSome) := fun H1 e Q q =>
  hy H1 e _ fun H2 e2 => hd H2 (e.trans e2) _ fun H3 e3 => ⟨d, _, rfl, DGet.k (k := .inr x) (((e.trans e2).trans e3) _ _ h), q H3 (e2.trans e3)⟩
theorem ev_dnotin (hy : Ev ty σ H (.str x)) (hd : Ev td σ H (.ref d)) (h : H d = some (.dK kvs)) : Ev (tDNotIn ty td) σ H (.bl (!(valV kvs (.inr x)).isSome)) := fun H1 e Q q =>
  hy H1 e _ fun H2 e2 => hd H2 (e.trans e2) _ fun H3 e3 => ⟨d, _, rfl, DGet.k (k := .inr x) (((e.trans e2).trans e3) _ _ h), q H3 (e2.trans e3)⟩
theorem ev_dget (hd : Ev td σ H (.ref d)) (hy : Ev ty σ H (.str x)) (h : H d = some (.dK kvs)) (hv : valV kvs (.inr x) = some v) : Ev (tDGet td ty) σ H v := fun H1 e Q q =>
  hd H1 e _ fun H2 e2 => hy H2 (e.trans e2) _ fun H3 e3 => ⟨d, v, rfl, hv ▸ DGet.k (k := .inr x) (((e.trans e2).trans e3) _ _ h), q H3 (e2.trans e3)⟩
theorem s_dput (hd : Ev td σ H (.ref d)) (hy : Ev ty σ H (.str x)) (hv : Ev tv σ H v) (h : H d = some (.dK kvs)) (hz : kvs.length < 100000) (k : ∀ H1, Ex H H1 → D.nx σ (upd H1 d (.dK (putK kvs (.inr x) v)))) : sDPut td ty tv D σ H :=
  hv H (Ex.refl H) _ fun H1 e1 => hd H1 e1 _ fun H2 e2 => hy H2 (e1.trans e2) _ fun H3 e3 => ⟨d, _, rfl, DPut.k (k := .inr x) (((e1.trans e2).trans e3) _ _ h) (sz_lt hz), k H3 ((e1.trans e2).trans e3)⟩
theorem q_dput (hd : Ev td σ H (.ref d)) (hy : Ev ty σ H (.str x)) (hv : Ev tv σ H v) (h : H d = some (.dK kvs)) (hz : kvs.length < 100000) (k : ∀ H1, Ex H H1 → tz D σ (upd H1 d (.dK (putK kvs (.inr x) v)))) : tSeq (sDPut td ty tv) tz D σ H :=
  s_dput (D := { D with nx := tz D }) hd hy hv h hz k
theorem q_dnew {i : Nat} (k : ∀ p, H p = none → tz D (σ.set i (some (.ref p))) (upd H p (.dK []))) : tSeq (tAsg tDNewK (gName i)) tz D σ H := fun p hp => k p hp
end
/-- levels: rows of texts -/
def LvAt (K : PySem.W.Frag) (H : Hp) (a : Addr) (ls : List (List Str)) : Prop :=
  ∃ rows, Sq K H a rows ∧ rows.length = ls.length ∧ ∀ (i : Nat) (ws : List Str), ls[i]? = some ws → ∃ p, rows[i]? = some (.ref p) ∧ Sq K H p (ws.map V.str)
theorem LvAt.ex {K : PySem.W.Frag} {H H' : Hp} {a : Addr} {ls : List (List Str)} (h : LvAt K H a ls) (e : Ex H H') : LvAt K H' a ls :=
  let ⟨rows, h1, h2, h3⟩ := h
  ⟨rows, ex_s e h1, h2, fun i ws hi => let ⟨p, h4, h5⟩ := h3 i ws hi; ⟨p, h4, ex_s e h5⟩⟩
def plRow (n : Nat) (ws : List Str) (acc : List (Key × V)) : List (Key × V) := ws.foldl (fun acc w => putK acc (.inr w) (.int (n : Int))) acc
def plTo : Nat → List (List Str) → List (Key × V) → List (Key × V)
  | _, [], acc => acc
  | n, ws :: r, acc => plTo (n + 1) r (plRow n ws acc)
theorem plTo_snoc {ws : List Str} : ∀ {ls : List (List Str)} {n : Nat} {acc : List (Key × V)}, plTo n (ls ++ [ws]) acc = plRow (n + ls.length) ws (plTo n ls acc)
  | [], n, acc => rfl
  | l :: r, n, acc => by
    show plTo (n + 1) (r ++ [ws]) (plRow n l acc) = _
    rw [plTo_snoc, List.length_cons, Nat.add_assoc, Nat.add_comm 1]
    rfl
theorem plRow_len : ∀ {ws : List Str} {n : Nat} {acc : List (Key × V)}, (plRow n ws acc).length ≤ acc.length + ws.length
  | [], n, acc => by show acc.length ≤ acc.length + 0; omega
  | w :: r, n, acc => by
    have h1 : (plRow n r (putK acc (.inr w) (.int (n : Int)))).length ≤ (putK acc (.inr w) (.int (n : Int))).length + r.length := plRow_len
    have h2 := length_putK acc (.inr w) (.int (n : Int))
    show (plRow n r (putK acc (.inr w) (.int (n : Int)))).length ≤ acc.length + (r.length + 1)
    omega
def many (ls : List (List Str)) : Nat := (ls.map List.length).sum
theorem plTo_len : ∀ {ls : List (List Str)} {n : Nat} {acc : List (Key × V)}, (plTo n ls acc).length ≤ acc.length + many ls
  | [], n, acc => by show acc.length ≤ acc.length + 0; omega
  | l :: r, n, acc => by
    have h1 : (plTo (n + 1) r (plRow n l acc)).length ≤ _ := plTo_len
    have h2 : (plRow n l acc).length ≤ _ := plRow_len
    have h3 : many (l :: r) = l.length + many r := rfl
    show (plTo (n + 1) r (plRow n l acc)).length ≤ _
    omega
theorem many_take {ls : List (List Str)} {i : Nat} {ws : List Str} (h : ls[i]? = some ws) : many (ls.take i) + ws.length ≤ many ls := by
  have e : ls = ls.take i ++ ws :: ls.drop (i + 1) := by
    have hi := (List.getElem?_eq_some_iff.mp h)
    obtain ⟨hl, he⟩ := hi
    have := List.take_append_drop i ls
    rw [List.drop_eq_getElem_cons hl, he] at this
    exact this.symm
  have e2 : many ls = many (ls.take i) + (ws.length + many (ls.drop (i + 1))) := by
    conv => lhs; rw [e]
    unfold many
    rw [List.map_append, List.sum_append]
    rfl
  omega
theorem take_snoc {α : Type} {ls : List α} {i : Nat} {ws : α} (h : ls[i]? = some ws) : ls.take (i + 1) = ls.take i ++ [ws] := by
  rw [List.take_add_one, h]
  rfl
/-- a line that fits -/
def fitB (kvs : List (Key × V)) (x y : Str) : Bool :=
  match valV kvs (.inr x), valV kvs (.inr y) with
  | some (.int i), some (.int j) => decide (j = i + 1)
  | _, _ => false
end Gen
set_option Elab.async false
set_option linter.all false
set_option maxRecDepth 100000
set_option maxHeartbeats 4000000
namespace K21
open PySem PySem.Spec PyProof.Rows L2 Evl Gen
section
variable {P : Program} {w : World} {K : PySem.W.Frag} {mg : Str → Option Value} {base : Heap} {fd : Nat → FuncData}
def spNode : Sp := fun vs H Q _ => ∃ (x : Str) (d : Addr) (kvs : List (Key × V)), vs = [.str x, .ref d] ∧ H d = some (.dK kvs) ∧ RetV (.bl (valV kvs (.inr x)).isSome) H Q
theorem node_sp {H : Hp} {x : Str} {d : Addr} {kvs : List (Key × V)} (h : H d = some (.dK kvs)) : SpV spNode [.str x, .ref d] H (.bl (valV kvs (.inr x)).isSome) := fun H1 e Q q E => ⟨x, d, kvs, rfl, e _ _ h, q⟩
theorem sc_is_node : FnScope ["value", "places"] ["value", "places"] (defScope (topS 27)) := ⟨rfl, rfl, rfl, by decide +kernel, rfl, by decide +kernel, by decide +kernel⟩
theorem ok_is_node (T : Tx K mg fd) : FnOk P w K mg base CX0 1 (He.ga K "is_node") (fd 5) ["value", "places"] spNode := by
  refine (T.df 5 27 "is_node" rfl).ok sc_is_node (fun vs H Q E h => ?len) (fun cdv A outer s H vs Q E hr h => ?body)
  case body =>
    refine ⟨_, (pss_one (ps_ret (pe_and (pe_callB call_isi (by rfl) (T.fr 40 "isinstance" rfl) (by decide +kernel) (pa_cons (pv 0) (pa_cons (pe_bltn (v := V.ty "str") (by rfl) (T.fr 43 "str" rfl) (by decide +kernel) rfl) pa_nil))) (pe_one (pe_cmp (pc_din (u1 hr.units) (pv 0) (pv 1))))))), ?_⟩
    obtain ⟨x, d, kvs, rfl, hd, q⟩ := h
    refine s_ret (v := .bl (valV kvs (.inr x)).isSome) ?_ fun H1 e => q.go e
    exact ev_andV (a := true) (ev_isi (ev_var rfl) (.str x) (Ky.str (H := H) x).str_ ev_c) fun _ => ev_din (ev_var rfl) (ev_var rfl) hd
  case len =>
    obtain ⟨x, d, kvs, rfl, _⟩ := h
    rfl
def spFits : Sp := fun vs H Q _ => ∃ (a : Addr) (x y : Str) (d : Addr) (kvs : List (Key × V)), vs = [.ref a, .ref d] ∧ H a = some (.tup [.str x, .str y]) ∧ H d = some (.dK kvs) ∧ (∀ z v, valV kvs (.inr z) = some v → ∃ i : Int, v = .int i) ∧ RetV (.bl (fitB kvs x y)) H Q
theorem sc_fits_as_line : FnScope ["value", "places", "low", "high"] ["value", "places"] (defScope (topS 28)) := ⟨rfl, rfl, rfl, by decide +kernel, rfl, by decide +kernel, by decide +kernel⟩
theorem ok_fits_as_line (T : Tx K mg fd) : FnOk P w K mg base CX0 2 (He.ga K "fits_as_line") (fd 6) ["value", "places"] spFits := by
  refine (T.df 6 28 "fits_as_line" rfl).ok sc_fits_as_line (fun vs H Q E h => ?len) (fun cdv A outer s H vs Q E hr h => ?body)
  case body =>
    refine ⟨_, (pss_cons (ps_if (PW.pt (pw_or (pt_not (pt_val (pe_callB call_isi (by rfl) (T.fr 40 "isinstance" rfl) (by decide +kernel) (pa_cons (pv 0) (pa_cons (pe_bltn (v := V.ty "tuple") (by rfl) (T.fr 45 "tuple" rfl) (by decide +kernel) rfl) pa_nil))))) (pw_or1 (pt_cmpR op_ne (pe_callB call_len (by rfl) (T.fr 47 "len" rfl) (by decide +kernel) (pa_cons (pv 0) pa_nil)) pe_int (nomark _))))) (pss_one (ps_ret pe_bl)) pss_nil) (pss_cons (ps_asg (pv 0) (pg_tup rfl (pgs_cons (pg_name (i := 2) sc_fits_as_line.nd rfl (Or.inl rfl)) (pgs_cons (pg_name (i := 3) sc_fits_as_line.nd rfl (Or.inl rfl)) pgs_nil)))) (pss_cons (ps_if (PW.pt (pw_or (pt_not (pt_val (pe_call (ok_is_node T) (hr.mono (by decide)) (by rfl) (T.gl 7 "is_node" rfl) (T.df 5 27 "is_node" rfl).kp ((T.df 5 27 "is_node" rfl).binds (ps := ["value", "places"]) fun _ _ _ _ _ _ us hl => match us, hl with | [_, _], _ => rfl) .nil pass0 (pa_cons (pv 2) (pa_cons (pv 1) pa_nil))))) (pw_or1 (pt_not (pt_val (pe_call (ok_is_node T) (hr.mono (by decide)) (by rfl) (T.gl 7 "is_node" rfl) (T.df 5 27 "is_node" rfl).kp ((T.df 5 27 "is_node" rfl).binds (ps := ["value", "places"]) fun _ _ _ _ _ _ us hl => match us, hl with | [_, _], _ => rfl) .nil pass0 (pa_cons (pv 3) (pa_cons (pv 1) pa_nil)))))))) (pss_one (ps_ret pe_bl)) pss_nil) (pss_one (ps_ret (pe_cmpR op_eq (pe_dget (u1 hr.units) (pv 1) (pv 3) (fun _ _ => rfl)) (pe_op op_add (pe_dget (u1 hr.units) (pv 1) (pv 2) (fun _ _ => rfl)) pe_int) (nomark _))))))), ?_⟩
    obtain ⟨a, x, y, d, kvs, rfl, ha, hd, hk, q⟩ := h
    refine q_when (b := false) ?_ (fun z => nomatch z) fun _ H1 e1 => ?_
    · refine et_is (a := (!true) || !(decide ((2 : Int) = 2))) (et_or (et_not (a := true) (et_B (ev_isi (ev_var rfl) (.tup ha) (by show kitB _ _ = some true; decide +kernel) ev_c))) fun _ => ?_) rfl
      refine et_test (ev_op (ev_lenX (n := 2) (ev_var rfl) fun H1 e Q q => ⟨_, 2, rfl, Or.inr ⟨_, st_of (e _ _ ha), rfl⟩, q⟩) ev_c (rv_val fun H1 e Q q => ?_))
      exact ⟨rfl, q⟩
    refine ⟨V.ref a, rfl, a, _, rfl, st_of (e1 _ _ ha), rfl, _, _, rfl, _, _, rfl, rfl, ?_⟩
    have e2 := Ex.refl H1
    have hd2 := (e1.trans e2) _ _ hd
    dsimp only
    cases hx : valV kvs (.inr x) with
    | none =>
      have e0 : fitB kvs x y = false := by unfold fitB; rw [hx]
      refine q_when (b := true) ?_ (fun _ H3 e3 => s_ret ev_c fun H4 e4 => ?_) (fun z => nomatch z)
      · refine et_is (a := true || false) (et_or (et_not (a := false) (et_B ?_)) fun z => nomatch z) rfl
        exact ev_is (ev_call0 (ea_cons (ev_var rfl) (ea_cons (ev_var rfl) ea_nil)) (node_sp hd2)) (by rw [hx]; rfl)
      · rw [← e0]; exact q.go (((e1.trans e2).trans e3).trans e4)
    | some vx =>
    cases hy : valV kvs (.inr y) with
    | none =>
      have e0 : fitB kvs x y = false := by unfold fitB; rw [hx, hy]; split <;> first | rfl | (rename_i z; cases z)
      refine q_when (b := true) ?_ (fun _ H3 e3 => s_ret ev_c fun H4 e4 => ?_) (fun z => nomatch z)
      · refine et_is (a := false || true) (et_or (et_not (a := true) (et_B ?_)) fun _ => et_not (a := false) (et_B ?_)) rfl
        · exact ev_is (ev_call0 (ea_cons (ev_var rfl) (ea_cons (ev_var rfl) ea_nil)) (node_sp hd2)) (by rw [hx]; rfl)
        · exact ev_is (ev_call0 (ea_cons (ev_var rfl) (ea_cons (ev_var rfl) ea_nil)) (node_sp hd2)) (by rw [hy]; rfl)
      · rw [← e0]; exact q.go (((e1.trans e2).trans e3).trans e4)
    | some vy =>
    obtain ⟨i, rfl⟩ := hk _ _ hx
    obtain ⟨j, rfl⟩ := hk _ _ hy
    have e0 : fitB kvs x y = decide (j = i + 1) := by unfold fitB; rw [hx, hy]
    refine q_when (b := false) ?_ (fun z => nomatch z) fun _ H3 e3 => s_ret (v := .bl (fitB kvs x y)) ?_ fun H4 e4 => q.go (((e1.trans e2).trans e3).trans e4)
    · refine et_is (a := false || false) (et_or (et_not (a := true) (et_B ?_)) fun _ => et_not (a := true) (et_B ?_)) rfl
      · exact ev_is (ev_call0 (ea_cons (ev_var rfl) (ea_cons (ev_var rfl) ea_nil)) (node_sp hd2)) (by rw [hx]; rfl)
      · exact ev_is (ev_call0 (ea_cons (ev_var rfl) (ea_cons (ev_var rfl) ea_nil)) (node_sp hd2)) (by rw [hy]; rfl)
    · rw [e0]
      refine ev_is (ev_op (ev_dget (ev_var rfl) (ev_var rfl) (e3 _ _ hd2) hy) (ev_op (ev_dget (ev_var rfl) (ev_var rfl) (e3 _ _ hd2) hx) ev_c rv_I0) (rv_eq rfl)) ?_
      show V.bl (decide (V.int j = V.int (i + 1))) = _
      exact congrArg V.bl (by simp)
  case len =>
    obtain ⟨a, x, y, d, kvs, rfl, _⟩ := h
    rfl
def spPlaces (K : PySem.W.Frag) : Sp := fun vs H Q _ => ∃ (a : Addr) (ls : List (List Str)), vs = [.ref a] ∧ LvAt K H a ls ∧ many ls ≤ 1000 ∧ ∀ p H2, H p = none → Ex H H2 → H2 p = some (.dK (plTo 0 ls [])) → Q (.ref p) H2
theorem sc_places_of : FnScope ["levels", "places", "number", "names", "name"] ["levels"] (defScope (topS 26)) := ⟨rfl, rfl, rfl, by decide +kernel, rfl, by decide +kernel, by decide +kernel⟩
theorem ok_places_of (T : Tx K mg fd) : FnOk P w K mg base CX0 1 (He.ga K "places_of") (fd 4) ["levels"] (spPlaces K) := by
  refine (T.df 4 26 "places_of" rfl).ok sc_places_of (fun vs H Q E h => ?len) (fun cdv A outer s H vs Q E hr h => ?body)
  case body =>
    refine ⟨_, (pss_cons (ps_set (i := 1) sc_places_of.nd rfl (Or.inl rfl) pe_dnewK) (pss_cons (ps_for PassesOwn.never rfl (pi_enumS (by rfl) (T.fr 55 "enumerate" rfl) (pa_cons (pv 0) pa_nil)) (pg_tup rfl (pgs_cons (pg_name (i := 2) sc_places_of.nd rfl (Or.inl rfl)) (pgs_cons (pg_name (i := 3) sc_places_of.nd rfl (Or.inl rfl)) pgs_nil))) (pss_one (ps_for PassesOwn.never rfl (pi_seq (pv 3)) (pg_name (i := 4) sc_places_of.nd rfl (Or.inl rfl)) (pss_one (ps_dput (u1 hr.units) (pv 1) (pv 4) (pv 2) rfl))))) (pss_one (ps_ret (pv 1))))), ?_⟩
    obtain ⟨a, ls, rfl, ⟨rows, hR, hl, hi⟩, hm, q⟩ := h
    refine q_dnew fun p hp => ?_
    refine q_forE (H0 := H) (ea_cons (ev_var rfl) ea_nil) (Ex.new hp) hR (fun i σ' H' => (∃ o2 o3 o4, σ' = [some (.ref a), some (.ref p), o2, o3, o4]) ∧ Ex H H' ∧ H' p = some (.dK (plTo 0 (ls.take i) []))) (fun H1 e1 => ⟨⟨none, none, none, rfl⟩, (Ex.new hp).trans e1, e1 _ _ upd_same⟩) (fun i σ' H' p => p.2.1) (fun i x σ' H' H2 hx pp e2 => ?turn) (fun σ' H' pp => ?fin)
    case fin =>
      obtain ⟨⟨o2, o3, o4, rfl⟩, e1, h1⟩ := pp
      rw [hl, List.take_length] at h1
      exact s_ret (ev_var rfl) fun H3 e3 => q p H3 hp (e1.trans e3) (e3 _ _ h1)
    case turn =>
      obtain ⟨⟨o2, o3, o4, rfl⟩, e1, h1⟩ := pp
      have hil : i < ls.length := by rw [← hl]; exact (List.getElem?_eq_some_iff.mp hx).1
      have hws : ls[i]? = some ls[i] := List.getElem?_eq_getElem hil
      obtain ⟨r, hr', hs⟩ := hi i _ hws
      rw [hr'] at hx
      cases hx
      have hmt := many_take hws
      refine s_forS (H0 := H) (ev_var rfl) (e1.trans e2) hs (fun j σ' H' => (∃ o4, σ' = [some (.ref a), some (.ref p), some (.int (i : Int)), some (.ref r), o4]) ∧ Ex H H' ∧ H' p = some (.dK (plRow i (ls[i].take j) (plTo 0 (ls.take i) [])))) (fun H3 e3 => ⟨⟨o4, rfl⟩, (e1.trans e2).trans e3, e3 _ _ (e2 _ _ h1)⟩) (fun j σ' H' p => p.2.1) (fun j y σ' H' hy pp => ?turn2) (fun σ' H' pp => ?fin2)
      case fin2 =>
        obtain ⟨⟨o4, rfl⟩, e3, h3⟩ := pp
        refine ⟨⟨_, _, _, rfl⟩, e3, ?_⟩
        rw [take_snoc hws, plTo_snoc, h3, List.length_map, List.take_length, List.length_take, Nat.min_eq_left (Nat.le_of_lt hil), Nat.zero_add]
      case turn2 =>
        obtain ⟨⟨o4, rfl⟩, e3, h3⟩ := pp
        obtain ⟨u, hu, rfl⟩ : ∃ u, ls[i][j]? = some u ∧ V.str u = y := by simpa using hy
        refine s_dput (ev_var rfl) (ev_var rfl) (ev_var rfl) h3 ?_ fun H4 e4 => ⟨⟨_, rfl⟩, Ex.mut (e3.trans e4) hp, ?_⟩
        · have l1 : (plRow i (ls[i].take j) (plTo 0 (ls.take i) [])).length ≤ _ := plRow_len
          have l2 : (plTo 0 (ls.take i) []).length ≤ _ := plTo_len
          have l3 : (ls[i].take j).length ≤ ls[i].length := by rw [List.length_take]; exact Nat.min_le_right _ _
          have l4 : ([] : List (Key × V)).length = 0 := rfl
          omega
        · rw [upd_same, take_snoc hu]
          unfold plRow
          rw [List.foldl_append]
          rfl
  case len =>
    obtain ⟨a, ls, rfl, _⟩ := h
    rfl
end
end K21
set_option Elab.async false
set_option linter.all false
set_option maxRecDepth 100000
set_option maxHeartbeats 4000000
/-! readings of sets of texts, of sets of tuples -/
namespace Gen
open PySem L2 Evl
section
variable {P : Program} {w : World} {K : PySem.W.Frag} {σ : L2.St} {H H' : Hp} {td ty tv : TE} {d a b : Addr} {x : Str} {v : V} {D : Ends} {tz : TS} {S : Key → Bool} {n : Nat} {L : List (Addr × List Key)} {k : List Key}
theorem q_setK {i : Nat} (h : ∀ p, H p = none → tz D (σ.set i (some (.ref p))) (upd H p (SetK P w p (fun _ => false) 0))) : tSeq (tAsg (tCB (rSet0K P w) tNil) (gName i)) tz D σ H := ⟨rfl, fun p hp => h p hp⟩
theorem ev_sinK (hx : Ev ty σ H (.str x)) (hd : Ev td σ H (.ref a)) (h : H a = some (SetK P w a S n)) : Ev (tOp (rSInK P w false) ty td) σ H (.bl (S (.inr x))) :=
  ev_op hx hd (rv_val fun H6 e9 Q q => ⟨.inr x, a, _, _, rfl, rfl, e9 _ _ h, q⟩)
theorem s_saddK (hd : Ev td σ H (.ref a)) (hx : Ev ty σ H (.str x)) (h : H a = some (SetK P w a S n)) (hn : n < 4000) (hS : S (.inr x) = false) (q : ∀ H1, Ex H H1 → D.nx σ (upd H1 a (SetK P w a (fun j => S j || decide (j = .inr x)) (n + 1)))) :
    tDrop (tSAddK P w td (tCons ty tNil)) D σ H := hd H (Ex.refl H) _ fun H1 e1 => ⟨⟨a, S, n, rfl, e1 _ _ h⟩, hx H1 e1 _ fun H2 e2 => ⟨a, .inr x, S, n, rfl, rfl, (e1.trans e2) _ _ h, by
  have : scanBound = 4096 := rfl
  omega, by
  rw [hS, if_neg (by decide)]
  exact q H2 (e1.trans e2)⟩⟩
theorem q_setT {i : Nat} (h : ∀ p, H p = none → tz D (σ.set i (some (.ref p))) (upd H p (XT.TSO P w p []))) : tSeq (tAsg (tCB (XT.rSet0T P w) tNil) (gName i)) tz D σ H := ⟨rfl, fun p hp => h p hp⟩
open XT in
theorem ev_sinT (hx : Ev ty σ H (.ref b)) (hd : Ev td σ H (.ref a)) (h : H a = some (TSO P w a L)) (hL : ∀ e ∈ L, SqT K H e.1 (e.2.map kV)) (hb : SqT K H b (k.map kV)) : Ev (tOp (rSInT K P w) ty td) σ H (.bl (memB k L)) :=
  ev_op hx hd (rv_val fun H6 e9 Q q => ⟨a, b, L, k, rfl, rfl, e9 _ _ h, fun e he => ex_t e9 (hL e he), ex_t e9 hb, q⟩)
open XT in
theorem s_saddT (hd : Ev td σ H (.ref a)) (hx : Ev ty σ H (.ref b)) (h : H a = some (TSO P w a L)) (hL : ∀ e ∈ L, SqT K H e.1 (e.2.map kV)) (hb : SqT K H b (k.map kV)) (few : L.length + 1 < 76) (new : k ∉ L.map Prod.snd)
    (q : ∀ H1 L', Ex H H1 → L'.Perm ((b, k) :: L) → D.nx σ (upd H1 a (TSO P w a L'))) : tDrop (tSAddT K P w td (tCons ty tNil)) D σ H := hd H (Ex.refl H) _ fun H1 e1 => ⟨⟨a, L, rfl, e1 _ _ h⟩, hx H1 e1 _ fun H2 e2 =>
  have e := e1.trans e2
  ⟨a, b, L, k, rfl, rfl, e _ _ h, fun x hx => ex_t e (hL x hx), ex_t e hb, few, fun L' ad => q H2 L' e (ad.2 new)⟩⟩
end
end Gen
set_option Elab.async false
set_option linter.all false
set_option maxRecDepth 100000
set_option maxHeartbeats 4000000
namespace K21
open PySem PySem.Spec PyProof.Rows L2 Evl Gen
section
variable {P : Program} {w : World} {K : PySem.W.Frag} {mg : Str → Option Value} {base : Heap} {fd : Nat → FuncData}
theorem islist_sp {H : Hp} {a : Addr} {xs : List V} (h : Sq K H a xs) : SpV (spIsList K) [.ref a] H (.bl true) := fun H1 e Q q E => ⟨a, xs, rfl, ex_s e h, q⟩
theorem lenS {H : Hp} {σ : L2.St} {te : TE} {a : Addr} {xs : List V} (he : Ev te σ H (.ref a)) (h : Sq K H a xs) : Ev (tCB (fun ys H Q => ∃ x n, ys = [x] ∧ LenV K x H n ∧ Q (.int (n : Nat)) H) (tCons te tNil)) σ H (.int (xs.length : Int)) :=
  ev_lenX he fun H1 e Q q => ⟨_, xs.length, rfl, by rcases ex_s e h with h | h <;> first | exact Or.inl ⟨_, h, rfl⟩ | exact Or.inr ⟨_, h, rfl⟩, q⟩
theorem isN_ok {x : Str} (h : isN (.str x) = true) : x.cps.size ≤ 100 := by
  have h1 : (decide (1 ≤ (x.length : Int)) && decide ((x.length : Int) ≤ 6)) = true := by
    cases hc : (decide (1 ≤ (x.length : Int)) && decide ((x.length : Int) ≤ 6)) with
    | true => rfl
    | false => rw [isN_out hc] at h; cases h
  simp only [Bool.and_eq_true, decide_eq_true_eq] at h1
  have : x.length = x.cps.size := rfl
  omega
/-- levels that are good: names, once each -/
structure LvOk (ls : List (List Str)) : Prop where
  some : ls ≠ []
  names : ∀ ws ∈ ls, ∀ x ∈ ws, isN (.str x) = true
  once : ls.flatten.Nodup
  few : many ls ≤ 60
def spLevels (K : PySem.W.Frag) : Sp := fun vs H Q _ => ∃ (a : Addr) (ls : List (List Str)), vs = [.ref a] ∧ LvAt K H a ls ∧ LvOk ls ∧ RetV .non H Q
theorem many_flat : ∀ {ls : List (List Str)}, ls.flatten.length = many ls
  | [] => rfl
  | l :: r => by rw [List.flatten_cons, List.length_append, many_flat]; rfl
theorem flat_take {ls : List (List Str)} {i : Nat} {ws : List Str} (h : ls[i]? = some ws) : (ls.take (i + 1)).flatten = (ls.take i).flatten ++ ws := by
  rw [take_snoc h, List.flatten_append]
  simp
/-- a name that comes next stands not ahead -/
theorem next_new {ls : List (List Str)} {i j : Nat} {ws : List Str} {x : Str} (h : ls.flatten.Nodup) (hi : ls[i]? = some ws) (hj : ws[j]? = some x) : x ∉ (ls.take i).flatten ++ ws.take j := by
  have e1 : ls.flatten = (ls.take (i + 1)).flatten ++ (ls.drop (i + 1)).flatten := by rw [← List.flatten_append, List.take_append_drop]
  rw [e1, flat_take hi] at h
  have h2 := (List.nodup_append.mp h).1
  have e2 : ws = ws.take j ++ x :: ws.drop (j + 1) := by
    obtain ⟨hl, he⟩ := List.getElem?_eq_some_iff.mp hj
    have := List.take_append_drop j ws
    rw [List.drop_eq_getElem_cons hl, he] at this
    exact this.symm
  rw [e2, ← List.append_assoc] at h2
  intro m
  exact (List.nodup_append.mp h2).2.2 x m x (List.mem_cons_self ..) rfl
def inK (L : List Str) (k : Key) : Bool := match k with
  | .inr x => decide (x ∈ L)
  | .inl _ => false
theorem sc_check_levels : FnScope ["levels", "ahead", "position", "names", "name"] ["levels"] (defScope (topS 25)) := ⟨rfl, rfl, rfl, by decide +kernel, rfl, by decide +kernel, by decide +kernel⟩
theorem ok_check_levels (T : Tx K mg fd) : FnOk P w K mg base CX0 3 (He.ga K "check_levels") (fd 3) ["levels"] (spLevels K) := by
  refine (T.df 3 25 "check_levels" rfl).ok sc_check_levels (fun vs H Q E h => ?len) (fun cdv A outer s H vs Q E hr h => ?body)
  case body =>
    refine ⟨_, (pss_cons (ps_if (PW.pt (pw_or (pt_not (pt_val (pe_call (ok_is_list T) (hr.mono (by decide)) (by rfl) (T.gl 4 "is_list" rfl) (T.df 2 6 "is_list" rfl).kp ((T.df 2 6 "is_list" rfl).binds (ps := ["value"]) fun _ _ _ _ _ _ us hl => match us, hl with | [_], _ => rfl) .nil pass0 (pa_cons (pv 0) pa_nil)))) (pw_or1 (pt_cmpR op_eq (pe_callB call_len (by rfl) (T.fr 47 "len" rfl) (by decide +kernel) (pa_cons (pv 0) pa_nil)) pe_int (nomark _))))) (pss_one ps_never) pss_nil) (pss_cons (ps_set (i := 1) sc_check_levels.nd rfl (Or.inl rfl) (pe_callTy0 cr_set0K (by rfl) (T.fr 46 "set" rfl) (by decide +kernel))) (pss_one (ps_for PassesOwn.never rfl (pi_enumS (by rfl) (T.fr 55 "enumerate" rfl) (pa_cons (pv 0) pa_nil)) (pg_tup rfl (pgs_cons (pg_name (i := 2) sc_check_levels.nd rfl (Or.inl rfl)) (pgs_cons (pg_name (i := 3) sc_check_levels.nd rfl (Or.inl rfl)) pgs_nil))) (pss_cons (ps_if (pt_not (pt_val (pe_call (ok_is_list T) (hr.mono (by decide)) (by rfl) (T.gl 4 "is_list" rfl) (T.df 2 6 "is_list" rfl).kp ((T.df 2 6 "is_list" rfl).binds (ps := ["value"]) fun _ _ _ _ _ _ us hl => match us, hl with | [_], _ => rfl) .nil pass0 (pa_cons (pv 3) pa_nil)))) (pss_one ps_never) pss_nil) (pss_one (ps_for PassesOwn.never rfl (pi_seq (pv 3)) (pg_name (i := 4) sc_check_levels.nd rfl (Or.inl rfl)) (pss_cons (ps_if (PW.pt (pw_or (pt_not (pt_val (pe_call (ok_is_name T) (hr.mono (by decide)) (by rfl) (T.gl 3 "is_name" rfl) (T.df 1 5 "is_name" rfl).kp ((T.df 1 5 "is_name" rfl).binds (ps := ["value"]) fun _ _ _ _ _ _ us hl => match us, hl with | [_], _ => rfl) .nil pass0 (pa_cons (pv 4) pa_nil)))) (pw_or1 (pt_cmpR or_sinK (pv 4) (pv 1) rfl)))) (pss_one ps_never) pss_nil) (pss_one (ps_expr (pe_saddK (pv 1) (pa_cons (pv 4) pa_nil)))))))))))), ?_⟩
    obtain ⟨a, ls, rfl, ⟨rows, hR, hl, hi⟩, ok, q⟩ := h
    have hn : rows.length ≠ 0 := by
      rw [hl]
      intro z
      exact ok.some (List.length_eq_zero_iff.mp z)
    refine q_when (b := false) ?_ (fun z => nomatch z) fun _ H1 e1 => ?_
    · refine et_is (a := (!true) || decide ((rows.length : Int) = 0)) (et_or (et_not (a := true) (et_B (ev_call0 (ea_cons (ev_var rfl) ea_nil) (islist_sp hR)))) fun _ => et_test ?_) (by simpa using hn)
      exact ev_is (ev_op (lenS (ev_var rfl) hR) ev_c (rv_eq rfl)) (congrArg V.bl (by simp))
    refine q_setK fun p hp => ?_
    have hp0 := fresh_back e1 hp
    have e2 := e1.trans (Ex.new (o := SetK P w p (fun _ => false) 0) hp)
    refine s_forE (H0 := H) (ea_cons (ev_var rfl) ea_nil) e2 hR (fun i σ' H' => (∃ o2 o3 o4, σ' = [some (.ref a), some (.ref p), o2, o3, o4]) ∧ Ex H H' ∧ ∃ n, n ≤ many (ls.take i) ∧ H' p = some (SetK P w p (inK (ls.take i).flatten) n)) (fun H2 e3 => ⟨⟨none, none, none, rfl⟩, e2.trans e3, 0, Nat.zero_le _, ?zero⟩) (fun i σ' H' p => p.2.1) (fun i x σ' H' H2 hx pp e3 => ?turn) (fun σ' H' pp => ?fin)
    case zero =>
      have e0 : inK (ls.take 0).flatten = fun _ => false := by
        funext k
        cases k <;> rfl
      rw [e0]
      exact e3 _ _ upd_same
    case fin =>
      obtain ⟨⟨o2, o3, o4, rfl⟩, e3, _⟩ := pp
      exact q _ e3
    case turn =>
      obtain ⟨⟨o2, o3, o4, rfl⟩, e4, n, hnn, h1⟩ := pp
      have hil : i < ls.length := by rw [← hl]; exact (List.getElem?_eq_some_iff.mp hx).1
      have hws : ls[i]? = some ls[i] := List.getElem?_eq_getElem hil
      obtain ⟨r, hr', hs⟩ := hi i _ hws
      rw [hr'] at hx
      cases hx
      have hmt := many_take hws
      have e5 := e4.trans e3
      refine q_when (b := false) ?_ (fun z => nomatch z) fun _ H3 e6 => ?_
      · exact et_not (a := true) (et_B (ev_call0 (ea_cons (ev_var rfl) ea_nil) (islist_sp (ex_s e5 hs))))
      refine s_forS (H0 := H) (ev_var rfl) (e5.trans e6) hs (fun j σ' H' => (∃ o4, σ' = [some (.ref a), some (.ref p), some (.int (i : Int)), some (.ref r), o4]) ∧ Ex H H' ∧ ∃ n, n ≤ many (ls.take i) + j ∧ H' p = some (SetK P w p (inK ((ls.take i).flatten ++ ls[i].take j)) n)) (fun H4 e7 => ⟨⟨o4, rfl⟩, (e5.trans e6).trans e7, n, hnn, ?zero2⟩) (fun j σ' H' p => p.2.1) (fun j y σ' H' hy pp => ?turn2) (fun σ' H' pp => ?fin2)
      case zero2 =>
        rw [List.take_zero, List.append_nil]
        exact e7 _ _ (e6 _ _ (e3 _ _ h1))
      case fin2 =>
        obtain ⟨⟨o4, rfl⟩, e7, m, hm, h7⟩ := pp
        refine ⟨⟨_, _, _, rfl⟩, e7, m, ?_, ?_⟩
        · have : many (ls.take (i + 1)) = many (ls.take i) + ls[i].length := by
            rw [take_snoc hws]
            unfold many
            rw [List.map_append, List.sum_append]
            simp
          rw [List.length_map] at hm
          omega
        · rw [flat_take hws, h7, List.length_map, List.take_length]
      case turn2 =>
        obtain ⟨⟨o4, rfl⟩, e7, m, hm, h7⟩ := pp
        obtain ⟨u, hu, rfl⟩ : ∃ u, ls[i][j]? = some u ∧ V.str u = y := by simpa using hy
        have hjl : j < ls[i].length := (List.getElem?_eq_some_iff.mp hu).1
        have hN : isN (.str u) = true := ok.names _ (List.mem_of_getElem? hws) u (List.mem_of_getElem? hu)
        have hnew := next_new ok.once hws hu
        have hin : inK ((ls.take i).flatten ++ ls[i].take j) (.inr u) = false := decide_eq_false hnew
        refine q_when (b := false) ?_ (fun z => nomatch z) fun _ H5 e8 => ?_
        · refine et_is (a := (!true) || false) (et_or (et_not (a := true) (et_B (ev_is (ev_call0 (ea_cons (ev_var (v := .str u) rfl) ea_nil) (spV (f := isN) (.str u) fun x z => by cases z; exact isN_ok hN)) (congrArg V.bl hN)))) fun _ => et_test ?_) rfl
          exact ev_is (ev_sinK (ev_var rfl) (ev_var rfl) h7) (congrArg V.bl hin)
        refine s_saddK (ev_var rfl) (ev_var rfl) (e8 _ _ h7) ?_ hin fun H6 e9 => ⟨⟨_, rfl⟩, Ex.mut ((e7.trans e8).trans e9) hp0, m + 1, by omega, ?_⟩
        · have := ok.few
          omega
        · rw [upd_same]
          have e0 : inK ((ls.take i).flatten ++ ls[i].take (j + 1)) = fun k => inK ((ls.take i).flatten ++ ls[i].take j) k || decide (k = .inr u) := by
            funext k
            rw [take_snoc hu, ← List.append_assoc]
            cases k with
            | inl z => rfl
            | inr z =>
              show decide (z ∈ _ ++ [u]) = (decide (z ∈ _) || decide (Sum.inr z = Sum.inr u))
              simp [Bool.or_assoc]
          rw [e0]
          rfl
  case len =>
    obtain ⟨a, ls, rfl, _⟩ := h
    rfl
def spLimit : Sp := fun vs H Q _ => ∃ (x : Str) (m l : Int), vs = [.str x, .int m, .int l] ∧ m ≤ l ∧ RetV .non H Q
theorem sc_check_limit : FnScope ["what", "many", "limit"] ["what", "many", "limit"] (defScope (topS 31)) := ⟨rfl, rfl, rfl, by decide +kernel, rfl, by decide +kernel, by decide +kernel⟩
theorem ok_check_limit (T : Tx K mg fd) : FnOk P w K mg base CX0 1 (He.ga K "check_limit") (fd 9) ["what", "many", "limit"] spLimit := by
  refine (T.df 9 31 "check_limit" rfl).ok sc_check_limit (fun vs H Q E h => ?len) (fun cdv A outer s H vs Q E hr h => ?body)
  case body =>
    refine ⟨_, (pss_one (ps_if (pt_cmpR op_gt (pv 1) (pv 2) (nomark _)) (pss_one ps_never) pss_nil)), ?_⟩
    obtain ⟨x, m, l, rfl, hm, q⟩ := h
    refine s_when (b := false) ?_ (fun z => nomatch z) fun _ H1 e1 => q _ e1
    exact et_test (ev_is (ev_op (ev_var rfl) (ev_var rfl) rv_I0) (congrArg V.bl (by simpa using hm)))
  case len =>
    obtain ⟨x, m, l, rfl, _⟩ := h
    rfl
end
end K21
set_option Elab.async false
set_option linter.all false
set_option maxRecDepth 100000
set_option maxHeartbeats 4000000
namespace K21
open PySem PySem.Spec PyProof.Rows L2 Evl Gen
section
variable {P : Program} {w : World} {K : PySem.W.Frag} {mg : Str → Option Value} {base : Heap} {fd : Nat → FuncData}
/-- lines: rows of pairs of texts -/
def LnAt (K : PySem.W.Frag) (H : Hp) (a : Addr) (es : List (Str × Str)) : Prop :=
  ∃ rows, Sq K H a rows ∧ rows.length = es.length ∧ ∀ (i : Nat) (e : Str × Str), es[i]? = some e → ∃ p, rows[i]? = some (.ref p) ∧ H p = some (.tup [.str e.1, .str e.2])
theorem LnAt.ex {H H' : Hp} {a : Addr} {es : List (Str × Str)} (h : LnAt K H a es) (e : Ex H H') : LnAt K H' a es :=
  let ⟨rows, h1, h2, h3⟩ := h
  ⟨rows, ex_s e h1, h2, fun i ws hi => let ⟨p, h4, h5⟩ := h3 i ws hi; ⟨p, h4, e _ _ h5⟩⟩
def lk (e : Str × Str) : List Key := [.inr e.1, .inr e.2]
theorem lk_inj {e f : Str × Str} (h : lk e = lk f) : e = f := by
  unfold lk at h
  injection h with h1 h2
  injection h2 with h2 _
  injection h1 with h1
  injection h2 with h2
  exact Prod.ext h1 h2
/-- places: ints alone -/
def Ints (kvs : List (Key × V)) : Prop := ∀ z v, valV kvs (.inr z) = some v → ∃ i : Int, v = .int i
theorem fits_sp {H : Hp} {a d : Addr} {x y : Str} {kvs : List (Key × V)} (ha : H a = some (.tup [.str x, .str y])) (hd : H d = some (.dK kvs)) (hk : Ints kvs) : SpV spFits [.ref a, .ref d] H (.bl (fitB kvs x y)) :=
  fun H1 e Q q E => ⟨a, x, y, d, kvs, rfl, e _ _ ha, e _ _ hd, hk, q⟩
def spLines (K : PySem.W.Frag) : Sp := fun vs H Q _ => ∃ (a d : Addr) (es : List (Str × Str)) (kvs : List (Key × V)), vs = [.ref a, .ref d] ∧ LnAt K H a es ∧ H d = some (.dK kvs) ∧ Ints kvs ∧ (∀ e ∈ es, fitB kvs e.1 e.2 = true) ∧ es.Nodup ∧ es.length ≤ 72 ∧ RetV .non H Q
theorem next_line {es : List (Str × Str)} {i : Nat} {e : Str × Str} (h : es.Nodup) (hi : es[i]? = some e) : e ∉ es.take i := by
  have e2 : es = es.take i ++ e :: es.drop (i + 1) := by
    obtain ⟨hl, he⟩ := List.getElem?_eq_some_iff.mp hi
    have := List.take_append_drop i es
    rw [List.drop_eq_getElem_cons hl, he] at this
    exact this.symm
  rw [e2] at h
  intro m
  exact (List.nodup_append.mp h).2.2 e m e (List.mem_cons_self ..) rfl
theorem sc_check_lines : FnScope ["lines", "places", "ahead", "position", "line"] ["lines", "places"] (defScope (topS 30)) := ⟨rfl, rfl, rfl, by decide +kernel, rfl, by decide +kernel, by decide +kernel⟩
theorem ok_check_lines (T : Tx K mg fd) : FnOk P w K mg base CX0 4 (He.ga K "check_lines") (fd 8) ["lines", "places"] (spLines K) := by
  refine (T.df 8 30 "check_lines" rfl).ok sc_check_lines (fun vs H Q E h => ?len) (fun cdv A outer s H vs Q E hr h => ?body)
  case body =>
    refine ⟨_, (pss_cons (ps_if (pt_not (pt_val (pe_call (ok_is_list T) (hr.mono (by decide)) (by rfl) (T.gl 4 "is_list" rfl) (T.df 2 6 "is_list" rfl).kp ((T.df 2 6 "is_list" rfl).binds (ps := ["value"]) fun _ _ _ _ _ _ us hl => match us, hl with | [_], _ => rfl) .nil pass0 (pa_cons (pv 0) pa_nil)))) (pss_one ps_never) pss_nil) (pss_cons (ps_set (i := 2) sc_check_lines.nd rfl (Or.inl rfl) (pe_callTy0 XT.cr_set0T (by rfl) (T.fr 46 "set" rfl) (by decide +kernel))) (pss_one (ps_for PassesOwn.never rfl (pi_enumS (by rfl) (T.fr 55 "enumerate" rfl) (pa_cons (pv 0) pa_nil)) (pg_tup rfl (pgs_cons (pg_name (i := 3) sc_check_lines.nd rfl (Or.inl rfl)) (pgs_cons (pg_name (i := 4) sc_check_lines.nd rfl (Or.inl rfl)) pgs_nil))) (pss_cons (ps_if (PW.pt (pw_or (pt_not (pt_val (pe_call (ok_fits_as_line T) (hr.mono (by decide)) (by rfl) (T.gl 8 "fits_as_line" rfl) (T.df 6 28 "fits_as_line" rfl).kp ((T.df 6 28 "fits_as_line" rfl).binds (ps := ["value", "places"]) fun _ _ _ _ _ _ us hl => match us, hl with | [_, _], _ => rfl) .nil pass0 (pa_cons (pv 4) (pa_cons (pv 1) pa_nil))))) (pw_or1 (pt_cmpR (XT.or_sinT (u1 hr.units)) (pv 4) (pv 2) rfl)))) (pss_one ps_never) pss_nil) (pss_one (ps_expr (XT.pe_saddT (u1 hr.units) (pv 2) (pa_cons (pv 4) pa_nil))))))))), ?_⟩
    obtain ⟨a, d, es, kvs, rfl, ⟨rows, hR, hl, hi⟩, hd, hk, hf, ho, hz, q⟩ := h
    refine q_when (b := false) ?_ (fun z => nomatch z) fun _ H1 e1 => ?_
    · exact et_not (a := true) (et_B (ev_call0 (ea_cons (ev_var rfl) ea_nil) (islist_sp hR)))
    refine q_setT fun p hp => ?_
    have hp0 := fresh_back e1 hp
    have e2 := e1.trans (Ex.new (o := XT.TSO P w p []) hp)
    refine s_forE (H0 := H) (ea_cons (ev_var rfl) ea_nil) e2 hR (fun i σ' H' => (∃ o3 o4, σ' = [some (.ref a), some (.ref d), some (.ref p), o3, o4]) ∧ Ex H H' ∧ ∃ L, L.length = i ∧ (∀ k, k ∈ L.map Prod.snd → ∃ e ∈ es.take i, k = lk e) ∧ (∀ e ∈ L, SqT K H e.1 (e.2.map kV)) ∧ H' p = some (XT.TSO P w p L))
      (fun H2 e3 => ⟨⟨none, none, rfl⟩, e2.trans e3, [], rfl, (fun k z => by cases z), (fun e z => by cases z), e3 _ _ upd_same⟩) (fun i σ' H' p => p.2.1) (fun i x σ' H' H2 hx pp e3 => ?turn) (fun σ' H' pp => ?fin)
    case fin =>
      obtain ⟨⟨o3, o4, rfl⟩, e3, _⟩ := pp
      exact q _ e3
    case turn =>
      obtain ⟨⟨o3, o4, rfl⟩, e4, L, hLn, hLk, hLs, h1⟩ := pp
      have hil : i < es.length := by rw [← hl]; exact (List.getElem?_eq_some_iff.mp hx).1
      have hes : es[i]? = some es[i] := List.getElem?_eq_getElem hil
      obtain ⟨r, hr', hs⟩ := hi i _ hes
      rw [hr'] at hx
      cases hx
      have e5 := e4.trans e3
      have hnew : lk es[i] ∉ L.map Prod.snd := fun m => by
        obtain ⟨e, he, ee⟩ := hLk _ m
        rw [← lk_inj ee] at he
        exact next_line ho hes he
      have hmem : XT.memB (lk es[i]) L = false := by
        cases hc : XT.memB (lk es[i]) L with
        | false => rfl
        | true => exact absurd (XT.memB_iff.mp hc) hnew
      have hb : ∀ {H3 : Hp}, Ex H2 H3 → SqT K H3 r ((lk es[i]).map kV) := fun e6 => st_of ((e5.trans e6) _ _ hs)
      refine q_when (b := false) ?_ (fun z => nomatch z) fun _ H3 e6 => ?_
      · refine et_is (a := (!true) || false) (et_or (et_not (a := true) (et_B (ev_is (ev_call0 (ea_cons (ev_var (v := .ref r) rfl) (ea_cons (ev_var (v := .ref d) rfl) ea_nil)) (fits_sp (e5 _ _ hs) (e5 _ _ hd) hk)) (congrArg V.bl (hf _ (List.mem_of_getElem? hes)))))) fun _ => et_test ?_) rfl
        exact ev_is (ev_sinT (ev_var rfl) (ev_var rfl) (e3 _ _ h1) (fun e he => ex_t e5 (hLs e he)) (hb (Ex.refl _))) (congrArg V.bl hmem)
      refine s_saddT (ev_var rfl) (ev_var rfl) ((e3.trans e6) _ _ h1) (fun e he => ex_t (e5.trans e6) (hLs e he)) (hb e6) (by omega) hnew fun H4 L' e7 hp' => ?_
      have e8 : Ex H (upd H4 p (XT.TSO P w p L')) := Ex.mut ((e5.trans e6).trans e7) hp0
      refine ⟨⟨_, _, rfl⟩, e8, L', ?_, ?_, ?_, upd_same⟩
      · rw [hp'.length_eq, List.length_cons, hLn]
      · intro k hk'
        obtain ⟨e, he, rfl⟩ := List.mem_map.mp hk'
        rw [take_snoc hes]
        rcases List.mem_cons.mp (hp'.mem_iff.mp he) with rfl | hm
        · exact ⟨_, List.mem_append_right _ (List.mem_singleton.mpr rfl), rfl⟩
        · obtain ⟨f, hf', ef⟩ := hLk _ (List.mem_map.mpr ⟨e, hm, rfl⟩)
          exact ⟨f, List.mem_append_left _ hf', ef⟩
      · intro e he
        rcases List.mem_cons.mp (hp'.mem_iff.mp he) with rfl | hm
        · exact st_of hs
        · exact hLs e hm
  case len =>
    obtain ⟨a, d, es, kvs, rfl, _⟩ := h
    rfl
end
end K21
set_option Elab.async false
set_option linter.all false
set_option maxRecDepth 100000
set_option maxHeartbeats 4000000
namespace K21
open PySem PySem.Spec PyProof.Rows L2 Evl Gen
section
variable {P : Program} {w : World} {K : PySem.W.Frag} {mg : Str → Option Value} {base : Heap} {fd : Nat → FuncData}
theorem s_dputL {σ : L2.St} {H : Hp} {td ty tv : TE} {d : Addr} {kvs : List (Key × V)} {x : Str} {xs : List V} {D : Ends} (hd : Ev td σ H (.ref d)) (hy : Ev ty σ H (.str x)) (hv : EvL tv σ H xs) (h : H d = some (.dK kvs)) (hz : kvs.length < 100000)
    (k : ∀ q H1, H q = none → Ex H H1 → H1 q = some (.lst xs) → D.nx σ (upd H1 d (.dK (putK kvs (.inr x) (.ref q))))) : sDPut td ty tv D σ H :=
  hv H (Ex.refl H) _ fun q H1 hq e1 h1 => hd H1 e1 _ fun H2 e2 => hy H2 (e1.trans e2) _ fun H3 e3 => ⟨d, _, rfl, DPut.k (k := .inr x) (((e1.trans e2).trans e3) _ _ h) (sz_lt hz), k q H3 hq ((e1.trans e2).trans e3) ((e2.trans e3) _ _ h1)⟩
/-- the dict of the nodes, each with its own list -/
def refs (f : Str → Addr) (ns : List Str) : List (Key × V) := ns.map fun n => (.inr n, .ref (f n))
theorem refs_in {f : Str → Addr} {n : Str} : ∀ {ns : List Str}, n ∈ ns → valV (refs f ns) (.inr n) = some (.ref (f n))
  | m :: r, h => by
    by_cases e : m = n
    · subst e
      exact valV_pos rfl
    · rcases List.mem_cons.mp h with z | z
      · exact absurd z.symm e
      · exact (valV_neg (p := ((.inr m : Key), V.ref (f m))) (fun z => e (by cases z; rfl))).trans (refs_in z)
theorem refs_out {f : Str → Addr} {n : Str} : ∀ {ns : List Str}, n ∉ ns → valV (refs f ns) (.inr n) = none
  | [], _ => rfl
  | m :: r, h => (valV_neg (p := ((.inr m : Key), V.ref (f m))) (fun z => h (by cases z; exact List.mem_cons_self ..))).trans (refs_out fun z => h (List.mem_cons_of_mem _ z))
theorem refs_same {f g : Str → Addr} {ns : List Str} (h : ∀ n ∈ ns, f n = g n) : refs f ns = refs g ns := List.map_congr_left fun n hn => by rw [h n hn]
/-- the ends that are told of n -/
def endsOf (es : List (Str × Str)) (n : Str) : List V := (es.filter fun e => decide (e.1 = n)).map fun e => V.str e.2
theorem endsOf_snoc {es : List (Str × Str)} {e : Str × Str} {n : Str} : endsOf (es ++ [e]) n = if e.1 = n then endsOf es n ++ [.str e.2] else endsOf es n := by
  unfold endsOf
  rw [List.filter_append, List.map_append]
  by_cases h : e.1 = n
  · rw [if_pos h]
    simp [h]
  · rw [if_neg h]
    simp [h]
theorem endsOf_len {es : List (Str × Str)} {n : Str} : (endsOf es n).length ≤ es.length := by
  unfold endsOf
  rw [List.length_map]
  exact List.length_filter_le _ _
/-- a dict of nodes, each with the list of its ends -/
def EndsAt (H : Hp) (p : Addr) (ns : List Str) (es : List (Str × Str)) : Prop := ∃ f : Str → Addr, H p = some (.dK (refs f ns)) ∧ ∀ n ∈ ns, H (f n) = some (.lst (endsOf es n))
theorem EndsAt.ex {H H' : Hp} {p : Addr} {ns : List Str} {es : List (Str × Str)} (h : EndsAt H p ns es) (e : Ex H H') : EndsAt H' p ns es := let ⟨f, h1, h2⟩ := h; ⟨f, e _ _ h1, fun n hn => e _ _ (h2 n hn)⟩
/-- the same, the lists being new -/
def EndsNew (H H' : Hp) (p : Addr) (ns : List Str) (es : List (Str × Str)) : Prop := ∃ f : Str → Addr, H' p = some (.dK (refs f ns)) ∧ ∀ n ∈ ns, H (f n) = none ∧ H' (f n) = some (.lst (endsOf es n))
def spEnds (K : PySem.W.Frag) : Sp := fun vs H Q _ => ∃ (a b : Addr) (ns : List Str) (es : List (Str × Str)), vs = [.ref a, .ref b] ∧ Sq K H a (ns.map V.str) ∧ LnAt K H b es ∧ ns.Nodup ∧ ns.length ≤ 1000 ∧ es.length ≤ 1000 ∧ (∀ e ∈ es, e.1 ∈ ns) ∧
  ∀ p H2, H p = none → Ex H H2 → EndsNew H H2 p ns es → Q (.ref p) H2
theorem next_node {ns : List Str} {i : Nat} {x : Str} (h : ns.Nodup) (hi : ns[i]? = some x) : x ∉ ns.take i := by
  have e2 : ns = ns.take i ++ x :: ns.drop (i + 1) := by
    obtain ⟨hl, he⟩ := List.getElem?_eq_some_iff.mp hi
    have := List.take_append_drop i ns
    rw [List.drop_eq_getElem_cons hl, he] at this
    exact this.symm
  rw [e2] at h
  intro m
  exact (List.nodup_append.mp h).2.2 x m x (List.mem_cons_self ..) rfl
theorem sc_ends_by_node : FnScope ["nodes", "lines", "ends", "node", "start", "end"] ["nodes", "lines"] (defScope (topS 33)) := ⟨rfl, rfl, rfl, by decide +kernel, rfl, by decide +kernel, by decide +kernel⟩
theorem ok_ends_by_node (T : Tx K mg fd) : FnOk P w K mg base CX0 1 (He.ga K "ends_by_node") (fd 11) ["nodes", "lines"] (spEnds K) := by
  refine (T.df 11 33 "ends_by_node" rfl).ok sc_ends_by_node (fun vs H Q E h => ?len) (fun cdv A outer s H vs Q E hr h => ?body)
  case body =>
    refine ⟨_, (pss_cons (ps_set (i := 2) sc_ends_by_node.nd rfl (Or.inl rfl) pe_dnewK) (pss_cons (ps_for PassesOwn.never rfl (pi_seq (pv 0)) (pg_name (i := 3) sc_ends_by_node.nd rfl (Or.inl rfl)) (pss_one (ps_dput (u1 hr.units) (pv 2) (pv 3) (pe_lst pa_nil) rfl))) (pss_cons (ps_for PassesOwn.never rfl (pi_seq (pv 1)) (pg_tup rfl (pgs_cons (pg_name (i := 4) sc_ends_by_node.nd rfl (Or.inl rfl)) (pgs_cons (pg_name (i := 5) sc_ends_by_node.nd rfl (Or.inl rfl)) pgs_nil))) (pss_one (ps_expr (pe_bm PySem.F.plainAttrs_list PySem.F.slot_list_append PySem.F.type_list_append mt_append (pe_dget (u1 hr.units) (pv 2) (pv 4) (fun _ _ => rfl)) (pa_cons (pv 5) pa_nil))))) (pss_one (ps_ret (pv 2)))))), ?_⟩
    obtain ⟨a, b, ns, es, rfl, ha, ⟨rows, hR, hl, hi⟩, ho, hz, hze, hin, q⟩ := h
    refine q_dnew fun p hp => ?_
    have e1 : Ex H (upd H p (.dK [])) := Ex.new hp
    refine q_forS (H0 := H) (ev_var rfl) e1 ha (fun i σ' H' => (∃ o3, σ' = [some (.ref a), some (.ref b), some (.ref p), o3, none, none]) ∧ Ex H H' ∧ ∃ f : Str → Addr, H' p = some (.dK (refs f (ns.take i))) ∧ (∀ n ∈ ns.take i, H (f n) = none ∧ f n ≠ p ∧ H' (f n) = some (.lst [])) ∧ ∀ m ∈ ns.take i, ∀ n ∈ ns.take i, f m = f n → m = n)
      (fun H2 e2 => ⟨⟨none, rfl⟩, e1.trans e2, (fun _ => 0), e2 _ _ upd_same, (fun n z => by cases z), (fun n z => by cases z)⟩) (fun i σ' H' p => p.2.1) (fun i y σ' H' hy pp => ?turn) (fun σ' H' pp => ?next)
    case turn =>
      obtain ⟨⟨o3, rfl⟩, e2, f, h1, h2, h3⟩ := pp
      obtain ⟨u, hu, rfl⟩ : ∃ u, ns[i]? = some u ∧ V.str u = y := by simpa using hy
      have hnew := next_node ho hu
      refine s_dputL (ev_var rfl) (ev_var rfl) (el_lst ea_nil (by decide)) h1 ?_ fun r H3 hr' e3 h4 => ?_
      · show ((ns.take i).map _).length < 100000
        rw [List.length_map, List.length_take]
        have := Nat.min_le_right i ns.length
        omega
      have hrp : r ≠ p := fun z => by rw [z, h1] at hr'; cases hr'
      have hr0 : H r = none := fresh_back e2 hr'
      have hfr : ∀ n ∈ ns.take i, f n ≠ r := fun n hn z => by
        have := (h2 n hn).2.2
        rw [z, hr'] at this
        cases this
      refine ⟨⟨_, rfl⟩, Ex.mut (e2.trans e3) hp, (fun m => if m = u then r else f m), ?_, ?_, ?_⟩
      · rw [upd_same, putK_new _ (refs_out hnew), take_snoc hu]
        have e5 : refs (fun m => if m = u then r else f m) (ns.take i) = refs f (ns.take i) := refs_same fun n hn => if_neg fun (z : n = u) => hnew (z ▸ hn)
        have e6 : refs (fun m => if m = u then r else f m) (ns.take i ++ [u]) = refs (fun m => if m = u then r else f m) (ns.take i) ++ [(.inr u, .ref r)] := by
          unfold refs
          rw [List.map_append]
          simp
        rw [e6, e5]
      · intro n hn
        rw [take_snoc hu] at hn
        rcases List.mem_append.mp hn with z | z
        · have ne : n ≠ u := fun zz => hnew (zz ▸ z)
          obtain ⟨g1, g2, g3⟩ := h2 n z
          show H (if n = u then r else f n) = none ∧ (if n = u then r else f n) ≠ p ∧ upd H3 p _ (if n = u then r else f n) = _
          rw [if_neg ne]
          exact ⟨g1, g2, by rw [upd_ne g2]; exact e3 _ _ g3⟩
        · have e7 := List.mem_singleton.mp z
          show H (if n = u then r else f n) = none ∧ (if n = u then r else f n) ≠ p ∧ upd H3 p _ (if n = u then r else f n) = _
          rw [if_pos e7]
          exact ⟨hr0, hrp, by rw [upd_ne hrp]; exact h4⟩
      · intro m hm n hn
        rw [take_snoc hu] at hm hn
        show (if m = u then r else f m) = (if n = u then r else f n) → m = n
        by_cases c1 : m = u
        · by_cases c2 : n = u
          · exact fun _ => c1.trans c2.symm
          · rw [if_pos c1, if_neg c2]
            have hn2 : n ∈ ns.take i := (List.mem_append.mp hn).resolve_right fun z => c2 (List.mem_singleton.mp z)
            exact fun z => absurd z.symm (hfr n hn2)
        · have hm2 : m ∈ ns.take i := (List.mem_append.mp hm).resolve_right fun z => c1 (List.mem_singleton.mp z)
          by_cases c2 : n = u
          · rw [if_neg c1, if_pos c2]
            exact fun z => absurd z (hfr m hm2)
          · rw [if_neg c1, if_neg c2]
            have hn2 : n ∈ ns.take i := (List.mem_append.mp hn).resolve_right fun z => c2 (List.mem_singleton.mp z)
            exact h3 m hm2 n hn2
    case next =>
      obtain ⟨⟨o3, rfl⟩, e2, f, h1, h2, h3⟩ := pp
      rw [List.length_map, List.take_length] at h1 h2 h3
      refine q_forS (H0 := H) (ev_var rfl) e2 hR (fun i σ' H' => (∃ o4 o5, σ' = [some (.ref a), some (.ref b), some (.ref p), o3, o4, o5]) ∧ Ex H H' ∧ H' p = some (.dK (refs f ns)) ∧ ∀ n ∈ ns, H' (f n) = some (.lst (endsOf (es.take i) n)))
        (fun H3 e3 => ⟨⟨none, none, rfl⟩, e2.trans e3, e3 _ _ h1, fun n hn => e3 _ _ (h2 n hn).2.2⟩) (fun i σ' H' p => p.2.1) (fun i y σ' H' hy pp => ?turn2) (fun σ' H' pp => ?fin)
      case fin =>
        obtain ⟨⟨o4, o5, rfl⟩, e3, h4, h5⟩ := pp
        rw [hl, List.take_length] at h5
        exact s_ret (ev_var rfl) fun H4 e4 => q p H4 hp (e3.trans e4) ⟨f, e4 _ _ h4, fun n hn => ⟨(h2 n hn).1, e4 _ _ (h5 n hn)⟩⟩
      case turn2 =>
        obtain ⟨⟨o4, o5, rfl⟩, e3, h4, h5⟩ := pp
        have hil : i < es.length := by rw [← hl]; exact (List.getElem?_eq_some_iff.mp hy).1
        have hes : es[i]? = some es[i] := List.getElem?_eq_getElem hil
        obtain ⟨r, hr', hs⟩ := hi i _ hes
        rw [hr'] at hy
        cases hy
        have hn : es[i].1 ∈ ns := hin _ (List.mem_of_getElem? hes)
        refine ⟨r, _, rfl, st_of (e3 _ _ hs), rfl, _, _, rfl, _, _, rfl, rfl, ?_⟩
        refine s_app (h5 _ hn) (ev_dget (ev_var rfl) (ev_var rfl) h4 (refs_in hn)) (ev_var rfl) ?_ fun H4 e4 => ⟨⟨_, _, rfl⟩, Ex.mut (e3.trans e4) (h2 _ hn).1, ?_, fun n hn2 => ?_⟩
        · have l1 : (endsOf (es.take i) es[i].1).length ≤ _ := endsOf_len
          rw [List.length_take] at l1
          have := Nat.min_le_right i es.length
          omega
        · rw [upd_ne (h2 _ hn).2.1.symm]
          exact e4 _ _ h4
        · rw [take_snoc hes, endsOf_snoc]
          by_cases c : es[i].1 = n
          · subst c
            rw [upd_same, if_pos rfl]
          · rw [upd_ne (fun z => c (h3 _ hn2 _ hn z).symm), if_neg c]
            exact e4 _ _ (h5 n hn2)
  case len =>
    obtain ⟨a, b, ns, es, rfl, _⟩ := h
    rfl
end
end K21
set_option Elab.async false
set_option linter.all false
set_option maxRecDepth 100000
set_option maxHeartbeats 4000000
/-! what sorted gives, as one list: texts, pairs of texts; readings of sorted and of rows -/
namespace Gen
open PySem PySem.Spec L2 Evl PyProof.Rows
def srtS (xs : List Str) : List Str := xs.mergeSort fun a b => !XS.ltS b a
def srtT (xs : List (Str × Str)) : List (Str × Str) := xs.mergeSort fun a b => !XS.ltT b a
theorem leS_tot (a b : Str) : (!XS.ltS b a || !XS.ltS a b) = true := by
  cases h : XS.ltS b a with
  | false => rfl
  | true => rw [XS.ltS_as h]; rfl
theorem leT_tot (a b : Str × Str) : (!XS.ltT b a || !XS.ltT a b) = true := by
  cases h : XS.ltT b a with
  | false => rfl
  | true => rw [XS.ltT_as h]; rfl
theorem leS_tr (a b c : Str) (h1 : (!XS.ltS b a) = true) (h2 : (!XS.ltS c b) = true) : (!XS.ltS c a) = true := by
  cases g : XS.ltS c a with
  | false => rfl
  | true =>
    rcases XS.ltS_tri a b with e | e | e
    · rw [XS.ltS_tr g e] at h2; cases h2
    · rw [← e, g] at h2; cases h2
    · rw [e] at h1; cases h1
theorem leT_tr (a b c : Str × Str) (h1 : (!XS.ltT b a) = true) (h2 : (!XS.ltT c b) = true) : (!XS.ltT c a) = true := by
  cases g : XS.ltT c a with
  | false => rfl
  | true =>
    rcases XS.ltT_tri a b with e | e | e
    · rw [XS.ltT_tr g e] at h2; cases h2
    · rw [← e, g] at h2; cases h2
    · rw [e] at h1; cases h1
theorem leS_as {a b : Str} (h1 : (!XS.ltS b a) = true) (h2 : (!XS.ltS a b) = true) : a = b := by
  rcases XS.ltS_tri a b with e | e | e
  · rw [e] at h2; cases h2
  · exact e
  · rw [e] at h1; cases h1
theorem leT_as {a b : Str × Str} (h1 : (!XS.ltT b a) = true) (h2 : (!XS.ltT a b) = true) : a = b := by
  rcases XS.ltT_tri a b with e | e | e
  · rw [e] at h2; cases h2
  · exact e
  · rw [e] at h1; cases h1
theorem srtS_perm (xs : List Str) : (srtS xs).Perm xs := List.mergeSort_perm xs _
theorem srtT_perm (xs : List (Str × Str)) : (srtT xs).Perm xs := List.mergeSort_perm xs _
theorem srtS_pw (xs : List Str) : (srtS xs).Pairwise fun a b => (!XS.ltS b a) = true := List.pairwise_mergeSort leS_tr leS_tot xs
theorem srtT_pw (xs : List (Str × Str)) : (srtT xs).Pairwise fun a b => (!XS.ltT b a) = true := List.pairwise_mergeSort leT_tr leT_tot xs
theorem srtS_of {xs ys : List Str} (hp : ys.Perm xs) (h : ys.Pairwise fun a b => (!XS.ltS b a) = true) : ys = srtS xs :=
  List.Perm.eq_of_pairwise (fun a b _ _ h1 h2 => leS_as h1 h2) h (srtS_pw xs) (hp.trans (srtS_perm xs).symm)
theorem srtT_of {xs ys : List (Str × Str)} (hp : ys.Perm xs) (h : ys.Pairwise fun a b => (!XS.ltT b a) = true) : ys = srtT xs :=
  List.Perm.eq_of_pairwise (fun a b _ _ h1 h2 => leT_as h1 h2) h (srtT_pw xs) (hp.trans (srtT_perm xs).symm)
theorem srtS_eq {xs ys : List Str} (hp : ys.Perm xs) : srtS ys = srtS xs := srtS_of ((srtS_perm ys).trans hp) (srtS_pw ys)
theorem srtT_eq {xs ys : List (Str × Str)} (hp : ys.Perm xs) : srtT ys = srtT xs := srtT_of ((srtT_perm ys).trans hp) (srtT_pw ys)
theorem rising_pw : ∀ {r : List Str} {p : Str}, risingS p r = true → (p :: r).Pairwise fun a b => (!XS.ltS b a) = true
  | [], p, _ => List.pairwise_singleton _ _
  | x :: r, p, h => by
    have h' : (!ltCps x.cps.toList p.cps.toList && risingS x r) = true := h
    simp only [Bool.and_eq_true] at h'
    have ih := rising_pw h'.2
    have hpx : (!XS.ltS x p) = true := by
      rw [ltCps_eq] at h'
      exact h'.1
    refine List.pairwise_cons.mpr ⟨fun y hy => ?_, ih⟩
    rcases List.mem_cons.mp hy with rfl | hy
    · exact hpx
    · exact leS_tr _ _ _ hpx ((List.pairwise_cons.mp ih).1 y hy)
theorem sorted_pw {ys : List Str} (h : sortedS ys = true) : ys.Pairwise fun a b => (!XS.ltS b a) = true := by
  cases ys with
  | nil => exact List.Pairwise.nil
  | cons x r => exact rising_pw h
section
variable {K : PySem.W.Frag} {σ : L2.St} {H H' : Hp} {te tl : TE} {a : Addr}
/-- sorted(a list of texts) -/
theorem el_sortedS {xs : List Str} (h : Ev te σ H (.ref a)) (hx : SqL K H a (xs.map V.str)) (hz : xs.length < 64) : EvL (tCB (rSortedS K) (tCons te tNil)) σ H ((srtS xs).map V.str) := fun H1 e Q q =>
  h H1 e _ fun H2 e2 => ⟨a, xs, rfl, ex_l (e.trans e2) hx, hz, fun ys p hp hs hn => by
    have e3 := srtS_of hp (sorted_pw hs)
    subst e3
    exact q p _ (fresh_back e2 hn) (e2.trans (Ex.new hn)) upd_same⟩
end
end Gen
set_option Elab.async false
set_option linter.all false
set_option maxRecDepth 100000
set_option maxHeartbeats 4000000
/-! lists of pairs of texts: comprehensions over them, sorted -/
namespace Gen
open PySem PySem.Spec L2 Evl PyProof.Rows
/-- a list whose rows are pairs of texts -/
def PrL (H : Hp) (a : Addr) (es : List (Str × Str)) : Prop :=
  ∃ rows, H a = some (.lst rows) ∧ rows.length = es.length ∧ ∀ (i : Nat) (e : Str × Str), es[i]? = some e → ∃ p, rows[i]? = some (.ref p) ∧ H p = some (.tup [.str e.1, .str e.2])
theorem PrL.ex {H H' : Hp} {a : Addr} {es : List (Str × Str)} (h : PrL H a es) (e : Ex H H') : PrL H' a es :=
  let ⟨rows, h1, h2, h3⟩ := h
  ⟨rows, e _ _ h1, h2, fun i ws hi => let ⟨p, h4, h5⟩ := h3 i ws hi; ⟨p, h4, e _ _ h5⟩⟩
section
variable {K : PySem.W.Frag} {σ : L2.St} {H H' : Hp} {te tl : TE} {a : Addr}
def pairOf (H : Hp) (v : V) : Str × Str := match v with
  | .ref p => match H p with
    | some (.tup [.str x, .str y]) => (x, y)
    | _ => (⟨#[]⟩, ⟨#[]⟩)
  | _ => (⟨#[]⟩, ⟨#[]⟩)
theorem pairOf_ref {p : Addr} {x y : Str} (h : H p = some (.tup [.str x, .str y])) : pairOf H (.ref p) = (x, y) := by
  unfold pairOf
  show (match H p with
    | some (.tup [.str x, .str y]) => (x, y)
    | _ => ((⟨#[]⟩, ⟨#[]⟩) : Str × Str)) = (x, y)
  rw [h]
theorem rows_pairs : ∀ {rows : List V} {es : List (Str × Str)}, rows.length = es.length → (∀ (i : Nat) (e : Str × Str), es[i]? = some e → ∃ p, rows[i]? = some (.ref p) ∧ H p = some (.tup [.str e.1, .str e.2])) → rows.map (pairOf H) = es
  | [], [], _, _ => rfl
  | v :: r, e :: es, hl, h => by
    obtain ⟨p, h1, h2⟩ := h 0 e rfl
    have h3 : v = .ref p := Option.some.inj h1
    rw [List.map_cons, h3, pairOf_ref h2, rows_pairs (Nat.succ.inj hl) fun i f hf => h (i + 1) f hf]
  | [], e :: es, hl, _ => by cases hl
  | v :: r, [], hl, _ => by cases hl
/-- sorted(a list of pairs of texts) -/
theorem el_sortedT {es : List (Str × Str)} (h : ∀ H1, Ex H H1 → ∀ Q : VK, (∀ p H2, H1 p = none → Ex H1 H2 → PrL H2 p es → Q (.ref p) H2) → te σ H1 Q) :
    ∀ H1, Ex H H1 → ∀ Q : VK, (∀ p H2, H1 p = none → Ex H1 H2 → PrL H2 p (srtT es) → Q (.ref p) H2) → tCB (rSortedT2 K) (tCons te tNil) σ H1 Q := fun H1 e1 Q q =>
  h H1 e1 _ fun p H2 hp e2 ⟨rows, r1, r2, r3⟩ => by
    have hm := rows_pairs r2 r3
    have hpair : ∀ x ∈ rows, ∃ t, x = V.ref t ∧ H2 t = some (.tup [.str (pairOf H2 x).1, .str (pairOf H2 x).2]) := fun x hx => by
      obtain ⟨i, hi⟩ := List.mem_iff_getElem?.mp hx
      have hil : i < es.length := by rw [← r2]; exact (List.getElem?_eq_some_iff.mp hi).1
      obtain ⟨t, h1, h2⟩ := r3 i es[i] (List.getElem?_eq_getElem hil)
      rw [h1] at hi
      cases hi
      exact ⟨t, rfl, by rw [pairOf_ref h2]; exact h2⟩
    refine ⟨p, rows, pairOf H2, rfl, sq_of r1, hpair, fun ys l hs hy hn => ?_⟩
    have hl0 : H1 l = none := fresh_back e2 hn
    have hys : ys.map (pairOf H2) = srtT es := by
      refine srtT_of ?_ ?_
      · rw [← hm]
        exact hy.map _
      · refine List.pairwise_map.mpr (List.Pairwise.imp (fun {x y} h => ?_) hs)
        have h' : XS.ltT (pairOf H2 y) (pairOf H2 x) = false := h
        rw [h']
        rfl
    refine q l _ hl0 (e2.trans (Ex.new hn)) ⟨ys, upd_same, by rw [← hys, List.length_map], fun i e hi => ?_⟩
    rw [← hys, List.getElem?_map] at hi
    obtain ⟨x, hx, rfl⟩ := Option.map_eq_some_iff.mp hi
    obtain ⟨t, rfl, ht⟩ := hpair x (hy.mem_iff.mp (List.mem_of_getElem? hx))
    exact ⟨t, hx, Ex.new hn _ _ ht⟩
/-- [(.., ..) for x, y in pairs]: f the new pair -/
theorem el_pairs {i j : Nat} {vs : List Nat} {es : List (Str × Str)} {rows : List V} {ta tb : TE} {H0 : Hp} (f : Str × Str → Str × Str) (h : Ev tl σ H (.ref a)) (e0 : Ex H0 H) (hR : Sq K H0 a rows) (hl : rows.length = es.length)
    (hi : ∀ (i : Nat) (e : Str × Str), es[i]? = some e → ∃ p, rows[i]? = some (.ref p) ∧ H0 p = some (.tup [.str e.1, .str e.2])) (hz : es.length ≤ 1000) (hw : ∀ x y, wipe (((wipe σ vs).set i (some x)).set j (some y)) vs = wipe σ vs)
    (ha : ∀ x y H1, Ev ta (((wipe σ vs).set i (some (.str x))).set j (some (.str y))) H1 (.str (f (x, y)).1)) (hb : ∀ x y H1, Ev tb (((wipe σ vs).set i (some (.str x))).set j (some (.str y))) H1 (.str (f (x, y)).2)) :
    ∀ H1, Ex H H1 → ∀ Q : VK, (∀ p H2, H1 p = none → Ex H1 H2 → PrL H2 p (es.map f) → Q (.ref p) H2) → tLc (iSeq K tl) (gTup K 2 (gCons (gName i) (gCons (gName j) gNil))) tYes (tTup (tCons ta (tCons tb tNil))) vs σ H1 Q := fun H1 e1 Q q =>
  h H1 e1 _ fun H2 e2 => by
    have turn : ∀ {Dl : Addr}, H2 Dl = none → ∀ (k : Nat) (x : V) (H3 : Hp), rows[k]? = some x → (Ex H2 H3 ∧ ∃ acc, acc.length = k ∧ H3 Dl = some (.lst acc) ∧ ∀ (n : Nat) (e : Str × Str), ((es.take k).map f)[n]? = some e → ∃ p, p ≠ Dl ∧ acc[n]? = some (.ref p) ∧ H3 p = some (.tup [.str e.1, .str e.2])) →
        gTup K 2 (gCons (gName i) (gCons (gName j) gNil)) x (wipe σ vs) H3 fun σ2 H4 => wipe σ2 vs = wipe σ vs ∧ tYes σ2 H4 fun b H5 => if b = true then tTup (tCons ta (tCons tb tNil)) σ2 H5 fun y H6 => ∃ acc, H6 Dl = some (.lst acc) ∧ acc.length < sizeLine ∧
          (Ex H2 (upd H6 Dl (.lst (acc ++ [y]))) ∧ ∃ acc2, acc2.length = k + 1 ∧ (upd H6 Dl (.lst (acc ++ [y]))) Dl = some (.lst acc2) ∧ ∀ (n : Nat) (e : Str × Str), ((es.take (k + 1)).map f)[n]? = some e → ∃ p, p ≠ Dl ∧ acc2[n]? = some (.ref p) ∧ (upd H6 Dl (.lst (acc ++ [y]))) p = some (.tup [.str e.1, .str e.2])) else
          (Ex H2 H5 ∧ ∃ acc, acc.length = k + 1 ∧ H5 Dl = some (.lst acc) ∧ ∀ (n : Nat) (e : Str × Str), ((es.take (k + 1)).map f)[n]? = some e → ∃ p, p ≠ Dl ∧ acc[n]? = some (.ref p) ∧ H5 p = some (.tup [.str e.1, .str e.2])) := by
      rintro Dl hD k x H3 hx ⟨p1, acc, p2, p3, p4⟩
      have hkl : k < es.length := by rw [← hl]; exact (List.getElem?_eq_some_iff.mp hx).1
      have hek : es[k]? = some es[k] := List.getElem?_eq_getElem hkl
      obtain ⟨r, hr, hs⟩ := hi k _ hek
      rw [hr] at hx
      cases hx
      have hs3 : H3 r = some (.tup [.str es[k].1, .str es[k].2]) := (((e0.trans e1).trans e2).trans p1) _ _ hs
      refine ⟨r, _, rfl, st_of hs3, rfl, _, _, rfl, _, _, rfl, rfl, hw _ _, ?_⟩
      dsimp only [tYes]
      rw [if_pos rfl]
      refine eu_tup (ea_cons (ha _ _ H3) (ea_cons (hb _ _ H3) ea_nil)) (by show 2 ≤ 100000; decide) H3 (Ex.refl _) _ fun p H4 hp e4 h4 => ?_
      have np : p ≠ Dl := by
        intro z
        subst z
        rw [p3] at hp
        cases hp
      refine ⟨acc, e4 _ _ p3, sz_lt (by omega), Ex.mut (p1.trans e4) hD, acc ++ [.ref p], by rw [List.length_append, p2]; rfl, upd_same, fun n e hn => ?_⟩
      rw [take_snoc hek, List.map_append] at hn
      have hlen : ((es.take k).map f).length = k := by rw [List.length_map, List.length_take]; exact Nat.min_eq_left (Nat.le_of_lt hkl)
      by_cases hnk : n < k
      · rw [List.getElem?_append_left (by rw [hlen]; exact hnk)] at hn
        obtain ⟨p', n1, n2, n3⟩ := p4 n e hn
        exact ⟨p', n1, by rw [List.getElem?_append_left (by rw [p2]; exact hnk)]; exact n2, by rw [upd_ne n1]; exact e4 _ _ n3⟩
      · have hnn : n = k := by
          have h5 := (List.getElem?_eq_some_iff.mp hn).1
          rw [List.length_append, hlen] at h5
          simp only [List.map_cons, List.map_nil, List.length_cons, List.length_nil] at h5
          omega
        subst hnn
        rw [List.getElem?_append_right (by rw [hlen]; exact Nat.le_refl _), hlen, Nat.sub_self] at hn
        cases hn
        exact ⟨p, np, by rw [List.getElem?_append_right (by rw [p2]; exact Nat.le_refl _), p2, Nat.sub_self]; rfl, by rw [upd_ne np]; exact h4⟩
    have fin : ∀ {Dl : Addr}, H2 Dl = none → ∀ H3, (Ex H2 H3 ∧ ∃ acc, acc.length = rows.length ∧ H3 Dl = some (.lst acc) ∧ ∀ (n : Nat) (e : Str × Str), ((es.take rows.length).map f)[n]? = some e → ∃ p, p ≠ Dl ∧ acc[n]? = some (.ref p) ∧ H3 p = some (.tup [.str e.1, .str e.2])) → Q (.ref Dl) H3 := by
      rintro Dl hD H3 ⟨p1, acc, p2, p3, p4⟩
      refine q Dl H3 (fresh_back e2 hD) (e2.trans p1) ⟨acc, p3, by rw [p2, hl, List.length_map], fun n e hn => ?_⟩
      have h5 := p4 n e
      rw [hl, List.take_length] at h5
      obtain ⟨p, _, h6, h7⟩ := h5 hn
      exact ⟨p, h6, h7⟩
    have zero : ∀ {Dl : Addr}, H2 Dl = none → (Ex H2 (upd H2 Dl (.lst [])) ∧ ∃ acc : List V, acc.length = 0 ∧ (upd H2 Dl (.lst [])) Dl = some (.lst acc) ∧ ∀ (n : Nat) (e : Str × Str), ((es.take 0).map f)[n]? = some e → ∃ p, p ≠ Dl ∧ acc[n]? = some (.ref p) ∧ (upd H2 Dl (.lst [])) p = some (.tup [.str e.1, .str e.2])) := fun {Dl} hD =>
      ⟨Ex.new hD, [], rfl, upd_same, fun n e z => by cases z⟩
    rcases hR with hR | hR
    · exact ⟨a, rows, rfl, .inl ⟨ex_l ((e0.trans e1).trans e2) hR, fun Dl hD => lc_list (xs := rows) (fun k H3 => Ex H2 H3 ∧ ∃ acc, acc.length = k ∧ H3 Dl = some (.lst acc) ∧ ∀ (n : Nat) (e : Str × Str), ((es.take k).map f)[n]? = some e → ∃ p, p ≠ Dl ∧ acc[n]? = some (.ref p) ∧ H3 p = some (.tup [.str e.1, .str e.2])) (zero hD) (fun k H3 _ p => ex_l (((e0.trans e1).trans e2).trans p.1) hR) (fun k x H3 hx p => turn hD k x H3 hx p) (fun H3 p => fin hD H3 p)⟩⟩
    · exact ⟨a, rows, rfl, .inr ⟨ex_t ((e0.trans e1).trans e2) hR, fun Dl hD => lc_tup (xs := rows) (fun k H3 => Ex H2 H3 ∧ ∃ acc, acc.length = k ∧ H3 Dl = some (.lst acc) ∧ ∀ (n : Nat) (e : Str × Str), ((es.take k).map f)[n]? = some e → ∃ p, p ≠ Dl ∧ acc[n]? = some (.ref p) ∧ H3 p = some (.tup [.str e.1, .str e.2])) (zero hD) (fun k H3 _ p => ex_t (((e0.trans e1).trans e2).trans p.1) hR) (fun k x H3 hx p => turn hD k x H3 hx p) (fun H3 p => fin hD H3 p)⟩⟩
end
end Gen
set_option Elab.async false
set_option linter.all false
set_option maxRecDepth 100000
set_option maxHeartbeats 4000000
/-! rows of texts in lists: the flat list, sorted rows, lengths -/
namespace Gen
open PySem PySem.Spec L2 Evl PyProof.Rows
/-- a list of lists of texts -/
def LvL (K : PySem.W.Frag) (H : Hp) (a : Addr) (ls : List (List Str)) : Prop :=
  ∃ rows, SqL K H a rows ∧ rows.length = ls.length ∧ ∀ (i : Nat) (ws : List Str), ls[i]? = some ws → ∃ p, rows[i]? = some (.ref p) ∧ SqL K H p (ws.map V.str)
theorem LvL.ex {K : PySem.W.Frag} {H H' : Hp} {a : Addr} {ls : List (List Str)} (h : LvL K H a ls) (e : Ex H H') : LvL K H' a ls :=
  let ⟨rows, h1, h2, h3⟩ := h
  ⟨rows, ex_l e h1, h2, fun i ws hi => let ⟨p, h4, h5⟩ := h3 i ws hi; ⟨p, h4, ex_l e h5⟩⟩
theorem LvL.at {K : PySem.W.Frag} {H : Hp} {a : Addr} {ls : List (List Str)} (h : LvL K H a ls) : LvAt K H a ls :=
  let ⟨rows, h1, h2, h3⟩ := h
  ⟨rows, .inl h1, h2, fun i ws hi => let ⟨p, h4, h5⟩ := h3 i ws hi; ⟨p, h4, .inl h5⟩⟩
/-- rows that were laid by a comprehension -/
theorem LvL.of_rws {K : PySem.W.Frag} {H : Hp} {Dl : Addr} {rs : List V} {ls : List (List Str)} {row : Nat → List V} (h : H Dl = some (.lst rs)) (hl : rs.length = ls.length) (hr : Rws row Dl rs H) (he : ∀ (i : Nat) ws, ls[i]? = some ws → row i = ws.map V.str) : LvL K H Dl ls :=
  ⟨rs, sq_of h, hl, fun i ws hi => by
    have hil : i < rs.length := by rw [hl]; exact (List.getElem?_eq_some_iff.mp hi).1
    obtain ⟨p, _, e, hp⟩ := hr i rs[i] (List.getElem?_eq_getElem hil)
    refine ⟨p, by rw [List.getElem?_eq_getElem hil, e], sq_of ?_⟩
    rw [hp, he i ws hi]⟩
section
variable {K : PySem.W.Frag} {σ : L2.St} {H H' : Hp} {te tl : TE} {a : Addr}
theorem flat_len {ls : List (List Str)} {i : Nat} {ws : List Str} (h : ls[i]? = some ws) (j : Nat) : ((ls.take i).flatten ++ ws.take j).length ≤ many ls := by
  have h1 := many_take h
  rw [List.length_append]
  have h2 : (ls.take i).flatten.length = many (ls.take i) := by
    generalize ls.take i = l
    induction l with
    | nil => rfl
    | cons x r ih => rw [List.flatten_cons, List.length_append, ih]; rfl
  have h3 : (ws.take j).length ≤ ws.length := by rw [List.length_take]; exact Nat.min_le_right _ _
  omega
/-- [x for row in rows for x in row] -/
theorem el_flat {i j : Nat} {vs vs1 : List Nat} {ls : List (List Str)} (h : Ev tl σ H (.ref a)) (hL : LvL K H a ls) (hz : many ls ≤ 1000) (hij : j ≠ i) (hw : ∀ x, wipe ((wipe σ vs).set i (some x)) vs = wipe σ vs)
    (hi : ∀ x, ((wipe σ vs).set i (some x))[i]? = some (some x)) (hw1 : ∀ x y, wipe ((wipe ((wipe σ vs).set i (some x)) vs1).set j (some y)) vs1 = wipe ((wipe σ vs).set i (some x)) vs1)
    (hj : ∀ x y, ((wipe ((wipe σ vs).set i (some x)) vs1).set j (some y))[j]? = some (some y)) :
    EvL (tLc2 (iList K tl) (gName i) tYes (iList K (tVar i)) (gName j) tYes (tVar j) vs vs1) σ H (ls.flatten.map V.str) := fun H1 e1 Q q =>
  h H1 e1 _ fun H2 e2 => by
    obtain ⟨rows, h1, h2, h3⟩ := hL
    have e12 := e1.trans e2
    refine ⟨a, rfl, ⟨rows, ex_l e12 h1⟩, fun Dl hD => ?_⟩
    let Pv : Nat → Hp → Prop := fun k H3 => Ex H2 H3 ∧ H3 Dl = some (.lst ((ls.take k).flatten.map V.str))
    let Pw : Nat → Nat → Hp → Prop := fun k n H3 => Ex H2 H3 ∧ H3 Dl = some (.lst (((ls.take k).flatten ++ (ls[k]?.getD []).take n).map V.str))
    refine ⟨fun k m H3 => m = rows.length - k ∧ k ≤ rows.length ∧ Pv k H3, ⟨rows.length, by simp, Nat.zero_le _, Ex.new hD, upd_same⟩, ?_⟩
    rintro k m H3 ⟨rfl, hk, p⟩
    by_cases hlt : k < rows.length
    · have hkl : k < ls.length := by rw [← h2]; exact hlt
      have hek : ls[k]? = some ls[k] := List.getElem?_eq_getElem hkl
      obtain ⟨r, hr, hs⟩ := h3 k _ hek
      have sq3 : ∀ {H4 : Hp}, Ex H2 H4 → SqL K H4 a rows := fun e => ex_l (e12.trans e) h1
      have rw3 : ∀ {H4 : Hp}, Ex H2 H4 → SqL K H4 r (ls[k].map V.str) := fun e => ex_l (e12.trans e) hs
      refine .inr ⟨⟨rows, rows[k], sq3 p.1, by simp [hlt]⟩, Pv (k + 1), fun H' p' => ⟨rows.length - (k + 1), by omega, rfl, hlt, p'⟩, fun x H4 y => ?_⟩
      obtain ⟨e, y⟩ := y
      subst e
      have hx := y rows (sq3 p.1)
      rw [hr] at hx
      cases hx
      refine ⟨hw _, ?_⟩
      dsimp only [tYes]
      rw [if_pos rfl]
      refine ⟨V.ref r, hi _, r, rfl, ⟨_, rw3 p.1⟩, ?_⟩
      refine ⟨fun n m H5 => m = ls[k].length - n ∧ n ≤ ls[k].length ∧ Pw k n H5, ⟨ls[k].length, by simp, Nat.zero_le _, p.1, ?_⟩, ?_⟩
      · rw [hek, Option.getD_some, List.take_zero, List.append_nil]
        exact p.2
      rintro n m H5 ⟨rfl, hn, p5⟩
      by_cases hln : n < ls[k].length
      · refine .inr ⟨⟨_, V.str ls[k][n], rw3 p5.1, by simp [hln]⟩, Pw k (n + 1), fun H' p' => ⟨ls[k].length - (n + 1), by omega, rfl, hln, p'⟩, fun x H6 y => ?_⟩
        obtain ⟨e, y⟩ := y
        subst e
        have hx := y _ (rw3 p5.1)
        have hen : ls[k][n]? = some ls[k][n] := List.getElem?_eq_getElem hln
        rw [List.getElem?_map, hen] at hx
        cases hx
        refine ⟨hw1 _ _, ?_⟩
        first | rw [if_pos rfl] | (dsimp only [tYes]; rw [if_pos rfl])
        refine ⟨V.str ls[k][n], hj _ _, _, p5.2, sz_lt ?_, Ex.mut p5.1 hD, ?_⟩
        · rw [List.length_map, hek, Option.getD_some]
          exact Nat.lt_of_le_of_lt (flat_len hek n) (by omega)
        · rw [upd_same, hek, Option.getD_some, take_snoc hen, ← List.append_assoc]
          rw [List.map_append (f := V.str) (l₁ := (ls.take k).flatten ++ ls[k].take n)]
          rfl
      · have en : n = ls[k].length := by omega
        subst en
        refine .inl ⟨⟨_, rw3 p5.1, by rw [List.length_map]; exact Nat.le_refl _⟩, p5.1, ?_⟩
        have h5 := p5.2
        rw [hek, Option.getD_some, List.take_length] at h5
        have e6 : (ls.take (k + 1)).flatten = (ls.take k).flatten ++ ls[k] := by rw [take_snoc hek, List.flatten_append]; simp
        rw [e6]
        exact h5
    · have e : k = rows.length := by omega
      subst e
      refine .inl ⟨⟨rows, ex_l (e12.trans p.1) h1, Nat.le_refl _⟩, ?_⟩
      have hp := p.2
      rw [h2, List.take_length] at hp
      exact q Dl H3 (fresh_back e2 hD) (e2.trans p.1) hp
end
end Gen
set_option Elab.async false
set_option linter.all false
set_option maxRecDepth 100000
set_option maxHeartbeats 4000000
/-! constants of a class, calls that tell fresh objects, max, fields of self, places -/
namespace Gen
open PySem PySem.Spec L2 Evl PyProof.Rows
section
variable {K : PySem.W.Frag} {σ : L2.St} {H H' H1 : Hp} {te tl : TE} {a x dx C : Addr} {v : V} {D : Ends} {tz : TS} {f : Str} {fs : List (Str × V)}
theorem ev_cval {mc : Value} {u : Value} (r : ClX.CRead K C mc) (c : ClX.CVal K C mc f v u) : Ev (ClX.tCVal K (tC (.ref C)) f) σ H v := fun H1 e Q q => ⟨C, mc, v, u, rfl, r, c, q H1 (Ex.refl H1)⟩
/-- i = def(..), told by what the def ends with -/
theorem q_asgC {sp : Sp} {vs : List V} {E : XK} {ta : TA} {i : Nat} (h : EvA ta σ H vs) (k : ∀ H1, Ex H H1 → sp vs H1 (fun v H2 => tz D (σ.set i (some v)) H2) E) : tSeq (tAsg (tCall sp [] E ta) (gName i)) tz D σ H := h H (Ex.refl H) _ fun H1 e => by
  show sp (vs ++ []) H1 _ E
  rw [List.append_nil]
  exact k H1 e
/-- self.f = .., the store -/
theorem fld_end (hx : σ[0]? = some (some (.ref x))) (h1 : H1 x = some (.ins C dx fs)) (c : Cls K C) (n : NoAttr K C f) (hl : fs.length < 1000) (k : D.nx σ (upd H1 x (.ins C dx (putF f v fs)))) :
    tVar 0 σ H1 fun y H2 => ∃ a C dx fs, y = .ref a ∧ H2 a = some (.ins C dx fs) ∧ Cls K C ∧ NoAttr K C f ∧ fs.length < 1000 ∧ D.nx σ (upd H2 a (.ins C dx (putF f v fs))) :=
  ⟨.ref x, hx, x, C, dx, fs, rfl, h1, c, n, hl, k⟩
/-- the heap without instances -/
def ni (H : Hp) : Hp := fun a => match H a with
  | some (.ins _ _ _) => none
  | o => o
theorem ni_ex (H : Hp) : Ex (ni H) H := fun a o h => by
  unfold ni at h
  split at h
  · cases h
  · exact h
theorem ni_ins (h : H x = some (.ins C dx fs)) : ni H x = none := by
  unfold ni
  rw [h]
theorem ni_up {o : HO} (h : H x = some (.ins C dx fs)) : Ex (ni H) (upd H x o) := Ex.mut (ni_ex H) (ni_ins h)
theorem ni_lst {xs : List V} (h : H a = some (.lst xs)) : ni H a = some (.lst xs) := by
  unfold ni
  rw [h]
theorem ni_tup {xs : List V} (h : H a = some (.tup xs)) : ni H a = some (.tup xs) := by
  unfold ni
  rw [h]
theorem ni_dK {kvs : List (Key × V)} (h : H a = some (.dK kvs)) : ni H a = some (.dK kvs) := by
  unfold ni
  rw [h]
theorem ni_frz {ob : Obj} {u : HO} (h : H a = some (.frz ob u)) : ni H a = some (.frz ob u) := by
  unfold ni
  rw [h]
theorem ni_l {xs : List V} (h : SqL K H a xs) : SqL K (ni H) a xs := by
  rcases h with (h | ⟨o, h⟩) | h
  · exact .inl (.inl (ni_lst h))
  · exact .inl (.inr ⟨o, ni_frz h⟩)
  · exact .inr h
theorem ni_t {xs : List V} (h : SqT K H a xs) : SqT K (ni H) a xs := by
  rcases h with (h | ⟨o, h⟩) | h
  · exact .inl (.inl (ni_tup h))
  · exact .inl (.inr ⟨o, ni_frz h⟩)
  · exact .inr h
theorem LvL.ni {ls : List (List Str)} (h : LvL K H a ls) : LvL K (ni H) a ls :=
  let ⟨rows, h1, h2, h3⟩ := h
  ⟨rows, ni_l h1, h2, fun i ws hi => let ⟨p, h4, h5⟩ := h3 i ws hi; ⟨p, h4, ni_l h5⟩⟩
theorem PrL.ni {es : List (Str × Str)} (h : PrL H a es) : PrL (ni H) a es :=
  let ⟨rows, h1, h2, h3⟩ := h
  ⟨rows, ni_lst h1, h2, fun i ws hi => let ⟨p, h4, h5⟩ := h3 i ws hi; ⟨p, h4, ni_tup h5⟩⟩
/-- max of a list of ints -/
def mx (ns : List Int) : Int := ns.max?.getD 0
theorem mx_of {ns : List Int} {m : Int} (h : m ∈ ns) (hm : ∀ y, y ∈ ns → y ≤ m) : m = mx ns := by
  unfold mx
  rw [List.max?_eq_some_iff.mpr ⟨h, hm⟩]
  rfl
theorem ev_maxL {ns : List Int} (h : EvL te σ H (ns.map V.int)) (hn : 0 < ns.length) : Ev (tCB (rMax K) (tCons te tNil)) σ H (.int (mx ns)) := fun H1 e Q q =>
  h H1 e _ fun p H2 _ e2 hp => ⟨p, ns, rfl, sq_of hp, hn, fun m h1 h2 => by
    rw [mx_of h1 h2]
    exact q H2 e2⟩
theorem mx_le {ns : List Int} {b : Int} (hb : 0 ≤ b) (h : ∀ y ∈ ns, y ≤ b) : mx ns ≤ b := by
  unfold mx
  cases e : ns.max? with
  | none => exact hb
  | some m => exact h m (List.max?_eq_some_iff.mp e).1
theorem given_all {n : Nat} {v : Nat → V} : given n (fun _ => true) v = (List.range n).map v := by
  induction n with
  | zero => rfl
  | succ n ih => rw [given_yes rfl, ih, List.range_succ, List.map_append]; rfl
end
/-! ### places -/
theorem plRow_val {n : Nat} {z : Str} : ∀ {ws : List Str} {acc : List (Key × V)}, valV (plRow n ws acc) (.inr z) = if z ∈ ws then some (.int (n : Int)) else valV acc (.inr z)
  | [], acc => by rw [if_neg (List.not_mem_nil)]; rfl
  | w :: r, acc => by
    show valV (plRow n r (putK acc (.inr w) (.int (n : Int)))) (.inr z) = _
    rw [plRow_val, valV_put]
    by_cases h : z ∈ r
    · rw [if_pos h, if_pos (List.mem_cons_of_mem _ h)]
    · rw [if_neg h]
      by_cases e : z = w
      · subst e
        rw [if_pos rfl, if_pos (List.mem_cons_self ..)]
      · rw [if_neg (fun t => e (by cases t; rfl)), if_neg (fun t => (List.mem_cons.mp t).elim e h)]
theorem plTo_out {z : Str} : ∀ {ls : List (List Str)} {n : Nat} {acc : List (Key × V)}, z ∉ ls.flatten → valV (plTo n ls acc) (.inr z) = valV acc (.inr z)
  | [], n, acc, _ => rfl
  | l :: r, n, acc, h => by
    rw [List.flatten_cons, List.mem_append, not_or] at h
    show valV (plTo (n + 1) r (plRow n l acc)) (.inr z) = _
    rw [plTo_out h.2, plRow_val, if_neg h.1]
theorem plTo_in {z : Str} : ∀ {ls : List (List Str)} {n i : Nat} {ws : List Str} {acc : List (Key × V)}, ls.flatten.Nodup → ls[i]? = some ws → z ∈ ws → valV (plTo n ls acc) (.inr z) = some (.int ((n + i : Nat) : Int))
  | l :: r, n, 0, ws, acc, hd, hi, hz => by
    cases hi
    rw [List.flatten_cons] at hd
    show valV (plTo (n + 1) r (plRow n l acc)) (.inr z) = _
    rw [plTo_out fun m => (List.nodup_append.mp hd).2.2 z hz z m rfl, plRow_val, if_pos hz]
    rfl
  | l :: r, n, i + 1, ws, acc, hd, hi, hz => by
    rw [List.flatten_cons] at hd
    show valV (plTo (n + 1) r (plRow n l acc)) (.inr z) = _
    rw [plTo_in (List.nodup_append.mp hd).2.1 hi hz, Nat.add_right_comm, Nat.add_assoc]
  | [], n, i, ws, acc, _, hi, _ => by cases hi
/-- the places of the nodes of these levels -/
structure PlOk (kvs : List (Key × V)) (ls : List (List Str)) : Prop where
  in_ : ∀ (i : Nat) ws z, ls[i]? = some ws → z ∈ ws → valV kvs (.inr z) = some (.int (i : Int))
  out : ∀ z, z ∉ ls.flatten → valV kvs (.inr z) = none
theorem plOk {ls : List (List Str)} (h : ls.flatten.Nodup) : PlOk (plTo 0 ls []) ls := ⟨fun i ws z hi hz => by rw [plTo_in h hi hz, Nat.zero_add], fun z hz => by rw [plTo_out hz]; rfl⟩
theorem mem_flat {ls : List (List Str)} {z : Str} : z ∈ ls.flatten ↔ z ∈ (ls.map srtS).flatten := by
  rw [List.mem_flatten, List.mem_flatten]
  constructor
  · rintro ⟨l, h1, h2⟩
    exact ⟨srtS l, List.mem_map.mpr ⟨l, h1, rfl⟩, (srtS_perm l).mem_iff.mpr h2⟩
  · rintro ⟨l, h1, h2⟩
    obtain ⟨m, h3, rfl⟩ := List.mem_map.mp h1
    exact ⟨m, h3, (srtS_perm m).mem_iff.mp h2⟩
theorem PlOk.srt {kvs : List (Key × V)} {ls : List (List Str)} (h : PlOk kvs ls) : PlOk kvs (ls.map srtS) :=
  ⟨fun i ws z hi hz => by
    rw [List.getElem?_map] at hi
    obtain ⟨l, h1, rfl⟩ := Option.map_eq_some_iff.mp hi
    exact h.in_ i l z h1 ((srtS_perm l).mem_iff.mp hz), fun z hz => h.out z fun m => hz (mem_flat.mp m)⟩
theorem flat_perm : ∀ {ls : List (List Str)}, (ls.map srtS).flatten.Perm ls.flatten
  | [] => List.Perm.refl _
  | l :: r => by
    rw [List.map_cons, List.flatten_cons, List.flatten_cons]
    exact (srtS_perm l).append flat_perm
end Gen
set_option Elab.async false
set_option linter.all false
set_option maxRecDepth 100000
set_option maxHeartbeats 4000000
/-! == and != of two of a class with an own __eq__, whatever it answers -/
namespace PySem.W
open PySem PySem.Calls PyProof.Rows
section
variable {prog : Program} {w : World} {A : Around} {E : Value → Shared → Prop} {s : Shared} {K : Frag} {x C L f : Addr} {h₀ : Heap} {m : Str → Option Value} {ox : Obj} {od : Option Obj} {name : Str} {b : Value}
theorem ifBound_slot {M : Model} {id : String} {args : List Value} {Q : Option Value → Shared → Prop} (X : K.In s.heap) (I : InstAt s.heap x ox C od) (hs : findIn K (.ref C) name = some (some (.builtin id))) (hb : ∀ self, bindSpecial (.builtin id) self = pure (.builtin id, [self]))
    (h : wpAny M A (call (.builtin id) (.ref x :: args)) (fun v => Q (some v)) E s) : wpAny M A (callSpecialIfBound? (.ref x) name args) Q E s := by
  simp only [callSpecialIfBound?, bindSpecialIfBound?]
  refine wpAny_holding (wpAny_bind (wpAny_bind (wpAny_bind (I.type.here ((looks_findIn X hs).here ?_)))))
  simp only [hb]
  refine wpAny_bind (wpAny_askSetting (wpAny_ite ?_))
  have fin : wpAny M A (call (.builtin id) ([.ref x] ++ args) >>= fun v => pure (some v)) Q E s := wpAny_bind (wpAny_mono h (fun v s' h' => wpAny_pure h') fun _ _ h' => h')
  split
  · exact wpAny_bind (wpAny_pure (wpAny_pure (by exact fin)))
  · exact wpAny_tryCatch (wpAny_bind (wpAny_pure (wpAny_pure (by exact fin))))
theorem ne_own {Q : Value → Shared → Prop} (hu : A.units + 1 < cLine) (F : Fr h₀ L s.heap m) (X₀ : K.In h₀) (I : InstAt s.heap x ox C od) (hb : Looks (model prog w) s.heap (typeOf b) (.ref C))
    (hs : findIn K (.ref C) "__eq__" = some (some (.ref f))) (hf : isFn K (.ref f) = true) (hn : findIn K (.ref C) "__ne__" = some (some (.builtin "object.__ne__"))) (ho : subIn K (.ref C) (.type "object") = some true)
    (h : wpAny (model prog w) A.in1 (call (.ref f) [.ref x, b]) (fun v s' => ∃ c, v = .bool c ∧ Q (.bool (!c)) s') E s) : wpAny (model prog w) A (richCompare .NotEq (.ref x) b) Q E s := by
  have X := X₀.keeps F.keep
  have FB := PySem.F.cmp_object
  have one : wpAny (model prog w) A (tryCompare (.ref x) "__ne__" b) (fun r s' => ∃ v, r = some v ∧ Q v s') E s := by
    unfold tryCompare
    refine wpAny_bind (ifBound_slot X I hn FB.ne.bind (wpAny_call (codeAny_call_builtin FB.ne.plain PySem.F.cmpEntry_ne (check_slot PySem.F.cmpKind_ne PySem.F.cmpSplit_ne (I.type.andThen (looks_subIn X ho)) (PySem.F.cmpArgs_ne _ _) ?_))))
    unfold Builtin.«object.__ne__»
    obtain ⟨hp, g, d, tk, os⟩ := s
    have hu1 : A.in1.units < cLine := hu
    repeat (first
      | with_reducible refine wpAny_cRoomFor hu1 ?_
      | (refine wpAny_bind (m := callSpecialIfBound? (.ref x) (Str.ofString "__eq__") [b]) (ifBound_K X I hs hf (wpAny_mono h (fun r s' hr => by
            obtain ⟨c, rfl, hq⟩ := hr
            repeat (first | (show wpAny (model prog w) A (pure (some (Value.bool !c))) (fun r s' => ∃ v, r = some v ∧ Q v s') E _; exact wpAny_pure ⟨_, rfl, hq⟩) | (refine wpAny_bind (m := truthy (.bool _)) (wpAny_truthy_bool ?_)) | wp_step)) fun _ _ e => e)))
      | wp_step)
  unfold richCompare
  simp only [oneThing_ref]
  refine wpAny_holding (wpAny_bind (wpAny_cRoomFor (Nat.lt_of_succ_lt hu) ?_))
  refine wpAny_bind (I.type.here (wpAny_bind (hb.here ?_)))
  rw [show (Value.ref C != Value.ref C) = false from by simp]
  simp only [Bool.false_eq_true, if_false]
  refine wpAny_bind (wpAny_pure ?_)
  simp only [Bool.false_eq_true, if_false]
  refine wpAny_bind (wpAny_mono one (fun r s' z => ?_) fun _ _ e => e)
  obtain ⟨v, rfl, hq⟩ := z
  exact wpAny_pure hq
end
end PySem.W
namespace L2
open PySem PySem.Spec PyProof.Rows
section
variable {X : Cx} {CX : CXT} {k : Nat} {f C : Addr} {fd : FuncData} {ps : List Str} {sp : Sp} {E : XK}
/-- x == y, x != y, both of the class at C, whose __eq__ answers True or False -/
def rOwnEq (C : Addr) (sp : Sp) (E : XK) (neg : Bool) : R2 := fun x y H Q => ∃ a b dx dy fs gs, x = .ref a ∧ y = .ref b ∧ H a = some (.ins C dx fs) ∧ H b = some (.ins C dy gs) ∧ sp [x, y] H (fun v H' => ∃ c, v = .bl c ∧ Q (.bl (if neg then !c else c)) H') E
theorem op_ownEq (F : FnOk X.prog X.w X.K X.mg X.base CX k f fd ps sp) (hr : Room k X.A) (hm : Meth X.K C "__eq__" f) (hb : Binds X.K fd ps []) (hx : Passes CX X E) : OpR X (compareOp .Eq) (rOwnEq C sp E false) := by
  intro pins s σ H x y v u Q I rx ry h
  obtain ⟨a, b, dx, dy, fs, gs, rfl, rfl, ea, eb, q⟩ := h
  cases rx
  cases ry
  obtain ⟨oa, Ja⟩ := inst_of I ea
  obtain ⟨ob, Jb⟩ := inst_of I eb
  obtain ⟨_, fr⟩ := I.fr
  refine PySem.W.cmp_K (op := .Eq) (tb := .ref C) hr.units0 fr I.ok.mod.kin Ja Jb.type (by simp [PySem.W.notFirst]) hm.at_ hm.fn ?_
  refine wpAny_mono (run_fn (us := [.ref a, .ref b]) (vs := [.ref a, .ref b]) F hr hb .nil hx I (.cons rfl (.cons rfl .nil)) q) (fun w' s' z => ?_) fun _ _ z => z
  obtain ⟨v', H', I', r, c, rfl, q'⟩ := z
  cases r
  exact ⟨.bl c, H', I', rfl, q'⟩
theorem op_ownNe (F : FnOk X.prog X.w X.K X.mg X.base CX k f fd ps sp) (hr : Room (k + 1) X.A) (hm : Meth X.K C "__eq__" f) (hn : PySem.W.findIn X.K (.ref C) "__ne__" = some (some (.builtin "object.__ne__"))) (ho : PySem.W.subIn X.K (.ref C) (.type "object") = some true) (hb : Binds X.K fd ps []) (hx : Passes CX X E) : OpR X (compareOp .NotEq) (rOwnEq C sp E true) := by
  intro pins s σ H x y v u Q I rx ry h
  obtain ⟨a, b, dx, dy, fs, gs, rfl, rfl, ea, eb, q⟩ := h
  cases rx
  cases ry
  obtain ⟨oa, Ja⟩ := inst_of I ea
  obtain ⟨ob, Jb⟩ := inst_of I eb
  obtain ⟨_, fr⟩ := I.fr
  refine PySem.W.ne_own (by have := hr.units; omega) fr I.ok.mod.kin Ja Jb.type hm.at_ hm.fn hn ho ?_
  refine wpAny_mono (run_at (us := [.ref a, .ref b]) (vs := [.ref a, .ref b]) F hr.in1 rfl hb .nil hx I (.cons rfl (.cons rfl .nil)) q) (fun w' s' z => ?_) fun _ _ z => z
  obtain ⟨v', H', I', r, c, rfl, q'⟩ := z
  cases r
  exact ⟨c, rfl, .bl (!c), H', I', rfl, q'⟩
end
end L2
set_option Elab.async false
set_option linter.all false
set_option maxRecDepth 100000
set_option maxHeartbeats 4000000
/-! x in a list of objects with an own __eq__, whatever it answers -/
namespace GQ
open PySem PySem.SeqAt
open AutoSeq1 (wpAny_loadPart')
open MeetsSeq MeetsSeq2 MeetsSeq3 SeqRoads2
section
variable {prog : Program} {w : World} {A : Around} {R : Result → Shared → Prop} {E : Value → Shared → Prop}
/-- at each turn the list is read anew: N items, the i-th one equal to x or not, as b tells -/
def InI (prog : Program) (w : World) (A : Around) (E : Value → Shared → Prop) (l : Addr) (x : Value) (N : Nat) (b : Nat → Bool) (I : Shared → Prop) : Prop :=
  ∀ i s, I s → ∃ (items : Array Value) (n : Nat), s.heap.get? l = some { cls := .type "list", data := .seq items n } ∧ items.size = N ∧ ∀ (h1 : i < items.size), wpAny (model prog w) A.in1 (eqBool items[i] x) (fun r s' => r = b i ∧ I s') E s
theorem contains_loopG (l : Addr) (x : Value) (N : Nat) (b : Nat → Bool) (I : Shared → Prop) (hl : InI prog w A (fun e s' => R (.error e) s') l x N b I) (k : Nat) :
    ∀ i : Nat, N - i = k → i ≤ N → ∀ s, I s → (∀ s', I s' → R (.ok (.ret (.bool (((List.range N).drop i).any b)))) s') →
      wpAny (model prog w) A.in1 (Builtin.«list.__contains__.loop» ⟨[.ref l, x, rawInt i], []⟩) (FinOf prog w A R) (fun e s' => R (.error e) s') s := by
  induction k with
  | zero =>
    intro i hk hi s h fin
    obtain ⟨items, n, hl1, hs1, _⟩ := hl i _ h
    have hR := fin s h
    have hd : (List.range N).drop i = [] := by simp; omega
    rw [hd] at hR
    obtain ⟨hp, g, d, tk, os⟩ := s
    wp_walk using wpAny_loadPart' hl1
    have hi1 : items[((i : Nat) : Int).toNat]? = none := by simp; omega
    rw [hi1]
    wp_walk
    exact hR
  | succ k ih =>
    intro i hk hi s h fin
    obtain ⟨items, n, hl1, hs1, turn⟩ := hl i _ h
    have hlt : i < items.size := by omega
    have hd : (List.range N).drop i = i :: (List.range N).drop (i + 1) := by
      have hlt' : i < (List.range N).length := by simp; omega
      rw [List.drop_eq_getElem_cons hlt']
      simp
    rw [hd] at fin
    simp only [List.any_cons] at fin
    have ht := turn hlt
    obtain ⟨hp, g, d, tk, os⟩ := s
    wp_walk using wpAny_loadPart' hl1
    have hi1 : items[((i : Nat) : Int).toNat]? = some items[i] := by simp [hlt]
    have hc : ((i : Int) + 1) = ((i + 1 : Nat) : Int) := by omega
    rw [hi1]
    refine wpAny_bind (wpAny_mono ht (fun r s2 h2 => ?_) fun _ _ x => x)
    obtain ⟨hr, h2⟩ := h2
    subst hr
    cases hb : b i with
    | true =>
      have hR := fin s2 h2
      rw [hb] at hR
      obtain ⟨hp2, g2, d2, tk2, os2⟩ := s2
      wp_walk
      exact hR
    | false =>
      rw [hb] at fin
      have hrec := ih (i + 1) (by omega) (by omega) s2 h2 (by simpa using fin)
      obtain ⟨hp2, g2, d2, tk2, os2⟩ := s2
      wp_walk
      rw [hc]
      exact ⟨plainId_quiet plain_contains_loop _, codeAny_builtin entry_contains_loop (by
        rw [Around.under_plainId plain_contains_loop _]
        exact hrec)⟩
theorem in_listG {l : Addr} {x : Value} {N : Nat} {b : Nat → Bool} (I : Shared → Prop) {s : Shared} {Q : Value → Shared → Prop} (hl : InI prog w A E l x N b I) (h : I s) (fin : ∀ s', I s' → Q (.bool ((List.range N).any b)) s') :
    wpAny (model prog w) A (compareOp .In x (.ref l)) Q E s := by
  obtain ⟨items, n, hl1, hs1, _⟩ := hl 0 _ h
  show wpAny _ A (do return .bool (← contains (.ref l) x)) Q E s
  refine wpAny_bind (wpAny_contains_slot ⟨_, hl1, rfl⟩ F.slot_list_contains (wpAny_mono (call_here (Q := fun v s' => v = .bool ((List.range N).any b) ∧ I s') F.slot_list_contains ⟨_, hl1, rfl⟩ F.entry_list_contains (F.args_list_contains_2 _ _) ?_) (fun v s' hv => ?_) fun _ _ e => e))
  · have hrec := contains_loopG (A := A) (R := wants (fun v s' => v = .bool ((List.range N).any b) ∧ I s') E) l x N b I hl _ 0 rfl (Nat.zero_le _) s h (fun s' h' => ⟨by simp, h'⟩)
    obtain ⟨hp, g, d, tk, os⟩ := s
    wp_walk using wpAny_loadPart' hl1
    exact ⟨plainId_quiet plain_contains_loop _, codeAny_builtin entry_contains_loop (by
      rw [Around.under_plainId plain_contains_loop _]
      exact hrec)⟩
  · obtain ⟨rfl, hi⟩ := hv
    exact wpAny_truthy_bool (wpAny_pure (fin s' hi))
end
end GQ
namespace L2
open PySem PySem.Spec PyProof.Rows
section
variable {X : Cx} {CX : CXT} {k : Nat} {f C : Addr} {fd : FuncData} {ps : List Str} {sp : Sp} {E : XK}
/-- x in xs, all of the class at C, whose __eq__ answers as b tells, item by item, leaving what W says -/
def rInOwn (C : Addr) (sp : Sp) (E : XK) : R2 := fun x y H Q => ∃ (a l : Addr) (xs : List V) (b : Nat → Bool) (W : Hp → Prop), x = .ref a ∧ y = .ref l ∧ W H ∧
  (∀ H', W H' → H' l = some (.lst xs) ∧ ∃ (dx : Addr) (fs : List (Str × V)), H' a = some (.ins C dx fs)) ∧
  (∀ i v H', xs[i]? = some v → W H' → ∃ (c dy : Addr) (gs : List (Str × V)), v = .ref c ∧ H' c = some (.ins C dy gs) ∧ (c = a → b i = true) ∧ (c ≠ a → sp [.ref c, .ref a] H' (fun v' H'' => v' = .bl (b i) ∧ W H'') E)) ∧
  ∀ H', W H' → Q (.bl ((List.range xs.length).any b)) H'
theorem op_inOwnL (F : FnOk X.prog X.w X.K X.mg X.base CX k f fd ps sp) (hr : Room (k + 1) X.A) (hm : Meth X.K C "__eq__" f) (hb : Binds X.K fd ps []) (hx : Passes CX X E) : OpR X (compareOp .In) (rInOwn C sp E) := by
  intro pins s σ H x y v u Q I rx ry h
  obtain ⟨a, l, xs, b, W, rfl, rfl, w0, h1, h2, q⟩ := h
  cases rx
  cases ry
  refine GQ.in_listG (N := xs.length) (b := b) (fun s' => ∃ H', Inv X pins σ H' s' ∧ W H') (fun i s' hs => ?_) ⟨H, I, w0⟩ (fun s' hs => ?_)
  · obtain ⟨H', I', w1⟩ := hs
    obtain ⟨hl, dx, fs, ha⟩ := h1 H' w1
    obtain ⟨z, its, kk, r, e⟩ := I'.hok l _ hl
    refine ⟨its.toArray, kk, e, by rw [List.size_toArray, ← r.length], fun hi => ?_⟩
    have hi' : i < its.length := by simpa using hi
    have k1 : i < xs.length := by rw [r.length]; exact hi'
    obtain ⟨u, hu, ru⟩ := r.get (List.getElem?_eq_getElem k1)
    have g1 : its[i]? = some its.toArray[i] := by rw [List.getElem?_eq_getElem hi'] <;> simp
    rw [g1] at hu
    rw [Option.some.inj hu]
    obtain ⟨c, dy, gs, ev, hc, same, diff⟩ := h2 i xs[i] H' (List.getElem?_eq_getElem k1) w1
    rw [ev] at ru
    cases ru
    by_cases hca : c = a
    · subst hca
      rw [same rfl]
      exact SeqAt.EqAt.same (A := X.A.in1) (s := s') (.ref c) X.prog X.w X.xe _ ⟨rfl, H', I', w1⟩
    · refine GQ.eqBool_refG hca ?_
      obtain ⟨oa, Ja⟩ := inst_of I' hc
      obtain ⟨ob, Jb⟩ := inst_of I' ha
      obtain ⟨_, fr⟩ := I'.fr
      have hr1 : Room k X.A.in1 := hr.in1
      refine PySem.W.cmp_K (op := .Eq) (tb := .ref C) hr1.units0 fr I'.ok.mod.kin Ja Jb.type (by simp [PySem.W.notFirst]) hm.at_ hm.fn ?_
      refine wpAny_mono (run_at (us := [.ref c, .ref a]) (vs := [.ref c, .ref a]) F hr1 rfl hb .nil hx I' (.cons rfl (.cons rfl .nil)) (diff hca)) (fun w' s2 z => ?_) fun _ _ z => z
      obtain ⟨v', H2, I2, r', rfl, q'⟩ := z
      cases r'
      exact ⟨b i, rfl, rfl, H2, I2, q'⟩
  · obtain ⟨H', I', w1⟩ := hs
    exact ⟨.bl _, H', I', rfl, q H' w1⟩
end
end L2
set_option Elab.async false
set_option linter.all false
set_option maxRecDepth 100000
set_option maxHeartbeats 4000000
/-! for over, list of, an object whose own __iter__ gives a list's iterator -/
namespace L2
open PySem PySem.Spec PyProof.Rows ItX
/-- a def's promise that may speak of how many objects there are when it is called -/
def FnS (P : Program) (w : World) (K : PySem.W.Frag) (mg : Str → Option Value) (base : Heap) (CX : CXT) (k : Nat) (f : Addr) (fd : FuncData) (ps : List Str) (sp : Nat → Sp) : Prop :=
  ∀ (A : Around) (outer : List Env) (s : Shared) (H : Hp) (args : Args) (us : List Value) (vs : List V) (Q : VK) (E : XK), Room k A → Env0 P w K mg base A outer s H → BindsTo s fd args (ps.zip us) → Vals vs us → vs.length = ps.length → sp s.heap.objs.size vs H Q E →
    codeAny (model P w) A (.call (.ref f) args) (CR CX outer P w H s Q E) s
theorem fnS_of {CX : CXT} {P : Program} {w : World} {K : PySem.W.Frag} {mg : Str → Option Value} {base : Heap} {k : Nat} {f : Addr} {name qual : Str} {params : Arguments} {body : List Stmt} {scope : Scope} {dV kV doc pm cdv ct oc : Value} {an od : Option Addr}
    {osl : Array (Option Value)} {N ps : List Str} {sp : Nat → Sp} (lk : K.lookup f = some ⟨oc, od, .func (PySem.W.fnOf name qual params body scope dV kV doc pm an cdv ct), osl⟩) (hcd : PySem.W.codeIn K cdv qual = true) (S : FnScope N ps scope)
    (hbody : ∀ (A : Around) (outer : List Env) (s : Shared) (H : Hp) (vs : List V) (Q : VK) (E : XK), Room k (A.deeper (envOfC qual scope s.heap.objs.size f cdv)) → sp s.heap.objs.size vs H Q E →
      ∃ t, PSs (cxOf CX P w K mg base N qual scope f cdv A outer s H E) body t ∧ t { nx := fun _ H' => Q .non H', rt := Q } (start N vs) H) :
    FnS P w K mg base CX (k + 1) f (PySem.W.fnOf name qual params body scope dV kV doc pm an cdv ct) ps sp := by
  intro A outer s H args us vs Q E hr e0 hb r hl hsp
  have KX : K.In s.heap := e0.mod.kin.keeps fun b o e => (e0.bs b o e).1
  have lim : s.heap.NoLimit := e0.mod.nolimit.keeps fun b o e => (e0.bs b o e).1
  have hkind : ∀ y ∈ ps.zip us, scope.names.lookup y.1 = some .local ∨ (scope.names.lookup y.1 = some .cell ∧ ((cellsFrom (s.heap.objs.size + 1) scope.names []).lookup y.1).isSome = true) := fun ⟨n, v⟩ hy => by
    rcases S.par n (List.of_mem_zip hy).1 with q | q
    · exact .inl q
    · exact .inr ⟨q, PySem.W.cellsFrom_some _ _ _ (.inl q)⟩
  refine codeAny_call_function hr.depth (KX _ _ lk) rfl S.co S.gen rfl (PySem.W.codeRec_of KX hcd) (hb _ _ _ _ ?_)
  refine wpAny_newFunctionEnv_cells S.kind hkind fun env he s1 x => ?_
  subst he
  refine ⟨lim.keeps x.toInCall.keep, codeAny_func ?_⟩
  obtain ⟨t, ht, hq⟩ := hbody A outer s H vs Q E (hr.deeper _) hsp
  have I : Inv (cxOf CX P w K mg base N qual scope f cdv A outer s H E) [] (start N vs) H s1 := inv_start S hr.hd e0 hl r x
  refine wpAny_mono (ht.run [] s1 (start N vs) H _ I hq) (fun fl s' hs => ?_) fun e s' hs => hs
  have fin : ∀ {σ' : St} {H' : Hp} {v : V} {u : Value}, Inv (cxOf CX P w K mg base N qual scope f cdv A outer s H E) [] σ' H' s' → RelV v u → Q v H' → CE outer P w H s Q u s' :=
    fun {σ' H' v u} J rv q => ⟨v, H', J.os, J.bare, J.base, J.hok, rv, q⟩
  cases fl with
  | ret u =>
    obtain ⟨v, σ', H', J, rv, q⟩ := hs
    exact fin J rv q
  | next =>
    obtain ⟨σ', H', J, q⟩ := hs
    exact fin (v := V.non) (u := Value.none) J rfl q
  | brk =>
    obtain ⟨_, _, _, q⟩ := hs
    exact False.elim q
  | cont =>
    obtain ⟨_, _, _, q⟩ := hs
    exact False.elim q
theorem Fun.okS {P : Program} {w : World} {K : PySem.W.Frag} {mg : Str → Option Value} {base : Heap} {fd : FuncData} {x qual : Str} {st : Stmt} {f : Addr} {N ps : List Str} {k : Nat} {sp : Nat → Sp} (F : Fun K x qual st f fd) (S : FnScope N ps (defScope st))
    (hbody : ∀ (cdv : Value) (A : Around) (outer : List Env) (s : Shared) (H : Hp) (vs : List V) (Q : VK) (E : XK), Room k (A.deeper (envOfC qual (defScope st) s.heap.objs.size f cdv)) → sp s.heap.objs.size vs H Q E →
      ∃ t, PSs (cxOf CX0 P w K mg base N qual (defScope st) f cdv A outer s H E).nox (defBody st) t ∧ t { nx := fun _ H' => Q .non H', rt := Q } (start N vs) H) : FnS P w K mg base CX0 (k + 1) f fd ps sp := by
  obtain ⟨oc, od, kV, doc, pm, an, cdv, ct, osl, rfl, lk, hcd⟩ := F.ex
  refine fnS_of lk hcd S fun A outer s H vs Q E hr hsp => ?_
  obtain ⟨t, h, q⟩ := hbody cdv A outer s H vs Q E hr hsp
  exact ⟨t, h.nox, q⟩
section
variable {X : Cx} {CX CY : CXT} {k : Nat} {f g C : Addr} {fd fe : FuncData} {ps pt : List Str} {sp : Nat → Sp} {sq : Sp} {E F' : XK}
theorem run_iter {pins : List (Addr × Obj)} {σ : L2.St} {H : Hp} {s : Shared} {B : Around} {a : Addr} {R : Addr → Hp → Prop} (F : FnS X.prog X.w X.K X.mg X.base CX k f fd ps sp) (hl : ps.length = 1) (hr : Room k B) (hf : B.frames = X.A.frames) (hb : Binds X.K fd ps []) (hx : Passes CX X E)
    (I : Inv X pins σ H s) (h : ∀ n, sp n [.ref a] H (fun v H2 => ∃ it l, v = .ref it ∧ n ≤ it ∧ H2 it = some (ItO l it 0) ∧ R l (dropH H2 it)) E) :
    wpAny (model X.prog X.w) B (call (.ref f) [.ref a]) (fun u s' => ∃ it l H2, u = .ref it ∧ Inv X pins σ (dropH H2 it) s' ∧ FpOk X pins (dropH H2 it) it ∧ s'.heap.IsListIter it l 0 ∧ R l (dropH H2 it)) X.xe s := by
  have r : Vals [V.ref a] [Value.ref a] := .cons rfl .nil
  have len : [V.ref a].length = ps.length := hl.symm
  have e1 := I.env0
  have env : Env0 X.prog X.w X.K X.mg X.base B X.stack s H := ⟨hf.trans e1.frames, e1.mod, e1.bs, e1.bsz, e1.funs, e1.frf, e1.hok, e1.bare⟩
  refine wpAny_call (codeAny_mono (F B X.stack s H ⟨[.ref a], []⟩ [.ref a] [.ref a] _ E hr env (by
    have := hb s [.ref a] I.kIn (by simpa using len)
    simpa using this) r len (h _)) fun fin s' z => ?_)
  cases fin with
  | error e => exact hx pins σ H s e s' I z
  | ok fl =>
    cases fl with
    | ret u =>
      obtain ⟨v, H', os, bare, un, hok, rv, it, l, ev, h0, h2, hR⟩ := z
      subst ev
      cases rv
      have hsz : X.s_0.heap.objs.size ≤ it := Nat.le_trans I.sz h0
      have I' : Inv X pins σ H' s' := I.call' (ch := []) os un hok bare (fun b z => absurd z (by simp))
      have h2' := h2
      unfold ItO at h2'
      have eo := itO_get I' h2
      exact ⟨it, l, H', rfl, inv_drop I' h2', inv_fp I' h2 hsz, ⟨_, eo, rfl, rfl⟩, hR⟩
    | next => exact z.elim
    | brk => exact z.elim
    | cont => exact z.elim
theorem it_is {pins : List (Addr × Obj)} {σ : L2.St} {H : Hp} {s : Shared} {A : Around} {it l : Addr} {i : Nat} {Q : Value → Shared → Prop} {E : Value → Shared → Prop} (h : s.heap.IsListIter it l i) (q : Q (.ref it) s) : PySem.W.OwitIt (model X.prog X.w) A Q E (.ref it) s := by
  unfold PySem.W.OwitIt
  exact wpAny_specialOf (name := Str.ofString "__next__") h.typeIs slot_listiter_next.lookup q
/-- for .. in x, x of the class at C, whose __iter__ gives an iterator over a list -/
def iOwn (C : Addr) (sp : Nat → Sp) (E : XK) (K : PySem.W.Frag) (te : TE) : TI := fun σ H R => te σ H fun x H1 => ∃ a dx fs, x = .ref a ∧ H1 a = some (.ins C dx fs) ∧ ∀ n, sp n [.ref a] H1 (fun v H2 => ∃ it l, v = .ref it ∧ n ≤ it ∧ H2 it = some (ItO l it 0) ∧ R (Itl K l) (dropH H2 it)) E
theorem pi_own {tg e : Expr} {te : TE} (F : FnS X.prog X.w X.K X.mg X.base CX k f fd ps sp) (hl : ps.length = 1) (hr : Room k X.A) (hm : Meth X.K C "__iter__" f) (hb : Binds X.K fd ps []) (hx : Passes CX X E) (he : PE X e te) : PI X tg e (iOwn C sp E X.K te) := by
  refine ⟨fun pins s σ H R I h => ?_⟩
  refine thn (he.run pins s σ H _ I h) fun v s1 ⟨x, H1, I1, r1, a, dx, fs, ex, ea, q⟩ => ?_
  subst ex
  cases r1
  obtain ⟨oa, Ja⟩ := inst_of I1 ea
  obtain ⟨_, fr⟩ := I1.fr
  refine PySem.W.owit_iter fr I1.ok.mod.kin Ja hm.at_ hm.fn (wpAny_mono (run_iter (R := fun l H2 => R (Itl X.K l) H2) F hl hr rfl hb hx I1 q) (fun u s2 z => ?_) fun _ _ z => z)
  obtain ⟨it, l, H2, rfl, I2, fp, st, hR⟩ := z
  refine it_is (pins := pins) (σ := σ) (H := H) st ?_
  refine ⟨it, [it], _, _, dropH H2 it, rfl, I2, turn_list l it, st, fun b hb' => ?_, hR⟩
  have e : b = it := by simpa using hb'
  subst e
  exact fp
/-- list(x): the class at C has own __iter__ and __len__ -/
def rListOwn (K : PySem.W.Frag) (C : Addr) (sp : Nat → Sp) (sq : Sp) (E F' : XK) : List V → Hp → VK → Prop := fun xs H Q => ∃ (a : Addr) (dx : Addr) (fs : List (Str × V)), xs = [.ref a] ∧ H a = some (.ins C dx fs) ∧ ∀ q, H q = none →
  ∀ n, sp n [.ref a] (upd H q (.lst [])) (fun v H2 => ∃ it l, v = .ref it ∧ n ≤ it ∧ H2 it = some (ItO l it 0) ∧ (∃ dx fs, dropH H2 it a = some (.ins C dx fs)) ∧
    sq [.ref a] (dropH H2 it) (fun v H3 => ∃ (m : Nat) (ys : List V), v = .int (m : Int) ∧ m ≤ sizeLine ∧ H3 q = some (.lst []) ∧ q ≠ l ∧ SqL K H3 l ys ∧ ys.length ≤ sizeLine ∧ Q (.ref q) (upd H3 q (.lst ys))) F') E
theorem ext_loop {pins : List (Addr × Obj)} {σ : L2.St} {A1 : Around} {q it l : Addr} {ys : List V} {Rs : Result → Shared → Prop} (hc : A1.in1.handled = none) (hz : ys.length ≤ sizeLine) (hql : q ≠ l) (n : Nat) : ∀ (i : Nat) (H : Hp) (s : Shared), ys.length - i = n → i ≤ ys.length → Inv X pins σ H s → H q = some (.lst (ys.take i)) → SqL X.K H l ys → FpOk X pins H it → s.heap.IsListIter it l i →
    (∀ H' s', Inv X pins σ H' s' → H' = upd H q (.lst ys) → Rs (.ok (.ret .none)) s') → codeAny (model X.prog X.w) A1 (.builtin "list.extend.loop" ⟨[.ref q, .ref it, .none], []⟩) Rs s := by
  induction n with
  | zero =>
    intro i H s hn hi I hq hl fp st done
    refine codeAny_builtin PySem.F.entry_extend_loop ?_
    rw [Around.under_plainId PySem.F.plain_extend_loop _]
    show wpAny _ A1.in1 (pyNext (.ref it) >>= _) _ _ s
    obtain ⟨its, rv, p, hzz⟩ := I.list hl
    obtain ⟨f0, f1, f2, f3, f4, f5⟩ := fp
    have hll := rv.length
    refine wpAny_bind (wpAny_pyNext_list_end hc st p.isList (by simp; omega) fun h' eb => ?_)
    have I' : Inv X pins σ H { s with heap := h' } := I.turned (t' := s.toks) (fun b o hb e => eb b o hb e) f0 f1 f3 f4 f5
    refine wpAny_pure (done H _ I' ?_)
    have e : i = ys.length := by omega
    subst e
    rw [List.take_length] at hq
    funext b
    by_cases hb : b = q
    · rw [hb, upd_same, hq]
    · rw [upd_ne hb]
  | succ n ih =>
    intro i H s hn hi I hq hl fp st done
    refine codeAny_builtin PySem.F.entry_extend_loop ?_
    rw [Around.under_plainId PySem.F.plain_extend_loop _]
    show wpAny _ A1.in1 (pyNext (.ref it) >>= _) _ _ s
    obtain ⟨its, rv, p, hzz⟩ := I.list hl
    obtain ⟨f0, f1, f2, f3, f4, f5⟩ := id fp
    have hlt : i < ys.length := by omega
    obtain ⟨u, hu, ru⟩ := rv.get (List.getElem?_eq_getElem hlt)
    refine wpAny_bind (wpAny_pyNext_list_item st p.isList (x := u) (by simpa using hu) fun h' st' sb => ?_)
    have I1 : Inv X pins σ H { s with heap := h' } := I.turned (t' := s.toks) (fun b o hb e => (sb.2 b hb).trans e) f0 f1 f3 f4 f5
    show wpAny _ A1.in1 (updateSeq q (·.push u) >>= _) _ _ _
    obtain ⟨z, its2, kk, r2, hl2, e⟩ := I1.lstM hq
    have hlen : (ys.take i).length = i := by rw [List.length_take]; exact Nat.min_eq_left (Nat.le_of_lt hlt)
    have hs2 : its2.length = i := by rw [← r2.length, hlen]
    refine wpAny_bind (wpAny_updateSeq e rfl (wpAny_pure ⟨plainId_quiet PySem.F.plain_extend_loop _, ?_⟩) (by rw [List.size_toArray]; omega) (by show (its2.toArray.push u).size ≤ sizeLine + 1; rw [Array.size_push, List.size_toArray]; omega))
    have et : ys.take (i + 1) = ys.take i ++ [ys[i]] := by rw [List.take_add_one, List.getElem?_eq_getElem hlt]; rfl
    have I2 := I1.lset (f := (·.push u)) (its' := its2 ++ [u]) (t' := s.toks) (ys := ys.take (i + 1)) hq e (by simp) (by rw [et]; exact r2.append (.cons ru .nil)) (by rw [List.length_take]; omega)
    have nq : it ≠ q := fun z => by rw [z, hq] at f0; cases f0
    refine ih (i + 1) _ _ (by omega) (by omega) I2 upd_same ?_ ?_ ?_ ?_
    · have hx : upd H q (.lst (ys.take (i + 1))) l = H l := upd_ne hql.symm
      unfold SqL Rd at hl ⊢
      simp only [hx]
      exact hl
    · exact ⟨by rw [upd_ne nq]; exact f0, f1, f2, f3, f4, f5⟩
    · obtain ⟨o, h1, h2, h3⟩ := st'
      refine ⟨o, ?_, h2, h3⟩
      rw [Heap.get?_update_ne _ _ _ _ nq]
      exact h1
    · intro H' s' I' eH
      refine done H' s' I' ?_
      rw [eH, upd_upd]
end
end L2
set_option Elab.async false
set_option linter.all false
set_option maxRecDepth 100000
set_option maxHeartbeats 4000000
namespace L2
open PySem PySem.Spec PyProof.Rows ItX
section
variable {X : Cx} {CX CY : CXT} {k : Nat} {f g C : Addr} {fd fe : FuncData} {ps pt : List Str} {sp : Nat → Sp} {sq : Sp} {E F' : XK}
/-- a def that lets nothing out, run from within a built-in -/
theorem run_at0 {pins : List (Addr × Obj)} {σ : L2.St} {H : Hp} {s : Shared} {B : Around} {Q : VK} {us : List Value} {vs : List V} {E1 : Value → Shared → Prop} (F : FnOk X.prog X.w X.K X.mg X.base CX0 k g fe pt sq) (hr : Room k B) (hf : B.frames = X.A.frames) (hb : Binds X.K fe pt [])
    (I : Inv X pins σ H s) (r : Vals vs us) (h : sq vs H Q F') : wpAny (model X.prog X.w) B (call (.ref g) us) (EP X pins σ Q) E1 s := by
  have len := F.len _ _ _ _ h
  rw [r.length] at len
  have e1 := I.env0
  have env : Env0 X.prog X.w X.K X.mg X.base B X.stack s H := ⟨hf.trans e1.frames, e1.mod, e1.bs, e1.bsz, e1.funs, e1.frf, e1.hok, e1.bare⟩
  refine wpAny_call (codeAny_mono (F.run B X.stack s H ⟨us, []⟩ us vs Q F' hr env (by
    have := hb s us I.kIn (by simpa using len)
    simpa using this) r h) fun fin s' z => ?_)
  cases fin with
  | error e => exact z.elim
  | ok fl =>
    cases fl with
    | ret u => exact I.after z
    | next => exact z.elim
    | brk => exact z.elim
    | cont => exact z.elim
/-- the hint of an object with an own __len__ -/
theorem hint_own {pins : List (Addr × Obj)} {σ : L2.St} {H : Hp} {s : Shared} {B : Around} {a dx : Addr} {fs : List (Str × V)} {Q : Bool → Shared → Prop} {E1 : Value → Shared → Prop} (G : FnOk X.prog X.w X.K X.mg X.base CX0 k g fe pt sq) (hr : Room (k + 1) B) (hf : B.frames = X.A.frames) (hm : Meth X.K C "__len__" g) (hb : Binds X.K fe pt [])
    {R0 : V → Hp → Prop} (I : Inv X pins σ H s) (ea : H a = some (.ins C dx fs)) (h : sq [.ref a] H R0 F') (hR : ∀ v H3, R0 v H3 → ∃ m : Nat, v = .int (m : Int) ∧ m ≤ sizeLine ∧ ∀ s', Inv X pins σ H3 s' → Q ((m : Int) != 0) s') :
    wpAny (model X.prog X.w) B (Builtin.List.listLengthHint (.ref a)) Q E1 s := by
  obtain ⟨oa, Ja⟩ := inst_of I ea
  obtain ⟨_, fr⟩ := I.fr
  unfold Builtin.List.listLengthHint
  refine wpAny_bind (wpAny_bind (Ja.type.here ((PySem.W.looks_findIn I.kIn hm.at_).here ?_)))
  refine PySem.W.KFB.if_not rfl ?_
  rw [if_pos (show (some (Value.ref g)).isSome = true from rfl)]
  refine wpAny_bind (wpAny_rule ?_)
  refine wpAny_bind ?_
  refine wpAny_attempt (PySem.W.len_K fr I.ok.mod.kin Ja hm.at_ hm.fn (wpAny_mono (run_at0 (us := [.ref a]) (vs := [.ref a]) (B := B.in1) (E1 := fun _ _ => False) G hr.in1 hf hb I (.cons rfl .nil) h) (fun u s1 z => ?_) fun _ _ z => z.elim))
  obtain ⟨v, H1, I1, rv, z⟩ := z
  obtain ⟨m, rfl, hz, q⟩ := hR v H1 z
  obtain ⟨t, rfl⟩ := rv
  refine ⟨⟨Int.natCast_nonneg _, ?_⟩, ?_⟩
  · have : sizeLine < 2 ^ 63 := by rw [sizeLine_eq]; decide
    omega
  have hq := q { s1 with toks := s1.toks + 1 } (I1.tok _)
  dsimp only
  have ht : Builtin.List.listTooLong ((m : Int)).toNat = false := by
    show decide (((m : Int)).toNat > sizeLine) = false
    rw [Int.toNat_natCast]
    exact decide_eq_false (by omega)
  refine wpAny_bind (m := asInt? _) (wpAny_pure ?_)
  dsimp only
  rw [ht]
  rw [if_neg Bool.false_ne_true]
  exact wpAny_pure hq
theorem call_listOwnL (F : FnS X.prog X.w X.K X.mg X.base CX k f fd ps sp) (hl : ps.length = 1) (G : FnOk X.prog X.w X.K X.mg X.base CX0 k g fe pt sq) (hr : Room (k + 3) X.A) (hm : Meth X.K C "__iter__" f) (hb : Binds X.K fd ps []) (hx : Passes CX X E) (hn : Meth X.K C "__len__" g) (hbn : Binds X.K fe pt []) (hcalm : X.A.handled = none) :
    CallR X (.type "list") (rListOwn X.K C sp sq E F') := by
  intro pins s σ H xs us Q I rv h
  obtain ⟨a, dx, fs, rfl, ha, hq⟩ := h
  obtain ⟨u, rfl, ru⟩ := rv.one
  cases ru
  refine callType_codes (Q₁ := fun obj s₁ => obj = .ref s.heap.objs.size ∧ s₁ = { s with heap := s.heap.push { cls := .type "list", data := .seq #[] } }) PySem.F.called_list (PySem.F.typeCall_list_1 _) PySem.F.entry_list_init
    (code_list_new _ ⟨rfl, rfl⟩) fun obj s₁ h₁ => ?_
  obtain ⟨rfl, rfl⟩ := h₁
  have hS : (s.heap.push { cls := .type "list", data := .seq #[] }).get? s.heap.objs.size = some { cls := .type "list", data := .seq #[] } := Heap.get?_push_size _ rfl
  refine ⟨⟨_, hS, rfl⟩, PySem.F.args_list_init_2 _ _, ?_⟩
  have fr : H s.heap.objs.size = none := I.hok.fresh (Nat.le_refl _)
  have hsp := hq _ fr
  have I1 : Inv X pins σ (upd H s.heap.objs.size (.lst [])) { s with heap := s.heap.push { cls := .type "list", data := .seq #[] } } := I.lnew (its := []) (t' := s.toks) .nil (Nat.zero_le _)
  show wpAny _ _ (do let old ← Builtin.List.listItems (.ref s.heap.objs.size); Builtin.List.listUpdate (.ref s.heap.objs.size) (fun _ => #[]); letGo old.toList.reverse; Builtin.List.listExtendWith (.ref s.heap.objs.size) (.ref a) .none) _ _ _
  refine wpAny_bind ?_
  unfold Builtin.List.listItems
  refine wpAny_bind (wpAny_seqItems hS rfl (wpAny_pure ?_))
  show wpAny _ _ (updateSeq s.heap.objs.size (fun _ => #[]) >>= fun _ => letGo (#[] : Array Value).toList.reverse >>= fun _ => Builtin.List.listExtendWith (.ref s.heap.objs.size) (.ref a) .none) _ _ _
  refine wpAny_bind (wpAny_updateSeq hS rfl ?_)
  have I2 := I1.lset (f := fun _ => #[]) (its := []) (its' := []) (ys := []) (t' := s.toks) upd_same hS rfl .nil (Nat.zero_le _)
  rw [upd_upd] at I2
  refine wpAny_bind (wpAny_letGo ?_)
  have ha2 : upd H s.heap.objs.size (.lst []) a = some (.ins C dx fs) := by rw [upd_ne (ne_of_none ha fr)]; exact ha
  have hne : s.heap.objs.size ≠ a := (ne_of_none ha fr).symm
  revert I2
  generalize s.heap.objs.size = q at *
  intro I2
  obtain ⟨oa, Ja⟩ := inst_of I2 ha2
  obtain ⟨_, hF⟩ := I2.fr
  unfold Builtin.List.listExtendWith
  refine wpAny_bind (Ja.type.here ?_)
  have h1 : Builtin.List.listSameRef (.ref q) (.ref a) = false := by simp [Builtin.List.listSameRef, hne]
  have h2 : (Value.ref C == Value.type "list") = false := rfl
  have h3 : (Value.ref C == Value.type "tuple") = false := rfl
  simp only [h1, h2, h3, Bool.or_false, Bool.false_eq_true, if_false]
  refine wpAny_bind (PySem.W.owit_iter hF I2.ok.mod.kin Ja hm.at_ hm.fn (wpAny_mono (run_iter (B := X.A.in1.in1)
    (R := fun l Hd => (∃ dx fs, Hd a = some (.ins C dx fs)) ∧ sq [.ref a] Hd (fun v H3 => ∃ (m : Nat) (ys : List V), v = .int (m : Int) ∧ m ≤ sizeLine ∧ H3 q = some (.lst []) ∧ q ≠ l ∧ SqL X.K H3 l ys ∧ ys.length ≤ sizeLine ∧ Q (.ref q) (upd H3 q (.lst ys))) F')
    F hl ?room rfl hb hx I2 ?sp) (fun u s2 z => ?_) fun _ _ z => z))
  case room => exact ((show Room (k + 2) X.A.in1 from hr.in1).in1).mono (by omega)
  case sp => exact hsp
  obtain ⟨it, l, H2, rfl, I3, fp, st, ⟨dx', fs', ha3⟩, hlen⟩ := z
  refine it_is (pins := pins) (σ := σ) (H := H) st ?_
  obtain ⟨oi, e1, e2, e3⟩ := id st
  have I4 := I3.pinned (fp := [it]) (fun b hb => by
    have e : b = it := by simpa using hb
    subst e
    exact fp) (fun b hb => by
    have e : b = it := by simpa using hb
    subst e
    exact ⟨oi, e1, fun v z => by rw [e3] at z; cases z⟩)
  have hpin : pinsAt [it] s2.heap = [(it, oi)] := by
    unfold pinsAt
    simp [e1]
  rw [hpin] at I4
  refine wpAny_bind (wpAny_holding (hint_own (X := X) (B := X.A.in1.in1) (F' := F') (sq := sq) G (((show Room (k + 2) X.A.in1 from hr.in1).in1).mono (by omega)) rfl hn hbn I4 ha3 hlen ?_))
  rintro v H3 ⟨m, ys, rfl, hm0, hq3, hql, hl3, hz, hQ⟩
  refine ⟨m, rfl, hm0, fun s3 I5 => ?_⟩
  have p5 := I5.pin (it, oi) (by simp)
  obtain ⟨f0, f1, f2, f3, f4, f5⟩ := fp
  have fp5 : FpOk X pins H3 it := ⟨p5.2.1, f1, f2, f3, f4, f5⟩
  have st5 : s3.heap.IsListIter it l 0 := ⟨oi, p5.1, e2, e3⟩
  have I6 : Inv X pins σ H3 s3 := I5.unpinned
  have fin : ∀ (s4 : Shared), Inv X pins σ H3 s4 → s4.heap.IsListIter it l 0 → codeAny (model X.prog X.w) X.A.in1 (.builtin "list.extend.loop" ⟨[.ref q, .ref it, .none], []⟩) (wants (fun r s₂ => r = .none ∧ EP X pins σ Q (.ref q) s₂) X.xe) s4 := fun s4 I7 st7 =>
    ext_loop (X := X) (A1 := X.A.in1) hcalm hz hql _ 0 H3 s4 rfl (Nat.zero_le _) I7 hq3 hl3 fp5 st7 (fun H' s' I' eH => ⟨rfl, .ref q, H', I', rfl, by rw [eH]; exact hQ⟩)
  refine wpAny_ite_split (fun _ => ?_) (fun _ => wpAny_pure ⟨plainId_quiet PySem.F.plain_extend_loop _, fin s3 I6 st5⟩)
  refine wpAny_bind (wpAny_rule ?_)
  refine wpAny_bind ?_
  show wpAny _ _ (updateSeq q (·.push .none) >>= fun _ => updateSeq q (·.pop)) _ _ _
  obtain ⟨z, its, k3, r3, hl5, e5⟩ := I6.lstM hq3
  cases r3
  refine wpAny_bind (wpAny_updateSeq e5 rfl ?_)
  have I7 := I6.lset (f := (·.push Value.none)) (its' := [Value.none]) (ys := [.non]) (t' := s3.toks) hq3 e5 (by simp) (.cons rfl .nil) (by rw [List.length_singleton, sizeLine_eq]; decide)
  obtain ⟨z4, its4, k4, r4, hl4, e4⟩ := I7.lstM upd_same
  obtain ⟨u4, rfl, ru4⟩ := r4.one
  have nq : it ≠ q := fun z => by
    have h0 := fp5.1
    rw [z, hq3] at h0
    cases h0
  refine wpAny_updateSeq e4 rfl ?_ (by show 1 ≤ sizeLine; rw [sizeLine_eq]; decide) (by show 0 ≤ sizeLine + 1; exact Nat.zero_le _)
  refine wpAny_pure ⟨plainId_quiet PySem.F.plain_extend_loop _, fin _ ?_ ?_⟩
  · have I8 := I7.lset (f := (·.pop)) (its := [u4]) (its' := []) (ys := []) (t' := s3.toks) upd_same e4 (by rfl) .nil (Nat.zero_le _)
    rw [upd_upd] at I8
    have hH : upd H3 q (.lst []) = H3 := by
      funext b
      by_cases hb : b = q
      · rw [hb, upd_same, hq3]
      · rw [upd_ne hb]
    rw [hH] at I8
    exact I8
  · obtain ⟨o, h1, h2, h3⟩ := st5
    refine ⟨o, ?_, h2, h3⟩
    rw [Heap.get?_update_ne _ _ _ _ nq, Heap.get?_update_ne _ _ _ _ nq]
    exact h1
end
end L2
set_option Elab.async false
set_option linter.all false
set_option maxRecDepth 100000
set_option maxHeartbeats 4000000
/-! {e!r} of a list of data, repr(x) by an own __repr__ that asks no repr above it -/
namespace L2
open PySem PySem.Spec PyProof.Rows
section
variable {X : Cx} {CX : CXT} {k : Nat} {f C : Addr} {fd : FuncData} {ps : List Str} {sp : Sp} {E : XK}
def tFmtRD (K : PySem.W.Frag) (te : TE) : TE := fun σ H Q => te σ H fun x H1 => ∃ (a : Addr) (ys : List V) (ds : List PyData), x = .ref a ∧ SqL K H1 a ys ∧ DqAll K H1 ys ds ∧ (PyData.list ds).showable = true ∧ (PyData.list ds).depth ≤ 40 ∧ (PyData.list ds).shown.length ≤ sizeLine ∧ Q (.str (PyData.list ds).shown) H1
theorem pe_fmtRD {e : Expr} {te : TE} {pos : Pos} (hg : X.A.guards = some []) (hu : X.A.units + 64 < cLine) (he : PE X e te) : PE X (.FormattedValue e 114 none pos) (tFmtRD X.K te) := by
  refine ⟨fun pins s σ H Q I h => ?_⟩
  refine wpAny_FormattedValue_repr (thn (he.run pins s σ H _ I h) fun v s1 hv => ?_)
  obtain ⟨x, H1, I1, r1, a, ys, ds, rfl, hq, ha, hs, hdp, hz, q⟩ := hv
  cases r1
  obtain ⟨its, rv, ⟨o, n, ho, hc, _, hd⟩, _⟩ := I1.list hq
  have hz' : (listText (PyData.shownAll ds)).length ≤ sizeLine := by simpa only [PyData.shown] using hz
  obtain ⟨as, bs, hr, hb, hk⟩ := DqAll.repr I1 ha its rv (by simpa [PyData.showable] using hs) (fun t ht => Nat.le_trans (listText_mem_le ht) hz')
  have rr : Reads s1.heap (.ref a) (.list ds) _ := .list ho hc hd hr
  have hna : a ∉ bs := not_mem_of_deeper rr (by simp only [PyData.depth]; omega) hb
  simp only [PyData.depth] at hdp
  simp only [PyData.shown] at q
  have fin : ∀ (u' : Nat) (h' : Heap) (tk : Nat), (∀ b o, s1.heap.get? b = some o → h'.get? b = some o) → wpAny (model X.prog X.w) X.A (formatField (.str (listText (PyData.shownAll ds)) u') Str.empty) (EP X pins σ Q) X.xe { s1 with heap := h', toks := tk } := fun u' h' tk hk => by
    have I2 : Inv X pins σ H1 { s1 with heap := h', toks := tk } := I1.kept (t' := tk) hk
    exact wpAny_formatField_str ⟨.str _, H1, I2, ⟨_, rfl⟩, q⟩ ⟨.str _, H1, I2.tok _, ⟨_, rfl⟩, q⟩ hz'
  refine wpAny_pyReprObj_slot (by omega) ⟨o, ho, hc⟩ F.slot_list_repr.toG ?_
  cases its with
  | nil =>
    cases hr
    simp only [PyData.shownAll, listText_nil] at fin
    exact call_list_repr_empty ⟨o, ho, hc⟩ ho hd ⟨_, _, rfl, fin _ _ _ fun _ _ e => e⟩
  | cons x l =>
    exact call_list_reprK ho hc hd hna (by simpa using hk.length_eq) (fun i y e => hk.item i y (by simpa using e)) hg (fun b _ => Clear.nil b) (by omega) (fun _ _ e => e) (fun h' u tk hk => ⟨_, _, rfl, fin u h' tk hk⟩) hz'
theorem run_atG {pins : List (Addr × Obj)} {σ : L2.St} {H : Hp} {s : Shared} {B : Around} {Q : VK} {us : List Value} {vs : List V} (F : FnOkG X.prog X.w X.K X.mg X.base CX k f fd ps sp) (hG : B.guards = some []) (hr : Room k B) (hf : B.frames = X.A.frames) (hb : Binds X.K fd ps []) (hx : Passes CX X E)
    (I : Inv X pins σ H s) (r : Vals vs us) (h : sp vs H Q E) : wpAny (model X.prog X.w) B (call (.ref f) us) (EP X pins σ Q) X.xe s := by
  have len := F.len _ _ _ _ h
  rw [r.length] at len
  have e1 := I.env0
  have env : Env0 X.prog X.w X.K X.mg X.base B X.stack s H := ⟨hf.trans e1.frames, e1.mod, e1.bs, e1.bsz, e1.funs, e1.frf, e1.hok, e1.bare⟩
  refine wpAny_call (codeAny_mono (F.run B X.stack s H ⟨us, []⟩ us vs Q E hG hr env (by
    have := hb s us I.kIn (by simpa using len)
    simpa using this) r h) fun fin s' z => ?_)
  cases fin with
  | error e => exact hx pins σ H s e s' I z
  | ok fl =>
    cases fl with
    | ret u => exact I.after z
    | next => exact z.elim
    | brk => exact z.elim
    | cont => exact z.elim
theorem call_ownReprG (F : FnOkG X.prog X.w X.K X.mg X.base CX k f fd ps sp) (hG : X.A.guards = some []) (hr : Room (k + 1) X.A) (hm : Meth X.K C "__repr__" f) (hb : Binds X.K fd ps []) (hx : Passes CX X E) : CallR X (.builtin "repr") (rOwnRepr C sp [] E) := by
  intro pins s σ H xs us Q I r h
  obtain ⟨a, dx, fs, rfl, ea, q⟩ := h
  obtain ⟨u, rfl, ru⟩ := vals1 r
  cases ru
  obtain ⟨oa, Ja⟩ := inst_of I ea
  obtain ⟨_, fr⟩ := I.fr
  have room : X.A.in1.units < cLine := hr.in1.units0
  refine PySem.W.repr_K room fr I.ok.mod.kin Ja hm.at_ hm.fn (wpAny_mono (run_atG (us := [.ref a]) (vs := [.ref a]) F hG hr.in1 rfl hb hx I (.cons rfl .nil) q) (fun u s1 z => ?_) fun _ _ z => z)
  obtain ⟨v, H1, I1, rv, n, rfl, q1⟩ := z
  obtain ⟨t, rfl⟩ := rv
  exact ⟨.str n, H1, I1, ⟨_, rfl⟩, q1⟩
end
end L2
set_option Elab.async false
set_option linter.all false
set_option maxRecDepth 100000
set_option maxHeartbeats 4000000
/-! a comprehension of three clauses -/
namespace L2
open PySem PySem.Spec PyProof.Rows
theorem compTurn3_out (elt t0 i0 t1 i1 t2 i2 : Expr) (ifs0 ifs1 ifs2 : List Expr) (scope : Scope) (pos : Pos) (it acc : Value) (env : Env) :
    compTurn (.ListComp elt [⟨t0, i0, ifs0, 0⟩, ⟨t1, i1, ifs1, 0⟩, ⟨t2, i2, ifs2, 0⟩] scope pos) 0 it acc env = (do
      standAt i0.pos
      match ← pyNext it with
      | none => pure (.done .next)
      | some v =>
        letOwnedTupleGo t0 it v
        assign t0 env v
        let mut ok := true
        for c in ifs0 do
          if ok then ok ← isTrue c env (eval c env)
        if ok then
          let x ← eval i1 env
          standAt i1.pos
          let x ← foldedSetIterable i1 env x
          let _ ← runOwn (.compStart (.ListComp elt [⟨t0, i0, ifs0, 0⟩, ⟨t1, i1, ifs1, 0⟩, ⟨t2, i2, ifs2, 0⟩] scope pos) 1 (← holding [x] (pyIter x)) acc env) env
        again (.compLoop (.ListComp elt [⟨t0, i0, ifs0, 0⟩, ⟨t1, i1, ifs1, 0⟩, ⟨t2, i2, ifs2, 0⟩] scope pos) 0 it acc env)) := by rfl
theorem compTurn3_mid (elt t0 i0 t1 i1 t2 i2 : Expr) (ifs0 ifs1 ifs2 : List Expr) (scope : Scope) (pos : Pos) (it acc : Value) (env : Env) :
    compTurn (.ListComp elt [⟨t0, i0, ifs0, 0⟩, ⟨t1, i1, ifs1, 0⟩, ⟨t2, i2, ifs2, 0⟩] scope pos) 1 it acc env = (do
      standAt i1.pos
      match ← pyNext it with
      | none => pure (.done .next)
      | some v =>
        letOwnedTupleGo t1 it v
        assign t1 env v
        let mut ok := true
        for c in ifs1 do
          if ok then ok ← isTrue c env (eval c env)
        if ok then
          let x ← eval i2 env
          standAt i2.pos
          let x ← foldedSetIterable i2 env x
          let _ ← runOwn (.compStart (.ListComp elt [⟨t0, i0, ifs0, 0⟩, ⟨t1, i1, ifs1, 0⟩, ⟨t2, i2, ifs2, 0⟩] scope pos) 2 (← holding [x] (pyIter x)) acc env) env
        again (.compLoop (.ListComp elt [⟨t0, i0, ifs0, 0⟩, ⟨t1, i1, ifs1, 0⟩, ⟨t2, i2, ifs2, 0⟩] scope pos) 1 it acc env)) := by rfl
theorem compTurn3_in (elt t0 i0 t1 i1 t2 i2 : Expr) (ifs0 ifs1 ifs2 : List Expr) (scope : Scope) (pos : Pos) (it acc : Value) (env : Env) :
    compTurn (.ListComp elt [⟨t0, i0, ifs0, 0⟩, ⟨t1, i1, ifs1, 0⟩, ⟨t2, i2, ifs2, 0⟩] scope pos) 2 it acc env = (do
      standAt i2.pos
      match ← pyNext it with
      | none => pure (.done .next)
      | some v =>
        letOwnedTupleGo t2 it v
        assign t2 env v
        let mut ok := true
        for c in ifs2 do
          if ok then ok ← isTrue c env (eval c env)
        if ok then
          (do let _ ← call (.builtin "list.append") [acc, ← eval elt env])
        again (.compLoop (.ListComp elt [⟨t0, i0, ifs0, 0⟩, ⟨t1, i1, ifs1, 0⟩, ⟨t2, i2, ifs2, 0⟩] scope pos) 2 it acc env)) := by rfl

section
variable {prog : Program} {w : World} {A : Around} {R : Result → Shared → Prop} {s : Shared} {elt t0 i0 t1 i1 t2 i2 : Expr} {ifs0 ifs1 ifs2 : List Expr} {scope : Scope} {pos : Pos} {it acc : Value} {env : Env}
theorem compLoop3_out (hs : ∀ x, foldedSetIterable i1 env x = pure x) (I : Nat → Shared → Prop)
    (turn : ∀ n s, I n s → wpAny (model prog w) A (pyNext it) (fun r s₁ => match r with
      | none => R (.ok .next) s₁
      | some v => wpAny (model prog w) A (letOwnedTupleGo t0 it v) (fun _ s₁' => wpAny (model prog w) A (assign t0 env v) (fun _ s₂ =>
          wpAny (model prog w) A (forIn ifs0 true fun c r => if r = true then do let ok ← isTrue c env (eval c env); pure (ForInStep.yield ok) else pure (ForInStep.yield r)) (fun ok s₃ =>
            if ok = true then wpAny (model prog w) A (eval i1 env) (fun x s₄ => wpAny (model prog w) A (pyIter x) (fun it1 s₅ =>
              codeAny (model prog w) A (.compStart (.ListComp elt [⟨t0, i0, ifs0, 0⟩, ⟨t1, i1, ifs1, 0⟩, ⟨t2, i2, ifs2, 0⟩] scope pos) 1 it1 acc env) (fun r s' => match r with
                | .ok _ => ∃ m, m < n ∧ I m s'
                | .error _ => False) s₅) (notedBy (model prog w) A env fun e s' => R (.error e) s') s₄) (notedBy (model prog w) A env fun e s' => R (.error e) s') s₃
            else ∃ m, m < n ∧ I m s₃) (notedBy (model prog w) A env fun e s' => R (.error e) s') s₂) (notedBy (model prog w) A env fun e s' => R (.error e) s') s₁') (notedBy (model prog w) A env fun e s' => R (.error e) s') s₁) (notedBy (model prog w) A env fun e s' => R (.error e) s') s)
    (n : Nat) (h : I n s) :
    codeAny (model prog w) A (.compLoop (.ListComp elt [⟨t0, i0, ifs0, 0⟩, ⟨t1, i1, ifs1, 0⟩, ⟨t2, i2, ifs2, 0⟩] scope pos) 0 it acc env) R s := by
  refine codeAny_loop rfl I (fun n s hI => ?_) n h
  show wpAny _ A ((compTurn (.ListComp elt [⟨t0, i0, ifs0, 0⟩, ⟨t1, i1, ifs1, 0⟩, ⟨t2, i2, ifs2, 0⟩] scope pos) 0 it acc env).onRaise (fun x => do noteFrame x env; theTreesLotGoes x)) _ _ s
  refine wpAny_noted ?_
  rw [compTurn3_out]
  refine wpAny_bind (wpAny_standAt (wpAny_bind (wpAny_mono (turn n s hI) (fun r s₁ h₁ => ?_) fun _ _ h' => h')))
  cases r with
  | none => exact wpAny_pure h₁
  | some v =>
    refine wpAny_bind (wpAny_mono h₁ (fun _ s₁' h₁' => ?_) fun _ _ h' => h')
    refine wpAny_bind (wpAny_mono h₁' (fun _ s₂ h₂ => wpAny_bind (wpAny_mono h₂ (fun ok s₃ h₃ => ?_) fun _ _ h' => h')) fun _ _ h' => h')
    cases ok with
    | false => exact wpAny_pure ⟨rfl, h₃⟩
    | true =>
      refine wpAny_bind (wpAny_mono h₃ (fun x s₄ h₄ => ?_) fun _ _ h' => h')
      refine wpAny_bind (wpAny_standAt (wpAny_bind (wpAny_of_eq (hs x) (wpAny_bind (wpAny_holding (wpAny_mono h₄ (fun it1 s₅ h₅ => ?_) fun _ _ h' => h'))))))
      refine wpAny_bind (wpAny_runOwn ?_)
      rw [Around.mark_none]
      refine codeAny_mono h₅ fun r s' hr => ?_
      cases r with
      | ok f =>
        first
          | exact wpAny_pure ⟨rfl, hr⟩
          | exact wpAny_bind (wpAny_pure (wpAny_pure ⟨rfl, hr⟩))
      | error e => exact hr.elim
theorem compLoop3_mid (hs : ∀ x, foldedSetIterable i2 env x = pure x) (I : Nat → Shared → Prop)
    (turn : ∀ n s, I n s → wpAny (model prog w) A (pyNext it) (fun r s₁ => match r with
      | none => R (.ok .next) s₁
      | some v => wpAny (model prog w) A (letOwnedTupleGo t1 it v) (fun _ s₁' => wpAny (model prog w) A (assign t1 env v) (fun _ s₂ =>
          wpAny (model prog w) A (forIn ifs1 true fun c r => if r = true then do let ok ← isTrue c env (eval c env); pure (ForInStep.yield ok) else pure (ForInStep.yield r)) (fun ok s₃ =>
            if ok = true then wpAny (model prog w) A (eval i2 env) (fun x s₄ => wpAny (model prog w) A (pyIter x) (fun it1 s₅ =>
              codeAny (model prog w) A (.compStart (.ListComp elt [⟨t0, i0, ifs0, 0⟩, ⟨t1, i1, ifs1, 0⟩, ⟨t2, i2, ifs2, 0⟩] scope pos) 2 it1 acc env) (fun r s' => match r with
                | .ok _ => ∃ m, m < n ∧ I m s'
                | .error _ => False) s₅) (notedBy (model prog w) A env fun e s' => R (.error e) s') s₄) (notedBy (model prog w) A env fun e s' => R (.error e) s') s₃
            else ∃ m, m < n ∧ I m s₃) (notedBy (model prog w) A env fun e s' => R (.error e) s') s₂) (notedBy (model prog w) A env fun e s' => R (.error e) s') s₁') (notedBy (model prog w) A env fun e s' => R (.error e) s') s₁) (notedBy (model prog w) A env fun e s' => R (.error e) s') s)
    (n : Nat) (h : I n s) :
    codeAny (model prog w) A (.compLoop (.ListComp elt [⟨t0, i0, ifs0, 0⟩, ⟨t1, i1, ifs1, 0⟩, ⟨t2, i2, ifs2, 0⟩] scope pos) 1 it acc env) R s := by
  refine codeAny_loop rfl I (fun n s hI => ?_) n h
  show wpAny _ A ((compTurn (.ListComp elt [⟨t0, i0, ifs0, 0⟩, ⟨t1, i1, ifs1, 0⟩, ⟨t2, i2, ifs2, 0⟩] scope pos) 1 it acc env).onRaise (fun x => do noteFrame x env; theTreesLotGoes x)) _ _ s
  refine wpAny_noted ?_
  rw [compTurn3_mid]
  refine wpAny_bind (wpAny_standAt (wpAny_bind (wpAny_mono (turn n s hI) (fun r s₁ h₁ => ?_) fun _ _ h' => h')))
  cases r with
  | none => exact wpAny_pure h₁
  | some v =>
    refine wpAny_bind (wpAny_mono h₁ (fun _ s₁' h₁' => ?_) fun _ _ h' => h')
    refine wpAny_bind (wpAny_mono h₁' (fun _ s₂ h₂ => wpAny_bind (wpAny_mono h₂ (fun ok s₃ h₃ => ?_) fun _ _ h' => h')) fun _ _ h' => h')
    cases ok with
    | false => exact wpAny_pure ⟨rfl, h₃⟩
    | true =>
      refine wpAny_bind (wpAny_mono h₃ (fun x s₄ h₄ => ?_) fun _ _ h' => h')
      refine wpAny_bind (wpAny_standAt (wpAny_bind (wpAny_of_eq (hs x) (wpAny_bind (wpAny_holding (wpAny_mono h₄ (fun it1 s₅ h₅ => ?_) fun _ _ h' => h'))))))
      refine wpAny_bind (wpAny_runOwn ?_)
      rw [Around.mark_none]
      refine codeAny_mono h₅ fun r s' hr => ?_
      cases r with
      | ok f =>
        first
          | exact wpAny_pure ⟨rfl, hr⟩
          | exact wpAny_bind (wpAny_pure (wpAny_pure ⟨rfl, hr⟩))
      | error e => exact hr.elim
theorem compLoop3_in (I : Nat → Shared → Prop)
    (turn : ∀ n s, I n s → wpAny (model prog w) A (pyNext it) (fun r s₁ => match r with
      | none => R (.ok .next) s₁
      | some v => wpAny (model prog w) A (letOwnedTupleGo t2 it v) (fun _ s₁' => wpAny (model prog w) A (assign t2 env v) (fun _ s₂ =>
          wpAny (model prog w) A (forIn ifs2 true fun c r => if r = true then do let ok ← isTrue c env (eval c env); pure (ForInStep.yield ok) else pure (ForInStep.yield r)) (fun ok s₃ =>
            if ok = true then wpAny (model prog w) A (eval elt env) (fun x s₄ =>
              wpAny (model prog w) A (call (.builtin "list.append") [acc, x]) (fun _ s₅ => ∃ m, m < n ∧ I m s₅) (notedBy (model prog w) A env fun e s' => R (.error e) s') s₄) (notedBy (model prog w) A env fun e s' => R (.error e) s') s₃
            else ∃ m, m < n ∧ I m s₃) (notedBy (model prog w) A env fun e s' => R (.error e) s') s₂) (notedBy (model prog w) A env fun e s' => R (.error e) s') s₁') (notedBy (model prog w) A env fun e s' => R (.error e) s') s₁) (notedBy (model prog w) A env fun e s' => R (.error e) s') s)
    (n : Nat) (h : I n s) :
    codeAny (model prog w) A (.compLoop (.ListComp elt [⟨t0, i0, ifs0, 0⟩, ⟨t1, i1, ifs1, 0⟩, ⟨t2, i2, ifs2, 0⟩] scope pos) 2 it acc env) R s := by
  refine codeAny_loop rfl I (fun n s hI => ?_) n h
  show wpAny _ A ((compTurn (.ListComp elt [⟨t0, i0, ifs0, 0⟩, ⟨t1, i1, ifs1, 0⟩, ⟨t2, i2, ifs2, 0⟩] scope pos) 2 it acc env).onRaise (fun x => do noteFrame x env; theTreesLotGoes x)) _ _ s
  refine wpAny_noted ?_
  rw [compTurn3_in]
  refine wpAny_bind (wpAny_standAt (wpAny_bind (wpAny_mono (turn n s hI) (fun r s₁ h₁ => ?_) fun _ _ h' => h')))
  cases r with
  | none => exact wpAny_pure h₁
  | some v =>
    refine wpAny_bind (wpAny_mono h₁ (fun _ s₁' h₁' => ?_) fun _ _ h' => h')
    refine wpAny_bind (wpAny_mono h₁' (fun _ s₂ h₂ => wpAny_bind (wpAny_mono h₂ (fun ok s₃ h₃ => ?_) fun _ _ h' => h')) fun _ _ h' => h')
    cases ok with
    | false => exact wpAny_pure ⟨rfl, h₃⟩
    | true =>
      exact wpAny_bind (wpAny_bind (wpAny_mono h₃ (fun x s₄ h₄ => wpAny_bind (wpAny_mono h₄ (fun _ s₅ h₅ => wpAny_pure (wpAny_pure ⟨rfl, h₅⟩)) fun _ _ h' => h')) fun _ _ h' => h'))
theorem comp3Start1_ok (h0 : codeAny (model prog w) A (.compLoop (.ListComp elt [⟨t0, i0, ifs0, 0⟩, ⟨t1, i1, ifs1, 0⟩, ⟨t2, i2, ifs2, 0⟩] scope pos) 1 it acc env) R s)
    (h : wpAny (model prog w) A (pyIter it) (fun it' s' => codeAny (model prog w) A (.compLoop (.ListComp elt [⟨t0, i0, ifs0, 0⟩, ⟨t1, i1, ifs1, 0⟩, ⟨t2, i2, ifs2, 0⟩] scope pos) 1 it' acc env) R s')
      (notedBy (model prog w) A env fun x s' => R (.error x) s') s) :
    codeAny (model prog w) A (.compStart (.ListComp elt [⟨t0, i0, ifs0, 0⟩, ⟨t1, i1, ifs1, 0⟩, ⟨t2, i2, ifs2, 0⟩] scope pos) 1 it acc env) R s := by
  refine codeAny_of_tree ?_
  show wpAny _ _ ((compStart (.ListComp elt [⟨t0, i0, ifs0, 0⟩, ⟨t1, i1, ifs1, 0⟩, ⟨t2, i2, ifs2, 0⟩] scope pos) 1 it acc env).onRaise (fun x => do noteFrame x env; standAt theWindowsPlace)) _ _ s
  refine wpAny_notedAt ?_
  unfold compStart
  show wpAny _ _ (ask >>= _) _ _ s
  refine wpAny_bind (wpAny_askSetting (wpAny_ite ?_))
  split
  · first
      | exact wpAny_bind (wpAny_pure (wpAny_pure (And.intro rfl h0)))
      | exact wpAny_pure (And.intro rfl h0)
  · first
      | exact wpAny_bind (wpAny_rule (wpAny_bind (wpAny_standAt (wpAny_bind (wpAny_mono h (fun it' s' h' => wpAny_pure (And.intro rfl h')) fun _ _ x => x)))))
      | (refine wpAny_bind (wpAny_rule ?_); show wpAny _ _ (standAt i1.pos >>= _) _ _ s; exact wpAny_bind (wpAny_standAt (wpAny_bind (wpAny_mono h (fun it' s' h' => wpAny_pure (And.intro rfl h')) fun _ _ x => x))))
theorem comp3Start2_ok (h0 : codeAny (model prog w) A (.compLoop (.ListComp elt [⟨t0, i0, ifs0, 0⟩, ⟨t1, i1, ifs1, 0⟩, ⟨t2, i2, ifs2, 0⟩] scope pos) 2 it acc env) R s)
    (h : wpAny (model prog w) A (pyIter it) (fun it' s' => codeAny (model prog w) A (.compLoop (.ListComp elt [⟨t0, i0, ifs0, 0⟩, ⟨t1, i1, ifs1, 0⟩, ⟨t2, i2, ifs2, 0⟩] scope pos) 2 it' acc env) R s')
      (notedBy (model prog w) A env fun x s' => R (.error x) s') s) :
    codeAny (model prog w) A (.compStart (.ListComp elt [⟨t0, i0, ifs0, 0⟩, ⟨t1, i1, ifs1, 0⟩, ⟨t2, i2, ifs2, 0⟩] scope pos) 2 it acc env) R s := by
  refine codeAny_of_tree ?_
  show wpAny _ _ ((compStart (.ListComp elt [⟨t0, i0, ifs0, 0⟩, ⟨t1, i1, ifs1, 0⟩, ⟨t2, i2, ifs2, 0⟩] scope pos) 2 it acc env).onRaise (fun x => do noteFrame x env; standAt theWindowsPlace)) _ _ s
  refine wpAny_notedAt ?_
  unfold compStart
  show wpAny _ _ (ask >>= _) _ _ s
  refine wpAny_bind (wpAny_askSetting (wpAny_ite ?_))
  split
  · first
      | exact wpAny_bind (wpAny_pure (wpAny_pure (And.intro rfl h0)))
      | exact wpAny_pure (And.intro rfl h0)
  · first
      | exact wpAny_bind (wpAny_rule (wpAny_bind (wpAny_standAt (wpAny_bind (wpAny_mono h (fun it' s' h' => wpAny_pure (And.intro rfl h')) fun _ _ x => x)))))
      | (refine wpAny_bind (wpAny_rule ?_); show wpAny _ _ (standAt i2.pos >>= _) _ _ s; exact wpAny_bind (wpAny_standAt (wpAny_bind (wpAny_mono h (fun it' s' h' => wpAny_pure (And.intro rfl h')) fun _ _ x => x))))
end
section
variable {X : Cx}
def tLc3 (wi : TI) (g : TG) (tt : TT) (wi1 : TI) (g1 : TG) (tt1 : TT) (wi2 : TI) (g2 : TG) (tt2 : TT) (te : TE) (vs vs1 vs2 : List Nat) : TE := fun σ H Q => wi σ H fun J H1 => ∀ D, H1 D = none → ∃ W : Nat → Nat → Hp → Prop, (∃ m, W 0 m (upd H1 D (.lst []))) ∧ ∀ i m H, W i m H →
  (J.stop i H ∧ Q (.ref D) H) ∨ (J.go i H ∧ ∃ Nx : Hp → Prop, (∀ H', Nx H' → ∃ m', m' < m ∧ W (i + 1) m' H') ∧ ∀ x H', J.yld i H x H' → g x (wipe σ vs) H' fun σ2 H2 => wipe σ2 vs = wipe σ vs ∧ tt σ2 H2 fun b H3 =>
    if b = true then wi1 σ2 H3 fun J1 H4 => ∃ W1 : Nat → Nat → Hp → Prop, (∃ m, W1 0 m H4) ∧ ∀ j k H, W1 j k H →
      (J1.stop j H ∧ Nx H) ∨ (J1.go j H ∧ ∃ Nx1 : Hp → Prop, (∀ H', Nx1 H' → ∃ k', k' < k ∧ W1 (j + 1) k' H') ∧ ∀ x H', J1.yld j H x H' → g1 x (wipe σ2 vs1) H' fun σ3 H5 => wipe σ3 vs1 = wipe σ2 vs1 ∧ tt1 σ3 H5 fun b H6 =>
        if b = true then wi2 σ3 H6 fun J2 H7 => ∃ W2 : Nat → Nat → Hp → Prop, (∃ m, W2 0 m H7) ∧ ∀ j k H, W2 j k H →
          (J2.stop j H ∧ Nx1 H) ∨ (J2.go j H ∧ ∃ Nx2 : Hp → Prop, (∀ H', Nx2 H' → ∃ k', k' < k ∧ W2 (j + 1) k' H') ∧ ∀ x H', J2.yld j H x H' → g2 x (wipe σ3 vs2) H' fun σ4 H8 => wipe σ4 vs2 = wipe σ3 vs2 ∧ tt2 σ4 H8 fun b H9 =>
            if b = true then te σ4 H9 fun y H10 => ∃ acc, H10 D = some (.lst acc) ∧ acc.length < sizeLine ∧ Nx2 (upd H10 D (.lst (acc ++ [y]))) else Nx2 H9)
        else Nx1 H6)
    else Nx H3)
theorem lc3_core {pins : List (Addr × Obj)} {s : Shared} {σ : St} {H : Hp} {Q : VK} {elt tg iter tg1 iter1 tg2 iter2 : Expr} {ifs ifs1 ifs2 : List Expr} {scope : Scope} {own : List (Str × Nat)} {vs1 vs2 : List Nat} {pos pos' : Pos} {wi wi1 wi2 : TI} {g g1 g2 : TG} {tt tt1 tt2 : TT} {te : TE} {use : Option (Value → Sem Unit)} {Qf : Value → Shared → Prop}
    (hc : X.calm = true) (hN : X.N.Nodup) (I : Inv X pins σ H s) (hi : PI X tg iter wi) (ok : BlkOk X.N X.env.scope scope own) (hv : ∀ i ∈ vs1, i ∈ own.map (·.2)) (hv2 : ∀ i ∈ vs2, i ∈ vs1)
    (hg : ∀ (s : Shared) (H : Hp) (C : Addr) (cl : List (Str × Addr)) (fp : List Addr), PG (X.blk s H scope (compEnvC scope cl C X.env) fp) tg g) (ht : ∀ (s : Shared) (H : Hp) (C : Addr) (cl : List (Str × Addr)) (fp : List Addr), PTs (X.blk s H scope (compEnvC scope cl C X.env) fp) ifs tt)
    (he : ∀ (s : Shared) (H : Hp) (C : Addr) (cl : List (Str × Addr)) (fp : List Addr), PE (X.blk s H scope (compEnvC scope cl C X.env) fp) elt te) (hs : ∀ x, foldedSetIterable iter X.env x = pure x)
    (hi1 : ∀ (s : Shared) (H : Hp) (C : Addr) (cl : List (Str × Addr)) (fp : List Addr), PI (X.blk s H scope (compEnvC scope cl C X.env) fp) tg1 iter1 wi1)
    (hg1 : ∀ (s : Shared) (H : Hp) (C : Addr) (cl : List (Str × Addr)) (fp : List Addr), PG (X.blk s H scope (compEnvC scope cl C X.env) fp) tg1 g1)
    (ht1 : ∀ (s : Shared) (H : Hp) (C : Addr) (cl : List (Str × Addr)) (fp : List Addr), PTs (X.blk s H scope (compEnvC scope cl C X.env) fp) ifs1 tt1)
    (hi2 : ∀ (s : Shared) (H : Hp) (C : Addr) (cl : List (Str × Addr)) (fp : List Addr), PI (X.blk s H scope (compEnvC scope cl C X.env) fp) tg2 iter2 wi2)
    (hg2 : ∀ (s : Shared) (H : Hp) (C : Addr) (cl : List (Str × Addr)) (fp : List Addr), PG (X.blk s H scope (compEnvC scope cl C X.env) fp) tg2 g2)
    (ht2 : ∀ (s : Shared) (H : Hp) (C : Addr) (cl : List (Str × Addr)) (fp : List Addr), PTs (X.blk s H scope (compEnvC scope cl C X.env) fp) ifs2 tt2)
    (hs1 : ∀ env x, foldedSetIterable iter1 env x = pure x) (hs2 : ∀ env x, foldedSetIterable iter2 env x = pure x)
    (h : tLc3 wi g tt wi1 g1 tt1 wi2 g2 tt2 te (own.map (·.2)) vs1 vs2 σ H Q)
    (hRR : ∀ D C s' m H', Inv X pins σ H' s' → Q (.ref D) H' → s'.heap.Ns C m → FpOk X pins H' C → compPost (model X.prog X.w) X.A X.xe use Qf (.ref D) C (.ok .next) s') :
    wpAny (model X.prog X.w) X.A (comprehension (.ListComp elt [⟨tg, iter, ifs, 0⟩, ⟨tg1, iter1, ifs1, 0⟩, ⟨tg2, iter2, ifs2, 0⟩] scope pos) scope X.env pos' (newList []) false (eval iter X.env) use) Qf X.xe s := by
  have hfree : ∀ y ∈ scope.names, y.2 = .free → ∃ c, X.env.cells.lookup y.1 = some c := fun y hy e => by
    rcases ok.free y hy e with k | k
    · exact I.ok.has _ (.inl k)
    · exact I.ok.has _ (.inr k)
  refine wpAny_comprehension_free (use := use) rfl hs (closure_ok hfree) ok.kind (fun y hy e => by rw [ok.uniq y hy, e])
    (thn (hi.run pins s σ H _ I h) fun xv s1 hx => thn hx fun itv s2 h2 => ?_)
  obtain ⟨it, fp, tn, J, H2, e, I2, T, st2, f2, q⟩ := h2
  subst e
  refine wpAny_newObj_type (newEnv_comp ?_) (by show 0 ≤ sizeLine; decide)
  generalize hD : s2.heap.objs.size = D
  have hDn : H2 D = none := I2.hok.fresh (Nat.le_of_eq hD)
  obtain ⟨W, ⟨m0, w0⟩, turn⟩ := q D hDn
  -- the new list
  generalize hs3 : ({ s2 with heap := s2.heap.push { cls := .type "list", data := .seq ([] : List Value).toArray } } : Shared) = s3
  have I3 : Inv X pins σ (upd H2 D (.lst [])) s3 := by
    rw [← hs3]
    refine I2.laid (t' := s2.toks) (fun b o e => Heap.get?_push_of_some _ e) (Nat.le_of_eq hD) ⟨Nat.zero_le _, [], 0, .nil, ?_⟩
    rw [← hD]
    exact Heap.get?_push_size _ rfl
  have h3 : s3.heap = s2.heap.push { cls := .type "list", data := .seq ([] : List Value).toArray } := by rw [← hs3]
  have sz : ∀ b ∈ fp, b < s2.heap.objs.size := fun b hb => by
    obtain ⟨o, e, _⟩ := T.obj _ _ st2 b hb
    exact Heap.lt_size e
  have f3 : ∀ b ∈ fp, FpOk X pins (upd H2 D (.lst [])) b ∧ b < s3.heap.objs.size := fun b hb => by
    have hlt := sz b hb
    refine ⟨⟨?_, (f2 b hb).2⟩, by rw [h3, Heap.size_push]; exact Nat.lt_succ_of_lt hlt⟩
    rw [upd_ne (by rw [← hD]; exact Nat.ne_of_lt hlt)]
    exact (f2 b hb).1
  have st3 : tn 0 s3.heap := T.keep _ _ _ st2 fun b _ o e => by rw [h3]; exact Heap.get?_push_of_some _ e
  have I4 := block_start I3 ok hN f3
  have pg := hg s3 (upd H2 D (.lst [])) s3.heap.objs.size (cellsFrom (s3.heap.objs.size + 1) scope.names (cloFrom X.env.cells scope.names [])) fp
  have pt := ht s3 (upd H2 D (.lst [])) s3.heap.objs.size (cellsFrom (s3.heap.objs.size + 1) scope.names (cloFrom X.env.cells scope.names [])) fp
  have pe := he s3 (upd H2 D (.lst [])) s3.heap.objs.size (cellsFrom (s3.heap.objs.size + 1) scope.names (cloFrom X.env.cells scope.names [])) fp
  have pi1 := hi1 s3 (upd H2 D (.lst [])) s3.heap.objs.size (cellsFrom (s3.heap.objs.size + 1) scope.names (cloFrom X.env.cells scope.names [])) fp
  have pg1 := hg1 s3 (upd H2 D (.lst [])) s3.heap.objs.size (cellsFrom (s3.heap.objs.size + 1) scope.names (cloFrom X.env.cells scope.names [])) fp
  have pt1 := ht1 s3 (upd H2 D (.lst [])) s3.heap.objs.size (cellsFrom (s3.heap.objs.size + 1) scope.names (cloFrom X.env.cells scope.names [])) fp
  have pi2 := hi2 s3 (upd H2 D (.lst [])) s3.heap.objs.size (cellsFrom (s3.heap.objs.size + 1) scope.names (cloFrom X.env.cells scope.names [])) fp
  have pg2 := hg2 s3 (upd H2 D (.lst [])) s3.heap.objs.size (cellsFrom (s3.heap.objs.size + 1) scope.names (cloFrom X.env.cells scope.names [])) fp
  have pt2 := ht2 s3 (upd H2 D (.lst [])) s3.heap.objs.size (cellsFrom (s3.heap.objs.size + 1) scope.names (cloFrom X.env.cells scope.names [])) fp
  show codeAny _ _ (.compStart (.ListComp elt [⟨tg, iter, ifs, 0⟩, ⟨tg1, iter1, ifs1, 0⟩, ⟨tg2, iter2, ifs2, 0⟩] scope pos) 0 (.ref it) (.ref D) (compEnvC scope (cellsFrom (s3.heap.objs.size + 1) scope.names (cloFrom X.env.cells scope.names [])) s3.heap.objs.size X.env)) (compPost (model X.prog X.w) X.A X.xe use Qf (.ref D) s3.heap.objs.size) { s3 with heap := pushCells (s3.heap.push { cls := .type "dict", data := .dict #[] }) scope.names }
  have nfp : ∀ b ∈ fp, (upd H2 D (.lst [])) b = none := fun b hb => (f3 b hb).1.1
  generalize hce : compEnvC scope (cellsFrom (s3.heap.objs.size + 1) scope.names (cloFrom X.env.cells scope.names [])) s3.heap.objs.size X.env = ce at I4 pg pt pe pi1 pg1 pt1 pi2 pg2 pt2 ⊢
  have cL : ce.locals = s3.heap.objs.size := by subst hce; rfl
  generalize hH3 : upd H2 D (.lst []) = H3 at I3 I4 pg pt pe pi1 pg1 pt1 pi2 pg2 pt2 w0 nfp f3
  generalize hs4 : ({ s3 with heap := pushCells (s3.heap.push { cls := .type "dict", data := .dict #[] }) scope.names } : Shared) = s4 at I4 ⊢
  have st4 : tn 0 s4.heap := T.keep _ _ _ st3 fun b _ o e => by rw [← hs4]; exact pushCells_keeps _ _ _ _ (Heap.get?_push_of_some _ e)
  have stat : ∀ {σ' : St} {H' : Hp} {s' : Shared}, Inv (X.blk s3 H3 scope ce fp) [] σ' H' s' → (∀ b ∈ fp, H' b = none) → ∀ b ∈ fp, FpOk (X.blk s3 H3 scope ce fp) [] H' b := fun {σ' H' s'} I' hn b hb =>
    ⟨hn b hb, (I'.ok.exf b hb).1, I'.ok.exfs b hb, .inl hb, fun x c e => (I'.ok.exf b hb).2 x c e, fun p hp => absurd (show p ∈ ([] : List (Addr × Obj)) ++ [] from hp) (by simp)⟩
  have loop : codeAny (model X.prog X.w) X.A (.compLoop (.ListComp elt [⟨tg, iter, ifs, 0⟩, ⟨tg1, iter1, ifs1, 0⟩, ⟨tg2, iter2, ifs2, 0⟩] scope pos) 0 (.ref it) (.ref D) ce) (compPost (model X.prog X.w) X.A X.xe use Qf (.ref D) s3.heap.objs.size) s4 := by
    refine compLoop3_out (hs1 ce) (fun n s' => ∃ i H', Inv (X.blk s3 H3 scope ce fp) [] (wipe σ (own.map (·.2))) H' s' ∧ tn i s'.heap ∧ (∀ b ∈ fp, H' b = none) ∧ W i n H') ?_ m0 ⟨0, H3, I4, st4, nfp, w0⟩
    rintro n s5 ⟨i, H5, I5, st5, n5, w5⟩
    rcases turn i n H5 w5 with ⟨stop, qq⟩ | ⟨go, Nx, hNx, step⟩
    · have td := T.done (X.blk s3 H3 scope ce fp) rfl rfl rfl hc i [] s5 _ H5 (fun _ _ => False) I5 (stat I5 n5) st5 stop
      refine thnF td fun r s6 ⟨hr, I6⟩ => ?_
      subst hr
      -- back in the def's context
      have I7 : Inv X pins σ H5 s6 := I3.call' (ch := fp) I6.os I6.base I6.hok I6.bare fun b hb => ⟨(f3 b hb).1.2.2.2.1, (f3 b hb).1.2.1, (f3 b hb).1.2.2.2.2.1, (f3 b hb).1.2.2.2.2.2⟩
      have nC : H5 s3.heap.objs.size = none := by
        have z : H5 ce.locals = none := I6.free
        rw [cL] at z
        exact z
      obtain ⟨m, hn, _⟩ := I6.loc
      have hn : s6.heap.Ns ce.locals m := hn
      rw [cL] at hn
      exact hRR D s3.heap.objs.size s6 m H5 I7 qq hn (I3.fpOk (Nat.le_refl _) nC)
    · have ti := T.item (X.blk s3 H3 scope ce fp) rfl rfl rfl hc i [] s5 _ H5 (fun _ _ => False) I5 (stat I5 n5) st5 go
      refine thnF ti fun r s6 ⟨u, hr, h6⟩ => ?_
      subst hr
      refine thnF h6 fun _ s7 ⟨x, H7, I7, r7, y7, st7, n7⟩ => ?_
      have I7' := I7.pinned (stat I7 n7) (T.obj _ _ st7)
      refine thnF (pg.run _ s7 _ H7 x u _ I7' r7 (step x H7 y7)) fun _ s8 ⟨σ8, H8, I8, hw8, q8⟩ => ?_
      refine thnF (pt.run _ s8 σ8 H8 _ I8 q8) fun b s9 ⟨H9, I9, q9⟩ => ?_
      -- the turn's end, from any slots that know what the block knew at its start
      have fin : ∀ {σ9 : St} {s' : Shared} {H' : Hp}, Inv (X.blk s3 H3 scope ce fp) ([] ++ pinsAt fp s7.heap) σ9 H' s' → (wipe σ (own.map (·.2))).length = σ9.length → (∀ (j : Nat) v, (wipe σ (own.map (·.2)))[j]? = some (some v) → σ9[j]? = some (some v)) → Nx H' →
          ∃ m, m < n ∧ ∃ i H', Inv (X.blk s3 H3 scope ce fp) [] (wipe σ (own.map (·.2))) H' s' ∧ tn i s'.heap ∧ (∀ b ∈ fp, H' b = none) ∧ W i m H' := fun {σ9 s' H'} I' hl hk nx => by
        obtain ⟨m', hm, w'⟩ := hNx H' nx
        have pin' : ∀ b ∈ fp, ∀ o, s7.heap.get? b = some o → s'.heap.get? b = some o ∧ H' b = none := fun b hb o e =>
          let z := I'.pin (b, o) (List.mem_append_right _ (List.mem_append_right _ (mem_pinsAt hb e)))
          ⟨z.1, z.2.1⟩
        refine ⟨m', hm, i + 1, H', (I'.unpinned (pins := [])).weak hl hk, T.keep _ _ _ st7 fun b hb o e => (pin' b hb o e).1, fun b hb => ?_, w'⟩
        obtain ⟨o, e, _⟩ := T.obj _ _ st7 b hb
        exact (pin' b hb o e).2
      have hl8 : (wipe σ (own.map (·.2))).length = σ8.length := by rw [← hw8, wipe_length]
      have hk8 : ∀ (j : Nat) v, (wipe σ (own.map (·.2)))[j]? = some (some v) → σ8[j]? = some (some v) := fun j v e => by
        rw [← hw8] at e
        exact (wipe_some e).1
      have hk9 : ∀ (j : Nat) v, (wipe σ (own.map (·.2)))[j]? = some (some v) → (wipe σ8 vs1)[j]? = some (some v) := fun j v e => by
        rw [← hw8] at e
        obtain ⟨e1, e2⟩ := wipe_some e
        rw [wipe_out fun z => e2 (hv j z)]
        exact e1
      cases b with
      | false =>
        simp only [Bool.false_eq_true, if_false] at q9 ⊢
        exact fin I9 hl8 hk8 q9
      | true =>
        simp only [if_true] at q9 ⊢
        refine thnF (pi1.run _ s9 σ8 H9 _ I9 q9) fun xv s10 hx => thnF hx fun itv s11 h11 => ?_
        obtain ⟨it1, fp1, tn1, J1, H11, e1, I11, T1, st11, f11, W1, ⟨m1, w1⟩, turn1⟩ := h11
        subst e1
        -- the inner loop
        have stat1 : ∀ {H' : Hp}, (∀ b ∈ fp1, H' b = none) → ∀ b ∈ fp1, FpOk (X.blk s3 H3 scope ce fp) ([] ++ pinsAt fp s7.heap) H' b := fun hn b hb => ⟨hn b hb, (f11 b hb).2⟩
        have loop1 : codeAny (model X.prog X.w) X.A (.compLoop (.ListComp elt [⟨tg, iter, ifs, 0⟩, ⟨tg1, iter1, ifs1, 0⟩, ⟨tg2, iter2, ifs2, 0⟩] scope pos) 1 (.ref it1) (.ref D) ce)
            (fun r s' => match r with
              | .ok _ => ∃ m, m < n ∧ ∃ i H', Inv (X.blk s3 H3 scope ce fp) [] (wipe σ (own.map (·.2))) H' s' ∧ tn i s'.heap ∧ (∀ b ∈ fp, H' b = none) ∧ W i m H'
              | .error _ => False) s11 := by
          refine compLoop3_mid (hs2 ce) (fun k s' => ∃ j H', Inv (X.blk s3 H3 scope ce fp) ([] ++ pinsAt fp s7.heap) (wipe σ8 vs1) H' s' ∧ tn1 j s'.heap ∧ (∀ b ∈ fp1, H' b = none) ∧ W1 j k H') ?_ m1 ⟨0, H11, I11.weak (wipe_length _ _) (fun j v e => (wipe_some e).1), st11, fun b hb => (f11 b hb).1, w1⟩
          rintro k s12 ⟨j, H12, I12, st12, n12, w12⟩
          rcases turn1 j k H12 w12 with ⟨stop1, nx1⟩ | ⟨go1, Nx1, hNx1, step1⟩
          · refine thnF (T1.done (X.blk s3 H3 scope ce fp) rfl rfl rfl hc j _ s12 (wipe σ8 vs1) H12 (fun _ _ => False) I12 (stat1 n12) st12 stop1) fun r s13 ⟨hr, I13⟩ => ?_
            subst hr
            exact fin I13 (hl8.trans (wipe_length σ8 vs1).symm) hk9 nx1
          · refine thnF (T1.item (X.blk s3 H3 scope ce fp) rfl rfl rfl hc j _ s12 (wipe σ8 vs1) H12 (fun _ _ => False) I12 (stat1 n12) st12 go1) fun r s13 ⟨u1, hr, h13⟩ => ?_
            subst hr
            refine thnF h13 fun _ s14 ⟨x1, H14, I14, r14, y14, st14, n14⟩ => ?_
            have I14' := I14.pinned (stat1 n14) (T1.obj _ _ st14)
            refine thnF (pg1.run _ s14 (wipe σ8 vs1) H14 x1 u1 _ I14' r14 (step1 x1 H14 y14)) fun _ s15 ⟨σ15, H15, I15, hw15, q15⟩ => ?_
            refine thnF (pt1.run _ s15 σ15 H15 _ I15 q15) fun b1 s16 ⟨H16, I16, q16⟩ => ?_
            have fin1 : ∀ {σ' : St} {s' : Shared} {H' : Hp}, Inv (X.blk s3 H3 scope ce fp) (([] ++ pinsAt fp s7.heap) ++ pinsAt fp1 s14.heap) σ' H' s' → (wipe σ8 vs1).length = σ'.length → (∀ (j : Nat) v, (wipe σ8 vs1)[j]? = some (some v) → σ'[j]? = some (some v)) → Nx1 H' → ∃ m, m < k ∧ ∃ j H', Inv (X.blk s3 H3 scope ce fp) ([] ++ pinsAt fp s7.heap) (wipe σ8 vs1) H' s' ∧ tn1 j s'.heap ∧ (∀ b ∈ fp1, H' b = none) ∧ W1 j m H' := fun {σ' s' H'} I' hl hk nx => by
              obtain ⟨m', hm, w'⟩ := hNx1 H' nx
              have pin' : ∀ b ∈ fp1, ∀ o, s14.heap.get? b = some o → s'.heap.get? b = some o ∧ H' b = none := fun b hb o e =>
                let z := I'.pin (b, o) (List.mem_append_right _ (List.mem_append_right _ (mem_pinsAt hb e)))
                ⟨z.1, z.2.1⟩
              refine ⟨m', hm, j + 1, H', I'.unpinned.weak hl hk, T1.keep _ _ _ st14 fun b hb o e => (pin' b hb o e).1, fun b hb => ?_, w'⟩
              obtain ⟨o, e, _⟩ := T1.obj _ _ st14 b hb
              exact (pin' b hb o e).2
            have hl15 : (wipe σ8 vs1).length = σ15.length := by rw [← hw15, wipe_length]
            have hk15 : ∀ (j : Nat) v, (wipe σ8 vs1)[j]? = some (some v) → σ15[j]? = some (some v) := fun j v e => by
              rw [← hw15] at e
              exact (wipe_some e).1
            have hk16 : ∀ (j : Nat) v, (wipe σ8 vs1)[j]? = some (some v) → (wipe σ15 vs2)[j]? = some (some v) := fun j v e => by
              rw [← hw15] at e
              obtain ⟨e1, e2⟩ := wipe_some e
              rw [wipe_out fun z => e2 (hv2 j z)]
              exact e1
            cases b1 with
            | false =>
              simp only [Bool.false_eq_true, if_false] at q16 ⊢
              exact fin1 I16 hl15 hk15 q16
            | true =>
              simp only [if_true] at q16 ⊢
              refine thnF (pi2.run _ s16 σ15 H16 _ I16 q16) fun xv s20 hx => thnF hx fun itv s21 h21 => ?_
              obtain ⟨it2, fp2, tn2, J2, H21, e2, I21, T2, st21, f21, W2, ⟨m2, w2⟩, turn2⟩ := h21
              subst e2
              have stat2 : ∀ {H' : Hp}, (∀ b ∈ fp2, H' b = none) → ∀ b ∈ fp2, FpOk (X.blk s3 H3 scope ce fp) (([] ++ pinsAt fp s7.heap) ++ pinsAt fp1 s14.heap) H' b := fun hn b hb => ⟨hn b hb, (f21 b hb).2⟩
              have loop2 : codeAny (model X.prog X.w) X.A (.compLoop (.ListComp elt [⟨tg, iter, ifs, 0⟩, ⟨tg1, iter1, ifs1, 0⟩, ⟨tg2, iter2, ifs2, 0⟩] scope pos) 2 (.ref it2) (.ref D) ce)
                  (fun r s' => match r with
                    | .ok _ => ∃ m, m < k ∧ ∃ j H', Inv (X.blk s3 H3 scope ce fp) ([] ++ pinsAt fp s7.heap) (wipe σ8 vs1) H' s' ∧ tn1 j s'.heap ∧ (∀ b ∈ fp1, H' b = none) ∧ W1 j m H'
                    | .error _ => False) s21 := by
                refine compLoop3_in (fun k s' => ∃ j H', Inv (X.blk s3 H3 scope ce fp) (([] ++ pinsAt fp s7.heap) ++ pinsAt fp1 s14.heap) (wipe σ15 vs2) H' s' ∧ tn2 j s'.heap ∧ (∀ b ∈ fp2, H' b = none) ∧ W2 j k H') ?_ m2 ⟨0, H21, I21.weak (wipe_length _ _) (fun j v e => (wipe_some e).1), st21, fun b hb => (f21 b hb).1, w2⟩
                rintro k2 s22 ⟨j2, H22, I22, st22, n22, w22⟩
                rcases turn2 j2 k2 H22 w22 with ⟨stop2, nx2⟩ | ⟨go2, Nx2, hNx2, step2⟩
                · refine thnF (T2.done (X.blk s3 H3 scope ce fp) rfl rfl rfl hc j2 _ s22 (wipe σ15 vs2) H22 (fun _ _ => False) I22 (stat2 n22) st22 stop2) fun r s23 ⟨hr, I23⟩ => ?_
                  subst hr
                  exact fin1 I23 (hl15.trans (wipe_length σ15 vs2).symm) hk16 nx2
                · refine thnF (T2.item (X.blk s3 H3 scope ce fp) rfl rfl rfl hc j2 _ s22 (wipe σ15 vs2) H22 (fun _ _ => False) I22 (stat2 n22) st22 go2) fun r s23 ⟨u2, hr, h23⟩ => ?_
                  subst hr
                  refine thnF h23 fun _ s24 ⟨x2, H24, I24, r24, y24, st24, n24⟩ => ?_
                  have I24' := I24.pinned (stat2 n24) (T2.obj _ _ st24)
                  refine thnF (pg2.run _ s24 (wipe σ15 vs2) H24 x2 u2 _ I24' r24 (step2 x2 H24 y24)) fun _ s25 ⟨σ25, H25, I25, hw25, q25⟩ => ?_
                  refine thnF (pt2.run _ s25 σ25 H25 _ I25 q25) fun b2 s26 ⟨H26, I26, q26⟩ => ?_
                  have fin2 : ∀ {s' : Shared} {H' : Hp}, Inv (X.blk s3 H3 scope ce fp) ((([] ++ pinsAt fp s7.heap) ++ pinsAt fp1 s14.heap) ++ pinsAt fp2 s24.heap) σ25 H' s' → Nx2 H' → ∃ m, m < k2 ∧ ∃ j H', Inv (X.blk s3 H3 scope ce fp) (([] ++ pinsAt fp s7.heap) ++ pinsAt fp1 s14.heap) (wipe σ15 vs2) H' s' ∧ tn2 j s'.heap ∧ (∀ b ∈ fp2, H' b = none) ∧ W2 j m H' := fun {s' H'} I' nx => by
                    obtain ⟨m', hm, w'⟩ := hNx2 H' nx
                    have pin' : ∀ b ∈ fp2, ∀ o, s24.heap.get? b = some o → s'.heap.get? b = some o ∧ H' b = none := fun b hb o e =>
                      let z := I'.pin (b, o) (List.mem_append_right _ (List.mem_append_right _ (mem_pinsAt hb e)))
                      ⟨z.1, z.2.1⟩
                    refine ⟨m', hm, j2 + 1, H', I'.unpinned.weak (by rw [← hw25, wipe_length]) (fun j v e => by rw [← hw25] at e; exact (wipe_some e).1), T2.keep _ _ _ st24 fun b hb o e => (pin' b hb o e).1, fun b hb => ?_, w'⟩
                    obtain ⟨o, e, _⟩ := T2.obj _ _ st24 b hb
                    exact (pin' b hb o e).2
                  cases b2 with
                  | false =>
                    simp only [Bool.false_eq_true, if_false] at q26 ⊢
                    exact fin2 I26 q26
                  | true =>
                    simp only [if_true] at q26 ⊢
                    refine thnF (pe.run _ s26 σ25 H26 _ I26 q26) fun z s27 ⟨yv, H27, I27, r27, acc, hD27, hz27, nx⟩ => ?_
                    exact app_ok (X := X.blk s3 H3 scope ce fp) I27 hD27 hz27 r27 fun s28 I28 => fin2 I28 nx
              exact comp3Start2_ok loop2 (T2.self X.A 0 _ _ _ st21 loop2)
        exact comp3Start1_ok loop1 (T1.self X.A 0 _ _ _ st11 loop1)
  exact codeAny_compStart_list loop (T.self X.A 0 _ _ _ st4 loop)
theorem pe_lc3 {elt tg iter tg1 iter1 tg2 iter2 : Expr} {ifs ifs1 ifs2 : List Expr} {scope : Scope} {own : List (Str × Nat)} {vs1 vs2 : List Nat} {pos : Pos} {wi wi1 wi2 : TI} {g g1 g2 : TG} {tt tt1 tt2 : TT} {te : TE} (hc : X.calm = true) (hN : X.N.Nodup) (hi : PI X tg iter wi) (ok : BlkOk X.N X.env.scope scope own) (hv : ∀ i ∈ vs1, i ∈ own.map (·.2)) (hv2 : ∀ i ∈ vs2, i ∈ vs1)
    (hg : ∀ (s : Shared) (H : Hp) (C : Addr) (cl : List (Str × Addr)) (fp : List Addr), PG (X.blk s H scope (compEnvC scope cl C X.env) fp) tg g) (ht : ∀ (s : Shared) (H : Hp) (C : Addr) (cl : List (Str × Addr)) (fp : List Addr), PTs (X.blk s H scope (compEnvC scope cl C X.env) fp) ifs tt)
    (hi1 : ∀ (s : Shared) (H : Hp) (C : Addr) (cl : List (Str × Addr)) (fp : List Addr), PI (X.blk s H scope (compEnvC scope cl C X.env) fp) tg1 iter1 wi1)
    (hg1 : ∀ (s : Shared) (H : Hp) (C : Addr) (cl : List (Str × Addr)) (fp : List Addr), PG (X.blk s H scope (compEnvC scope cl C X.env) fp) tg1 g1) (ht1 : ∀ (s : Shared) (H : Hp) (C : Addr) (cl : List (Str × Addr)) (fp : List Addr), PTs (X.blk s H scope (compEnvC scope cl C X.env) fp) ifs1 tt1)
    (hi2 : ∀ (s : Shared) (H : Hp) (C : Addr) (cl : List (Str × Addr)) (fp : List Addr), PI (X.blk s H scope (compEnvC scope cl C X.env) fp) tg2 iter2 wi2)
    (hg2 : ∀ (s : Shared) (H : Hp) (C : Addr) (cl : List (Str × Addr)) (fp : List Addr), PG (X.blk s H scope (compEnvC scope cl C X.env) fp) tg2 g2) (ht2 : ∀ (s : Shared) (H : Hp) (C : Addr) (cl : List (Str × Addr)) (fp : List Addr), PTs (X.blk s H scope (compEnvC scope cl C X.env) fp) ifs2 tt2)
    (he : ∀ (s : Shared) (H : Hp) (C : Addr) (cl : List (Str × Addr)) (fp : List Addr), PE (X.blk s H scope (compEnvC scope cl C X.env) fp) elt te) (hs : ∀ x, foldedSetIterable iter X.env x = pure x := by intro _; rfl) (hs1 : ∀ env x, foldedSetIterable iter1 env x = pure x := by intro _ _; rfl) (hs2 : ∀ env x, foldedSetIterable iter2 env x = pure x := by intro _ _; rfl) :
    PE X (.ListComp elt [⟨tg, iter, ifs, 0⟩, ⟨tg1, iter1, ifs1, 0⟩, ⟨tg2, iter2, ifs2, 0⟩] scope pos) (tLc3 wi g tt wi1 g1 tt1 wi2 g2 tt2 te (own.map (·.2)) vs1 vs2) := by
  refine ⟨fun pins s σ H Q I h => ?_⟩
  rw [eval_ListComp]
  refine lc3_core hc hN I hi ok hv hv2 hg ht he hs hi1 hg1 ht1 hi2 hg2 ht2 hs1 hs2 h fun D C s' m H' I' q hn f => ⟨m, hn, fun h'' sb => ?_⟩
  obtain ⟨f0, f1, f2, f3, f4, f5⟩ := f
  exact ⟨.ref D, H', I'.turned (t' := s'.toks) (fun b o hb e => (sb.2 b hb).trans e) f0 f1 f3 f4 f5, rfl, q⟩
end
end L2
set_option Elab.async false
set_option linter.all false
set_option maxRecDepth 100000
set_option maxHeartbeats 4000000
/-! what a value stands for, told beside things of the def's own that change -/
namespace RP
open PySem PySem.Spec PyProof.Rows L2 Evl Gen
structure Rp (α : Type) where
  p : α → V → Hp → Prop
  m : ∀ {a : α} {v : V} {H H' : Hp}, Ex H H' → p a v H → p a v H'
/-- all but the own things -/
def Rm (ps : List Addr) (H : Hp) : Hp := fun b => if b ∈ ps then none else H b
def Own (ps : List Addr) (H : Hp) : Prop := ∀ p ∈ ps, ∃ o, H p = some o ∧ ∀ xs, o ≠ .tup xs
section
variable {ps : List Addr} {H H' H1 : Hp} {p q : Addr} {o u : HO}
theorem Rm_ex : Ex (Rm ps H) H := fun b o h => by
  unfold Rm at h
  split at h
  · cases h
  · exact h
theorem Rm_mono (e : Ex H H') : Ex (Rm ps H) (Rm ps H') := fun b o h => by
  unfold Rm at h ⊢
  split at h
  · cases h
  · rename_i hb
    rw [if_neg hb]
    exact e b o h
theorem Rm_get (h : H p = some o) (n : p ∉ ps) : Rm ps H p = some o := by
  unfold Rm
  rw [if_neg n]
  exact h
theorem Rm_none (h : H p = none) : Rm ps H p = none := by
  unfold Rm
  split
  · rfl
  · exact h
theorem Rm_own (h : p ∈ ps) : Rm ps H p = none := by
  unfold Rm
  rw [if_pos h]
theorem Own.ex (h : Own ps H) (e : Ex H H') : Own ps H' := fun p hp => let ⟨o, ho, hn⟩ := h p hp; ⟨o, e _ _ ho, hn⟩
theorem Own.nin (h : Own ps H) (hp : H p = none) : p ∉ ps := fun m => by
  obtain ⟨o, ho, _⟩ := h p m
  rw [hp] at ho
  cases ho
/-- a store to an own thing -/
theorem Rm_upd (h : p ∈ ps) : Rm ps (upd H p o) = Rm ps H := by
  funext b
  unfold Rm
  split
  · rfl
  · rename_i hb
    rw [upd_ne (fun z => hb (by rw [z]; exact h))]
theorem Own.upd (h : Own ps H) (hn : ∀ xs, o ≠ .tup xs := by intro _ z; cases z) : Own ps (upd H p o) := fun q hq => by
  by_cases z : q = p
  · subst z
    exact ⟨o, upd_same, hn⟩
  · obtain ⟨u, hu, h2⟩ := h q hq
    exact ⟨u, by rw [upd_ne z]; exact hu, h2⟩
/-- tuples are never own things -/
theorem Own.tup (h : Own ps H) {xs : List V} (hp : H p = some (.tup xs)) : p ∉ ps := fun m => by
  obtain ⟨o, ho, hn⟩ := h p m
  rw [hp] at ho
  cases ho
  exact hn _ rfl
/-- one thing more is the def's own -/
theorem Rm_push (h : Rm ps H p = none) : Ex (Rm ps H) (Rm (p :: ps) H) := fun b o hb => by
  have n : b ≠ p := fun z => by rw [z, h] at hb; cases hb
  have hb' := hb
  unfold Rm at hb ⊢
  split at hb
  · cases hb
  · rename_i m
    rw [if_neg (fun z => (List.mem_cons.mp z).elim n m)]
    exact hb
theorem Rm_pop : Ex (Rm (p :: ps) H) (Rm ps H) := fun b o hb => by
  unfold Rm at hb ⊢
  split at hb
  · cases hb
  · rename_i m
    rw [if_neg (fun z => m (List.mem_cons_of_mem _ z))]
    exact hb
theorem Own.push (h : Own ps H) (hp : H p = some o) (hn : ∀ xs, o ≠ .tup xs := by intro _ z; cases z) : Own (p :: ps) H := fun q hq => by
  rcases List.mem_cons.mp hq with rfl | hq
  · exact ⟨o, hp, hn⟩
  · exact h q hq
theorem Own.pop (h : Own (p :: ps) H) : Own ps H := fun q hq => h q (List.mem_cons_of_mem _ hq)
theorem Rm_nil : Rm [] H = H := by
  funext b
  unfold Rm
  rw [if_neg (List.not_mem_nil)]
end
/-! ### what values stand for -/
def All2 {α : Type} (R : α → V → Prop) : List α → List V → Prop
  | [], [] => True
  | a :: as, v :: vs => R a v ∧ All2 R as vs
  | _, _ => False
section
variable {α β : Type} {R S : α → V → Prop}
theorem All2.imp (h : ∀ a v, R a v → S a v) : ∀ {as : List α} {vs : List V}, All2 R as vs → All2 S as vs
  | [], [], _ => trivial
  | _ :: _, _ :: _, q => ⟨h _ _ q.1, All2.imp h q.2⟩
  | [], _ :: _, q => q.elim
  | _ :: _, [], q => q.elim
theorem All2.len : ∀ {as : List α} {vs : List V}, All2 R as vs → as.length = vs.length
  | [], [], _ => rfl
  | _ :: _, _ :: _, q => congrArg Nat.succ (All2.len q.2)
  | [], _ :: _, q => q.elim
  | _ :: _, [], q => q.elim
theorem All2.get : ∀ {as : List α} {vs : List V} {i : Nat} {a : α}, All2 R as vs → as[i]? = some a → ∃ v, vs[i]? = some v ∧ R a v
  | _ :: _, v :: _, 0, _, q, h => by cases h; exact ⟨v, rfl, q.1⟩
  | _ :: as, _ :: vs, i + 1, _, q, h => All2.get (as := as) (vs := vs) (i := i) q.2 h
  | [], _ :: _, _, _, q, _ => q.elim
  | _ :: _, [], _, _, q, _ => q.elim
  | [], [], _, _, _, h => by cases h
theorem All2.getv : ∀ {as : List α} {vs : List V} {i : Nat} {v : V}, All2 R as vs → vs[i]? = some v → ∃ a, as[i]? = some a ∧ R a v
  | a :: _, _ :: _, 0, _, q, h => by cases h; exact ⟨a, rfl, q.1⟩
  | _ :: as, _ :: vs, i + 1, _, q, h => All2.getv (as := as) (vs := vs) (i := i) q.2 h
  | [], _ :: _, _, _, q, _ => q.elim
  | _ :: _, [], _, _, q, _ => q.elim
  | [], [], _, _, _, h => by cases h
theorem All2.app {bs : List α} {ws : List V} : ∀ {as : List α} {vs : List V}, All2 R as vs → All2 R bs ws → All2 R (as ++ bs) (vs ++ ws)
  | [], [], _, h => h
  | _ :: _, _ :: _, q, h => ⟨q.1, All2.app q.2 h⟩
  | [], _ :: _, q, _ => q.elim
  | _ :: _, [], q, _ => q.elim
theorem All2.one {a : α} {v : V} (h : R a v) : All2 R [a] [v] := ⟨h, trivial⟩
theorem All2.drop : ∀ {n : Nat} {as : List α} {vs : List V}, All2 R as vs → All2 R (as.drop n) (vs.drop n)
  | 0, _, _, q => q
  | n + 1, [], [], _ => trivial
  | n + 1, _ :: as, _ :: vs, q => All2.drop (n := n) (as := as) (vs := vs) q.2
  | _ + 1, [], _ :: _, q => q.elim
  | _ + 1, _ :: _, [], q => q.elim
theorem All2.take : ∀ {n : Nat} {as : List α} {vs : List V}, All2 R as vs → All2 R (as.take n) (vs.take n)
  | 0, _, _, _ => trivial
  | n + 1, [], [], _ => trivial
  | n + 1, _ :: as, _ :: vs, q => ⟨q.1, All2.take (n := n) (as := as) (vs := vs) q.2⟩
  | _ + 1, [], _ :: _, q => q.elim
  | _ + 1, _ :: _, [], q => q.elim
theorem All2.rev : ∀ {as : List α} {vs : List V}, All2 R as vs → All2 R as.reverse vs.reverse
  | [], [], _ => trivial
  | _ :: _, _ :: _, q => by
    rw [List.reverse_cons, List.reverse_cons]
    exact All2.app (All2.rev q.2) (.one q.1)
  | [], _ :: _, q => q.elim
  | _ :: _, [], q => q.elim
theorem All2.eraseIdx : ∀ {n : Nat} {as : List α} {vs : List V}, All2 R as vs → All2 R (as.eraseIdx n) (vs.eraseIdx n)
  | _, [], [], _ => trivial
  | 0, _ :: _, _ :: _, q => q.2
  | n + 1, _ :: as, _ :: vs, q => ⟨q.1, All2.eraseIdx (n := n) (as := as) (vs := vs) q.2⟩
  | _, [], _ :: _, q => q.elim
  | _, _ :: _, [], q => q.elim
theorem All2.map {f : α → V} : ∀ {as : List α}, (∀ a ∈ as, R a (f a)) → All2 R as (as.map f)
  | [], _ => trivial
  | a :: as, h => ⟨h a (List.mem_cons_self ..), All2.map fun b hb => h b (List.mem_cons_of_mem _ hb)⟩
theorem All2.eq {f : α → V} : ∀ {as : List α} {vs : List V}, All2 (fun a v => v = f a) as vs → vs = as.map f
  | [], [], _ => rfl
  | a :: as, v :: vs, q => by rw [List.map_cons, q.1, All2.eq q.2]
  | [], _ :: _, q => q.elim
  | _ :: _, [], q => q.elim
end
def rI : Rp Int := ⟨fun i v _ => v = .int i, fun _ h => h⟩
def rB : Rp Bool := ⟨fun b v _ => v = .bl b, fun _ h => h⟩
def rS : Rp Str := ⟨fun s v _ => v = .str s, fun _ h => h⟩
def rU : Rp Unit := ⟨fun _ v _ => v = .non, fun _ h => h⟩
def rN : Rp Nat := ⟨fun n v _ => v = .int (n : Int), fun _ h => h⟩
/-- a list -/
def rL {α : Type} (R : Rp α) : Rp (List α) := ⟨fun as v H => ∃ a vs, v = .ref a ∧ H a = some (.lst vs) ∧ All2 (fun x y => R.p x y H) as vs,
  fun e ⟨a, vs, h1, h2, h3⟩ => ⟨a, vs, h1, e _ _ h2, h3.imp fun _ _ q => R.m e q⟩⟩
/-- a list or a tuple -/
def rQ {α : Type} (K : PySem.W.Frag) (R : Rp α) : Rp (List α) := ⟨fun as v H => ∃ a vs, v = .ref a ∧ Sq K H a vs ∧ All2 (fun x y => R.p x y H) as vs,
  fun e ⟨a, vs, h1, h2, h3⟩ => ⟨a, vs, h1, ex_s e h2, h3.imp fun _ _ q => R.m e q⟩⟩
/-- a tuple of two -/
def rP {α β : Type} (R : Rp α) (S : Rp β) : Rp (α × β) := ⟨fun x v H => ∃ a y z, v = .ref a ∧ H a = some (.tup [y, z]) ∧ R.p x.1 y H ∧ S.p x.2 z H,
  fun e ⟨a, y, z, h1, h2, h3, h4⟩ => ⟨a, y, z, h1, e _ _ h2, R.m e h3, S.m e h4⟩⟩
abbrev rE : Rp (Str × Str) := rP rS rS
theorem rL_q {α : Type} {K : PySem.W.Frag} {R : Rp α} {as : List α} {v : V} {H : Hp} (h : (rL R).p as v H) : (rQ K R).p as v H := let ⟨a, vs, h1, h2, h3⟩ := h; ⟨a, vs, h1, .inl (sq_of h2), h3⟩
/-! ### what evaluates to what -/
def EvR {α : Type} (R : Rp α) (ps : List Addr) (te : TE) (σ : L2.St) (H : Hp) (a : α) : Prop := ∀ H1, Ex H H1 → Own ps H1 → ∀ Q : VK, (∀ v H2, Ex H1 H2 → R.p a v (Rm ps H2) → Q v H2) → te σ H1 Q
def EtR (ps : List Addr) (tt : TT) (σ : L2.St) (H : Hp) (b : Bool) : Prop := ∀ H1, Ex H H1 → Own ps H1 → ∀ Q : Bool → Hp → Prop, (∀ H2, Ex H1 H2 → Q b H2) → tt σ H1 Q
/-- arguments, all told alike; two; three -/
def EaR {α : Type} (R : Rp α) (ps : List Addr) (ta : TA) (σ : L2.St) (H : Hp) (as : List α) : Prop := ∀ H1, Ex H H1 → Own ps H1 → ∀ Q : List V → Hp → Prop, (∀ vs H2, Ex H1 H2 → All2 (fun x y => R.p x y (Rm ps H2)) as vs → Q vs H2) → ta σ H1 Q
section
variable {α β γ : Type} {R : Rp α} {S : Rp β} {T : Rp γ} {K : PySem.W.Frag} {ps : List Addr} {σ : L2.St} {H H' : Hp} {ta tb tc te tl : TE} {tr : TA} {t u : TT} {v w : V} {a : α} {b : β} {c : γ}
theorem EvR.mono (e : Ex H H') (h : EvR R ps te σ H a) : EvR R ps te σ H' a := fun H1 e1 => h H1 (e.trans e1)
theorem EtR.mono {x : Bool} (e : Ex H H') (h : EtR ps t σ H x) : EtR ps t σ H' x := fun H1 e1 => h H1 (e.trans e1)
theorem er_of (h : Ev te σ H v) (r : R.p a v (Rm ps H)) : EvR R ps te σ H a := fun H1 e o Q q => h H1 e Q fun H2 e2 => q v H2 e2 (R.m (Rm_mono (e.trans e2)) r)
theorem er_var {i : Nat} (h : σ[i]? = some (some v)) (r : R.p a v (Rm ps H)) : EvR R ps (tVar i) σ H a := er_of (ev_var h) r
theorem er_I {i : Int} (h : Ev te σ H (.int i)) : EvR rI ps te σ H i := er_of h rfl
theorem er_S {s : Str} (h : Ev te σ H (.str s)) : EvR rS ps te σ H s := er_of h rfl
theorem er_B {x : Bool} (h : Ev te σ H (.bl x)) : EvR rB ps te σ H x := er_of h rfl
/-- a value that hangs on nothing -/
theorem ev_of (o : Own ps H) (h : EvR R ps te σ H a) (r : ∀ w H1, R.p a w H1 → w = v) : Ev te σ H v := fun H1 e Q q => h H1 e (o.ex e) Q fun w H2 e2 hw => by
  rw [r w _ hw]
  exact q H2 e2
theorem ev_I {i : Int} (o : Own ps H) (h : EvR rI ps te σ H i) : Ev te σ H (.int i) := ev_of o h fun _ _ z => z
theorem ev_S {s : Str} (o : Own ps H) (h : EvR rS ps te σ H s) : Ev te σ H (.str s) := ev_of o h fun _ _ z => z
theorem ev_B {x : Bool} (o : Own ps H) (h : EvR rB ps te σ H x) : Ev te σ H (.bl x) := ev_of o h fun _ _ z => z
theorem et_of {x : Bool} (h : EvT t σ H x) : EtR ps t σ H x := fun H1 e _ => h H1 e
theorem evt_of {x : Bool} (o : Own ps H) (h : EtR ps t σ H x) : EvT t σ H x := fun H1 e => h H1 e (o.ex e)
theorem er_is {a' : α} (h : EvR R ps te σ H a) (e : a = a') : EvR R ps te σ H a' := e ▸ h
theorem er_imp {S : Rp α} (h : EvR R ps te σ H a) (k : ∀ v H1, R.p a v H1 → S.p a v H1) : EvR S ps te σ H a := fun H1 e o Q q => h H1 e o Q fun v H2 e2 r => q v H2 e2 (k _ _ r)
theorem er_impG {S : Rp β} (h : EvR R ps te σ H a) (k : ∀ v H1, R.p a v H1 → S.p b v H1) : EvR S ps te σ H b := fun H1 e o Q q => h H1 e o Q fun v H2 e2 r => q v H2 e2 (k _ _ r)
theorem et_B' {x : Bool} (h : EvR rB ps te σ H x) : EtR ps (tB te) σ H x := fun H1 e o Q q => h H1 e o _ fun v H2 e2 r => ⟨x, r, q H2 e2⟩
theorem et_test' {x : Bool} (h : EvR rB ps te σ H x) : EtR ps (tTest te) σ H x := fun H1 e o Q q => h H1 e o _ fun v H2 e2 r => ⟨x, r, q H2 e2⟩
theorem et_not' {x : Bool} (h : EtR ps t σ H x) : EtR ps (tNot t) σ H (!x) := fun H1 e o Q q => h H1 e o _ fun H2 e2 => q H2 e2
theorem et_or' {x y : Bool} (h1 : EtR ps t σ H x) (h2 : x = false → EtR ps u σ H y) : EtR ps (tOr t u) σ H (x || y) := fun H1 e o Q q => h1 H1 e o _ fun H2 e2 => by
  cases x with
  | true =>
    show Q true H2
    exact q H2 e2
  | false =>
    show u σ H2 Q
    exact h2 rfl H2 (e.trans e2) (o.ex e2) Q fun H3 e3 => q H3 (e2.trans e3)
theorem et_and' {x y : Bool} (h1 : EtR ps t σ H x) (h2 : x = true → EtR ps u σ H y) : EtR ps (tAnd t u) σ H (x && y) := fun H1 e o Q q => h1 H1 e o _ fun H2 e2 => by
  cases x with
  | true =>
    show u σ H2 Q
    exact h2 rfl H2 (e.trans e2) (o.ex e2) Q fun H3 e3 => q H3 (e2.trans e3)
  | false =>
    show Q false H2
    exact q H2 e2
theorem et_is' {x y : Bool} (h : EtR ps t σ H x) (e : x = y) : EtR ps t σ H y := e ▸ h
theorem er_notV {x : Bool} (h : EvR rB ps ta σ H x) : EvR rB ps (tNotV ta) σ H (!x) := fun H1 e o Q q => h H1 e o _ fun v H2 e2 r => ⟨x, r, q _ H2 e2 rfl⟩
theorem er_andV {x y : Bool} (h1 : EvR rB ps ta σ H x) (h2 : x = true → EvR rB ps tb σ H y) : EvR rB ps (tAndV ta tb) σ H (x && y) := fun H1 e o Q q => h1 H1 e o _ fun v H2 e2 r => ⟨x, r, by
  cases x with
  | true =>
    show tb σ H2 Q
    exact h2 rfl H2 (e.trans e2) (o.ex e2) Q fun v H3 e3 r3 => q v H3 (e2.trans e3) r3
  | false =>
    show Q (.bl false) H2
    exact q _ H2 e2 rfl⟩
theorem er_orV {x y : Bool} (h1 : EvR rB ps ta σ H x) (h2 : x = false → EvR rB ps tb σ H y) : EvR rB ps (tOrV ta tb) σ H (x || y) := fun H1 e o Q q => h1 H1 e o _ fun v H2 e2 r => ⟨x, r, by
  cases x with
  | true =>
    show Q (.bl true) H2
    exact q _ H2 e2 rfl
  | false =>
    show tb σ H2 Q
    exact h2 rfl H2 (e.trans e2) (o.ex e2) Q fun v H3 e3 r3 => q v H3 (e2.trans e3) r3⟩
theorem er_ifexp {x : Bool} (h : EtR ps t σ H x) (h1 : x = true → EvR R ps ta σ H a) (h2 : x = false → EvR R ps tb σ H a) : EvR R ps (tIf t ta tb) σ H a := fun H1 e o Q q => h H1 e o _ fun H2 e2 => by
  cases x with
  | true =>
    show ta σ H2 Q
    exact h1 rfl H2 (e.trans e2) (o.ex e2) Q fun v H3 e3 r3 => q v H3 (e2.trans e3) r3
  | false =>
    show tb σ H2 Q
    exact h2 rfl H2 (e.trans e2) (o.ex e2) Q fun v H3 e3 r3 => q v H3 (e2.trans e3) r3
theorem eas_nil : EaR R ps tNil σ H [] := fun H1 _ _ Q q => q [] H1 (Ex.refl _) trivial
theorem eas_cons {as : List α} (h : EvR R ps te σ H a) (hr : EaR R ps tr σ H as) : EaR R ps (tCons te tr) σ H (a :: as) := fun H1 e o Q q =>
  h H1 e o _ fun v H2 e2 r => hr H2 (e.trans e2) (o.ex e2) _ fun vs H3 e3 rs => q (v :: vs) H3 (e2.trans e3) ⟨R.m (Rm_mono e3) r, rs⟩
/-- a display -/
theorem er_lst {as : List α} {tr : TA} (h : EaR R ps tr σ H as) (hl : as.length ≤ 100000) : EvR (rL R) ps (tLst tr) σ H as := fun H1 e o Q q =>
  h H1 e o _ fun vs H2 e2 rs => ⟨sz_of (by rw [← rs.len]; exact hl), fun p hp => q _ _ (e2.trans (Ex.new hp)) ⟨p, vs, rfl, Rm_get upd_same ((o.ex e2).nin hp), rs.imp fun _ _ r => R.m (Rm_mono (Ex.new hp)) r⟩⟩
theorem er_tup (ha : EvR R ps ta σ H a) (hb : EvR S ps tb σ H b) : EvR (rP R S) ps (tTup (tCons ta (tCons tb tNil))) σ H (a, b) := fun H1 e o Q q =>
  ha H1 e o _ fun v H2 e2 r => hb H2 (e.trans e2) (o.ex e2) _ fun w H3 e3 s => ⟨sz_of (by show 2 ≤ 100000; decide), fun p hp => q _ _ ((e2.trans e3).trans (Ex.new hp))
    ⟨p, v, w, rfl, Rm_get upd_same ((o.ex (e2.trans e3)).nin hp), R.m (Rm_mono (e3.trans (Ex.new hp))) r, S.m (Rm_mono (Ex.new hp)) s⟩⟩
/-- a call by values -/
theorem er_cb {r : List V → Hp → VK → Prop} {as : List α} (h : EaR R ps tr σ H as) (hr : ∀ vs H1, Ex H H1 → Own ps H1 → All2 (fun x y => R.p x y (Rm ps H1)) as vs → ∀ Q : VK, (∀ v H2, Ex H1 H2 → S.p b v (Rm ps H2) → Q v H2) → r vs H1 Q) : EvR S ps (tCB r tr) σ H b := fun H1 e o Q q =>
  h H1 e o _ fun vs H2 e2 rs => hr vs H2 (e.trans e2) (o.ex e2) rs Q fun v H3 e3 s => q v H3 (e2.trans e3) s
theorem er_cb1 {r : List V → Hp → VK → Prop} (h : EvR R ps ta σ H a) (hr : ∀ v H1, Ex H H1 → Own ps H1 → R.p a v (Rm ps H1) → ∀ Q : VK, (∀ w H2, Ex H1 H2 → S.p b w (Rm ps H2) → Q w H2) → r [v] H1 Q) : EvR S ps (tCB r (tCons ta tNil)) σ H b := fun H1 e o Q q =>
  h H1 e o _ fun v H2 e2 rv => hr v H2 (e.trans e2) (o.ex e2) rv Q fun w H3 e3 s => q w H3 (e2.trans e3) s
theorem er_op {r : R2} (ha : EvR R ps ta σ H a) (hb : EvR S ps tb σ H b) (hr : ∀ v w H1, Ex H H1 → Own ps H1 → R.p a v (Rm ps H1) → S.p b w (Rm ps H1) → ∀ Q : VK, (∀ z H2, Ex H1 H2 → T.p c z (Rm ps H2) → Q z H2) → r v w H1 Q) : EvR T ps (tOp r ta tb) σ H c := fun H1 e o Q q =>
  ha H1 e o _ fun v H2 e2 rv => hb H2 (e.trans e2) (o.ex e2) _ fun w H3 e3 sw => hr v w H3 ((e.trans e2).trans e3) (o.ex (e2.trans e3)) (R.m (Rm_mono e3) rv) sw Q fun z H4 e4 tz => q z H4 ((e2.trans e3).trans e4) tz
theorem er_un {r : V → Hp → VK → Prop} (ha : EvR R ps ta σ H a) (hr : ∀ v H1, Ex H H1 → Own ps H1 → R.p a v (Rm ps H1) → ∀ Q : VK, (∀ z H2, Ex H1 H2 → T.p c z (Rm ps H2) → Q z H2) → r v H1 Q) : EvR T ps (tUn r ta) σ H c := fun H1 e o Q q =>
  ha H1 e o _ fun v H2 e2 rv => hr v H2 (e.trans e2) (o.ex e2) rv Q fun z H3 e3 tz => q z H3 (e2.trans e3) tz
/-- promises: of one thing, of two, of three -/
def Sp1 (R : Rp α) (T : Rp γ) (f : α → γ) (C : α → Prop) : Sp := fun vs H Q _ => ∃ ps v a, vs = [v] ∧ Own ps H ∧ R.p a v (Rm ps H) ∧ C a ∧ ∀ w H', Ex H H' → T.p (f a) w (Rm ps H') → Q w H'
def Sp2 (R : Rp α) (S : Rp β) (T : Rp γ) (f : α → β → γ) (C : α → β → Prop) : Sp := fun vs H Q _ => ∃ ps v w a b, vs = [v, w] ∧ Own ps H ∧ R.p a v (Rm ps H) ∧ S.p b w (Rm ps H) ∧ C a b ∧ ∀ z H', Ex H H' → T.p (f a b) z (Rm ps H') → Q z H'
def Sp3 {δ : Type} (R : Rp α) (S : Rp β) (U : Rp δ) (T : Rp γ) (f : α → β → δ → γ) (C : α → β → δ → Prop) : Sp := fun vs H Q _ => ∃ ps v w z a b d, vs = [v, w, z] ∧ Own ps H ∧ R.p a v (Rm ps H) ∧ S.p b w (Rm ps H) ∧ U.p d z (Rm ps H) ∧ C a b d ∧ ∀ r H', Ex H H' → T.p (f a b d) r (Rm ps H') → Q r H'
theorem er_call1 {f : α → γ} {C : α → Prop} {E : XK} (h : EvR R ps ta σ H a) (hc : C a) : EvR T ps (tCall (Sp1 R T f C) [] E (tCons ta tNil)) σ H (f a) := fun H1 e o Q q =>
  h H1 e o _ fun v H2 e2 r => ⟨ps, v, a, rfl, o.ex e2, r, hc, fun w H3 e3 s => q w H3 (e2.trans e3) s⟩
theorem er_call2 {f : α → β → γ} {C : α → β → Prop} {E : XK} (h : EvR R ps ta σ H a) (h2 : EvR S ps tb σ H b) (hc : C a b) : EvR T ps (tCall (Sp2 R S T f C) [] E (tCons ta (tCons tb tNil))) σ H (f a b) := fun H1 e o Q q =>
  h H1 e o _ fun v H2 e2 r => h2 H2 (e.trans e2) (o.ex e2) _ fun w H3 e3 s => ⟨ps, v, w, a, b, rfl, o.ex (e2.trans e3), R.m (Rm_mono e3) r, s, hc, fun z H4 e4 t => q z H4 ((e2.trans e3).trans e4) t⟩
theorem er_call3 {δ : Type} {U : Rp δ} {d : δ} {f : α → β → δ → γ} {C : α → β → δ → Prop} {E : XK} (h : EvR R ps ta σ H a) (h2 : EvR S ps tb σ H b) (h3 : EvR U ps tc σ H d) (hc : C a b d) : EvR T ps (tCall (Sp3 R S U T f C) [] E (tCons ta (tCons tb (tCons tc tNil)))) σ H (f a b d) := fun H1 e o Q q =>
  h H1 e o _ fun v H2 e2 r => h2 H2 (e.trans e2) (o.ex e2) _ fun w H3 e3 s => h3 H3 ((e.trans e2).trans e3) (o.ex (e2.trans e3)) _ fun z H4 e4 u => ⟨ps, v, w, z, a, b, d, rfl, o.ex ((e2.trans e3).trans e4), R.m (Rm_mono (e3.trans e4)) r, S.m (Rm_mono e4) s, u, hc, fun y H5 e5 t => q y H5 (((e2.trans e3).trans e4).trans e5) t⟩
/-! ### statements -/
variable {D : Ends} {tu tw tz : TS} {g : TG}
theorem s_retR (o : Own ps H) (h : EvR R ps te σ H a) (k : ∀ v H1, Ex H H1 → R.p a v (Rm ps H1) → D.rt v H1) : tRet te D σ H := h H (Ex.refl H) o _ k
theorem q_asgR' {i : Nat} (o : Own ps H) (h : EvR R ps te σ H a) (k : ∀ v H1, Ex H H1 → R.p a v (Rm ps H1) → tz D (σ.set i (some v)) H1) : tSeq (tAsg te (gName i)) tz D σ H := h H (Ex.refl H) o _ k
theorem s_asgR' {i : Nat} (o : Own ps H) (h : EvR R ps te σ H a) (k : ∀ v H1, Ex H H1 → R.p a v (Rm ps H1) → D.nx (σ.set i (some v)) H1) : tAsg te (gName i) D σ H := h H (Ex.refl H) o _ k
theorem q_dropR (o : Own ps H) (h : EvR R ps te σ H a) (k : ∀ H1, Ex H H1 → tz D σ H1) : tSeq (tDrop te) tz D σ H := h H (Ex.refl H) o _ fun _ H1 e _ => k H1 e
theorem q_parR {i j : Nat} (o : Own ps H) (h1 : EvR R ps ta σ H a) (h2 : EvR S ps tb σ H b) (k : ∀ v w H1, Ex H H1 → R.p a v (Rm ps H1) → S.p b w (Rm ps H1) → tz D ((σ.set i (some v)).set j (some w)) H1) : tSeq (tPar i j (tCons ta (tCons tb tNil))) tz D σ H :=
  h1 H (Ex.refl H) o _ fun v H1 e1 r => h2 H1 e1 (o.ex e1) _ fun w H2 e2 s => ⟨v, w, rfl, k v w H2 (e1.trans e2) (R.m (Rm_mono e2) r) s⟩
end
end RP
set_option Elab.async false
set_option linter.all false
set_option maxRecDepth 100000
set_option maxHeartbeats 4000000
/-! comprehensions and walks, told by what the items stand for -/
namespace RP
open PySem PySem.Spec PyProof.Rows L2 Evl Gen
section
variable {α β γ : Type} {R : Rp α} {S : Rp β} {T : Rp γ} {K : PySem.W.Frag} {ps : List Addr} {σ : L2.St} {H H' : Hp} {ta tb tc te tl : TE} {tr : TA} {tt : TT} {v w : V} {a : α} {b : β} {c : γ}
/-- what a turn's store binds: P of the item, the slots and the heap -/
def Bd (R : Rp α) (ps : List Addr) (g : TG) (vs : List Nat) (σ : L2.St) (P : α → L2.St → Hp → Prop) : Prop := ∀ x v H1, Own ps H1 → R.p x v (Rm ps H1) → ∀ Q : L2.St → Hp → Prop, (∀ σ2, wipe σ2 vs = wipe σ vs → P x σ2 H1 → Q σ2 H1) → g v (wipe σ vs) H1 Q
theorem bd_name {j : Nat} {vs : List Nat} (hw : ∀ x, wipe ((wipe σ vs).set j (some x)) vs = wipe σ vs) : Bd R ps (gName j) vs σ (fun x σ2 H1 => ∃ v, σ2 = (wipe σ vs).set j (some v) ∧ R.p x v (Rm ps H1)) := fun x v H1 _ r Q q => q _ (hw v) ⟨v, rfl, r⟩
theorem bd_two {i j : Nat} {vs : List Nat} (hw : ∀ x y, wipe (((wipe σ vs).set i (some x)).set j (some y)) vs = wipe σ vs) : Bd (rP R S) ps (gTup K 2 (gCons (gName i) (gCons (gName j) gNil))) vs σ (fun x σ2 H1 => ∃ v w, σ2 = ((wipe σ vs).set i (some v)).set j (some w) ∧ R.p x.1 v (Rm ps H1) ∧ S.p x.2 w (Rm ps H1)) := fun x v H1 _ r Q q => by
  obtain ⟨a, y, z, rfl, h2, h3, h4⟩ := r
  exact ⟨a, _, rfl, st_of (Rm_ex _ _ h2), rfl, _, _, rfl, _, _, rfl, rfl, q _ (hw y z) ⟨y, z, rfl, h3, h4⟩⟩
/-- what stands at the new list's place after some turns -/
def Lw (R : Rp β) (ps : List Addr) (H1 : Hp) (Dl : Addr) (bs : List β) (H' : Hp) : Prop := Ex H1 H' ∧ ∃ vs, H' Dl = some (.lst vs) ∧ All2 (fun x y => R.p x y (Rm (Dl :: ps) H')) bs vs
theorem lw_zero {H1 : Hp} {Dl : Addr} (h : H1 Dl = none) : Lw S ps H1 Dl [] (upd H1 Dl (.lst [])) := ⟨Ex.new h, [], upd_same, trivial⟩
theorem lw_ex {H1 H2 H3 : Hp} {Dl : Addr} {bs : List β} (p : Lw S ps H1 Dl bs H2) (e : Ex H2 H3) : Lw S ps H1 Dl bs H3 := let ⟨h1, vs, h2, h3⟩ := p; ⟨h1.trans e, vs, e _ _ h2, h3.imp fun _ _ r => S.m (Rm_mono e) r⟩
/-- the item's turn, in the frame with the new list beside -/
theorem lw_turn {H1 H2 : Hp} {Dl : Addr} {bs : List β} {σ2 : L2.St} {k : Nat} (o : Own ps H1) (hD : H1 Dl = none) (p : Lw S ps H1 Dl bs H2) (hz : bs.length < 50000) (h : EvR S (Dl :: ps) te σ2 H2 b) :
    te σ2 H2 fun y H4 => ∃ acc, H4 Dl = some (.lst acc) ∧ acc.length < sizeLine ∧ Lw S ps H1 Dl (bs ++ [b]) (upd H4 Dl (.lst (acc ++ [y]))) := by
  obtain ⟨p1, vs, p2, p3⟩ := p
  refine h H2 (Ex.refl _) ((o.ex p1).push p2) _ fun y H4 e4 r => ⟨vs, e4 _ _ p2, sz_lt (by rw [← p3.len]; omega), Ex.mut (p1.trans e4) hD, vs ++ [y], upd_same, ?_⟩
  have er : Rm (Dl :: ps) (upd H4 Dl (.lst (vs ++ [y]))) = Rm (Dl :: ps) H4 := Rm_upd (List.mem_cons_self ..)
  rw [er]
  exact (p3.imp fun _ _ q => S.m (Rm_mono e4) q).app (.one r)
theorem lw_end {H1 H2 : Hp} {Dl : Addr} {bs : List β} (o : Own ps H1) (hD : H1 Dl = none) (p : Lw S ps H1 Dl bs H2) : (rL S).p bs (.ref Dl) (Rm ps H2) := let ⟨_, vs, h2, h3⟩ := p; ⟨Dl, vs, rfl, Rm_get h2 (o.nin hD), h3.imp fun _ _ q => S.m Rm_pop q⟩
/-- a turn with its test -/
theorem lw_test {H0 H1 H2 : Hp} {Dl : Addr} {bs : List β} {σ2 : L2.St} {q : Bool} {nb : List β} (o : Own ps H1) (hD : H1 Dl = none) (p : Lw S ps H1 Dl bs H2) (hz : bs.length < 50000)
    (ht : EtR (Dl :: ps) tt σ2 H2 q) (he : q = true → nb = bs ++ [b] ∧ EvR S (Dl :: ps) te σ2 H2 b) (hn : q = false → nb = bs) :
    tt σ2 H2 fun x H3 => if x = true then te σ2 H3 fun y H4 => ∃ acc, H4 Dl = some (.lst acc) ∧ acc.length < sizeLine ∧ Lw S ps H1 Dl nb (upd H4 Dl (.lst (acc ++ [y]))) else Lw S ps H1 Dl nb H3 := by
  obtain ⟨vs, p2, p3⟩ := p.2
  refine ht H2 (Ex.refl _) ((o.ex p.1).push p2) _ fun H3 e3 => ?_
  cases q with
  | true =>
    rw [if_pos rfl, (he rfl).1]
    exact lw_turn (k := 0) o hD (lw_ex p e3) hz ((he rfl).2.mono e3)
  | false =>
    rw [if_neg Bool.false_ne_true, hn rfl]
    exact lw_ex p e3
/-- a walked thing whose items stand for xs -/
def Wk (R : Rp α) (ps : List Addr) (wi : TI) (σ : L2.St) (H : Hp) (xs : List α) : Prop := ∀ H0, Ex H H0 → Own ps H0 → ∀ Rk : It → Hp → Prop,
  (∀ J n G Y H1, Ex H0 H1 → n = xs.length → Walk J n G Y → (∀ H2, Ex (Rm ps H1) H2 → G H2) →
    (∀ i H2 u H3 qs, i < n → Own qs H2 → Ex (Rm ps H1) (Rm qs H2) → Y i H2 u H3 → Ex H2 H3 ∧ ∃ x, xs[i]? = some x ∧ R.p x u (Rm qs H3)) → Rk J H1) → wi σ H0 Rk
theorem wk_list {xs : List α} (h : EvR (rL R) ps tl σ H xs) : Wk R ps (iList K tl) σ H xs := fun H0 e o Rk k => h H0 e o _ fun v H1 e1 r => by
  obtain ⟨a, us, rfl, ha, hu⟩ := r
  exact ⟨a, rfl, ⟨us, sq_of (Rm_ex _ _ ha)⟩, k _ us.length _ _ H1 e1 hu.len.symm walk_list (fun H2 e2 => sq_of (e2 _ _ ha)) fun i H2 u H3 qs hi oq ex y => by
    obtain ⟨rfl, hy⟩ := y
    obtain ⟨x, hx, rx⟩ := hu.getv hy
    exact ⟨Ex.refl _, x, hx, R.m ex rx⟩⟩
theorem wk_seq {xs : List α} (h : EvR (rQ K R) ps tl σ H xs) : Wk R ps (iSeq K tl) σ H xs := fun H0 e o Rk k => h H0 e o _ fun v H1 e1 r => by
  obtain ⟨a, us, rfl, ha, hu⟩ := r
  have item : ∀ i H2 u H3 qs, i < us.length → Own qs H2 → Ex (Rm ps H1) (Rm qs H2) → YAt us i H2 u H3 → Ex H2 H3 ∧ ∃ x, xs[i]? = some x ∧ R.p x u (Rm qs H3) := fun i H2 u H3 qs hi oq ex y => by
    obtain ⟨rfl, hy⟩ := y
    obtain ⟨x, hx, rx⟩ := hu.getv hy
    exact ⟨Ex.refl _, x, hx, R.m ex rx⟩
  rcases ha with h1 | h1
  · exact ⟨a, us, rfl, .inl ⟨ex_l Rm_ex h1, k _ us.length _ _ H1 e1 hu.len.symm walk_list (fun H2 e2 => ex_l e2 h1) item⟩⟩
  · exact ⟨a, us, rfl, .inr ⟨ex_t Rm_ex h1, k _ us.length _ _ H1 e1 hu.len.symm walk_tup (fun H2 e2 => ex_t e2 h1) item⟩⟩
theorem wk_range {n : Nat} (h : EvR rI ps ta σ H (n : Int)) (hn : n ≤ 100000) : Wk rN ps (iRng1 (tCons ta tNil)) σ H (List.range n) := fun H0 e o Rk k => h H0 e o _ fun v H1 e1 r => by
  have rv : v = .int (n : Int) := r
  subst rv
  refine ⟨(n : Int), rfl, by omega, by omega, k _ n _ _ H1 e1 (by simp) (walk_range (lo := 0) (n := n)) (fun _ _ => trivial) fun i H2 u H3 qs hi oq ex y => ?_⟩
  obtain ⟨rfl, rfl⟩ := y
  exact ⟨Ex.refl _, i, by simp [hi], by show V.int (0 + (i : Int)) = _; rw [Int.zero_add]⟩
theorem wk_range2 {m n : Nat} (h1 : EvR rI ps ta σ H (m : Int)) (h2 : EvR rI ps tb σ H (n : Int)) (hm : m ≤ 100000) (hn : n ≤ 100000) : Wk rN ps (iRng2 (tCons ta (tCons tb tNil))) σ H ((List.range (n - m)).map (m + ·)) := fun H0 e o Rk k => h1 H0 e o _ fun v H1 e1 r => h2 H1 (e.trans e1) (o.ex e1) _ fun w H2 e2 r2 => by
  have rv : v = .int (m : Int) := r
  have rw' : w = .int (n : Int) := r2
  subst rv rw'
  refine ⟨(m : Int), (n : Int), rfl, ⟨by omega, by omega, by omega, by omega⟩, ?_⟩
  have hn' : ((n : Int) - (m : Int)).toNat = n - m := by omega
  rw [hn']
  refine k _ (n - m) _ _ H2 (e1.trans e2) (by simp) (walk_range (lo := (m : Int)) (n := n - m)) (fun _ _ => trivial) fun i H3 u H4 qs hi oq ex y => ?_
  obtain ⟨rfl, rfl⟩ := y
  exact ⟨Ex.refl _, m + i, by simp [hi], by show V.int ((m : Int) + (i : Int)) = V.int ((m + i : Nat) : Int); rw [Int.natCast_add]⟩
theorem wk_zip {xs : List α} {ys : List β} (h1 : EvR (rL R) ps ta σ H xs) (h2 : EvR (rL S) ps tb σ H ys) : Wk (rP R S) ps (iZip K (tCons ta (tCons tb tNil))) σ H (xs.zip ys) := fun H0 e o Rk k => h1 H0 e o _ fun v H1 e1 r => h2 H1 (e.trans e1) (o.ex e1) _ fun w H2 e2 r2 => by
  obtain ⟨a, us, rfl, ha, hu⟩ := r
  obtain ⟨b, ws, rfl, hb, hw⟩ := r2
  have ha1 := Rm_mono e2 _ _ ha
  refine ⟨a, b, us, ws, rfl, sq_of (Rm_ex _ _ ha1), sq_of (Rm_ex _ _ hb), k _ (min us.length ws.length) _ _ H2 (e1.trans e2) (by rw [List.length_zip, hu.len, hw.len]) (walk_zip rfl) (fun H3 e3 => ⟨sq_of (e3 _ _ ha1), sq_of (e3 _ _ hb)⟩) fun i H3 u H4 qs hi oq ex y => ?_⟩
  obtain ⟨Tt, x, y, rfl, hT, rfl, hx, hy⟩ := y
  obtain ⟨x', hx', rx⟩ := hu.getv hx
  obtain ⟨y', hy', ry⟩ := hw.getv hy
  have eT : Ex H3 (upd H3 Tt (.tup [x, y])) := Ex.new hT
  refine ⟨eT, (x', y'), ?_, Tt, x, y, rfl, Rm_get upd_same (oq.nin hT), R.m (((Rm_mono e2).trans ex).trans (Rm_mono eT)) rx, S.m (ex.trans (Rm_mono eT)) ry⟩
  rw [List.getElem?_zip_eq_some]
  exact ⟨hx', hy'⟩
theorem wk_enum {xs : List α} (h : EvR (rQ K R) ps ta σ H xs) : Wk (rP rN R) ps (iEnumS K (tCons ta tNil)) σ H ((List.range xs.length).zip xs) := fun H0 e o Rk k => h H0 e o _ fun v H1 e1 r => by
  obtain ⟨a, us, rfl, ha, hu⟩ := r
  have item : ∀ i H2 u H3 qs, i < us.length → Own qs H2 → Ex (Rm ps H1) (Rm qs H2) → YPair (fun i => some (.int (i : Nat))) (fun i => us[i]?) i H2 u H3 → Ex H2 H3 ∧ ∃ x, ((List.range xs.length).zip xs)[i]? = some x ∧ (rP rN R).p x u (Rm qs H3) := fun i H2 u H3 qs hi oq ex y => by
    obtain ⟨Tt, x, y, rfl, hT, rfl, hx, hy⟩ := y
    cases hx
    obtain ⟨y', hy', ry⟩ := hu.getv hy
    have eT : Ex H2 (upd H2 Tt (.tup [.int (i : Nat), y])) := Ex.new hT
    refine ⟨eT, (i, y'), ?_, Tt, _, y, rfl, Rm_get upd_same (oq.nin hT), rfl, R.m (ex.trans (Rm_mono eT)) ry⟩
    rw [List.getElem?_zip_eq_some]
    exact ⟨by simp [(List.getElem?_eq_some_iff.mp hy').1], hy'⟩
  rcases ha with h1 | h1
  · exact ⟨a, us, rfl, .inl ⟨ex_l Rm_ex h1, k _ us.length _ _ H1 e1 (by simp [hu.len]) walk_enum (fun H2 e2 => ex_l e2 h1) item⟩⟩
  · exact ⟨a, us, rfl, .inr ⟨ex_t Rm_ex h1, k _ us.length _ _ H1 e1 (by simp [hu.len]) walk_enumT (fun H2 e2 => ex_t e2 h1) item⟩⟩
/-- [e for .. in xs if c] -/
theorem er_lcG {wi : TI} {xs : List α} {g : TG} {vs : List Nat} {P : α → L2.St → Hp → Prop} (f : α → β) (q : α → Bool) (h : Wk R ps wi σ H xs) (hz : xs.length ≤ 40000) (hb : ∀ qs, Bd R qs g vs σ (fun x σ2 H1 => P x σ2 (Rm qs H1)))
    (ht : ∀ x ∈ xs, ∀ qs σ2 H1, Ex H H1 → Own qs H1 → Ex (Rm ps H) (Rm qs H1) → P x σ2 (Rm qs H1) → EtR qs tt σ2 H1 (q x))
    (he : ∀ x ∈ xs, q x = true → ∀ qs σ2 H1, Ex H H1 → Own qs H1 → Ex (Rm ps H) (Rm qs H1) → P x σ2 (Rm qs H1) → EvR S qs te σ2 H1 (f x)) :
    EvR (rL S) ps (tLc wi g tt te vs) σ H ((xs.filter q).map f) := fun H0 e o Q k => h H0 e o _ fun J n G Y H1 e1 hn wk hG hY Dl hD => by
  have o1 := o.ex e1
  refine lc_it wk (fun i H2 => Lw S ps H1 Dl (((xs.take i).filter q).map f) H2) (lw_zero hD) (fun i H2 _ p => hG H2 (Rm_ex.trans p.1)) (fun i u H2 H2' hi p y => ?_) (fun H2 p => ?_)
  · obtain ⟨vs', p2, p3⟩ := p.2
    have o2 : Own (Dl :: ps) H2 := (o1.ex p.1).push p2
    have ex2 : Ex (Rm ps H1) (Rm (Dl :: ps) H2) := fun b ob hb => by
      have n : b ≠ Dl := fun z => by rw [z, Rm_none hD] at hb; cases hb
      have hb1 := Rm_ex _ _ hb
      refine Rm_get (p.1 _ _ hb1) (fun m => (List.mem_cons.mp m).elim n fun m => ?_)
      rw [Rm_own m] at hb
      cases hb
    obtain ⟨e3, x, hx, rx⟩ := hY i H2 u H2' (Dl :: ps) hi o2 ex2 y
    have hm : x ∈ xs := List.mem_of_getElem? hx
    have p' := lw_ex p e3
    have o2' := o2.ex e3
    refine hb (Dl :: ps) x u H2' o2' rx _ fun σ2 hw hP => ⟨hw, ?_⟩
    have g0 : Ex H H2' := (e.trans e1).trans p'.1
    have g1 : Ex (Rm ps H) (Rm (Dl :: ps) H2') := ((Rm_mono (e.trans e1)).trans ex2).trans (Rm_mono e3)
    have hlen : (((xs.take i).filter q).map f).length < 50000 := by
      rw [List.length_map]
      have h1 := List.length_filter_le q (xs.take i)
      have h2 : (xs.take i).length ≤ xs.length := by rw [List.length_take]; exact Nat.min_le_right _ _
      omega
    refine lw_test (H0 := H1) (b := f x) o1 hD p' hlen (ht x hm _ σ2 H2' g0 o2' g1 hP) (fun hq => ⟨?_, he x hm hq _ σ2 H2' g0 o2' g1 hP⟩) (fun hq => ?_)
    · rw [take_snoc hx, List.filter_append, List.map_append, List.filter_cons, if_pos hq] <;> rfl
    · rw [take_snoc hx, List.filter_append, List.map_append, List.filter_cons, if_neg (by rw [hq]; decide)]
      show _ ++ [] = _
      rw [List.append_nil]
  · rw [hn, List.take_length] at p
    exact k _ _ (e1.trans p.1) (lw_end o1 hD p)
theorem et_yes : EtR ps tYes σ H true := fun H1 _ _ Q q => q H1 (Ex.refl _)
theorem er_lc1 {wi : TI} {xs : List α} {j : Nat} {vs : List Nat} (f : α → β) (h : Wk R ps wi σ H xs) (hz : xs.length ≤ 40000) (hw : ∀ x, wipe ((wipe σ vs).set j (some x)) vs = wipe σ vs)
    (he : ∀ x ∈ xs, ∀ qs v H1, Ex H H1 → Own qs H1 → Ex (Rm ps H) (Rm qs H1) → R.p x v (Rm qs H1) → EvR S qs te ((wipe σ vs).set j (some v)) H1 (f x)) : EvR (rL S) ps (tLc wi (gName j) tYes te vs) σ H (xs.map f) := by
  have g := er_lcG (S := S) (te := te) (tt := tYes) (P := fun x σ2 G => ∃ v, σ2 = (wipe σ vs).set j (some v) ∧ R.p x v G) f (fun _ => true) h hz (fun qs => bd_name hw) (fun x _ qs σ2 H1 _ _ _ _ => et_yes)
    (fun x hx _ qs σ2 H1 e o ex ⟨v, e2, r⟩ => by rw [e2]; exact he x hx qs v H1 e o ex r)
  rwa [List.filter_eq_self.mpr (fun _ _ => rfl)] at g
theorem er_lc1F {wi : TI} {xs : List α} {j : Nat} {vs : List Nat} (f : α → β) (q : α → Bool) (h : Wk R ps wi σ H xs) (hz : xs.length ≤ 40000) (hw : ∀ x, wipe ((wipe σ vs).set j (some x)) vs = wipe σ vs)
    (ht : ∀ x ∈ xs, ∀ qs v H1, Ex H H1 → Own qs H1 → Ex (Rm ps H) (Rm qs H1) → R.p x v (Rm qs H1) → EtR qs tt ((wipe σ vs).set j (some v)) H1 (q x))
    (he : ∀ x ∈ xs, q x = true → ∀ qs v H1, Ex H H1 → Own qs H1 → Ex (Rm ps H) (Rm qs H1) → R.p x v (Rm qs H1) → EvR S qs te ((wipe σ vs).set j (some v)) H1 (f x)) : EvR (rL S) ps (tLc wi (gName j) tt te vs) σ H ((xs.filter q).map f) :=
  er_lcG (P := fun x σ2 G => ∃ v, σ2 = (wipe σ vs).set j (some v) ∧ R.p x v G) f q h hz (fun qs => bd_name hw) (fun x hx qs σ2 H1 e o ex ⟨v, e2, r⟩ => by rw [e2]; exact ht x hx qs v H1 e o ex r)
    (fun x hx hq qs σ2 H1 e o ex ⟨v, e2, r⟩ => by rw [e2]; exact he x hx hq qs v H1 e o ex r)
theorem er_lc2 {wi : TI} {xs : List (α × β)} {i j : Nat} {vs : List Nat} (f : α × β → γ) (h : Wk (rP R S) ps wi σ H xs) (hz : xs.length ≤ 40000) (hw : ∀ x y, wipe (((wipe σ vs).set i (some x)).set j (some y)) vs = wipe σ vs)
    (he : ∀ x ∈ xs, ∀ qs v w H1, Ex H H1 → Own qs H1 → Ex (Rm ps H) (Rm qs H1) → R.p x.1 v (Rm qs H1) → S.p x.2 w (Rm qs H1) → EvR T qs te (((wipe σ vs).set i (some v)).set j (some w)) H1 (f x)) : EvR (rL T) ps (tLc wi (gTup K 2 (gCons (gName i) (gCons (gName j) gNil))) tYes te vs) σ H (xs.map f) := by
  have g := er_lcG (S := T) (te := te) (tt := tYes) (P := fun x σ2 G => ∃ v w, σ2 = ((wipe σ vs).set i (some v)).set j (some w) ∧ R.p x.1 v G ∧ S.p x.2 w G) f (fun _ => true) h hz (fun qs => bd_two (K := K) hw) (fun x _ qs σ2 H1 _ _ _ _ => et_yes)
    (fun x hx _ qs σ2 H1 e o ex ⟨v, w, e2, r, s⟩ => by rw [e2]; exact he x hx qs v w H1 e o ex r s)
  rwa [List.filter_eq_self.mpr (fun _ _ => rfl)] at g
theorem er_lc2F {wi : TI} {xs : List (α × β)} {i j : Nat} {vs : List Nat} (f : α × β → γ) (q : α × β → Bool) (h : Wk (rP R S) ps wi σ H xs) (hz : xs.length ≤ 40000) (hw : ∀ x y, wipe (((wipe σ vs).set i (some x)).set j (some y)) vs = wipe σ vs)
    (ht : ∀ x ∈ xs, ∀ qs v w H1, Ex H H1 → Own qs H1 → Ex (Rm ps H) (Rm qs H1) → R.p x.1 v (Rm qs H1) → S.p x.2 w (Rm qs H1) → EtR qs tt (((wipe σ vs).set i (some v)).set j (some w)) H1 (q x))
    (he : ∀ x ∈ xs, q x = true → ∀ qs v w H1, Ex H H1 → Own qs H1 → Ex (Rm ps H) (Rm qs H1) → R.p x.1 v (Rm qs H1) → S.p x.2 w (Rm qs H1) → EvR T qs te (((wipe σ vs).set i (some v)).set j (some w)) H1 (f x)) : EvR (rL T) ps (tLc wi (gTup K 2 (gCons (gName i) (gCons (gName j) gNil))) tt te vs) σ H ((xs.filter q).map f) :=
  er_lcG (P := fun x σ2 G => ∃ v w, σ2 = ((wipe σ vs).set i (some v)).set j (some w) ∧ R.p x.1 v G ∧ S.p x.2 w G) f q h hz (fun qs => bd_two (K := K) hw) (fun x hx qs σ2 H1 e o ex ⟨v, w, e2, r, s⟩ => by rw [e2]; exact ht x hx qs v w H1 e o ex r s)
    (fun x hx hq qs σ2 H1 e o ex ⟨v, w, e2, r, s⟩ => by rw [e2]; exact he x hx hq qs v w H1 e o ex r s)
/-! ### for -/
variable {D : Ends} {tu tz : TS} {g : TG}
/-- the frame: what is not the def's own stands -/
def Fr (ps : List Addr) (H H' : Hp) : Prop := Own ps H' ∧ Ex (Rm ps H) (Rm ps H')
theorem Fr.refl (o : Own ps H) : Fr ps H H := ⟨o, Ex.refl _⟩
theorem Fr.trans {H2 : Hp} (a : Fr ps H H') (b : Fr ps H' H2) : Fr ps H H2 := ⟨b.1, a.2.trans b.2⟩
theorem Fr.of (o : Own ps H) (e : Ex H H') : Fr ps H H' := ⟨o.ex e, Rm_mono e⟩
theorem Fr.ex {H2 : Hp} (a : Fr ps H H') (e : Ex H' H2) : Fr ps H H2 := a.trans (Fr.of a.1 e)
theorem Fr.upd {p : Addr} {ob : HO} (a : Fr ps H H') (h : p ∈ ps) (hn : ∀ xs, ob ≠ .tup xs := by intro _ z; cases z) : Fr ps H (upd H' p ob) := ⟨a.1.upd hn, by rw [Rm_upd h]; exact a.2⟩
theorem Fr.r (f : Fr ps H H') (r : R.p a v (Rm ps H)) : R.p a v (Rm ps H') := R.m f.2 r
/-- for .. in xs: W i is a word of the slots and the heap after i turns; what is not own stands -/
theorem s_forW {wi : TI} {xs : List α} (o : Own ps H) (h : Wk R ps wi σ H xs) (W : Nat → L2.St → Hp → Prop) (h0 : ∀ H1, Ex H H1 → W 0 σ H1) (hW : ∀ i σ' H' H'', Ex H' H'' → W i σ' H' → W i σ' H'')
    (hs : ∀ H1, Ex H H1 → ∀ i x u σ' H', xs[i]? = some x → Fr ps H1 H' → Fr ps H H' → W i σ' H' → R.p x u (Rm ps H') → g u σ' H' fun σ2 H2 => tu { D with nx := fun σ3 H3 => Fr ps H1 H3 ∧ W (i + 1) σ3 H3, ct := fun σ3 H3 => Fr ps H1 H3 ∧ W (i + 1) σ3 H3, bk := D.nx } σ2 H2)
    (hd : ∀ σ' H', Fr ps H H' → W xs.length σ' H' → D.nx σ' H') : tFor wi g tu D σ H :=
  h H (Ex.refl _) o _ fun J n G Y H1 e1 hn wk hG hY => by
    have f1 := Fr.of o e1
    refine for_it wk (fun i σ' H' => Fr ps H1 H' ∧ W i σ' H') ⟨Fr.refl f1.1, h0 H1 e1⟩ (fun i σ' H' _ p => hG H' (p.1.2.trans Rm_ex)) (fun i u σ' H2 H3 hi p y => ?_) (fun σ' H' p => hd σ' H' (f1.trans p.1) (hn ▸ p.2))
    obtain ⟨e3, x, hx, rx⟩ := hY i H2 u H3 ps hi p.1.1 p.1.2 y
    have f3 := p.1.ex e3
    exact hs H1 e1 i x u σ' H3 hx f3 (f1.trans f3) (hW i σ' H2 H3 e3 p.2) rx
theorem q_forW {wi : TI} {xs : List α} (o : Own ps H) (h : Wk R ps wi σ H xs) (W : Nat → L2.St → Hp → Prop) (h0 : ∀ H1, Ex H H1 → W 0 σ H1) (hW : ∀ i σ' H' H'', Ex H' H'' → W i σ' H' → W i σ' H'')
    (hs : ∀ H1, Ex H H1 → ∀ i x u σ' H', xs[i]? = some x → Fr ps H1 H' → Fr ps H H' → W i σ' H' → R.p x u (Rm ps H') → g u σ' H' fun σ2 H2 => tu { D with nx := fun σ3 H3 => Fr ps H1 H3 ∧ W (i + 1) σ3 H3, ct := fun σ3 H3 => Fr ps H1 H3 ∧ W (i + 1) σ3 H3, bk := tz D } σ2 H2)
    (hd : ∀ σ' H', Fr ps H H' → W xs.length σ' H' → tz D σ' H') : tSeq (tFor wi g tu) tz D σ H := s_forW (D := { D with nx := tz D }) o h W h0 hW hs hd
/-- an own list: what stands in it -/
def Ls (R : Rp α) (ps : List Addr) (H : Hp) (p : Addr) (as : List α) : Prop := p ∈ ps ∧ ∃ vs, H p = some (.lst vs) ∧ All2 (fun x y => R.p x y (Rm ps H)) as vs
theorem Ls.ex {p : Addr} {as : List α} (h : Ls R ps H p as) (e : Ex H H') : Ls R ps H' p as := let ⟨m, vs, h1, h2⟩ := h; ⟨m, vs, e _ _ h1, h2.imp fun _ _ r => R.m (Rm_mono e) r⟩
/-- another own thing is stored into -/
theorem Ls.upd {p q : Addr} {as : List α} {ob : HO} (h : Ls R ps H p as) (n : q ≠ p) (m : q ∈ ps) : Ls R ps (L2.upd H q ob) p as := let ⟨m1, vs, h1, h2⟩ := h; ⟨m1, vs, by rw [upd_ne n.symm]; exact h1, by rw [Rm_upd m]; exact h2⟩
/-- given back -/
theorem Ls.rep {p : Addr} {as : List α} (h : Ls R (p :: ps) H p as) (n : p ∉ ps) : (rL R).p as (.ref p) (Rm ps H) := let ⟨_, vs, h1, h2⟩ := h; ⟨p, vs, rfl, Rm_get h1 n, h2.imp fun _ _ r => R.m Rm_pop r⟩
/-- x = [] -/
theorem q_new {i : Nat} (o : Own ps H) (k : ∀ p H1, Ex H H1 → p ∉ ps → H p = none → Own (p :: ps) H1 → Ex (Rm ps H) (Rm (p :: ps) H1) → Ls R (p :: ps) H1 p [] → tz D (σ.set i (some (.ref p))) H1) : tSeq (tAsg (tLst tNil) (gName i)) tz D σ H :=
  ⟨sz_of (Nat.zero_le _), fun p hp => k p _ (Ex.new hp) (o.nin hp) hp ((o.ex (Ex.new hp)).push upd_same) (fun b ob h => by
    have n : b ≠ p := fun z => by rw [z, Rm_none hp] at h; cases h
    exact Rm_get (by rw [upd_ne n]; exact Rm_ex _ _ h) (fun m => (List.mem_cons.mp m).elim n fun m => by rw [Rm_own m] at h; cases h)) ⟨List.mem_cons_self .., [], upd_same, trivial⟩⟩
end
end RP
set_option Elab.async false
set_option linter.all false
set_option maxRecDepth 100000
set_option maxHeartbeats 4000000
/-! stores to own lists, equality by data, texts shown, numbers -/
namespace RP
open PySem PySem.Spec PyProof.Rows L2 Evl Gen
section
variable {α β γ : Type} {R : Rp α} {S : Rp β} {T : Rp γ} {K : PySem.W.Frag} {ps : List Addr} {σ : L2.St} {H H' : Hp} {ta tb tc te tl : TE} {tr : TA} {tt : TT} {v w : V} {a : α} {b : β} {c : γ} {D : Ends} {tu tz : TS} {p : Addr}
/-- all but what stands at p stands -/
def Oth (p : Addr) (H H' : Hp) : Prop := ∀ q u, q ≠ p → H q = some u → H' q = some u
theorem Oth.ex (e : Ex H H') : Oth p H H' := fun q u _ h => e q u h
theorem Oth.upd {ob : HO} (e : Ex H H') : Oth p H (L2.upd H' p ob) := fun q u n h => by rw [upd_ne n]; exact e q u h
theorem Ls.oth {q : Addr} {as : List α} (h : Ls R ps H q as) (n : q ≠ p) (o : Oth p H H') (f : Fr ps H H') : Ls R ps H' q as := let ⟨m, vs, h1, h2⟩ := h; ⟨m, vs, o _ _ n h1, h2.imp fun _ _ r => R.m f.2 r⟩
theorem s_appR {as : List α} (o : Own ps H) (l : Ls R ps H p as) (ha : Ev ta σ H (.ref p)) (h : EvR R ps te σ H a) (hz : as.length < 100000)
    (k : ∀ H1, Fr ps H H1 → Ls R ps H1 p (as ++ [a]) → Oth p H H1 → D.nx σ H1) : tDrop (tBM K "list" rAppend ta (tCons te tNil)) D σ H := ha H (Ex.refl H) _ fun H1 e1 => by
  obtain ⟨m, vs, h1, h2⟩ := l
  refine ⟨Or.inl ⟨rfl, vs, sq_of (e1 p _ h1)⟩, h H1 e1 (o.ex e1) _ fun v H2 e2 r => ⟨p, vs, v, rfl, rfl, e2 p _ (e1 p _ h1), sz_lt (by rw [← h2.len]; exact hz), ?_⟩⟩
  have e := e1.trans e2
  refine k _ ((Fr.of o e).upd m) ⟨m, vs ++ [v], upd_same, ?_⟩ (Oth.upd e)
  rw [Rm_upd m]
  exact (h2.imp fun _ _ q => R.m (Rm_mono e) q).app (.one r)
theorem q_appR {as : List α} (o : Own ps H) (l : Ls R ps H p as) (ha : Ev ta σ H (.ref p)) (h : EvR R ps te σ H a) (hz : as.length < 100000)
    (k : ∀ H1, Fr ps H H1 → Ls R ps H1 p (as ++ [a]) → Oth p H H1 → tz D σ H1) : tSeq (tDrop (tBM K "list" rAppend ta (tCons te tNil))) tz D σ H := s_appR (D := { D with nx := tz D }) o l ha h hz k
theorem s_extR {as bs : List α} (o : Own ps H) (l : Ls R ps H p as) (ha : Ev ta σ H (.ref p)) (h : EvR (rL R) ps te σ H bs) (hz : as.length + bs.length ≤ 100000)
    (k : ∀ H1, Fr ps H H1 → Ls R ps H1 p (as ++ bs) → Oth p H H1 → D.nx σ H1) : tDrop (tBM K "list" rExtend ta (tCons te tNil)) D σ H := ha H (Ex.refl H) _ fun H1 e1 => by
  obtain ⟨m, vs, h1, h2⟩ := l
  refine ⟨Or.inl ⟨rfl, vs, sq_of (e1 p _ h1)⟩, h H1 e1 (o.ex e1) _ fun v H2 e2 r => ?_⟩
  obtain ⟨b, us, rfl, hb, hu⟩ := r
  refine ⟨p, b, vs, us, rfl, rfl, e2 p _ (e1 p _ h1), Rm_ex _ _ hb, sz_of (by rw [← h2.len, ← hu.len]; exact hz), ?_⟩
  have e := e1.trans e2
  refine k _ ((Fr.of o e).upd m) ⟨m, vs ++ us, upd_same, ?_⟩ (Oth.upd e)
  rw [Rm_upd m]
  exact (h2.imp fun _ _ q => R.m (Rm_mono e) q).app hu
theorem q_extR {as bs : List α} (o : Own ps H) (l : Ls R ps H p as) (ha : Ev ta σ H (.ref p)) (h : EvR (rL R) ps te σ H bs) (hz : as.length + bs.length ≤ 100000)
    (k : ∀ H1, Fr ps H H1 → Ls R ps H1 p (as ++ bs) → Oth p H H1 → tz D σ H1) : tSeq (tDrop (tBM K "list" rExtend ta (tCons te tNil))) tz D σ H := s_extR (D := { D with nx := tz D }) o l ha h hz k
/-- an own list read as a list -/
theorem Ls.sq {as : List α} (h : Ls R ps H p as) : ∃ vs, SqL K H p vs ∧ vs.length = as.length := let ⟨_, vs, h1, h2⟩ := h; ⟨vs, sq_of h1, h2.len.symm⟩
/-! ### lists by values -/
theorem er_len {as : List α} (h : EvR (rQ K R) ps te σ H as) {r : List V → Hp → VK → Prop} (hr : ∀ a vs H1 (Q : VK), Sq K H1 a vs → Q (.int (vs.length : Int)) H1 → r [.ref a] H1 Q) : EvR rI ps (tCB r (tCons te tNil)) σ H (as.length : Int) :=
  er_cb1 h fun v H1 e o rv Q q => by
    obtain ⟨a, vs, rfl, h1, h2⟩ := rv
    exact hr a vs H1 Q (ex_s Rm_ex h1) (q _ H1 (Ex.refl _) (congrArg V.int (congrArg Int.ofNat h2.len.symm)))
theorem er_list {as : List α} (h : EvR (rQ K R) ps te σ H as) : EvR (rL R) ps (tCB (rListS K) (tCons te tNil)) σ H as := er_cb1 h fun v H1 e o rv Q q => by
  obtain ⟨a, vs, rfl, h1, h2⟩ := rv
  exact ⟨a, vs, rfl, ex_s Rm_ex h1, fun l hl => q _ _ (Ex.new hl) ⟨l, vs, rfl, Rm_get upd_same (o.nin hl), h2.imp fun _ _ r => R.m (Rm_mono (Ex.new hl)) r⟩⟩
theorem er_cat {as bs : List α} (h1 : EvR (rL R) ps ta σ H as) (h2 : EvR (rL R) ps tb σ H bs) (hz : as.length + bs.length ≤ 100000) : EvR (rL R) ps (tOp rCat ta tb) σ H (as ++ bs) := er_op h1 h2 fun v w H1 e o rv rw' Q q => by
  obtain ⟨a, vs, rfl, ha, hu⟩ := rv
  obtain ⟨b, ws, rfl, hb, hw⟩ := rw'
  exact ⟨a, b, vs, ws, rfl, rfl, Rm_ex _ _ ha, Rm_ex _ _ hb, sz_of (by rw [← hu.len, ← hw.len]; exact hz), fun l hl => q _ _ (Ex.new hl) ⟨l, vs ++ ws, rfl, Rm_get upd_same (o.nin hl), (hu.app hw).imp fun _ _ r => R.m (Rm_mono (Ex.new hl)) r⟩⟩
theorem er_ix {as : List α} {i : Nat} (h : EvR (rL R) ps ta σ H as) (h2 : EvR rI ps tb σ H (i : Int)) (ha : as[i]? = some a) : EvR R ps (tOp (rIxL K) ta tb) σ H a := er_op h h2 fun v w H1 e o rv rw' Q q => by
  obtain ⟨b, vs, rfl, h1, hu⟩ := rv
  obtain rfl : w = .int (i : Int) := rw'
  obtain ⟨u, hu1, hu2⟩ := hu.get ha
  have hl := (List.getElem?_eq_some_iff.mp hu1).1
  refine ⟨b, vs, (i : Int), u, rfl, rfl, sq_of (Rm_ex _ _ h1), ?_, q u H1 (Ex.refl _) hu2⟩
  unfold atI
  rw [ixN_nat hl]
  exact hu1
theorem er_fst {x : α × β} (h : EvR (rP R S) ps ta σ H x) (h2 : EvR rI ps tb σ H 0) : EvR R ps (tOp (rIxT K) ta tb) σ H x.1 := er_op h h2 fun v w H1 e o rv rw' Q q => by
  obtain ⟨b, y, z, rfl, h1, hy, hz⟩ := rv
  obtain rfl : w = .int 0 := rw'
  exact ⟨b, [y, z], 0, y, rfl, rfl, st_of (Rm_ex _ _ h1), rfl, q y H1 (Ex.refl _) hy⟩
theorem er_snd {x : α × β} (h : EvR (rP R S) ps ta σ H x) (h2 : EvR rI ps tb σ H 1) : EvR S ps (tOp (rIxT K) ta tb) σ H x.2 := er_op h h2 fun v w H1 e o rv rw' Q q => by
  obtain ⟨b, y, z, rfl, h1, hy, hz⟩ := rv
  obtain rfl : w = .int 1 := rw'
  exact ⟨b, [y, z], 1, z, rfl, rfl, st_of (Rm_ex _ _ h1), rfl, q z H1 (Ex.refl _) hz⟩
/-- xs[lo:hi], cut -/
theorem er_sl {lo hi : Option Int} {tlo thi : TO} {as : List α} (h : EvR (rL R) ps ta σ H as) (h1 : EvO tlo σ H lo) (h2 : EvO thi σ H hi) : EvR (rL R) ps (tSl (rSlL K) ta tlo thi) σ H ((as.drop (HT.sIx as.length 0 lo)).take (HT.sIx as.length as.length hi - HT.sIx as.length 0 lo)) := fun H0 e o Q q =>
  h H0 e o _ fun v H2 e2 r => by
    obtain ⟨b, vs, rfl, hb, hu⟩ := r
    refine h1 H2 (e.trans e2) _ fun H3 e3 => h2 H3 ((e.trans e2).trans e3) _ fun H4 e4 => ⟨b, vs, rfl, sq_of ((e3.trans e4) _ _ (Rm_ex _ _ hb)), fun l hl => ?_⟩
    have e34 := (e3.trans e4).trans (Ex.new (o := .lst (cutV vs lo hi)) hl)
    refine q _ _ (e2.trans e34) ⟨l, _, rfl, Rm_get upd_same (((o.ex e2).ex (e3.trans e4)).nin hl), ?_⟩
    unfold cutV
    rw [hu.len]
    exact ((hu.imp fun _ _ r => R.m (Rm_mono e34) r).drop).take
theorem er_rev {as : List α} (h : EvR (rL R) ps ta σ H as) : EvR (rL R) ps (tRevL K ta) σ H as.reverse := fun H0 e o Q q => h H0 e o _ fun v H2 e2 r => by
  obtain ⟨b, vs, rfl, hb, hu⟩ := r
  refine ⟨b, vs, rfl, sq_of (Rm_ex _ _ hb), fun l hl => q _ _ (e2.trans (Ex.new hl)) ⟨l, _, rfl, Rm_get upd_same ((o.ex e2).nin hl), (hu.imp fun _ _ r => R.m (Rm_mono (Ex.new hl)) r).rev⟩⟩
theorem er_sum {ns : List Int} (h : EvR (rL rI) ps te σ H ns) : EvR rI ps (tCB (rSum K) (tCons te tNil)) σ H ns.sum := er_cb1 h fun v H1 e o rv Q q => by
  obtain ⟨b, vs, rfl, hb, hu⟩ := rv
  have e1 : vs = ns.map V.int := (hu.imp fun _ _ z => z).eq
  subst e1
  exact ⟨b, ns, rfl, sq_of (Rm_ex _ _ hb), q _ H1 (Ex.refl _) rfl⟩
theorem rLI_nat {ns : List Nat} {v : V} {H : Hp} (h : (rL rN).p ns v H) : (rL rI).p (ns.map fun n : Nat => (n : Int)) v H := by
  obtain ⟨a, vs, h1, h2, h3⟩ := h
  refine ⟨a, vs, h1, h2, ?_⟩
  have e1 : vs = ns.map (fun n : Nat => V.int (n : Int)) := (h3.imp fun _ _ z => z).eq
  subst e1
  clear h2 h3
  induction ns with
  | nil => trivial
  | cons n r ih => exact ⟨rfl, ih⟩
theorem er_all {bs : List Bool} (h : EvR (rL rB) ps te σ H bs) : EvR rB ps (tCB (rAll K) (tCons te tNil)) σ H (bs.all id) := er_cb1 h fun v H1 e o rv Q q => by
  obtain ⟨b, vs, rfl, hb, hu⟩ := rv
  have e1 : vs = bs.map V.bl := (hu.imp fun _ _ z => z).eq
  subst e1
  exact ⟨b, bs, rfl, sq_of (Rm_ex _ _ hb), q _ H1 (Ex.refl _) rfl⟩
/-! ### equality by data -/
structure Dt (K : PySem.W.Frag) (R : Rp α) (d : α → PyData) (ok : α → Prop) (n : Nat) : Prop where
  of : ∀ {a v H}, R.p a v H → Dp K H v (d a)
  lay : ∀ {a}, ok a → (d a).canLay0 = true
  dep : ∀ a, (d a).depth ≤ n
  inj : ∀ {a b}, ok a → ok b → (PyData.eqv (d a) (d b) = true ↔ a = b)
def okS (x : Str) : Prop := PyData.strOk x = true
theorem dtS : Dt K rS PyData.str okS 0 := ⟨fun h => by cases h; exact .str _, fun h => h, fun _ => Nat.le_refl _, fun _ _ => by simp [PyData.eqv]⟩
theorem dtL {d : α → PyData} {ok : α → Prop} {n : Nat} (D : Dt K R d ok n) : Dt K (rL R) (fun as => .list (as.map d)) (fun as => ∀ a ∈ as, ok a) (n + 1) := by
  refine ⟨fun {as v H} h => ?_, fun {as} h => ?_, fun as => ?_, fun {as bs} h1 h2 => ?_⟩
  · obtain ⟨a, vs, rfl, h1, h2⟩ := h
    refine .lst (sq_of h1) ?_
    clear h1
    induction as generalizing vs with
    | nil => cases vs with
      | nil => exact .nil
      | cons _ _ => exact h2.elim
    | cons x r ih => cases vs with
      | nil => exact h2.elim
      | cons y s => exact .cons (D.of h2.1) (ih s h2.2)
  · show PyData.canLayAll0 (as.map d) = true
    induction as with
    | nil => rfl
    | cons x r ih =>
      show (PyData.canLay0 (d x) && PyData.canLayAll0 (r.map d)) = true
      rw [D.lay (h x (List.mem_cons_self ..)), ih fun a ha => h a (List.mem_cons_of_mem _ ha)]
      rfl
  · show PyData.depthAll (as.map d) + 1 ≤ n + 1
    have : PyData.depthAll (as.map d) ≤ n := by
      induction as with
      | nil => exact Nat.zero_le _
      | cons x r ih => exact Nat.max_le.mpr ⟨D.dep x, ih⟩
    omega
  · show PyData.eqvAll (as.map d) (bs.map d) = true ↔ as = bs
    induction as generalizing bs with
    | nil => cases bs with
      | nil => exact ⟨fun _ => rfl, fun _ => rfl⟩
      | cons y s => exact ⟨(fun z => nomatch z), (fun z => nomatch z)⟩
    | cons x r ih => cases bs with
      | nil => exact ⟨(fun z => nomatch z), (fun z => nomatch z)⟩
      | cons y s =>
        show (PyData.eqv (d x) (d y) && PyData.eqvAll (r.map d) (s.map d)) = true ↔ _
        rw [Bool.and_eq_true, D.inj (h1 x (List.mem_cons_self ..)) (h2 y (List.mem_cons_self ..)), ih (fun a ha => h1 a (List.mem_cons_of_mem _ ha)) (fun a ha => h2 a (List.mem_cons_of_mem _ ha)), List.cons.injEq]
theorem dtP {d : α → PyData} {ok : α → Prop} {n : Nat} {d' : β → PyData} {ok' : β → Prop} {m : Nat} (D : Dt K R d ok n) (E : Dt K S d' ok' m) : Dt K (rP R S) (fun x => .tuple [d x.1, d' x.2]) (fun x => ok x.1 ∧ ok' x.2) (max n m + 1) := by
  refine ⟨fun {x v H} h => ?_, fun {x} h => ?_, fun x => ?_, fun {x y} h1 h2 => ?_⟩
  · obtain ⟨a, y, z, rfl, h1, h2, h3⟩ := h
    exact .tup (st_of h1) (.cons (D.of h2) (.cons (E.of h3) .nil))
  · show (PyData.canLay0 (d x.1) && (PyData.canLay0 (d' x.2) && true)) = true
    rw [D.lay h.1, E.lay h.2]
    rfl
  · show max (PyData.depth (d x.1)) (max (PyData.depth (d' x.2)) 0) + 1 ≤ _
    have h1 := D.dep x.1
    have h2 := E.dep x.2
    omega
  · show (PyData.eqv (d x.1) (d y.1) && (PyData.eqv (d' x.2) (d' y.2) && true)) = true ↔ _
    rw [Bool.and_true, Bool.and_eq_true, D.inj h1.1 h2.1, E.inj h1.2 h2.2]
    exact ⟨fun h => Prod.ext h.1 h.2, fun h => by rw [h]; exact ⟨rfl, rfl⟩⟩
theorem dt_shaped {d : α → PyData} {ok : α → Prop} {n : Nat} (D : Dt K R d ok n) (hn : n ≤ 60) (h : ok a) : SeqAt.shaped (d a) = true := by
  unfold SeqAt.shaped
  rw [D.lay h, Bool.true_and]
  exact decide_eq_true (Nat.le_trans (D.dep a) (by omega))
theorem eqv_dec [DecidableEq α] {d : α → PyData} {ok : α → Prop} {n : Nat} {x y : α} (D : Dt K R d ok n) (h1 : ok x) (h2 : ok y) : PyData.eqv (d x) (d y) = decide (x = y) := by
  have h := D.inj h1 h2
  by_cases e : x = y
  · rw [decide_eq_true e]
    exact h.mpr e
  · rw [decide_eq_false e]
    cases hh : PyData.eqv (d x) (d y) with
    | false => rfl
    | true => exact absurd (h.mp hh) e
theorem er_eqD [DecidableEq α] {d : α → PyData} {ok : α → Prop} {n : Nat} {x y : α} (D : Dt K R d ok n) (hn : n ≤ 60) (h1 : EvR R ps ta σ H x) (h2 : EvR R ps tb σ H y) (o1 : ok x) (o2 : ok y) : EvR rB ps (tOp (rEqD K) ta tb) σ H (decide (x = y)) := er_op h1 h2 fun v w H1 e o rv rw' Q q =>
  ⟨d x, d y, dp_ex Rm_ex (D.of rv), dp_ex Rm_ex (D.of rw'), dt_shaped D hn o1, dt_shaped D hn o2, by rw [eqv_dec D o1 o2]; exact q _ H1 (Ex.refl _) rfl⟩
theorem er_neD [DecidableEq α] {d : α → PyData} {ok : α → Prop} {n : Nat} {x y : α} (D : Dt K R d ok n) (hn : n ≤ 60) (h1 : EvR R ps ta σ H x) (h2 : EvR R ps tb σ H y) (o1 : ok x) (o2 : ok y) : EvR rB ps (tOp (rNeD K) ta tb) σ H (!decide (x = y)) := er_op h1 h2 fun v w H1 e o rv rw' Q q =>
  ⟨d x, d y, dp_ex Rm_ex (D.of rv), dp_ex Rm_ex (D.of rw'), dt_shaped D hn o1, dt_shaped D hn o2, by rw [eqv_dec D o1 o2]; exact q _ H1 (Ex.refl _) rfl⟩
/-! ### flat values: numbers, texts -/
theorem er_op0 {r : R2} {x y z : V} (o : Own ps H) (ha : Ev ta σ H x) (hb : Ev tb σ H y) (hr : RV r x y H z) (k : R.p a z (Rm ps H)) : EvR R ps (tOp r ta tb) σ H a := er_of (ev_op ha hb hr) k
theorem isN_strOk {x : Str} (h : isN (.str x) = true) : okS x := by
  unfold isN at h
  simp only [Bool.and_eq_true] at h
  unfold okS PyData.strOk
  rw [Array.all_eq_true']
  intro c hc
  have h2 := h.2
  rw [List.all_eq_true] at h2
  have h3 := h2 _ (List.mem_map.mpr ⟨c, by simpa using hc, rfl⟩)
  have h4 : c ∈ sgn.cps.toList := of_decide_eq_true h3
  have h5 : ∀ d ∈ sgn.cps.toList, d < 0x110000 := by decide +kernel
  exact decide_eq_true (h5 c h4)
end
end RP
set_option Elab.async false
set_option linter.all false
set_option maxRecDepth 100000
set_option maxHeartbeats 4000000
/-! sorted, flat lists, max, own objects told -/
namespace RP
open PySem PySem.Spec PyProof.Rows L2 Evl Gen
section
variable {α β γ : Type} {R : Rp α} {S : Rp β} {T : Rp γ} {K : PySem.W.Frag} {ps : List Addr} {σ : L2.St} {H H' : Hp} {ta tb tc te tl : TE} {tr : TA} {tt : TT} {v w : V} {a : α} {b : β} {c : γ} {D : Ends} {tu tz : TS} {p : Addr}
theorem All2.maps {Q : α → V → Prop} {g : V → α} : ∀ {vs : List V}, (∀ v ∈ vs, Q (g v) v) → All2 Q (vs.map g) vs
  | [], _ => trivial
  | v :: vs, h => ⟨h v (List.mem_cons_self ..), All2.maps fun u hu => h u (List.mem_cons_of_mem _ hu)⟩
theorem strs_eq {xs : List Str} {vs : List V} {H : Hp} (h : All2 (fun x y => rS.p x y H) xs vs) : vs = xs.map V.str := (h.imp fun _ _ z => z).eq
theorem strs_all (H : Hp) : ∀ xs : List Str, All2 (fun x y => rS.p x y H) xs (xs.map V.str)
  | [] => trivial
  | _ :: r => ⟨rfl, strs_all H r⟩
theorem rLS_of {xs : List Str} {p : Addr} {H : Hp} (h : H p = some (.lst (xs.map V.str))) : (rL rS).p xs (.ref p) H := ⟨p, _, rfl, h, strs_all H xs⟩
theorem rLS_at {xs : List Str} {v : V} {H : Hp} (h : (rL rS).p xs v H) : ∃ p, v = .ref p ∧ H p = some (.lst (xs.map V.str)) := let ⟨a, vs, h1, h2, h3⟩ := h; ⟨a, h1, by rw [← strs_eq h3]; exact h2⟩
theorem er_sortedS {xs : List Str} (h : EvR (rL rS) ps te σ H xs) (hz : xs.length < 64) : EvR (rL rS) ps (tCB (rSortedS K) (tCons te tNil)) σ H (srtS xs) := er_cb1 h fun v H1 e o rv Q q => by
  obtain ⟨p, rfl, hp⟩ := rLS_at rv
  exact (el_sortedS (te := tC (.ref p)) (σ := σ) (H := H1) ev_c (sq_of (Rm_ex _ _ hp)) hz) H1 (Ex.refl _) Q fun l H2 hl e2 h2 => q _ H2 e2 (rLS_of (Rm_get h2 (o.nin hl)))
theorem pairOf_rE {G H1 : Hp} {e : Str × Str} {x : V} (g : Ex G H1) (hr : rE.p e x G) : pairOf H1 x = e := by
  obtain ⟨t, y, z, rfl, ht, hy, hz⟩ := hr
  obtain rfl : y = .str e.1 := hy
  obtain rfl : z = .str e.2 := hz
  rw [pairOf_ref (g _ _ ht)]
theorem pairs_map {G H1 : Hp} (g : Ex G H1) : ∀ {es : List (Str × Str)} {rows : List V}, All2 (fun x y => rE.p x y G) es rows → rows.map (pairOf H1) = es
  | [], [], _ => rfl
  | e :: s, x :: r, h => by rw [List.map_cons, pairOf_rE g h.1, pairs_map g h.2]
  | [], _ :: _, h => h.elim
  | _ :: _, [], h => h.elim
theorem er_sortedT {es : List (Str × Str)} (h : EvR (rL rE) ps te σ H es) : EvR (rL rE) ps (tCB (rSortedT2 K) (tCons te tNil)) σ H (srtT es) := er_cb1 h fun v H1 e o rv Q q => by
  obtain ⟨p, rows, rfl, hp, hu⟩ := rv
  have item : ∀ x ∈ rows, ∃ e ∈ es, rE.p e x (Rm ps H1) := fun x hx => by
    obtain ⟨i, hi⟩ := List.mem_iff_getElem?.mp hx
    obtain ⟨e, he, hr⟩ := hu.getv hi
    exact ⟨e, List.mem_of_getElem? he, hr⟩
  have pr : ∀ {e : Str × Str} {x : V}, rE.p e x (Rm ps H1) → pairOf H1 x = e := fun {e x} hr => pairOf_rE Rm_ex hr
  have hm : rows.map (pairOf H1) = es := pairs_map Rm_ex hu
  refine ⟨p, rows, pairOf H1, rfl, sq_of (Rm_ex _ _ hp), fun x hx => ?_, fun ys l hs hy hn => ?_⟩
  · obtain ⟨e, he, hr⟩ := item x hx
    have hpe := pr hr
    obtain ⟨t, y, z, rfl, ht, hy, hz⟩ := hr
    obtain rfl : y = .str e.1 := hy
    obtain rfl : z = .str e.2 := hz
    exact ⟨t, rfl, by rw [hpe]; exact Rm_ex _ _ ht⟩
  · have hys : ys.map (pairOf H1) = srtT es := by
      refine srtT_of ?_ ?_
      · rw [← hm]
        exact hy.map _
      · refine List.pairwise_map.mpr (List.Pairwise.imp (fun {x y} h => ?_) hs)
        have h' : XS.ltT (pairOf H1 y) (pairOf H1 x) = false := h
        rw [h']
        rfl
    refine q _ _ (Ex.new hn) ⟨l, ys, rfl, Rm_get upd_same (o.nin hn), ?_⟩
    rw [← hys]
    refine All2.maps fun x hx => ?_
    obtain ⟨e, he, hr⟩ := item x (hy.mem_iff.mp hx)
    rw [pr hr]
    exact rE.m (Rm_mono (Ex.new hn)) hr
theorem lvL_of {ls : List (List Str)} {v : V} {H : Hp} (h : (rL (rL rS)).p ls v H) : ∃ p, v = .ref p ∧ LvL K H p ls := by
  obtain ⟨p, rows, rfl, hp, hu⟩ := h
  refine ⟨p, rfl, rows, sq_of hp, hu.len.symm, fun i ws hi => ?_⟩
  obtain ⟨u, h1, h2⟩ := hu.get hi
  obtain ⟨q, rfl, h3⟩ := rLS_at h2
  exact ⟨q, h1, sq_of h3⟩
theorem er_flat {i j : Nat} {vs vs1 : List Nat} {ls : List (List Str)} (h : EvR (rL (rL rS)) ps tl σ H ls) (hz : many ls ≤ 1000) (hij : j ≠ i) (hw : ∀ x, wipe ((wipe σ vs).set i (some x)) vs = wipe σ vs)
    (hi : ∀ x, ((wipe σ vs).set i (some x))[i]? = some (some x)) (hw1 : ∀ x y, wipe ((wipe ((wipe σ vs).set i (some x)) vs1).set j (some y)) vs1 = wipe ((wipe σ vs).set i (some x)) vs1)
    (hj : ∀ x y, ((wipe ((wipe σ vs).set i (some x)) vs1).set j (some y))[j]? = some (some y)) :
    EvR (rL rS) ps (tLc2 (iList K tl) (gName i) tYes (iList K (tVar i)) (gName j) tYes (tVar j) vs vs1) σ H ls.flatten := fun H0 e o Q q => h H0 e o _ fun v H1 e1 rv => by
  obtain ⟨p, rfl, hp⟩ := lvL_of (K := K) rv
  have hp' : LvL K H1 p ls := hp.ex Rm_ex
  exact (el_flat (tl := tC (.ref p)) (σ := σ) (H := H1) ev_c hp' hz hij hw hi hw1 hj) H1 (Ex.refl _) Q fun l H2 hl e2 h2 => q _ H2 (e1.trans e2) (rLS_of (Rm_get h2 ((o.ex e1).nin hl)))
theorem er_max {ns : List Int} (h : EvR (rL rI) ps te σ H ns) (hn : 0 < ns.length) : EvR rI ps (tCB (rMax K) (tCons te tNil)) σ H (mx ns) := er_cb1 h fun v H1 e o rv Q q => by
  obtain ⟨p, vs, rfl, hp, hu⟩ := rv
  have e1 : vs = ns.map V.int := (hu.imp fun _ _ z => z).eq
  subst e1
  exact ⟨p, ns, rfl, sq_of (Rm_ex _ _ hp), hn, fun m h1 h2 => by rw [mx_of h1 h2]; exact q _ H1 (Ex.refl _) rfl⟩
end
end RP
set_option Elab.async false
set_option linter.all false
set_option maxRecDepth 100000
set_option maxHeartbeats 4000000
namespace K21
open PySem PySem.Spec PyProof.Rows L2 Evl Gen RP
section
variable {P : Program} {w : World} {K : PySem.W.Frag} {mg : Str → Option Value} {base : Heap} {fd : Nat → FuncData}
theorem ev_fld {H : Hp} {σ : L2.St} {i : Nat} {x dx C : Addr} {f : Str} {fs : List (Str × V)} {v : V} (hs : σ[i]? = some (some (.ref x))) (h : H x = some (.ins C dx fs)) (c : Cls K C) (n : NoAttr K C f) (l : fs.lookup f = some v) : Ev (tFld K (tVar i) f) σ H v :=
  fun H1 e Q q => ⟨.ref x, hs, x, C, dx, fs, v, rfl, e _ _ h, c, n, l, q H1 (Ex.refl _)⟩
def shF (p1 p2 p3 p4 p5 p6 : Addr) : List (Str × V) := [("_levels", .ref p1), ("_lines", .ref p2), ("_nodes", .ref p3), ("_places", .ref p4), ("_ups", .ref p5), ("_downs", .ref p6)]
def swp (e : Str × Str) : Str × Str := (e.2, e.1)
/-- a sheet of these levels and lines -/
def ShAt (C : Addr) (s : List (List Str) × List (Str × Str)) (x : Addr) (H : Hp) : Prop :=
  ∃ dx p1 p2 p3 p4 p5 p6 kvs, H x = some (.ins C dx (shF p1 p2 p3 p4 p5 p6)) ∧ (rL (rL rS)).p s.1 (.ref p1) H ∧ (rL rE).p s.2 (.ref p2) H ∧ (rL rS).p s.1.flatten (.ref p3) H ∧ H p4 = some (.dK kvs) ∧ PlOk kvs s.1 ∧ EndsAt H p5 s.1.flatten s.2 ∧ EndsAt H p6 s.1.flatten (s.2.map swp)
def rSh (C : Addr) : Rp (List (List Str) × List (Str × Str)) := ⟨fun s v H => ∃ x, v = .ref x ∧ ShAt C s x H, fun e ⟨x, h, dx, p1, p2, p3, p4, p5, p6, kvs, h1, h2, h3, h4, h5, h6, h7, h8⟩ =>
  ⟨x, h, dx, p1, p2, p3, p4, p5, p6, kvs, e _ _ h1, (rL (rL rS)).m e h2, (rL rE).m e h3, (rL rS).m e h4, e _ _ h5, h6, h7.ex e, h8.ex e⟩⟩
theorem levels_sp {H : Hp} {a : Addr} {ls : List (List Str)} (h : LvAt K H a ls) (ok : LvOk ls) : SpV (spLevels K) [.ref a] H .non := fun H1 e Q q E => ⟨a, ls, rfl, h.ex e, ok, q⟩
theorem lines_sp {H : Hp} {a d : Addr} {es : List (Str × Str)} {kvs : List (Key × V)} (h : LnAt K H a es) (hd : H d = some (.dK kvs)) (hk : Ints kvs) (hf : ∀ e ∈ es, fitB kvs e.1 e.2 = true) (ho : es.Nodup) (hz : es.length ≤ 72) : SpV (spLines K) [.ref a, .ref d] H .non :=
  fun H1 e Q q E => ⟨a, d, es, kvs, rfl, h.ex e, e _ _ hd, hk, hf, ho, hz, q⟩
theorem limit_sp {H : Hp} {x : Str} {m l : Int} (h : m ≤ l) : SpV spLimit [.str x, .int m, .int l] H .non := fun H1 e Q q E => ⟨x, m, l, rfl, h, q⟩
theorem ints_of {kvs : List (Key × V)} {ls : List (List Str)} (h : PlOk kvs ls) : Ints kvs := fun z v hv => by
  by_cases m : z ∈ ls.flatten
  · obtain ⟨l, h1, h2⟩ := List.mem_flatten.mp m
    obtain ⟨i, hi⟩ := List.mem_iff_getElem?.mp h1
    rw [h.in_ i l z hi h2] at hv
    cases hv
    exact ⟨_, rfl⟩
  · rw [h.out z m] at hv
    cases hv
theorem fit_in {kvs : List (Key × V)} {ls : List (List Str)} (h : PlOk kvs ls) {x y : Str} (hf : fitB kvs x y = true) : x ∈ ls.flatten ∧ y ∈ ls.flatten := by
  unfold fitB at hf
  constructor
  · refine Classical.byContradiction fun m => ?_
    rw [h.out x m] at hf
    cases hf
  · refine Classical.byContradiction fun m => ?_
    rw [h.out y m] at hf
    split at hf
    · rename_i h2; cases h2
    · cases hf
theorem len_row {ls : List (List Str)} {ws : List Str} (h : ws ∈ ls) : ws.length ≤ many ls := by
  obtain ⟨i, hi⟩ := List.mem_iff_getElem?.mp h
  have := many_take hi
  omega
theorem lvAt_of {ls : List (List Str)} {v : V} {H : Hp} (h : (rQ K (rL rS)).p ls v H) : ∃ a, v = .ref a ∧ LvAt K H a ls := by
  obtain ⟨p, rows, rfl, hp, hu⟩ := h
  refine ⟨p, rfl, rows, hp, hu.len.symm, fun i ws hi => ?_⟩
  obtain ⟨u, h1, h2⟩ := hu.get hi
  obtain ⟨q, rfl, h3⟩ := rLS_at h2
  exact ⟨q, h1, .inl (sq_of h3)⟩
theorem lnAt_of {es : List (Str × Str)} {v : V} {H : Hp} (h : (rQ K rE).p es v H) : ∃ a, v = .ref a ∧ LnAt K H a es := by
  obtain ⟨p, rows, rfl, hp, hu⟩ := h
  refine ⟨p, rfl, rows, hp, hu.len.symm, fun i e hi => ?_⟩
  obtain ⟨u, h1, t, y, z, rfl, ht, hy, hz⟩ := hu.get hi
  obtain rfl : y = .str e.1 := hy
  obtain rfl : z = .str e.2 := hz
  exact ⟨t, h1, ht⟩
def rEn (ns : List Str) : Rp (List (Str × Str)) := ⟨fun es v H => ∃ p, v = .ref p ∧ EndsAt H p ns es, fun e ⟨p, h1, h2⟩ => ⟨p, h1, h2.ex e⟩⟩
theorem er_ends {σ : L2.St} {H : Hp} {ps : List Addr} {ta tb : TE} {ns : List Str} {es : List (Str × Str)} {E : XK} (h1 : EvR (rL rS) ps ta σ H ns) (h2 : EvR (rL rE) ps tb σ H es) (hn : ns.Nodup) (hz : ns.length ≤ 1000) (he : es.length ≤ 1000) (hi : ∀ e ∈ es, e.1 ∈ ns) :
    EvR (rEn ns) ps (tCall (spEnds K) [] E (tCons ta (tCons tb tNil))) σ H es := fun H0 e o Q q => h1 H0 e o _ fun v H1 e1 r1 => h2 H1 (e.trans e1) (o.ex e1) _ fun w H2 e2 r2 => by
  obtain ⟨a, rfl, ha⟩ := rLS_at r1
  obtain ⟨b, rfl, hb⟩ := lnAt_of (K := K) (rL_q r2)
  have o2 := o.ex (e1.trans e2)
  refine ⟨a, b, ns, es, rfl, .inl (sq_of (e2 _ _ (Rm_ex _ _ ha))), hb.ex Rm_ex, hn, hz, he, hi, fun p H3 hp e3 ⟨f, h3, h4⟩ => q _ H3 ((e1.trans e2).trans e3) ⟨p, rfl, f, Rm_get h3 (o2.nin hp), fun n hm => Rm_get (h4 n hm).2 (o2.nin (h4 n hm).1)⟩⟩
theorem len_rd {a : Addr} {vs : List V} {H : Hp} {Q : VK} (h : Sq K H a vs) (q : Q (.int (vs.length : Int)) H) : rLen K [.ref a] H Q := ⟨_, vs.length, rfl, by rcases h with h | h <;> first | exact Or.inl ⟨_, h, rfl⟩ | exact Or.inr ⟨_, h, rfl⟩, q⟩
def lenI (l : List Str) : Int := (l.length : Int)
/-- what a sheet may be made of -/
structure InOk (ls : List (List Str)) (es : List (Str × Str)) : Prop where
  lv : LvOk ls
  w18 : ∀ l ∈ ls, l.length ≤ 18
  h12 : ls.length ≤ 12
  fit : ∀ e ∈ es, fitB (plTo 0 ls []) e.1 e.2 = true
  nd : es.Nodup
  z : es.length ≤ 72
/-- self.f = e -/
theorem q_fldR {α : Type} {R : Rp α} {σ : L2.St} {H : Hp} {ps : List Addr} {x dx C : Addr} {tv : TE} {D : Ends} {tz : TS} {f : Str} {fs : List (Str × V)} {a : α} (o : Own (x :: ps) H) (hx : σ[0]? = some (some (.ref x))) (h1 : H x = some (.ins C dx fs)) (c : Cls K C) (n : NoAttr K C f) (hl : fs.length < 1000)
    (h : EvR R (x :: ps) tv σ H a) (k : ∀ v H2, Fr (x :: ps) H H2 → Ex (Rm [x] H) (Rm [x] H2) → R.p a v (Rm (x :: ps) H2) → H2 x = some (.ins C dx (putF f v fs)) → tz D σ H2) : tSeq (sFld K (tVar 0) tv f) tz D σ H :=
  h H (Ex.refl _) o _ fun v H1 e1 r => ⟨.ref x, hx, x, C, dx, fs, rfl, e1 _ _ h1, c, n, hl, k v _ ((Fr.of o e1).upd (List.mem_cons_self ..)) (by rw [Rm_upd (List.mem_cons_self ..)]; exact Rm_mono e1) (by rw [Rm_upd (List.mem_cons_self ..)]; exact r) upd_same⟩
theorem s_fldR {α : Type} {R : Rp α} {σ : L2.St} {H : Hp} {ps : List Addr} {x dx C : Addr} {tv : TE} {D : Ends} {f : Str} {fs : List (Str × V)} {a : α} (o : Own (x :: ps) H) (hx : σ[0]? = some (some (.ref x))) (h1 : H x = some (.ins C dx fs)) (c : Cls K C) (n : NoAttr K C f) (hl : fs.length < 1000)
    (h : EvR R (x :: ps) tv σ H a) (k : ∀ v H2, Fr (x :: ps) H H2 → Ex (Rm [x] H) (Rm [x] H2) → R.p a v (Rm (x :: ps) H2) → H2 x = some (.ins C dx (putF f v fs)) → D.nx σ H2) : sFld K (tVar 0) tv f D σ H :=
  h H (Ex.refl _) o _ fun v H1 e1 r => ⟨.ref x, hx, x, C, dx, fs, rfl, e1 _ _ h1, c, n, hl, k v _ ((Fr.of o e1).upd (List.mem_cons_self ..)) (by rw [Rm_upd (List.mem_cons_self ..)]; exact Rm_mono e1) (by rw [Rm_upd (List.mem_cons_self ..)]; exact r) upd_same⟩
def spInit (K : PySem.W.Frag) : Sp := fun vs H Q _ => ∃ (ps : List Addr) (x dx : Addr) (va vb : V) (ls : List (List Str)) (es : List (Str × Str)), vs = [.ref x, va, vb] ∧ H x = some (.ins (shC K) dx []) ∧ Own (x :: ps) H ∧ x ∉ ps ∧ (rQ K (rL rS)).p ls va (Rm (x :: ps) H) ∧ (rQ K rE).p es vb (Rm (x :: ps) H) ∧ InOk ls es ∧
  ∀ H2, Ex (Rm [x] H) (Rm [x] H2) → Own (x :: ps) H2 → ShAt (shC K) (ls.map srtS, srtT es) x (Rm ps H2) → Q .non H2
theorem sc_sh_init : FnScope ["self", "levels", "lines", "places", "names", "low", "high", "node"] ["self", "levels", "lines"] (defScope (shS 3)) := ⟨rfl, rfl, rfl, by decide +kernel, rfl, by decide +kernel, by decide +kernel⟩
theorem ok_sh_init (T : Tx K mg fd) : FnOk P w K mg base CX0 5 (He.ma K (shC K) "__init__") (fd 46) ["self", "levels", "lines"] (spInit K) := by
  refine (T.ds 46 3 rfl).ok sc_sh_init (fun vs H Q E h => ?len) (fun cdv A outer s H vs Q E hr h => ?body)
  case body =>
    refine ⟨_, (pss_cons (ps_expr (pe_call (ok_check_levels T) (hr.mono (by decide)) (by rfl) (T.gl 5 "check_levels" rfl) (T.df 3 25 "check_levels" rfl).kp ((T.df 3 25 "check_levels" rfl).binds (ps := ["levels"]) fun _ _ _ _ _ _ us hl => match us, hl with | [_], _ => rfl) .nil pass0 (pa_cons (pv 1) pa_nil))) (pss_cons (ps_set (i := 3) sc_sh_init.nd rfl (Or.inl rfl) (pe_call (ok_places_of T) (hr.mono (by decide)) (by rfl) (T.gl 6 "places_of" rfl) (T.df 4 26 "places_of" rfl).kp ((T.df 4 26 "places_of" rfl).binds (ps := ["levels"]) fun _ _ _ _ _ _ us hl => match us, hl with | [_], _ => rfl) .nil pass0 (pa_cons (pv 1) pa_nil))) (pss_cons (ps_expr (pe_call (ok_check_lines T) (hr.mono (by decide)) (by rfl) (T.gl 10 "check_lines" rfl) (T.df 8 30 "check_lines" rfl).kp ((T.df 8 30 "check_lines" rfl).binds (ps := ["lines", "places"]) fun _ _ _ _ _ _ us hl => match us, hl with | [_, _], _ => rfl) .nil pass0 (pa_cons (pv 2) (pa_cons (pv 3) pa_nil)))) (pss_cons (ps_expr (pe_call (ok_check_limit T) (hr.mono (by decide)) (by rfl) (T.gl 11 "check_limit" rfl) (T.df 9 31 "check_limit" rfl).kp ((T.df 9 31 "check_limit" rfl).binds (ps := ["what", "many", "limit"]) fun _ _ _ _ _ _ us hl => match us, hl with | [_, _, _], _ => rfl) .nil pass0 (pa_cons pe_str (pa_cons (pe_callB call_len (by rfl) (T.fr 47 "len" rfl) (by decide +kernel) (pa_cons (pv 1) pa_nil)) (pa_cons (ClX.pe_cval (pe_glob (v := V.ref (He.ga K "Sheet")) (by rfl) (T.gl 36 "Sheet" rfl) rfl)) pa_nil))))) (pss_cons (ps_expr (pe_call (ok_check_limit T) (hr.mono (by decide)) (by rfl) (T.gl 11 "check_limit" rfl) (T.df 9 31 "check_limit" rfl).kp ((T.df 9 31 "check_limit" rfl).binds (ps := ["what", "many", "limit"]) fun _ _ _ _ _ _ us hl => match us, hl with | [_, _, _], _ => rfl) .nil pass0 (pa_cons pe_str (pa_cons (pe_callB (cr_max rfl) (by rfl) (T.fr 51 "max" rfl) (by decide +kernel) (pa_cons (pe_lc (own := [("names", 4)]) (g := gName 4) rfl sc_sh_init.nd (pi_seq (pv 1)) (blkOk_by (N := ["self", "levels", "lines", "places", "names", "low", "high", "node"]) (sc := (defScope (shS 3))) (own := [("names", 4)]) (by decide +kernel)) (fun _ _ _ _ _ => (pg_name (i := 4) sc_sh_init.nd rfl (Or.inl rfl))) (fun _ _ _ _ _ => pts_nil) (fun _ _ _ _ _ => (pe_callB (r := rLen K) call_len (by rfl) (T.fr 47 "len" rfl) (by decide +kernel) (pa_cons (pv 4) pa_nil)))) pa_nil)) (pa_cons (ClX.pe_cval (pe_glob (v := V.ref (He.ga K "Sheet")) (by rfl) (T.gl 36 "Sheet" rfl) rfl)) pa_nil))))) (pss_cons (ps_expr (pe_call (ok_check_limit T) (hr.mono (by decide)) (by rfl) (T.gl 11 "check_limit" rfl) (T.df 9 31 "check_limit" rfl).kp ((T.df 9 31 "check_limit" rfl).binds (ps := ["what", "many", "limit"]) fun _ _ _ _ _ _ us hl => match us, hl with | [_, _, _], _ => rfl) .nil pass0 (pa_cons pe_str (pa_cons (pe_callB call_len (by rfl) (T.fr 47 "len" rfl) (by decide +kernel) (pa_cons (pv 2) pa_nil)) (pa_cons (ClX.pe_cval (pe_glob (v := V.ref (He.ga K "Sheet")) (by rfl) (T.gl 36 "Sheet" rfl) rfl)) pa_nil))))) (pss_cons (ps_fld (pv 0) (pe_lc (own := [("names", 4)]) (g := gName 4) rfl sc_sh_init.nd (pi_seq (pv 1)) (blkOk_by (N := ["self", "levels", "lines", "places", "names", "low", "high", "node"]) (sc := (defScope (shS 3))) (own := [("names", 4)]) (by decide +kernel)) (fun _ _ _ _ _ => (pg_name (i := 4) sc_sh_init.nd rfl (Or.inl rfl))) (fun _ _ _ _ _ => pts_nil) (fun _ _ _ _ _ => (pe_callB (r := rSortedS K) cr_sortedS (by rfl) (T.fr 56 "sorted" rfl) (by decide +kernel) (pa_cons (pv 4) pa_nil)))) rfl) (pss_cons (ps_fld (pv 0) (pe_callB cr_sortedT2 (by rfl) (T.fr 56 "sorted" rfl) (by decide +kernel) (pa_cons (pe_lc (own := [("low", 5), ("high", 6)]) (g := gTup K 2 (gCons (gName 5) (gCons (gName 6) gNil))) rfl sc_sh_init.nd (pi_seq (pv 2)) (blkOk_by (N := ["self", "levels", "lines", "places", "names", "low", "high", "node"]) (sc := (defScope (shS 3))) (own := [("low", 5), ("high", 6)]) (by decide +kernel)) (fun _ _ _ _ _ => (pg_tup rfl (pgs_cons (pg_name (i := 5) sc_sh_init.nd rfl (Or.inl rfl)) (pgs_cons (pg_name (i := 6) sc_sh_init.nd rfl (Or.inl rfl)) pgs_nil)))) (fun _ _ _ _ _ => pts_nil) (fun _ _ _ _ _ => (pe_tup (pa_cons (pv 5) (pa_cons (pv 6) pa_nil))))) pa_nil)) rfl) (pss_cons (ps_fld (pv 0) (pe_lc2 (own := [("names", 4), ("node", 7)]) (vs1 := [7]) (wi1 := iList K (tVar 4)) (g := gName 4) (g1 := gName 7) rfl sc_sh_init.nd (pi_list (pe_fld (pv 0) rfl)) (blkOk_by (N := ["self", "levels", "lines", "places", "names", "low", "high", "node"]) (sc := (defScope (shS 3))) (own := [("names", 4), ("node", 7)]) (by decide +kernel)) (by decide) (fun _ _ _ _ _ => (pg_name (i := 4) sc_sh_init.nd rfl (Or.inl rfl))) (fun _ _ _ _ _ => pts_nil) (fun _ _ _ _ _ => (pi_list (pv 4))) (fun _ _ _ _ _ => (pg_name (i := 7) sc_sh_init.nd rfl (Or.inl rfl))) (fun _ _ _ _ _ => pts_nil) (fun _ _ _ _ _ => (pv 7))) rfl) (pss_cons (ps_fld (pv 0) (pv 3) rfl) (pss_cons (ps_fld (pv 0) (pe_call (ok_ends_by_node T) (hr.mono (by decide)) (by rfl) (T.gl 13 "ends_by_node" rfl) (T.df 11 33 "ends_by_node" rfl).kp ((T.df 11 33 "ends_by_node" rfl).binds (ps := ["nodes", "lines"]) fun _ _ _ _ _ _ us hl => match us, hl with | [_, _], _ => rfl) .nil pass0 (pa_cons (pe_fld (pv 0) rfl) (pa_cons (pe_fld (pv 0) rfl) pa_nil))) rfl) (pss_one (ps_fld (pv 0) (pe_call (ok_ends_by_node T) (hr.mono (by decide)) (by rfl) (T.gl 13 "ends_by_node" rfl) (T.df 11 33 "ends_by_node" rfl).kp ((T.df 11 33 "ends_by_node" rfl).binds (ps := ["nodes", "lines"]) fun _ _ _ _ _ _ us hl => match us, hl with | [_, _], _ => rfl) .nil pass0 (pa_cons (pe_fld (pv 0) rfl) (pa_cons (pe_lc (own := [("low", 5), ("high", 6)]) (g := gTup K 2 (gCons (gName 5) (gCons (gName 6) gNil))) rfl sc_sh_init.nd (pi_list (pe_fld (pv 0) rfl)) (blkOk_by (N := ["self", "levels", "lines", "places", "names", "low", "high", "node"]) (sc := (defScope (shS 3))) (own := [("low", 5), ("high", 6)]) (by decide +kernel)) (fun _ _ _ _ _ => (pg_tup rfl (pgs_cons (pg_name (i := 5) sc_sh_init.nd rfl (Or.inl rfl)) (pgs_cons (pg_name (i := 6) sc_sh_init.nd rfl (Or.inl rfl)) pgs_nil)))) (fun _ _ _ _ _ => pts_nil) (fun _ _ _ _ _ => (pe_tup (pa_cons (pv 6) (pa_cons (pv 5) pa_nil))))) pa_nil))) rfl))))))))))))), ?_⟩
    obtain ⟨ps, x, dx, va, vb, ls, es, rfl, hx, o0, nx, rL0, rE0, ok, q⟩ := h
    obtain ⟨hok, hw18, hl12, hf, hnd, hz⟩ := ok
    have hpl := plOk hok.once
    have hm := hok.few
    obtain ⟨u0, c0⟩ := T.cval 0 _ rfl
    obtain ⟨u1', c1⟩ := T.cval 1 _ rfl
    obtain ⟨u2, c2⟩ := T.cval 2 _ rfl
    obtain ⟨a, rfl, hLv⟩ := lvAt_of rL0
    obtain ⟨b, rfl, hLn⟩ := lnAt_of rE0
    have hLv0 := hLv.ex Rm_ex
    have hLn0 := hLn.ex Rm_ex
    refine q_drop (ev_call0 (ea_cons (ev_var rfl) ea_nil) (levels_sp hLv0 hok)) fun H1 e1 => ?_
    refine q_asgC (ea_cons (ev_var rfl) ea_nil) fun H2 e2 => ⟨a, ls, rfl, hLv0.ex (e1.trans e2), by omega, fun p4 H3 hp4 e3 h4 => ?_⟩
    have e13 := (e1.trans e2).trans e3
    refine q_drop (ev_call0 (ea_cons (ev_var (v := .ref b) rfl) (ea_cons (ev_var (v := .ref p4) rfl) ea_nil)) (lines_sp (hLn0.ex e13) h4 (ints_of hpl) hf hnd hz)) fun H4 e4 => ?_
    have e14 := e13.trans e4
    obtain ⟨rows, hR, hRl, hRi⟩ := hLv0
    refine q_drop (ev_call0 (ea_cons ev_c (ea_cons (lenS (ev_var rfl) (ex_s e14 hR)) (ea_cons (ev_cval T.cread c0) ea_nil))) (limit_sp (by rw [hRl]; omega))) fun H5 e5 => ?_
    have e15 := e14.trans e5
    have o5 := o0.ex e15
    refine q_drop (ev_call0 (ea_cons ev_c (ea_cons (ev_I o5 (er_max (ns := ls.map lenI) (er_lc1 (R := rL rS) (S := rI) lenI (wk_seq (er_var rfl ((rQ K (rL rS)).m (Rm_mono e15) rL0))) (by omega) (fun _ => rfl) fun l hl qs v H1 _ _ _ r => er_len (R := rS) (er_var (i := 4) rfl (rL_q (K := K) r)) fun a vs H1 Q h q => len_rd h q) ?pos)) (ea_cons (ev_cval T.cread c1) ea_nil))) (limit_sp ?most)) fun H6 e6 => ?_
    case pos =>
      rw [List.length_map]
      exact List.length_pos_iff.mpr hok.some
    case most =>
      refine mx_le (by decide) fun y hy => ?_
      obtain ⟨l, hl, rfl⟩ := List.mem_map.mp hy
      have := hw18 l hl
      show (l.length : Int) ≤ 18
      omega
    have e16 := e15.trans e6
    obtain ⟨rowsE, hRE, hREl, hREi⟩ := hLn0
    refine q_drop (ev_call0 (ea_cons ev_c (ea_cons (lenS (ev_var rfl) (ex_s e16 hRE)) (ea_cons (ev_cval T.cread c2) ea_nil))) (limit_sp (by rw [hREl]; show (es.length : Int) ≤ 200; omega))) fun H7 e7 => ?_
    have e17 := e16.trans e7
    have o7 := o0.ex e17
    have f7 := Fr.of o0 e17
    have h47 := Rm_get (ps := x :: ps) (e7 _ _ (e6 _ _ (e5 _ _ (e4 _ _ h4)))) ((o0.ex (e1.trans e2)).nin hp4)
    refine q_fldR (R := rL (rL rS)) (a := ls.map srtS) o7 rfl (e17 _ _ hx) T.cls (T.noat 61 "_levels" rfl) (by decide) (er_lc1 (R := rL rS) srtS (wk_seq (er_var rfl (f7.r rL0))) (by omega) (fun _ => rfl) fun l hl qs v H1 _ _ _ r => er_sortedS (er_var rfl r) (by have := hw18 l hl; omega)) fun v1 H8 f8 m8 r1 x8 => ?_
    have f18 := f7.trans f8
    refine q_fldR (R := rL rE) (a := srtT es) f8.1 rfl x8 T.cls (T.noat 62 "_lines" rfl) (by show 1 < 1000; decide) (er_sortedT (er_is (er_lc2 (R := rS) (S := rS) (T := rE) id (wk_seq (er_var rfl (f18.r rE0))) (by omega) (fun _ _ => rfl) fun e he qs v w H1 _ _ _ r s => er_tup (er_var rfl r) (er_var rfl s)) (List.map_id _))) fun v2 H9 f9 m9 r2 x9 => ?_
    have hms : many (ls.map srtS) = many ls := by rw [← many_flat, ← many_flat]; exact flat_perm.length_eq
    have r19 := f9.r r1
    refine q_fldR (R := rL rS) (a := (ls.map srtS).flatten) f9.1 rfl x9 T.cls (T.noat 63 "_nodes" rfl) (by show 2 < 1000; decide) (er_flat (er_of (ev_fld rfl x9 T.cls (T.noat 61 "_levels" rfl) rfl) r19) (by omega) (by decide) (fun _ => rfl) (fun _ => rfl) (fun _ _ => rfl) (fun _ _ => rfl)) fun v3 H10 f10 m10 r3 x10 => ?_
    have h410 := (f8.trans (f9.trans f10)).2 _ _ h47
    refine q_fldR (R := ⟨fun (_ : Unit) v H => v = .ref p4, fun _ h => h⟩) (a := ()) f10.1 rfl x10 T.cls (T.noat 64 "_places" rfl) (by show 3 < 1000; decide) (er_of (ev_var (i := 3) (v := .ref p4) rfl) rfl) fun v4 H11 f11 m11 r4 x11 => ?_
    obtain rfl : v4 = .ref p4 := r4
    have hns : (ls.map srtS).flatten.Nodup := flat_perm.nodup_iff.mpr hok.once
    have hnl : (ls.map srtS).flatten.length ≤ 1000 := by rw [many_flat]; omega
    have hel : (srtT es).length = es.length := (srtT_perm es).length_eq
    have hin : ∀ e ∈ srtT es, e.1 ∈ (ls.map srtS).flatten ∧ e.2 ∈ (ls.map srtS).flatten := fun e he =>
      have h := fit_in hpl (hf e ((srtT_perm es).mem_iff.mp he))
      ⟨mem_flat.mp h.1, mem_flat.mp h.2⟩
    have r211 := (f10.trans f11).r r2
    have r311 := f11.r r3
    refine q_fldR (R := rEn (ls.map srtS).flatten) (a := srtT es) f11.1 rfl x11 T.cls (T.noat 65 "_ups" rfl) (by show 4 < 1000; decide) (er_ends (er_of (ev_fld rfl x11 T.cls (T.noat 63 "_nodes" rfl) rfl) r311) (er_of (ev_fld rfl x11 T.cls (T.noat 62 "_lines" rfl) rfl) r211) hns hnl (by omega) (fun e he => (hin e he).1)) fun v5 H12 f12 m12 r5 x12 => ?_
    have r212 := f12.r r211
    have r312 := f12.r r311
    refine s_fldR (R := rEn (ls.map srtS).flatten) (a := (srtT es).map swp) f12.1 rfl x12 T.cls (T.noat 66 "_downs" rfl) (by show 5 < 1000; decide) (er_ends (er_of (ev_fld rfl x12 T.cls (T.noat 63 "_nodes" rfl) rfl) r312) (er_lc2 (R := rS) (S := rS) (T := rE) swp (wk_list (er_of (ev_fld rfl x12 T.cls (T.noat 62 "_lines" rfl) rfl) r212)) (by omega) (fun _ _ => rfl) fun e he qs v w H1 _ _ _ r s => er_tup (er_var rfl s) (er_var rfl r)) hns hnl (by rw [List.length_map]; omega) ?ends) fun v6 H13 f13 m13 r6 x13 => ?_
    case ends =>
      intro e he
      obtain ⟨e', h1, rfl⟩ := List.mem_map.mp he
      exact (hin e' h1).2
    obtain ⟨p5, rfl, r5⟩ := r5
    obtain ⟨p6, rfl, r6⟩ := r6
    have q1 := (f10.trans (f11.trans (f12.trans f13))).r r19
    have q2 := f13.r r212
    have q3 := f13.r r312
    obtain ⟨p1, w1, rfl, _, _⟩ := id q1
    obtain ⟨p2, w2, rfl, _, _⟩ := id q2
    obtain ⟨p3, w3, rfl, _, _⟩ := id q3
    refine q H13 ((Rm_mono e17).trans (m8.trans (m9.trans (m10.trans (m11.trans (m12.trans m13)))))) f13.1 ⟨dx, p1, p2, p3, p4, p5, p6, plTo 0 ls [], Rm_get x13 nx, (rL (rL rS)).m Rm_pop q1, (rL rE).m Rm_pop q2, (rL rS).m Rm_pop q3, Rm_pop _ _ ((f11.trans (f12.trans f13)).2 _ _ h410), hpl.srt, (r5.ex f13.2).ex Rm_pop, r6.ex Rm_pop⟩
  case len =>
    obtain ⟨ps, x, dx, va, vb, ls, es, rfl, _⟩ := h
    rfl
end
end K21
set_option Elab.async false
set_option linter.all false
set_option maxRecDepth 100000
set_option maxHeartbeats 4000000
namespace K21
open PySem PySem.Spec PyProof.Rows L2 Evl Gen RP
abbrev Sht := List (List Str) × List (Str × Str)
/-- a line from a level to the next one -/
def Fit (ls : List (List Str)) (e : Str × Str) : Prop := ∃ i a b, ls[i]? = some a ∧ ls[i + 1]? = some b ∧ e.1 ∈ a ∧ e.2 ∈ b
theorem Fit.in1 {ls : List (List Str)} {e : Str × Str} (h : Fit ls e) : e.1 ∈ ls.flatten := let ⟨i, a, b, h1, _, h3, _⟩ := h; List.mem_flatten.mpr ⟨a, List.mem_of_getElem? h1, h3⟩
theorem Fit.in2 {ls : List (List Str)} {e : Str × Str} (h : Fit ls e) : e.2 ∈ ls.flatten := let ⟨i, a, b, _, h2, _, h4⟩ := h; List.mem_flatten.mpr ⟨b, List.mem_of_getElem? h2, h4⟩
theorem fitB_of {kvs : List (Key × V)} {ls : List (List Str)} (p : PlOk kvs ls) {e : Str × Str} (h : Fit ls e) : fitB kvs e.1 e.2 = true := by
  obtain ⟨i, a, b, h1, h2, h3, h4⟩ := h
  unfold fitB
  rw [p.in_ i a e.1 h1 h3, p.in_ (i + 1) b e.2 h2 h4]
  exact decide_eq_true (by omega)
theorem place_of {kvs : List (Key × V)} {ls : List (List Str)} (p : PlOk kvs ls) {z : Str} (h : z ∈ ls.flatten) : ∃ (i : Nat) (a : List Str), ls[i]? = some a ∧ z ∈ a ∧ valV kvs (.inr z) = some (.int (i : Int)) := by
  obtain ⟨l, h1, h2⟩ := List.mem_flatten.mp h
  obtain ⟨i, hi⟩ := List.mem_iff_getElem?.mp h1
  exact ⟨i, l, hi, h2, p.in_ i l z hi h2⟩
theorem place_isSome {kvs : List (Key × V)} {ls : List (List Str)} (p : PlOk kvs ls) (z : Str) : (valV kvs (.inr z)).isSome = decide (z ∈ ls.flatten) := by
  by_cases h : z ∈ ls.flatten
  · obtain ⟨i, a, h1, h2, h3⟩ := place_of p h
    rw [h3, decide_eq_true h]
    rfl
  · rw [p.out z h, decide_eq_false h]
    rfl
/-- the levels of nodes are apart -/
theorem apart {ls : List (List Str)} (h : ls.flatten.Nodup) {i j : Nat} {a b : List Str} {z : Str} (hi : ls[i]? = some a) (hj : ls[j]? = some b) (ha : z ∈ a) (hb : z ∈ b) : i = j := by
  have p := plOk h
  have h1 := p.in_ i a z hi ha
  have h2 := p.in_ j b z hj hb
  rw [h1] at h2
  have h3 := Option.some.inj h2
  injection h3 with h4
  omega
theorem fit_iff {kvs : List (Key × V)} {ls : List (List Str)} (p : PlOk kvs ls) {e : Str × Str} : fitB kvs e.1 e.2 = true ↔ Fit ls e := by
  refine ⟨fun h => ?_, fitB_of p⟩
  have hi := fit_in p h
  obtain ⟨i, a, h1, h2, h3⟩ := place_of p hi.1
  obtain ⟨j, b, h4, h5, h6⟩ := place_of p hi.2
  unfold fitB at h
  rw [h3, h6] at h
  have h7 := of_decide_eq_true h
  have h8 : j = i + 1 := by omega
  subst h8
  exact ⟨i, a, b, h1, h4, h2, h5⟩
/-- what a sheet is -/
structure Sok (s : Sht) : Prop where
  lv : LvOk s.1
  w18 : ∀ l ∈ s.1, l.length ≤ 18
  h12 : s.1.length ≤ 12
  fit : ∀ e ∈ s.2, Fit s.1 e
  nd : s.2.Nodup
  z : s.2.length ≤ 72
  srt : s.1.map srtS = s.1
  srtE : srtT s.2 = s.2
/-- what it may be made of -/
structure Mk' (ls : List (List Str)) (es : List (Str × Str)) : Prop where
  lv : LvOk ls
  w18 : ∀ l ∈ ls, l.length ≤ 18
  h12 : ls.length ≤ 12
  fit : ∀ e ∈ es, Fit ls e
  nd : es.Nodup
  z : es.length ≤ 72
theorem Mk'.inok {ls : List (List Str)} {es : List (Str × Str)} (h : Mk' ls es) : InOk ls es := ⟨h.lv, h.w18, h.h12, fun e he => fitB_of (plOk h.lv.once) (h.fit e he), h.nd, h.z⟩
def mkS (ls : List (List Str)) (es : List (Str × Str)) : Sht := (ls.map srtS, srtT es)
theorem srtS_idem (xs : List Str) : srtS (srtS xs) = srtS xs := srtS_eq (srtS_perm xs)
theorem srtT_idem (xs : List (Str × Str)) : srtT (srtT xs) = srtT xs := srtT_eq (srtT_perm xs)
theorem map_srt_idem (ls : List (List Str)) : (ls.map srtS).map srtS = ls.map srtS := by
  rw [List.map_map]
  exact List.map_congr_left fun l _ => srtS_idem l
theorem Fit.srt {ls : List (List Str)} {e : Str × Str} (h : Fit ls e) : Fit (ls.map srtS) e := let ⟨i, a, b, h1, h2, h3, h4⟩ := h
  ⟨i, srtS a, srtS b, by rw [List.getElem?_map, h1]; rfl, by rw [List.getElem?_map, h2]; rfl, (srtS_perm a).mem_iff.mpr h3, (srtS_perm b).mem_iff.mpr h4⟩
theorem Mk'.sok {ls : List (List Str)} {es : List (Str × Str)} (h : Mk' ls es) : Sok (mkS ls es) where
  lv := ⟨fun z => h.lv.some (List.map_eq_nil_iff.mp z), fun ws hw x hx => by
    obtain ⟨l, hl, rfl⟩ := List.mem_map.mp hw
    exact h.lv.names l hl x ((srtS_perm l).mem_iff.mp hx), flat_perm.nodup_iff.mpr h.lv.once, by
    have : many (ls.map srtS) = many ls := by rw [← many_flat, ← many_flat]; exact flat_perm.length_eq
    show many (ls.map srtS) ≤ 60
    rw [this]
    exact h.lv.few⟩
  w18 := fun l hl => by
    obtain ⟨m, hm, rfl⟩ := List.mem_map.mp hl
    rw [(srtS_perm m).length_eq]
    exact h.w18 m hm
  h12 := by show (ls.map srtS).length ≤ 12; rw [List.length_map]; exact h.h12
  fit := fun e he => (h.fit e ((srtT_perm es).mem_iff.mp he)).srt
  nd := (srtT_perm es).nodup_iff.mpr h.nd
  z := by show (srtT es).length ≤ 72; rw [(srtT_perm es).length_eq]; exact h.z
  srt := map_srt_idem ls
  srtE := srtT_idem es
theorem Sok.mk' {s : Sht} (h : Sok s) : Mk' s.1 s.2 := ⟨h.lv, h.w18, h.h12, h.fit, h.nd, h.z⟩
theorem Sok.self {s : Sht} (h : Sok s) : mkS s.1 s.2 = s := Prod.ext h.srt h.srtE
section
variable {P : Program} {w : World} {K : PySem.W.Frag} {mg : Str → Option Value} {base : Heap} {fd : Nat → FuncData} {α β γ δ : Type} {R : Rp α} {S : Rp β} {U : Rp δ} {T : Rp γ} {ps : List Addr} {σ : L2.St} {H : Hp} {ta tb tc : TE} {a : α} {b : β} {d : δ} {s : Sht} {C : Addr} {v : V} {i : Nat} {E : XK} {m : Str}
/-- the same rules, the written part named (within a comprehension) -/
theorem pe_fldK {X : Cx} {K : PySem.W.Frag} {e : Expr} {f : Str} {pos : Pos} {ta : TE} (hK : X.K = K) (he : PE X e ta) (hb : attributeBase e f X.env (eval e X.env) = eval e X.env) : PE X (.Attribute e f pos) (tFld K ta f) := hK ▸ pe_fld he hb
abbrev rS_ (K : PySem.W.Frag) : Rp Sht := rSh (shC K)
theorem sh_levels (hs : σ[i]? = some (some v)) (r : (rSh C).p s v (Rm ps H)) (c : Cls K C) (n : NoAttr K C "_levels") : EvR (rL (rL rS)) ps (tFld K (tVar i) "_levels") σ H s.1 := by
  obtain ⟨x, rfl, dx, p1, p2, p3, p4, p5, p6, kvs, h1, h2, h3, h4, h5, h6, h7, h8⟩ := r
  exact er_of (v := .ref p1) (ev_fld hs (Rm_ex _ _ h1) c n rfl) h2
theorem sh_lines (hs : σ[i]? = some (some v)) (r : (rSh C).p s v (Rm ps H)) (c : Cls K C) (n : NoAttr K C "_lines") : EvR (rL rE) ps (tFld K (tVar i) "_lines") σ H s.2 := by
  obtain ⟨x, rfl, dx, p1, p2, p3, p4, p5, p6, kvs, h1, h2, h3, h4, h5, h6, h7, h8⟩ := r
  exact er_of (v := .ref p2) (ev_fld hs (Rm_ex _ _ h1) c n rfl) h3
theorem sh_nodes (hs : σ[i]? = some (some v)) (r : (rSh C).p s v (Rm ps H)) (c : Cls K C) (n : NoAttr K C "_nodes") : EvR (rL rS) ps (tFld K (tVar i) "_nodes") σ H s.1.flatten := by
  obtain ⟨x, rfl, dx, p1, p2, p3, p4, p5, p6, kvs, h1, h2, h3, h4, h5, h6, h7, h8⟩ := r
  exact er_of (v := .ref p3) (ev_fld hs (Rm_ex _ _ h1) c n rfl) h4
/-- places, told -/
def rPl : Rp (List (List Str)) := ⟨fun ls v H => ∃ p kvs, v = .ref p ∧ H p = some (.dK kvs) ∧ PlOk kvs ls, fun e ⟨p, kvs, h1, h2, h3⟩ => ⟨p, kvs, h1, e _ _ h2, h3⟩⟩
theorem sh_places (hs : σ[i]? = some (some v)) (r : (rSh C).p s v (Rm ps H)) (c : Cls K C) (n : NoAttr K C "_places") : EvR rPl ps (tFld K (tVar i) "_places") σ H s.1 := by
  obtain ⟨x, rfl, dx, p1, p2, p3, p4, p5, p6, kvs, h1, h2, h3, h4, h5, h6, h7, h8⟩ := r
  exact er_of (v := .ref p4) (ev_fld hs (Rm_ex _ _ h1) c n rfl) ⟨p4, kvs, rfl, h5, h6⟩
theorem sh_ups (hs : σ[i]? = some (some v)) (r : (rSh C).p s v (Rm ps H)) (c : Cls K C) (n : NoAttr K C "_ups") : EvR (rEn s.1.flatten) ps (tFld K (tVar i) "_ups") σ H s.2 := by
  obtain ⟨x, rfl, dx, p1, p2, p3, p4, p5, p6, kvs, h1, h2, h3, h4, h5, h6, h7, h8⟩ := r
  exact er_of (v := .ref p5) (ev_fld hs (Rm_ex _ _ h1) c n rfl) ⟨p5, rfl, h7⟩
theorem sh_downs (hs : σ[i]? = some (some v)) (r : (rSh C).p s v (Rm ps H)) (c : Cls K C) (n : NoAttr K C "_downs") : EvR (rEn s.1.flatten) ps (tFld K (tVar i) "_downs") σ H (s.2.map swp) := by
  obtain ⟨x, rfl, dx, p1, p2, p3, p4, p5, p6, kvs, h1, h2, h3, h4, h5, h6, h7, h8⟩ := r
  exact er_of (v := .ref p6) (ev_fld hs (Rm_ex _ _ h1) c n rfl) ⟨p6, rfl, h8⟩
/-- no attribute of an object hides a method -/
def noHide (m : Str) : Bool := (shF 0 0 0 0 0 0).lookup m == none
theorem shF_lookup {p1 p2 p3 p4 p5 p6 : Addr} (h : ("_levels" : Str) ≠ m ∧ ("_lines" : Str) ≠ m ∧ ("_nodes" : Str) ≠ m ∧ ("_places" : Str) ≠ m ∧ ("_ups" : Str) ≠ m ∧ ("_downs" : Str) ≠ m) : (shF p1 p2 p3 p4 p5 p6).lookup m = none := by
  obtain ⟨h1, h2, h3, h4, h5, h6⟩ := h
  unfold shF
  simp [List.lookup, beq_eq_false_iff_ne.mpr h1.symm, beq_eq_false_iff_ne.mpr h2.symm, beq_eq_false_iff_ne.mpr h3.symm, beq_eq_false_iff_ne.mpr h4.symm, beq_eq_false_iff_ne.mpr h5.symm, beq_eq_false_iff_ne.mpr h6.symm]
abbrev NH (m : Str) : Prop := ("_levels" : Str) ≠ m ∧ ("_lines" : Str) ≠ m ∧ ("_nodes" : Str) ≠ m ∧ ("_places" : Str) ≠ m ∧ ("_ups" : Str) ≠ m ∧ ("_downs" : Str) ≠ m
theorem er_meth0 {f : Sht → γ} {Cd : Sht → Prop} (h : EvR (rSh C) ps ta σ H s) (hm : NH m) (hc : Cd s) : EvR T ps (tMeth C m (Sp1 (rSh C) T f Cd) [] E ta tNil) σ H (f s) := fun H1 e o Q q => h H1 e o _ fun v H2 e2 r => by
  have r' := r
  obtain ⟨x, rfl, dx, p1, p2, p3, p4, p5, p6, kvs, h1, _⟩ := r'
  exact ⟨x, dx, _, rfl, Rm_ex _ _ h1, shF_lookup hm, ps, _, s, rfl, o.ex e2, r, hc, fun w H3 e3 t => q w H3 (e2.trans e3) t⟩
theorem er_meth1 {f : Sht → α → γ} {Cd : Sht → α → Prop} (h : EvR (rSh C) ps ta σ H s) (h2 : EvR R ps tb σ H a) (hm : NH m) (hc : Cd s a) : EvR T ps (tMeth C m (Sp2 (rSh C) R T f Cd) [] E ta (tCons tb tNil)) σ H (f s a) := fun H1 e o Q q => h H1 e o _ fun v H2 e2 r => by
  have r' := r
  obtain ⟨x, rfl, dx, p1, p2, p3, p4, p5, p6, kvs, h1, _⟩ := r'
  exact ⟨x, dx, _, rfl, Rm_ex _ _ h1, shF_lookup hm, h2 H2 (e.trans e2) (o.ex e2) _ fun w H3 e3 r2 => ⟨ps, _, w, s, a, rfl, o.ex (e2.trans e3), (rSh C).m (Rm_mono e3) r, r2, hc, fun z H4 e4 t => q z H4 ((e2.trans e3).trans e4) t⟩⟩
theorem er_meth2 {f : Sht → α → β → γ} {Cd : Sht → α → β → Prop} (h : EvR (rSh C) ps ta σ H s) (h2 : EvR R ps tb σ H a) (h3 : EvR S ps tc σ H b) (hm : NH m) (hc : Cd s a b) : EvR T ps (tMeth C m (Sp3 (rSh C) R S T f Cd) [] E ta (tCons tb (tCons tc tNil))) σ H (f s a b) := fun H1 e o Q q => h H1 e o _ fun v H2 e2 r => by
  have r' := r
  obtain ⟨x, rfl, dx, p1, p2, p3, p4, p5, p6, kvs, h1, _⟩ := r'
  exact ⟨x, dx, _, rfl, Rm_ex _ _ h1, shF_lookup hm, h2 H2 (e.trans e2) (o.ex e2) _ fun w H3 e3 r2 => h3 H3 ((e.trans e2).trans e3) (o.ex (e2.trans e3)) _ fun z H4 e4 r3 =>
    ⟨ps, _, w, z, s, a, b, rfl, o.ex ((e2.trans e3).trans e4), (rSh C).m (Rm_mono (e3.trans e4)) r, R.m (Rm_mono e4) r2, r3, hc, fun y H5 e5 t => q y H5 (((e2.trans e3).trans e4).trans e5) t⟩⟩
/-- Sheet(levels, lines) -/
theorem make_end {H1 : Hp} {va vb : V} {ls : List (List Str)} {es : List (Str × Str)} {Q : VK} (o : Own ps H1) (r1 : (rQ K (rL rS)).p ls va (Rm ps H1)) (r2 : (rQ K rE).p es vb (Rm ps H1)) (ok : Mk' ls es) (q : ∀ v H2, Ex H1 H2 → (rS_ K).p (mkS ls es) v (Rm ps H2) → Q v H2) {x dx : Addr} (nx : H1 x = none) (nd : H1 dx = none) (ne : dx ≠ x) :
    spInit K [.ref x, va, vb] (upd (upd H1 dx (.own x)) x (.ins (shC K) dx [])) (fun v H2 => v = .non ∧ Q (.ref x) H2) E := by
  have e1 : Ex H1 (upd (upd H1 dx (.own x)) x (.ins (shC K) dx [])) := (Ex.new nd).trans (Ex.new (by rw [upd_ne ne.symm]; exact nx))
  have o1 := o.ex e1
  have nx' := o.nin nx
  have e2 : Ex (Rm ps H1) (Rm (x :: ps) (upd (upd H1 dx (.own x)) x (.ins (shC K) dx []))) := fun b ob hb => by
    have n : b ≠ x := fun z => by rw [z, Rm_none nx] at hb; cases hb
    exact Rm_get (e1 _ _ (Rm_ex _ _ hb)) (fun m => (List.mem_cons.mp m).elim n fun m => by rw [Rm_own m] at hb; cases hb)
  refine ⟨ps, x, dx, va, vb, ls, es, rfl, upd_same, o1.push upd_same, nx', (rQ K (rL rS)).m e2 r1, (rQ K rE).m e2 r2, ok.inok, fun H2 m2 o2 sh => ⟨rfl, q _ H2 (fun b ob hb => ?_) ⟨x, rfl, sh⟩⟩⟩
  have n : b ≠ x := fun z => by rw [z, nx] at hb; cases hb
  exact Rm_ex _ _ (m2 _ _ (Rm_get (e1 _ _ hb) (fun m => n (List.mem_singleton.mp m))))
theorem er_make {ls : List (List Str)} {es : List (Str × Str)} (h1 : EvR (rL (rL rS)) ps ta σ H ls) (h2 : EvR (rL rE) ps tb σ H es) (ok : Mk' ls es) : EvR (rS_ K) ps (tMake (shC K) (spInit K) [] E (tCons ta (tCons tb tNil))) σ H (mkS ls es) := fun H0 e o Q q =>
  h1 H0 e o _ fun v H1 e1 r1 => h2 H1 (e.trans e1) (o.ex e1) _ fun w H2 e2 r2 x dx nx nd ne => make_end (o.ex (e1.trans e2)) (rL_q ((rL (rL rS)).m (Rm_mono e2) r1)) (rL_q r2) ok (fun z H3 e3 t => q z H3 ((e1.trans e2).trans e3) t) nx nd ne
theorem er_make1 {ls : List (List Str)} {dv : Addr} (hd : ∀ H, SqT K H dv []) (h1 : EvR (rL (rL rS)) ps ta σ H ls) (ok : Mk' ls []) : EvR (rS_ K) ps (tMake (shC K) (spInit K) [.ref dv] E (tCons ta tNil)) σ H (mkS ls []) := fun H0 e o Q q =>
  h1 H0 e o _ fun v H1 e1 r1 x dx nx nd ne => make_end (es := []) (o.ex e1) (rL_q r1) ⟨dv, [], rfl, .inr (hd _), trivial⟩ ok (fun z H3 e3 t => q z H3 (e1.trans e3) t) nx nd ne
end
end K21
set_option Elab.async false
set_option linter.all false
set_option maxRecDepth 100000
set_option maxHeartbeats 4000000
namespace K21
open PySem PySem.Spec PyProof.Rows L2 Evl Gen RP
section
variable {P : Program} {w : World} {K : PySem.W.Frag} {mg : Str → Option Value} {base : Heap} {fd : Nat → FuncData}
theorem er_lenL {α : Type} {R : Rp α} {ps : List Addr} {σ : L2.St} {H : Hp} {te : TE} {as : List α} (h : EvR (rQ K R) ps te σ H as) : EvR rI ps (tCB (fun xs H Q => ∃ x n, xs = [x] ∧ LenV K x H n ∧ Q (.int n) H) (tCons te tNil)) σ H (as.length : Int) := er_len (r := rLen K) h fun a vs H1 Q h q => len_rd h q
theorem er_toQ {α : Type} {R : Rp α} {ps : List Addr} {σ : L2.St} {H : Hp} {te : TE} {as : List α} (h : EvR (rL R) ps te σ H as) : EvR (rQ K R) ps te σ H as := er_imp h fun _ _ q => rL_q q
theorem er_N {ps : List Addr} {σ : L2.St} {H : Hp} {te : TE} {n : Nat} (h : EvR rN ps te σ H n) : EvR rI ps te σ H (n : Int) := er_impG h fun _ _ q => q
theorem er_toN {ps : List Addr} {σ : L2.St} {H : Hp} {te : TE} {n : Nat} (h : EvR rI ps te σ H (n : Int)) : EvR rN ps te σ H n := er_impG h fun _ _ q => q
theorem sc_sh_levels : FnScope ["self", "names"] ["self"] (defScope (shS 5)) := ⟨rfl, rfl, rfl, by decide +kernel, rfl, by decide +kernel, by decide +kernel⟩
theorem ok_sh_levels (T : Tx K mg fd) : FnOk P w K mg base CX0 1 (He.ma K (shC K) "levels") (fd 47) ["self"] (Sp1 (rS_ K) (rL (rL rS)) (fun s => s.1) Sok) := by
  refine (T.dm 47 5 "levels" "Sheet.levels" rfl).ok sc_sh_levels (fun vs H Q E h => ?len) (fun cdv A outer s H vs Q E hr h => ?body)
  case body =>
    refine ⟨_, (pss_one (ps_ret (pe_lc (own := [("names", 1)]) (g := gName 1) rfl sc_sh_levels.nd (pi_list (pe_fld (pv 0) rfl)) (blkOk_by (N := ["self", "names"]) (sc := (defScope (shS 5))) (own := [("names", 1)]) (by decide +kernel)) (fun _ _ _ _ _ => (pg_name (i := 1) sc_sh_levels.nd rfl (Or.inl rfl))) (fun _ _ _ _ _ => pts_nil) (fun _ _ _ _ _ => (pe_callTy (r := rListS K) call_list_of (by rfl) (T.fr 44 "list" rfl) (by decide +kernel) (pa_cons (pv 1) pa_nil)))))), ?_⟩
    obtain ⟨ps, v, s, rfl, o, r, ok, q⟩ := h
    refine s_retR o (er_is (er_lc1 (R := rL rS) (S := rL rS) id (wk_list (sh_levels (i := 0) rfl r T.cls (T.noat 61 "_levels" rfl))) (Nat.le_trans ok.h12 (by decide)) (fun _ => rfl) fun l hl qs v H1 _ _ _ r => er_list (er_toQ (er_var rfl r))) (List.map_id _)) q
  case len =>
    obtain ⟨ps, v, s, rfl, _⟩ := h
    rfl
theorem sc_sh_lines : FnScope ["self"] ["self"] (defScope (shS 7)) := ⟨rfl, rfl, rfl, by decide +kernel, rfl, by decide +kernel, by decide +kernel⟩
theorem ok_sh_lines (T : Tx K mg fd) : FnOk P w K mg base CX0 1 (He.ma K (shC K) "lines") (fd 49) ["self"] (Sp1 (rS_ K) (rL rE) (fun s => s.2) Sok) := by
  refine (T.dm 49 7 "lines" "Sheet.lines" rfl).ok sc_sh_lines (fun vs H Q E h => ?len) (fun cdv A outer s H vs Q E hr h => ?body)
  case body =>
    refine ⟨_, (pss_one (ps_ret (pe_callTy (r := rListS K) call_list_of (by rfl) (T.fr 44 "list" rfl) (by decide +kernel) (pa_cons (pe_fld (pv 0) rfl) pa_nil)))), ?_⟩
    obtain ⟨ps, v, s, rfl, o, r, ok, q⟩ := h
    exact s_retR o (er_list (er_toQ (sh_lines (i := 0) rfl r T.cls (T.noat 62 "_lines" rfl)))) q
  case len =>
    obtain ⟨ps, v, s, rfl, _⟩ := h
    rfl
theorem sc_sh_len : FnScope ["self"] ["self"] (defScope (shS 15)) := ⟨rfl, rfl, rfl, by decide +kernel, rfl, by decide +kernel, by decide +kernel⟩
theorem ok_sh_len (T : Tx K mg fd) : FnOk P w K mg base CX0 1 (He.ma K (shC K) "__len__") (fd 55) ["self"] (Sp1 (rS_ K) rI (fun s => (s.1.length : Int)) Sok) := by
  refine (T.dm 55 15 "__len__" "Sheet.__len__" rfl).ok sc_sh_len (fun vs H Q E h => ?len) (fun cdv A outer s H vs Q E hr h => ?body)
  case body =>
    refine ⟨_, (pss_one (ps_ret (pe_callB call_len (by rfl) (T.fr 47 "len" rfl) (by decide +kernel) (pa_cons (pe_fld (pv 0) rfl) pa_nil)))), ?_⟩
    obtain ⟨ps, v, s, rfl, o, r, ok, q⟩ := h
    exact s_retR o (er_lenL (er_toQ (sh_levels (i := 0) rfl r T.cls (T.noat 61 "_levels" rfl)))) q
  case len =>
    obtain ⟨ps, v, s, rfl, _⟩ := h
    rfl
theorem er_lenO {ps : List Addr} {σ : L2.St} {H : Hp} {te : TE} {s : Sht} {E : XK} (h : EvR (rS_ K) ps te σ H s) (ok : Sok s) : EvR rI ps (tCB (rOwnLen (shC K) (Sp1 (rS_ K) rI (fun s => (s.1.length : Int)) Sok) [] E) (tCons te tNil)) σ H (s.1.length : Int) := er_cb1 h fun v H1 e o r Q q => by
  have r' := r
  obtain ⟨x, rfl, dx, p1, p2, p3, p4, p5, p6, kvs, h1, _⟩ := r'
  have h12 := ok.h12
  exact ⟨x, dx, _, rfl, Rm_ex _ _ h1, ps, _, s, rfl, o, r, ok, fun w H2 e2 t => ⟨(s.1.length : Int), t, by omega, by omega, q _ H2 e2 rfl⟩⟩
theorem ev_chain {σ : L2.St} {H : Hp} {ta tb tc : TE} {x y z : V} {r r' : R2} {a b : Bool} (h1 : Ev ta σ H x) (h2 : Ev tb σ H y) (h3 : Ev tc σ H z) (r1 : RV r x y H (.bl a)) (r2 : RV r' y z H (.bl b)) : Ev (tChain r r' ta tb tc) σ H (.bl (a && b)) := fun H1 e Q q =>
  h1 H1 e _ fun H2 e2 => h2 H2 (e.trans e2) _ fun H3 e3 => r1 H3 ((e.trans e2).trans e3) _ fun H4 e4 => ⟨a, rfl, by
    cases a with
    | true =>
      rw [if_pos rfl]
      exact h3 H4 (((e.trans e2).trans e3).trans e4) _ fun H5 e5 => r2 H5 ((((e.trans e2).trans e3).trans e4).trans e5) Q fun H6 e6 => q H6 ((((e2.trans e3).trans e4).trans e5).trans e6)
    | false =>
      rw [if_neg (by decide)]
      exact q H4 ((e2.trans e3).trans e4)⟩
theorem kint {H : Hp} {i : Int} : SpV (spV1 isI) [.int i] H (.bl true) := spV (Ky.int i) fun x z => nomatch z
theorem q_whenR {ps : List Addr} {σ : L2.St} {H : Hp} {D : Ends} {t : TT} {tu tz : TS} {b : Bool} (o : Own ps H) (h : EtR ps t σ H b) (h1 : b = true → ∀ H1, Ex H H1 → tu { D with nx := tz D } σ H1) (h2 : b = false → ∀ H1, Ex H H1 → tz D σ H1) : tSeq (tIfS t tu tNext) tz D σ H := q_when (evt_of o h) h1 h2
def isLv (s : Sht) (i : Int) : Bool := decide (0 ≤ i) && decide (i < (s.1.length : Int))
theorem sc_sh_is_level : FnScope ["self", "value"] ["self", "value"] (defScope (shS 31)) := ⟨rfl, rfl, rfl, by decide +kernel, rfl, by decide +kernel, by decide +kernel⟩
theorem ok_sh_is_level (T : Tx K mg fd) : FnOk P w K mg base CX0 3 (He.ma K (shC K) "_is_level") (fd 71) ["self", "value"] (Sp2 (rS_ K) rI rB isLv (fun s _ => Sok s)) := by
  refine (T.dm 71 31 "_is_level" "Sheet._is_level" rfl).ok sc_sh_is_level (fun vs H Q E h => ?len) (fun cdv A outer s H vs Q E hr h => ?body)
  case body =>
    refine ⟨_, (pss_one (ps_ret (pe_and (pe_call (ok_is_integer T) (hr.mono (by decide)) (by rfl) (T.gl 2 "is_integer" rfl) (T.df 0 4 "is_integer" rfl).kp ((T.df 0 4 "is_integer" rfl).binds (ps := ["value"]) fun _ _ _ _ _ _ us hl => match us, hl with | [_], _ => rfl) .nil pass0 (pa_cons (pv 1) pa_nil)) (pe_one (pe_chain op_le op_lt pe_int (pv 1) (pe_callB (call_ownLen (ok_sh_len T) (hr.mono (by decide)) (T.meth 75 "__len__" rfl) ((T.dm 55 15 "__len__" "Sheet.__len__" rfl).binds (ps := ["self"]) fun _ _ _ _ _ _ us hl => match us, hl with | [_], _ => rfl) .nil pass0) (by rfl) (T.fr 47 "len" rfl) (by decide +kernel) (pa_cons (pv 0) pa_nil))))))), ?_⟩
    obtain ⟨ps, v, w, s, a, rfl, o, r, ra, ok, q⟩ := h
    obtain rfl : w = .int a := ra
    exact s_retR o (er_B (ev_andV (a := true) (ev_call0 (ea_cons (ev_var rfl) ea_nil) kint) fun _ => ev_chain ev_c (ev_var rfl) (ev_I o (er_lenO (er_var rfl r) ok)) rv_I0 rv_I0)) q
  case len =>
    obtain ⟨ps, v, w, s, a, rfl, _⟩ := h
    rfl
theorem isLv_nat {s : Sht} {n : Nat} (h : n < s.1.length) : isLv s (n : Int) = true := by
  unfold isLv
  rw [decide_eq_true (by omega : (0 : Int) ≤ (n : Int)), decide_eq_true (by omega : (n : Int) < (s.1.length : Int))]
  rfl
/-- the check of a level's number -/
theorem et_isLv {ps : List Addr} {σ : L2.St} {H : Hp} {ta tb : TE} {s : Sht} {E : XK} {i : Int} (h : EvR (rS_ K) ps ta σ H s) (h2 : EvR rI ps tb σ H i) (ok : Sok s) : EvR rB ps (tMeth (shC K) "_is_level" (Sp2 (rS_ K) rI rB isLv (fun s _ => Sok s)) [] E ta (tCons tb tNil)) σ H (isLv s i) := er_meth1 h h2 (by decide +kernel) ok
def lvAt (s : Sht) (n : Nat) : List Str := s.1[n]?.getD []
theorem lvAt_get {s : Sht} {n : Nat} (h : n < s.1.length) : s.1[n]? = some (lvAt s n) := by
  unfold lvAt
  rw [List.getElem?_eq_getElem h]
  rfl
theorem sc_sh_level : FnScope ["self", "number"] ["self", "number"] (defScope (shS 6)) := ⟨rfl, rfl, rfl, by decide +kernel, rfl, by decide +kernel, by decide +kernel⟩
theorem ok_sh_level (T : Tx K mg fd) : FnOk P w K mg base CX0 4 (He.ma K (shC K) "level") (fd 48) ["self", "number"] (Sp2 (rS_ K) rN (rL rS) lvAt (fun s n => Sok s ∧ n < s.1.length)) := by
  refine (T.dm 48 6 "level" "Sheet.level" rfl).ok sc_sh_level (fun vs H Q E h => ?len) (fun cdv A outer s H vs Q E hr h => ?body)
  case body =>
    refine ⟨_, (pss_cons (ps_if (pt_not (pt_val (pe_meth (pv 0) T.cls (T.meth 91 "_is_level" rfl) (ok_sh_is_level T) (hr.mono (by decide)) ((T.dm 71 31 "_is_level" "Sheet._is_level" rfl).binds (ps := ["self", "value"]) fun _ _ _ _ _ _ us hl => match us, hl with | [_, _], _ => rfl) .nil pass0 (pa_cons (pv 1) pa_nil)))) (pss_one ps_never) pss_nil) (pss_one (ps_ret (pe_callTy (r := rListS K) call_list_of (by rfl) (T.fr 44 "list" rfl) (by decide +kernel) (pa_cons (pe_ix ix_list (pe_fld (pv 0) rfl) (pv 1) (fun _ _ => rfl)) pa_nil))))), ?_⟩
    obtain ⟨ps, v, w, s, a, rfl, o, r, ra, ok, q⟩ := h
    obtain rfl : w = .int (a : Int) := ra
    obtain ⟨ok, ha⟩ := ok
    refine q_whenR o (b := false) (et_is' (et_not' (et_B' (et_isLv (er_var rfl r) (er_var rfl rfl) ok))) (by rw [isLv_nat ha]; rfl)) (fun z => nomatch z) fun _ H1 e1 => ?_
    have r := (rS_ K).m (Rm_mono e1) r
    exact s_retR (o.ex e1) (er_list (er_toQ (er_ix (sh_levels (i := 0) rfl r T.cls (T.noat 61 "_levels" rfl)) (er_var rfl rfl) (lvAt_get ha)))) fun v H2 e2 t => q v H2 (e1.trans e2) t
  case len =>
    obtain ⟨ps, v, w, s, a, rfl, _⟩ := h
    rfl
def gapOf (s : Sht) (n : Nat) : List (Str × Str) := s.2.filter fun e => decide (e.1 ∈ lvAt s n)
theorem er_place {ps : List Addr} {σ : L2.St} {H : Hp} {td ty : TE} {ls : List (List Str)} {z : Str} {i : Nat} {a : List Str} (h : EvR rPl ps td σ H ls) (h2 : EvR rS ps ty σ H z) (hi : ls[i]? = some a) (hz : z ∈ a) : EvR rN ps (tDGet td ty) σ H i := fun H1 e o Q q =>
  h H1 e o _ fun v H2 e2 r => h2 H2 (e.trans e2) (o.ex e2) _ fun w H3 e3 r2 => by
    obtain ⟨p, kvs, rfl, h3, h4⟩ := r
    obtain rfl : w = .str z := r2
    have hg := DGet.k (k := .inr z) (e3 _ _ (Rm_ex _ _ h3))
    rw [h4.in_ i a z hi hz] at hg
    exact ⟨p, _, rfl, hg, q _ H3 (e2.trans e3) rfl⟩
/-- is_node(z, places) -/
theorem er_isnode {ps : List Addr} {σ : L2.St} {H : Hp} {ta td : TE} {ls : List (List Str)} {z : Str} {E : XK} (h2 : EvR rS ps ta σ H z) (h : EvR rPl ps td σ H ls) : EvR rB ps (tCall spNode [] E (tCons ta (tCons td tNil))) σ H (decide (z ∈ ls.flatten)) := fun H1 e o Q q =>
  h2 H1 e o _ fun w H2 e2 r2 => h H2 (e.trans e2) (o.ex e2) _ fun v H3 e3 r => by
    obtain ⟨p, kvs, rfl, h3, h4⟩ := r
    obtain rfl : w = .str z := r2
    refine ⟨z, p, kvs, rfl, Rm_ex _ _ h3, fun H4 e4 => ?_⟩
    rw [place_isSome h4]
    exact q _ H4 ((e2.trans e3).trans e4) rfl
theorem er_endsget {ps : List Addr} {σ : L2.St} {H : Hp} {td ty : TE} {ns : List Str} {es : List (Str × Str)} {z : Str} (h : EvR (rEn ns) ps td σ H es) (h2 : EvR rS ps ty σ H z) (hz : z ∈ ns) : EvR (rL rS) ps (tDGet td ty) σ H ((es.filter fun e => decide (e.1 = z)).map fun e => e.2) := fun H1 e o Q q =>
  h H1 e o _ fun v H2 e2 r => h2 H2 (e.trans e2) (o.ex e2) _ fun w H3 e3 r2 => by
    obtain ⟨p, rfl, f, h3, h4⟩ := r
    obtain rfl : w = .str z := r2
    have hg := DGet.k (k := .inr z) (e3 _ _ (Rm_ex _ _ h3))
    rw [refs_in hz] at hg
    refine ⟨p, _, rfl, hg, q _ H3 (e2.trans e3) (rLS_of ?_)⟩
    rw [List.map_map]
    exact Rm_mono e3 _ _ (h4 z hz)
/-- the level of a node -/
def lvlOf (s : Sht) (z : Str) : Nat := s.1.findIdx fun l => decide (z ∈ l)
theorem lvlOf_get {s : Sht} {z : Str} (h : z ∈ s.1.flatten) : ∃ a, s.1[lvlOf s z]? = some a ∧ z ∈ a := by
  obtain ⟨l, h1, h2⟩ := List.mem_flatten.mp h
  have h3 : lvlOf s z < s.1.length := List.findIdx_lt_length_of_exists ⟨l, h1, decide_eq_true h2⟩
  refine ⟨s.1[lvlOf s z], List.getElem?_eq_getElem h3, ?_⟩
  have := List.findIdx_getElem (xs := s.1) (p := fun l => decide (z ∈ l)) (w := h3)
  exact of_decide_eq_true this
def inSh (s : Sht) (z : Str) : Bool := decide (z ∈ s.1.flatten)
def abOf (s : Sht) (z : Str) : List Str := (s.2.filter fun e => decide (e.1 = z)).map fun e => e.2
def beOf (s : Sht) (z : Str) : List Str := (s.2.filter fun e => decide (e.2 = z)).map fun e => e.1
theorem be_swp {s : Sht} {z : Str} : (((s.2.map swp).filter fun e => decide (e.1 = z)).map fun e => e.2) = beOf s z := by
  unfold beOf
  rw [List.filter_map, List.map_map]
  rfl
theorem sc_sh_level_of : FnScope ["self", "node"] ["self", "node"] (defScope (shS 9)) := ⟨rfl, rfl, rfl, by decide +kernel, rfl, by decide +kernel, by decide +kernel⟩
theorem ok_sh_level_of (T : Tx K mg fd) : FnOk P w K mg base CX0 2 (He.ma K (shC K) "level_of") (fd 50) ["self", "node"] (Sp2 (rS_ K) rS rN lvlOf (fun s z => Sok s ∧ z ∈ s.1.flatten)) := by
  refine (T.dm 50 9 "level_of" "Sheet.level_of" rfl).ok sc_sh_level_of (fun vs H Q E h => ?len) (fun cdv A outer s H vs Q E hr h => ?body)
  case body =>
    refine ⟨_, (pss_cons (ps_if (pt_not (pt_val (pe_call (ok_is_node T) (hr.mono (by decide)) (by rfl) (T.gl 7 "is_node" rfl) (T.df 5 27 "is_node" rfl).kp ((T.df 5 27 "is_node" rfl).binds (ps := ["value", "places"]) fun _ _ _ _ _ _ us hl => match us, hl with | [_, _], _ => rfl) .nil pass0 (pa_cons (pv 1) (pa_cons (pe_fld (pv 0) rfl) pa_nil))))) (pss_one ps_never) pss_nil) (pss_one (ps_ret (pe_dget (u1 hr.units) (pe_fld (pv 0) rfl) (pv 1) (fun _ _ => rfl))))), ?_⟩
    obtain ⟨ps, v, w, s, a, rfl, o, r, ra, ok, q⟩ := h
    obtain rfl : w = .str a := ra
    obtain ⟨ok, ha⟩ := ok
    refine q_whenR o (b := false) (et_is' (et_not' (et_B' (er_isnode (er_var rfl rfl) (sh_places (i := 0) rfl r T.cls (T.noat 64 "_places" rfl))))) (by rw [decide_eq_true ha]; rfl)) (fun z => nomatch z) fun _ H1 e1 => ?_
    have r := (rS_ K).m (Rm_mono e1) r
    obtain ⟨b, h1, h2⟩ := lvlOf_get ha
    exact s_retR (o.ex e1) (er_place (sh_places (i := 0) rfl r T.cls (T.noat 64 "_places" rfl)) (er_var rfl rfl) h1 h2) fun v H2 e2 t => q v H2 (e1.trans e2) t
  case len =>
    obtain ⟨ps, v, w, s, a, rfl, _⟩ := h
    rfl
theorem sc_sh_above : FnScope ["self", "node"] ["self", "node"] (defScope (shS 10)) := ⟨rfl, rfl, rfl, by decide +kernel, rfl, by decide +kernel, by decide +kernel⟩
theorem ok_sh_above (T : Tx K mg fd) : FnOk P w K mg base CX0 2 (He.ma K (shC K) "above") (fd 51) ["self", "node"] (Sp2 (rS_ K) rS (rL rS) abOf (fun s z => Sok s ∧ z ∈ s.1.flatten)) := by
  refine (T.dm 51 10 "above" "Sheet.above" rfl).ok sc_sh_above (fun vs H Q E h => ?len) (fun cdv A outer s H vs Q E hr h => ?body)
  case body =>
    refine ⟨_, (pss_cons (ps_if (pt_not (pt_val (pe_call (ok_is_node T) (hr.mono (by decide)) (by rfl) (T.gl 7 "is_node" rfl) (T.df 5 27 "is_node" rfl).kp ((T.df 5 27 "is_node" rfl).binds (ps := ["value", "places"]) fun _ _ _ _ _ _ us hl => match us, hl with | [_, _], _ => rfl) .nil pass0 (pa_cons (pv 1) (pa_cons (pe_fld (pv 0) rfl) pa_nil))))) (pss_one ps_never) pss_nil) (pss_one (ps_ret (pe_callTy (r := rListS K) call_list_of (by rfl) (T.fr 44 "list" rfl) (by decide +kernel) (pa_cons (pe_dget (u1 hr.units) (pe_fld (pv 0) rfl) (pv 1) (fun _ _ => rfl)) pa_nil))))), ?_⟩
    obtain ⟨ps, v, w, s, a, rfl, o, r, ra, ok, q⟩ := h
    obtain rfl : w = .str a := ra
    obtain ⟨ok, ha⟩ := ok
    refine q_whenR o (b := false) (et_is' (et_not' (et_B' (er_isnode (er_var rfl rfl) (sh_places (i := 0) rfl r T.cls (T.noat 64 "_places" rfl))))) (by rw [decide_eq_true ha]; rfl)) (fun z => nomatch z) fun _ H1 e1 => ?_
    have r := (rS_ K).m (Rm_mono e1) r
    exact s_retR (o.ex e1) (er_list (er_toQ (er_endsget (sh_ups (i := 0) rfl r T.cls (T.noat 65 "_ups" rfl)) (er_var rfl rfl) ha))) fun v H2 e2 t => q v H2 (e1.trans e2) t
  case len =>
    obtain ⟨ps, v, w, s, a, rfl, _⟩ := h
    rfl
theorem sc_sh_below : FnScope ["self", "node"] ["self", "node"] (defScope (shS 11)) := ⟨rfl, rfl, rfl, by decide +kernel, rfl, by decide +kernel, by decide +kernel⟩
theorem ok_sh_below (T : Tx K mg fd) : FnOk P w K mg base CX0 2 (He.ma K (shC K) "below") (fd 52) ["self", "node"] (Sp2 (rS_ K) rS (rL rS) beOf (fun s z => Sok s ∧ z ∈ s.1.flatten)) := by
  refine (T.dm 52 11 "below" "Sheet.below" rfl).ok sc_sh_below (fun vs H Q E h => ?len) (fun cdv A outer s H vs Q E hr h => ?body)
  case body =>
    refine ⟨_, (pss_cons (ps_if (pt_not (pt_val (pe_call (ok_is_node T) (hr.mono (by decide)) (by rfl) (T.gl 7 "is_node" rfl) (T.df 5 27 "is_node" rfl).kp ((T.df 5 27 "is_node" rfl).binds (ps := ["value", "places"]) fun _ _ _ _ _ _ us hl => match us, hl with | [_, _], _ => rfl) .nil pass0 (pa_cons (pv 1) (pa_cons (pe_fld (pv 0) rfl) pa_nil))))) (pss_one ps_never) pss_nil) (pss_one (ps_ret (pe_callTy (r := rListS K) call_list_of (by rfl) (T.fr 44 "list" rfl) (by decide +kernel) (pa_cons (pe_dget (u1 hr.units) (pe_fld (pv 0) rfl) (pv 1) (fun _ _ => rfl)) pa_nil))))), ?_⟩
    obtain ⟨ps, v, w, s, a, rfl, o, r, ra, ok, q⟩ := h
    obtain rfl : w = .str a := ra
    obtain ⟨ok, ha⟩ := ok
    refine q_whenR o (b := false) (et_is' (et_not' (et_B' (er_isnode (er_var rfl rfl) (sh_places (i := 0) rfl r T.cls (T.noat 64 "_places" rfl))))) (by rw [decide_eq_true ha]; rfl)) (fun z => nomatch z) fun _ H1 e1 => ?_
    have r := (rS_ K).m (Rm_mono e1) r
    exact s_retR (o.ex e1) (er_is (er_list (er_toQ (er_endsget (sh_downs (i := 0) rfl r T.cls (T.noat 66 "_downs" rfl)) (er_var rfl rfl) ha))) be_swp) fun v H2 e2 t => q v H2 (e1.trans e2) t
  case len =>
    obtain ⟨ps, v, w, s, a, rfl, _⟩ := h
    rfl
end
end K21
set_option Elab.async false
set_option linter.all false
set_option maxRecDepth 100000
set_option maxHeartbeats 4000000
namespace K21
open PySem PySem.Spec PyProof.Rows L2 Evl Gen RP
section
variable {P : Program} {w : World} {K : PySem.W.Frag} {mg : Str → Option Value} {base : Heap} {fd : Nat → FuncData}
theorem bi3 (T : Tx K mg fd) : Binds K (fd 46) ["self", "levels", "lines"] [] := by
  obtain ⟨ds, r, b⟩ := (T.ds 46 3 rfl).binds1 (ps := ["self", "levels", "lines"]) 3 1 (by simp) rfl (fun Tt kV doc pm an cdv ct us its h1 h2 => match us, its, h1, h2 with | [_, _, _], [_], _, _ => ⟨_, rfl, rfl⟩)
  cases r
  exact b
theorem bi2 (T : Tx K mg fd) : ∃ ds, Vals [V.ref (He.dflAt ("Sheet", some "__init__") 0 K)] ds ∧ Binds K (fd 46) ["self", "levels", "lines"] ds :=
  (T.ds 46 3 rfl).binds1 (ps := ["self", "levels", "lines"]) 2 0 (by simp) rfl (fun Tt kV doc pm an cdv ct us its h1 h2 => match us, its, h1, h2 with | [_, _], [_], _, _ => ⟨_, rfl, rfl⟩)
theorem er_swp {ps : List Addr} {σ : L2.St} {H : Hp} {tl : TE} {es : List (Str × Str)} {i j : Nat} {vs : List Nat} (h : EvR (rL rE) ps tl σ H es) (hz : es.length ≤ 1000) (hw : ∀ x y, wipe (((wipe σ vs).set i (some x)).set j (some y)) vs = wipe σ vs) (hi : ∀ x y, (((wipe σ vs).set i (some x)).set j (some y))[i]? = some (some x)) (hj : ∀ x y, (((wipe σ vs).set i (some x)).set j (some y))[j]? = some (some y)) :
    EvR (rL rE) ps (tLc (iList K tl) (gTup K 2 (gCons (gName i) (gCons (gName j) gNil))) tYes (tTup (tCons (tVar j) (tCons (tVar i) tNil))) vs) σ H (es.map swp) :=
  er_lc2 (R := rS) (S := rS) (T := rE) swp (wk_list h) (by omega) hw fun e he qs v w H1 _ _ _ r s => er_tup (er_var (hj v w) s) (er_var (hi v w) r)
/-! ### upside down -/
def invS (s : Sht) : Sht := mkS s.1.reverse (s.2.map swp)
theorem many_perm {a b : List (List Str)} (h : a.flatten.Perm b.flatten) : many a = many b := by rw [← many_flat, ← many_flat]; exact h.length_eq
theorem Fit.rev {ls : List (List Str)} {e : Str × Str} (h : Fit ls e) : Fit ls.reverse (swp e) := by
  obtain ⟨i, a, b, h1, h2, h3, h4⟩ := h
  have hi := (List.getElem?_eq_some_iff.mp h2).1
  refine ⟨ls.length - 1 - (i + 1), b, a, ?_, ?_, h4, h3⟩
  · rw [List.getElem?_reverse (by omega)]
    have : ls.length - 1 - (ls.length - 1 - (i + 1)) = i + 1 := by omega
    rw [this]
    exact h2
  · rw [List.getElem?_reverse (by omega)]
    have : ls.length - 1 - (ls.length - 1 - (i + 1) + 1) = i := by omega
    rw [this]
    exact h1
theorem flat_rev {ls : List (List Str)} : ls.reverse.flatten.Perm ls.flatten := (List.reverse_perm ls).flatten
theorem swp_inj {e f : Str × Str} (h : swp e = swp f) : e = f := by
  unfold swp at h
  exact Prod.ext (congrArg Prod.snd h) (congrArg Prod.fst h)
theorem Mk'.rev {ls : List (List Str)} {es : List (Str × Str)} (h : Mk' ls es) : Mk' ls.reverse (es.map swp) where
  lv := ⟨fun z => h.lv.some (List.reverse_eq_nil_iff.mp z), fun ws hw => h.lv.names ws (List.mem_reverse.mp hw), flat_rev.nodup_iff.mpr h.lv.once, by rw [many_perm flat_rev]; exact h.lv.few⟩
  w18 := fun l hl => h.w18 l (List.mem_reverse.mp hl)
  h12 := by rw [List.length_reverse]; exact h.h12
  fit := fun e he => by
    obtain ⟨f, hf, rfl⟩ := List.mem_map.mp he
    exact (h.fit f hf).rev
  nd := List.Pairwise.map _ (fun _ _ h z => h (swp_inj z)) h.nd
  z := by rw [List.length_map]; exact h.z
theorem sc_sh_invert : FnScope ["self", "low", "high"] ["self"] (defScope (shS 23)) := ⟨rfl, rfl, rfl, by decide +kernel, rfl, by decide +kernel, by decide +kernel⟩
theorem ok_sh_invert (T : Tx K mg fd) : FnOk P w K mg base CX0 7 (He.ma K (shC K) "__invert__") (fd 63) ["self"] (Sp1 (rS_ K) (rS_ K) invS Sok) := by
  refine (T.dm 63 23 "__invert__" "Sheet.__invert__" rfl).ok sc_sh_invert (fun vs H Q E h => ?len) (fun cdv A outer s H vs Q E hr h => ?body)
  case body =>
    refine ⟨_, (pss_one (ps_ret (pe_make T.mkr (ok_sh_init T) (hr.mono (by decide)) (by rfl) (T.gl 36 "Sheet" rfl) (bi3 T) .nil pass0 (pa_cons (pe_revL (pe_fld (pv 0) rfl)) (pa_cons (pe_lc (own := [("low", 1), ("high", 2)]) (g := gTup K 2 (gCons (gName 1) (gCons (gName 2) gNil))) rfl sc_sh_invert.nd (pi_list (pe_fld (pv 0) rfl)) (blkOk_by (N := ["self", "low", "high"]) (sc := (defScope (shS 23))) (own := [("low", 1), ("high", 2)]) (by decide +kernel)) (fun _ _ _ _ _ => (pg_tup rfl (pgs_cons (pg_name (i := 1) sc_sh_invert.nd rfl (Or.inl rfl)) (pgs_cons (pg_name (i := 2) sc_sh_invert.nd rfl (Or.inl rfl)) pgs_nil)))) (fun _ _ _ _ _ => pts_nil) (fun _ _ _ _ _ => (pe_tup (pa_cons (pv 2) (pa_cons (pv 1) pa_nil))))) pa_nil))))), ?_⟩
    obtain ⟨ps, v, s, rfl, o, r, ok, q⟩ := h
    exact s_retR o (er_make (er_rev (sh_levels (i := 0) rfl r T.cls (T.noat 61 "_levels" rfl))) (er_swp (sh_lines (i := 0) rfl r T.cls (T.noat 62 "_lines" rfl)) (Nat.le_trans ok.z (by decide)) (fun _ _ => rfl) (fun _ _ => rfl) (fun _ _ => rfl)) ok.mk'.rev) q
  case len =>
    obtain ⟨ps, v, s, rfl, _⟩ := h
    rfl
/-! ### one on top of another one -/
theorem er_din {ps : List Addr} {σ : L2.St} {H : Hp} {td ty : TE} {ls : List (List Str)} {z : Str} (h2 : EvR rS ps ty σ H z) (h : EvR rPl ps td σ H ls) : EvR rB ps (tDIn ty td) σ H (decide (z ∈ ls.flatten)) := fun H1 e o Q q =>
  h2 H1 e o _ fun w H2 e2 r2 => h H2 (e.trans e2) (o.ex e2) _ fun v H3 e3 r => by
    obtain ⟨p, kvs, rfl, h3, h4⟩ := r
    obtain rfl : w = .str z := r2
    refine ⟨p, _, rfl, DGet.k (k := .inr z) (Rm_ex _ _ h3), ?_⟩
    rw [place_isSome h4]
    exact q _ H3 (e2.trans e3) rfl
theorem s_whenR {ps : List Addr} {σ : L2.St} {H : Hp} {D : Ends} {t : TT} {tu : TS} {b : Bool} (o : Own ps H) (h : EtR ps t σ H b) (h1 : b = true → ∀ H1, Ex H H1 → tu D σ H1) (h2 : b = false → ∀ H1, Ex H H1 → D.nx σ H1) : tIfS t tu tNext D σ H := s_when (evt_of o h) h1 h2
def spApart : Sp := Sp2 (rL rS) rPl rU (fun _ _ => ()) (fun ns ls => (∀ z ∈ ns, z ∉ ls.flatten) ∧ ns.length ≤ 1000)
theorem sc_check_apart : FnScope ["nodes", "places", "common", "node"] ["nodes", "places"] (defScope (topS 32)) := ⟨rfl, rfl, rfl, by decide +kernel, rfl, by decide +kernel, by decide +kernel⟩
theorem ok_check_apart (T : Tx K mg fd) : FnOk P w K mg base CX0 1 (He.ga K "check_apart") (fd 10) ["nodes", "places"] spApart := by
  refine (T.df 10 32 "check_apart" rfl).ok sc_check_apart (fun vs H Q E h => ?len) (fun cdv A outer s H vs Q E hr h => ?body)
  case body =>
    refine ⟨_, (pss_cons (ps_setLc (i := 2) (own := [("node", 3)]) (g := gName 3) rfl sc_check_apart.nd rfl rfl (sw_true rfl rfl rfl (by decide +kernel)) (pi_list (pv 0)) (blkOk_by (N := ["nodes", "places", "common", "node"]) (sc := (defScope (topS 32))) (own := [("node", 3)]) (by decide +kernel)) (fun _ _ _ _ _ => (pg_name (i := 3) sc_check_apart.nd rfl (Or.inl rfl))) (fun _ _ _ _ _ => (pts_one (pt_cmp (pc_din (u1 hr.units) (pv 3) (pv 1))))) (fun _ _ _ _ _ => (pv 3))) (pss_one (ps_if (pt_cmpR op_gt (pe_callB call_len (by rfl) (T.fr 47 "len" rfl) (by decide +kernel) (pa_cons (pv 2) pa_nil)) pe_int (nomark _)) (pss_one ps_never) pss_nil))), ?_⟩
    obtain ⟨ps, v, w, ns, ls, rfl, o, r, ra, ⟨ok, hz⟩, q⟩ := h
    have hn : (ns.filter fun z => decide (z ∈ ls.flatten)).map id = [] := by
      rw [List.map_id, List.filter_eq_nil_iff]
      exact fun z hz => by rw [decide_eq_false (ok z hz)]; exact Bool.false_ne_true
    refine q_asgR' o (er_is (er_lc1F (R := rS) (S := rS) id (fun z => decide (z ∈ ls.flatten)) (wk_list (er_var rfl r)) (by omega) (fun _ => rfl) (fun z hz qs v H2 e2 o2 x2 r2 => et_test' (er_din (er_var rfl r2) (er_var rfl (rPl.m x2 ra)))) fun z hz _ qs v H2 _ _ _ r2 => er_var rfl r2) hn) fun v1 H1 e1 r1 => ?_
    refine s_whenR (o.ex e1) (b := false) (et_test' (er_B (ev_op (ev_I (o.ex e1) (er_lenL (er_toQ (er_var rfl r1)))) ev_c rv_I0))) (fun z => nomatch z) fun _ H2 e2 => q .non H2 (e1.trans e2) rfl
  case len =>
    obtain ⟨ps, v, w, ns, ls, rfl, _⟩ := h
    rfl
theorem er_isSh (T : Tx K mg fd) {ps : List Addr} {σ : L2.St} {H : Hp} {ta : TE} {s : Sht} (h : EvR (rS_ K) ps ta σ H s) : EvR rB ps (tCB (rIsi K) (tCons ta (tCons (tC (.ref (shC K))) tNil))) σ H true := fun H1 e o Q q => h H1 e o _ fun v H2 e2 r => by
  have r' := r
  obtain ⟨x, rfl, dx, p1, p2, p3, p4, p5, p6, kvs, h1, _⟩ := r'
  exact ⟨.ref x, .ref (shC K), .ref (shC K), .ref (shC K), true, rfl, .own _, .base (.ins (Rm_ex _ _ h1) T.cls T.cl1 T.cl2 T.cl3 T.cl4), T.kit, q _ H2 e2 rfl⟩
def overS (s t : Sht) : Sht := mkS (s.1 ++ t.1) (s.2 ++ t.2)
theorem er_apart {ps : List Addr} {σ : L2.St} {H : Hp} {ta tb : TE} {ns : List Str} {ls : List (List Str)} {E : XK} (h : EvR (rL rS) ps ta σ H ns) (h2 : EvR rPl ps tb σ H ls) (hn : ∀ z ∈ ns, z ∉ ls.flatten) (hz : ns.length ≤ 1000) : EvR rU ps (tCall spApart [] E (tCons ta (tCons tb tNil))) σ H () := er_call2 (f := fun _ _ => ()) h h2 ⟨hn, hz⟩
theorem sc_sh_rshift : FnScope ["self", "other"] ["self", "other"] (defScope (shS 25)) := ⟨rfl, rfl, rfl, by decide +kernel, rfl, by decide +kernel, by decide +kernel⟩
theorem ok_sh_rshift (T : Tx K mg fd) : FnOk P w K mg base CX0 7 (He.ma K (shC K) "__rshift__") (fd 65) ["self", "other"] (Sp2 (rS_ K) (rS_ K) (rS_ K) overS (fun s t => Sok s ∧ Sok t ∧ Mk' (s.1 ++ t.1) (s.2 ++ t.2))) := by
  refine (T.dm 65 25 "__rshift__" "Sheet.__rshift__" rfl).ok sc_sh_rshift (fun vs H Q E h => ?len) (fun cdv A outer s H vs Q E hr h => ?body)
  case body =>
    refine ⟨_, (pss_cons (ps_if (pt_not (pt_val (pe_callB call_isi (by rfl) (T.fr 40 "isinstance" rfl) (by decide +kernel) (pa_cons (pv 1) (pa_cons (pe_glob (v := V.ref (He.ga K "Sheet")) (by rfl) (T.gl 36 "Sheet" rfl) rfl) pa_nil))))) (pss_one ps_never) pss_nil) (pss_cons (ps_expr (pe_call (ok_check_apart T) (hr.mono (by decide)) (by rfl) (T.gl 12 "check_apart" rfl) (T.df 10 32 "check_apart" rfl).kp ((T.df 10 32 "check_apart" rfl).binds (ps := ["nodes", "places"]) fun _ _ _ _ _ _ us hl => match us, hl with | [_, _], _ => rfl) .nil pass0 (pa_cons (pe_fld (pv 0) rfl) (pa_cons (pe_fld (pv 1) rfl) pa_nil)))) (pss_one (ps_ret (pe_make T.mkr (ok_sh_init T) (hr.mono (by decide)) (by rfl) (T.gl 36 "Sheet" rfl) (bi3 T) .nil pass0 (pa_cons (pe_op op_cat (pe_fld (pv 0) rfl) (pe_fld (pv 1) rfl)) (pa_cons (pe_op op_cat (pe_fld (pv 0) rfl) (pe_fld (pv 1) rfl)) pa_nil))))))), ?_⟩
    obtain ⟨ps, v, w, s, a, rfl, o, r, ra, ok, q⟩ := h
    obtain ⟨ok, ok2, ok3⟩ := ok
    refine q_whenR o (b := false) (et_is' (et_not' (et_B' (er_isSh T (er_var rfl ra)))) rfl) (fun z => nomatch z) fun _ H1 e1 => ?_
    have r := (rS_ K).m (Rm_mono e1) r
    have ra := (rS_ K).m (Rm_mono e1) ra
    have o1 := o.ex e1
    refine q_dropR o1 (er_apart (sh_nodes (i := 0) rfl r T.cls (T.noat 63 "_nodes" rfl)) (sh_places (i := 1) rfl ra T.cls (T.noat 64 "_places" rfl)) (fun z h1 h2 => ?_) ?_) fun H2 e2 => ?_
    · have := ok3.lv.once
      rw [List.flatten_append] at this
      exact (List.nodup_append.mp this).2.2 z h1 z h2 rfl
    · rw [many_flat]
      exact Nat.le_trans ok.lv.few (by decide)
    have r := (rS_ K).m (Rm_mono e2) r
    have ra := (rS_ K).m (Rm_mono e2) ra
    have h1 := ok.h12
    have h2 := ok2.h12
    have h3 := ok.z
    have h4 := ok2.z
    exact s_retR (o1.ex e2) (er_make (er_cat (sh_levels (i := 0) rfl r T.cls (T.noat 61 "_levels" rfl)) (sh_levels (i := 1) rfl ra T.cls (T.noat 61 "_levels" rfl)) (by omega)) (er_cat (sh_lines (i := 0) rfl r T.cls (T.noat 62 "_lines" rfl)) (sh_lines (i := 1) rfl ra T.cls (T.noat 62 "_lines" rfl)) (by omega)) ok3) fun v H3 e3 t => q v H3 ((e1.trans e2).trans e3) t
  case len =>
    obtain ⟨ps, v, w, s, a, rfl, _⟩ := h
    rfl
/-! ### cut -/
def cutS (s : Sht) (a b : Nat) : Sht := mkS ((s.1.drop a).take (b + 1 - a)) (s.2.filter fun e => decide (a ≤ lvlOf s e.1) && decide (lvlOf s e.2 ≤ b))
theorem lvlOf_eq {s : Sht} (ok : Sok s) {z : Str} {i : Nat} {a : List Str} (h1 : s.1[i]? = some a) (h2 : z ∈ a) : lvlOf s z = i := by
  have hm : z ∈ s.1.flatten := List.mem_flatten.mpr ⟨a, List.mem_of_getElem? h1, h2⟩
  obtain ⟨b, h3, h4⟩ := lvlOf_get hm
  exact apart ok.lv.once h3 h1 h4 h2
theorem fit_lvl {s : Sht} (ok : Sok s) {e : Str × Str} (he : e ∈ s.2) : lvlOf s e.2 = lvlOf s e.1 + 1 := by
  obtain ⟨i, a, b, h1, h2, h3, h4⟩ := ok.fit e he
  rw [lvlOf_eq ok h1 h3, lvlOf_eq ok h2 h4]
theorem sub_flat {l m : List (List Str)} (h : l.Sublist m) : l.flatten.Sublist m.flatten := by
  induction h with
  | slnil => exact List.Sublist.refl _
  | cons a h ih =>
    rw [List.flatten_cons]
    exact ih.trans (List.sublist_append_right _ _)
  | cons_cons a h ih =>
    rw [List.flatten_cons, List.flatten_cons]
    exact (List.Sublist.refl _).append ih
theorem flat_mid {ls : List (List Str)} {a n : Nat} : ((ls.drop a).take n).flatten.Sublist ls.flatten := sub_flat ((List.take_sublist _ _).trans (List.drop_sublist _ _))
theorem many_sub {l m : List (List Str)} (h : l.flatten.Sublist m.flatten) : many l ≤ many m := by rw [← many_flat, ← many_flat]; exact h.length_le
theorem cut_mk {s : Sht} (ok : Sok s) {a b : Nat} (hab : a ≤ b) (hb : b < s.1.length) : Mk' ((s.1.drop a).take (b + 1 - a)) (s.2.filter fun e => decide (a ≤ lvlOf s e.1) && decide (lvlOf s e.2 ≤ b)) where
  lv := ⟨fun z => by
    have : ((s.1.drop a).take (b + 1 - a)).length = 0 := by rw [z]; rfl
    rw [List.length_take, List.length_drop] at this
    omega, fun ws hw => ok.lv.names ws (List.mem_of_mem_drop (List.mem_of_mem_take hw)), flat_mid.nodup ok.lv.once, Nat.le_trans (many_sub flat_mid) ok.lv.few⟩
  w18 := fun l hl => ok.w18 l (List.mem_of_mem_drop (List.mem_of_mem_take hl))
  h12 := by
    have := ok.h12
    rw [List.length_take, List.length_drop]
    omega
  fit := fun e he => by
    rw [List.mem_filter, Bool.and_eq_true, decide_eq_true_eq, decide_eq_true_eq] at he
    obtain ⟨hm, h1, h2⟩ := he
    obtain ⟨i, x, y, h3, h4, h5, h6⟩ := ok.fit e hm
    rw [lvlOf_eq ok h3 h5] at h1
    rw [lvlOf_eq ok h4 h6] at h2
    refine ⟨i - a, x, y, ?_, ?_, h5, h6⟩
    · rw [List.getElem?_take_of_lt (by omega), List.getElem?_drop]
      rw [show a + (i - a) = i by omega]
      exact h3
    · rw [List.getElem?_take_of_lt (by omega), List.getElem?_drop]
      rw [show a + (i - a + 1) = i + 1 by omega]
      exact h4
  nd := ok.nd.filter _
  z := Nat.le_trans (List.length_filter_le _ _) ok.z
theorem lvl_place {s : Sht} {z : Str} (h : z ∈ s.1.flatten) : ∃ a, s.1[lvlOf s z]? = some a ∧ z ∈ a := lvlOf_get h
theorem sc_sh_cut : FnScope ["self", "first", "last", "lines", "low", "high"] ["self", "first", "last"] (defScope (shS 29)) := ⟨rfl, rfl, rfl, by decide +kernel, rfl, by decide +kernel, by decide +kernel⟩
theorem ok_sh_cut (T : Tx K mg fd) : FnOk P w K mg base CX0 7 (He.ma K (shC K) "cut") (fd 69) ["self", "first", "last"] (Sp3 (rS_ K) rN rN (rS_ K) cutS (fun s a b => Sok s ∧ a ≤ b ∧ b < s.1.length)) := by
  refine (T.dm 69 29 "cut" "Sheet.cut" rfl).ok sc_sh_cut (fun vs H Q E h => ?len) (fun cdv A outer s H vs Q E hr h => ?body)
  case body =>
    refine ⟨_, (pss_cons (ps_if (pt_not (pt_val (pe_meth (pv 0) T.cls (T.meth 91 "_is_level" rfl) (ok_sh_is_level T) (hr.mono (by decide)) ((T.dm 71 31 "_is_level" "Sheet._is_level" rfl).binds (ps := ["self", "value"]) fun _ _ _ _ _ _ us hl => match us, hl with | [_, _], _ => rfl) .nil pass0 (pa_cons (pv 1) pa_nil)))) (pss_one ps_never) pss_nil) (pss_cons (ps_if (PW.pt (pw_or (pt_not (pt_val (pe_meth (pv 0) T.cls (T.meth 91 "_is_level" rfl) (ok_sh_is_level T) (hr.mono (by decide)) ((T.dm 71 31 "_is_level" "Sheet._is_level" rfl).binds (ps := ["self", "value"]) fun _ _ _ _ _ _ us hl => match us, hl with | [_, _], _ => rfl) .nil pass0 (pa_cons (pv 2) pa_nil)))) (pw_or1 (pt_cmpR op_lt (pv 2) (pv 1) (nomark _))))) (pss_one ps_never) pss_nil) (pss_cons (ps_setLc (i := 3) (own := [("low", 4), ("high", 5)]) (g := gTup K 2 (gCons (gName 4) (gCons (gName 5) gNil))) rfl sc_sh_cut.nd rfl rfl (sw_true rfl rfl rfl (by decide +kernel)) (pi_list (pe_fld (pv 0) rfl)) (blkOk_by (N := ["self", "first", "last", "lines", "low", "high"]) (sc := (defScope (shS 29))) (own := [("low", 4), ("high", 5)]) (by decide +kernel)) (fun _ _ _ _ _ => (pg_tup rfl (pgs_cons (pg_name (i := 4) sc_sh_cut.nd rfl (Or.inl rfl)) (pgs_cons (pg_name (i := 5) sc_sh_cut.nd rfl (Or.inl rfl)) pgs_nil)))) (fun _ _ _ _ _ => (pts_one (PW.pt (pw_and (pt_cmpR op_le (pv 1) (pe_dget (u1 hr.units) (pe_fldK (K := K) rfl (pv 0) rfl) (pv 4) (fun _ _ => rfl)) (nomark _)) (pw_and1 (pt_cmpR op_le (pe_dget (u1 hr.units) (pe_fldK (K := K) rfl (pv 0) rfl) (pv 5) (fun _ _ => rfl)) (pv 2) (nomark _))))))) (fun _ _ _ _ _ => (pe_tup (pa_cons (pv 4) (pa_cons (pv 5) pa_nil))))) (pss_one (ps_ret (pe_make T.mkr (ok_sh_init T) (hr.mono (by decide)) (by rfl) (T.gl 36 "Sheet" rfl) (bi3 T) .nil pass0 (pa_cons (pe_slice sl_list (pe_fld (pv 0) rfl) (po_some (pv 1)) (po_some (pe_op op_add (pv 2) pe_int))) (pa_cons (pv 3) pa_nil)))))))), ?_⟩
    obtain ⟨ps, v, w, u, s, a, b, rfl, o, r, ra, rb, ok, q⟩ := h
    obtain rfl : w = .int (a : Int) := ra
    obtain rfl : u = .int (b : Int) := rb
    obtain ⟨ok, hab, hb⟩ := ok
    refine q_whenR o (b := false) (et_is' (et_not' (et_B' (et_isLv (er_var rfl r) (er_var rfl rfl) ok))) (by rw [isLv_nat (by omega)]; rfl)) (fun z => nomatch z) fun _ H1 e1 => ?_
    have r := (rS_ K).m (Rm_mono e1) r
    have o1 := o.ex e1
    refine q_whenR o1 (b := false) (et_is' (et_or' (et_not' (et_B' (et_isLv (er_var rfl r) (er_var rfl rfl) ok))) fun _ => et_test' (er_B (ev_op (ev_var rfl) (ev_var rfl) rv_I0))) (by rw [isLv_nat hb, decide_eq_false (by omega : ¬ ((b : Int) < (a : Int)))]; rfl)) (fun z => nomatch z) fun _ H2 e2 => ?_
    have r := (rS_ K).m (Rm_mono e2) r
    have o2 := o1.ex e2
    refine q_asgR' o2 (er_is (er_lc2F (R := rS) (S := rS) (T := rE) id (fun e => decide (a ≤ lvlOf s e.1) && decide (lvlOf s e.2 ≤ b)) (wk_list (sh_lines (i := 0) rfl r T.cls (T.noat 62 "_lines" rfl))) (Nat.le_trans ok.z (by decide)) (fun _ _ => rfl) (fun e he qs v w H3 e3 o3 x3 r3 s3 => ?_) fun e he _ qs v w H3 _ _ _ r3 s3 => er_tup (er_var rfl r3) (er_var rfl s3)) (List.map_id _)) fun v3 H3 e3 r3 => ?_
    · have r := (rS_ K).m x3 r
      have hf := ok.fit e he
      obtain ⟨c, h1, h2⟩ := lvlOf_get hf.in1
      obtain ⟨d, h3, h4⟩ := lvlOf_get hf.in2
      refine et_is' (et_and' (et_test' (er_B (ev_op (ev_var rfl) (ev_I o3 (er_N (er_place (sh_places (i := 0) rfl r T.cls (T.noat 64 "_places" rfl)) (er_var rfl r3) h1 h2))) rv_I0))) fun _ => et_test' (er_B (ev_op (ev_I o3 (er_N (er_place (sh_places (i := 0) rfl r T.cls (T.noat 64 "_places" rfl)) (er_var rfl s3) h3 h4))) (ev_var rfl) rv_I0))) ?_
      congr 1
      · exact decide_eq_decide.mpr (by omega)
      · exact decide_eq_decide.mpr (by omega)
    have r := (rS_ K).m (Rm_mono e3) r
    refine s_retR (o2.ex e3) (er_make (er_is (er_sl (sh_levels (i := 0) rfl r T.cls (T.noat 61 "_levels" rfl)) (eo_some (ev_var rfl)) (eo_some (ev_op (ev_var rfl) ev_c rv_I0))) ?_) (er_var rfl r3) (cut_mk ok hab hb)) fun v H4 e4 t => q v H4 (((e1.trans e2).trans e3).trans e4) t
    have e5 : ((b : Int) + 1) = ((b + 1 : Nat) : Int) := by omega
    rw [e5, HT.sIx_nat, HT.sIx_nat, Nat.min_eq_left (by omega), Nat.min_eq_left (by omega)]
  case len =>
    obtain ⟨ps, v, w, u, s, a, b, rfl, _⟩ := h
    rfl
end
end K21
set_option Elab.async false
set_option linter.all false
set_option maxRecDepth 100000
set_option maxHeartbeats 4000000
/-! own dicts, displays with a star, tests of texts in lists -/
namespace RP
open PySem PySem.Spec PyProof.Rows L2 Evl Gen
section
variable {α β γ : Type} {R : Rp α} {S : Rp β} {T : Rp γ} {K : PySem.W.Frag} {ps : List Addr} {σ : L2.St} {H H' : Hp} {ta tb tc td te tl ty tv : TE} {tr : TA} {tt : TT} {v w : V} {a : α} {b : β} {c : γ} {D : Ends} {tu tz : TS} {p : Addr}
/-- put in behind, if not there -/
def add1 [DecidableEq α] (l : List α) (e : α) : List α := if e ∈ l then l else l ++ [e]
def adds [DecidableEq α] (l es : List α) : List α := es.foldl add1 l
theorem adds_nil [DecidableEq α] {l : List α} : adds l [] = l := rfl
theorem adds_snoc [DecidableEq α] {l es : List α} {e : α} : adds l (es ++ [e]) = add1 (adds l es) e := by unfold adds; rw [List.foldl_append]; rfl
theorem adds_app [DecidableEq α] {l es fs : List α} : adds l (es ++ fs) = adds (adds l es) fs := by unfold adds; rw [List.foldl_append]
theorem mem_add1 [DecidableEq α] {l : List α} {e x : α} : x ∈ add1 l e ↔ x ∈ l ∨ x = e := by
  unfold add1
  split
  · rename_i h
    exact ⟨fun m => .inl m, fun m => m.elim id fun z => by rw [z]; exact h⟩
  · rw [List.mem_append, List.mem_singleton]
theorem mem_adds [DecidableEq α] {es l : List α} {x : α} : x ∈ adds l es ↔ x ∈ l ∨ x ∈ es := by
  induction es generalizing l with
  | nil => exact ⟨fun m => .inl m, fun m => m.elim id fun z => nomatch z⟩
  | cons e r ih =>
    show x ∈ adds (add1 l e) r ↔ _
    rw [ih, mem_add1, List.mem_cons, or_assoc]
theorem nd_add1 [DecidableEq α] {l : List α} {e : α} (h : l.Nodup) : (add1 l e).Nodup := by
  unfold add1
  split
  · exact h
  · rename_i n
    exact List.nodup_append.mpr ⟨h, List.nodup_cons.mpr ⟨List.not_mem_nil, List.nodup_nil⟩, fun x hx y hy z => n (by rw [List.mem_singleton] at hy; rw [← hy, ← z]; exact hx)⟩
theorem nd_adds [DecidableEq α] {es l : List α} (h : l.Nodup) : (adds l es).Nodup := by
  induction es generalizing l with
  | nil => exact h
  | cons e r ih => exact ih (nd_add1 h)
theorem len_add1 [DecidableEq α] {l : List α} {e : α} : (add1 l e).length ≤ l.length + 1 := by
  unfold add1
  split
  · omega
  · rw [List.length_append]; exact Nat.le_refl _
theorem len_adds [DecidableEq α] {es l : List α} : (adds l es).length ≤ l.length + es.length := by
  induction es generalizing l with
  | nil => exact Nat.le_refl _
  | cons e r ih =>
    have h1 := ih (l := add1 l e)
    have h2 := len_add1 (l := l) (e := e)
    show (adds (add1 l e) r).length ≤ _
    rw [List.length_cons]
    omega
theorem adds_new [DecidableEq α] {es l : List α} (h : (l ++ es).Nodup) : adds l es = l ++ es := by
  induction es generalizing l with
  | nil => exact (List.append_nil l).symm
  | cons e r ih =>
    have hn : e ∉ l := fun m => (List.nodup_append.mp h).2.2 e m e (List.mem_cons_self ..) rfl
    have e1 : add1 l e = l ++ [e] := by unfold add1; rw [if_neg hn]
    show adds (add1 l e) r = _
    rw [e1, ih (by rw [List.append_assoc]; exact h), List.append_assoc]
    rfl
theorem keys_put {κ : Type} [DecidableEq κ] (kvs : List (κ × V)) (k : κ) (v : V) : (putK kvs k v).map Prod.fst = add1 (kvs.map Prod.fst) k := by
  have hh : (kvs.any fun kv => decide (kv.1 = k)) = decide (k ∈ kvs.map Prod.fst) := by
    rw [Bool.eq_iff_iff, List.any_eq_true, decide_eq_true_eq, List.mem_map]
    exact ⟨fun ⟨x, h1, h2⟩ => ⟨x, h1, of_decide_eq_true h2⟩, fun ⟨x, h1, h2⟩ => ⟨x, h1, decide_eq_true h2⟩⟩
  unfold putK add1
  rw [hh]
  by_cases h : k ∈ kvs.map Prod.fst
  · rw [if_pos (decide_eq_true h), if_pos h, List.map_map]
    refine List.map_congr_left fun x _ => ?_
    show (if x.1 = k then (x.1, v) else x).1 = x.1
    split <;> rfl
  · rw [if_neg (by rw [decide_eq_false h]; decide), if_neg h, List.map_append]
    rfl
theorem add1_map [DecidableEq α] [DecidableEq β] {f : α → β} (hf : ∀ x y, f x = f y → x = y) {l : List α} {e : α} : add1 (l.map f) (f e) = (add1 l e).map f := by
  unfold add1
  by_cases h : e ∈ l
  · rw [if_pos h, if_pos (List.mem_map.mpr ⟨e, h, rfl⟩)]
  · rw [if_neg h, if_neg fun m => h (by obtain ⟨x, h1, h2⟩ := List.mem_map.mp m; rw [← hf x e h2]; exact h1), List.map_append]
    rfl
/-- keys: pairs of texts -/
def lk2 (e : Str × Str) : List L2.Key := [.inr e.1, .inr e.2]
theorem lk2_inj (e f : Str × Str) (h : lk2 e = lk2 f) : e = f := by
  unfold lk2 at h
  injection h with h1 h2
  injection h2 with h2 _
  injection h1 with h1
  injection h2 with h2
  exact Prod.ext h1 h2
/-- an own dict: its keys -/
def DT (ps : List Addr) (H : Hp) (p : Addr) (es : List (Str × Str)) : Prop := p ∈ ps ∧ ∃ kvs, H p = some (.dT kvs) ∧ kvs.map Prod.fst = es.map lk2
def DK (ps : List Addr) (H : Hp) (p : Addr) (ns : List Str) : Prop := p ∈ ps ∧ ∃ kvs, H p = some (.dK kvs) ∧ kvs.map Prod.fst = ns.map Sum.inr
theorem DT.ex {es : List (Str × Str)} (h : DT ps H p es) (e : Ex H H') : DT ps H' p es := let ⟨m, kvs, h1, h2⟩ := h; ⟨m, kvs, e _ _ h1, h2⟩
theorem DK.ex {ns : List Str} (h : DK ps H p ns) (e : Ex H H') : DK ps H' p ns := let ⟨m, kvs, h1, h2⟩ := h; ⟨m, kvs, e _ _ h1, h2⟩
theorem DK.oth {q : Addr} {ns : List Str} (h : DK ps H q ns) (n : q ≠ p) (o : Oth p H H') : DK ps H' q ns := let ⟨m, kvs, h1, h2⟩ := h; ⟨m, kvs, o _ _ n h1, h2⟩
theorem new_own (o : Own ps H) {ob : HO} (hp : H p = none) (hn : ∀ xs, ob ≠ .tup xs := by intro _ z; cases z) : Own (p :: ps) (upd H p ob) ∧ Ex (Rm ps H) (Rm (p :: ps) (upd H p ob)) :=
  ⟨(o.ex (Ex.new hp)).push upd_same hn, fun b ob h => by
    have n : b ≠ p := fun z => by rw [z, Rm_none hp] at h; cases h
    exact Rm_get (by rw [upd_ne n]; exact Rm_ex _ _ h) (fun m => (List.mem_cons.mp m).elim n fun m => by rw [Rm_own m] at h; cases h)⟩
theorem q_newDT {i : Nat} (o : Own ps H) (k : ∀ p H1, Ex H H1 → p ∉ ps → H p = none → Own (p :: ps) H1 → Ex (Rm ps H) (Rm (p :: ps) H1) → DT (p :: ps) H1 p [] → tz D (σ.set i (some (.ref p))) H1) : tSeq (tAsg tDNewT (gName i)) tz D σ H :=
  fun p hp => k p _ (Ex.new hp) (o.nin hp) hp (new_own o hp).1 (new_own o hp).2 ⟨List.mem_cons_self .., [], upd_same, rfl⟩
theorem q_newDK {i : Nat} (o : Own ps H) (k : ∀ p H1, Ex H H1 → p ∉ ps → H p = none → Own (p :: ps) H1 → Ex (Rm ps H) (Rm (p :: ps) H1) → DK (p :: ps) H1 p [] → tz D (σ.set i (some (.ref p))) H1) : tSeq (tAsg tDNewK (gName i)) tz D σ H :=
  fun p hp => k p _ (Ex.new hp) (o.nin hp) hp (new_own o hp).1 (new_own o hp).2 ⟨List.mem_cons_self .., [], upd_same, rfl⟩
theorem s_putT {es : List (Str × Str)} {e : Str × Str} (o : Own ps H) (l : DT ps H p es) (hd : Ev td σ H (.ref p)) (hy : EvR rE ps ty σ H e) (hv : Ev tv σ H v) (hz : es.length < 100000)
    (k : ∀ H1, Fr ps H H1 → DT ps H1 p (add1 es e) → Oth p H H1 → D.nx σ H1) : sDPut td ty tv D σ H := hv H (Ex.refl H) _ fun H1 e1 => hd H1 e1 _ fun H2 e2 => hy H2 (e1.trans e2) (o.ex (e1.trans e2)) _ fun y H3 e3 r => by
  obtain ⟨m, kvs, h1, h2⟩ := l
  obtain ⟨b, y1, y2, rfl, hb, rfl, rfl⟩ := r
  have e13 := (e1.trans e2).trans e3
  have hl : kvs.length = es.length := by rw [← List.length_map Prod.fst, h2, List.length_map]
  refine ⟨p, _, rfl, DPut.t (k := lk2 e) (e13 _ _ h1) (Rm_ex _ _ hb) (sz_lt (by omega)), k _ ((Fr.of o e13).upd m) ⟨m, _, upd_same, ?_⟩ (Oth.upd e13)⟩
  rw [keys_put, h2, add1_map lk2_inj]
theorem s_putK {ns : List Str} {x : Str} (o : Own ps H) (l : DK ps H p ns) (hd : Ev td σ H (.ref p)) (hy : EvR rS ps ty σ H x) (hv : Ev tv σ H v) (hz : ns.length < 100000)
    (k : ∀ H1, Fr ps H H1 → DK ps H1 p (add1 ns x) → Oth p H H1 → D.nx σ H1) : sDPut td ty tv D σ H := hv H (Ex.refl H) _ fun H1 e1 => hd H1 e1 _ fun H2 e2 => hy H2 (e1.trans e2) (o.ex (e1.trans e2)) _ fun y H3 e3 r => by
  obtain ⟨m, kvs, h1, h2⟩ := l
  obtain rfl : y = .str x := r
  have e13 := (e1.trans e2).trans e3
  have hl : kvs.length = ns.length := by rw [← List.length_map Prod.fst, h2, List.length_map]
  refine ⟨p, _, rfl, DPut.k (k := .inr x) (e13 _ _ h1) (sz_lt (by omega)), k _ ((Fr.of o e13).upd m) ⟨m, _, upd_same, ?_⟩ (Oth.upd e13)⟩
  rw [keys_put, h2, add1_map (f := (Sum.inr : Str → L2.Key)) (fun x y z => Sum.inr.inj z)]
theorem q_putK {ns : List Str} {x : Str} (o : Own ps H) (l : DK ps H p ns) (hd : Ev td σ H (.ref p)) (hy : EvR rS ps ty σ H x) (hv : Ev tv σ H v) (hz : ns.length < 100000)
    (k : ∀ H1, Fr ps H H1 → DK ps H1 p (add1 ns x) → Oth p H H1 → tz D σ H1) : tSeq (sDPut td ty tv) tz D σ H := s_putK (D := { D with nx := tz D }) o l hd hy hv hz k
/-- is a text among the keys -/
theorem val_some {kvs : List (L2.Key × V)} {ns : List Str} (h : kvs.map Prod.fst = ns.map Sum.inr) (x : Str) : (valV kvs (.inr x)).isSome = decide (x ∈ ns) := by
  rw [← valV_any, Bool.eq_iff_iff, List.any_eq_true, decide_eq_true_eq]
  have hm : (Sum.inr x : L2.Key) ∈ kvs.map Prod.fst ↔ x ∈ ns := by
    rw [h, List.mem_map]
    exact ⟨fun ⟨y, h1, h2⟩ => by rw [← Sum.inr.inj h2]; exact h1, fun m => ⟨x, m, rfl⟩⟩
  rw [← hm, List.mem_map]
  exact ⟨fun ⟨y, h1, h2⟩ => ⟨y, h1, of_decide_eq_true h2⟩, fun ⟨y, h1, h2⟩ => ⟨y, h1, decide_eq_true h2⟩⟩
theorem er_inDK {ns : List Str} {x : Str} (o : Own ps H) (l : DK ps H p ns) (hy : EvR rS ps ty σ H x) (hd : Ev td σ H (.ref p)) : EvR rB ps (tDIn ty td) σ H (decide (x ∈ ns)) := fun H1 e o1 Q q =>
  hy H1 e o1 _ fun y H2 e2 r => hd H2 (e.trans e2) _ fun H3 e3 => by
    obtain ⟨m, kvs, h1, h2⟩ := l
    obtain rfl : y = .str x := r
    refine ⟨p, _, rfl, DGet.k (k := .inr x) (((e.trans e2).trans e3) _ _ h1), ?_⟩
    rw [val_some h2]
    exact q _ H3 (e2.trans e3) rfl
theorem er_notinDK {ns : List Str} {x : Str} (o : Own ps H) (l : DK ps H p ns) (hy : EvR rS ps ty σ H x) (hd : Ev td σ H (.ref p)) : EvR rB ps (tDNotIn ty td) σ H (!decide (x ∈ ns)) := fun H1 e o1 Q q =>
  hy H1 e o1 _ fun y H2 e2 r => hd H2 (e.trans e2) _ fun H3 e3 => by
    obtain ⟨m, kvs, h1, h2⟩ := l
    obtain rfl : y = .str x := r
    refine ⟨p, _, rfl, DGet.k (k := .inr x) (((e.trans e2).trans e3) _ _ h1), ?_⟩
    rw [val_some h2]
    exact q _ H3 (e2.trans e3) rfl
/-- a dict by texts: its keys -/
def rD : Rp (List Str) := ⟨fun ns v H => ∃ p kvs, v = .ref p ∧ H p = some (.dK kvs) ∧ kvs.map Prod.fst = ns.map Sum.inr, fun e ⟨p, kvs, h1, h2, h3⟩ => ⟨p, kvs, h1, e _ _ h2, h3⟩⟩
theorem DK.rep {ns : List Str} (h : DK (p :: ps) H p ns) (n : p ∉ ps) : rD.p ns (.ref p) (Rm ps H) := let ⟨_, kvs, h1, h2⟩ := h; ⟨p, kvs, rfl, Rm_get h1 n, h2⟩
theorem er_inD {ns : List Str} {x : Str} (hy : EvR rS ps ty σ H x) (hd : EvR rD ps td σ H ns) : EvR rB ps (tDIn ty td) σ H (decide (x ∈ ns)) := fun H1 e o1 Q q =>
  hy H1 e o1 _ fun y H2 e2 r => hd H2 (e.trans e2) (o1.ex e2) _ fun w H3 e3 rw' => by
    obtain ⟨p, kvs, rfl, h1, h2⟩ := rw'
    obtain rfl : y = .str x := r
    refine ⟨p, _, rfl, DGet.k (k := .inr x) (Rm_ex _ _ h1), ?_⟩
    rw [val_some h2]
    exact q _ H3 (e2.trans e3) rfl
/-- a text in a list of texts -/
theorem er_inL {ns : List Str} {x : Str} {r : R2} (hr : ∀ (q : Addr) (ns : List Str) (x : Str) (H1 : Hp) (Q : VK), SqL K H1 q (List.map V.str ns) → Q (.bl (decide (x ∈ ns))) H1 → r (.str x) (.ref q) H1 Q) (hy : EvR rS ps ty σ H x) (hd : EvR (rL rS) ps td σ H ns) : EvR rB ps (tOp r ty td) σ H (decide (x ∈ ns)) := er_op hy hd fun v w H1 e o rv rw' Q q => by
  obtain rfl : v = .str x := rv
  obtain ⟨p, rfl, h1⟩ := rLS_at rw'
  exact hr p ns x H1 Q (sq_of (Rm_ex _ _ h1)) (q _ H1 (Ex.refl _) rfl)
/-- list(d), d an own dict by pairs -/
theorem keys_all {H1 : Hp} (o : Own ps H1) : ∀ {es : List (Str × Str)} {kvs : List (List L2.Key × V)} {bs : List Addr}, kvs.map Prod.fst = es.map lk2 → IsKeys H1 kvs bs → All2 (fun x y => rE.p x y (Rm ps H1)) es (bs.map V.ref)
  | [], [], [], _, _ => trivial
  | e :: es, kv :: kvs, b :: bs, h, k => by
    cases k with
    | cons h1 h2 =>
      rw [List.map_cons, List.map_cons] at h
      injection h with ha hb
      rw [ha] at h1
      exact ⟨⟨b, .str e.1, .str e.2, rfl, Rm_get h1 (o.tup h1), rfl, rfl⟩, keys_all o hb h2⟩
  | [], _ :: _, _, h, _ => nomatch h
  | _ :: _, [], _, h, _ => nomatch h
  | [], [], _ :: _, _, k => nomatch k
  | _ :: _, _ :: _, [], _, k => nomatch k
theorem er_listDT {es : List (Str × Str)} {r : List V → Hp → VK → Prop} (l : DT ps H p es) (hd : Ev td σ H (.ref p)) (hr : ∀ (kvs : List (List L2.Key × V)) (H1 : Hp) (Q : VK), H1 p = some (.dT kvs) → (∀ (l : Addr) (bs : List Addr), H1 l = none → IsKeys H1 kvs bs → Q (.ref l) (upd H1 l (.lst (bs.map V.ref)))) → r [.ref p] H1 Q) : EvR (rL rE) ps (tCB r (tCons td tNil)) σ H es := fun H0 e o Q q => hd H0 e _ fun H1 e1 => by
  obtain ⟨m, kvs, h1, h2⟩ := l
  refine hr kvs H1 Q ((e.trans e1) _ _ h1) fun l bs hl hk => q _ _ (e1.trans (Ex.new hl)) ⟨l, _, rfl, Rm_get upd_same ((o.ex e1).nin hl), ?_⟩
  exact (keys_all (o.ex e1) h2 hk).imp fun _ _ r => rE.m (Rm_mono (Ex.new hl)) r
/-- [*xs, ..] -/
theorem eas_star {as bs : List α} (h : EvR (rL R) ps te σ H as) (hr : EaR R ps tr σ H bs) : EaR R ps (StX.tStar K te tr) σ H (as ++ bs) := fun H1 e o Q q => h H1 e o _ fun v H2 e2 r => by
  obtain ⟨p, vs, rfl, h1, h2⟩ := r
  refine ⟨p, vs, rfl, .inr (sq_of (Rm_ex _ _ h1)), hr H2 (e.trans e2) (o.ex e2) _ fun ws H3 e3 rs => q _ H3 (e2.trans e3) ((h2.imp fun _ _ r => R.m (Rm_mono e3) r).app rs)⟩
/-- for x in d: own[x] = True -/
theorem q_mark {i j k : Nat} {ns es : List Str} {d : Addr} (o : Own ps H) (hi : σ[i]? = some (some (.ref d))) (hk : σ[k]? = some (some (.ref p))) (hj : j < σ.length) (nk : k ≠ j) (hd : rD.p ns (.ref d) (Rm ps H)) (l : DK ps H p es) (hz : es.length + ns.length < 50000)
    (kk : ∀ x H1, Fr ps H H1 → DK ps H1 p (adds es ns) → Oth p H H1 → tz D (σ.set j x) H1) : tSeq (tLock (tFor (iKeys (tVar i)) (gName j) (sDPut (tVar k) (tVar j) (tC (.bl true))))) tz D σ H := by
  obtain ⟨d', kvs, e0, hd1, hd2⟩ := hd
  cases e0
  have dn : d ∉ ps := fun m => by rw [Rm_own m] at hd1; cases hd1
  have hH : H d = some (.dK kvs) := Rm_ex _ _ hd1
  have dp : d ≠ p := fun z => dn (z ▸ l.1)
  have hlen : kvs.length = ns.length := by rw [← List.length_map Prod.fst, hd2, List.length_map]
  refine ⟨d, .dK kvs, hH, trivial, fun od => ?_⟩
  refine ⟨.ref d, hi, d, od, rfl, .inl ⟨kvs, upd_same, ?_⟩⟩
  obtain ⟨m, kvp, hp1, hp2⟩ := l
  have item : ∀ {i : Nat} {kk : L2.Key} {vv : V}, kvs[i]? = some (kk, vv) → ∃ x, ns[i]? = some x ∧ kk = .inr x := fun {i kk vv} h => by
    have h1 : (kvs.map Prod.fst)[i]? = some kk := by rw [List.getElem?_map, h]; rfl
    rw [hd2, List.getElem?_map] at h1
    cases hx : ns[i]? with
    | none => rw [hx] at h1; cases h1
    | some x => rw [hx] at h1; exact ⟨x, rfl, (Option.some.inj h1).symm⟩
  refine for_it (walk_keys (d := d) (o := od) (kvs := kvs)) (fun i σ' H' => (∃ x, σ' = σ.set j x) ∧ H' d = some (.frz od (.dK kvs)) ∧ (∃ kvq, H' p = some (.dK kvq) ∧ kvq.map Prod.fst = (adds es (ns.take i)).map Sum.inr) ∧ ∀ b u, b ≠ d → b ≠ p → H b = some u → H' b = some u)
    ⟨⟨σ[j], (List.set_getElem_self hj).symm⟩, upd_same, ⟨kvp, by rw [upd_ne dp.symm]; exact hp1, by rw [List.take_zero]; exact hp2⟩, fun b u n1 _ h => by rw [upd_ne n1]; exact h⟩ (fun i σ' H' _ p => p.2.1) (fun i x σ' H1 H2 hil pv y => ?_) (fun σ' H' pv => ?_)
  · obtain ⟨⟨x0, rfl⟩, h1, ⟨kvq, h2, h3⟩, h4⟩ := pv
    obtain ⟨rfl, kk, vv, hkv, rfl⟩ := y
    obtain ⟨x, hx, rfl⟩ := item hkv
    have hl : kvq.length < 100000 := by
      rw [← List.length_map Prod.fst, h3, List.length_map]
      have h5 := len_adds (l := es) (es := ns.take i)
      have h6 : (ns.take i).length ≤ ns.length := by rw [List.length_take]; exact Nat.min_le_right _ _
      omega
    refine ⟨.ref p, by rw [List.getElem?_set_ne (fun z => nk z.symm), List.getElem?_set_ne (fun z => nk z.symm)]; exact hk, .str x, by rw [List.getElem?_set_self (by rw [List.length_set]; exact hj)]; rfl, p, _, rfl, DPut.k (k := .inr x) h2 (sz_lt hl), ?_⟩
    refine ⟨⟨_, by rw [List.set_set]⟩, by rw [upd_ne dp]; exact h1, ⟨_, upd_same, ?_⟩, fun b u n1 n2 h => by rw [upd_ne n2]; exact h4 b u n1 n2 h⟩
    rw [keys_put, h3, add1_map (f := (Sum.inr : Str → L2.Key)) (fun x y z => Sum.inr.inj z), take_snoc hx, adds_snoc]
  · obtain ⟨⟨x0, rfl⟩, h1, ⟨kvq, h2, h3⟩, h4⟩ := pv
    rw [hlen, List.take_length] at h3
    refine ⟨h1, kk x0 _ ⟨fun q hq => ?_, fun b u hb => ?_⟩ ⟨m, kvq, by rw [upd_ne dp.symm]; exact h2, h3⟩ fun q u n h => ?_⟩
    · by_cases e : q = p
      · subst e
        exact ⟨_, by rw [upd_ne dp.symm]; exact h2, fun xs z => by cases z⟩
      · obtain ⟨ob, ho, hn⟩ := o q hq
        have nd : q ≠ d := fun z => dn (z ▸ hq)
        exact ⟨ob, by rw [upd_ne nd]; exact h4 q ob nd e ho, hn⟩
    · have hbn : b ∉ ps := fun mm => by rw [Rm_own mm] at hb; cases hb
      have hb' := Rm_ex _ _ hb
      refine Rm_get ?_ hbn
      by_cases e : b = d
      · subst e
        rw [upd_same, ← hb', hH]
      · rw [upd_ne e]
        exact h4 b u e (fun z => hbn (z ▸ m)) hb'
    · by_cases e : q = d
      · subst e
        rw [upd_same, ← h, hH]
      · rw [upd_ne e]
        exact h4 q u e n h
end
end RP
set_option Elab.async false
set_option linter.all false
set_option maxRecDepth 100000
set_option maxHeartbeats 4000000
namespace K21
open PySem PySem.Spec PyProof.Rows L2 Evl Gen RP
section
variable {P : Program} {w : World} {K : PySem.W.Frag} {mg : Str → Option Value} {base : Heap} {fd : Nat → FuncData}
theorem er_islist {α : Type} {R : Rp α} {ps : List Addr} {σ : L2.St} {H : Hp} {ta : TE} {as : List α} {E : XK} (h : EvR (rQ K R) ps ta σ H as) : EvR rB ps (tCall (spIsList K) [] E (tCons ta tNil)) σ H true := fun H1 e o Q q => h H1 e o _ fun v H2 e2 r => by
  obtain ⟨a, vs, rfl, h1, _⟩ := r
  exact ⟨a, vs, rfl, ex_s Rm_ex h1, fun H3 e3 => q _ H3 (e2.trans e3) rfl⟩
theorem er_fits {ps : List Addr} {σ : L2.St} {H : Hp} {ta td : TE} {ls : List (List Str)} {e : Str × Str} {E : XK} (h : EvR rE ps ta σ H e) (h2 : EvR rPl ps td σ H ls) (hf : Fit ls e) : EvR rB ps (tCall spFits [] E (tCons ta (tCons td tNil))) σ H true := fun H1 e1 o Q q => h H1 e1 o _ fun v H2 e2 r => h2 H2 (e1.trans e2) (o.ex e2) _ fun w H3 e3 r2 => by
  obtain ⟨a, y, z, rfl, ha, rfl, rfl⟩ := r
  obtain ⟨d, kvs, rfl, hd, hk⟩ := r2
  refine ⟨a, _, _, d, kvs, rfl, Rm_ex _ _ (Rm_mono e3 _ _ ha), Rm_ex _ _ hd, ints_of hk, fun H4 e4 => ?_⟩
  rw [fitB_of hk hf]
  exact q _ H4 ((e2.trans e3).trans e4) rfl
theorem Oth.back {H H' H2 : Hp} {p : Addr} (e : Ex H H') (o : Oth p H' H2) (hp : H p = none) : Ex H H2 := fun b u h => o b u (fun z => by rw [z, hp] at h; cases h) (e b u h)
theorem sc_check_fitting : FnScope ["lines", "places", "position", "line"] ["lines", "places"] (defScope (topS 29)) := ⟨rfl, rfl, rfl, by decide +kernel, rfl, by decide +kernel, by decide +kernel⟩
theorem ok_check_fitting (T : Tx K mg fd) : FnOk P w K mg base CX0 3 (He.ga K "check_fitting") (fd 7) ["lines", "places"] (Sp2 (rL rE) rPl rU (fun _ _ => ()) (fun es ls => ∀ e ∈ es, Fit ls e)) := by
  refine (T.df 7 29 "check_fitting" rfl).ok sc_check_fitting (fun vs H Q E h => ?len) (fun cdv A outer s H vs Q E hr h => ?body)
  case body =>
    refine ⟨_, (pss_cons (ps_if (pt_not (pt_val (pe_call (ok_is_list T) (hr.mono (by decide)) (by rfl) (T.gl 4 "is_list" rfl) (T.df 2 6 "is_list" rfl).kp ((T.df 2 6 "is_list" rfl).binds (ps := ["value"]) fun _ _ _ _ _ _ us hl => match us, hl with | [_], _ => rfl) .nil pass0 (pa_cons (pv 0) pa_nil)))) (pss_one ps_never) pss_nil) (pss_one (ps_for PassesOwn.never rfl (pi_enumS (by rfl) (T.fr 55 "enumerate" rfl) (pa_cons (pv 0) pa_nil)) (pg_tup rfl (pgs_cons (pg_name (i := 2) sc_check_fitting.nd rfl (Or.inl rfl)) (pgs_cons (pg_name (i := 3) sc_check_fitting.nd rfl (Or.inl rfl)) pgs_nil))) (pss_one (ps_if (pt_not (pt_val (pe_call (ok_fits_as_line T) (hr.mono (by decide)) (by rfl) (T.gl 8 "fits_as_line" rfl) (T.df 6 28 "fits_as_line" rfl).kp ((T.df 6 28 "fits_as_line" rfl).binds (ps := ["value", "places"]) fun _ _ _ _ _ _ us hl => match us, hl with | [_, _], _ => rfl) .nil pass0 (pa_cons (pv 3) (pa_cons (pv 1) pa_nil))))) (pss_one ps_never) pss_nil))))), ?_⟩
    obtain ⟨ps, v, w, es, ls, rfl, o, r, ra, ok, q⟩ := h
    refine q_whenR o (b := false) (et_is' (et_not' (et_B' (er_islist (er_toQ (er_var rfl r))))) rfl) (fun z => nomatch z) fun _ H1 e1 => ?_
    have r := (rL rE).m (Rm_mono e1) r
    have ra := rPl.m (Rm_mono e1) ra
    have o1 := o.ex e1
    refine s_forW o1 (wk_enum (er_toQ (er_var rfl r))) (fun _ σ' H' => (∃ o3 o4, σ' = [some v, some w, o3, o4]) ∧ Ex H1 H') (fun H2 e2 => ⟨⟨none, none, rfl⟩, e2⟩) (fun _ _ _ _ e p => ⟨p.1, p.2.trans e⟩) (fun H2 e2 i x u σ' H3 hx f2 f1 pv ru => ?_) fun σ' H' _ p => q _ H' (e1.trans p.2) rfl
    obtain ⟨⟨o3, o4, rfl⟩, e3⟩ := pv
    obtain ⟨a, y, z, rfl, h2, h3, h4⟩ := ru
    have hm : x.2 ∈ es := (List.of_mem_zip (List.mem_of_getElem? hx)).2
    refine ⟨a, _, rfl, st_of (Rm_ex _ _ h2), rfl, _, _, rfl, _, _, rfl, rfl, ?_⟩
    refine s_whenR f1.1 (b := false) (et_is' (et_not' (et_B' (er_fits (er_var rfl h4) (er_var rfl (rPl.m f1.2 ra)) (ok _ hm)))) rfl) (fun z => nomatch z) fun _ H4 e4 => ?_
    exact ⟨f2.ex e4, ⟨_, _, rfl⟩, e3.trans e4⟩
  case len =>
    obtain ⟨ps, v, w, es, ls, rfl, _⟩ := h
    rfl
def addS (s : Sht) (es : List (Str × Str)) : Sht := mkS s.1 (adds s.2 es)
structure AddOk (s : Sht) (es : List (Str × Str)) : Prop where
  ok : Sok s
  fit : ∀ e ∈ es, Fit s.1 e
  z : (adds s.2 es).length ≤ 72
  z2 : es.length ≤ 1000
theorem AddOk.mk' {s : Sht} {es : List (Str × Str)} (h : AddOk s es) : Mk' s.1 (adds s.2 es) := ⟨h.ok.lv, h.ok.w18, h.ok.h12, fun e he => (mem_adds.mp he).elim (h.ok.fit e) (h.fit e), nd_adds h.ok.nd, h.z⟩
theorem AddOk.sok {s : Sht} {es : List (Str × Str)} (h : AddOk s es) : Sok (addS s es) := h.mk'.sok
theorem sc_sh_with_lines : FnScope ["self", "lines", "found", "line"] ["self", "lines"] (defScope (shS 33)) := ⟨rfl, rfl, rfl, by decide +kernel, rfl, by decide +kernel, by decide +kernel⟩
theorem ok_sh_with_lines (T : Tx K mg fd) : FnOk P w K mg base CX0 7 (He.ma K (shC K) "_with_lines") (fd 73) ["self", "lines"] (Sp2 (rS_ K) (rL rE) (rS_ K) addS AddOk) := by
  refine (T.dm 73 33 "_with_lines" "Sheet._with_lines" rfl).ok sc_sh_with_lines (fun vs H Q E h => ?len) (fun cdv A outer s H vs Q E hr h => ?body)
  case body =>
    refine ⟨_, (pss_cons (ps_set (i := 2) sc_sh_with_lines.nd rfl (Or.inl rfl) pe_dnewT) (pss_cons (ps_for PassesOwn.never rfl (pi_list (pe_fld (pv 0) rfl)) (pg_name (i := 3) sc_sh_with_lines.nd rfl (Or.inl rfl)) (pss_one (ps_dput (u1 hr.units) (pv 2) (pv 3) pe_bl rfl))) (pss_cons (ps_for PassesOwn.never rfl (pi_list (pv 1)) (pg_name (i := 3) sc_sh_with_lines.nd rfl (Or.inl rfl)) (pss_one (ps_dput (u1 hr.units) (pv 2) (pv 3) pe_bl rfl))) (pss_one (ps_ret (pe_make T.mkr (ok_sh_init T) (hr.mono (by decide)) (by rfl) (T.gl 36 "Sheet" rfl) (bi3 T) .nil pass0 (pa_cons (pe_fld (pv 0) rfl) (pa_cons (pe_callTy (call_list_dT rfl) (by rfl) (T.fr 44 "list" rfl) (by decide +kernel) (pa_cons (pv 2) pa_nil)) pa_nil)))))))), ?_⟩
    obtain ⟨ps, v, w, s, a, rfl, o, r, ra, ok, q⟩ := h
    have hz := ok.ok.z
    have hz2 := ok.z2
    refine q_newDT o fun p H1 e1 np hp o1 x1 d1 => ?_
    have r1 := (rS_ K).m x1 r
    have ra1 := (rL rE).m x1 ra
    have bnd : ∀ i, (adds [] (s.2.take i)).length < 100000 := fun i => by
      have h1 := len_adds (l := []) (es := s.2.take i)
      have h2 : (s.2.take i).length ≤ s.2.length := by rw [List.length_take]; exact Nat.min_le_right _ _
      rw [List.length_nil] at h1
      omega
    have bnd2 : ∀ i, (adds s.2 (a.take i)).length < 100000 := fun i => by
      have h1 := len_adds (l := s.2) (es := a.take i)
      have h2 : (a.take i).length ≤ a.length := by rw [List.length_take]; exact Nat.min_le_right _ _
      omega
    refine q_forW o1 (wk_list (sh_lines (i := 0) rfl r1 T.cls (T.noat 62 "_lines" rfl))) (fun i σ' H' => (∃ o3, σ' = [some v, some w, some (.ref p), o3]) ∧ DT (p :: ps) H' p (adds [] (s.2.take i)) ∧ Ex H H') (fun H2 e2 => ⟨⟨none, rfl⟩, by rw [List.take_zero]; exact d1.ex e2, e1.trans e2⟩) (fun _ _ _ _ e p => ⟨p.1, p.2.1.ex e, p.2.2.trans e⟩) (fun H2 e2 i x u σ' H3 hx f2 f1 pv ru => ?_) fun σ' H3 f3 pv => ?_
    · obtain ⟨⟨o3, rfl⟩, hd, e3⟩ := pv
      exact s_putT f1.1 hd (ev_var rfl) (er_var rfl ru) ev_c (bnd i) fun H4 f4 hd4 ot => ⟨f2.trans f4, ⟨_, rfl⟩, by rw [take_snoc hx, adds_snoc]; exact hd4, Oth.back e3 ot hp⟩
    obtain ⟨⟨o3, rfl⟩, d3, e3⟩ := pv
    rw [List.take_length, adds_new (l := []) ok.ok.nd, List.nil_append] at d3
    have r3 := (rS_ K).m f3.2 r1
    have ra3 := (rL rE).m f3.2 ra1
    refine q_forW f3.1 (wk_list (er_var rfl ra3)) (fun i σ' H' => (∃ o3, σ' = [some v, some w, some (.ref p), o3]) ∧ DT (p :: ps) H' p (adds s.2 (a.take i)) ∧ Ex H H') (fun H2 e2 => ⟨⟨o3, rfl⟩, by rw [List.take_zero]; exact d3.ex e2, e3.trans e2⟩) (fun _ _ _ _ e p => ⟨p.1, p.2.1.ex e, p.2.2.trans e⟩) (fun H2 e2 i x u σ' H4 hx f2 f1 pv ru => ?_) fun σ' H4 f4 pv => ?_
    · obtain ⟨⟨o4, rfl⟩, hd, e4⟩ := pv
      exact s_putT f1.1 hd (ev_var rfl) (er_var rfl ru) ev_c (bnd2 i) fun H5 f5 hd5 ot => ⟨f2.trans f5, ⟨_, rfl⟩, by rw [take_snoc hx, adds_snoc]; exact hd5, Oth.back e4 ot hp⟩
    obtain ⟨⟨o4, rfl⟩, d4, e4⟩ := pv
    rw [List.take_length] at d4
    have r := (rS_ K).m f4.2 r3
    refine s_retR f4.1 (er_make (sh_levels (i := 0) rfl r T.cls (T.noat 61 "_levels" rfl)) (er_listDT d4 (ev_var rfl) fun kvs H5 Q h g => ⟨p, kvs, rfl, .of h, g⟩) ok.mk') fun v5 H5 e5 t => q v5 H5 (e4.trans e5) ((rS_ K).m Rm_pop t)
  case len =>
    obtain ⟨ps, v, w, s, a, rfl, _⟩ := h
    rfl
theorem sc_sh_joined : FnScope ["self", "lines"] ["self", "lines"] (defScope (shS 30)) := ⟨rfl, rfl, rfl, by decide +kernel, rfl, by decide +kernel, by decide +kernel⟩
theorem ok_sh_joined (T : Tx K mg fd) : FnOk P w K mg base CX0 8 (He.ma K (shC K) "joined") (fd 70) ["self", "lines"] (Sp2 (rS_ K) (rL rE) (rS_ K) addS AddOk) := by
  refine (T.dm 70 30 "joined" "Sheet.joined" rfl).ok sc_sh_joined (fun vs H Q E h => ?len) (fun cdv A outer s H vs Q E hr h => ?body)
  case body =>
    refine ⟨_, (pss_cons (ps_expr (pe_call (ok_check_fitting T) (hr.mono (by decide)) (by rfl) (T.gl 9 "check_fitting" rfl) (T.df 7 29 "check_fitting" rfl).kp ((T.df 7 29 "check_fitting" rfl).binds (ps := ["lines", "places"]) fun _ _ _ _ _ _ us hl => match us, hl with | [_, _], _ => rfl) .nil pass0 (pa_cons (pv 1) (pa_cons (pe_fld (pv 0) rfl) pa_nil)))) (pss_one (ps_ret (pe_meth (pv 0) T.cls (T.meth 93 "_with_lines" rfl) (ok_sh_with_lines T) (hr.mono (by decide)) ((T.dm 73 33 "_with_lines" "Sheet._with_lines" rfl).binds (ps := ["self", "lines"]) fun _ _ _ _ _ _ us hl => match us, hl with | [_, _], _ => rfl) .nil pass0 (pa_cons (pv 1) pa_nil))))), ?_⟩
    obtain ⟨ps, v, w, s, a, rfl, o, r, ra, ok, q⟩ := h
    refine q_dropR o (er_call2 (f := fun _ _ => ()) (er_var rfl ra) (sh_places (i := 0) rfl r T.cls (T.noat 64 "_places" rfl)) ok.fit) fun H1 e1 => ?_
    have r := (rS_ K).m (Rm_mono e1) r
    have ra := (rL rE).m (Rm_mono e1) ra
    exact s_retR (o.ex e1) (er_meth1 (er_var rfl r) (er_var rfl ra) (by decide +kernel) ok) fun v H2 e2 t => q v H2 (e1.trans e2) t
  case len =>
    obtain ⟨ps, v, w, s, a, rfl, _⟩ := h
    rfl
theorem sc_sh_add : FnScope ["self", "other"] ["self", "other"] (defScope (shS 20)) := ⟨rfl, rfl, rfl, by decide +kernel, rfl, by decide +kernel, by decide +kernel⟩
theorem ok_sh_add (T : Tx K mg fd) : FnOk P w K mg base CX0 8 (He.ma K (shC K) "__add__") (fd 60) ["self", "other"] (Sp2 (rS_ K) rE (rS_ K) (fun s e => addS s [e]) (fun s e => AddOk s [e])) := by
  refine (T.dm 60 20 "__add__" "Sheet.__add__" rfl).ok sc_sh_add (fun vs H Q E h => ?len) (fun cdv A outer s H vs Q E hr h => ?body)
  case body =>
    refine ⟨_, (pss_cons (ps_if (pt_not (pt_val (pe_call (ok_fits_as_line T) (hr.mono (by decide)) (by rfl) (T.gl 8 "fits_as_line" rfl) (T.df 6 28 "fits_as_line" rfl).kp ((T.df 6 28 "fits_as_line" rfl).binds (ps := ["value", "places"]) fun _ _ _ _ _ _ us hl => match us, hl with | [_, _], _ => rfl) .nil pass0 (pa_cons (pv 1) (pa_cons (pe_fld (pv 0) rfl) pa_nil))))) (pss_one ps_never) pss_nil) (pss_one (ps_ret (pe_meth (pv 0) T.cls (T.meth 93 "_with_lines" rfl) (ok_sh_with_lines T) (hr.mono (by decide)) ((T.dm 73 33 "_with_lines" "Sheet._with_lines" rfl).binds (ps := ["self", "lines"]) fun _ _ _ _ _ _ us hl => match us, hl with | [_, _], _ => rfl) .nil pass0 (pa_cons (pe_lst (pa_cons (pv 1) pa_nil)) pa_nil))))), ?_⟩
    obtain ⟨ps, v, w, s, a, rfl, o, r, ra, ok, q⟩ := h
    refine q_whenR o (b := false) (et_is' (et_not' (et_B' (er_fits (er_var rfl ra) (sh_places (i := 0) rfl r T.cls (T.noat 64 "_places" rfl)) (ok.fit a (List.mem_singleton.mpr rfl))))) rfl) (fun z => nomatch z) fun _ H1 e1 => ?_
    have r := (rS_ K).m (Rm_mono e1) r
    have ra := rE.m (Rm_mono e1) ra
    exact s_retR (o.ex e1) (er_meth1 (er_var rfl r) (er_lst (eas_cons (er_var rfl ra) eas_nil) (by show 1 ≤ 100000; decide)) (by decide +kernel) ok) fun v H2 e2 t => q v H2 (e1.trans e2) t
  case len =>
    obtain ⟨ps, v, w, s, a, rfl, _⟩ := h
    rfl
end
end K21
set_option Elab.async false
set_option linter.all false
set_option maxRecDepth 100000
set_option maxHeartbeats 4000000
namespace K21
open PySem PySem.Spec PyProof.Rows L2 Evl Gen RP
section
variable {P : Program} {w : World} {K : PySem.W.Frag} {mg : Str → Option Value} {base : Heap} {fd : Nat → FuncData}
theorem er_ownTup {α β : Type} {S : Rp β} {f : Sht → β → Sht} {C : Sht → β → Prop} {ps : List Addr} {σ : L2.St} {H : Hp} {ta tb : TE} {s : Sht} {e : Str × Str} {E : XK} {g : Sht → Str × Str → Sht} {Cd : Sht → Str × Str → Prop} (h : EvR (rS_ K) ps ta σ H s) (h2 : EvR rE ps tb σ H e) (hc : Cd s e) : EvR (rS_ K) ps (tOp (rOwnTup K (shC K) (Sp2 (rS_ K) rE (rS_ K) g Cd) [] E) ta tb) σ H (g s e) := er_op h h2 fun v w H1 e1 o rv rw' Q q => by
  have rv' := rv
  obtain ⟨x, rfl, dx, p1, p2, p3, p4, p5, p6, kvs, h1, _⟩ := rv'
  have rw2 := rw'
  obtain ⟨t, y, z, rfl, ht, _, _⟩ := rw2
  exact ⟨x, t, dx, _, _, rfl, rfl, Rm_ex _ _ h1, st_of (Rm_ex _ _ ht), ps, _, _, s, e, rfl, o, rv, rw', hc, fun z H2 e2 r => q z H2 e2 r⟩
theorem er_tupOwn {ps : List Addr} {σ : L2.St} {H : Hp} {ta tb : TE} {s : Sht} {e : Str × Str} {E : XK} {g : Sht → Str × Str → Sht} {Cd : Sht → Str × Str → Prop} (h2 : EvR rE ps tb σ H e) (h : EvR (rS_ K) ps ta σ H s) (hc : Cd s e) : EvR (rS_ K) ps (tOp (rTupOwn K (shC K) (Sp2 (rS_ K) rE (rS_ K) g Cd) [] E) tb ta) σ H (g s e) := er_op h2 h fun w v H1 e1 o rw' rv Q q => by
  have rv' := rv
  obtain ⟨x, rfl, dx, p1, p2, p3, p4, p5, p6, kvs, h1, _⟩ := rv'
  have rw2 := rw'
  obtain ⟨t, y, z, rfl, ht, _, _⟩ := rw2
  exact ⟨x, t, dx, _, _, rfl, rfl, Rm_ex _ _ h1, st_of (Rm_ex _ _ ht), ps, _, _, s, e, rfl, o, rv, rw', hc, fun z H2 e2 r => q z H2 e2 r⟩
theorem pa_starK {X : Cx} {e : Expr} {es : List Expr} {te : TE} {t : TA} {p : Pos} (hK : X.K = K) (he : PE X e te) (hr : PA X es t) (hs : starEach (.Starred e p :: es) X.env = (true, eval e X.env) :: starEach es X.env := by rfl) : PA X (.Starred e p :: es) (StX.tStar K te t) := hK ▸ StX.pa_star he hr hs
theorem inK_eq {X : Cx} (hK : X.K = K) : OpR X (compareOp .In) (rIn K false) := hK ▸ op_in_seq
theorem sc_sh_radd : FnScope ["self", "other"] ["self", "other"] (defScope (shS 21)) := ⟨rfl, rfl, rfl, by decide +kernel, rfl, by decide +kernel, by decide +kernel⟩
theorem ok_sh_radd (T : Tx K mg fd) : FnOk P w K mg base CX0 9 (He.ma K (shC K) "__radd__") (fd 61) ["self", "other"] (Sp2 (rS_ K) rE (rS_ K) (fun s e => addS s [e]) (fun s e => AddOk s [e])) := by
  refine (T.dm 61 21 "__radd__" "Sheet.__radd__" rfl).ok sc_sh_radd (fun vs H Q E h => ?len) (fun cdv A outer s H vs Q E hr h => ?body)
  case body =>
    refine ⟨_, (pss_one (ps_ret (pe_op (op_ownTup (ok_sh_add T) (hr.mono (by decide)) (T.op2 .Add (by decide) (T.meth 80 "__add__" rfl)) ((T.dm 60 20 "__add__" "Sheet.__add__" rfl).binds (ps := ["self", "other"]) fun _ _ _ _ _ _ us hl => match us, hl with | [_, _], _ => rfl) .nil pass0) (pv 0) (pv 1)))), ?_⟩
    obtain ⟨ps, v, w, s, a, rfl, o, r, ra, ok, q⟩ := h
    exact s_retR o (er_ownTup (α := Unit) (β := Str × Str) (S := rE) (f := fun s _ => s) (C := fun _ _ => True) (er_var rfl r) (er_var rfl ra) ok) q
  case len =>
    obtain ⟨ps, v, w, s, a, rfl, _⟩ := h
    rfl
theorem nmS {H : Hp} {z : Str} (h : isN (.str z) = true) : SpV (spV1 isN) [.str z] H (.bl true) := by
  have h1 := spV (f := isN) (H := H) (Ky.str z) (fun x y => by cases y; exact isN_ok h)
  rw [h] at h1
  exact h1
def putIn (s : Sht) (a : Nat) (z : Str) : Sht := mkS (s.1.modify a (· ++ [z])) s.2
structure PutOk (s : Sht) (a : Nat) (z : Str) : Prop where
  ok : Sok s
  lt : a < s.1.length
  nin : z ∉ s.1.flatten
  nm : isN (.str z) = true
  mk' : Mk' (s.1.modify a (· ++ [z])) s.2
theorem modify_zip {ls : List (List Str)} {a : Nat} {z : Str} : (((List.range ls.length).zip ls).map fun x => if decide (x.1 = a) = true then x.2 ++ [z] else x.2) = ls.modify a (· ++ [z]) := by
  apply List.ext_getElem?
  intro i
  rw [List.getElem?_map, List.getElem?_modify]
  cases h : ls[i]? with
  | none =>
    rw [List.getElem?_eq_none_iff.mpr]
    · rfl
    · rw [List.length_zip, List.length_range, Nat.min_self]
      exact List.getElem?_eq_none_iff.mp h
  | some l =>
    have hi := (List.getElem?_eq_some_iff.mp h).1
    have h2 : ((List.range ls.length).zip ls)[i]? = some (i, l) := by
      rw [List.getElem?_zip_eq_some]
      exact ⟨by simp [hi], h⟩
    rw [h2]
    by_cases e : i = a
    · subst e
      simp
    · rw [Option.map_some, if_neg (by rw [decide_eq_false e]; decide)]
      show some l = some (if a = i then l ++ [z] else l)
      rw [if_neg (fun y : a = i => e y.symm)]
theorem sc_sh_with_node : FnScope ["self", "level", "name", "levels", "number", "names"] ["self", "level", "name"] (defScope (shS 26)) := ⟨rfl, rfl, rfl, by decide +kernel, rfl, by decide +kernel, by decide +kernel⟩
theorem ok_sh_with_node (T : Tx K mg fd) : FnOk P w K mg base CX0 7 (He.ma K (shC K) "with_node") (fd 66) ["self", "level", "name"] (Sp3 (rS_ K) rN rS (rS_ K) putIn PutOk) := by
  refine (T.dm 66 26 "with_node" "Sheet.with_node" rfl).ok sc_sh_with_node (fun vs H Q E h => ?len) (fun cdv A outer s H vs Q E hr h => ?body)
  case body =>
    refine ⟨_, (pss_cons (ps_if (pt_not (pt_val (pe_meth (pv 0) T.cls (T.meth 91 "_is_level" rfl) (ok_sh_is_level T) (hr.mono (by decide)) ((T.dm 71 31 "_is_level" "Sheet._is_level" rfl).binds (ps := ["self", "value"]) fun _ _ _ _ _ _ us hl => match us, hl with | [_, _], _ => rfl) .nil pass0 (pa_cons (pv 1) pa_nil)))) (pss_one ps_never) pss_nil) (pss_cons (ps_if (pt_not (pt_val (pe_call (ok_is_name T) (hr.mono (by decide)) (by rfl) (T.gl 3 "is_name" rfl) (T.df 1 5 "is_name" rfl).kp ((T.df 1 5 "is_name" rfl).binds (ps := ["value"]) fun _ _ _ _ _ _ us hl => match us, hl with | [_], _ => rfl) .nil pass0 (pa_cons (pv 2) pa_nil)))) (pss_one ps_never) pss_nil) (pss_cons (ps_if (pt_cmp (pc_din (u1 hr.units) (pv 2) (pe_fld (pv 0) rfl))) (pss_one ps_never) pss_nil) (pss_cons (ps_setLc (i := 3) (own := [("number", 4), ("names", 5)]) (g := gTup K 2 (gCons (gName 4) (gCons (gName 5) gNil))) rfl sc_sh_with_node.nd rfl rfl (sw_true rfl rfl rfl (by decide +kernel)) (pi_enumS (by rfl) (T.fr 55 "enumerate" rfl) (pa_cons (pe_fld (pv 0) rfl) pa_nil)) (blkOk_by (N := ["self", "level", "name", "levels", "number", "names"]) (sc := (defScope (shS 26))) (own := [("number", 4), ("names", 5)]) (by decide +kernel)) (fun _ _ _ _ _ => (pg_tup rfl (pgs_cons (pg_name (i := 4) sc_sh_with_node.nd rfl (Or.inl rfl)) (pgs_cons (pg_name (i := 5) sc_sh_with_node.nd rfl (Or.inl rfl)) pgs_nil)))) (fun _ _ _ _ _ => pts_nil) (fun _ _ _ _ _ => (pe_ifExp (pt_cmpR op_eq (pv 4) (pv 1) (nomark _)) (pe_lst (pa_starK (K := K) rfl (pv 5) (pa_cons (pv 2) pa_nil))) (pv 5)))) (pss_one (ps_ret (pe_make T.mkr (ok_sh_init T) (hr.mono (by decide)) (by rfl) (T.gl 36 "Sheet" rfl) (bi3 T) .nil pass0 (pa_cons (pv 3) (pa_cons (pe_fld (pv 0) rfl) pa_nil))))))))), ?_⟩
    obtain ⟨ps, v, w, u, s, a, z, rfl, o, r, ra, rb, ok, q⟩ := h
    obtain rfl : w = .int (a : Int) := ra
    obtain rfl : u = .str z := rb
    refine q_whenR o (b := false) (et_is' (et_not' (et_B' (et_isLv (er_var rfl r) (er_var rfl rfl) ok.ok))) (by rw [isLv_nat ok.lt]; rfl)) (fun z => nomatch z) fun _ H1 e1 => ?_
    have r := (rS_ K).m (Rm_mono e1) r
    have o1 := o.ex e1
    refine q_whenR o1 (b := false) (et_is' (et_not' (et_B' (er_B (ev_call0 (ea_cons (ev_var rfl) ea_nil) (nmS ok.nm))))) rfl) (fun z => nomatch z) fun _ H2 e2 => ?_
    have r := (rS_ K).m (Rm_mono e2) r
    have o2 := o1.ex e2
    refine q_whenR o2 (b := false) (et_B' (er_is (er_din (er_var (v := .str z) rfl rfl) (sh_places (i := 0) rfl r T.cls (T.noat 64 "_places" rfl))) (decide_eq_false ok.nin))) (fun z => nomatch z) fun _ H3 e3 => ?_
    have r := (rS_ K).m (Rm_mono e3) r
    have o3 := o2.ex e3
    have h12 := ok.ok.h12
    refine q_asgR' o3 (er_is (er_lc2 (R := rN) (S := rL rS) (T := rL rS) (fun x => if decide (x.1 = a) = true then x.2 ++ [z] else x.2) (wk_enum (er_toQ (sh_levels (i := 0) rfl r T.cls (T.noat 61 "_levels" rfl)))) (by rw [List.length_zip, List.length_range, Nat.min_self]; omega) (fun _ _ => rfl) fun x hx qs v w H4 e4 o4 x4 r4 s4 => ?_) modify_zip) fun v4 H4 e4 r4 => ?_
    · obtain rfl : v = .int (x.1 : Int) := r4
      have hl : x.2.length ≤ 18 := ok.ok.w18 _ (List.of_mem_zip hx).2
      refine er_ifexp (x := decide (x.1 = a)) (et_is' (et_test' (er_B (ev_op (ev_var rfl) (ev_var rfl) (rv_eq rfl)))) ?_) (fun hy => ?_) fun hy => ?_
      · exact decide_eq_decide.mpr ⟨fun z => by injection z with z; omega, fun z => by rw [z]⟩
      · rw [if_pos hy]
        exact er_lst (eas_star (er_var rfl s4) (eas_cons (er_var (v := .str z) rfl rfl) eas_nil)) (by rw [List.length_append]; show x.2.length + 1 ≤ 100000; omega)
      · rw [if_neg (by rw [hy]; decide)]
        exact er_var rfl s4
    have r := (rS_ K).m (Rm_mono e4) r
    exact s_retR (o3.ex e4) (er_make (er_var rfl r4) (sh_lines (i := 0) rfl r T.cls (T.noat 62 "_lines" rfl)) ok.mk') fun v H5 e5 t => q v H5 ((((e1.trans e2).trans e3).trans e4).trans e5) t
  case len =>
    obtain ⟨ps, v, w, u, s, a, z, rfl, _⟩ := h
    rfl
/-- the sheet with just these nodes -/
def onlyL (ls : List (List Str)) (ns : List Str) : List (List Str) := ls.map fun l => l.filter fun z => decide (z ∈ ns)
def onlyE (es : List (Str × Str)) (ns : List Str) : List (Str × Str) := es.filter fun e => decide (e.1 ∈ ns) && decide (e.2 ∈ ns)
def only (s : Sht) (ns : List Str) : Sht := mkS (onlyL s.1 ns) (onlyE s.2 ns)
theorem onlyL_flat {ls : List (List Str)} {ns : List Str} : (onlyL ls ns).flatten = ls.flatten.filter fun z => decide (z ∈ ns) := by
  unfold onlyL
  induction ls with
  | nil => rfl
  | cons l r ih => rw [List.map_cons, List.flatten_cons, List.flatten_cons, List.filter_append, ih]
theorem only_mk {s : Sht} {ns : List Str} (ok : Sok s) : Mk' (onlyL s.1 ns) (onlyE s.2 ns) where
  lv := ⟨fun z => ok.lv.some (List.map_eq_nil_iff.mp z), fun ws hw x hx => by
    obtain ⟨l, hl, rfl⟩ := List.mem_map.mp hw
    exact ok.lv.names l hl x (List.mem_filter.mp hx).1, by rw [onlyL_flat]; exact ok.lv.once.filter _, by
    rw [← many_flat, onlyL_flat]
    have h1 := ok.lv.few
    rw [← many_flat] at h1
    exact Nat.le_trans (List.length_filter_le _ _) h1⟩
  w18 := fun l hl => by
    obtain ⟨m, hm, rfl⟩ := List.mem_map.mp hl
    exact Nat.le_trans (List.length_filter_le _ _) (ok.w18 m hm)
  h12 := by unfold onlyL; rw [List.length_map]; exact ok.h12
  fit := fun e he => by
    unfold onlyE at he
    rw [List.mem_filter, Bool.and_eq_true, decide_eq_true_eq, decide_eq_true_eq] at he
    obtain ⟨hm, n1, n2⟩ := he
    obtain ⟨i, a, b, h1, h2, h3, h4⟩ := ok.fit e hm
    refine ⟨i, _, _, by unfold onlyL; rw [List.getElem?_map, h1]; rfl, by unfold onlyL; rw [List.getElem?_map, h2]; rfl, List.mem_filter.mpr ⟨h3, decide_eq_true n1⟩, List.mem_filter.mpr ⟨h4, decide_eq_true n2⟩⟩
  nd := ok.nd.filter _
  z := Nat.le_trans (List.length_filter_le _ _) ok.z
theorem only_sok {s : Sht} {ns : List Str} (ok : Sok s) : Sok (only s ns) := (only_mk ok).sok
theorem inV_str {ns : List Str} {x : Str} : inV (.str x) (ns.map V.str) = decide (x ∈ ns) := by
  unfold inV
  rw [Bool.eq_iff_iff, List.any_eq_true, decide_eq_true_eq]
  constructor
  · rintro ⟨v, hv, h⟩
    obtain ⟨y, hy, rfl⟩ := List.mem_map.mp hv
    have : y = x := by
      have h2 : decide (y = x) = true := h
      exact of_decide_eq_true h2
    rw [← this]
    exact hy
  · intro h
    exact ⟨.str x, List.mem_map.mpr ⟨x, h, rfl⟩, decide_eq_true rfl⟩
theorem flat_strs : ∀ ns : List Str, (ns.map V.str).all flatV = true
  | [] => rfl
  | _ :: r => flat_strs r
theorem et_inL {ps : List Addr} {σ : L2.St} {H : Hp} {ty td : TE} {ns : List Str} {x : Str} (hy : EvR rS ps ty σ H x) (hd : EvR (rL rS) ps td σ H ns) : EtR ps (tTest (tOp (rIn K false) ty td)) σ H (decide (x ∈ ns)) :=
  et_test' (er_inL (fun q ns x H1 Q h k => ⟨q, _, rfl, .inl h, rfl, flat_strs ns, by
    rw [if_neg Bool.false_ne_true, inV_str]
    exact k⟩) hy hd)
theorem et_inD {ps : List Addr} {σ : L2.St} {H : Hp} {ty td : TE} {ns : List Str} {x : Str} (hy : EvR rS ps ty σ H x) (hd : EvR rD ps td σ H ns) : EtR ps (tB (tDIn ty td)) σ H (decide (x ∈ ns)) := et_B' (er_inD hy hd)
theorem sc_sh_with_only_l : FnScope ["self", "nodes", "levels", "name", "names", "low", "high"] ["self", "nodes"] (defScope (shS 34)) := ⟨rfl, rfl, rfl, by decide +kernel, rfl, by decide +kernel, by decide +kernel⟩
theorem ok_sh_with_only_l (T : Tx K mg fd) : FnOk P w K mg base CX0 7 (He.ma K (shC K) "_with_only") (fd 74) ["self", "nodes"] (Sp2 (rS_ K) (rL rS) (rS_ K) only (fun s _ => Sok s)) := by
  refine (T.dm 74 34 "_with_only" "Sheet._with_only" rfl).ok sc_sh_with_only_l (fun vs H Q E h => ?len) (fun cdv A outer s H vs Q E hr h => ?body)
  case body =>
    refine ⟨_, (pss_cons (ps_setLc (i := 2) (own := [("names", 4)]) (g := gName 4) rfl sc_sh_with_only_l.nd rfl rfl (sw_true rfl rfl rfl (by decide +kernel)) (pi_list (pe_fld (pv 0) rfl)) (blkOk_by (N := ["self", "nodes", "levels", "name", "names", "low", "high"]) (sc := (defScope (shS 34))) (own := [("names", 4)]) (by decide +kernel)) (fun _ _ _ _ _ => (pg_name (i := 4) sc_sh_with_only_l.nd rfl (Or.inl rfl))) (fun _ _ _ _ _ => pts_nil) (fun _ _ _ _ _ => (pe_lc (own := [("name", 3)]) (wi := iList K (tVar 4)) (g := gName 3) rfl sc_sh_with_only_l.nd (pi_list (pv 4)) (blkOk_by (N := ["self", "nodes", "levels", "name", "names", "low", "high"]) (sc := { kind := .function, names := [(".0", .local), ("names", .local), ("nodes", .cell)], isGenerator := false, isCoroutine := false }) (own := [("name", 3)]) (by decide +kernel)) (fun _ _ _ _ _ => (pg_name (i := 3) sc_sh_with_only_l.nd rfl (Or.inl rfl))) (fun _ _ _ _ _ => (pts_one (pt_cmpR (inK_eq (K := K) rfl) (pv 3) (pv 1) rfl))) (fun _ _ _ _ _ => (pv 3))))) (pss_one (ps_ret (pe_make T.mkr (ok_sh_init T) (hr.mono (by decide)) (by rfl) (T.gl 36 "Sheet" rfl) (bi3 T) .nil pass0 (pa_cons (pv 2) (pa_cons (pe_lc (own := [("low", 5), ("high", 6)]) (g := gTup K 2 (gCons (gName 5) (gCons (gName 6) gNil))) rfl sc_sh_with_only_l.nd (pi_list (pe_fld (pv 0) rfl)) (blkOk_by (N := ["self", "nodes", "levels", "name", "names", "low", "high"]) (sc := (defScope (shS 34))) (own := [("low", 5), ("high", 6)]) (by decide +kernel)) (fun _ _ _ _ _ => (pg_tup rfl (pgs_cons (pg_name (i := 5) sc_sh_with_only_l.nd rfl (Or.inl rfl)) (pgs_cons (pg_name (i := 6) sc_sh_with_only_l.nd rfl (Or.inl rfl)) pgs_nil)))) (fun _ _ _ _ _ => (pts_one (PW.pt (pw_and (pt_cmpR (inK_eq (K := K) rfl) (pv 5) (pv 1) rfl) (pw_and1 (pt_cmpR (inK_eq (K := K) rfl) (pv 6) (pv 1) rfl)))))) (fun _ _ _ _ _ => (pe_tup (pa_cons (pv 5) (pa_cons (pv 6) pa_nil))))) pa_nil)))))), ?_⟩
    obtain ⟨ps, v, w, s, a, rfl, o, r, ra, ok, q⟩ := h
    have h12 := ok.h12
    refine q_asgR' o (er_lc1 (R := rL rS) (S := rL rS) (fun l => l.filter fun z => decide (z ∈ a)) (wk_list (sh_levels (i := 0) rfl r T.cls (T.noat 61 "_levels" rfl))) (by omega) (fun _ => rfl) fun l hl qs v H1 e1 o1 x1 r1 => ?_) fun v1 H1 e1 r1 => ?_
    · have hz : l.length ≤ 18 := ok.w18 l hl
      exact er_is (er_lc1F (R := rS) (S := rS) id (fun z => decide (z ∈ a)) (wk_list (er_var rfl r1)) (by omega) (fun _ => rfl) (fun z hz qs v H2 e2 o2 x2 r2 => et_inL (er_var rfl r2) (er_var rfl ((rL rS).m (x1.trans x2) ra))) fun z hz _ qs v H2 _ _ _ r2 => er_var rfl r2) (List.map_id _)
    have r := (rS_ K).m (Rm_mono e1) r
    have ra := (rL rS).m (Rm_mono e1) ra
    refine s_retR (o.ex e1) (er_make (er_var rfl r1) (er_is (er_lc2F (R := rS) (S := rS) (T := rE) id (fun e => decide (e.1 ∈ a) && decide (e.2 ∈ a)) (wk_list (sh_lines (i := 0) rfl r T.cls (T.noat 62 "_lines" rfl))) (Nat.le_trans ok.z (by decide)) (fun _ _ => rfl) (fun e he qs v w H3 e3 o3 x3 r3 s3 => ?_) fun e he _ qs v w H3 _ _ _ r3 s3 => er_tup (er_var rfl r3) (er_var rfl s3)) (List.map_id _)) (only_mk ok)) fun v H4 e4 t => q v H4 (e1.trans e4) t
    exact et_and' (et_inL (er_var rfl r3) (er_var rfl ((rL rS).m x3 ra))) fun _ => et_inL (er_var rfl s3) (er_var rfl ((rL rS).m x3 ra))
  case len =>
    obtain ⟨ps, v, w, s, a, rfl, _⟩ := h
    rfl
theorem sc_sh_with_only_d : FnScope ["self", "nodes", "levels", "name", "names", "low", "high"] ["self", "nodes"] (defScope (shS 34)) := ⟨rfl, rfl, rfl, by decide +kernel, rfl, by decide +kernel, by decide +kernel⟩
theorem ok_sh_with_only_d (T : Tx K mg fd) : FnOk P w K mg base CX0 7 (He.ma K (shC K) "_with_only") (fd 74) ["self", "nodes"] (Sp2 (rS_ K) rD (rS_ K) only (fun s _ => Sok s)) := by
  refine (T.dm 74 34 "_with_only" "Sheet._with_only" rfl).ok sc_sh_with_only_d (fun vs H Q E h => ?len) (fun cdv A outer s H vs Q E hr h => ?body)
  case body =>
    refine ⟨_, (pss_cons (ps_setLc (i := 2) (own := [("names", 4)]) (g := gName 4) rfl sc_sh_with_only_d.nd rfl rfl (sw_true rfl rfl rfl (by decide +kernel)) (pi_list (pe_fld (pv 0) rfl)) (blkOk_by (N := ["self", "nodes", "levels", "name", "names", "low", "high"]) (sc := (defScope (shS 34))) (own := [("names", 4)]) (by decide +kernel)) (fun _ _ _ _ _ => (pg_name (i := 4) sc_sh_with_only_d.nd rfl (Or.inl rfl))) (fun _ _ _ _ _ => pts_nil) (fun _ _ _ _ _ => (pe_lc (own := [("name", 3)]) (wi := iList K (tVar 4)) (g := gName 3) rfl sc_sh_with_only_d.nd (pi_list (pv 4)) (blkOk_by (N := ["self", "nodes", "levels", "name", "names", "low", "high"]) (sc := { kind := .function, names := [(".0", .local), ("names", .local), ("nodes", .cell)], isGenerator := false, isCoroutine := false }) (own := [("name", 3)]) (by decide +kernel)) (fun _ _ _ _ _ => (pg_name (i := 3) sc_sh_with_only_d.nd rfl (Or.inl rfl))) (fun _ _ _ _ _ => (pts_one (pt_cmp (pc_din (u1 hr.units) (pv 3) (pv 1))))) (fun _ _ _ _ _ => (pv 3))))) (pss_one (ps_ret (pe_make T.mkr (ok_sh_init T) (hr.mono (by decide)) (by rfl) (T.gl 36 "Sheet" rfl) (bi3 T) .nil pass0 (pa_cons (pv 2) (pa_cons (pe_lc (own := [("low", 5), ("high", 6)]) (g := gTup K 2 (gCons (gName 5) (gCons (gName 6) gNil))) rfl sc_sh_with_only_d.nd (pi_list (pe_fld (pv 0) rfl)) (blkOk_by (N := ["self", "nodes", "levels", "name", "names", "low", "high"]) (sc := (defScope (shS 34))) (own := [("low", 5), ("high", 6)]) (by decide +kernel)) (fun _ _ _ _ _ => (pg_tup rfl (pgs_cons (pg_name (i := 5) sc_sh_with_only_d.nd rfl (Or.inl rfl)) (pgs_cons (pg_name (i := 6) sc_sh_with_only_d.nd rfl (Or.inl rfl)) pgs_nil)))) (fun _ _ _ _ _ => (pts_one (PW.pt (pw_and (pt_cmp (pc_din (u1 hr.units) (pv 5) (pv 1))) (pw_and1 (pt_cmp (pc_din (u1 hr.units) (pv 6) (pv 1)))))))) (fun _ _ _ _ _ => (pe_tup (pa_cons (pv 5) (pa_cons (pv 6) pa_nil))))) pa_nil)))))), ?_⟩
    obtain ⟨ps, v, w, s, a, rfl, o, r, ra, ok, q⟩ := h
    have h12 := ok.h12
    refine q_asgR' o (er_lc1 (R := rL rS) (S := rL rS) (fun l => l.filter fun z => decide (z ∈ a)) (wk_list (sh_levels (i := 0) rfl r T.cls (T.noat 61 "_levels" rfl))) (by omega) (fun _ => rfl) fun l hl qs v H1 e1 o1 x1 r1 => ?_) fun v1 H1 e1 r1 => ?_
    · have hz : l.length ≤ 18 := ok.w18 l hl
      exact er_is (er_lc1F (R := rS) (S := rS) id (fun z => decide (z ∈ a)) (wk_list (er_var rfl r1)) (by omega) (fun _ => rfl) (fun z hz qs v H2 e2 o2 x2 r2 => et_inD (er_var rfl r2) (er_var rfl (rD.m (x1.trans x2) ra))) fun z hz _ qs v H2 _ _ _ r2 => er_var rfl r2) (List.map_id _)
    have r := (rS_ K).m (Rm_mono e1) r
    have ra := rD.m (Rm_mono e1) ra
    refine s_retR (o.ex e1) (er_make (er_var rfl r1) (er_is (er_lc2F (R := rS) (S := rS) (T := rE) id (fun e => decide (e.1 ∈ a) && decide (e.2 ∈ a)) (wk_list (sh_lines (i := 0) rfl r T.cls (T.noat 62 "_lines" rfl))) (Nat.le_trans ok.z (by decide)) (fun _ _ => rfl) (fun e he qs v w H3 e3 o3 x3 r3 s3 => ?_) fun e he _ qs v w H3 _ _ _ r3 s3 => er_tup (er_var rfl r3) (er_var rfl s3)) (List.map_id _)) (only_mk ok)) fun v H4 e4 t => q v H4 (e1.trans e4) t
    exact et_and' (et_inD (er_var rfl r3) (er_var rfl (rD.m x3 ra))) fun _ => et_inD (er_var rfl s3) (er_var rfl (rD.m x3 ra))
  case len =>
    obtain ⟨ps, v, w, s, a, rfl, _⟩ := h
    rfl
def outOf (s : Sht) (z : Str) : Sht := only s (s.1.flatten.filter fun x => !decide (x = z))
theorem sc_sh_without_node : FnScope ["self", "node", "name"] ["self", "node"] (defScope (shS 27)) := ⟨rfl, rfl, rfl, by decide +kernel, rfl, by decide +kernel, by decide +kernel⟩
theorem ok_sh_without_node (T : Tx K mg fd) : FnOk P w K mg base CX0 8 (He.ma K (shC K) "without_node") (fd 67) ["self", "node"] (Sp2 (rS_ K) rS (rS_ K) outOf (fun s z => Sok s ∧ z ∈ s.1.flatten)) := by
  refine (T.dm 67 27 "without_node" "Sheet.without_node" rfl).ok sc_sh_without_node (fun vs H Q E h => ?len) (fun cdv A outer s H vs Q E hr h => ?body)
  case body =>
    refine ⟨_, (pss_cons (ps_if (pt_not (pt_val (pe_call (ok_is_node T) (hr.mono (by decide)) (by rfl) (T.gl 7 "is_node" rfl) (T.df 5 27 "is_node" rfl).kp ((T.df 5 27 "is_node" rfl).binds (ps := ["value", "places"]) fun _ _ _ _ _ _ us hl => match us, hl with | [_, _], _ => rfl) .nil pass0 (pa_cons (pv 1) (pa_cons (pe_fld (pv 0) rfl) pa_nil))))) (pss_one ps_never) pss_nil) (pss_one (ps_ret (pe_meth (pv 0) T.cls (T.meth 94 "_with_only" rfl) (ok_sh_with_only_l T) (hr.mono (by decide)) ((T.dm 74 34 "_with_only" "Sheet._with_only" rfl).binds (ps := ["self", "nodes"]) fun _ _ _ _ _ _ us hl => match us, hl with | [_, _], _ => rfl) .nil pass0 (pa_cons (pe_lc (own := [("name", 2)]) (g := gName 2) rfl sc_sh_without_node.nd (pi_list (pe_fld (pv 0) rfl)) (blkOk_by (N := ["self", "node", "name"]) (sc := (defScope (shS 27))) (own := [("name", 2)]) (by decide +kernel)) (fun _ _ _ _ _ => (pg_name (i := 2) sc_sh_without_node.nd rfl (Or.inl rfl))) (fun _ _ _ _ _ => (pts_one (pt_cmpR op_ne (pv 2) (pv 1) (nomark _)))) (fun _ _ _ _ _ => (pv 2))) pa_nil))))), ?_⟩
    obtain ⟨ps, v, w, s, z, rfl, o, r, ra, ok, q⟩ := h
    obtain ⟨ok, hz⟩ := ok
    obtain rfl : w = .str z := ra
    refine q_whenR o (b := false) (et_is' (et_not' (et_B' (er_isnode (er_var (v := .str z) rfl rfl) (sh_places (i := 0) rfl r T.cls (T.noat 64 "_places" rfl))))) (by rw [decide_eq_true hz]; rfl)) (fun z => nomatch z) fun _ H1 e1 => ?_
    have r := (rS_ K).m (Rm_mono e1) r
    have hf := ok.lv.few
    rw [← many_flat] at hf
    refine s_retR (o.ex e1) (er_meth1 (er_var rfl r) (er_is (er_lc1F (R := rS) (S := rS) id (fun x => !decide (x = z)) (wk_list (sh_nodes (i := 0) rfl r T.cls (T.noat 63 "_nodes" rfl))) (by omega) (fun _ => rfl) (fun x hx qs v H2 e2 o2 x2 r2 => ?_) fun x hx _ qs v H2 _ _ _ r2 => er_var rfl r2) (List.map_id _)) (by decide +kernel) ok) fun v H2 e2 t => q v H2 (e1.trans e2) t
    obtain rfl : v = .str x := r2
    refine et_is' (et_test' (er_B (ev_op (ev_var rfl) (ev_var rfl) (rv_ne rfl)))) ?_
    congr 1
    exact decide_eq_decide.mpr ⟨fun y => by injection y, fun y => by rw [y]⟩
  case len =>
    obtain ⟨ps, v, w, s, z, rfl, _⟩ := h
    rfl
end
end K21
set_option Elab.async false
set_option linter.all false
set_option maxRecDepth 100000
set_option maxHeartbeats 4000000
namespace K21
open PySem PySem.Spec PyProof.Rows L2 Evl Gen RP
section
variable {P : Program} {w : World} {K : PySem.W.Frag} {mg : Str → Option Value} {base : Heap} {fd : Nat → FuncData}
theorem q_popR {α : Type} {R : Rp α} {ps : List Addr} {σ : L2.St} {H : Hp} {ta : TE} {as : List α} {a : α} {p : Addr} {i : Nat} {D : Ends} {tz : TS} (o : Own ps H) (l : Ls R ps H p (as ++ [a])) (ha : Ev ta σ H (.ref p))
    (k : ∀ v H1, Fr ps H H1 → Ls R ps H1 p as → R.p a v (Rm ps H1) → Oth p H H1 → tz D (σ.set i (some v)) H1) : tSeq (tAsg (tBM0 K "list" rPop ta) (gName i)) tz D σ H := ha H (Ex.refl H) _ fun H1 e1 => by
  obtain ⟨m, vs, h1, h2⟩ := l
  have hl := h2.len
  rw [List.length_append, List.length_singleton] at hl
  have ha' : (as ++ [a])[as.length]? = some a := by rw [List.getElem?_append_right (Nat.le_refl _), Nat.sub_self]; rfl
  obtain ⟨v, hv, hr⟩ := h2.get ha'
  refine ⟨Or.inl ⟨rfl, vs, sq_of (e1 p _ h1)⟩, p, vs, v, rfl, rfl, e1 p _ h1, by rw [show vs.length - 1 = as.length by omega]; exact hv, ?_⟩
  have er : Rm ps (upd H1 p (.lst vs.dropLast)) = Rm ps H1 := Rm_upd m
  refine k v _ ((Fr.of o e1).upd m) ⟨m, vs.dropLast, upd_same, ?_⟩ (by rw [er]; exact R.m (Rm_mono e1) hr) (Oth.upd e1)
  rw [er]
  have e2 : vs.dropLast = vs.take as.length := by rw [List.dropLast_eq_take]; congr 1; omega
  have e3 : as = (as ++ [a]).take as.length := by rw [List.take_append_of_le_length (Nat.le_refl _), List.take_length]
  rw [e2, e3, ← e3]
  exact ((h2.imp fun _ _ r => R.m (Rm_mono e1) r).take (n := as.length)) |> fun z => by rw [← e3] at z; exact z
theorem er_lenLs {α : Type} {R : Rp α} {ps : List Addr} {σ : L2.St} {H : Hp} {ta : TE} {as : List α} {p : Addr} (l : Ls R ps H p as) (ha : Ev ta σ H (.ref p)) {r : List V → Hp → VK → Prop} (hr : ∀ a vs H1 (Q : VK), Sq K H1 a vs → Q (.int (vs.length : Int)) H1 → r [.ref a] H1 Q) : Ev (tCB r (tCons ta tNil)) σ H (.int (as.length : Int)) := fun H1 e Q q => ha H1 e _ fun H2 e2 => by
  obtain ⟨m, vs, h1, h2⟩ := l
  refine hr p vs H2 Q (.inl (sq_of ((e.trans e2) _ _ h1))) ?_
  rw [← h2.len]
  exact q H2 e2
theorem Ls.oth' {α : Type} {R : Rp α} {ps : List Addr} {H H' : Hp} {p q : Addr} {as : List α} (h : Ls R ps H q as) (n : q ≠ p) (o : Oth p H H') (f : Fr ps H H') : Ls R ps H' q as := h.oth n o f
/-! ### what hangs together -/
inductive Con (es : List (Str × Str)) : Str → Str → Prop
  | refl (a : Str) : Con es a a
  | step {a b c : Str} : Con es a b → ((b, c) ∈ es ∨ (c, b) ∈ es) → Con es a c
theorem Con.trans {es : List (Str × Str)} {a b c : Str} (h : Con es a b) (k : Con es b c) : Con es a c := by
  induction k with
  | refl => exact h
  | step _ e ih => exact .step ih e
theorem Con.one {es : List (Str × Str)} {a b : Str} (h : (a, b) ∈ es ∨ (b, a) ∈ es) : Con es a b := .step (.refl a) h
theorem Con.symm {es : List (Str × Str)} {a b : Str} (h : Con es a b) : Con es b a := by
  induction h with
  | refl => exact .refl _
  | step _ e ih => exact (Con.one e.symm).trans ih
theorem Con.mono {es fs : List (Str × Str)} {a b : Str} (h : Con es a b) (k : ∀ e ∈ es, e ∈ fs) : Con fs a b := by
  induction h with
  | refl => exact .refl _
  | step _ e ih => exact .step ih (e.imp (k _) (k _))
/-- the nodes near one -/
def near (es : List (Str × Str)) (z : Str) : List Str := ((es.filter fun e => decide (e.1 = z)).map fun e => e.2) ++ (((es.map swp).filter fun e => decide (e.1 = z)).map fun e => e.2)
theorem mem_near {es : List (Str × Str)} {a b : Str} : b ∈ near es a ↔ (a, b) ∈ es ∨ (b, a) ∈ es := by
  unfold near
  rw [List.mem_append, List.mem_map, List.mem_map]
  constructor
  · rintro (⟨e, h, rfl⟩ | ⟨e, h, rfl⟩)
    · rw [List.mem_filter, decide_eq_true_eq] at h
      rw [← h.2]
      exact .inl h.1
    · rw [List.mem_filter, decide_eq_true_eq, List.mem_map] at h
      obtain ⟨⟨f, hf, rfl⟩, h2⟩ := h
      rw [← h2]
      exact .inr hf
  · rintro (h | h)
    · exact .inl ⟨(a, b), List.mem_filter.mpr ⟨h, decide_eq_true rfl⟩, rfl⟩
    · exact .inr ⟨(a, b), List.mem_filter.mpr ⟨List.mem_map.mpr ⟨(b, a), h, rfl⟩, decide_eq_true rfl⟩, rfl⟩
def spReach : Sp := fun vs H Q _ => ∃ ps v w u z ns es, vs = [v, w, u] ∧ Own ps H ∧ rS.p z v (Rm ps H) ∧ (rEn ns).p es w (Rm ps H) ∧ (rEn ns).p (es.map swp) u (Rm ps H) ∧ z ∈ ns ∧ ns.Nodup ∧ (∀ e ∈ es, e.1 ∈ ns ∧ e.2 ∈ ns) ∧ ns.length ≤ 1000 ∧ es.length ≤ 1000 ∧
  ∀ r rs H', Ex H H' → rD.p rs r (Rm ps H') → (∀ x, x ∈ rs ↔ Con es z x) → rs.Nodup → (∀ x ∈ rs, x ∈ ns) → Q r H'
theorem nd_sub_len {a b : List Str} (h : a.Nodup) (hs : ∀ x ∈ a, x ∈ b) : a.length ≤ b.length := by
  induction a generalizing b with
  | nil => exact Nat.zero_le _
  | cons x r ih =>
    have hx := hs x (List.mem_cons_self ..)
    have h2 := List.nodup_cons.mp h
    have := ih (b := b.erase x) h2.2 fun y hy => (List.mem_erase_of_ne (fun z => h2.1 (by rw [← z]; exact hy))).mpr (hs y (List.mem_cons_of_mem _ hy))
    rw [List.length_erase_of_mem hx] at this
    have : 0 < b.length := List.length_pos_of_mem hx
    rw [List.length_cons]
    omega
theorem q_disp1 {ps : List Addr} {σ : L2.St} {H : Hp} {i j : Nat} {z : Str} {D : Ends} {tz : TS} (o : Own ps H) (hz : σ[i]? = some (some (.str z))) (k : ∀ p H1, Ex H H1 → p ∉ ps → H p = none → Own (p :: ps) H1 → Ex (Rm ps H) (Rm (p :: ps) H1) → DK (p :: ps) H1 p [z] → tz D (σ.set j (some (.ref p))) H1) : tSeq (tAsg (tDisp [(tVar i, tC (.bl true))]) (gName j)) tz D σ H := fun p hp => by
  refine ⟨.str z, hz, upd_same, [(.inr z, .bl true)], rfl, (by show 1 ≤ 15; decide), ?_⟩
  have n := new_own (ob := .dK []) o hp
  have f : Fr (p :: ps) (upd H p (.dK [])) (upd (upd H p (.dK [])) p (.dK (mergeK [] [(Sum.inr z, V.bl true)]))) := (Fr.refl n.1).upd (List.mem_cons_self ..)
  exact k p _ (Ex.mut (Ex.new hp) hp) (o.nin hp) hp f.1 (n.2.trans f.2) ⟨List.mem_cons_self .., _, upd_same, rfl⟩
theorem q_new1 {ps : List Addr} {σ : L2.St} {H : Hp} {i j : Nat} {z : Str} {D : Ends} {tz : TS} (o : Own ps H) (hz : σ[i]? = some (some (.str z))) (k : ∀ p H1, Ex H H1 → p ∉ ps → H p = none → Own (p :: ps) H1 → Ex (Rm ps H) (Rm (p :: ps) H1) → Ls rS (p :: ps) H1 p [z] → tz D (σ.set j (some (.ref p))) H1) : tSeq (tAsg (tLst (tCons (tVar i) tNil)) (gName j)) tz D σ H :=
  ⟨.str z, hz, sz_of (by show 1 ≤ 100000; decide), fun p hp => by
    have n := new_own (ob := .lst [.str z]) o hp
    exact k p _ (Ex.new hp) (o.nin hp) hp n.1 n.2 ⟨List.mem_cons_self .., _, upd_same, rfl, trivial⟩⟩
/-- on the way: reached, waiting, the one that is gone from -/
structure RI (ns : List Str) (es : List (Str × Str)) (z : Str) (at_ : Option Str) (dn : List Str) (R W : List Str) : Prop where
  nd : R.Nodup
  sub : ∀ x ∈ R, x ∈ ns
  wr : ∀ x ∈ W, x ∈ R
  st : z ∈ R
  con : ∀ x ∈ R, Con es z x
  cl : ∀ x ∈ R, x ∉ W → some x ≠ at_ → ∀ y ∈ near es x, y ∈ R
  a : ∀ x, at_ = some x → x ∈ R
  d : ∀ y ∈ dn, y ∈ R
theorem RI.len {ns : List Str} {es : List (Str × Str)} {z : Str} {at_ : Option Str} {dn R W : List Str} (h : RI ns es z at_ dn R W) : R.length ≤ ns.length := nd_sub_len h.nd h.sub
theorem RI.pop {ns : List Str} {es : List (Str × Str)} {z x : Str} {R W : List Str} (h : RI ns es z none [] R (W ++ [x])) : RI ns es z (some x) [] R W where
  nd := h.nd
  sub := h.sub
  wr := fun y hy => h.wr y (List.mem_append_left _ hy)
  st := h.st
  con := h.con
  cl := fun y hy hw hn => h.cl y hy (fun m => (List.mem_append.mp m).elim hw fun m => hn (by rw [List.mem_singleton.mp m])) (fun z => nomatch z)
  a := fun y e => by cases e; exact h.wr x (List.mem_append_right _ (List.mem_singleton.mpr rfl))
  d := fun y z => nomatch z
theorem RI.put {ns : List Str} {es : List (Str × Str)} {z x y : Str} {dn R W : List Str} (h : RI ns es z (some x) dn R W) (hy : y ∈ near es x) (hs : y ∈ ns) (hn : y ∉ R) : RI ns es z (some x) (dn ++ [y]) (R ++ [y]) (W ++ [y]) where
  nd := List.nodup_append.mpr ⟨h.nd, List.nodup_cons.mpr ⟨List.not_mem_nil, List.nodup_nil⟩, fun a ha b hb e => hn (by rw [List.mem_singleton.mp hb] at e; rw [← e]; exact ha)⟩
  sub := fun a ha => (List.mem_append.mp ha).elim (h.sub a) fun m => by rw [List.mem_singleton.mp m]; exact hs
  wr := fun a ha => (List.mem_append.mp ha).elim (fun m => List.mem_append_left _ (h.wr a m)) fun m => List.mem_append_right _ m
  st := List.mem_append_left _ h.st
  con := fun a ha => (List.mem_append.mp ha).elim (h.con a) fun m => by rw [List.mem_singleton.mp m]; exact .step (h.con x (h.a x rfl)) (mem_near.mp hy)
  cl := fun a ha hw hn' b hb => List.mem_append_left _ ((List.mem_append.mp ha).elim (fun m => h.cl a m (fun mw => hw (List.mem_append_left _ mw)) hn' b hb) fun m => absurd (List.mem_append_right _ m) hw)
  a := fun a e => List.mem_append_left _ (h.a a e)
  d := fun a ha => (List.mem_append.mp ha).elim (fun m => List.mem_append_left _ (h.d a m)) fun m => List.mem_append_right _ m
theorem RI.old {ns : List Str} {es : List (Str × Str)} {z x y : Str} {dn R W : List Str} (h : RI ns es z (some x) dn R W) (hn : y ∈ R) : RI ns es z (some x) (dn ++ [y]) R W := ⟨h.nd, h.sub, h.wr, h.st, h.con, h.cl, h.a, fun a ha => (List.mem_append.mp ha).elim (h.d a) fun m => by rw [List.mem_singleton.mp m]; exact hn⟩
theorem RI.next {ns : List Str} {es : List (Str × Str)} {z x : Str} {R W : List Str} (h : RI ns es z (some x) (near es x) R W) : RI ns es z none [] R W := ⟨h.nd, h.sub, h.wr, h.st, h.con, fun a ha hw _ b hb => by
  by_cases e : a = x
  · subst e
    exact h.d b hb
  · exact h.cl a ha hw (fun z => e (Option.some.inj z)) b hb, (fun x e => nomatch e), (fun y z => nomatch z)⟩
theorem RI.fin {ns : List Str} {es : List (Str × Str)} {z : Str} {R : List Str} (h : RI ns es z none [] R []) (x : Str) : x ∈ R ↔ Con es z x := by
  refine ⟨h.con x, fun c => ?_⟩
  induction c with
  | refl => exact h.st
  | step _ e ih => exact h.cl _ ih List.not_mem_nil (fun z => nomatch z) _ (mem_near.mpr e)
theorem sc_reached_from : FnScope ["node", "ups", "downs", "reached", "waiting", "at", "near"] ["node", "ups", "downs"] (defScope (topS 34)) := ⟨rfl, rfl, rfl, by decide +kernel, rfl, by decide +kernel, by decide +kernel⟩
theorem ok_reached_from (T : Tx K mg fd) : FnOk P w K mg base CX0 1 (He.ga K "reached_from") (fd 12) ["node", "ups", "downs"] spReach := by
  refine (T.df 12 34 "reached_from" rfl).ok sc_reached_from (fun vs H Q E h => ?len) (fun cdv A outer s H vs Q E hr h => ?body)
  case body =>
    refine ⟨_, (pss_cons (ps_set (i := 3) sc_reached_from.nd rfl (Or.inl rfl) (pe_disp (pps_cons (pv 0) pe_bl pps_nil) (by rfl) (by rfl) (fun z => by cases z) (by decide))) (pss_cons (ps_set (i := 4) sc_reached_from.nd rfl (Or.inl rfl) (pe_lst (pa_cons (pv 0) pa_nil))) (pss_cons (ps_while PassesOwn.never (pt_cmpR op_gt (pe_callB call_len (by rfl) (T.fr 47 "len" rfl) (by decide +kernel) (pa_cons (pv 4) pa_nil)) pe_int (nomark _)) (pss_cons (ps_set (i := 5) sc_reached_from.nd rfl (Or.inl rfl) (pe_bm0 PySem.F.plainAttrs_list PySem.F.slot_list_pop PySem.F.type_list_pop mt_pop (pv 4))) (pss_one (ps_for PassesOwn.never rfl (pi_list (pe_op op_cat (pe_dget (u1 hr.units) (pv 1) (pv 5) (fun _ _ => rfl)) (pe_dget (u1 hr.units) (pv 2) (pv 5) (fun _ _ => rfl)))) (pg_name (i := 6) sc_reached_from.nd rfl (Or.inl rfl)) (pss_one (ps_if (pt_cmp (pc_dnotin (u1 hr.units) (pv 6) (pv 3))) (pss_cons (ps_dput (u1 hr.units) (pv 3) (pv 6) pe_bl rfl) (pss_one (ps_expr (pe_bm PySem.F.plainAttrs_list PySem.F.slot_list_append PySem.F.type_list_append mt_append (pv 4) (pa_cons (pv 6) pa_nil))))) pss_nil)))))) (pss_one (ps_ret (pv 3)))))), ?_⟩
    obtain ⟨ps, v, w, u, z, ns, es, rfl, o, r, r1, r2, hz, hnd, hse, hN, hE, q⟩ := h
    obtain rfl : v = .str z := r
    refine q_disp1 o rfl fun p H1 e1 np hp o1 x1 d1 => ?_
    refine q_new1 o1 rfl fun q' H2 e2 nq hq o2 x2 l2 => ?_
    have hpq : p ≠ q' := fun e => nq (e ▸ List.mem_cons_self ..)
    have d2 : DK (q' :: p :: ps) H2 p [z] := let ⟨_, kvs, h1, h2⟩ := d1; ⟨List.mem_cons_of_mem _ (List.mem_cons_self ..), kvs, e2 _ _ h1, h2⟩
    have r1' := (rEn ns).m (x1.trans x2) r1
    have r2' := (rEn ns).m (x1.trans x2) r2
    have hq0 := fresh_back e1 hq
    refine q_while (fun m σ' H' => (∃ o5 o6, σ' = [some (.str z), some w, some u, some (.ref p), some (.ref q'), o5, o6]) ∧ Fr (q' :: p :: ps) H2 H' ∧ Ex H H' ∧ ∃ R W, DK (q' :: p :: ps) H' p R ∧ Ls rS (q' :: p :: ps) H' q' W ∧ RI ns es z none [] R W ∧ m = 2 * (ns.length - R.length) + W.length ∧ m ≤ 2 * ns.length + 1) _
      ⟨⟨none, none, rfl⟩, Fr.refl o2, e1.trans e2, [z], [z], d2, l2, ⟨List.nodup_cons.mpr ⟨List.not_mem_nil, List.nodup_nil⟩, fun x hx => by rw [List.mem_singleton.mp hx]; exact hz, fun _ h => h, List.mem_singleton.mpr rfl, fun x hx => by rw [List.mem_singleton.mp hx]; exact .refl z, fun x hx hn => absurd hx hn, fun x e => (nomatch e), fun y h => (nomatch h)⟩, rfl, by show 2 * (ns.length - 1) + 1 ≤ _; omega⟩ fun m σ' H' hw => ?_
    obtain ⟨⟨o5, o6, rfl⟩, f2, eH, R, W, dR, lW, inv, rfl, hmb⟩ := hw
    have hRl := inv.len
    refine ⟨decide (0 < W.length), ?_, fun hb H3 e3 => ⟨fun σ2 H2' => ∃ m', m' < 2 * (ns.length - R.length) + W.length ∧ ((∃ o5 o6, σ2 = [some (.str z), some w, some u, some (.ref p), some (.ref q'), o5, o6]) ∧ Fr (q' :: p :: ps) H2 H2' ∧ Ex H H2' ∧ ∃ R W, DK (q' :: p :: ps) H2' p R ∧ Ls rS (q' :: p :: ps) H2' q' W ∧ RI ns es z none [] R W ∧ m' = 2 * (ns.length - R.length) + W.length ∧ m' ≤ 2 * ns.length + 1), fun _ _ h => h, ?_⟩, fun hb H3 e3 => ?_⟩
    · refine et_is (et_test (ev_op (er_lenLs lW (ev_var rfl) fun a vs H1 Q h q => len_rd h q) ev_c rv_I0)) ?_
      exact decide_eq_decide.mpr (by omega)
    · -- a turn
      have hW : W ≠ [] := fun e => by rw [e] at hb; exact Bool.noConfusion hb
      obtain ⟨W', x, rfl⟩ : ∃ W' x, W = W' ++ [x] := ⟨W.dropLast, W.getLast hW, (List.dropLast_concat_getLast hW).symm⟩
      have f3 := f2.ex e3
      refine q_popR f3.1 (lW.ex e3) (ev_var rfl) fun v H4 f4 l4 rx ot => ?_
      obtain rfl : v = .str x := rx
      have inv4 := inv.pop
      have f34 := f3.trans f4
      have hx : x ∈ ns := inv4.sub x (inv4.a x rfl)
      have d4 : DK (q' :: p :: ps) H4 p R := (dR.ex e3).oth hpq ot
      have eH4 : Ex H H4 := Oth.back (eH.trans e3) ot hq0
      have hlen : (near es x).length ≤ 2000 := by
        unfold near
        rw [List.length_append, List.length_map, List.length_map]
        have h1 := List.length_filter_le (fun e : Str × Str => decide (e.1 = x)) es
        have h2 := List.length_filter_le (fun e : Str × Str => decide (e.1 = x)) (es.map swp)
        rw [List.length_map] at h2
        omega
      refine s_forW f34.1 (wk_list (er_is (er_cat (er_endsget (er_var rfl ((rEn ns).m f34.2 r1')) (er_var (v := .str x) rfl rfl) hx) (er_endsget (er_var rfl ((rEn ns).m f34.2 r2')) (er_var (v := .str x) rfl rfl) hx) ?_) (rfl : _ = near es x))) (fun i σ' H' => (∃ o6, σ' = [some (.str z), some w, some u, some (.ref p), some (.ref q'), some (.str x), o6]) ∧ Ex H H' ∧ ∃ R2 W2, DK (q' :: p :: ps) H' p R2 ∧ Ls rS (q' :: p :: ps) H' q' W2 ∧ RI ns es z (some x) ((near es x).take i) R2 W2 ∧ 2 * (ns.length - R2.length) + W2.length < 2 * (ns.length - R.length) + (W' ++ [x]).length)
        (fun H5 e5 => ⟨⟨o6, rfl⟩, eH4.trans e5, R, W', d4.ex e5, l4.ex e5, by rw [List.take_zero]; exact inv4, by rw [List.length_append, List.length_singleton]; omega⟩) (fun _ _ _ _ e p => let ⟨h1, h2, R2, W2, h3, h4, h5⟩ := p; ⟨h1, h2.trans e, R2, W2, h3.ex e, h4.ex e, h5⟩) (fun H5 e5 i y uu σ' H6 hy f6 f56 pv ru => ?_) fun σ' H5 f5 pv => ?_
      · have : (((es.filter fun e => decide (e.1 = x)).map fun e => e.2).length + (((es.map swp).filter fun e => decide (e.1 = x)).map fun e => e.2).length) = (near es x).length := by unfold near; rw [List.length_append]
        omega
      · obtain ⟨⟨o6', rfl⟩, eH6, R2, W2, d6, l6, inv6, hm⟩ := pv
        obtain rfl : uu = .str y := ru
        have hyn : y ∈ near es x := List.mem_of_getElem? hy
        have hys : y ∈ ns := by
          rcases mem_near.mp hyn with h | h
          · exact (hse _ h).2
          · exact (hse _ h).1
        have h2l := inv6.len
        have hwl : W2.length ≤ 3000 := by omega
        refine s_whenR f56.1 (b := !decide (y ∈ R2)) (et_B' (er_notinDK f56.1 d6 (er_var (v := .str y) rfl rfl) (ev_var rfl))) (fun hb H7 e7 => ?_) fun hb H7 e7 => ?_
        · have hny : y ∉ R2 := fun m => by rw [decide_eq_true m] at hb; exact Bool.noConfusion hb
          have o7 := f56.1.ex e7
          have h3l : (R2 ++ [y]).length ≤ ns.length := (inv6.put hyn hys hny).len
          rw [List.length_append, List.length_singleton] at h3l
          refine q_putK o7 (d6.ex e7) (ev_var rfl) (er_var (v := .str y) rfl rfl) ev_c (by omega) fun H8 f8 d8 ot8 => ?_
          have hadd : add1 R2 y = R2 ++ [y] := by unfold add1; rw [if_neg hny]
          rw [hadd] at d8
          refine s_appR f8.1 ((l6.ex e7).oth (fun e => hpq e.symm) ot8 f8) (ev_var rfl) (er_var (v := .str y) rfl rfl) (by omega) fun H9 f9 l9 ot9 => ?_
          exact ⟨((f6.ex e7).trans f8).trans f9, ⟨_, rfl⟩, Oth.back (Oth.back (eH6.trans e7) ot8 hp) ot9 hq0, R2 ++ [y], W2 ++ [y], d8.oth hpq ot9, l9, by rw [take_snoc hy]; exact inv6.put hyn hys hny, by rw [List.length_append, List.length_append, List.length_singleton]; omega⟩
        · have hyy : y ∈ R2 := by
            cases hc : decide (y ∈ R2) with
            | true => exact of_decide_eq_true hc
            | false => rw [hc] at hb; exact Bool.noConfusion hb
          exact ⟨f6.ex e7, ⟨_, rfl⟩, eH6.trans e7, R2, W2, d6.ex e7, l6.ex e7, by rw [take_snoc hy]; exact inv6.old hyy, hm⟩
      · obtain ⟨⟨o6', rfl⟩, eH5, R2, W2, d5, l5, inv5, hm⟩ := pv
        rw [List.take_length] at inv5
        exact ⟨_, hm, ⟨_, _, rfl⟩, f34.trans f5, eH5, R2, W2, d5, l5, inv5.next, rfl, by omega⟩
    · have hW : W = [] := by
        cases W with
        | nil => rfl
        | cons a b => exact absurd (of_decide_eq_false hb) (fun n => n (Nat.succ_pos _))
      subst hW
      refine s_ret (ev_var rfl) fun H4 e4 => q _ R H4 (eH.trans (e3.trans e4)) ?_ inv.fin inv.nd inv.sub
      obtain ⟨_, kvs, h1, h2⟩ := dR.ex (e3.trans e4)
      exact ⟨p, kvs, rfl, Rm_get h1 np, h2⟩
  case len =>
    obtain ⟨ps, v, w, u, z, ns, es, rfl, _⟩ := h
    rfl
end
end K21
set_option Elab.async false
set_option linter.all false
set_option maxRecDepth 100000
set_option maxHeartbeats 4000000
namespace K21
open PySem PySem.Spec PyProof.Rows L2 Evl Gen RP
section
variable {P : Program} {w : World} {K : PySem.W.Frag} {mg : Str → Option Value} {base : Heap} {fd : Nat → FuncData}
theorem q_reach {ps : List Addr} {σ : L2.St} {H : Hp} {ta tb tc : TE} {z : Str} {ns : List Str} {es : List (Str × Str)} {j : Nat} {E : XK} {D : Ends} {tz : TS} (o : Own ps H) (h1 : EvR rS ps ta σ H z) (h2 : EvR (rEn ns) ps tb σ H es) (h3 : EvR (rEn ns) ps tc σ H (es.map swp)) (hz : z ∈ ns) (hn : ns.Nodup) (he : ∀ e ∈ es, e.1 ∈ ns ∧ e.2 ∈ ns) (hN : ns.length ≤ 1000) (hE : es.length ≤ 1000)
    (k : ∀ d rs H1, Ex H H1 → rD.p rs (.ref d) (Rm ps H1) → (∀ x, x ∈ rs ↔ Con es z x) → rs.Nodup → (∀ x ∈ rs, x ∈ ns) → tz D (σ.set j (some (.ref d))) H1) : tSeq (tAsg (tCall spReach [] E (tCons ta (tCons tb (tCons tc tNil)))) (gName j)) tz D σ H :=
  h1 H (Ex.refl H) o _ fun v H1 e1 r1 => h2 H1 e1 (o.ex e1) _ fun w H2 e2 r2 => h3 H2 (e1.trans e2) (o.ex (e1.trans e2)) _ fun u H3 e3 r3 =>
    ⟨ps, v, w, u, z, ns, es, rfl, o.ex ((e1.trans e2).trans e3), rS.m (Rm_mono (e2.trans e3)) r1, (rEn ns).m (Rm_mono e3) r2, r3, hz, hn, he, hN, hE, fun r rs H4 e4 hr h5 h6 h7 => by
      have hr' := hr
      obtain ⟨d, kvs, rfl, _⟩ := hr'
      exact k d rs H4 (((e1.trans e2).trans e3).trans e4) hr h5 h6 h7⟩
noncomputable def con (es : List (Str × Str)) (a b : Str) : Bool := @decide (Con es a b) (Classical.propDecidable _)
theorem con_iff {es : List (Str × Str)} {a b : Str} : con es a b = true ↔ Con es a b := @decide_eq_true_iff _ (Classical.propDecidable _)
/-- the nodes that hang together with one -/
noncomputable def comp (s : Sht) (z : Str) : List Str := s.1.flatten.filter fun x => con s.2 z x
noncomputable def partOf (s : Sht) (z : Str) : Sht := only s (comp s z)
noncomputable def ldStep (es : List (Str × Str)) (acc : List Str) (z : Str) : List Str := if (acc.any fun y => con es y z) = true then acc else acc ++ [z]
/-- the first ones of each -/
noncomputable def ldf (es : List (Str × Str)) (ns : List Str) : List Str := ns.foldl (ldStep es) []
theorem ldf_snoc {es : List (Str × Str)} {ns : List Str} {z : Str} : ldf es (ns ++ [z]) = ldStep es (ldf es ns) z := by unfold ldf; rw [List.foldl_append]; rfl
theorem ldf_len {es : List (Str × Str)} {ns : List Str} : (ldf es ns).length ≤ ns.length := by
  have gen : ∀ acc : List Str, (ns.foldl (ldStep es) acc).length ≤ acc.length + ns.length := by
    induction ns with
    | nil => exact fun _ => Nat.le_refl _
    | cons z r ih =>
      intro acc
      have h := ih (ldStep es acc z)
      have h2 : (ldStep es acc z).length ≤ acc.length + 1 := by
        unfold ldStep
        split
        · omega
        · rw [List.length_append]; exact Nat.le_refl _
      show (r.foldl (ldStep es) (ldStep es acc z)).length ≤ _
      rw [List.length_cons]
      omega
  have := gen []
  rw [List.length_nil, Nat.zero_add] at this
  exact this
noncomputable def partsOf (s : Sht) : List Sht := (ldf s.2 s.1.flatten).map (partOf s)
theorem only_congr {s : Sht} (ok : Sok s) {a b : List Str} (h : ∀ x ∈ s.1.flatten, x ∈ a ↔ x ∈ b) : only s a = only s b := by
  unfold only
  have h1 : onlyL s.1 a = onlyL s.1 b := by
    unfold onlyL
    refine List.map_congr_left fun l hl => List.filter_congr fun x hx => decide_eq_decide.mpr (h x (List.mem_flatten.mpr ⟨l, hl, hx⟩))
  have h2 : onlyE s.2 a = onlyE s.2 b := by
    unfold onlyE
    refine List.filter_congr fun e he => ?_
    have hf := ok.fit e he
    rw [decide_eq_decide.mpr (h e.1 hf.in1), decide_eq_decide.mpr (h e.2 hf.in2)]
  rw [h1, h2]
theorem part_sok {s : Sht} (ok : Sok s) (z : Str) : Sok (partOf s z) := only_sok ok
theorem parts_sok {s : Sht} (ok : Sok s) : ∀ t ∈ partsOf s, Sok t := fun t ht => by
  obtain ⟨z, _, rfl⟩ := List.mem_map.mp ht
  exact part_sok ok z
theorem sc_sh_parts : FnScope ["self", "parts", "taken", "node", "reached", "name"] ["self"] (defScope (shS 13)) := ⟨rfl, rfl, rfl, by decide +kernel, rfl, by decide +kernel, by decide +kernel⟩
theorem ok_sh_parts (T : Tx K mg fd) : FnOk P w K mg base CX0 8 (He.ma K (shC K) "parts") (fd 54) ["self"] (Sp1 (rS_ K) (rL (rS_ K)) partsOf Sok) := by
  refine (T.dm 54 13 "parts" "Sheet.parts" rfl).ok sc_sh_parts (fun vs H Q E h => ?len) (fun cdv A outer s H vs Q E hr h => ?body)
  case body =>
    refine ⟨_, (pss_cons (ps_set (i := 1) sc_sh_parts.nd rfl (Or.inl rfl) (pe_lst pa_nil)) (pss_cons (ps_set (i := 2) sc_sh_parts.nd rfl (Or.inl rfl) pe_dnewK) (pss_cons (ps_for PassesOwn.never rfl (pi_list (pe_fld (pv 0) rfl)) (pg_name (i := 3) sc_sh_parts.nd rfl (Or.inl rfl)) (pss_one (ps_if (pt_cmp (pc_dnotin (u1 hr.units) (pv 3) (pv 2))) (pss_cons (ps_set (i := 4) sc_sh_parts.nd rfl (Or.inl rfl) (pe_call (ok_reached_from T) (hr.mono (by decide)) (by rfl) (T.gl 14 "reached_from" rfl) (T.df 12 34 "reached_from" rfl).kp ((T.df 12 34 "reached_from" rfl).binds (ps := ["node", "ups", "downs"]) fun _ _ _ _ _ _ us hl => match us, hl with | [_, _, _], _ => rfl) .nil pass0 (pa_cons (pv 3) (pa_cons (pe_fld (pv 0) rfl) (pa_cons (pe_fld (pv 0) rfl) pa_nil))))) (pss_cons (ps_lock (ps_for PassesOwn.never rfl (pi_keys (pv 4)) (pg_name (i := 5) sc_sh_parts.nd rfl (Or.inl rfl)) (pss_one (ps_dput (u1 hr.units) (pv 2) (pv 5) pe_bl rfl)))) (pss_one (ps_expr (pe_bm PySem.F.plainAttrs_list PySem.F.slot_list_append PySem.F.type_list_append mt_append (pv 1) (pa_cons (pe_meth (pv 0) T.cls (T.meth 94 "_with_only" rfl) (ok_sh_with_only_d T) (hr.mono (by decide)) ((T.dm 74 34 "_with_only" "Sheet._with_only" rfl).binds (ps := ["self", "nodes"]) fun _ _ _ _ _ _ us hl => match us, hl with | [_, _], _ => rfl) .nil pass0 (pa_cons (pv 4) pa_nil)) pa_nil)))))) pss_nil))) (pss_one (ps_ret (pv 1)))))), ?_⟩
    obtain ⟨ps, v, s, rfl, o, r, ok, q⟩ := h
    have hN : s.1.flatten.length ≤ 60 := by rw [many_flat]; exact ok.lv.few
    refine q_new (R := rS_ K) o fun p H1 e1 np hp o1 x1 l1 => ?_
    refine q_newDK o1 fun q' H2 e2 nq hq o2 x2 d2 => ?_
    have hpq : p ≠ q' := fun e => nq (e ▸ List.mem_cons_self ..)
    have r2 := (rS_ K).m (x1.trans x2) r
    have hq0 := fresh_back e1 hq
    have l2 : Ls (rS_ K) (q' :: p :: ps) H2 p [] := let ⟨_, vs, h1, h2⟩ := l1; ⟨List.mem_cons_of_mem _ (List.mem_cons_self ..), vs, e2 _ _ h1, h2.imp fun _ _ r => (rS_ K).m x2 r⟩
    refine q_forW o2 (wk_list (sh_nodes (i := 0) rfl r2 T.cls (T.noat 63 "_nodes" rfl))) (fun i σ' H' => (∃ o3 o4 o5, σ' = [some v, some (.ref p), some (.ref q'), o3, o4, o5]) ∧ Ex H H' ∧ ∃ ts, Ls (rS_ K) (q' :: p :: ps) H' p ((ldf s.2 (s.1.flatten.take i)).map (partOf s)) ∧ DK (q' :: p :: ps) H' q' ts ∧ ts.length ≤ 60 * i ∧ ∀ x, x ∈ ts ↔ ∃ y ∈ ldf s.2 (s.1.flatten.take i), Con s.2 y x)
      (fun H3 e3 => ⟨⟨none, none, none, rfl⟩, (e1.trans e2).trans e3, [], l2.ex e3, d2.ex e3, Nat.le_refl _, fun x => ⟨(fun h => nomatch h), fun ⟨_, h, _⟩ => by rw [List.take_zero] at h; cases h⟩⟩) (fun _ _ _ _ e p => let ⟨h1, h2, ts, h3, h4, h5⟩ := p; ⟨h1, h2.trans e, ts, h3.ex e, h4.ex e, h5⟩) (fun H3 e3 i z u σ' H4 hz f4 f24 pv ru => ?_) fun σ' H4 f4 pv => ?_
    · obtain ⟨⟨o3, o4, o5, rfl⟩, eH4, ts, l4, d4, ht, hm⟩ := pv
      obtain rfl : u = .str z := ru
      have hil : i < s.1.flatten.length := (List.getElem?_eq_some_iff.mp hz).1
      have hzm : z ∈ s.1.flatten := List.mem_of_getElem? hz
      have hany : (ldf s.2 (s.1.flatten.take i)).any (fun y => con s.2 y z) = decide (z ∈ ts) := by
        rw [Bool.eq_iff_iff, List.any_eq_true, decide_eq_true_eq, hm]
        exact ⟨fun ⟨y, h1, h2⟩ => ⟨y, h1, con_iff.mp h2⟩, fun ⟨y, h1, h2⟩ => ⟨y, h1, con_iff.mpr h2⟩⟩
      refine s_whenR f24.1 (b := !decide (z ∈ ts)) (et_B' (er_notinDK f24.1 d4 (er_var (v := .str z) rfl rfl) (ev_var rfl))) (fun hb H5 e5 => ?_) fun hb H5 e5 => ?_
      · have hstep : ldf s.2 (s.1.flatten.take (i + 1)) = ldf s.2 (s.1.flatten.take i) ++ [z] := by
          rw [take_snoc hz, ldf_snoc]
          unfold ldStep
          rw [hany, if_neg]
          intro hc
          rw [hc] at hb
          exact Bool.noConfusion hb
        have f5 := f24.ex e5
        have r5 := (rS_ K).m f5.2 r2
        refine q_reach f5.1 (er_var (v := .str z) rfl rfl) (sh_ups (i := 0) rfl r5 T.cls (T.noat 65 "_ups" rfl)) (sh_downs (i := 0) rfl r5 T.cls (T.noat 66 "_downs" rfl)) hzm ok.lv.once (fun e he => ⟨(ok.fit e he).in1, (ok.fit e he).in2⟩) (by omega) (Nat.le_trans ok.z (by decide)) fun d rs H6 e6 hd hrs hnd hsub => ?_
        have f6 := f5.ex e6
        have hrl : rs.length ≤ 60 := Nat.le_trans (nd_sub_len hnd hsub) hN
        refine q_mark (j := 5) f6.1 rfl rfl (by show 5 < 6; decide) (by decide) hd ((d4.ex e5).ex e6) (by omega) fun x5 H7 f7 d7 ot7 => ?_
        have f67 := f6.trans f7
        have r7 := (rS_ K).m f67.2 r2
        have hd7 := rD.m f7.2 hd
        have l7 := ((l4.ex e5).ex e6).oth hpq ot7 f7
        have hlen := ldf_len (es := s.2) (ns := s.1.flatten.take i)
        have htl : (s.1.flatten.take i).length ≤ 60 := by rw [List.length_take]; omega
        refine s_appR f7.1 l7 (ev_var rfl) (er_is (er_meth1 (f := fun s ns => only s ns) (er_var rfl r7) (er_var rfl hd7) (by decide +kernel) ok) (only_congr (b := comp s z) ok fun x hx => ?_)) (by rw [List.length_map]; omega) fun H8 f8 l8 ot8 => ?_
        · rw [hrs]
          unfold comp
          rw [List.mem_filter, con_iff]
          exact ⟨fun h => ⟨hx, h⟩, fun h => h.2⟩
        refine ⟨((f4.ex (e5.trans e6)).trans f7).trans f8, ⟨_, _, _, rfl⟩, Oth.back (Oth.back (eH4.trans (e5.trans e6)) ot7 hq0) ot8 hp, adds ts rs, ?_, d7.oth (fun e => hpq e.symm) ot8, ?_, fun x => ?_⟩
        · rw [hstep, List.map_append]
          exact l8
        · have := len_adds (l := ts) (es := rs)
          omega
        · rw [mem_adds, hm, hrs, hstep]
          constructor
          · rintro (⟨y, h1, h2⟩ | h)
            · exact ⟨y, List.mem_append_left _ h1, h2⟩
            · exact ⟨z, List.mem_append_right _ (List.mem_singleton.mpr rfl), h⟩
          · rintro ⟨y, h1, h2⟩
            rcases List.mem_append.mp h1 with h1 | h1
            · exact .inl ⟨y, h1, h2⟩
            · rw [List.mem_singleton.mp h1] at h2
              exact .inr h2
      · have hstep : ldf s.2 (s.1.flatten.take (i + 1)) = ldf s.2 (s.1.flatten.take i) := by
          rw [take_snoc hz, ldf_snoc]
          unfold ldStep
          rw [hany, if_pos]
          cases hc : decide (z ∈ ts) with
          | true => rfl
          | false => rw [hc] at hb; exact Bool.noConfusion hb
        exact ⟨f4.ex e5, ⟨_, _, _, rfl⟩, eH4.trans e5, ts, by rw [hstep]; exact l4.ex e5, d4.ex e5, by omega, by rw [hstep]; exact hm⟩
    · obtain ⟨⟨o3, o4, o5, rfl⟩, eH4, ts, l4, d4, ht, hm⟩ := pv
      rw [List.take_length] at l4
      refine s_ret (ev_var rfl) fun H5 e5 => q _ H5 (eH4.trans e5) ?_
      obtain ⟨_, vs, h1, h2⟩ := l4.ex e5
      exact ⟨p, vs, rfl, Rm_get h1 np, h2.imp fun _ _ r => (rS_ K).m (Rm_pop.trans Rm_pop) r⟩
  case len =>
    obtain ⟨ps, v, s, rfl, _⟩ := h
    rfl
end
end K21
set_option Elab.async false
set_option linter.all false
set_option maxRecDepth 100000
set_option maxHeartbeats 4000000
namespace K21
open PySem PySem.Spec PyProof.Rows L2 Evl Gen RP
section
variable {P : Program} {w : World} {K : PySem.W.Frag} {mg : Str → Option Value} {base : Heap} {fd : Nat → FuncData}
def spFitsS : Sp := fun vs H Q _ => ∃ (x : Str) (d : Addr), vs = [.str x, .ref d] ∧ RetV (.bl false) H Q
theorem sc_fits_as_line_s : FnScope ["value", "places", "low", "high"] ["value", "places"] (defScope (topS 28)) := ⟨rfl, rfl, rfl, by decide +kernel, rfl, by decide +kernel, by decide +kernel⟩
theorem ok_fits_as_line_s (T : Tx K mg fd) : FnOk P w K mg base CX0 2 (He.ga K "fits_as_line") (fd 6) ["value", "places"] spFitsS := by
  refine (T.df 6 28 "fits_as_line" rfl).ok sc_fits_as_line_s (fun vs H Q E h => ?len) (fun cdv A outer s H vs Q E hr h => ?body)
  case body =>
    refine ⟨_, (pss_cons (ps_if (PW.pt (pw_or (pt_not (pt_val (pe_callB call_isi (by rfl) (T.fr 40 "isinstance" rfl) (by decide +kernel) (pa_cons (pv 0) (pa_cons (pe_bltn (v := V.ty "tuple") (by rfl) (T.fr 45 "tuple" rfl) (by decide +kernel) rfl) pa_nil))))) (pw_or1 (pt_cmpR op_ne (pe_callB call_len (by rfl) (T.fr 47 "len" rfl) (by decide +kernel) (pa_cons (pv 0) pa_nil)) pe_int (nomark _))))) (pss_one (ps_ret pe_bl)) pss_nil) (pss_cons (ps_asg (pv 0) (pg_tup rfl (pgs_cons (pg_name (i := 2) sc_fits_as_line_s.nd rfl (Or.inl rfl)) (pgs_cons (pg_name (i := 3) sc_fits_as_line_s.nd rfl (Or.inl rfl)) pgs_nil)))) (pss_cons (ps_if (PW.pt (pw_or (pt_not (pt_val (pe_call (ok_is_node T) (hr.mono (by decide)) (by rfl) (T.gl 7 "is_node" rfl) (T.df 5 27 "is_node" rfl).kp ((T.df 5 27 "is_node" rfl).binds (ps := ["value", "places"]) fun _ _ _ _ _ _ us hl => match us, hl with | [_, _], _ => rfl) .nil pass0 (pa_cons (pv 2) (pa_cons (pv 1) pa_nil))))) (pw_or1 (pt_not (pt_val (pe_call (ok_is_node T) (hr.mono (by decide)) (by rfl) (T.gl 7 "is_node" rfl) (T.df 5 27 "is_node" rfl).kp ((T.df 5 27 "is_node" rfl).binds (ps := ["value", "places"]) fun _ _ _ _ _ _ us hl => match us, hl with | [_, _], _ => rfl) .nil pass0 (pa_cons (pv 3) (pa_cons (pv 1) pa_nil)))))))) (pss_one (ps_ret pe_bl)) pss_nil) (pss_one (ps_ret (pe_cmpR op_eq (pe_dget (u1 hr.units) (pv 1) (pv 3) (fun _ _ => rfl)) (pe_op op_add (pe_dget (u1 hr.units) (pv 1) (pv 2) (fun _ _ => rfl)) pe_int) (nomark _))))))), ?_⟩
    obtain ⟨x, d, rfl, q⟩ := h
    refine q_when (b := true) ?_ (fun _ H1 e1 => s_ret ev_c fun H2 e2 => q.go (e1.trans e2)) (fun z => nomatch z)
    exact et_is (a := (!false) || false) (et_or (et_not (a := false) (et_B (ev_isi (ev_var rfl) (.str x) (by show kitB _ _ = some false; decide +kernel) ev_c))) fun z => nomatch z) rfl
  case len =>
    obtain ⟨x, d, rfl, _⟩ := h
    rfl
theorem er_fitsS {ps : List Addr} {σ : L2.St} {H : Hp} {ta td : TE} {ls : List (List Str)} {z : Str} {E : XK} (h : EvR rS ps ta σ H z) (h2 : EvR rPl ps td σ H ls) : EvR rB ps (tCall spFitsS [] E (tCons ta (tCons td tNil))) σ H false := fun H1 e1 o Q q => h H1 e1 o _ fun v H2 e2 r => h2 H2 (e1.trans e2) (o.ex e2) _ fun w H3 e3 r2 => by
  obtain rfl : v = .str z := r
  obtain ⟨d, kvs, rfl, hd, hk⟩ := r2
  exact ⟨z, d, rfl, fun H4 e4 => q _ H4 ((e2.trans e3).trans e4) rfl⟩
theorem sc_sh_is_line : FnScope ["self", "value"] ["self", "value"] (defScope (shS 32)) := ⟨rfl, rfl, rfl, by decide +kernel, rfl, by decide +kernel, by decide +kernel⟩
theorem ok_sh_is_line (T : Tx K mg fd) : FnOk P w K mg base CX0 3 (He.ma K (shC K) "_is_line") (fd 72) ["self", "value"] (Sp2 (rS_ K) rS rB (fun _ _ => false) (fun s _ => Sok s)) := by
  refine (T.dm 72 32 "_is_line" "Sheet._is_line" rfl).ok sc_sh_is_line (fun vs H Q E h => ?len) (fun cdv A outer s H vs Q E hr h => ?body)
  case body =>
    refine ⟨_, (pss_one (ps_ret (pe_and (pe_call (ok_fits_as_line_s T) (hr.mono (by decide)) (by rfl) (T.gl 8 "fits_as_line" rfl) (T.df 6 28 "fits_as_line" rfl).kp ((T.df 6 28 "fits_as_line" rfl).binds (ps := ["value", "places"]) fun _ _ _ _ _ _ us hl => match us, hl with | [_, _], _ => rfl) .nil pass0 (pa_cons (pv 1) (pa_cons (pe_fld (pv 0) rfl) pa_nil))) (pe_one (pe_cmpR op_in_seq (pe_ix (r := rIxT K) ix_tup (pv 1) pe_int (fun _ _ => rfl)) (pe_dget (u1 hr.units) (pe_fld (pv 0) rfl) (pe_ix (r := rIxT K) ix_tup (pv 1) pe_int (fun _ _ => rfl)) (fun _ _ => rfl)) rfl))))), ?_⟩
    obtain ⟨ps, v, w, s, z, rfl, o, r, ra, ok, q⟩ := h
    exact s_retR o (er_is (er_andV (y := false) (er_fitsS (er_var rfl ra) (sh_places (i := 0) rfl r T.cls (T.noat 64 "_places" rfl))) fun z => nomatch z) rfl) q
  case len =>
    obtain ⟨ps, v, w, s, z, rfl, _⟩ := h
    rfl
theorem sc_sh_contains : FnScope ["self", "x"] ["self", "x"] (defScope (shS 16)) := ⟨rfl, rfl, rfl, by decide +kernel, rfl, by decide +kernel, by decide +kernel⟩
theorem ok_sh_contains (T : Tx K mg fd) : FnOk P w K mg base CX0 4 (He.ma K (shC K) "__contains__") (fd 56) ["self", "x"] (Sp2 (rS_ K) rS rB inSh (fun s _ => Sok s)) := by
  refine (T.dm 56 16 "__contains__" "Sheet.__contains__" rfl).ok sc_sh_contains (fun vs H Q E h => ?len) (fun cdv A outer s H vs Q E hr h => ?body)
  case body =>
    refine ⟨_, (pss_one (ps_ret (pe_or (pe_call (ok_is_node T) (hr.mono (by decide)) (by rfl) (T.gl 7 "is_node" rfl) (T.df 5 27 "is_node" rfl).kp ((T.df 5 27 "is_node" rfl).binds (ps := ["value", "places"]) fun _ _ _ _ _ _ us hl => match us, hl with | [_, _], _ => rfl) .nil pass0 (pa_cons (pv 1) (pa_cons (pe_fld (pv 0) rfl) pa_nil))) (pe_one (pe_meth (pv 0) T.cls (T.meth 92 "_is_line" rfl) (ok_sh_is_line T) (hr.mono (by decide)) ((T.dm 72 32 "_is_line" "Sheet._is_line" rfl).binds (ps := ["self", "value"]) fun _ _ _ _ _ _ us hl => match us, hl with | [_, _], _ => rfl) .nil pass0 (pa_cons (pv 1) pa_nil)))))), ?_⟩
    obtain ⟨ps, v, w, s, z, rfl, o, r, ra, ok, q⟩ := h
    refine s_retR o (er_is (er_orV (y := false) (er_isnode (er_var rfl ra) (sh_places (i := 0) rfl r T.cls (T.noat 64 "_places" rfl))) fun _ => er_meth1 (f := fun _ _ => false) (er_var rfl r) (er_var rfl ra) (by decide +kernel) ok) (Bool.or_false _)) q
  case len =>
    obtain ⟨ps, v, w, s, z, rfl, _⟩ := h
    rfl
theorem er_inO {ps : List Addr} {σ : L2.St} {H : Hp} {ty tx : TE} {s : Sht} {z : Str} {E : XK} (h2 : EvR rS ps ty σ H z) (h : EvR (rS_ K) ps tx σ H s) (ok : Sok s) : EvR rB ps (tOp (rOwnIn (shC K) (Sp2 (rS_ K) rS rB inSh (fun s _ => Sok s)) [] E false) ty tx) σ H (inSh s z) := er_op h2 h fun v w H1 e1 o rv rw' Q q => by
  have rw2 := rw'
  obtain ⟨x, rfl, dx, p1, p2, p3, p4, p5, p6, kvs, h1, _⟩ := rw2
  refine ⟨x, dx, _, rfl, Rm_ex _ _ h1, ps, _, _, s, z, rfl, o, rw', rv, ok, fun y H2 e2 r => ⟨inSh s z, r, ?_⟩⟩
  exact q _ H2 e2 rfl
/-! ### equality -/
theorem sok_names {s : Sht} (ok : Sok s) : ∀ l ∈ s.1, ∀ z ∈ l, okS z := fun l hl z hz => isN_strOk (ok.lv.names l hl z hz)
theorem sok_lines {s : Sht} (ok : Sok s) : ∀ e ∈ s.2, okS e.1 ∧ okS e.2 := fun e he => by
  obtain ⟨i, a, b, h1, h2, h3, h4⟩ := ok.fit e he
  exact ⟨sok_names ok a (List.mem_of_getElem? h1) _ h3, sok_names ok b (List.mem_of_getElem? h2) _ h4⟩
theorem sc_sh_eq : FnScope ["self", "other"] ["self", "other"] (defScope (shS 18)) := ⟨rfl, rfl, rfl, by decide +kernel, rfl, by decide +kernel, by decide +kernel⟩
theorem ok_sh_eq (T : Tx K mg fd) : FnOk P w K mg base CX0 1 (He.ma K (shC K) "__eq__") (fd 58) ["self", "other"] (Sp2 (rS_ K) (rS_ K) rB (fun s t => decide (s = t)) (fun s t => Sok s ∧ Sok t)) := by
  refine (T.dm 58 18 "__eq__" "Sheet.__eq__" rfl).ok sc_sh_eq (fun vs H Q E h => ?len) (fun cdv A outer s H vs Q E hr h => ?body)
  case body =>
    refine ⟨_, (pss_one (ps_ret (pe_and (pe_callB call_isi (by rfl) (T.fr 40 "isinstance" rfl) (by decide +kernel) (pa_cons (pv 1) (pa_cons (pe_glob (v := V.ref (He.ga K "Sheet")) (by rfl) (T.gl 36 "Sheet" rfl) rfl) pa_nil))) (pe_and (pe_cmpR (op_eqD hr.units) (pe_fld (pv 0) rfl) (pe_fld (pv 1) rfl) (nomark _)) (pe_one (pe_cmpR (op_eqD hr.units) (pe_fld (pv 0) rfl) (pe_fld (pv 1) rfl) (nomark _))))))), ?_⟩
    obtain ⟨ps, v, w, s, a, rfl, o, r, ra, ok, q⟩ := h
    obtain ⟨ok, ok2⟩ := ok
    refine s_retR o (er_is (er_andV (er_isSh T (er_var rfl ra)) fun _ => er_andV (er_eqD (dtL (dtL dtS)) (by decide) (sh_levels (i := 0) rfl r T.cls (T.noat 61 "_levels" rfl)) (sh_levels (i := 1) rfl ra T.cls (T.noat 61 "_levels" rfl)) (sok_names ok) (sok_names ok2)) fun _ => er_eqD (dtL (dtP dtS dtS)) (by decide) (sh_lines (i := 0) rfl r T.cls (T.noat 62 "_lines" rfl)) (sh_lines (i := 1) rfl ra T.cls (T.noat 62 "_lines" rfl)) (sok_lines ok) (sok_lines ok2)) ?_) q
    rw [Bool.true_and, ← Bool.decide_and]
    exact decide_eq_decide.mpr ⟨fun h => Prod.ext h.1 h.2, fun h => by rw [h]; exact ⟨rfl, rfl⟩⟩
  case len =>
    obtain ⟨ps, v, w, s, a, rfl, _⟩ := h
    rfl
theorem er_eqO {ps : List Addr} {σ : L2.St} {H : Hp} {ta tb : TE} {s t : Sht} {E : XK} {neg : Bool} (h : EvR (rS_ K) ps ta σ H s) (h2 : EvR (rS_ K) ps tb σ H t) (ok : Sok s) (ok2 : Sok t) : EvR rB ps (tOp (rOwnEq (shC K) (Sp2 (rS_ K) (rS_ K) rB (fun s t => decide (s = t)) (fun s t => Sok s ∧ Sok t)) E neg) ta tb) σ H (if neg then !decide (s = t) else decide (s = t)) := er_op h h2 fun v w H1 e1 o rv rw' Q q => by
  have rv2 := rv
  obtain ⟨x, rfl, dx, p1, p2, p3, p4, p5, p6, kvs, h1, _⟩ := rv2
  have rw2 := rw'
  obtain ⟨y, rfl, dy, q1, q2, q3, q4, q5, q6, kvt, h3, _⟩ := rw2
  refine ⟨x, y, dx, dy, _, _, rfl, rfl, Rm_ex _ _ h1, Rm_ex _ _ h3, ps, _, _, s, t, rfl, o, rv, rw', ⟨ok, ok2⟩, fun z H2 e2 r => ⟨decide (s = t), r, ?_⟩⟩
  exact q _ H2 e2 rfl
end
end K21
set_option Elab.async false
set_option linter.all false
set_option maxRecDepth 100000
set_option maxHeartbeats 4000000
namespace K21
open PySem PySem.Spec PyProof.Rows L2 Evl Gen RP ItX
section
variable {P : Program} {w : World} {K : PySem.W.Frag} {mg : Str → Option Value} {base : Heap} {fd : Nat → FuncData}
def spIter (K : PySem.W.Frag) : Nat → Sp := fun n vs H Q _ => ∃ ps v s, vs = [v] ∧ Own ps H ∧ (rS_ K).p s v (Rm ps H) ∧ ∀ it l H2, Ex H H2 → H2 it = none → n ≤ it → (rL rS).p s.1.flatten (.ref l) (Rm ps H2) → Q (.ref it) (upd H2 it (ItO l it 0))
theorem sc_sh_iter : FnScope ["self"] ["self"] (defScope (shS 17)) := ⟨rfl, rfl, rfl, by decide +kernel, rfl, by decide +kernel, by decide +kernel⟩
theorem ok_sh_iter (T : Tx K mg fd) : FnS P w K mg base CX0 1 (He.ma K (shC K) "__iter__") (fd 57) ["self"] (spIter K) := by
  refine (T.dm 57 17 "__iter__" "Sheet.__iter__" rfl).okS sc_sh_iter (fun cdv A outer s H vs Q E hr h => ?_)
  refine ⟨_, (pss_one (ps_ret (pe_callB call_iterN (by rfl) (T.fr 58 "iter" rfl) (by decide +kernel) (pa_cons (pe_fld (pv 0) rfl) pa_nil)))), ?_⟩
  obtain ⟨ps, v, t, rfl, o, r, q⟩ := h
  refine (sh_nodes (i := 0) rfl r T.cls (T.noat 63 "_nodes" rfl)) H (Ex.refl H) o _ fun u H2 e2 r2 => ?_
  have r3 := r2
  obtain ⟨l, us, rfl, hl, hu⟩ := r3
  exact ⟨l, us, rfl, sq_of (Rm_ex _ _ hl), fun it hn hle => q it l H2 e2 hn hle r2⟩
theorem drop_upd {H : Hp} {a : Addr} {u : HO} (h : H a = none) : dropH (upd H a u) a = H := by
  funext b
  unfold dropH
  by_cases e : b = a
  · rw [if_pos e, e, h]
  · rw [if_neg e, upd_ne e]
theorem wk_own {ps : List Addr} {σ : L2.St} {H : Hp} {te : TE} {s : Sht} {E : XK} (h : EvR (rS_ K) ps te σ H s) : Wk rS ps (iOwn (shC K) (spIter K) E K te) σ H s.1.flatten := fun H0 e o Rk k => h H0 e o _ fun v H1 e1 r => by
  have r' := r
  obtain ⟨x, rfl, dx, p1, p2, p3, p4, p5, p6, kvs, h1, _⟩ := r'
  refine ⟨x, dx, _, rfl, Rm_ex _ _ h1, fun n => ⟨ps, _, s, rfl, o.ex e1, r, fun it l H2 e2 hn hle hr => ⟨it, l, rfl, hle, upd_same, ?_⟩⟩⟩
  obtain ⟨l', us, e0, ha, hu⟩ := hr
  cases e0
  rw [drop_upd hn]
  refine k _ us.length _ _ H2 (e1.trans e2) hu.len.symm walk_list (fun H3 e3 => sq_of (e3 _ _ ha)) fun i H3 u H4 qs hi oq ex y => ?_
  obtain ⟨rfl, hy⟩ := y
  obtain ⟨z, hz, rz⟩ := hu.getv hy
  exact ⟨Ex.refl _, z, hz, rS.m ex rz⟩
theorem er_listO {ps : List Addr} {σ : L2.St} {H : Hp} {te : TE} {s : Sht} {E F' : XK} (h : EvR (rS_ K) ps te σ H s) (ok : Sok s) : EvR (rL rS) ps (tCB (rListOwn K (shC K) (spIter K) (Sp1 (rS_ K) rI (fun s => (s.1.length : Int)) Sok) E F') (tCons te tNil)) σ H s.1.flatten := er_cb1 h fun v H1 e o r Q q => by
  have r' := r
  obtain ⟨x, rfl, dx, p1, p2, p3, p4, p5, p6, kvs, h1, _⟩ := r'
  have hx := Rm_ex _ _ h1
  refine ⟨x, dx, _, rfl, hx, fun q' hq n => ?_⟩
  have no := new_own (ob := .lst []) o hq
  have r2 := (rS_ K).m no.2 r
  refine ⟨q' :: ps, _, s, rfl, no.1, r2, fun it l H2 e2 hn hle hr => ⟨it, l, rfl, hle, upd_same, ?_, ?_⟩⟩
  · rw [drop_upd hn]
    exact ⟨dx, _, e2 _ _ (Ex.new hq _ _ hx)⟩
  · rw [drop_upd hn]
    have e3 : Ex H1 H2 := (Ex.new hq).trans e2
    refine ⟨q' :: ps, _, s, rfl, no.1.ex e2, (rS_ K).m (Rm_mono e2) r2, ok, fun w H3 e4 t => ?_⟩
    obtain ⟨l', us, e0, ha, hu⟩ := hr
    cases e0
    have hlq : q' ≠ l := fun z => by rw [← z, Rm_own (List.mem_cons_self ..)] at ha; cases ha
    have hf := ok.lv.few
    rw [← many_flat] at hf
    have h12 := ok.h12
    refine ⟨s.1.length, us, t, by rw [sizeLine_eq]; omega, e4 _ _ (e2 _ _ upd_same), hlq, sq_of (e4 _ _ (Rm_ex _ _ ha)), by rw [← hu.len, sizeLine_eq]; omega, ?_⟩
    refine q _ _ (Ex.mut (e3.trans e4) hq) ⟨q', us, rfl, Rm_get upd_same (o.nin hq), hu.imp fun _ _ z => z⟩
/-! ### pairs -/
theorem inner_it {J : It} {n : Nat} {G : Hp → Prop} {Y : Nat → Hp → V → Hp → Prop} (w : Walk J n G Y) {B : V → Hp → (Hp → Prop) → Prop} {H : Hp} {Nx : Hp → Prop} (Pv : Nat → Hp → Prop) (h0 : Pv 0 H) (hG : ∀ i H, i ≤ n → Pv i H → G H)
    (hs : ∀ i x H H', i < n → Pv i H → Y i H x H' → B x H' (Pv (i + 1))) (hd : ∀ H, Pv n H → Nx H) :
    ∃ W : Nat → Nat → Hp → Prop, (∃ m, W 0 m H) ∧ ∀ i m H, W i m H → (J.stop i H ∧ Nx H) ∨ (J.go i H ∧ ∃ N1 : Hp → Prop, (∀ H', N1 H' → ∃ m', m' < m ∧ W (i + 1) m' H') ∧ ∀ x H', J.yld i H x H' → B x H' N1) := by
  refine ⟨fun i m H => m = n - i ∧ i ≤ n ∧ Pv i H, ⟨n, by simp, Nat.zero_le _, h0⟩, ?_⟩
  rintro i m H ⟨rfl, hi, p⟩
  have q := hG i H hi p
  by_cases hlt : i < n
  · exact .inr ⟨w.goes i H hlt q, Pv (i + 1), fun H' p' => ⟨n - (i + 1), by omega, rfl, hlt, p'⟩, fun x H' y => hs i x H H' hlt p (w.yields i H x H' hlt q y)⟩
  · have e : i = n := by omega
    subst e
    exact .inl ⟨w.stops H q, hd H p⟩
def prow (l : List Str) (x : Str) : List (Str × Str) := (l.filter fun y => !decide (x = y)).map fun y => (x, y)
def prs (l : List Str) : List (Str × Str) := l.flatMap (prow l)
theorem flatMap_len {α β : Type} {l : List α} {f : α → List β} {c : Nat} (h : ∀ x ∈ l, (f x).length ≤ c) : (l.flatMap f).length ≤ l.length * c := by
  induction l with
  | nil => exact Nat.zero_le _
  | cons x r ih =>
    rw [List.flatMap_cons, List.length_append, List.length_cons, Nat.add_mul, Nat.one_mul]
    have h1 := h x (List.mem_cons_self ..)
    have h2 := ih fun y hy => h y (List.mem_cons_of_mem _ hy)
    omega
theorem prow_len {l m : List Str} {x : Str} : ((m.filter fun y => !decide (x = y)).map fun y => (x, y)).length ≤ m.length := by rw [List.length_map]; exact List.length_filter_le _ _
theorem er_pairs {ps : List Addr} {σ : L2.St} {H : Hp} {tl : TE} {v : V} {ls : List (List Str)} (hσ : σ = [some v, none, none, none]) (h : EvR (rL (rL rS)) ps tl σ H ls) (h12 : ls.length ≤ 12) (hw : ∀ l ∈ ls, l.length ≤ 18) :
    EvR (rL rE) ps (tLc3 (iList K tl) (gName 1) tYes (iList K (tVar 1)) (gName 2) tYes (iList K (tVar 1)) (gName 3) (tTest (tOp rNe (tVar 2) (tVar 3))) (tTup (tCons (tVar 2) (tCons (tVar 3) tNil))) [1, 2, 3] [2, 3] [3]) σ H (ls.flatMap prs) := fun H0 e o Q q => h H0 e o _ fun u H1 e1 r => by
  subst hσ
  obtain ⟨a, us, rfl, ha, hu⟩ := r
  have o1 := o.ex e1
  refine ⟨a, rfl, ⟨us, sq_of (Rm_ex _ _ ha)⟩, fun Dl hD => ?_⟩
  have hG : ∀ {bs : List (Str × Str)} {H2 : Hp}, Lw rE ps H1 Dl bs H2 → SqL K H2 a us := fun p => sq_of (p.1 _ _ (Rm_ex _ _ ha))
  have ln : us.length = ls.length := hu.len.symm
  have b1 : ∀ k, ((ls.take k).flatMap prs).length ≤ 12 * 324 := fun k => by
    refine Nat.le_trans (flatMap_len (c := 324) fun l hl => ?_) (Nat.mul_le_mul_right _ (by rw [List.length_take]; omega))
    have hl18 := hw l (List.mem_of_mem_take hl)
    refine Nat.le_trans (flatMap_len (c := 18) fun x _ => Nat.le_trans (prow_len (l := l)) hl18) ?_
    exact Nat.mul_le_mul_right 18 hl18
  refine inner_it (walk_list (K := K) (a := a) (xs := us)) (B := fun x H' Nx => (gName 1) x (wipe [some v, none, none, none] [1, 2, 3]) H' fun σ2 H2 => wipe σ2 [1, 2, 3] = wipe [some v, none, none, none] [1, 2, 3] ∧ tYes σ2 H2 fun b H3 => _) (fun k H2 => Lw rE ps H1 Dl ((ls.take k).flatMap prs) H2) (lw_zero hD) (fun _ _ _ p => hG p) (fun k u H2 H2' hk p y => ?_) (fun H2 p => ?_)
  · obtain ⟨rfl, hy⟩ := y
    obtain ⟨l, hl, rl⟩ := hu.getv hy
    have hlm := hw l (List.mem_of_getElem? hl)
    obtain ⟨c, ws, rfl, hc, hws⟩ := rl
    have hst : ws = l.map V.str := strs_eq hws
    subst hst
    refine ⟨rfl, ?_⟩
    show ∃ v_1, _ ∧ _
    refine ⟨.ref c, rfl, c, rfl, ⟨_, sq_of (p.1 _ _ (Rm_ex _ _ hc))⟩, ?_⟩
    have hG2 : ∀ {bs : List (Str × Str)} {H2 : Hp}, Lw rE ps H1 Dl bs H2 → SqL K H2 c (l.map V.str) := fun p => sq_of (p.1 _ _ (Rm_ex _ _ hc))
    have b2 : ∀ j, ((l.take j).flatMap (prow l)).length ≤ 324 := fun j => by
      have h1 := flatMap_len (l := l.take j) (f := prow l) (c := 18) fun x _ => Nat.le_trans (prow_len (l := l)) hlm
      have h2 : (l.take j).length ≤ 18 := by rw [List.length_take]; omega
      omega
    refine inner_it (walk_list (K := K) (a := c) (xs := l.map V.str)) (fun j H3 => Lw rE ps H1 Dl ((ls.take k).flatMap prs ++ (l.take j).flatMap (prow l)) H3) ?_ (fun _ _ _ p => hG2 p) (fun j x H3 H3' hj p3 y => ?_) (fun H3 p3 => ?_)
    · rw [List.take_zero, List.flatMap_nil, List.append_nil]
      exact p
    · obtain ⟨rfl, hy⟩ := y
      rw [List.getElem?_map] at hy
      cases hxx : l[j]? with
      | none => rw [hxx] at hy; cases hy
      | some x' =>
      rw [hxx] at hy
      cases hy
      refine ⟨rfl, ?_⟩
      show ∃ v_1, _ ∧ _
      refine ⟨.ref c, rfl, c, rfl, ⟨_, hG2 p3⟩, ?_⟩
      refine inner_it (walk_list (K := K) (a := c) (xs := l.map V.str)) (fun i H4 => Lw rE ps H1 Dl (((ls.take k).flatMap prs ++ (l.take j).flatMap (prow l)) ++ ((l.take i).filter fun y => !decide (x' = y)).map fun y => (x', y)) H4) ?_ (fun _ _ _ p => hG2 p) (fun i x H4 H4' hi p4 y => ?_) (fun H4 p4 => ?_)
      · rw [List.take_zero, List.filter_nil, List.map_nil, List.append_nil]
        exact p3
      · obtain ⟨rfl, hy⟩ := y
        rw [List.getElem?_map] at hy
        cases hyy : l[i]? with
        | none => rw [hyy] at hy; cases hy
        | some y' =>
        rw [hyy] at hy
        cases hy
        refine ⟨rfl, ?_⟩
        have hlen : (((ls.take k).flatMap prs ++ (l.take j).flatMap (prow l)) ++ ((l.take i).filter fun y => !decide (x' = y)).map fun y => (x', y)).length < 50000 := by
          rw [List.length_append, List.length_append]
          have h1 := b1 k
          have h2 := b2 j
          have h3 := prow_len (l := l) (m := l.take i) (x := x')
          rw [List.length_take] at h3
          omega
        refine lw_test (H0 := H1) (b := (x', y')) (q := !decide (x' = y')) o1 hD p4 hlen ?_ (fun hq => ⟨?_, er_tup (er_var (v := .str x') rfl rfl) (er_var (v := .str y') rfl rfl)⟩) fun hq => ?_
        · refine et_is' (et_test' (er_B (ev_op (ev_var rfl) (ev_var rfl) (rv_ne rfl)))) ?_
          congr 1
          exact decide_eq_decide.mpr ⟨fun y => by injection y, fun y => by rw [y]⟩
        · rw [take_snoc hyy, List.filter_append, List.map_append, List.filter_cons, if_pos hq, ← List.append_assoc]
          rfl
        · rw [take_snoc hyy, List.filter_append, List.map_append, List.filter_cons, if_neg (by rw [hq]; decide)]
          rw [List.filter_nil, List.map_nil, List.append_nil]
      · rw [List.length_map, List.take_length] at p4
        rw [take_snoc hxx, List.flatMap_append, List.flatMap_cons, List.flatMap_nil, List.append_nil, ← List.append_assoc]
        exact p4
    · rw [List.length_map, List.take_length] at p3
      show Lw rE ps H1 Dl ((ls.take (k + 1)).flatMap prs) H3
      rw [take_snoc hl, List.flatMap_append, List.flatMap_cons, List.flatMap_nil, List.append_nil]
      exact p3
  · rw [ln, List.take_length] at p
    exact q _ _ (e1.trans p.1) (lw_end o1 hD p)
def pairsOf (s : Sht) : List (Str × Str) := srtT (s.1.flatMap prs)
theorem sc_sh_pairs : FnScope ["self", "names", "one", "other"] ["self"] (defScope (shS 12)) := ⟨rfl, rfl, rfl, by decide +kernel, rfl, by decide +kernel, by decide +kernel⟩
theorem ok_sh_pairs (T : Tx K mg fd) : FnOk P w K mg base CX0 1 (He.ma K (shC K) "pairs") (fd 53) ["self"] (Sp1 (rS_ K) (rL rE) pairsOf Sok) := by
  refine (T.dm 53 12 "pairs" "Sheet.pairs" rfl).ok sc_sh_pairs (fun vs H Q E h => ?len) (fun cdv A outer s H vs Q E hr h => ?body)
  case body =>
    refine ⟨_, (pss_one (ps_ret (pe_callB cr_sortedT2 (by rfl) (T.fr 56 "sorted" rfl) (by decide +kernel) (pa_cons (pe_lc3 (own := [("names", 1), ("one", 2), ("other", 3)]) (vs1 := [2, 3]) (vs2 := [3]) (wi1 := iList K (tVar 1)) (wi2 := iList K (tVar 1)) (g := gName 1) (g1 := gName 2) (g2 := gName 3) rfl sc_sh_pairs.nd (pi_list (pe_fld (pv 0) rfl)) (blkOk_by (N := ["self", "names", "one", "other"]) (sc := (defScope (shS 12))) (own := [("names", 1), ("one", 2), ("other", 3)]) (by decide +kernel)) (by decide) (by decide) (fun _ _ _ _ _ => (pg_name (i := 1) sc_sh_pairs.nd rfl (Or.inl rfl))) (fun _ _ _ _ _ => pts_nil) (fun _ _ _ _ _ => pi_list (pv 1)) (fun _ _ _ _ _ => (pg_name (i := 2) sc_sh_pairs.nd rfl (Or.inl rfl))) (fun _ _ _ _ _ => pts_nil) (fun _ _ _ _ _ => pi_list (pv 1)) (fun _ _ _ _ _ => (pg_name (i := 3) sc_sh_pairs.nd rfl (Or.inl rfl))) (fun _ _ _ _ _ => (pts_one (pt_cmpR op_ne (pv 2) (pv 3) (nomark _)))) (fun _ _ _ _ _ => (pe_tup (pa_cons (pv 2) (pa_cons (pv 3) pa_nil))))) pa_nil)))), ?_⟩
    obtain ⟨ps, v, s, rfl, o, r, ok, q⟩ := h
    exact s_retR o (er_sortedT (er_pairs (K := K) rfl (sh_levels (i := 0) rfl r T.cls (T.noat 61 "_levels" rfl)) ok.h12 ok.w18)) q
  case len =>
    obtain ⟨ps, v, s, rfl, _⟩ := h
    rfl
end
end K21
set_option Elab.async false
set_option linter.all false
set_option maxRecDepth 100000
set_option maxHeartbeats 4000000
namespace K21
open PySem PySem.Spec PyProof.Rows L2 Evl Gen RP
section
variable {P : Program} {w : World} {K : PySem.W.Frag} {mg : Str → Option Value} {base : Heap} {fd : Nat → FuncData}
/-! ### repr -/
structure Sd (d : PyData) (n : Nat) : Prop where
  sh : d.showable = true
  lv : d.leavesShort 40 = true
  bk : d.bulk ≤ n
theorem Sd.all {ds : List PyData} {n : Nat} (h : ∀ d ∈ ds, Sd d n) : PyData.showableAll ds = true ∧ PyData.leavesShortAll 40 ds = true ∧ PyData.bulkAll ds ≤ (n + 1) * ds.length := by
  induction ds with
  | nil => exact ⟨rfl, rfl, Nat.zero_le _⟩
  | cons d r ih =>
    obtain ⟨h1, h2, h3⟩ := ih fun e he => h e (List.mem_cons_of_mem _ he)
    have hd := h d (List.mem_cons_self ..)
    refine ⟨?_, ?_, ?_⟩
    · show (PyData.showable d && PyData.showableAll r) = true
      rw [hd.sh, h1]; rfl
    · show (PyData.leavesShort 40 d && PyData.leavesShortAll 40 r) = true
      rw [hd.lv, h2]; rfl
    · show PyData.bulk d + 1 + PyData.bulkAll r ≤ _
      have := hd.bk
      rw [List.length_cons, Nat.mul_add, Nat.mul_one]
      omega
theorem Sd.list {ds : List PyData} {n m : Nat} (h : ∀ d ∈ ds, Sd d n) (hm : (n + 1) * ds.length ≤ m) : Sd (.list ds) m := let ⟨h1, h2, h3⟩ := Sd.all h; ⟨h1, h2, Nat.le_trans h3 hm⟩
theorem Sd.tup {ds : List PyData} {n m : Nat} (h : ∀ d ∈ ds, Sd d n) (hm : (n + 1) * ds.length ≤ m) : Sd (.tuple ds) m := let ⟨h1, h2, h3⟩ := Sd.all h; ⟨h1, h2, Nat.le_trans h3 hm⟩
theorem Sd.str {x : Str} (h : x.cps.size ≤ 100) (h2 : okS x) : Sd (.str x) 100 := ⟨rfl, by
  show (x.cps.toList.all fun c => decide (c < 16 ^ 8)) = true
  rw [List.all_eq_true]
  intro c hc
  unfold okS PyData.strOk at h2
  rw [Array.all_eq_true'] at h2
  have h3 := of_decide_eq_true (h2 c (by simpa using hc))
  have : (0x110000 : Nat) < 16 ^ 8 := by decide
  exact decide_eq_true (Nat.lt_trans h3 this), h⟩
theorem Sd.len {d : PyData} {n : Nat} (h : Sd d n) (hn : n ≤ 30000) : d.shown.length ≤ 2000000 := by
  have h1 := PyData.shown_le_bulk 40 (by decide) d h.lv
  have h2 : (40 + 2) * d.bulk ≤ 42 * 30000 := Nat.mul_le_mul (by decide) (Nat.le_trans h.bk hn)
  omega
def lvD (s : Sht) : List PyData := s.1.map fun l => .list (l.map PyData.str)
def lnD (s : Sht) : List PyData := s.2.map fun e => .tuple [.str e.1, .str e.2]
theorem lvD_sd {s : Sht} (ok : Sok s) : Sd (.list (lvD s)) 30000 := by
  refine Sd.list (n := 1818) (fun d hd => ?_) (by unfold lvD; rw [List.length_map]; have := ok.h12; omega)
  obtain ⟨l, hl, rfl⟩ := List.mem_map.mp hd
  refine Sd.list (n := 100) (fun d hd => ?_) (by rw [List.length_map]; have := ok.w18 l hl; omega)
  obtain ⟨z, hz, rfl⟩ := List.mem_map.mp hd
  exact Sd.str (isN_ok (ok.lv.names l hl z hz)) (sok_names ok l hl z hz)
theorem lnD_sd {s : Sht} (ok : Sok s) : Sd (.list (lnD s)) 30000 := by
  refine Sd.list (n := 202) (fun d hd => ?_) (by unfold lnD; rw [List.length_map]; have := ok.z; omega)
  obtain ⟨e, he, rfl⟩ := List.mem_map.mp hd
  obtain ⟨i, a, b, h1, h2, h3, h4⟩ := ok.fit e he
  refine Sd.tup (n := 100) (fun d hd => ?_) (by show 101 * 2 ≤ 202; decide)
  rcases List.mem_cons.mp hd with rfl | hd
  · exact Sd.str (isN_ok (ok.lv.names a (List.mem_of_getElem? h1) _ h3)) (sok_lines ok e he).1
  · rw [List.mem_singleton.mp hd]
    exact Sd.str (isN_ok (ok.lv.names b (List.mem_of_getElem? h2) _ h4)) (sok_lines ok e he).2
theorem depth_all {ds : List PyData} {n : Nat} (h : ∀ d ∈ ds, d.depth ≤ n) : PyData.depthAll ds ≤ n := by
  induction ds with
  | nil => exact Nat.zero_le _
  | cons d r ih => exact Nat.max_le.mpr ⟨h d (List.mem_cons_self ..), ih fun e he => h e (List.mem_cons_of_mem _ he)⟩
theorem lvD_dep (s : Sht) : (PyData.list (lvD s)).depth ≤ 40 := by
  show PyData.depthAll (lvD s) + 1 ≤ 40
  have := depth_all (ds := lvD s) (n := 1) fun d hd => by
    obtain ⟨l, hl, rfl⟩ := List.mem_map.mp hd
    show PyData.depthAll (l.map PyData.str) + 1 ≤ 1
    have := depth_all (ds := l.map PyData.str) (n := 0) fun d hd => by
      obtain ⟨z, _, rfl⟩ := List.mem_map.mp hd
      exact Nat.le_refl _
    omega
  omega
theorem lnD_dep (s : Sht) : (PyData.list (lnD s)).depth ≤ 40 := by
  show PyData.depthAll (lnD s) + 1 ≤ 40
  have := depth_all (ds := lnD s) (n := 1) fun d hd => by
    obtain ⟨e, _, rfl⟩ := List.mem_map.mp hd
    exact Nat.le_refl _
  omega
theorem dq_strs {H : Hp} : ∀ {l : List Str} {vs : List V}, All2 (fun x y => rS.p x y H) l vs → DqAll K H vs (l.map PyData.str)
  | [], [], _ => .nil
  | x :: l, v :: vs, h => by
    obtain ⟨h1, h2⟩ := h
    obtain rfl : v = .str x := h1
    exact .cons (.str x) (dq_strs h2)
  | [], _ :: _, h => h.elim
  | _ :: _, [], h => h.elim
theorem dq_lv {H : Hp} : ∀ {ls : List (List Str)} {vs : List V}, All2 (fun x y => (rL rS).p x y H) ls vs → DqAll K H vs (ls.map fun l => PyData.list (l.map PyData.str))
  | [], [], _ => .nil
  | x :: l, v :: vs, h => by
    obtain ⟨⟨a, us, rfl, ha, hu⟩, h2⟩ := h
    exact .cons (.lst (sq_of ha) (dq_strs hu)) (dq_lv h2)
  | [], _ :: _, h => h.elim
  | _ :: _, [], h => h.elim
theorem dq_ln {H : Hp} : ∀ {es : List (Str × Str)} {vs : List V}, All2 (fun x y => rE.p x y H) es vs → DqAll K H vs (es.map fun e => PyData.tuple [.str e.1, .str e.2])
  | [], [], _ => .nil
  | x :: l, v :: vs, h => by
    obtain ⟨⟨a, y, z, rfl, ha, hy, hz⟩, h2⟩ := h
    obtain rfl : y = .str x.1 := hy
    obtain rfl : z = .str x.2 := hz
    exact .cons (.tup (st_of ha) (.cons (.str _) (.cons (.str _) .nil))) (dq_ln h2)
  | [], _ :: _, h => h.elim
  | _ :: _, [], h => h.elim
theorem dqall_ex {H H' : Hp} (e : Ex H H') {vs : List V} {ds : List PyData} (h : DqAll K H vs ds) : DqAll K H' vs ds := by
  induction ds generalizing vs with
  | nil => cases h; exact .nil
  | cons d r ih => cases h with | cons h1 h2 => exact .cons (dq_ex e h1) (ih h2)
def reprT (s : Sht) : Str := ((((Str.empty ++ "Sheet(") ++ (PyData.list (lvD s)).shown) ++ ", ") ++ (PyData.list (lnD s)).shown) ++ ")"
theorem sc_sh_repr : FnScope ["self"] ["self"] (defScope (shS 19)) := ⟨rfl, rfl, rfl, by decide +kernel, rfl, by decide +kernel, by decide +kernel⟩
theorem ok_sh_repr (T : Tx K mg fd) : FnOkG P w K mg base CX0 1 (He.ma K (shC K) "__repr__") (fd 59) ["self"] (Sp1 (rS_ K) rS reprT Sok) := by
  refine (T.dm 59 19 "__repr__" "Sheet.__repr__" rfl).okG sc_sh_repr (fun vs H Q E h => ?len) (fun cdv A outer s H vs Q E hG hr h => ?body)
  case body =>
    refine ⟨_, (pss_one (ps_ret (pe_joined (.cons pe_str (.cons (pe_fmtRD hG hr.units (pe_fld (pv 0) rfl)) (.cons pe_str (.cons (pe_fmtRD hG hr.units (pe_fld (pv 0) rfl)) (.cons pe_str .nil)))))))), ?_⟩
    obtain ⟨ps, v, s, rfl, o, r, ok, q⟩ := h
    have hl := (lvD_sd ok).len (Nat.le_refl _)
    have hn := (lnD_sd ok).len (Nat.le_refl _)
    have l1 : (Str.empty ++ ("Sheet(" : Str)).length = 6 := rfl
    have l2 : ((", " : Str)).length = 2 := rfl
    have l3 : ((")" : Str)).length = 1 := rfl
    refine ⟨_, rfl, by rw [sizeLine_eq, l1]; decide, ?_⟩
    show tFmtRD _ _ _ _ _
    refine (sh_levels (i := 0) rfl r T.cls (T.noat 61 "_levels" rfl)) H (Ex.refl H) o _ fun v1 H1 e1 r1 => ?_
    obtain ⟨a, ys, rfl, ha, hy⟩ := r1
    refine ⟨a, ys, _, rfl, sq_of (Rm_ex _ _ ha), dqall_ex Rm_ex (dq_lv hy), (lvD_sd ok).sh, lvD_dep s, by rw [sizeLine_eq]; exact Nat.le_trans hl (by decide), _, rfl, by rw [sizeLine_eq, Str.length_append, l1]; exact Nat.le_trans (Nat.add_le_add_left hl 6) (by decide), ?_⟩
    refine ⟨_, rfl, by rw [sizeLine_eq, Str.length_append, Str.length_append, l1, l2]; exact Nat.le_trans (Nat.add_le_add_right (Nat.add_le_add_left hl 6) 2) (by decide), ?_⟩
    have r := (rS_ K).m (Rm_mono e1) r
    show tFmtRD _ _ _ _ _
    refine (sh_lines (i := 0) rfl r T.cls (T.noat 62 "_lines" rfl)) H1 (Ex.refl H1) (o.ex e1) _ fun v2 H2 e2 r2 => ?_
    obtain ⟨b, zs, rfl, hb, hz⟩ := r2
    have hlen4 : ((((Str.empty ++ ("Sheet(" : Str)) ++ (PyData.list (lvD s)).shown) ++ (", " : Str)) ++ (PyData.list (lnD s)).shown).length ≤ 5000000 := by
      rw [Str.length_append, Str.length_append, Str.length_append, l1, l2]
      omega
    refine ⟨b, zs, _, rfl, sq_of (Rm_ex _ _ hb), dqall_ex Rm_ex (dq_ln hz), (lnD_sd ok).sh, lnD_dep s, by rw [sizeLine_eq]; exact Nat.le_trans hn (by decide), _, rfl, by rw [sizeLine_eq]; exact Nat.le_trans hlen4 (by decide), ?_⟩
    refine ⟨_, rfl, by rw [sizeLine_eq, Str.length_append, l3]; exact Nat.le_trans (Nat.add_le_add_right hlen4 1) (by decide), ?_⟩
    exact q _ H2 (e1.trans e2) rfl
  case len =>
    obtain ⟨ps, v, s, rfl, _⟩ := h
    rfl
end
end K21
set_option Elab.async false
set_option linter.all false
set_option maxRecDepth 100000
set_option maxHeartbeats 4000000
/-! sheets taken apart and together, as lists -/
namespace K21
open PySem L2 Evl Gen RP
theorem mem_srtT {es : List (Str × Str)} {e : Str × Str} : e ∈ srtT es ↔ e ∈ es := (srtT_perm es).mem_iff
theorem sok_ext {s t : Sht} (a : Sok s) (b : Sok t) (h1 : s.1 = t.1) (h2 : ∀ e, e ∈ s.2 ↔ e ∈ t.2) : s = t := by
  refine Prod.ext h1 ?_
  rw [← a.srtE, ← b.srtE]
  exact srtT_eq ((List.perm_ext_iff_of_nodup a.nd b.nd).mpr fun {e} => h2 e)
theorem Mk'.of_sub {s : Sht} (ok : Sok s) {es : List (Str × Str)} (nd : es.Nodup) (h : ∀ e ∈ es, e ∈ s.2) : Mk' s.1 es := ⟨ok.lv, ok.w18, ok.h12, fun e he => ok.fit e (h e he), nd, by
  have : es.length ≤ s.2.length := by
    clear ok
    have gen : ∀ {b : List (Str × Str)} {a : List (Str × Str)}, a.Nodup → (∀ x ∈ a, x ∈ b) → a.length ≤ b.length := by
      intro b a
      induction a generalizing b with
      | nil => exact fun _ _ => Nat.zero_le _
      | cons x r ih =>
        intro h hs
        have hx := hs x (List.mem_cons_self ..)
        have h2 := List.nodup_cons.mp h
        have := ih (b := b.erase x) h2.2 fun y hy => (List.mem_erase_of_ne (fun z => h2.1 (by rw [← z]; exact hy))).mpr (hs y (List.mem_cons_of_mem _ hy))
        rw [List.length_erase_of_mem hx] at this
        have : 0 < b.length := List.length_pos_of_mem hx
        rw [List.length_cons]
        omega
    exact gen nd h
  exact Nat.le_trans this ok.z⟩
theorem sub_len {a b : List (Str × Str)} (h : a.Nodup) (hs : ∀ x ∈ a, x ∈ b) : a.length ≤ b.length := by
  induction a generalizing b with
  | nil => exact Nat.zero_le _
  | cons x r ih =>
    have hx := hs x (List.mem_cons_self ..)
    have h2 := List.nodup_cons.mp h
    have := ih (b := b.erase x) h2.2 fun y hy => (List.mem_erase_of_ne (fun z => h2.1 (by rw [← z]; exact hy))).mpr (hs y (List.mem_cons_of_mem _ hy))
    rw [List.length_erase_of_mem hx] at this
    have : 0 < b.length := List.length_pos_of_mem hx
    rw [List.length_cons]
    omega
/-- every sorted row stays -/
theorem srt_all {s : Sht} (ok : Sok s) {ls : List (List Str)} (h : ∀ l ∈ ls, l ∈ s.1) : ls.map srtS = ls := by
  have gen : ∀ l ∈ s.1, srtS l = l := fun l hl => by
    have h2 := ok.srt
    obtain ⟨i, hi⟩ := List.mem_iff_getElem?.mp hl
    have h3 : (s.1.map srtS)[i]? = s.1[i]? := by rw [h2]
    rw [List.getElem?_map, hi] at h3
    exact Option.some.inj h3
  conv => rhs; rw [← List.map_id ls]
  exact List.map_congr_left fun l hl => gen l (h l hl)
theorem lvl_lt {s : Sht} {z : Str} (h : z ∈ s.1.flatten) : lvlOf s z < s.1.length := by
  obtain ⟨a, h1, _⟩ := lvlOf_get h
  exact (List.getElem?_eq_some_iff.mp h1).1
theorem line_lvl {s : Sht} (ok : Sok s) {e : Str × Str} (he : e ∈ s.2) : lvlOf s e.2 = lvlOf s e.1 + 1 ∧ lvlOf s e.2 < s.1.length := ⟨fit_lvl ok he, lvl_lt (ok.fit e he).in2⟩
theorem mem_gap {s : Sht} (ok : Sok s) {n : Nat} {e : Str × Str} : e ∈ gapOf s n ↔ e ∈ s.2 ∧ lvlOf s e.1 = n := by
  unfold gapOf
  rw [List.mem_filter, decide_eq_true_eq]
  refine and_congr_right fun he => ?_
  obtain ⟨a, h1, h2⟩ := lvlOf_get (ok.fit e he).in1
  constructor
  · intro h
    unfold lvAt at h
    cases hn : s.1[n]? with
    | none => rw [hn] at h; cases h
    | some l => rw [hn] at h; exact apart ok.lv.once h1 hn h2 h
  · intro h
    unfold lvAt
    rw [← h, h1]
    exact h2
theorem gap_nd {s : Sht} (ok : Sok s) {n : Nat} : (gapOf s n).Nodup := ok.nd.filter _
theorem mem_cut {s : Sht} {a b : Nat} {e : Str × Str} : e ∈ (cutS s a b).2 ↔ e ∈ s.2 ∧ a ≤ lvlOf s e.1 ∧ lvlOf s e.2 ≤ b := by
  show e ∈ srtT _ ↔ _
  rw [mem_srtT, List.mem_filter, Bool.and_eq_true, decide_eq_true_eq, decide_eq_true_eq]
theorem cut_lv {s : Sht} (ok : Sok s) {a b : Nat} : (cutS s a b).1 = (s.1.drop a).take (b + 1 - a) := srt_all ok fun l hl => List.mem_of_mem_drop (List.mem_of_mem_take hl)
theorem cut_ok {s : Sht} (ok : Sok s) {a b : Nat} (hab : a ≤ b) (hb : b < s.1.length) : Sok (cutS s a b) := (cut_mk ok hab hb).sok
theorem cut_all {s : Sht} (ok : Sok s) : cutS s 0 (s.1.length - 1) = s := by
  have hp : 0 < s.1.length := List.length_pos_iff.mpr ok.lv.some
  refine sok_ext (cut_ok ok (Nat.zero_le _) (by omega)) ok ?_ fun e => ?_
  · rw [cut_lv ok, List.drop_zero, List.take_of_length_le (by omega)]
  · rw [mem_cut]
    exact ⟨fun h => h.1, fun h => ⟨h, Nat.zero_le _, by have := (line_lvl ok h).2; omega⟩⟩
/-- two cuts, one on top of the other -/
theorem cuts_lv {s : Sht} {a k b : Nat} (hak : a ≤ k) (hkb : k < b) (hb : b < s.1.length) : (s.1.drop a).take (k + 1 - a) ++ (s.1.drop (k + 1)).take (b + 1 - (k + 1)) = (s.1.drop a).take (b + 1 - a) := by
  have h1 : s.1.drop (k + 1) = (s.1.drop a).drop (k + 1 - a) := by rw [List.drop_drop]; congr 1; omega
  rw [h1, show b + 1 - a = (k + 1 - a) + (b + 1 - (k + 1)) by omega, List.take_add]
theorem cuts_mk {s : Sht} (ok : Sok s) {a k b : Nat} (hak : a ≤ k) (hkb : k < b) (hb : b < s.1.length) : Mk' ((cutS s a k).1 ++ (cutS s (k + 1) b).1) ((cutS s a k).2 ++ (cutS s (k + 1) b).2) := by
  have ok1 := cut_ok ok hak (by omega : k < s.1.length)
  have ok2 := cut_ok ok (a := k + 1) (b := b) (by omega) hb
  have ok3 := cut_ok ok (a := a) (b := b) (by omega) hb
  have e1 : (cutS s a k).1 ++ (cutS s (k + 1) b).1 = (cutS s a b).1 := by rw [cut_lv ok, cut_lv ok, cut_lv ok]; exact cuts_lv hak hkb hb
  rw [e1]
  refine Mk'.of_sub ok3 (List.nodup_append.mpr ⟨ok1.nd, ok2.nd, fun e h1 f h2 z => ?_⟩) fun e he => ?_
  · subst z
    rw [mem_cut] at h1 h2
    have := (line_lvl ok h1.1).1
    omega
  · rw [mem_cut]
    rcases List.mem_append.mp he with h | h
    · rw [mem_cut] at h
      exact ⟨h.1, h.2.1, by omega⟩
    · rw [mem_cut] at h
      exact ⟨h.1, by omega, h.2.2⟩
theorem over_lv {s : Sht} (ok : Sok s) {a k b : Nat} (hak : a ≤ k) (hkb : k < b) (hb : b < s.1.length) : (overS (cutS s a k) (cutS s (k + 1) b)).1 = (cutS s a b).1 := by
  have ok3 := cut_ok ok (a := a) (b := b) (by omega) hb
  have e1 : (cutS s a k).1 ++ (cutS s (k + 1) b).1 = (cutS s a b).1 := by rw [cut_lv ok, cut_lv ok, cut_lv ok]; exact cuts_lv hak hkb hb
  show ((cutS s a k).1 ++ (cutS s (k + 1) b).1).map srtS = _
  rw [e1]
  exact ok3.srt
theorem mem_over {s t : Sht} {e : Str × Str} : e ∈ (overS s t).2 ↔ e ∈ s.2 ∨ e ∈ t.2 := by
  show e ∈ srtT _ ↔ _
  rw [mem_srtT, List.mem_append]
theorem mem_addS {s : Sht} {es : List (Str × Str)} {e : Str × Str} : e ∈ (addS s es).2 ↔ e ∈ s.2 ∨ e ∈ es := by
  show e ∈ srtT _ ↔ _
  rw [mem_srtT, mem_adds]
theorem add_lv {s : Sht} (ok : Sok s) {es : List (Str × Str)} : (addS s es).1 = s.1 := ok.srt
theorem over_ok {s t : Sht} (mk : Mk' (s.1 ++ t.1) (s.2 ++ t.2)) : Sok (overS s t) := mk.sok
/-- what may be put in: all lines of a greater sheet of the same levels -/
theorem AddOk.of {s t : Sht} (ok : Sok s) (ok2 : Sok t) (h1 : s.1 = t.1) (h2 : ∀ e ∈ s.2, e ∈ t.2) {es : List (Str × Str)} (h3 : ∀ e ∈ es, e ∈ t.2) (hz : es.length ≤ 1000) : AddOk s es :=
  ⟨ok, fun e he => by rw [h1]; exact ok2.fit e (h3 e he), Nat.le_trans (sub_len (nd_adds ok.nd) fun e he => (mem_adds.mp he).elim (h2 e) (h3 e)) ok2.z, hz⟩
theorem cut_join_ok {s : Sht} (ok : Sok s) {a k b : Nat} (hak : a ≤ k) (hkb : k < b) (hb : b < s.1.length) : AddOk (overS (cutS s a k) (cutS s (k + 1) b)) (gapOf s k) := by
  refine AddOk.of (over_ok (cuts_mk ok hak hkb hb)) (cut_ok ok (a := a) (b := b) (by omega) hb) (over_lv ok hak hkb hb) (fun e he => ?_) (fun e he => ?_) (Nat.le_trans (List.length_filter_le _ _) (Nat.le_trans ok.z (by decide)))
  · rw [mem_over, mem_cut, mem_cut] at he
    rw [mem_cut]
    rcases he with h | h
    · exact ⟨h.1, h.2.1, by omega⟩
    · exact ⟨h.1, by omega, h.2.2⟩
  · rw [mem_gap ok] at he
    have := (line_lvl ok he.1).1
    exact mem_cut.mpr ⟨he.1, by omega, by omega⟩
theorem cut_join {s : Sht} (ok : Sok s) {a k b : Nat} (hak : a ≤ k) (hkb : k < b) (hb : b < s.1.length) : addS (overS (cutS s a k) (cutS s (k + 1) b)) (gapOf s k) = cutS s a b := by
  have okj := cut_join_ok ok hak hkb hb
  refine sok_ext okj.sok (cut_ok ok (by omega) hb) (by rw [add_lv okj.ok, over_lv ok hak hkb hb]) fun e => ?_
  rw [mem_addS, mem_over, mem_cut, mem_cut, mem_cut, mem_gap ok]
  constructor
  · rintro ((h | h) | h)
    · exact ⟨h.1, h.2.1, by omega⟩
    · exact ⟨h.1, by omega, h.2.2⟩
    · have := (line_lvl ok h.1).1
      exact ⟨h.1, by omega, by omega⟩
  · rintro ⟨h, h1, h2⟩
    have h3 := (line_lvl ok h).1
    by_cases c : lvlOf s e.1 = k
    · exact .inr ⟨h, c⟩
    · by_cases c2 : lvlOf s e.1 < k
      · exact .inl (.inl ⟨h, h1, by omega⟩)
      · exact .inl (.inr ⟨h, by omega, h2⟩)
theorem filter_not_len {α : Type} (p : α → Bool) : ∀ l : List α, (l.filter p).length + (l.filter fun x => !p x).length = l.length
  | [] => rfl
  | x :: r => by
    have ih := filter_not_len p r
    rw [List.filter_cons, List.filter_cons]
    cases p x with
    | true =>
      rw [if_pos rfl, if_neg (by decide), List.length_cons, List.length_cons]
      omega
    | false =>
      rw [if_neg (by decide), if_pos (by decide), List.length_cons, List.length_cons]
      omega
theorem perm_len {a b : List (Str × Str)} (h1 : a.Nodup) (h2 : b.Nodup) (h : ∀ e, e ∈ a ↔ e ∈ b) : a.length = b.length := ((List.perm_ext_iff_of_nodup h1 h2).mpr fun {e} => h e).length_eq
theorem cut_lines_len {s : Sht} (ok : Sok s) {k : Nat} (hk : k + 1 < s.1.length) : (overS (cutS s 0 k) (cutS s (k + 1) (s.1.length - 1))).2.length + (gapOf s k).length = s.2.length := by
  have okb := over_ok (cuts_mk ok (Nat.zero_le k) (b := s.1.length - 1) (by omega) (by omega))
  have h1 := filter_not_len (fun e : Str × Str => decide (e.1 ∈ lvAt s k)) s.2
  have h2 : (overS (cutS s 0 k) (cutS s (k + 1) (s.1.length - 1))).2.length = (s.2.filter fun x => !decide (x.1 ∈ lvAt s k)).length := by
    refine perm_len okb.nd (ok.nd.filter _) fun e => ?_
    rw [mem_over, mem_cut, mem_cut, List.mem_filter, Bool.not_eq_true', decide_eq_false_iff_not]
    have hg := mem_gap ok (n := k) (e := e)
    unfold gapOf at hg
    rw [List.mem_filter, decide_eq_true_eq] at hg
    constructor
    · rintro (h | h)
      · have := line_lvl ok h.1
        exact ⟨h.1, fun m => by have := (hg.mp ⟨h.1, m⟩).2; omega⟩
      · exact ⟨h.1, fun m => by have := (hg.mp ⟨h.1, m⟩).2; omega⟩
    · rintro ⟨h, hn⟩
      have h3 := line_lvl ok h
      have : lvlOf s e.1 ≠ k := fun c => hn (hg.mpr ⟨h, c⟩).2
      by_cases c : lvlOf s e.1 < k
      · exact .inl ⟨h, Nat.zero_le _, by omega⟩
      · exact .inr ⟨h, by omega, by omega⟩
  unfold gapOf
  omega
/-! ### upside down -/
theorem inv_ok {s : Sht} (ok : Sok s) : Sok (invS s) := ok.mk'.rev.sok
theorem inv_lv {s : Sht} (ok : Sok s) : (invS s).1 = s.1.reverse := srt_all ok fun l hl => List.mem_reverse.mp hl
theorem mem_inv {s : Sht} {e : Str × Str} : e ∈ (invS s).2 ↔ swp e ∈ s.2 := by
  show e ∈ srtT _ ↔ _
  rw [mem_srtT, List.mem_map]
  exact ⟨fun ⟨f, h1, h2⟩ => by rw [← h2]; exact h1, fun h => ⟨swp e, h, rfl⟩⟩
theorem inv_lvl {s : Sht} (ok : Sok s) {z : Str} (h : z ∈ s.1.flatten) : lvlOf (invS s) z = s.1.length - 1 - lvlOf s z := by
  obtain ⟨a, h1, h2⟩ := lvlOf_get h
  have hl := lvl_lt h
  refine lvlOf_eq (inv_ok ok) (a := a) ?_ h2
  rw [inv_lv ok, List.getElem?_reverse (by omega), show s.1.length - 1 - (s.1.length - 1 - lvlOf s z) = lvlOf s z by omega]
  exact h1
theorem swp_swp (e : Str × Str) : swp (swp e) = e := rfl
theorem turn_mk {s t : Sht} (ok : Sok s) (ok2 : Sok t) (mk : Mk' (s.1 ++ t.1) (s.2 ++ t.2)) : Mk' ((invS t).1 ++ (invS s).1) ((invS t).2 ++ (invS s).2) := by
  have h := (mk.rev)
  have e1 : (invS t).1 ++ (invS s).1 = (s.1 ++ t.1).reverse := by rw [inv_lv ok, inv_lv ok2, List.reverse_append]
  have p : ((invS t).2 ++ (invS s).2).Perm ((s.2 ++ t.2).map swp) := by
    rw [List.map_append]
    exact ((srtT_perm _).append (srtT_perm _)).trans List.perm_append_comm
  rw [e1]
  exact ⟨h.lv, h.w18, h.h12, fun e he => h.fit e (p.mem_iff.mp he), p.nodup_iff.mpr h.nd, by rw [p.length_eq]; exact h.z⟩
theorem turn_back {s t : Sht} (ok : Sok s) (ok2 : Sok t) (mk : Mk' (s.1 ++ t.1) (s.2 ++ t.2)) : invS (overS (invS t) (invS s)) = overS s t := by
  have okt := over_ok (turn_mk ok ok2 mk)
  refine sok_ext (inv_ok okt) (over_ok mk) ?_ fun e => ?_
  · rw [inv_lv okt]
    show (((invS t).1 ++ (invS s).1).map srtS).reverse = (s.1 ++ t.1).map srtS
    rw [inv_lv ok, inv_lv ok2, ← List.reverse_append, List.map_reverse, List.reverse_reverse]
  · rw [mem_inv, mem_over, mem_over, mem_inv, mem_inv, swp_swp]
    exact Or.comm
theorem inv_over_lv {s t : Sht} (ok : Sok s) (ok2 : Sok t) : (overS (invS t) (invS s)).1 = (overS s t).1.reverse := by
  show ((invS t).1 ++ (invS s).1).map srtS = ((s.1 ++ t.1).map srtS).reverse
  rw [inv_lv ok, inv_lv ok2, ← List.reverse_append, List.map_reverse]
theorem turn_join_ok {s : Sht} (ok : Sok s) {k : Nat} (hk : k + 1 < s.1.length) : AddOk (overS (invS (cutS s (k + 1) (s.1.length - 1))) (invS (cutS s 0 k))) (gapOf (invS s) (s.1.length - 2 - k)) := by
  have mk := cuts_mk ok (Nat.zero_le k) (b := s.1.length - 1) (by omega) (by omega)
  have ok1 := cut_ok ok (Nat.zero_le k) (by omega : k < s.1.length)
  have ok2 := cut_ok ok (a := k + 1) (b := s.1.length - 1) (by omega) (by omega)
  have okt := over_ok (turn_mk ok1 ok2 mk)
  have oki := inv_ok ok
  refine AddOk.of okt oki ?_ (fun e he => ?_) (fun e he => ?_) (Nat.le_trans (List.length_filter_le _ _) (Nat.le_trans oki.z (by decide)))
  · rw [inv_over_lv ok1 ok2, over_lv ok (Nat.zero_le k) (by omega) (by omega), cut_all ok, inv_lv ok]
  · rw [mem_over, mem_inv, mem_inv, mem_cut, mem_cut] at he
    rw [mem_inv]
    exact he.elim (fun h => h.1) fun h => h.1
  · exact (mem_gap oki).mp he |>.1
theorem turn_join {s : Sht} (ok : Sok s) {k : Nat} (hk : k + 1 < s.1.length) : addS (overS (invS (cutS s (k + 1) (s.1.length - 1))) (invS (cutS s 0 k))) (gapOf (invS s) (s.1.length - 2 - k)) = invS s := by
  have okj := turn_join_ok ok hk
  have oki := inv_ok ok
  have ok1 := cut_ok ok (Nat.zero_le k) (by omega : k < s.1.length)
  have ok2 := cut_ok ok (a := k + 1) (b := s.1.length - 1) (by omega) (by omega)
  refine sok_ext okj.sok oki ?_ fun e => ?_
  · rw [add_lv okj.ok, inv_over_lv ok1 ok2, over_lv ok (Nat.zero_le k) (by omega) (by omega), cut_all ok, inv_lv ok]
  · rw [mem_addS, mem_over, mem_inv, mem_inv, mem_cut, mem_cut, mem_gap oki, mem_inv]
    constructor
    · rintro ((h | h) | h)
      · exact h.1
      · exact h.1
      · exact h.1
    · intro h
      have h3 := line_lvl ok h
      have h4 := inv_lvl ok (ok.fit _ h).in2
      by_cases c : lvlOf s (swp e).1 = k
      · refine .inr ⟨h, ?_⟩
        have : lvlOf (invS s) e.1 = s.1.length - 1 - lvlOf s (swp e).2 := h4
        omega
      · by_cases c2 : lvlOf s (swp e).1 < k
        · exact .inl (.inr ⟨h, Nat.zero_le _, by omega⟩)
        · exact .inl (.inl ⟨h, by omega, by omega⟩)
end K21
set_option Elab.async false
set_option linter.all false
set_option maxRecDepth 100000
set_option maxHeartbeats 4000000
namespace K21
open PySem PySem.Spec PyProof.Rows L2 Evl Gen RP
section
variable {P : Program} {w : World} {K : PySem.W.Frag} {mg : Str → Option Value} {base : Heap} {fd : Nat → FuncData}
def moreL (s : Sht) : Sht := mkS (s.1 ++ [[]]) s.2
theorem more_mk {s : Sht} (ok : Sok s) (h : s.1.length < 12) : Mk' (s.1 ++ [[]]) s.2 where
  lv := ⟨fun z => (List.append_ne_nil_of_right_ne_nil _ (by simp)) z, fun ws hw x hx => (List.mem_append.mp hw).elim (fun hw => ok.lv.names ws hw x hx) (fun hw => by rw [List.mem_singleton.mp hw] at hx; exact absurd hx List.not_mem_nil), (by rw [List.flatten_append]; simpa using ok.lv.once), (by
    rw [← many_flat, List.flatten_append]
    have := ok.lv.few
    rw [← many_flat] at this
    simpa using this)⟩
  w18 := fun l hl => by
    rcases List.mem_append.mp hl with hl | hl
    · exact ok.w18 l hl
    · rw [List.mem_singleton.mp hl]; exact Nat.zero_le _
  h12 := by rw [List.length_append]; exact h
  fit := fun e he => by
    obtain ⟨i, a, b, h1, h2, h3, h4⟩ := ok.fit e he
    exact ⟨i, a, b, by rw [List.getElem?_append_left (List.getElem?_eq_some_iff.mp h1).1]; exact h1, by rw [List.getElem?_append_left (List.getElem?_eq_some_iff.mp h2).1]; exact h2, h3, h4⟩
  nd := ok.nd
  z := ok.z
theorem sc_sh_with_level : FnScope ["self"] ["self"] (defScope (shS 28)) := ⟨rfl, rfl, rfl, by decide +kernel, rfl, by decide +kernel, by decide +kernel⟩
theorem ok_sh_with_level (T : Tx K mg fd) : FnOk P w K mg base CX0 7 (He.ma K (shC K) "with_level") (fd 68) ["self"] (Sp1 (rS_ K) (rS_ K) moreL (fun s => Sok s ∧ s.1.length < 12)) := by
  refine (T.dm 68 28 "with_level" "Sheet.with_level" rfl).ok sc_sh_with_level (fun vs H Q E h => ?len) (fun cdv A outer s H vs Q E hr h => ?body)
  case body =>
    refine ⟨_, (pss_one (ps_ret (pe_make T.mkr (ok_sh_init T) (hr.mono (by decide)) (by rfl) (T.gl 36 "Sheet" rfl) (bi3 T) .nil pass0 (pa_cons (pe_lst (StX.pa_star (pe_fld (pv 0) rfl) (pa_cons (pe_lst pa_nil) pa_nil))) (pa_cons (pe_fld (pv 0) rfl) pa_nil))))), ?_⟩
    obtain ⟨ps, v, s, rfl, o, r, ok, q⟩ := h
    obtain ⟨ok, hl⟩ := ok
    exact s_retR o (er_make (er_lst (eas_star (sh_levels (i := 0) rfl r T.cls (T.noat 61 "_levels" rfl)) (eas_cons (er_lst (R := rS) eas_nil (by decide)) eas_nil)) (by rw [List.length_append]; show s.1.length + 1 ≤ 100000; omega)) (sh_lines (i := 0) rfl r T.cls (T.noat 62 "_lines" rfl)) (more_mk ok hl)) q
  case len =>
    obtain ⟨ps, v, s, rfl, _⟩ := h
    rfl
/-- a pair that fits is a line just if it is one of them -/
def spIsLine (K : PySem.W.Frag) : Sp := Sp2 (rS_ K) rE rB (fun s e => decide (e ∈ s.2)) (fun s e => Sok s ∧ Fit s.1 e)
theorem sc_sh_is_line_t : FnScope ["self", "value"] ["self", "value"] (defScope (shS 32)) := ⟨rfl, rfl, rfl, by decide +kernel, rfl, by decide +kernel, by decide +kernel⟩
theorem ok_sh_is_line_t (T : Tx K mg fd) : FnOk P w K mg base CX0 3 (He.ma K (shC K) "_is_line") (fd 72) ["self", "value"] (Sp2 (rS_ K) rE rB (fun s e => decide (e ∈ s.2)) (fun s e => Sok s ∧ Fit s.1 e)) := by
  refine (T.dm 72 32 "_is_line" "Sheet._is_line" rfl).ok sc_sh_is_line_t (fun vs H Q E h => ?len) (fun cdv A outer s H vs Q E hr h => ?body)
  case body =>
    refine ⟨_, (pss_one (ps_ret (pe_and (pe_call (ok_fits_as_line T) (hr.mono (by decide)) (by rfl) (T.gl 8 "fits_as_line" rfl) (T.df 6 28 "fits_as_line" rfl).kp ((T.df 6 28 "fits_as_line" rfl).binds (ps := ["value", "places"]) fun _ _ _ _ _ _ us hl => match us, hl with | [_, _], _ => rfl) .nil pass0 (pa_cons (pv 1) (pa_cons (pe_fld (pv 0) rfl) pa_nil))) (pe_one (pe_cmpR op_in_seq (pe_ix (r := rIxT K) ix_tup (pv 1) pe_int (fun _ _ => rfl)) (pe_dget (u1 hr.units) (pe_fld (pv 0) rfl) (pe_ix (r := rIxT K) ix_tup (pv 1) pe_int (fun _ _ => rfl)) (fun _ _ => rfl)) rfl))))), ?_⟩
    obtain ⟨ps, v, w, s, e, rfl, o, r, ra, ok, q⟩ := h
    obtain ⟨ok, hf⟩ := ok
    refine s_retR o (er_is (er_andV (x := true) (er_fits (er_var rfl ra) (sh_places (i := 0) rfl r T.cls (T.noat 64 "_places" rfl)) hf) fun _ => er_inL (fun q ns x H1 Q h k => ⟨q, _, rfl, .inl h, rfl, flat_strs ns, by
      rw [if_neg Bool.false_ne_true, inV_str]
      exact k⟩) (er_snd (er_var rfl ra) (er_I ev_c)) (er_endsget (sh_ups (i := 0) rfl r T.cls (T.noat 65 "_ups" rfl)) (er_fst (er_var rfl ra) (er_I ev_c)) hf.in1)) ?_) q
    rw [Bool.true_and]
    refine decide_eq_decide.mpr ⟨fun h => ?_, fun h => List.mem_map.mpr ⟨e, List.mem_filter.mpr ⟨h, decide_eq_true rfl⟩, rfl⟩⟩
    obtain ⟨f, h1, h2⟩ := List.mem_map.mp h
    rw [List.mem_filter, decide_eq_true_eq] at h1
    rw [← show f = e from Prod.ext h1.2 h2]
    exact h1.1
  case len =>
    obtain ⟨ps, v, w, s, e, rfl, _⟩ := h
    rfl
def subE (s : Sht) (e : Str × Str) : Sht := mkS s.1 (s.2.filter fun f => !decide (f = e))
theorem sub_mk {s : Sht} (ok : Sok s) (e : Str × Str) : Mk' s.1 (s.2.filter fun f => !decide (f = e)) := Mk'.of_sub ok (ok.nd.filter _) fun f hf => (List.mem_filter.mp hf).1
theorem ok_pair {s : Sht} (ok : Sok s) {e : Str × Str} (he : e ∈ s.2) : okS e.1 ∧ okS e.2 := sok_lines ok e he
theorem op_neDK {X : Cx} (hK : X.K = K) (hu : X.A.units + 64 < cLine) : OpR X (compareOp .NotEq) (rNeD K) := hK ▸ op_neD hu
theorem sc_sh_sub : FnScope ["self", "other", "line"] ["self", "other"] (defScope (shS 22)) := ⟨rfl, rfl, rfl, by decide +kernel, rfl, by decide +kernel, by decide +kernel⟩
theorem ok_sh_sub (T : Tx K mg fd) : FnOk P w K mg base CX0 7 (He.ma K (shC K) "__sub__") (fd 62) ["self", "other"] (Sp2 (rS_ K) rE (rS_ K) subE (fun s e => Sok s ∧ e ∈ s.2)) := by
  refine (T.dm 62 22 "__sub__" "Sheet.__sub__" rfl).ok sc_sh_sub (fun vs H Q E h => ?len) (fun cdv A outer s H vs Q E hr h => ?body)
  case body =>
    refine ⟨_, (pss_cons (ps_if (pt_not (pt_val (pe_meth (pv 0) T.cls (T.meth 92 "_is_line" rfl) (ok_sh_is_line_t T) (hr.mono (by decide)) ((T.dm 72 32 "_is_line" "Sheet._is_line" rfl).binds (ps := ["self", "value"]) fun _ _ _ _ _ _ us hl => match us, hl with | [_, _], _ => rfl) .nil pass0 (pa_cons (pv 1) pa_nil)))) (pss_one ps_never) pss_nil) (pss_one (ps_ret (pe_make T.mkr (ok_sh_init T) (hr.mono (by decide)) (by rfl) (T.gl 36 "Sheet" rfl) (bi3 T) .nil pass0 (pa_cons (pe_fld (pv 0) rfl) (pa_cons (pe_lc (own := [("line", 2)]) (g := gName 2) rfl sc_sh_sub.nd (pi_list (pe_fld (pv 0) rfl)) (blkOk_by (N := ["self", "other", "line"]) (sc := (defScope (shS 22))) (own := [("line", 2)]) (by decide +kernel)) (fun _ _ _ _ _ => (pg_name (i := 2) sc_sh_sub.nd rfl (Or.inl rfl))) (fun _ _ _ _ _ => (pts_one (pt_cmpR (op_neDK (K := K) rfl hr.units) (pv 2) (pv 1) (nomark _)))) (fun _ _ _ _ _ => (pv 2))) pa_nil)))))), ?_⟩
    obtain ⟨ps, v, w, s, e, rfl, o, r, ra, ok, q⟩ := h
    obtain ⟨ok, he⟩ := ok
    have hf := ok.fit e he
    refine q_whenR o (b := false) (et_is' (et_not' (et_B' (er_meth1 (f := fun s e => decide (e ∈ s.2)) (er_var rfl r) (er_var rfl ra) (by decide +kernel) ⟨ok, hf⟩))) (by rw [decide_eq_true he]; rfl)) (fun z => nomatch z) fun _ H1 e1 => ?_
    have r := (rS_ K).m (Rm_mono e1) r
    have ra := rE.m (Rm_mono e1) ra
    refine s_retR (o.ex e1) (er_make (sh_levels (i := 0) rfl r T.cls (T.noat 61 "_levels" rfl)) (er_is (er_lc1F (R := rE) (S := rE) id (fun f => !decide (f = e)) (wk_list (sh_lines (i := 0) rfl r T.cls (T.noat 62 "_lines" rfl))) (Nat.le_trans ok.z (by decide)) (fun _ => rfl) (fun f hf qs v H2 e2 o2 x2 r2 => et_test' (er_neD (dtP dtS dtS) (by decide) (er_var rfl r2) (er_var rfl (rE.m x2 ra)) (ok_pair ok hf) (ok_pair ok he))) fun f hf _ qs v H2 _ _ _ r2 => er_var rfl r2) (List.map_id _)) (sub_mk ok e)) fun v H2 e2 t => q v H2 (e1.trans e2) t
  case len =>
    obtain ⟨ps, v, w, s, e, rfl, _⟩ := h
    rfl
def besS (s t : Sht) : Sht := mkS ((s.1.zip t.1).map fun x => x.1 ++ x.2) (s.2 ++ t.2)
theorem sc_sh_or : FnScope ["self", "other", "levels", "left", "right"] ["self", "other"] (defScope (shS 24)) := ⟨rfl, rfl, rfl, by decide +kernel, rfl, by decide +kernel, by decide +kernel⟩
theorem ok_sh_or (T : Tx K mg fd) : FnOk P w K mg base CX0 7 (He.ma K (shC K) "__or__") (fd 64) ["self", "other"] (Sp2 (rS_ K) (rS_ K) (rS_ K) besS (fun s t => Sok s ∧ Sok t ∧ s.1.length = t.1.length ∧ (∀ z ∈ s.1.flatten, z ∉ t.1.flatten) ∧ Mk' ((s.1.zip t.1).map fun x => x.1 ++ x.2) (s.2 ++ t.2))) := by
  refine (T.dm 64 24 "__or__" "Sheet.__or__" rfl).ok sc_sh_or (fun vs H Q E h => ?len) (fun cdv A outer s H vs Q E hr h => ?body)
  case body =>
    refine ⟨_, (pss_cons (ps_if (pt_not (pt_val (pe_callB call_isi (by rfl) (T.fr 40 "isinstance" rfl) (by decide +kernel) (pa_cons (pv 1) (pa_cons (pe_glob (v := V.ref (He.ga K "Sheet")) (by rfl) (T.gl 36 "Sheet" rfl) rfl) pa_nil))))) (pss_one ps_never) pss_nil) (pss_cons (ps_if (pt_cmpR op_ne (pe_callB (call_ownLen (ok_sh_len T) (hr.mono (by decide)) (T.meth 75 "__len__" rfl) ((T.dm 55 15 "__len__" "Sheet.__len__" rfl).binds (ps := ["self"]) fun _ _ _ _ _ _ us hl => match us, hl with | [_], _ => rfl) .nil pass0) (by rfl) (T.fr 47 "len" rfl) (by decide +kernel) (pa_cons (pv 0) pa_nil)) (pe_callB (call_ownLen (ok_sh_len T) (hr.mono (by decide)) (T.meth 75 "__len__" rfl) ((T.dm 55 15 "__len__" "Sheet.__len__" rfl).binds (ps := ["self"]) fun _ _ _ _ _ _ us hl => match us, hl with | [_], _ => rfl) .nil pass0) (by rfl) (T.fr 47 "len" rfl) (by decide +kernel) (pa_cons (pv 1) pa_nil)) (nomark _)) (pss_one ps_never) pss_nil) (pss_cons (ps_expr (pe_call (ok_check_apart T) (hr.mono (by decide)) (by rfl) (T.gl 12 "check_apart" rfl) (T.df 10 32 "check_apart" rfl).kp ((T.df 10 32 "check_apart" rfl).binds (ps := ["nodes", "places"]) fun _ _ _ _ _ _ us hl => match us, hl with | [_, _], _ => rfl) .nil pass0 (pa_cons (pe_fld (pv 0) rfl) (pa_cons (pe_fld (pv 1) rfl) pa_nil)))) (pss_cons (ps_setLc (i := 2) (own := [("left", 3), ("right", 4)]) (g := gTup K 2 (gCons (gName 3) (gCons (gName 4) gNil))) rfl sc_sh_or.nd rfl rfl (sw_true rfl rfl rfl (by decide +kernel)) (pi_zip (by rfl) (T.fr 57 "zip" rfl) (pa_cons (pe_fld (pv 0) rfl) (pa_cons (pe_fld (pv 1) rfl) pa_nil))) (blkOk_by (N := ["self", "other", "levels", "left", "right"]) (sc := (defScope (shS 24))) (own := [("left", 3), ("right", 4)]) (by decide +kernel)) (fun _ _ _ _ _ => (pg_tup rfl (pgs_cons (pg_name (i := 3) sc_sh_or.nd rfl (Or.inl rfl)) (pgs_cons (pg_name (i := 4) sc_sh_or.nd rfl (Or.inl rfl)) pgs_nil)))) (fun _ _ _ _ _ => pts_nil) (fun _ _ _ _ _ => (pe_op op_cat (pv 3) (pv 4)))) (pss_one (ps_ret (pe_make T.mkr (ok_sh_init T) (hr.mono (by decide)) (by rfl) (T.gl 36 "Sheet" rfl) (bi3 T) .nil pass0 (pa_cons (pv 2) (pa_cons (pe_op op_cat (pe_fld (pv 0) rfl) (pe_fld (pv 1) rfl)) pa_nil))))))))), ?_⟩
    obtain ⟨ps, v, w, s, a, rfl, o, r, ra, ok, q⟩ := h
    obtain ⟨ok, ok2, hl, hap, ok3⟩ := ok
    refine q_whenR o (b := false) (et_is' (et_not' (et_B' (er_isSh T (er_var rfl ra)))) rfl) (fun z => nomatch z) fun _ H1 e1 => ?_
    have r := (rS_ K).m (Rm_mono e1) r
    have ra := (rS_ K).m (Rm_mono e1) ra
    have o1 := o.ex e1
    refine q_whenR o1 (b := false) (et_test' (er_B (ev_is (ev_op (ev_I o1 (er_lenO (er_var rfl r) ok)) (ev_I o1 (er_lenO (er_var rfl ra) ok2)) (rv_ne rfl)) (by rw [hl]; congr 1; rw [Bool.not_eq_false', decide_eq_true_eq])))) (fun z => nomatch z) fun _ H2 e2 => ?_
    have r := (rS_ K).m (Rm_mono e2) r
    have ra := (rS_ K).m (Rm_mono e2) ra
    have o2 := o1.ex e2
    refine q_dropR o2 (er_apart (sh_nodes (i := 0) rfl r T.cls (T.noat 63 "_nodes" rfl)) (sh_places (i := 1) rfl ra T.cls (T.noat 64 "_places" rfl)) hap ?_) fun H3 e3 => ?_
    · rw [many_flat]
      exact Nat.le_trans ok.lv.few (by decide)
    have r := (rS_ K).m (Rm_mono e3) r
    have ra := (rS_ K).m (Rm_mono e3) ra
    have o3 := o2.ex e3
    have h12 := ok.h12
    refine q_asgR' o3 (er_lc2 (R := rL rS) (S := rL rS) (T := rL rS) (fun x => x.1 ++ x.2) (wk_zip (sh_levels (i := 0) rfl r T.cls (T.noat 61 "_levels" rfl)) (sh_levels (i := 1) rfl ra T.cls (T.noat 61 "_levels" rfl))) (by rw [List.length_zip]; omega) (fun _ _ => rfl) fun x hx qs v w H4 e4 o4 x4 r4 s4 => ?_) fun v4 H4 e4 r4 => ?_
    · have hm := List.of_mem_zip hx
      have a1 := ok.w18 _ hm.1
      have a2 := ok2.w18 _ hm.2
      exact er_cat (er_var rfl r4) (er_var rfl s4) (by omega)
    have r := (rS_ K).m (Rm_mono e4) r
    have ra := (rS_ K).m (Rm_mono e4) ra
    have h3 := ok.z
    have h4 := ok2.z
    exact s_retR (o3.ex e4) (er_make (er_var rfl r4) (er_cat (sh_lines (i := 0) rfl r T.cls (T.noat 62 "_lines" rfl)) (sh_lines (i := 1) rfl ra T.cls (T.noat 62 "_lines" rfl)) (by omega)) ok3) fun v H5 e5 t => q v H5 ((((e1.trans e2).trans e3).trans e4).trans e5) t
  case len =>
    obtain ⟨ps, v, w, s, a, rfl, _⟩ := h
    rfl
end
end K21
set_option Elab.async false
set_option linter.all false
set_option maxRecDepth 100000
set_option maxHeartbeats 4000000
/-! a comprehension of two clauses, by what values stand for -/
namespace RP
open PySem PySem.Spec PyProof.Rows L2 Evl Gen
theorem it_gen {J : It} {n : Nat} {G : Hp → Prop} {Y : Nat → Hp → V → Hp → Prop} (w : Walk J n G Y) {B : V → Hp → (Hp → Prop) → Prop} {H1 : Hp} {Done : Hp → Prop} (Pv : Nat → Hp → Prop) (h0 : Pv 0 H1) (hG : ∀ i H, i ≤ n → Pv i H → G H)
    (hs : ∀ i x H H', i < n → Pv i H → Y i H x H' → B x H' (Pv (i + 1))) (hd : ∀ H, Pv n H → Done H) :
    ∃ W : Nat → Nat → Hp → Prop, (∃ m, W 0 m H1) ∧ ∀ i m H, W i m H → (J.stop i H ∧ Done H) ∨ (J.go i H ∧ ∃ Nx : Hp → Prop, (∀ H', Nx H' → ∃ m', m' < m ∧ W (i + 1) m' H') ∧ ∀ x H', J.yld i H x H' → B x H' Nx) := by
  refine ⟨fun i m H => m = n - i ∧ i ≤ n ∧ Pv i H, ⟨n, by simp, Nat.zero_le _, h0⟩, ?_⟩
  rintro i m H ⟨rfl, hi, p⟩
  have q := hG i H hi p
  by_cases hlt : i < n
  · exact .inr ⟨w.goes i H hlt q, Pv (i + 1), fun H' p' => ⟨n - (i + 1), by omega, rfl, hlt, p'⟩, fun x H' y => hs i x H H' hlt p (w.yields i H x H' hlt q y)⟩
  · have e : i = n := by omega
    subst e
    exact .inl ⟨w.stops H q, hd H p⟩
section
variable {α β γ : Type} {R : Rp α} {S : Rp β} {T : Rp γ} {K : PySem.W.Frag} {ps : List Addr} {σ : L2.St} {H : Hp} {te : TE} {tt : TT}
theorem lw_test2 {H1 H2 Hb : Hp} {Dl : Addr} {bs nb : List γ} {b : γ} {σ2 : L2.St} {q : Bool} (o : Own ps H1) (hD : H1 Dl = none) (p : Lw T ps H1 Dl bs H2) (xb : Ex (Rm (Dl :: ps) Hb) (Rm (Dl :: ps) H2)) (hz : bs.length < 50000)
    (ht : EtR (Dl :: ps) tt σ2 H2 q) (he : q = true → nb = bs ++ [b] ∧ EvR T (Dl :: ps) te σ2 H2 b) (hn : q = false → nb = bs) :
    tt σ2 H2 fun x H3 => if x = true then te σ2 H3 fun y H4 => ∃ acc, H4 Dl = some (.lst acc) ∧ acc.length < sizeLine ∧ (Lw T ps H1 Dl nb (upd H4 Dl (.lst (acc ++ [y]))) ∧ Ex (Rm (Dl :: ps) Hb) (Rm (Dl :: ps) (upd H4 Dl (.lst (acc ++ [y]))))) else (Lw T ps H1 Dl nb H3 ∧ Ex (Rm (Dl :: ps) Hb) (Rm (Dl :: ps) H3)) := by
  have p0 := p
  obtain ⟨p1, vs, p2, p3⟩ := p
  refine ht H2 (Ex.refl _) ((o.ex p1).push p2) _ fun H3 e3 => ?_
  cases q with
  | true =>
    rw [if_pos rfl, (he rfl).1]
    refine (he rfl).2 H3 e3 (((o.ex p1).push p2).ex e3) _ fun y H4 e4 r => ⟨vs, e4 _ _ (e3 _ _ p2), sz_lt (by rw [← p3.len]; omega), ⟨Ex.mut (p1.trans (e3.trans e4)) hD, vs ++ [y], upd_same, ?_⟩, ?_⟩
    · have er : Rm (Dl :: ps) (upd H4 Dl (.lst (vs ++ [y]))) = Rm (Dl :: ps) H4 := Rm_upd (List.mem_cons_self ..)
      rw [er]
      exact (p3.imp fun _ _ q => T.m (Rm_mono (e3.trans e4)) q).app (.one r)
    · rw [Rm_upd (List.mem_cons_self ..)]
      exact xb.trans (Rm_mono (e3.trans e4))
  | false =>
    rw [if_neg Bool.false_ne_true, hn rfl]
    exact ⟨lw_ex p0 e3, xb.trans (Rm_mono e3)⟩
def row2 (ys : α → List β) (q : α → β → Bool) (f : α → β → γ) (x : α) : List γ := ((ys x).filter (q x)).map (f x)
theorem flat_len {g : α → List γ} {c : Nat} : ∀ {l : List α}, (∀ x ∈ l, (g x).length ≤ c) → (l.flatMap g).length ≤ l.length * c
  | [], _ => Nat.zero_le _
  | a :: l, h => by
    have h1 := h a (List.mem_cons_self ..)
    have h2 := flat_len (l := l) fun x hx => h x (List.mem_cons_of_mem _ hx)
    rw [List.flatMap_cons, List.length_append, List.length_cons, Nat.succ_mul]
    omega
theorem er_lc2G {wi wi1 : TI} {xs : List α} {i j : Nat} {vs vs1 : List Nat} (ys : α → List β) (q : α → β → Bool) (f : α → β → γ) (c : Nat) (h : Wk R ps wi σ H xs) (hz : xs.length * c ≤ 40000) (hy : ∀ x ∈ xs, (ys x).length ≤ c)
    (hw : ∀ x, wipe ((wipe σ vs).set i (some x)) vs = wipe σ vs) (hw1 : ∀ x y, wipe ((wipe ((wipe σ vs).set i (some x)) vs1).set j (some y)) vs1 = wipe ((wipe σ vs).set i (some x)) vs1)
    (h1 : ∀ x ∈ xs, ∀ qs v H1, Ex H H1 → Own qs H1 → Ex (Rm ps H) (Rm qs H1) → R.p x v (Rm qs H1) → Wk S qs wi1 ((wipe σ vs).set i (some v)) H1 (ys x))
    (ht : ∀ x ∈ xs, ∀ y ∈ ys x, ∀ qs v w H1, Ex H H1 → Own qs H1 → Ex (Rm ps H) (Rm qs H1) → R.p x v (Rm qs H1) → S.p y w (Rm qs H1) → EtR qs tt ((wipe ((wipe σ vs).set i (some v)) vs1).set j (some w)) H1 (q x y))
    (he : ∀ x ∈ xs, ∀ y ∈ ys x, q x y = true → ∀ qs v w H1, Ex H H1 → Own qs H1 → Ex (Rm ps H) (Rm qs H1) → R.p x v (Rm qs H1) → S.p y w (Rm qs H1) → EvR T qs te ((wipe ((wipe σ vs).set i (some v)) vs1).set j (some w)) H1 (f x y)) :
    EvR (rL T) ps (tLc2 wi (gName i) tYes wi1 (gName j) tt te vs vs1) σ H (xs.flatMap (row2 ys q f)) := fun H0 e o Q k => h H0 e o _ fun J n G Y H1 e1 hn wk hG hY Dl hD => by
  have o1 := o.ex e1
  have few : ∀ k, ((xs.take k).flatMap (row2 ys q f)).length ≤ 40000 := fun k => by
    refine Nat.le_trans (flat_len (c := c) fun x hx => ?_) (Nat.le_trans (Nat.mul_le_mul_right c (by rw [List.length_take]; exact Nat.min_le_right _ _)) hz)
    unfold row2
    rw [List.length_map]
    exact Nat.le_trans (List.length_filter_le _ _) (hy x (List.mem_of_mem_take hx))
  refine it_gen wk (fun i H2 => Lw T ps H1 Dl ((xs.take i).flatMap (row2 ys q f)) H2) (lw_zero hD) (fun i H2 _ p => hG H2 (Rm_ex.trans p.1)) (fun k u H2 H2' hi p y => ?_) (fun H2 p => ?_)
  · obtain ⟨vs', p2, p3⟩ := p.2
    have o2 : Own (Dl :: ps) H2 := (o1.ex p.1).push p2
    have ex2 : Ex (Rm ps H1) (Rm (Dl :: ps) H2) := fun b ob hb => by
      have n : b ≠ Dl := fun z => by rw [z, Rm_none hD] at hb; cases hb
      have hb1 := Rm_ex _ _ hb
      refine Rm_get (p.1 _ _ hb1) (fun m => (List.mem_cons.mp m).elim n fun m => ?_)
      rw [Rm_own m] at hb
      cases hb
    obtain ⟨e3, x, hx, rx⟩ := hY k H2 u H2' (Dl :: ps) hi o2 ex2 y
    have hm : x ∈ xs := List.mem_of_getElem? hx
    have p' := lw_ex p e3
    have o2' := o2.ex e3
    have g0 : Ex H H2' := (e.trans e1).trans p'.1
    have g1 : Ex (Rm ps H) (Rm (Dl :: ps) H2') := ((Rm_mono (e.trans e1)).trans ex2).trans (Rm_mono e3)
    refine ⟨hw _, ?_⟩
    show wi1 ((wipe σ vs).set i (some u)) H2' _
    refine h1 x hm (Dl :: ps) u H2' g0 o2' g1 rx H2' (Ex.refl _) o2' _ fun J1 n1 G1 Y1 H4 e4 hn1 wk1 hG1 hY1 => ?_
    refine it_gen wk1 (fun j' H5 => Lw T ps H1 Dl ((xs.take k).flatMap (row2 ys q f) ++ (((ys x).take j').filter (q x)).map (f x)) H5 ∧ Ex (Rm (Dl :: ps) H4) (Rm (Dl :: ps) H5)) ⟨by rw [List.take_zero, List.filter_nil, List.map_nil, List.append_nil]; exact lw_ex p' e4, Ex.refl _⟩ (fun j' H5 _ pv => hG1 H5 (pv.2.trans Rm_ex)) (fun j' u1 H5 H5' hj' pv y1 => ?_) (fun H5 pv => ?_)
    · obtain ⟨pl, px⟩ := pv
      obtain ⟨vs5, q2, q3⟩ := pl.2
      have o5 : Own (Dl :: ps) H5 := (o1.ex pl.1).push q2
      obtain ⟨e6, y', hy', ry'⟩ := hY1 j' H5 u1 H5' (Dl :: ps) hj' o5 px y1
      have hm' : y' ∈ ys x := List.mem_of_getElem? hy'
      have pl' := lw_ex pl e6
      have o5' := o5.ex e6
      have x45 : Ex (Rm (Dl :: ps) H2') (Rm (Dl :: ps) H5') := ((Rm_mono e4).trans px).trans (Rm_mono e6)
      have g05 : Ex H H5' := (e.trans e1).trans pl'.1
      have g15 := g1.trans x45
      refine ⟨hw1 _ _, ?_⟩
      have lenb : ((xs.take k).flatMap (row2 ys q f) ++ (((ys x).take j').filter (q x)).map (f x)).length < 50000 := by
        have h2 := few k
        have h3 := List.length_filter_le (q x) ((ys x).take j')
        have h4 : ((ys x).take j').length ≤ (ys x).length := by rw [List.length_take]; exact Nat.min_le_right _ _
        have h5 := hy x hm
        have h6 : 1 * c ≤ xs.length * c := Nat.mul_le_mul_right c (List.length_pos_of_mem hm)
        have h7 : (xs.take k).flatMap (row2 ys q f) = (xs.take k).flatMap (row2 ys q f) := rfl
        have h8 : k < xs.length := (List.getElem?_eq_some_iff.mp hx).1
        have h9 : ((xs.take k).flatMap (row2 ys q f)).length ≤ k * c := by
          refine Nat.le_trans (flat_len (c := c) fun x hx => ?_) (Nat.mul_le_mul_right c (by rw [List.length_take]; exact Nat.min_le_left _ _))
          unfold row2
          rw [List.length_map]
          exact Nat.le_trans (List.length_filter_le _ _) (hy x (List.mem_of_mem_take hx))
        have h10 : (k + 1) * c ≤ xs.length * c := Nat.mul_le_mul_right c h8
        rw [Nat.succ_mul] at h10
        rw [List.length_append, List.length_map]
        omega
      exact lw_test2 (nb := (xs.take k).flatMap (row2 ys q f) ++ (((ys x).take (j' + 1)).filter (q x)).map (f x)) (b := f x y') o1 hD pl' (px.trans (Rm_mono e6)) lenb (ht x hm y' hm' (Dl :: ps) u u1 H5' g05 o5' g15 (R.m x45 rx) ry') (fun hq => ⟨by rw [List.take_add_one, hy', List.filter_append, List.map_append, ← List.append_assoc]; simp [hq], he x hm y' hm' hq (Dl :: ps) u u1 H5' g05 o5' g15 (R.m x45 rx) ry'⟩) (fun hq => by rw [List.take_add_one, hy', List.filter_append, List.map_append]; simp [hq])
    · obtain ⟨pl, px⟩ := pv
      rw [hn1, List.take_length] at pl
      have hx2 : xs.take (k + 1) = xs.take k ++ [x] := by rw [List.take_add_one, hx]; rfl
      rw [hx2, List.flatMap_append]
      show Lw T ps H1 Dl (_ ++ [x].flatMap _) H5
      rw [List.flatMap_cons, List.flatMap_nil, List.append_nil]
      exact pl
  · rw [hn, List.take_length] at p
    exact k _ _ (e1.trans p.1) (lw_end o1 hD p)
end
end RP
set_option Elab.async false
set_option linter.all false
set_option maxRecDepth 100000
set_option maxHeartbeats 4000000
/-! what is new since a heap -/
namespace RP
open PySem PySem.Spec PyProof.Rows L2 Evl Gen
section
variable {α β γ : Type} {R : Rp α} {S : Rp β} {T : Rp γ} {K : PySem.W.Frag} {ps : List Addr} {σ : L2.St} {G G' H H' H1 : Hp} {ta tb tc te tl : TE} {tr : TA} {tt : TT} {v w : V} {a : α} {b : β} {c : γ} {p : Addr} {o : HO}
def Nw (G H : Hp) : Hp := fun b => if (G b).isSome = true then none else H b
theorem Nw_ex : Ex (Nw G H) H := fun b o h => by
  unfold Nw at h
  split at h
  · cases h
  · exact h
theorem Nw_none (h : Nw G H p = some o) : G p = none := by
  unfold Nw at h
  split at h
  · cases h
  · rename_i n
    cases e : G p with
    | none => rfl
    | some u => rw [e] at n; exact absurd rfl n
theorem Nw_get (h : H p = some o) (n : G p = none) : Nw G H p = some o := by
  unfold Nw
  rw [if_neg (by rw [n]; decide)]
  exact h
theorem Nw_mono (e : Ex H H') : Ex (Nw G H) (Nw G H') := fun b o h => Nw_get (e _ _ (Nw_ex _ _ h)) (Nw_none h)
theorem Nw_base (e : Ex G' G) : Ex (Nw G H) (Nw G' H) := fun b o h => Nw_get (Nw_ex _ _ h) (by
  cases z : G' b with
  | none => rfl
  | some u => have := e _ _ z; rw [Nw_none h] at this; cases this)
theorem Nw_rm (o : Own ps G) : Ex (Nw G H) (Rm ps H) := fun b u h => Rm_get (Nw_ex _ _ h) fun m => by
  obtain ⟨ob, ho, _⟩ := o b m
  rw [Nw_none h] at ho
  cases ho
theorem Nw_rm2 : Ex (Nw G (Rm ps H)) (Rm ps (Nw G H)) := fun b u h => Rm_get (Nw_get (Rm_ex _ _ (Nw_ex _ _ h)) (Nw_none h)) fun m => by
  have := Nw_ex _ _ h
  rw [Rm_own m] at this
  cases this
theorem none_of (e : Ex G H) (h : H p = none) : G p = none := by
  cases z : G p with
  | none => rfl
  | some u => have := e _ _ z; rw [h] at this; cases this
def rW (G : Hp) (R : Rp α) : Rp α := ⟨fun a v H => R.p a v (Nw G H), fun e h => R.m (Nw_mono e) h⟩
theorem rW_r (h : (rW G R).p a v H) : R.p a v H := R.m Nw_ex h
/-- a new list -/
def rLN (G : Hp) (R : Rp α) : Rp (List α) := ⟨fun as v H => ∃ a vs, v = .ref a ∧ G a = none ∧ H a = some (.lst vs) ∧ All2 (fun x y => R.p x y H) as vs,
  fun e ⟨a, vs, h1, h0, h2, h3⟩ => ⟨a, vs, h1, h0, e _ _ h2, h3.imp fun _ _ q => R.m e q⟩⟩
theorem rLN_L {as : List α} (h : (rLN G R).p as v H) : (rL R).p as v H := let ⟨a, vs, h1, _, h2, h3⟩ := h; ⟨a, vs, h1, h2, h3⟩
theorem rLN_W {as : List α} (h : (rLN G (rW G R)).p as v H) : (rW G (rL R)).p as v H := let ⟨a, vs, h1, h0, h2, h3⟩ := h; ⟨a, vs, h1, Nw_get h2 h0, h3⟩
theorem rW_S {s : Str} (h : rS.p s v H) : (rW G rS).p s v H := h
theorem rLN_imp {as : List α} {R' : Rp α} (h : (rLN G R).p as v H) (k : ∀ x y, R.p x y H → R'.p x y H) : (rLN G R').p as v H := let ⟨a, vs, h1, h0, h2, h3⟩ := h; ⟨a, vs, h1, h0, h2, h3.imp fun _ _ q => k _ _ q⟩
theorem rL_imp {as : List α} {R' : Rp α} (h : (rL R).p as v H) (k : ∀ x y, R.p x y H → R'.p x y H) : (rL R').p as v H := let ⟨a, vs, h1, h2, h3⟩ := h; ⟨a, vs, h1, h2, h3.imp fun _ _ q => k _ _ q⟩
theorem er_NL {as : List α} (h : EvR (rLN G R) ps te σ H as) : EvR (rL R) ps te σ H as := er_imp h fun _ _ r => rLN_L r
theorem er_NW {as : List α} (h : EvR (rLN G (rW G R)) ps te σ H as) : EvR (rW G (rL R)) ps te σ H as := er_imp h fun _ _ r => rLN_W r
theorem er_WN (h : EvR (rW G R) ps te σ H a) : EvR R ps te σ H a := er_imp h fun _ _ r => rW_r r
theorem er_listN {as : List α} (e0 : Ex G H) (h : EvR (rQ K R) ps te σ H as) : EvR (rLN G R) ps (tCB (rListS K) (tCons te tNil)) σ H as := er_cb1 h fun v H1 e o rv Q q => by
  obtain ⟨a, vs, rfl, h1, h2⟩ := rv
  exact ⟨a, vs, rfl, ex_s Rm_ex h1, fun l hl => q _ _ (Ex.new hl) ⟨l, vs, rfl, none_of (e0.trans e) hl, Rm_get upd_same (o.nin hl), h2.imp fun _ _ r => R.m (Rm_mono (Ex.new hl)) r⟩⟩
theorem lw_endN {H1 H2 : Hp} {Dl : Addr} {bs : List β} (o : Own ps H1) (hD : H1 Dl = none) (e0 : Ex G H1) (p : Lw S ps H1 Dl bs H2) : (rLN G S).p bs (.ref Dl) (Rm ps H2) := let ⟨_, vs, h2, h3⟩ := p; ⟨Dl, vs, rfl, none_of e0 hD, Rm_get h2 (o.nin hD), h3.imp fun _ _ q => S.m Rm_pop q⟩
theorem er_lcGN {wi : TI} {xs : List α} {g : TG} {vs : List Nat} {P : α → L2.St → Hp → Prop} (f : α → β) (q : α → Bool) (e0 : Ex G H) (h : Wk R ps wi σ H xs) (hz : xs.length ≤ 40000) (hb : ∀ qs, Bd R qs g vs σ (fun x σ2 H1 => P x σ2 (Rm qs H1)))
    (ht : ∀ x ∈ xs, ∀ qs σ2 H1, Ex H H1 → Own qs H1 → Ex (Rm ps H) (Rm qs H1) → P x σ2 (Rm qs H1) → EtR qs tt σ2 H1 (q x))
    (he : ∀ x ∈ xs, q x = true → ∀ qs σ2 H1, Ex H H1 → Own qs H1 → Ex (Rm ps H) (Rm qs H1) → P x σ2 (Rm qs H1) → EvR S qs te σ2 H1 (f x)) :
    EvR (rLN G S) ps (tLc wi g tt te vs) σ H ((xs.filter q).map f) := fun H0 e o Q k => h H0 e o _ fun J n G' Y H1 e1 hn wk hG hY Dl hD => by
  have o1 := o.ex e1
  refine lc_it wk (fun i H2 => Lw S ps H1 Dl (((xs.take i).filter q).map f) H2) (lw_zero hD) (fun i H2 _ p => hG H2 (Rm_ex.trans p.1)) (fun i u H2 H2' hi p y => ?_) (fun H2 p => ?_)
  · obtain ⟨vs', p2, p3⟩ := p.2
    have o2 : Own (Dl :: ps) H2 := (o1.ex p.1).push p2
    have ex2 : Ex (Rm ps H1) (Rm (Dl :: ps) H2) := fun b ob hb => by
      have n : b ≠ Dl := fun z => by rw [z, Rm_none hD] at hb; cases hb
      have hb1 := Rm_ex _ _ hb
      refine Rm_get (p.1 _ _ hb1) (fun m => (List.mem_cons.mp m).elim n fun m => ?_)
      rw [Rm_own m] at hb
      cases hb
    obtain ⟨e3, x, hx, rx⟩ := hY i H2 u H2' (Dl :: ps) hi o2 ex2 y
    have hm : x ∈ xs := List.mem_of_getElem? hx
    have p' := lw_ex p e3
    have o2' := o2.ex e3
    refine hb (Dl :: ps) x u H2' o2' rx _ fun σ2 hw hP => ⟨hw, ?_⟩
    have g0 : Ex H H2' := (e.trans e1).trans p'.1
    have g1 : Ex (Rm ps H) (Rm (Dl :: ps) H2') := ((Rm_mono (e.trans e1)).trans ex2).trans (Rm_mono e3)
    have hlen : (((xs.take i).filter q).map f).length < 50000 := by
      rw [List.length_map]
      have h1 := List.length_filter_le q (xs.take i)
      have h2 : (xs.take i).length ≤ xs.length := by rw [List.length_take]; exact Nat.min_le_right _ _
      omega
    refine lw_test (H0 := H1) (b := f x) o1 hD p' hlen (ht x hm _ σ2 H2' g0 o2' g1 hP) (fun hq => ⟨?_, he x hm hq _ σ2 H2' g0 o2' g1 hP⟩) (fun hq => ?_)
    · rw [take_snoc hx, List.filter_append, List.map_append, List.filter_cons, if_pos hq] <;> rfl
    · rw [take_snoc hx, List.filter_append, List.map_append, List.filter_cons, if_neg (by rw [hq]; decide)]
      show _ ++ [] = _
      rw [List.append_nil]
  · rw [hn, List.take_length] at p
    exact k _ _ (e1.trans p.1) (lw_endN o1 hD (e0.trans (e.trans e1)) p)
theorem er_lc1N {wi : TI} {xs : List α} {j : Nat} {vs : List Nat} (f : α → β) (e0 : Ex G H) (h : Wk R ps wi σ H xs) (hz : xs.length ≤ 40000) (hw : ∀ x, wipe ((wipe σ vs).set j (some x)) vs = wipe σ vs)
    (he : ∀ x ∈ xs, ∀ qs v H1, Ex H H1 → Own qs H1 → Ex (Rm ps H) (Rm qs H1) → R.p x v (Rm qs H1) → EvR S qs te ((wipe σ vs).set j (some v)) H1 (f x)) : EvR (rLN G S) ps (tLc wi (gName j) tYes te vs) σ H (xs.map f) := by
  have g := er_lcGN (S := S) (te := te) (tt := tYes) (P := fun x σ2 G => ∃ v, σ2 = (wipe σ vs).set j (some v) ∧ R.p x v G) f (fun _ => true) e0 h hz (fun qs => bd_name hw) (fun x _ qs σ2 H1 _ _ _ _ => et_yes)
    (fun x hx _ qs σ2 H1 e o ex ⟨v, e2, r⟩ => by rw [e2]; exact he x hx qs v H1 e o ex r)
  rwa [List.filter_eq_self.mpr (fun _ _ => rfl)] at g
theorem er_lc1FN {wi : TI} {xs : List α} {j : Nat} {vs : List Nat} (f : α → β) (q : α → Bool) (e0 : Ex G H) (h : Wk R ps wi σ H xs) (hz : xs.length ≤ 40000) (hw : ∀ x, wipe ((wipe σ vs).set j (some x)) vs = wipe σ vs)
    (ht : ∀ x ∈ xs, ∀ qs v H1, Ex H H1 → Own qs H1 → Ex (Rm ps H) (Rm qs H1) → R.p x v (Rm qs H1) → EtR qs tt ((wipe σ vs).set j (some v)) H1 (q x))
    (he : ∀ x ∈ xs, q x = true → ∀ qs v H1, Ex H H1 → Own qs H1 → Ex (Rm ps H) (Rm qs H1) → R.p x v (Rm qs H1) → EvR S qs te ((wipe σ vs).set j (some v)) H1 (f x)) : EvR (rLN G S) ps (tLc wi (gName j) tt te vs) σ H ((xs.filter q).map f) :=
  er_lcGN (P := fun x σ2 G => ∃ v, σ2 = (wipe σ vs).set j (some v) ∧ R.p x v G) f q e0 h hz (fun qs => bd_name hw) (fun x hx qs σ2 H1 e o ex ⟨v, e2, r⟩ => by rw [e2]; exact ht x hx qs v H1 e o ex r)
    (fun x hx hq qs σ2 H1 e o ex ⟨v, e2, r⟩ => by rw [e2]; exact he x hx hq qs v H1 e o ex r)
theorem er_lc2N {wi : TI} {xs : List (α × β)} {i j : Nat} {vs : List Nat} (f : α × β → γ) (e0 : Ex G H) (h : Wk (rP R S) ps wi σ H xs) (hz : xs.length ≤ 40000) (hw : ∀ x y, wipe (((wipe σ vs).set i (some x)).set j (some y)) vs = wipe σ vs)
    (he : ∀ x ∈ xs, ∀ qs v w H1, Ex H H1 → Own qs H1 → Ex (Rm ps H) (Rm qs H1) → R.p x.1 v (Rm qs H1) → S.p x.2 w (Rm qs H1) → EvR T qs te (((wipe σ vs).set i (some v)).set j (some w)) H1 (f x)) : EvR (rLN G T) ps (tLc wi (gTup K 2 (gCons (gName i) (gCons (gName j) gNil))) tYes te vs) σ H (xs.map f) := by
  have g := er_lcGN (S := T) (te := te) (tt := tYes) (P := fun x σ2 G => ∃ v w, σ2 = ((wipe σ vs).set i (some v)).set j (some w) ∧ R.p x.1 v G ∧ S.p x.2 w G) f (fun _ => true) e0 h hz (fun qs => bd_two (K := K) hw) (fun x _ qs σ2 H1 _ _ _ _ => et_yes)
    (fun x hx _ qs σ2 H1 e o ex ⟨v, w, e2, r, s⟩ => by rw [e2]; exact he x hx qs v w H1 e o ex r s)
  rwa [List.filter_eq_self.mpr (fun _ _ => rfl)] at g
/-- a new tuple -/
theorem er_tupN (e0 : Ex G H) (ha : EvR (rW G R) ps ta σ H a) (hb : EvR (rW G S) ps tb σ H b) : EvR (rW G (rP R S)) ps (tTup (tCons ta (tCons tb tNil))) σ H (a, b) := fun H1 e o Q q =>
  ha H1 e o _ fun v H2 e2 r => hb H2 (e.trans e2) (o.ex e2) _ fun w H3 e3 s => ⟨sz_of (by show 2 ≤ 100000; decide), fun p hp => q _ _ ((e2.trans e3).trans (Ex.new hp))
    ⟨p, v, w, rfl, Nw_get (Rm_get upd_same ((o.ex (e2.trans e3)).nin hp)) (none_of (((e0.trans e).trans e2).trans e3) hp), R.m (Nw_mono (Rm_mono (e3.trans (Ex.new hp)))) r, S.m (Nw_mono (Rm_mono (Ex.new hp))) s⟩⟩
theorem rLS_N {p : Addr} {xs : List Str} (h : H p = some (.lst (xs.map V.str))) (n : G p = none) : (rLN G rS).p xs (.ref p) H := ⟨p, _, rfl, n, h, strs_all _ _⟩
theorem er_sortedSN {xs : List Str} (e0 : Ex G H) (h : EvR (rL rS) ps te σ H xs) (hz : xs.length < 64) : EvR (rLN G rS) ps (tCB (rSortedS K) (tCons te tNil)) σ H (srtS xs) := er_cb1 h fun v H1 e o rv Q q => by
  obtain ⟨p, rfl, hp⟩ := rLS_at rv
  exact (el_sortedS (te := tC (.ref p)) (σ := σ) (H := H1) ev_c (sq_of (Rm_ex _ _ hp)) hz) H1 (Ex.refl _) Q fun l H2 hl e2 h2 => q _ H2 e2 (rLS_N (Rm_get h2 (o.nin hl)) (none_of (e0.trans e) hl))
theorem er_flatN {i j : Nat} {vs vs1 : List Nat} {ls : List (List Str)} (e0 : Ex G H) (h : EvR (rL (rL rS)) ps tl σ H ls) (hz : many ls ≤ 1000) (hij : j ≠ i) (hw : ∀ x, wipe ((wipe σ vs).set i (some x)) vs = wipe σ vs)
    (hi : ∀ x, ((wipe σ vs).set i (some x))[i]? = some (some x)) (hw1 : ∀ x y, wipe ((wipe ((wipe σ vs).set i (some x)) vs1).set j (some y)) vs1 = wipe ((wipe σ vs).set i (some x)) vs1)
    (hj : ∀ x y, ((wipe ((wipe σ vs).set i (some x)) vs1).set j (some y))[j]? = some (some y)) :
    EvR (rLN G rS) ps (tLc2 (iList K tl) (gName i) tYes (iList K (tVar i)) (gName j) tYes (tVar j) vs vs1) σ H ls.flatten := fun H0 e o Q q => h H0 e o _ fun v H1 e1 rv => by
  obtain ⟨p, rfl, hp⟩ := lvL_of (K := K) rv
  have hp' : LvL K H1 p ls := hp.ex Rm_ex
  exact (el_flat (tl := tC (.ref p)) (σ := σ) (H := H1) ev_c hp' hz hij hw hi hw1 hj) H1 (Ex.refl _) Q fun l H2 hl e2 h2 => q _ H2 (e1.trans e2) (rLS_N (Rm_get h2 ((o.ex e1).nin hl)) (none_of ((e0.trans e).trans e1) hl))
theorem er_sortedTG {S : Rp (Str × Str)} (hS : ∀ e v H, S.p e v H → rE.p e v H) {es : List (Str × Str)} (e0 : Ex G H) (h : EvR (rL S) ps te σ H es) : EvR (rLN G S) ps (tCB (rSortedT2 K) (tCons te tNil)) σ H (srtT es) := er_cb1 h fun v H1 e o rv Q q => by
  obtain ⟨p, rows, rfl, hp, hu⟩ := rv
  have hu1 : All2 (fun x y => rE.p x y (Rm ps H1)) es rows := hu.imp fun _ _ r => hS _ _ _ r
  have item : ∀ x ∈ rows, ∃ e ∈ es, S.p e x (Rm ps H1) := fun x hx => by
    obtain ⟨i, hi⟩ := List.mem_iff_getElem?.mp hx
    obtain ⟨e, he, hr⟩ := hu.getv hi
    exact ⟨e, List.mem_of_getElem? he, hr⟩
  have pr : ∀ {e : Str × Str} {x : V}, rE.p e x (Rm ps H1) → pairOf H1 x = e := fun {e x} hr => pairOf_rE Rm_ex hr
  have hm : rows.map (pairOf H1) = es := pairs_map Rm_ex hu1
  refine ⟨p, rows, pairOf H1, rfl, sq_of (Rm_ex _ _ hp), fun x hx => ?_, fun ys l hs hy hn => ?_⟩
  · obtain ⟨e, he, hr⟩ := item x hx
    have hr := hS _ _ _ hr
    have hpe := pr hr
    obtain ⟨t, y, z, rfl, ht, hy, hz⟩ := hr
    obtain rfl : y = .str e.1 := hy
    obtain rfl : z = .str e.2 := hz
    exact ⟨t, rfl, by rw [hpe]; exact Rm_ex _ _ ht⟩
  · have hys : ys.map (pairOf H1) = srtT es := by
      refine srtT_of ?_ ?_
      · rw [← hm]
        exact hy.map _
      · refine List.pairwise_map.mpr (List.Pairwise.imp (fun {x y} h => ?_) hs)
        have h' : XS.ltT (pairOf H1 y) (pairOf H1 x) = false := h
        rw [h']
        rfl
    refine q _ _ (Ex.new hn) ⟨l, ys, rfl, none_of (e0.trans e) hn, Rm_get upd_same (o.nin hn), ?_⟩
    rw [← hys]
    refine All2.maps fun x hx => ?_
    obtain ⟨e, he, hr⟩ := item x (hy.mem_iff.mp hx)
    rw [pr (hS _ _ _ hr)]
    exact S.m (Rm_mono (Ex.new hn)) hr
theorem er_sortedTN {es : List (Str × Str)} (e0 : Ex G H) (h : EvR (rL (rW G rE)) ps te σ H es) : EvR (rLN G (rW G rE)) ps (tCB (rSortedT2 K) (tCons te tNil)) σ H (srtT es) := er_sortedTG (fun _ _ _ r => rW_r r) e0 h
theorem er_sortedTL {es : List (Str × Str)} (e0 : Ex G H) (h : EvR (rL rE) ps te σ H es) : EvR (rLN G rE) ps (tCB (rSortedT2 K) (tCons te tNil)) σ H (srtT es) := er_sortedTG (fun _ _ _ r => r) e0 h
/-- new things beside more own things -/
theorem Rm_grow {qs : List Addr} (e : Ex H H') (h : ∀ q ∈ qs, H q = none) : Ex (Rm ps H) (Rm (qs ++ ps) H') := fun b u hb => Rm_get (e _ _ (Rm_ex _ _ hb)) fun m => by
  rcases List.mem_append.mp m with m | m
  · have := Rm_ex _ _ hb
    rw [h b m] at this
    cases this
  · rw [Rm_own m] at hb
    cases hb
end
end RP
set_option Elab.async false
set_option linter.all false
set_option maxRecDepth 100000
set_option maxHeartbeats 4000000
/-! data of any kind, as what values stand for -/
namespace RP
open PySem PySem.Spec PyProof.Rows L2 Evl Gen
mutual
inductive Dv (H : Hp) : V → PyData → Prop
  | non : Dv H .non .none
  | bl (b : Bool) : Dv H (.bl b) (.bool b)
  | int (i : Int) : Dv H (.int i) (.int i)
  | str (x : Str) : Dv H (.str x) (.str x)
  | lst {a : Addr} {xs : List V} {ds : List PyData} : H a = some (.lst xs) → DvAll H xs ds → Dv H (.ref a) (.list ds)
  | tup {a : Addr} {xs : List V} {ds : List PyData} : H a = some (.tup xs) → DvAll H xs ds → Dv H (.ref a) (.tuple ds)
  | dic {a : Addr} : H a = some (.dK []) → Dv H (.ref a) (.dict [])
inductive DvAll (H : Hp) : List V → List PyData → Prop
  | nil : DvAll H [] []
  | cons {v : V} {vs : List V} {d : PyData} {ds : List PyData} : Dv H v d → DvAll H vs ds → DvAll H (v :: vs) (d :: ds)
end
mutual
theorem Dv.ex {H H' : Hp} (e : Ex H H') : ∀ {v : V} {d : PyData}, Dv H v d → Dv H' v d
  | _, _, .non => .non
  | _, _, .bl b => .bl b
  | _, _, .int i => .int i
  | _, _, .str x => .str x
  | _, _, .lst h1 h2 => .lst (e _ _ h1) (DvAll.ex e h2)
  | _, _, .tup h1 h2 => .tup (e _ _ h1) (DvAll.ex e h2)
  | _, _, .dic h1 => .dic (e _ _ h1)
theorem DvAll.ex {H H' : Hp} (e : Ex H H') : ∀ {vs : List V} {ds : List PyData}, DvAll H vs ds → DvAll H' vs ds
  | _, _, .nil => .nil
  | _, _, .cons h1 h2 => .cons (Dv.ex e h1) (DvAll.ex e h2)
end
mutual
theorem Dv.dq {K : PySem.W.Frag} {H : Hp} : ∀ {v : V} {d : PyData}, Dv H v d → Dq K H v d
  | _, _, .non => .non
  | _, _, .bl b => .bl b
  | _, _, .int i => .int i
  | _, _, .str x => .str x
  | _, _, .lst h1 h2 => .lst (sq_of h1) (DvAll.dq h2)
  | _, _, .tup h1 h2 => .tup (st_of h1) (DvAll.dq h2)
  | _, _, .dic h1 => .dic h1 rfl .nil
theorem DvAll.dq {K : PySem.W.Frag} {H : Hp} : ∀ {vs : List V} {ds : List PyData}, DvAll H vs ds → DqAll K H vs ds
  | _, _, .nil => .nil
  | _, _, .cons h1 h2 => .cons (Dv.dq h1) (DvAll.dq h2)
end
theorem Dv.ky {H : Hp} {v : V} {d : PyData} (h : Dv H v d) : ∃ t, Ky H v t := by
  cases h with
  | non => exact ⟨_, .non⟩
  | bl b => exact ⟨_, .bl b⟩
  | int i => exact ⟨_, .int i⟩
  | str x => exact ⟨_, .str x⟩
  | lst h _ => exact ⟨_, .lst h⟩
  | tup h _ => exact ⟨_, .tup h⟩
  | dic h => exact ⟨_, .dic h⟩
theorem DvAll.of {H : Hp} {ds : List PyData} {vs : List V} (h : All2 (fun d v => Dv H v d) ds vs) : DvAll H vs ds := by
  induction ds generalizing vs with
  | nil => cases vs with
    | nil => exact .nil
    | cons _ _ => exact h.elim
  | cons d r ih => cases vs with
    | nil => exact h.elim
    | cons v s => exact .cons h.1 (ih h.2)
theorem DvAll.all {H : Hp} {ds : List PyData} {vs : List V} (h : DvAll H vs ds) : All2 (fun d v => Dv H v d) ds vs := by
  induction ds generalizing vs with
  | nil => cases h; trivial
  | cons d r ih => cases h with | cons h1 h2 => exact ⟨h1, ih h2⟩
def rDv : Rp PyData := ⟨fun d v H => Dv H v d, fun e h => h.ex e⟩
/-- a rep that is data -/
structure As {α : Type} (R : Rp α) (f : α → PyData) : Prop where
  to : ∀ {a v H}, R.p a v H → Dv H v (f a)
section
variable {α β : Type} {R : Rp α} {S : Rp β} {f : α → PyData} {g : β → PyData} {K : PySem.W.Frag} {ps : List Addr} {σ : L2.St} {H : Hp} {te : TE} {a : α} {d : PyData} {n : Nat}
theorem asS : As rS PyData.str := ⟨fun h => by cases h; exact .str _⟩
theorem asN : As rN (fun n : Nat => PyData.int (n : Int)) := ⟨fun h => by cases h; exact .int _⟩
theorem asI : As rI PyData.int := ⟨fun h => by cases h; exact .int _⟩
theorem asB : As rB PyData.bool := ⟨fun h => by cases h; exact .bl _⟩
theorem asD : As rDv id := ⟨fun h => h⟩
theorem all_as (h : As R f) : ∀ {as : List α} {vs : List V} {H : Hp}, All2 (fun x y => R.p x y H) as vs → DvAll H vs (as.map f)
  | [], [], _, _ => .nil
  | _ :: _, _ :: _, _, q => .cons (h.to q.1) (all_as h q.2)
  | [], _ :: _, _, q => q.elim
  | _ :: _, [], _, q => q.elim
theorem asL (h : As R f) : As (rL R) (fun as => PyData.list (as.map f)) := ⟨fun ⟨a, vs, h1, h2, h3⟩ => by subst h1; exact .lst h2 (all_as h h3)⟩
theorem asP (h : As R f) (k : As S g) : As (rP R S) (fun x => PyData.tuple [f x.1, g x.2]) := ⟨fun ⟨a, y, z, h1, h2, h3, h4⟩ => by subst h1; exact .tup h2 (.cons (h.to h3) (.cons (k.to h4) .nil))⟩
theorem asE : As rE (fun e => PyData.tuple [.str e.1, .str e.2]) := asP asS asS
theorem er_dv (h : EvR R ps te σ H a) (k : As R f) : EvR rDv ps te σ H (f a) := er_impG h fun _ _ r => k.to r
theorem er_dvL {as : List α} (h : EvR (rL R) ps te σ H as) (k : As R f) : EvR (rL rDv) ps te σ H (as.map f) := er_impG h fun v H1 ⟨a, vs, h1, h2, h3⟩ => ⟨a, vs, h1, h2, (all_as k h3).all⟩
/-- [e, ..], told as data -/
theorem er_lstD {ds : List PyData} {tr : TA} (h : EaR rDv ps tr σ H ds) (hl : ds.length ≤ 100000) : EvR rDv ps (tLst tr) σ H (.list ds) := er_impG (er_lst h hl) fun v H1 ⟨a, vs, h1, h2, h3⟩ => by subst h1; exact .lst h2 (.of h3)
/-- repr of data -/
theorem er_reprD (h : EvR rDv ps te σ H d) (h1 : d.showable = true) (h2 : d.depth ≤ 40) (h3 : d.shown.length ≤ sizeLine) : EvR rS ps (tCB (rRepr K) (tCons te tNil)) σ H d.shown := er_cb1 h fun v H1 e o r Q q =>
  ⟨v, d, rfl, dq_ex Rm_ex (Dv.dq r), h1, h2, h3, q _ H1 (Ex.refl _) rfl⟩
end
end RP
set_option Elab.async false
set_option linter.all false
set_option maxRecDepth 100000
set_option maxHeartbeats 4000000
/-! tuple(xs), any(..), more of lists -/
namespace RP
open PySem PySem.Spec PyProof.Rows L2 Evl Gen
def Rel2 {α β : Type} (E : α → β → Prop) : List α → List β → Prop
  | [], [] => True
  | x :: xs, b :: bs => E x b ∧ Rel2 E xs bs
  | _, _ => False
theorem Rel2.snoc {α β : Type} {E : α → β → Prop} {x : α} {b : β} (h : E x b) : ∀ {xs : List α} {bs : List β}, Rel2 E xs bs → Rel2 E (xs ++ [x]) (bs ++ [b])
  | [], [], _ => ⟨h, trivial⟩
  | _ :: _, _ :: _, q => ⟨q.1, Rel2.snoc h q.2⟩
  | [], _ :: _, q => q.elim
  | _ :: _, [], q => q.elim
theorem Rel2.len {α β : Type} {E : α → β → Prop} : ∀ {xs : List α} {bs : List β}, Rel2 E xs bs → bs.length = xs.length
  | [], [], _ => rfl
  | _ :: _, _ :: _, q => congrArg Nat.succ (Rel2.len q.2)
  | [], _ :: _, q => q.elim
  | _ :: _, [], q => q.elim
theorem pe_tupleOfK {X : Cx} {K : PySem.W.Frag} {a : Expr} {p pos : Pos} {ta : TE} (hK : X.K = K) (ha : PE X a ta) (hg : Gl X "tuple") (hm : X.mg "tuple" = none) (na : starEach [a] X.env = (false, eval a X.env) :: starEach [] X.env := by rfl) : PE X (.Call (.Name "tuple" p) [a] [] pos) (tThen ta (kTup K)) := hK ▸ pe_tupleOf hg hm ha na
section
variable {α β γ : Type} {R : Rp α} {S : Rp β} {K : PySem.W.Frag} {ps : List Addr} {σ : L2.St} {H : Hp} {ta te : TE} {a : α}
theorem kTup_of {as : List α} {v : V} {Q : VK} (o : Own ps H) (r : (rL R).p as v (Rm ps H)) (q : ∀ w H1, Ex H H1 → (rQ K R).p as w (Rm ps H1) → Q w H1) : kTup K v H Q := by
  obtain ⟨p, vs, rfl, h1, h2⟩ := r
  exact .inl ⟨p, vs, rfl, sq_of (Rm_ex _ _ h1), fun t ht => q _ _ (Ex.new ht) ⟨t, vs, rfl, .inr (st_of (Rm_get upd_same (o.nin ht))), h2.imp fun _ _ r => R.m (Rm_mono (Ex.new ht)) r⟩⟩
theorem er_tupleOf {as : List α} (h : EvR (rL R) ps te σ H as) : EvR (rQ K R) ps (tThen te (kTup K)) σ H as := fun H1 e o Q q => h H1 e o _ fun v H2 e2 r => kTup_of (o.ex e2) r fun w H3 e3 r3 => q w H3 (e2.trans e3) r3
theorem er_any {bs : List Bool} (h : EvR (rL rB) ps te σ H bs) : EvR rB ps (tCB (rAny K) (tCons te tNil)) σ H (bs.any id) := er_cb1 h fun v H1 e o rv Q q => by
  obtain ⟨b, vs, rfl, hb, hu⟩ := rv
  have e1 : vs = bs.map V.bl := (hu.imp fun _ _ z => z).eq
  subst e1
  exact ⟨b, bs, rfl, sq_of (Rm_ex _ _ hb), q _ H1 (Ex.refl _) rfl⟩
end
end RP
set_option Elab.async false
set_option linter.all false
set_option maxRecDepth 100000
set_option maxHeartbeats 4000000
/-! methods and classes called by keywords alone; xs[::k] -/
namespace L2
open PySem PySem.Spec PyProof.Rows
theorem Vals.same_len {vs : List V} {us : List Value} (r : Vals vs us) : vs.length = us.length := r.length
theorem vals_app {vs zs : List V} {us ws : List Value} (r : Vals vs us) (q : Vals zs ws) : Vals (vs ++ zs) (us ++ ws) := r.append q
section
variable {K : PySem.W.Frag} {x qual : Str} {st : Stmt} {f : Addr} {fd : FuncData} {ps ks : List Str} {n : Nat}
theorem Fun.kbn (F : Fun K x qual st f fd) (h : ∀ (kV doc pm : Value) (an : Option Addr) (cdv ct : Value) (us ws : List Value), us.length = n → ws.length = ks.length →
    bindArgs (PySem.W.fnOf x qual (defArgs st) (defBody st) (defScope st) .none kV doc pm an cdv ct) ⟨us, ks.zip ws⟩ = pure (ps.zip (us ++ ws))) : KBn K fd ps n ks (fun us ws => us ++ ws) (fun vs zs => vs ++ zs) := by
  obtain ⟨oc, od, kV, doc, pm, an, cdv, ct, osl, rfl, lk, hcd⟩ := F.ex
  exact ⟨fun s us ws X l1 l2 => .of_eq (h kV doc pm an cdv ct us ws l1 l2), fun r q => vals_app r q⟩
end
def tMethK (C : Addr) (m : Str) (n : Nat) (sp : Sp) (gV : List V → List V → List V) (E : XK) (ta : TE) (tk : TA) : TE := fun σ H Q => ta σ H fun x H1 => ∃ a dx fs, x = .ref a ∧ H1 a = some (.ins C dx fs) ∧ fs.lookup m = none ∧
  tk σ H1 fun zs H2 => zs.length = n ∧ sp (gV [x] zs) H2 Q E
/-- C(k = v, ..), nothing by position -/
def tMakeK (C : Addr) (n : Nat) (sp : Sp) (gV : List V → List V → List V) (E : XK) (tk : TA) : TE := fun σ H Q => tk σ H fun zs H2 => zs.length = n ∧
  ∀ x dx, H2 x = none → H2 dx = none → dx ≠ x → sp (gV [.ref x] zs) (upd (upd H2 dx (.own x)) x (.ins C dx [])) (fun v H3 => v = .non ∧ Q (.ref x) H3) E
section
variable {X : Cx} {CX : CXT} {k : Nat} {f C : Addr} {fd : FuncData} {ps ks : List Str} {sp : Sp} {E : XK} {x m : Str} {p pos apos : Pos} {e o : Expr} {es : List Expr} {kws : List Keyword} {te ta : TE} {t tk : TA} {g : List Value → List Value → List Value} {gV : List V → List V → List V}
/-- o.m(k = v, ..) -/
theorem pe_methK {pl : Sem Bool} (he : PE X o ta) (c : Cls X.K C) (hm : Meth X.K C m f) (F : FnOk X.prog X.w X.K X.mg X.base CX k f fd ps sp) (hr : Room k X.A) (hb : KBn X.K fd ps 1 ks g gV) (hx : Passes CX X E)
    (hkw : PK X kws tk) (hall : (backToKw pos (keywordEach kws X.env)).all (·.1.isSome) = true := by rfl) (hks : (backToKw pos (keywordEach kws X.env)).filterMap (·.1) = ks := by rfl)
    (hpl : ((backTo pos (starEach [] X.env)).any (·.1) || (backToKw pos (keywordEach kws X.env)).any (·.1.isNone)) = false := by rfl)
    (ht : eval (.Call (.Attribute o m apos) [] kws pos) X.env = (do
      let ov ← eval o X.env
      standAt apos.atName
      let (f, first) ← holding [ov] (getMethod ov m pl)
      callWith pos f first (backTo pos (starEach [] X.env)) (backToKw pos (keywordEach kws X.env))) := by rfl) :
    PE X (.Call (.Attribute o m apos) [] kws pos) (tMethK C m ks.length sp gV E ta tk) := by
  refine ⟨fun pins s σ H Q I h => ?_⟩
  refine PySem.W.methodCall_KW (pl := pl) (thn (he.run pins s σ H _ I h) fun u s1 ⟨x, H1, I1, rx, a, dx, fs, ex, ea, l, q⟩ => ?_) ht
  subst ex
  obtain rfl : u = Value.ref a := rx
  refine getmeth_ok I1 ea c hm l ?_
  refine PySem.W.callWith_KW0 (first := [.ref a]) (h₀ := X.base) I.ok.mod.kin hm.kp hall (thn (hkw.run pos pins s1 σ H1 _ I1 q) fun ws s2 ⟨zs, H2, I2, rz, l2, q2⟩ => ⟨I2.kIn, ?_⟩) hpl
  rw [hks]
  exact run_fnN (us := [.ref a]) (vs := [.ref a]) F hr hb hx I2 (.cons rfl .nil) rz rfl l2 q2
theorem pe_makeK (M : Mk X.K C f) (F : FnOk X.prog X.w X.K X.mg X.base CX k f fd ps sp) (hr : Room (k + 1) X.A) (hg : Gl X x) (hm : X.mg x = some (.ref C)) (hb : KBn X.K fd ps 1 ks g gV) (hx : Passes CX X E)
    (hkw : PK X kws tk) (hall : (backToKw pos (keywordEach kws X.env)).all (·.1.isSome) = true := by rfl) (hks : (backToKw pos (keywordEach kws X.env)).filterMap (·.1) = ks := by rfl)
    (hdb : (x == ("__debug__" : Str)) = false := by decide)
    (hpl : ((backTo pos (starEach [] X.env)).any (·.1) || (backToKw pos (keywordEach kws X.env)).any (·.1.isNone)) = false := by rfl) :
    PE X (.Call (.Name x p) [] kws pos) (tMakeK C ks.length sp gV E tk) := by
  refine ⟨fun pins s σ H Q I h => ?_⟩
  refine wpAny_Call_Name_kw (ld_glob I hg hm ?_ hdb)
  refine PySem.W.callWith_KW0 (h₀ := X.base) I.ok.mod.kin M.kp hall (thn (hkw.run pos pins s σ H _ I h) fun ws s2 ⟨zs, H2, I2, rz, l2, q2⟩ => ⟨I2.kIn, ?_⟩) hpl
  rw [hks]
  exact run_makeN (n := 0) (us := []) (vs := []) M F hr hb hx I2 .nil rz rfl l2 q2
end
/-! ### xs[::k] -/
def stepV {α : Type} (xs : List α) (k : Nat) : List α := (sliceRange 0 xs.length k).filterMap (xs[·]?)
theorem vals_at {vs : List V} {us : List Value} (r : Vals vs us) (i : Nat) : (vs[i]? = none ∧ us[i]? = none) ∨ ∃ v u, vs[i]? = some v ∧ us[i]? = some u ∧ RelV v u := by
  induction r generalizing i with
  | nil => exact .inl ⟨rfl, rfl⟩
  | cons h t ih => cases i with
    | zero => exact .inr ⟨_, _, rfl, rfl, h⟩
    | succ i => exact ih i
theorem vals_step {vs : List V} {us : List Value} (r : Vals vs us) : ∀ is : List Nat, Vals (is.filterMap (vs[·]?)) (is.filterMap (us[·]?))
  | [] => .nil
  | i :: is => by
    rcases vals_at r i with ⟨h1, h2⟩ | ⟨v, u, h1, h2, h3⟩
    · rw [List.filterMap_cons_none h1, List.filterMap_cons_none h2]
      exact vals_step r is
    · rw [List.filterMap_cons_some h1, List.filterMap_cons_some h2]
      exact .cons h3 (vals_step r is)
theorem step_len {α : Type} {xs : List α} {k : Nat} (hk : 0 < k) : (stepV xs k).length ≤ xs.length := by
  refine Nat.le_trans (List.length_filterMap_le _ _) ?_
  exact sliceRange_length_le 0 xs.length k xs.length (fun _ => ⟨Int.le_refl _, Int.le_refl _⟩) (fun h => absurd (by omega : (k : Int) > 0) h)
def tStepL (K : PySem.W.Frag) (te ts : TE) : TE := fun σ H Q => te σ H fun x H1 => tPart ts σ H1 fun o H2 => ∃ (a : Addr) (xs : List V) (k : Nat), x = .ref a ∧ o = some (k : Int) ∧ 0 < k ∧ SqL K H2 a xs ∧ ∀ p, H2 p = none → Q (.ref p) (upd H2 p (.lst (stepV xs k)))
theorem pick_step {its : List Value} {k : Nat} (hk : 0 < k) : slicePick its.toArray none none (some (k : Int)) = (stepV its k).toArray := by
  unfold slicePick stepV
  have e : sliceBounds none none (some (k : Int)) its.toArray.size = (0, ((its.toArray.size : Nat) : Int), (k : Int)) := by
    unfold sliceBounds
    have h : ((some (k : Int)).getD 1 : Int) > 0 := by show (k : Int) > 0; omega
    simp only [h, if_true]
    rfl
  rw [e]
  simp
theorem pe_stepL {X : Cx} {e es : Expr} {te ts : TE} {p3 pos : Pos} (he : PE X e te) (hs : PE X es ts) : PE X (.Subscript e (.Slice none none (some es) p3) pos) (tStepL X.K te ts) := by
  refine ⟨fun pins s σ H Q I h => ?_⟩
  refine Subscript_ (thn (he.run pins s σ H _ I h) fun v s1 ⟨x, H1, I1, r1, q1⟩ => ?_)
  refine wpAny_Slice (thn (po_none.run pins s1 σ H1 (fun o H2 => o = none ∧ H2 = H1) I1 ⟨rfl, rfl⟩) fun vl s2 ⟨l, H2, I2, pl, el, e2⟩ => ?_)
  subst el e2
  refine thn (po_none.run pins s2 σ H2 (fun o H3 => o = none ∧ H3 = H2) I2 ⟨rfl, rfl⟩) fun vu s3 ⟨u, H3, I3, pu, eu, e3⟩ => ?_
  subst eu e3
  refine thn ((po_some hs).run pins s3 σ H3 _ I3 q1) fun vs s4 ⟨o, H4, I4, ps, a, xs, k, ex, eo, hk, hx, q⟩ => ?_
  subst ex eo
  cases r1
  have I5 : Inv X pins σ H4 { s4 with heap := s4.heap.push { cls := .type "slice", data := .fields #[vl, vu, vs] } } := I4.kept (t' := s4.toks) fun b ob q => Heap.get?_push_of_some _ q
  obtain ⟨its, r, ht, hz⟩ := I5.list hx
  have hlen := r.length
  show wpAny (model X.prog X.w) X.A (subscriptTail e (.Slice none none (some es) p3) (.ref a) (.ref s4.heap.objs.size)) (EP X pins σ Q) X.xe { s4 with heap := s4.heap.push { cls := .type "slice", data := .fields #[vl, vu, vs] } }
  refine tail_any (ops := [.ref a, .ref s4.heap.objs.size]) ht.isList.typeIs (PySem.slot_list_getitem.lookup) ?_ (by with_unfolding_all rfl)
  refine wpAny_getItem_list_slice ht.isList (Heap.IsSliceOf.new _ vl vu vs) pl pu ps (by intro z; injection z with z; omega) ?_ (by rw [List.size_toArray]; omega)
  rw [pick_step hk]
  have hl2 : its.length = xs.length := hlen.symm
  have hv : Vals (stepV xs k) (stepV its k) := by
    unfold stepV
    rw [hl2]
    exact vals_step r _
  refine ⟨.ref _, _, I5.laid (t' := s4.toks) (o := .lst (stepV xs k)) (fun b ob q => Heap.get?_push_of_some _ q) (Nat.le_refl _) ?_, rfl, q _ (I5.hok.fresh (Nat.le_refl _))⟩
  exact ⟨Nat.le_trans (step_len hk) hz, _, 0, hv, Heap.get?_push_size _ rfl⟩
end L2
set_option Elab.async false
set_option linter.all false
set_option maxRecDepth 100000
set_option maxHeartbeats 4000000
/-! xs[::k], x not in xs by data, tuples and dicts as data, a for that breaks at once -/
namespace RP
open PySem PySem.Spec PyProof.Rows L2 Evl Gen
section
variable {α β γ : Type} {R : Rp α} {S : Rp β} {K : PySem.W.Frag} {ps : List Addr} {σ : L2.St} {H : Hp} {ta tb te tl ts : TE} {tr : TA} {a : α}
theorem all2_step {P : α → V → Prop} {as : List α} {vs : List V} (h : All2 P as vs) : ∀ is : List Nat, All2 P (is.filterMap (as[·]?)) (is.filterMap (vs[·]?))
  | [] => trivial
  | i :: is => by
    cases e : as[i]? with
    | none =>
      have e2 : vs[i]? = none := by
        rw [List.getElem?_eq_none_iff] at e ⊢
        rw [← h.len]
        exact e
      rw [List.filterMap_cons_none e, List.filterMap_cons_none e2]
      exact all2_step h is
    | some a =>
      obtain ⟨v, hv, hp⟩ := h.get e
      rw [List.filterMap_cons_some e, List.filterMap_cons_some hv]
      exact ⟨hp, all2_step h is⟩
theorem er_stepL {as : List α} {k : Nat} (h : EvR (rL R) ps te σ H as) (h2 : EvR rI ps ts σ H (k : Int)) (hk : 0 < k) : EvR (rL R) ps (tStepL K te ts) σ H (stepV as k) := fun H0 e o Q q => h H0 e o _ fun v H1 e1 r => h2 H1 (e.trans e1) (o.ex e1) _ fun w H2 e2 r2 => by
  obtain ⟨p, vs, rfl, hp, hall⟩ := (rL R).m (Rm_mono e2) r
  obtain rfl : w = .int (k : Int) := r2
  refine ⟨(k : Int), rfl, p, vs, k, rfl, rfl, hk, sq_of (Rm_ex _ _ hp), fun l hl => q _ _ ((e1.trans e2).trans (Ex.new hl)) ⟨l, _, rfl, Rm_get upd_same ((o.ex (e1.trans e2)).nin hl), ?_⟩⟩
  have hlen := hall.len
  unfold stepV
  rw [← hlen]
  exact (all2_step hall _).imp fun _ _ r => R.m (Rm_mono (Ex.new hl)) r
theorem er_notInD [DecidableEq α] {d : α → PyData} {ok : α → Prop} {n : Nat} {x : α} {xs : List α} (D : Dt K R d ok n) (hn : n ≤ 50) (h1 : EvR R ps ta σ H x) (h2 : EvR (rL R) ps tb σ H xs) (o1 : ok x) (o2 : ∀ a ∈ xs, ok a) : EvR rB ps (tOp (rNotInD K) ta tb) σ H (!decide (x ∈ xs)) := er_op h1 h2 fun v w H1 e o rv rw' Q q => by
  have D2 := dtL D
  have s1 : SeqAt.shaped (d x) = true := dt_shaped D (by omega) o1
  have s2 : SeqAt.shaped (.list (xs.map d)) = true := dt_shaped (d := fun as : List α => PyData.list (as.map d)) (ok := fun as => ∀ a ∈ as, ok a) (n := n + 1) D2 (by omega) o2
  refine ⟨d x, xs.map d, dp_ex Rm_ex (D.of rv), dp_ex Rm_ex (D2.of rw'), s1, s2, ?_⟩
  have e1 : ((xs.map d).any fun z => PyData.eqv z (d x)) = decide (x ∈ xs) := by
    rw [Bool.eq_iff_iff, List.any_eq_true, decide_eq_true_eq]
    constructor
    · rintro ⟨z, hz, hq⟩
      obtain ⟨y, hy, rfl⟩ := List.mem_map.mp hz
      rw [← (D.inj (o2 y hy) o1).mp hq]
      exact hy
    · intro hx
      exact ⟨d x, List.mem_map.mpr ⟨x, hx, rfl⟩, (D.inj o1 o1).mpr rfl⟩
  rw [e1]
  exact q _ H1 (Ex.refl _) rfl
theorem er_tupD {ds : List PyData} (h : EaR rDv ps tr σ H ds) (hl : ds.length ≤ 100000) : EvR rDv ps (tTup tr) σ H (.tuple ds) := fun H1 e o Q q =>
  h H1 e o _ fun vs H2 e2 rs => ⟨sz_of (by rw [← rs.len]; exact hl), fun p hp => q _ _ (e2.trans (Ex.new hp)) (.tup (Rm_get upd_same ((o.ex e2).nin hp)) (.of (rs.imp fun _ _ r => rDv.m (Rm_mono (Ex.new hp)) r)))⟩
theorem er_dicD : EvR rDv ps tDNewK σ H (.dict []) := fun H1 e o Q q p hp => q _ _ (Ex.new hp) (.dic (Rm_get upd_same (o.nin hp)))
theorem er_nonD : EvR rDv ps (tC .non) σ H .none := er_of ev_c .non
theorem er_intD {i : Int} : EvR rDv ps (tC (.int i)) σ H (.int i) := er_of ev_c (.int i)
theorem er_blD {b : Bool} : EvR rDv ps (tC (.bl b)) σ H (.bool b) := er_of ev_c (.bl b)
theorem er_strD {x : Str} : EvR rDv ps (tC (.str x)) σ H (.str x) := er_of ev_c (.str x)
theorem rE_q {e : Str × Str} {v : V} (h : rE.p e v H) : (rQ K rS).p [e.1, e.2] v H := by
  obtain ⟨a, y, z, rfl, h1, h2, h3⟩ := h
  exact ⟨a, [y, z], rfl, .inr (st_of h1), h2, h3, trivial⟩
theorem q_forBrk {wi : TI} {xs : List α} {j : Nat} {D : Ends} {tz : TS} (o : Own ps H) (h : Wk R ps wi σ H xs) (hj : j < σ.length) (k : ∀ x H1, Ex H H1 → tz D (σ.set j x) H1) : tSeq (tFor wi (gName j) tBreak) tz D σ H :=
  h H (Ex.refl _) o _ fun J n G Y H1 e1 hn wk hG hY => by
    refine for_it wk (fun i σ' H' => σ' = σ ∧ Ex H H' ∧ Ex H1 H') ⟨rfl, e1, Ex.refl _⟩ (fun i σ' H' _ p => hG H' (Rm_ex.trans p.2.2)) (fun i u σ' H2 H3 hi p y => ?_) (fun σ' H' p => ?_)
    · obtain ⟨rfl, e2, e3⟩ := p
      obtain ⟨e4, _⟩ := hY i H2 u H3 ps hi (o.ex e2) (Rm_mono e3) y
      exact k _ H3 (e2.trans e4)
    · obtain ⟨rfl, e2, e3⟩ := p
      have := k σ'[j] H' e2
      rw [List.set_getElem_self] at this
      exact this
end
end RP
set_option Elab.async false
set_option linter.all false
set_option maxRecDepth 100000
set_option maxHeartbeats 4000000
/-! data of mixed kinds, compared -/
namespace RP
open PySem PySem.Spec PyProof.Rows L2 Evl Gen
mutual
theorem Dv.dp {K : PySem.W.Frag} {H : Hp} : ∀ {v : V} {d : PyData}, Dv H v d → d.canLay0 = true → Dp K H v d
  | _, _, .non, _ => .non
  | _, _, .bl b, _ => .bl b
  | _, _, .int i, _ => .int i
  | _, _, .str x, _ => .str x
  | _, _, .lst h1 h2, c => .lst (sq_of h1) (DvAll.dp h2 (by simpa [PyData.canLay0] using c))
  | _, _, .tup h1 h2, c => .tup (st_of h1) (DvAll.dp h2 (by simpa [PyData.canLay0] using c))
  | _, _, .dic _, c => by simp [PyData.canLay0] at c
theorem DvAll.dp {K : PySem.W.Frag} {H : Hp} : ∀ {vs : List V} {ds : List PyData}, DvAll H vs ds → PyData.canLayAll0 ds = true → DpAll K H vs ds
  | _, _, .nil, _ => .nil
  | _, _, .cons h1 h2, c => by
    have c2 := Bool.and_eq_true_iff.mp (by simpa [PyData.canLayAll0] using c : (_ && _) = true)
    exact .cons (Dv.dp h1 c2.1) (DvAll.dp h2 c2.2)
end
/-- what may be compared: no dict in it, not too deep -/
structure Ly (n : Nat) (d : PyData) : Prop where
  lay : d.canLay0 = true
  dep : d.depth ≤ n
theorem Ly.sh {n : Nat} {d : PyData} (h : Ly n d) (hn : n ≤ 60) : SeqAt.shaped d = true := by
  unfold SeqAt.shaped
  rw [h.lay, Bool.true_and]
  exact decide_eq_true (Nat.le_trans h.dep (by omega))
theorem Ly.mono {n m : Nat} {d : PyData} (h : Ly n d) (k : n ≤ m) : Ly m d := ⟨h.lay, Nat.le_trans h.dep k⟩
theorem ly_all {n : Nat} : ∀ {ds : List PyData}, (∀ d ∈ ds, Ly n d) → PyData.canLayAll0 ds = true ∧ PyData.depthAll ds ≤ n
  | [], _ => ⟨rfl, Nat.zero_le _⟩
  | d :: r, h => by
    have h1 := h d (List.mem_cons_self ..)
    have h2 := ly_all fun e he => h e (List.mem_cons_of_mem _ he)
    refine ⟨?_, ?_⟩
    · unfold PyData.canLayAll0
      rw [h1.lay, h2.1]
      rfl
    · unfold PyData.depthAll
      exact Nat.max_le.mpr ⟨h1.dep, h2.2⟩
theorem Ly.list {n : Nat} {ds : List PyData} (h : ∀ d ∈ ds, Ly n d) : Ly (n + 1) (.list ds) := ⟨by unfold PyData.canLay0; exact (ly_all h).1, by unfold PyData.depth; have := (ly_all h).2; omega⟩
theorem Ly.tup {n : Nat} {ds : List PyData} (h : ∀ d ∈ ds, Ly n d) : Ly (n + 1) (.tuple ds) := ⟨by unfold PyData.canLay0; exact (ly_all h).1, by unfold PyData.depth; have := (ly_all h).2; omega⟩
theorem Ly.str {x : Str} (h : okS x) : Ly 0 (.str x) := ⟨h, Nat.le_refl _⟩
theorem Ly.int {i : Int} : Ly 0 (.int i) := ⟨rfl, Nat.le_refl _⟩
theorem Ly.bool {b : Bool} : Ly 0 (.bool b) := ⟨rfl, Nat.le_refl _⟩
theorem Ly.non : Ly 0 .none := ⟨rfl, Nat.le_refl _⟩
theorem Ly.two {n : Nat} {a b : PyData} (h1 : Ly n a) (h2 : Ly n b) : Ly (n + 1) (.list [a, b]) := Ly.list fun d hd => by
  rcases List.mem_cons.mp hd with rfl | hd
  · exact h1
  · rw [List.mem_singleton.mp hd]; exact h2
theorem Ly.three {n : Nat} {a b c : PyData} (h1 : Ly n a) (h2 : Ly n b) (h3 : Ly n c) : Ly (n + 1) (.list [a, b, c]) := Ly.list fun d hd => by
  rcases List.mem_cons.mp hd with rfl | hd
  · exact h1
  rcases List.mem_cons.mp hd with rfl | hd
  · exact h2
  · rw [List.mem_singleton.mp hd]; exact h3
section
variable {K : PySem.W.Frag} {ps : List Addr} {σ : L2.St} {H : Hp} {ta tb tc : TE} {d a b c : PyData} {n : Nat}
theorem er_eqY (h1 : EvR rDv ps ta σ H d) (h2 : EvR rDv ps tb σ H d) (l : Ly n d) (hn : n ≤ 60) : EvR rB ps (tOp (rEqD K) ta tb) σ H true := er_op h1 h2 fun v w H1 e o rv rw' Q q =>
  ⟨d, d, Dv.dp (Dv.ex Rm_ex rv) l.lay, Dv.dp (Dv.ex Rm_ex rw') l.lay, l.sh hn, l.sh hn, by rw [SeqAt.eqv_refl d l.lay]; exact q _ H1 (Ex.refl _) rfl⟩
theorem er_neY (h1 : EvR rDv ps ta σ H d) (h2 : EvR rDv ps tb σ H d) (l : Ly n d) (hn : n ≤ 60) : EvR rB ps (tOp (rNeD K) ta tb) σ H false := er_op h1 h2 fun v w H1 e o rv rw' Q q =>
  ⟨d, d, Dv.dp (Dv.ex Rm_ex rv) l.lay, Dv.dp (Dv.ex Rm_ex rw') l.lay, l.sh hn, l.sh hn, by rw [SeqAt.eqv_refl d l.lay]; exact q _ H1 (Ex.refl _) rfl⟩
theorem er_y2 (h1 : EvR rDv ps ta σ H a) (h2 : EvR rDv ps tb σ H b) : EvR rDv ps (tLst (tCons ta (tCons tb tNil))) σ H (.list [a, b]) := er_lstD (eas_cons h1 (eas_cons h2 eas_nil)) (by show 2 ≤ 100000; decide)
theorem er_y3 (h1 : EvR rDv ps ta σ H a) (h2 : EvR rDv ps tb σ H b) (h3 : EvR rDv ps tc σ H c) : EvR rDv ps (tLst (tCons ta (tCons tb (tCons tc tNil)))) σ H (.list [a, b, c]) := er_lstD (eas_cons h1 (eas_cons h2 (eas_cons h3 eas_nil))) (by show 3 ≤ 100000; decide)
def yStrs (l : List Str) : PyData := .list (l.map PyData.str)
theorem er_yS {l : List Str} (h : EvR (rL rS) ps ta σ H l) : EvR rDv ps ta σ H (yStrs l) := er_dv (f := fun l : List Str => yStrs l) h (asL asS)
theorem er_yN {m : Nat} (h : EvR rN ps ta σ H m) : EvR rDv ps ta σ H (.int (m : Int)) := er_dv (f := fun n : Nat => PyData.int (n : Int)) h asN
theorem ly_strs {l : List Str} (h : ∀ x ∈ l, okS x) : Ly 1 (yStrs l) := Ly.list fun d hd => by
  obtain ⟨x, hx, rfl⟩ := List.mem_map.mp hd
  exact Ly.str (h x hx)
end
end RP
set_option Elab.async false
set_option linter.all false
set_option maxRecDepth 100000
set_option maxHeartbeats 4000000
namespace K21
open PySem PySem.Spec PyProof.Rows L2 Evl Gen RP
section
variable {P : Program} {w : World} {K : PySem.W.Frag} {mg : Str → Option Value} {base : Heap} {fd : Nat → FuncData}
/-! ### pairs, steps -/
def PairOk (s : Sht) (d : Str × Str) : Prop := ∃ l ∈ s.1, d.1 ∈ l ∧ d.2 ∈ l ∧ d.1 ≠ d.2
theorem PairOk.in1 {s : Sht} {d : Str × Str} (h : PairOk s d) : d.1 ∈ s.1.flatten := let ⟨l, h1, h2, _⟩ := h; List.mem_flatten.mpr ⟨l, h1, h2⟩
theorem PairOk.in2 {s : Sht} {d : Str × Str} (h : PairOk s d) : d.2 ∈ s.1.flatten := let ⟨l, h1, _, h3, _⟩ := h; List.mem_flatten.mpr ⟨l, h1, h3⟩
def xprod (xs ys : List Str) : List (Str × Str) := xs.flatMap (row2 (fun _ => ys) (fun v x => !decide (v = x)) fun v x => (v, x))
def upsT (es : List (Str × Str)) (z : Str) : List Str := (es.filter fun e => decide (e.1 = z)).map fun e => e.2
def dnT (es : List (Str × Str)) (z : Str) : List Str := (es.filter fun e => decide (e.2 = z)).map fun e => e.1
def fnd (es : List (Str × Str)) (d : Str × Str) : List (Str × Str) := xprod (upsT es d.1) (upsT es d.2) ++ xprod (dnT es d.1) (dnT es d.2)
def movesOf (es : List (Str × Str)) (d : Str × Str) : List (Str × Str) := srtT (fnd es d)
theorem mem_xprod {xs ys : List Str} {e : Str × Str} : e ∈ xprod xs ys ↔ e.1 ∈ xs ∧ e.2 ∈ ys ∧ e.1 ≠ e.2 := by
  unfold xprod row2
  rw [List.mem_flatMap]
  constructor
  · rintro ⟨x, hx, h⟩
    obtain ⟨y, hy, rfl⟩ := List.mem_map.mp h
    obtain ⟨h1, h2⟩ := List.mem_filter.mp hy
    rw [Bool.not_eq_true', decide_eq_false_iff_not] at h2
    exact ⟨hx, h1, h2⟩
  · rintro ⟨h1, h2, h3⟩
    exact ⟨e.1, h1, List.mem_map.mpr ⟨e.2, List.mem_filter.mpr ⟨h2, by rw [Bool.not_eq_true', decide_eq_false_iff_not]; exact h3⟩, rfl⟩⟩
theorem fm_perm {α β : Type} {f g : α → List β} : ∀ {l : List α}, (∀ x ∈ l, (f x).Perm (g x)) → (l.flatMap f).Perm (l.flatMap g)
  | [], _ => List.Perm.refl _
  | a :: l, h => by
    rw [List.flatMap_cons, List.flatMap_cons]
    exact (h a (List.mem_cons_self ..)).append (fm_perm fun x hx => h x (List.mem_cons_of_mem _ hx))
theorem xprod_perm {xs ys xs' ys' : List Str} (h : xs.Perm xs') (k : ys.Perm ys') : (xprod xs ys).Perm (xprod xs' ys') := by
  unfold xprod
  refine (h.flatMap_right _).trans (fm_perm fun x hx => ?_)
  unfold row2
  exact (k.filter _).map _
theorem upsT_perm {es fs : List (Str × Str)} (h : es.Perm fs) (z : Str) : (upsT es z).Perm (upsT fs z) := (h.filter _).map _
theorem dnT_perm {es fs : List (Str × Str)} (h : es.Perm fs) (z : Str) : (dnT es z).Perm (dnT fs z) := (h.filter _).map _
theorem fnd_perm {es fs : List (Str × Str)} (h : es.Perm fs) (d : Str × Str) : (fnd es d).Perm (fnd fs d) := (xprod_perm (upsT_perm h _) (upsT_perm h _)).append (xprod_perm (dnT_perm h _) (dnT_perm h _))
theorem moves_perm {es fs : List (Str × Str)} (h : es.Perm fs) (d : Str × Str) : movesOf es d = movesOf fs d := srtT_eq (fnd_perm h d)
theorem upsT_len {es : List (Str × Str)} {z : Str} : (upsT es z).length ≤ es.length := by unfold upsT; rw [List.length_map]; exact List.length_filter_le _ _
theorem dnT_len {es : List (Str × Str)} {z : Str} : (dnT es z).length ≤ es.length := by unfold dnT; rw [List.length_map]; exact List.length_filter_le _ _
theorem xprod_len {xs ys : List Str} : (xprod xs ys).length ≤ xs.length * ys.length := flat_len fun x _ => by
  unfold row2
  rw [List.length_map]
  exact List.length_filter_le _ _
theorem xprod_72 {xs ys : List Str} (h1 : xs.length ≤ 72) (h2 : ys.length ≤ 72) : (xprod xs ys).length ≤ 5184 := Nat.le_trans xprod_len (Nat.mul_le_mul h1 h2)
theorem er_inDp {α : Type} [DecidableEq α] {R : Rp α} {ps : List Addr} {σ : L2.St} {H : Hp} {ta tb : TE} {d : α → PyData} {ok : α → Prop} {n : Nat} {x : α} {xs : List α} (D : Dt K R d ok n) (hn : n ≤ 50) (h1 : EvR R ps ta σ H x) (h2 : EvR (rL R) ps tb σ H xs) (o1 : ok x) (o2 : ∀ a ∈ xs, ok a) : EvR rB ps (tOp (rInD K) ta tb) σ H (decide (x ∈ xs)) := er_op h1 h2 fun v w H1 e o rv rw' Q q => by
  have D2 := dtL D
  have s1 : SeqAt.shaped (d x) = true := dt_shaped D (by omega) o1
  have s2 : SeqAt.shaped (.list (xs.map d)) = true := dt_shaped (d := fun as : List α => PyData.list (as.map d)) (ok := fun as => ∀ a ∈ as, ok a) (n := n + 1) D2 (by omega) o2
  refine ⟨d x, xs.map d, dp_ex Rm_ex (D.of rv), dp_ex Rm_ex (D2.of rw'), s1, s2, ?_⟩
  have e1 : ((xs.map d).any fun z => PyData.eqv z (d x)) = decide (x ∈ xs) := by
    rw [Bool.eq_iff_iff, List.any_eq_true, decide_eq_true_eq]
    constructor
    · rintro ⟨z, hz, hq⟩
      obtain ⟨y, hy, rfl⟩ := List.mem_map.mp hz
      rw [← (D.inj (o2 y hy) o1).mp hq]
      exact hy
    · intro hx
      exact ⟨d x, List.mem_map.mpr ⟨x, hx, rfl⟩, (D.inj o1 o1).mpr rfl⟩
  rw [e1]
  exact q _ H1 (Ex.refl _) rfl
theorem u65 {k : Nat} {A : Around} (r : Room k A) : A.units + 65 < cLine := by have := r.un; omega
theorem inDK {X : Cx} (hK : X.K = K) (hu : X.A.units + 65 < cLine) : OpR X (compareOp .In) (rInD K) := hK ▸ op_inD hu
theorem notInDK {X : Cx} (hK : X.K = K) (hu : X.A.units + 65 < cLine) : OpR X (compareOp .NotIn) (rNotInD K) := hK ▸ op_notInD hu
theorem fnd_ok {es : List (Str × Str)} (h : ∀ e ∈ es, okS e.1 ∧ okS e.2) {d e : Str × Str} (he : e ∈ fnd es d) : okS e.1 ∧ okS e.2 := by
  have u : ∀ {z x : Str}, x ∈ upsT es z → okS x := fun hx => by
    obtain ⟨f, hf, rfl⟩ := List.mem_map.mp hx
    exact (h f (List.mem_filter.mp hf).1).2
  have w : ∀ {z x : Str}, x ∈ dnT es z → okS x := fun hx => by
    obtain ⟨f, hf, rfl⟩ := List.mem_map.mp hx
    exact (h f (List.mem_filter.mp hf).1).1
  rcases List.mem_append.mp he with he | he
  · have := mem_xprod.mp he
    exact ⟨u this.1, u this.2.1⟩
  · have := mem_xprod.mp he
    exact ⟨w this.1, w this.2.1⟩
theorem moves_ok {es : List (Str × Str)} (h : ∀ e ∈ es, okS e.1 ∧ okS e.2) {d : Str × Str} : ∀ e ∈ movesOf es d, okS e.1 ∧ okS e.2 := fun e he => fnd_ok h ((srtT_perm _).mem_iff.mp he)
theorem sc_is_node_of : FnScope ["sheet", "value"] ["sheet", "value"] (defScope (topS 38)) := ⟨rfl, rfl, rfl, by decide +kernel, rfl, by decide +kernel, by decide +kernel⟩
theorem ok_is_node_of (T : Tx K mg fd) : FnOk P w K mg base CX0 5 (He.ga K "is_node_of") (fd 13) ["sheet", "value"] (Sp2 (rS_ K) rS rB inSh (fun s _ => Sok s)) := by
  refine (T.df 13 38 "is_node_of" rfl).ok sc_is_node_of (fun vs H Q E h => ?len) (fun cdv A outer s H vs Q E hr h => ?body)
  case body =>
    refine ⟨_, (pss_one (ps_ret (pe_and (pe_callB call_isi (by rfl) (T.fr 40 "isinstance" rfl) (by decide +kernel) (pa_cons (pv 1) (pa_cons (pe_bltn (v := V.ty "str") (by rfl) (T.fr 43 "str" rfl) (by decide +kernel) rfl) pa_nil))) (pe_one (pe_cmpR (op_ownIn (sp := (Sp2 (rS_ K) rS rB inSh (fun s _ => Sok s))) (ok_sh_contains T) (hr.mono (by decide)) (T.meth 76 "__contains__" rfl) ((T.dm 56 16 "__contains__" "Sheet.__contains__" rfl).binds (ps := ["self", "x"]) fun _ _ _ _ _ _ us hl => match us, hl with | [_, _], _ => rfl) .nil pass0) (pv 1) (pv 0) rfl))))), ?_⟩
    obtain ⟨ps, v, w, s, a, rfl, o, r, ra, ok, q⟩ := h
    obtain rfl : w = .str a := ra
    exact s_retR o (er_is (er_andV (x := true) (er_B (ev_isi (ev_var rfl) (.str a) (Ky.str (H := H) a).str_ ev_c)) fun _ => er_inO (er_var (v := .str a) rfl rfl) (er_var rfl r) ok) rfl) q
  case len =>
    obtain ⟨ps, v, w, s, a, rfl, _⟩ := h
    rfl
theorem sc_is_pair_of : FnScope ["sheet", "value", "one", "other"] ["sheet", "value"] (defScope (topS 39)) := ⟨rfl, rfl, rfl, by decide +kernel, rfl, by decide +kernel, by decide +kernel⟩
theorem ok_is_pair_of (T : Tx K mg fd) : FnOk P w K mg base CX0 6 (He.ga K "is_pair_of") (fd 14) ["sheet", "value"] (Sp2 (rS_ K) rE rB (fun _ _ => true) (fun s d => Sok s ∧ PairOk s d)) := by
  refine (T.df 14 39 "is_pair_of" rfl).ok sc_is_pair_of (fun vs H Q E h => ?len) (fun cdv A outer s H vs Q E hr h => ?body)
  case body =>
    refine ⟨_, (pss_cons (ps_if (PW.pt (pw_or (pt_not (pt_val (pe_callB call_isi (by rfl) (T.fr 40 "isinstance" rfl) (by decide +kernel) (pa_cons (pv 1) (pa_cons (pe_bltn (v := V.ty "tuple") (by rfl) (T.fr 45 "tuple" rfl) (by decide +kernel) rfl) pa_nil))))) (pw_or1 (pt_cmpR op_ne (pe_callB call_len (by rfl) (T.fr 47 "len" rfl) (by decide +kernel) (pa_cons (pv 1) pa_nil)) pe_int (nomark _))))) (pss_one (ps_ret pe_bl)) pss_nil) (pss_cons (ps_asg (pv 1) (pg_tup rfl (pgs_cons (pg_name (i := 2) sc_is_pair_of.nd rfl (Or.inl rfl)) (pgs_cons (pg_name (i := 3) sc_is_pair_of.nd rfl (Or.inl rfl)) pgs_nil)))) (pss_cons (ps_if (PW.pt (pw_or (pt_not (pt_val (pe_call (ok_is_node_of T) (hr.mono (by decide)) (by rfl) (T.gl 15 "is_node_of" rfl) (T.df 13 38 "is_node_of" rfl).kp ((T.df 13 38 "is_node_of" rfl).binds (ps := ["sheet", "value"]) fun _ _ _ _ _ _ us hl => match us, hl with | [_, _], _ => rfl) .nil pass0 (pa_cons (pv 0) (pa_cons (pv 2) pa_nil))))) (pw_or1 (pt_not (pt_val (pe_call (ok_is_node_of T) (hr.mono (by decide)) (by rfl) (T.gl 15 "is_node_of" rfl) (T.df 13 38 "is_node_of" rfl).kp ((T.df 13 38 "is_node_of" rfl).binds (ps := ["sheet", "value"]) fun _ _ _ _ _ _ us hl => match us, hl with | [_, _], _ => rfl) .nil pass0 (pa_cons (pv 0) (pa_cons (pv 3) pa_nil)))))))) (pss_one (ps_ret pe_bl)) pss_nil) (pss_one (ps_ret (pe_and (pe_cmpR op_ne (pv 2) (pv 3) (nomark _)) (pe_one (pe_cmpR op_eq (pe_meth (pv 0) T.cls (T.meth 70 "level_of" rfl) (ok_sh_level_of T) (hr.mono (by decide)) ((T.dm 50 9 "level_of" "Sheet.level_of" rfl).binds (ps := ["self", "node"]) fun _ _ _ _ _ _ us hl => match us, hl with | [_, _], _ => rfl) .nil pass0 (pa_cons (pv 2) pa_nil)) (pe_meth (pv 0) T.cls (T.meth 70 "level_of" rfl) (ok_sh_level_of T) (hr.mono (by decide)) ((T.dm 50 9 "level_of" "Sheet.level_of" rfl).binds (ps := ["self", "node"]) fun _ _ _ _ _ _ us hl => match us, hl with | [_, _], _ => rfl) .nil pass0 (pa_cons (pv 3) pa_nil)) (nomark _))))))))), ?_⟩
    obtain ⟨ps, v, w, s, d, rfl, o, r, ra, ok, q⟩ := h
    obtain ⟨ok, pk⟩ := ok
    obtain ⟨a0, y, z, rfl, h2, h3, h4⟩ := ra
    obtain rfl : y = .str d.1 := h3
    obtain rfl : z = .str d.2 := h4
    have ha := Rm_ex _ _ h2
    have hq : (rQ K rS).p [d.1, d.2] (.ref a0) (Rm ps H) := ⟨a0, _, rfl, .inr (st_of h2), rfl, rfl, trivial⟩
    refine q_whenR o (b := false) (et_is' (et_or' (x := false) (y := false) (et_not' (x := true) (et_B' (er_B (ev_isi (ev_var rfl) (.tup ha) (by show kitB _ _ = some true; decide +kernel) ev_c)))) fun _ => et_is' (et_test' (er_B (ev_op (ev_I o (er_lenL (er_var (i := 1) rfl hq))) ev_c (rv_ne rfl)))) rfl) rfl) (fun z => nomatch z) fun _ H1 e1 => ?_
    have r := (rS_ K).m (Rm_mono e1) r
    have o1 := o.ex e1
    refine ⟨.ref a0, rfl, a0, _, rfl, st_of (e1 _ _ ha), rfl, _, _, rfl, _, _, rfl, rfl, ?_⟩
    refine q_whenR o1 (b := false) (et_is' (et_or' (x := false) (y := false) (et_not' (x := true) (et_B' (er_is (er_call2 (f := inSh) (er_var (i := 0) rfl r) (er_var (R := rS) (v := .str d.1) (i := 2) rfl rfl) ok) (decide_eq_true pk.in1)))) fun _ => et_not' (x := true) (et_B' (er_is (er_call2 (f := inSh) (er_var (i := 0) rfl r) (er_var (R := rS) (v := .str d.2) (i := 3) rfl rfl) ok) (decide_eq_true pk.in2)))) rfl) (fun z => nomatch z) fun _ H2 e2 => ?_
    have r := (rS_ K).m (Rm_mono e2) r
    have o2 := o1.ex e2
    obtain ⟨l, hl, m1, m2, ne⟩ := id pk
    obtain ⟨i, hi⟩ := List.mem_iff_getElem?.mp hl
    refine s_retR o2 (er_is (er_andV (x := true) (y := true) (er_is (er_B (ev_op (ev_var (v := .str d.1) rfl) (ev_var (v := .str d.2) rfl) (rv_ne rfl))) ?_) fun _ => er_is (er_B (ev_op (ev_I o2 (er_N (er_meth1 (f := lvlOf) (er_var (i := 0) rfl r) (er_var (R := rS) (v := .str d.1) (i := 2) rfl rfl) (by decide +kernel) ⟨ok, pk.in1⟩))) (ev_I o2 (er_N (er_meth1 (f := lvlOf) (er_var (i := 0) rfl r) (er_var (R := rS) (v := .str d.2) (i := 3) rfl rfl) (by decide +kernel) ⟨ok, pk.in2⟩))) (rv_eq rfl))) ?_) rfl) fun v H3 e3 t => q v H3 ((e1.trans e2).trans e3) t
    · rw [Bool.not_eq_true', decide_eq_false_iff_not]
      exact fun z => ne (by injection z)
    · rw [lvlOf_eq ok hi m1, lvlOf_eq ok hi m2]
      exact decide_eq_true rfl
  case len =>
    obtain ⟨ps, v, w, s, d, rfl, _⟩ := h
    rfl
theorem sc_check_pair : FnScope ["sheet", "pair"] ["sheet", "pair"] (defScope (topS 40)) := ⟨rfl, rfl, rfl, by decide +kernel, rfl, by decide +kernel, by decide +kernel⟩
theorem ok_check_pair (T : Tx K mg fd) : FnOk P w K mg base CX0 7 (He.ga K "check_pair") (fd 15) ["sheet", "pair"] (Sp2 (rS_ K) rE rU (fun _ _ => ()) (fun s d => Sok s ∧ PairOk s d)) := by
  refine (T.df 15 40 "check_pair" rfl).ok sc_check_pair (fun vs H Q E h => ?len) (fun cdv A outer s H vs Q E hr h => ?body)
  case body =>
    refine ⟨_, (pss_one (ps_if (pt_not (pt_val (pe_call (ok_is_pair_of T) (hr.mono (by decide)) (by rfl) (T.gl 16 "is_pair_of" rfl) (T.df 14 39 "is_pair_of" rfl).kp ((T.df 14 39 "is_pair_of" rfl).binds (ps := ["sheet", "value"]) fun _ _ _ _ _ _ us hl => match us, hl with | [_, _], _ => rfl) .nil pass0 (pa_cons (pv 0) (pa_cons (pv 1) pa_nil))))) (pss_one ps_never) pss_nil)), ?_⟩
    obtain ⟨ps, v, w, s, a, rfl, o, r, ra, ok, q⟩ := h
    refine s_whenR o (b := false) (et_is' (et_not' (et_B' (er_call2 (f := fun _ _ => true) (er_var (i := 0) rfl r) (er_var (i := 1) rfl ra) ok))) rfl) (fun z => nomatch z) fun _ H1 e1 => q _ H1 e1 rfl
  case len =>
    obtain ⟨ps, v, w, s, a, rfl, _⟩ := h
    rfl
def spSteps (K : PySem.W.Frag) : Sp := fun vs H Q _ => ∃ ps v w s d, vs = [v, w] ∧ Own ps H ∧ (rS_ K).p s v (Rm ps H) ∧ rE.p d w (Rm ps H) ∧ Sok s ∧ PairOk s d ∧ ∀ l H', H l = none → Ex H H' → (rL rE).p (movesOf s.2 d) (.ref l) (Rm ps H') → Q (.ref l) H'
theorem sc_steps_from : FnScope ["sheet", "pair", "one", "other", "ups", "v", "x", "downs"] ["sheet", "pair"] (defScope (topS 42)) := ⟨rfl, rfl, rfl, by decide +kernel, rfl, by decide +kernel, by decide +kernel⟩
theorem ok_steps_from (T : Tx K mg fd) : FnOk P w K mg base CX0 7 (He.ga K "steps_from") (fd 16) ["sheet", "pair"] (spSteps K) := by
  refine (T.df 16 42 "steps_from" rfl).ok sc_steps_from (fun vs H Q E h => ?len) (fun cdv A outer s H vs Q E hr h => ?body)
  case body =>
    refine ⟨_, (pss_cons (ps_asg (pv 1) (pg_tup rfl (pgs_cons (pg_name (i := 2) sc_steps_from.nd rfl (Or.inl rfl)) (pgs_cons (pg_name (i := 3) sc_steps_from.nd rfl (Or.inr rfl)) pgs_nil)))) (pss_cons (ps_setLc2 (i := 4) (own := [("v", 5), ("x", 6)]) (vs1 := [6]) (wi1 := iList K (tMeth (shC K) "above" (Sp2 (rS_ K) rS (rL rS) abOf (fun s z => Sok s ∧ z ∈ s.1.flatten)) [] E0 (tVar 0) (tCons (tVar 3) tNil))) (g := gName 5) (g1 := gName 6) rfl sc_steps_from.nd rfl rfl (sw_true rfl rfl rfl (by decide +kernel)) (pi_list (pe_meth (sp := (Sp2 (rS_ K) rS (rL rS) abOf (fun s z => Sok s ∧ z ∈ s.1.flatten))) (pv 0) T.cls (T.meth 71 "above" rfl) (ok_sh_above T) (hr.mono (by decide)) ((T.dm 51 10 "above" "Sheet.above" rfl).binds (ps := ["self", "node"]) fun _ _ _ _ _ _ us hl => match us, hl with | [_, _], _ => rfl) .nil pass0 (pa_cons (pv 2) pa_nil))) (blkOk_by (N := ["sheet", "pair", "one", "other", "ups", "v", "x", "downs"]) (sc := (defScope (topS 42))) (own := [("v", 5), ("x", 6)]) (by decide +kernel)) (by decide) (fun _ _ _ _ _ => (pg_name (i := 5) sc_steps_from.nd rfl (Or.inl rfl))) (fun _ _ _ _ _ => pts_nil) (fun _ _ _ _ _ => (pi_list (pe_meth (sp := (Sp2 (rS_ K) rS (rL rS) abOf (fun s z => Sok s ∧ z ∈ s.1.flatten))) (pv 0) T.cls (T.meth 71 "above" rfl) (ok_sh_above T) (hr.mono (by decide)) ((T.dm 51 10 "above" "Sheet.above" rfl).binds (ps := ["self", "node"]) fun _ _ _ _ _ _ us hl => match us, hl with | [_, _], _ => rfl) .nil pass0 (pa_cons (pv 3) pa_nil)))) (fun _ _ _ _ _ => (pg_name (i := 6) sc_steps_from.nd rfl (Or.inl rfl))) (fun _ _ _ _ _ => (pts_one (pt_cmpR op_ne (pv 5) (pv 6) (nomark _)))) (fun _ _ _ _ _ => (pe_tup (pa_cons (pv 5) (pa_cons (pv 6) pa_nil))))) (pss_cons (ps_setLc2 (i := 7) (own := [("v", 5), ("x", 6)]) (vs1 := [6]) (wi1 := iList K (tMeth (shC K) "below" (Sp2 (rS_ K) rS (rL rS) beOf (fun s z => Sok s ∧ z ∈ s.1.flatten)) [] E0 (tVar 0) (tCons (tVar 3) tNil))) (g := gName 5) (g1 := gName 6) rfl sc_steps_from.nd rfl rfl (sw_true rfl rfl rfl (by decide +kernel)) (pi_list (pe_meth (sp := (Sp2 (rS_ K) rS (rL rS) beOf (fun s z => Sok s ∧ z ∈ s.1.flatten))) (pv 0) T.cls (T.meth 72 "below" rfl) (ok_sh_below T) (hr.mono (by decide)) ((T.dm 52 11 "below" "Sheet.below" rfl).binds (ps := ["self", "node"]) fun _ _ _ _ _ _ us hl => match us, hl with | [_, _], _ => rfl) .nil pass0 (pa_cons (pv 2) pa_nil))) (blkOk_by (N := ["sheet", "pair", "one", "other", "ups", "v", "x", "downs"]) (sc := (defScope (topS 42))) (own := [("v", 5), ("x", 6)]) (by decide +kernel)) (by decide) (fun _ _ _ _ _ => (pg_name (i := 5) sc_steps_from.nd rfl (Or.inl rfl))) (fun _ _ _ _ _ => pts_nil) (fun _ _ _ _ _ => (pi_list (pe_meth (sp := (Sp2 (rS_ K) rS (rL rS) beOf (fun s z => Sok s ∧ z ∈ s.1.flatten))) (pv 0) T.cls (T.meth 72 "below" rfl) (ok_sh_below T) (hr.mono (by decide)) ((T.dm 52 11 "below" "Sheet.below" rfl).binds (ps := ["self", "node"]) fun _ _ _ _ _ _ us hl => match us, hl with | [_, _], _ => rfl) .nil pass0 (pa_cons (pv 3) pa_nil)))) (fun _ _ _ _ _ => (pg_name (i := 6) sc_steps_from.nd rfl (Or.inl rfl))) (fun _ _ _ _ _ => (pts_one (pt_cmpR op_ne (pv 5) (pv 6) (nomark _)))) (fun _ _ _ _ _ => (pe_tup (pa_cons (pv 5) (pa_cons (pv 6) pa_nil))))) (pss_one (ps_ret (pe_callB (r := rSortedT2 K) cr_sortedT2 (by rfl) (T.fr 56 "sorted" rfl) (by decide +kernel) (pa_cons (pe_op op_cat (pv 4) (pv 7)) pa_nil))))))), ?_⟩
    obtain ⟨ps, v, w, s, d, rfl, o, r, ra, ok, pk, q⟩ := h
    obtain ⟨a0, y, z, rfl, h2, h3, h4⟩ := ra
    obtain rfl : y = .str d.1 := h3
    obtain rfl : z = .str d.2 := h4
    have hz := ok.z
    refine ⟨.ref a0, rfl, a0, _, rfl, st_of (Rm_ex _ _ h2), rfl, _, _, rfl, _, _, rfl, rfl, ?_⟩
    have two : ∀ {xs ys : List Str}, xs.length ≤ 72 → ys.length ≤ 72 → xs.length * 72 ≤ 40000 := fun {xs ys} h1 _ => by omega
    have u1 : (abOf s d.1).length ≤ 72 := Nat.le_trans (upsT_len (es := s.2)) hz
    have u2 : (abOf s d.2).length ≤ 72 := Nat.le_trans (upsT_len (es := s.2)) hz
    have w1 : (beOf s d.1).length ≤ 72 := Nat.le_trans (dnT_len (es := s.2)) hz
    have w2 : (beOf s d.2).length ≤ 72 := Nat.le_trans (dnT_len (es := s.2)) hz
    refine q_asgR' o (er_lc2G (R := rS) (S := rS) (T := rE) (fun _ => abOf s d.2) (fun v x => !decide (v = x)) (fun v x => (v, x)) 72 (wk_list (er_meth1 (f := abOf) (er_var (i := 0) rfl r) (er_var (R := rS) (v := .str d.1) (i := 2) rfl rfl) (by decide +kernel) ⟨ok, pk.in1⟩)) (by omega) (fun _ _ => u2) (fun _ => rfl) (fun _ _ => rfl) (fun x hx qs v1 H1 e1 o1 x1 r1 => wk_list (er_meth1 (f := abOf) (er_var (i := 0) rfl ((rS_ K).m x1 r)) (er_var (R := rS) (v := .str d.2) (i := 3) rfl rfl) (by decide +kernel) ⟨ok, pk.in2⟩)) (fun x hx y hy qs v1 v2 H1 e1 o1 x1 r1 r2 => ?_) fun x hx y hy _ qs v1 v2 H1 e1 o1 x1 r1 r2 => er_tup (er_var rfl r1) (er_var rfl r2)) fun vu H1 e1 ru => ?_
    · obtain rfl : v1 = .str x := r1
      obtain rfl : v2 = .str y := r2
      exact et_is' (et_test' (er_B (ev_op (ev_var (v := .str x) rfl) (ev_var (v := .str y) rfl) (rv_ne rfl)))) (congrArg Bool.not (decide_eq_decide.mpr ⟨fun z => by injection z, fun z => by rw [z]⟩))
    have o1 := o.ex e1
    have r := (rS_ K).m (Rm_mono e1) r
    refine q_asgR' o1 (er_lc2G (R := rS) (S := rS) (T := rE) (fun _ => beOf s d.2) (fun v x => !decide (v = x)) (fun v x => (v, x)) 72 (wk_list (er_meth1 (f := beOf) (er_var (i := 0) rfl r) (er_var (R := rS) (v := .str d.1) (i := 2) rfl rfl) (by decide +kernel) ⟨ok, pk.in1⟩)) (by omega) (fun _ _ => w2) (fun _ => rfl) (fun _ _ => rfl) (fun x hx qs v1 H1 e1 o1 x1 r1 => wk_list (er_meth1 (f := beOf) (er_var (i := 0) rfl ((rS_ K).m x1 r)) (er_var (R := rS) (v := .str d.2) (i := 3) rfl rfl) (by decide +kernel) ⟨ok, pk.in2⟩)) (fun x hx y hy qs v1 v2 H1 e1 o1 x1 r1 r2 => ?_) fun x hx y hy _ qs v1 v2 H1 e1 o1 x1 r1 r2 => er_tup (er_var rfl r1) (er_var rfl r2)) fun vd H2 e2 rd => ?_
    · obtain rfl : v1 = .str x := r1
      obtain rfl : v2 = .str y := r2
      exact et_is' (et_test' (er_B (ev_op (ev_var (v := .str x) rfl) (ev_var (v := .str y) rfl) (rv_ne rfl)))) (congrArg Bool.not (decide_eq_decide.mpr ⟨fun z => by injection z, fun z => by rw [z]⟩))
    have o2 := o1.ex e2
    have ru := (rL rE).m (Rm_mono e2) ru
    have c1 := xprod_72 u1 u2
    have c2 := xprod_72 w1 w2
    refine s_retR o2 (er_sortedTL (G := H) (e1.trans e2) (er_cat (er_var (i := 4) rfl ru) (er_var (i := 7) rfl rd) (by unfold xprod at c1 c2; omega))) fun vv H3 e3 rr => ?_
    obtain ⟨l, vs3, rfl, g0, g1, g2⟩ := rr
    exact q l H3 g0 ((e1.trans e2).trans e3) ⟨l, vs3, rfl, g1, g2⟩
  case len =>
    obtain ⟨ps, v, w, s, d, rfl, _⟩ := h
    rfl
theorem sc_steps : FnScope ["sheet", "pair"] ["sheet", "pair"] (defScope (topS 44)) := ⟨rfl, rfl, rfl, by decide +kernel, rfl, by decide +kernel, by decide +kernel⟩
theorem ok_steps (T : Tx K mg fd) : FnOk P w K mg base CX0 8 (He.ga K "steps") (fd 17) ["sheet", "pair"] (spSteps K) := by
  refine (T.df 17 44 "steps" rfl).ok sc_steps (fun vs H Q E h => ?len) (fun cdv A outer s H vs Q E hr h => ?body)
  case body =>
    refine ⟨_, (pss_cons (ps_expr (pe_call (ok_check_pair T) (hr.mono (by decide)) (by rfl) (T.gl 17 "check_pair" rfl) (T.df 15 40 "check_pair" rfl).kp ((T.df 15 40 "check_pair" rfl).binds (ps := ["sheet", "pair"]) fun _ _ _ _ _ _ us hl => match us, hl with | [_, _], _ => rfl) .nil pass0 (pa_cons (pv 0) (pa_cons (pv 1) pa_nil)))) (pss_one (ps_ret (pe_call (ok_steps_from T) (hr.mono (by decide)) (by rfl) (T.gl 18 "steps_from" rfl) (T.df 16 42 "steps_from" rfl).kp ((T.df 16 42 "steps_from" rfl).binds (ps := ["sheet", "pair"]) fun _ _ _ _ _ _ us hl => match us, hl with | [_, _], _ => rfl) .nil pass0 (pa_cons (pv 0) (pa_cons (pv 1) pa_nil)))))), ?_⟩
    obtain ⟨ps, v, w, s, d, rfl, o, r, ra, ok, pk, q⟩ := h
    refine q_dropR o (er_call2 (f := fun _ _ => ()) (er_var (i := 0) rfl r) (er_var (i := 1) rfl ra) ⟨ok, pk⟩) fun H1 e1 => ?_
    exact ⟨_, rfl, _, rfl, ps, v, w, s, d, rfl, o.ex e1, (rS_ K).m (Rm_mono e1) r, rE.m (Rm_mono e1) ra, ok, pk, fun l H2 hl e2 rr => q l H2 (none_of e1 hl) (e1.trans e2) rr⟩
  case len =>
    obtain ⟨ps, v, w, s, d, rfl, _⟩ := h
    rfl
theorem er_steps {ps : List Addr} {σ : L2.St} {H : Hp} {ta tb : TE} {s : Sht} {d : Str × Str} {E : XK} (h : EvR (rS_ K) ps ta σ H s) (h2 : EvR rE ps tb σ H d) (ok : Sok s) (pk : PairOk s d) : EvR (rL rE) ps (tCall (spSteps K) [] E (tCons ta (tCons tb tNil))) σ H (movesOf s.2 d) := fun H1 e o Q q => h H1 e o _ fun v H2 e2 r => h2 H2 (e.trans e2) (o.ex e2) _ fun w H3 e3 r3 => ⟨ps, v, w, s, d, rfl, o.ex (e2.trans e3), (rS_ K).m (Rm_mono e3) r, r3, ok, pk, fun l H4 _ e4 rr => q _ H4 ((e2.trans e3).trans e4) rr⟩
def stepB (s : Sht) (a b : Str × Str) : Bool := decide (b ∈ movesOf s.2 a)
theorem sc_is_step : FnScope ["sheet", "start", "goal"] ["sheet", "start", "goal"] (defScope (topS 45)) := ⟨rfl, rfl, rfl, by decide +kernel, rfl, by decide +kernel, by decide +kernel⟩
theorem ok_is_step (T : Tx K mg fd) : FnOk P w K mg base CX0 8 (He.ga K "is_step") (fd 18) ["sheet", "start", "goal"] (Sp3 (rS_ K) rE rE rB stepB (fun s a b => Sok s ∧ PairOk s a ∧ PairOk s b)) := by
  refine (T.df 18 45 "is_step" rfl).ok sc_is_step (fun vs H Q E h => ?len) (fun cdv A outer s H vs Q E hr h => ?body)
  case body =>
    refine ⟨_, (pss_cons (ps_expr (pe_call (ok_check_pair T) (hr.mono (by decide)) (by rfl) (T.gl 17 "check_pair" rfl) (T.df 15 40 "check_pair" rfl).kp ((T.df 15 40 "check_pair" rfl).binds (ps := ["sheet", "pair"]) fun _ _ _ _ _ _ us hl => match us, hl with | [_, _], _ => rfl) .nil pass0 (pa_cons (pv 0) (pa_cons (pv 1) pa_nil)))) (pss_cons (ps_expr (pe_call (ok_check_pair T) (hr.mono (by decide)) (by rfl) (T.gl 17 "check_pair" rfl) (T.df 15 40 "check_pair" rfl).kp ((T.df 15 40 "check_pair" rfl).binds (ps := ["sheet", "pair"]) fun _ _ _ _ _ _ us hl => match us, hl with | [_, _], _ => rfl) .nil pass0 (pa_cons (pv 0) (pa_cons (pv 2) pa_nil)))) (pss_one (ps_ret (pe_cmpR (inDK (K := K) rfl (u65 hr)) (pv 2) (pe_call (ok_steps_from T) (hr.mono (by decide)) (by rfl) (T.gl 18 "steps_from" rfl) (T.df 16 42 "steps_from" rfl).kp ((T.df 16 42 "steps_from" rfl).binds (ps := ["sheet", "pair"]) fun _ _ _ _ _ _ us hl => match us, hl with | [_, _], _ => rfl) .nil pass0 (pa_cons (pv 0) (pa_cons (pv 1) pa_nil))) rfl))))), ?_⟩
    obtain ⟨ps, v, w, u, s, a, b, rfl, o, r, ra, rb, ok, q⟩ := h
    obtain ⟨ok, p1, p2⟩ := ok
    refine q_dropR o (er_call2 (f := fun _ _ => ()) (er_var (i := 0) rfl r) (er_var (i := 1) rfl ra) ⟨ok, p1⟩) fun H1 e1 => ?_
    have r := (rS_ K).m (Rm_mono e1) r
    have ra := rE.m (Rm_mono e1) ra
    have rb := rE.m (Rm_mono e1) rb
    refine q_dropR (o.ex e1) (er_call2 (f := fun _ _ => ()) (er_var (i := 0) rfl r) (er_var (i := 2) rfl rb) ⟨ok, p2⟩) fun H2 e2 => ?_
    have r := (rS_ K).m (Rm_mono e2) r
    have ra := rE.m (Rm_mono e2) ra
    have rb := rE.m (Rm_mono e2) rb
    have nm : ∀ z ∈ s.1.flatten, okS z := fun z hz => by
      obtain ⟨l, h1, h2⟩ := List.mem_flatten.mp hz
      exact isN_strOk (ok.lv.names l h1 z h2)
    exact s_retR ((o.ex e1).ex e2) (er_is (a' := stepB s a b) (er_inDp (dtP dtS dtS) (by decide) (er_var (i := 2) rfl rb) (er_steps (er_var (i := 0) rfl r) (er_var (i := 1) rfl ra) ok p1) ⟨nm _ p2.in1, nm _ p2.in2⟩ (moves_ok (sok_lines ok))) (decide_eq_decide.mpr Iff.rfl)) fun v H3 e3 t => q v H3 ((e1.trans e2).trans e3) t
  case len =>
    obtain ⟨ps, v, w, u, s, a, b, rfl, _⟩ := h
    rfl
end
end K21
set_option Elab.async false
set_option linter.all false
set_option maxRecDepth 100000
set_option maxHeartbeats 4000000
/-! own errors over any base: raised by a call with values, told apart where they are caught -/
namespace L2
open PySem PySem.Spec PyProof.Rows
/-- raise C(e, ..) -/
def tRmk (C : Addr) (n : Nat) (sp : Sp) (gV : List V → List V → List V) (t : TA) : St → Hp → XK → Prop := fun σ H Q => t σ H fun vs H1 => vs.length = n ∧ n ≤ 1000 ∧ ∀ a, H1 a = none →
  sp (gV (.ref a :: vs) []) (upd H1 a (exo a C none)) (fun v H2 => v = .non ∧ ∃ (d : Addr) (fs : List (Str × V)), H2 a = some (exo a C (some d)) ∧ H2 d = some (exd d fs) ∧ H1 d = none ∧ Q (.ref C) (some d) (upd (del H2 a) d (.xd fs))) E0
section
variable {X : Cx} {CX : CXT} {k n : Nat} {fI C : Addr} {fd : FuncData} {ps : List Str} {sp : Sp} {x : Str} {p pos : Pos} {e : Expr} {es : List Expr} {t : TA} {g : List Value → List Value → List Value} {gV : List V → List V → List V}
theorem pmk_emk (T : ExC X.K C) (iC : PySem.W.findIn X.K (.ref C) "__init__" = some (some (.ref fI))) (tI : PySem.W.typeIn X.K (.ref fI) = some (.type "function"))
    (F : FnOk X.prog X.w X.K X.mg X.base CX k fI fd ps sp) (hr : Room (k + 1) X.A) (hg : Gl X x) (hm : X.mg x = some (.ref C)) (hb : KBn X.K fd ps (n + 1) [] g gV) (hx : Passes CX X E0)
    (ha : PA X (e :: es) t) (hdb : (x == ("__debug__" : Str)) = false := by decide) (he : starEach (e :: es) X.env = (false, eval e X.env) :: starEach es X.env := by rfl) (hpl : (backTo pos (starEach es X.env)).any (·.1) = false := by rfl) :
    PMk X (.Call (.Name x p) (e :: es) [] pos) (tRmk C n sp gV t) := by
  intro pins s σ H Q I h
  refine wpAny_Call_Name_kw (ld_glob I hg hm ?_ hdb)
  refine PySem.W.callWith_K (h₀ := X.base) I.ok.mod.kin T.kC (thn (ha.run pos pins s σ H _ I h) fun us s1 ⟨vs, H1, J, r, l1, l3, q⟩ => ⟨J.kIn, ?_⟩) he hpl
  obtain ⟨nm, qn, N, bs, bm, sn, sub, ab, col, dd, k0, k1, k2, k3, k5, B, newId, initId, tail, EB, hC, hbm⟩ := T.cls
  obtain ⟨h0, gg, dr, tok, os⟩ := s1
  let a : Addr := h0.objs.size + 1
  let h1 : Heap := (h0.push (PySem.W.kdv_tup us)).push (PySem.HandSPX.excO C h0.objs.size)
  have hq := q a (J.hok.fresh (Nat.le_succ _))
  have old : ∀ b o, h0.get? b = some o → h1.get? b = some o := fun b o z => Heap.get?_push_of_some _ (Heap.get?_push_of_some _ z)
  have new : h1.get? a = some (PySem.HandSPX.excO C h0.objs.size) := by
    show ((h0.push (PySem.W.kdv_tup us)).push (PySem.HandSPX.excO C h0.objs.size)).get? (h0.objs.size + 1) = _
    heap_get
  have J2 : Inv X pins σ (upd H1 a (exo a C none)) ⟨h1, gg, dr, tok, os⟩ := J.laid (t' := tok) old (Nat.le_succ _) (exo_ok new)
  have r1 : Vals (V.ref a :: vs) (Value.ref a :: us) := .cons rfl r
  have e1 : (Value.ref a :: us).length = n + 1 := r1.length.symm.trans (congrArg Nat.succ l1)
  have few : us.length ≤ sizeLine := by
    rw [sizeLine_eq, ← Paired.length r]
    omega
  show wpAny _ _ (call (.ref C) us (([] : List Str).zip ([] : List Value))) _ _ _
  refine wpAny_call (PySem.XV.call_kw EB.F (fun Y => PySem.XV.refsB_contains Y bm hbm) (J.kIn _ _ hC) (PySem.W.looks_findIn J.kIn iC) (fun self => PySem.W.bind_fn J.kIn self tI) few (PySem.W.looks_specialIn J.kIn T.cl) (PySem.W.looks_instIn J.kIn T.inT)
    (codeAny_mono (F.run _ X.stack _ _ ⟨Value.ref a :: us, ([] : List Str).zip []⟩ (g (Value.ref a :: us) []) _ _ E0 (hr.make C us _) (J2.env0.make C us _) (hb.to _ (Value.ref a :: us) [] J2.kIn e1 rfl) (hb.rel r1 .nil) hq) fun z s' z2 => ?_))
  cases z with
  | error er => exact hx pins σ _ _ er s' J2 z2
  | ok fl =>
    cases fl with
    | ret u =>
      obtain ⟨v, H2, o2, bare, un, ok2, rv, rfl, d, fs, ea, ed, nd, q2⟩ := z2
      obtain ⟨h2, g2, d2, t2, os'⟩ := s'
      exact ⟨rv, mk_end (raises_own T.exC T.tyC) J (Nat.le_succ _) old un ok2 o2 bare ea ed nd q2⟩
    | next => exact False.elim z2
    | brk => exact False.elim z2
    | cont => exact False.elim z2
end
theorem del_made {H : Hp} {a d : Addr} {o1 o2 o3 o4 : HO} (na : H a = none) (ne : d ≠ a) : upd (del (upd (upd (upd H a o1) d o2) a o3) a) d o4 = upd H d o4 := by
  funext b
  by_cases hb : b = d
  · subst hb
    rw [upd_same, upd_same]
  · rw [upd_ne hb, upd_ne hb]
    by_cases ha : b = a
    · subst ha
      rw [del_same, na]
    · rw [del_ne ha, upd_ne ha, upd_ne hb, upd_ne ha]
theorem del_made2 {H : Hp} {a d : Addr} {o1 o2 o3 o4 o5 : HO} (na : H a = none) (ne : d ≠ a) : upd (del (upd (upd (upd (upd H a o1) d o2) a o3) d o5) a) d o4 = upd H d o4 := by
  funext b
  by_cases hb : b = d
  · subst hb
    rw [upd_same, upd_same]
  · rw [upd_ne hb, upd_ne hb]
    by_cases ha : b = a
    · subst ha
      rw [del_same, na]
    · rw [del_ne ha, upd_ne hb, upd_ne ha, upd_ne hb, upd_ne ha]
/-- raise x(e): an own error with the one field f -/
def tRone (C : Addr) (f : Str) (te : TE) : St → Hp → XK → Prop := fun σ H Q => te σ H fun v H1 => ∀ d, H1 d = none → Q (.ref C) (some d) (upd H1 d (.xd [(f, v)]))
def tRtwo (C : Addr) (f g : Str) (ta tb : TE) : St → Hp → XK → Prop := fun σ H Q => ta σ H fun v H1 => tb σ H1 fun w H2 => ∀ d, H2 d = none → Q (.ref C) (some d) (upd H2 d (.xd [(g, w), (f, v)]))
theorem te_mono {X : Cx} {e : Expr} {te : TE} (he : PE X e te) {pins : List (Addr × Obj)} {σ : L2.St} {H : Hp} {s : Shared} (I : Inv X pins σ H s) {Q : VK} (h : te σ H Q) : wpAny (model X.prog X.w) X.A (eval e X.env) (EP X pins σ Q) X.xe s := he.run pins s σ H Q I h
section
variable {X : Cx} {x : Str} {C : Addr} {p pos : Pos}
theorem pmk_imp {e : Expr} {t t' : St → Hp → XK → Prop} (h : PMk X e t) (k : ∀ σ H Q, t' σ H Q → t σ H Q) : PMk X e t' := fun pins s σ H Q I z => h pins s σ H Q I (k σ H Q z)
theorem pmk_one {f : Str} {e : Expr} {te : TE} (T : ErC1 X.K X.mg f x C) (hr : Room 2 X.A) (hg : Gl X x) (ha : PA X [e] (tCons te tNil)) (hx : Passes CX0 X E0) (mono : ∀ σ H (Q Q' : VK), (∀ v H', Q v H' → Q' v H') → te σ H Q → te σ H Q') (hdb : (x == ("__debug__" : Str)) = false := by decide)
    (hs : starEach [e] X.env = (false, eval e X.env) :: starEach [] X.env := by rfl) (hpl : (backTo pos (starEach [] X.env)).any (·.1) = false := by rfl) : PMk X (.Call (.Name x p) [e] [] pos) (tRone C f te) := by
  obtain ⟨fI, fd, iC, tI, b1, _, F⟩ := T.init
  refine pmk_imp (pmk_emk (n := 1) T.T iC tI (F X.prog X.w X.base) hr hg T.g b1 hx ha hdb hs hpl) fun σ H Q z => ?_
  refine mono σ H _ _ (fun v H1 q => ?_) z
  refine ⟨rfl, by decide, fun a na => ⟨a, C, v, rfl, T.T, T.no, upd_same, fun d nd ne => ⟨rfl, d, [(f, v)], upd_same, ?_, ?_, ?_⟩⟩⟩
  · rw [upd_ne ne, upd_same]
  · rw [upd_ne ne] at nd
    exact nd
  · rw [del_made na ne]
    rw [upd_ne ne] at nd
    exact q d nd
theorem pmk_two {f g : Str} {e e2 : Expr} {ta tb : TE} (T : ErC2 X.K X.mg f g x C) (hr : Room 2 X.A) (hg : Gl X x) (ha : PA X [e, e2] (tCons ta (tCons tb tNil))) (hx : Passes CX0 X E0) (mono : ∀ σ H (Q Q' : VK), (∀ v H', Q v H' → Q' v H') → ta σ H Q → ta σ H Q')
    (mono2 : ∀ σ H (Q Q' : VK), (∀ v H', Q v H' → Q' v H') → tb σ H Q → tb σ H Q') (hdb : (x == ("__debug__" : Str)) = false := by decide)
    (hs : starEach [e, e2] X.env = (false, eval e X.env) :: starEach [e2] X.env := by rfl) (hpl : (backTo pos (starEach [e2] X.env)).any (·.1) = false := by rfl) : PMk X (.Call (.Name x p) [e, e2] [] pos) (tRtwo C f g ta tb) := by
  obtain ⟨fI, fd, iC, tI, b1, _, F⟩ := T.init
  refine pmk_imp (pmk_emk (n := 2) T.T iC tI (F X.prog X.w X.base) hr hg T.gm b1 hx ha hdb hs hpl) fun σ H Q z => ?_
  refine mono σ H _ _ (fun v H1 q => ?_) z
  refine mono2 σ H1 _ _ (fun w H2 q => ?_) q
  refine ⟨rfl, by decide, fun a na => ⟨a, C, v, w, rfl, T.T, T.no, T.no2, upd_same, fun d nd ne => ⟨rfl, d, [(g, w), (f, v)], ?_, upd_same, ?_, ?_⟩⟩⟩
  · rw [upd_ne (Ne.symm ne), upd_same]
  · rw [upd_ne ne] at nd
    exact nd
  · rw [del_made2 na ne]
    rw [upd_ne ne] at nd
    exact q d nd
end
theorem mono_var {i : Nat} (σ : L2.St) (H : Hp) (Q Q' : VK) (k : ∀ v H', Q v H' → Q' v H') (h : tVar i σ H Q) : tVar i σ H Q' := let ⟨v, h1, h2⟩ := h; ⟨v, h1, k v H h2⟩
theorem mono_c {c : V} (σ : L2.St) (H : Hp) (Q Q' : VK) (k : ∀ v H', Q v H' → Q' v H') (h : tC c σ H Q) : tC c σ H Q' := k c H h
/-! ### where it is caught -/
/-- isinstance(e, D) of the caught error -/
def rIsX (K : PySem.W.Frag) (cls : Value) (C : Addr) (a : Addr) (d : Option Addr) : List V → Hp → VK → Prop := fun xs H Q => ∃ (c : V) (cv : Value) (b : Bool) (dd : Addr) (fs : List (Str × V)), xs = [.ref a, c] ∧ cls = .ref C ∧ (∀ u, RelV c u → u = cv) ∧ PySem.W.kitOne K (.ref C) cv = some b ∧ d = some dd ∧ H dd = some (.xd fs) ∧ Q (.bl b) H
theorem call_isX {X : Cx} {cls : Value} {a C : Addr} {d : Option Addr} {oe : Obj} {pn : List (Addr × Obj)} (T : ExC X.K C) (hz : Zc cls d oe) (hf : ∃ vs, oe.data = .fields vs) : CallR (X.suite a ((a, oe) :: pn)) (.builtin "isinstance") (rIsX X.K cls C a d) := by
  intro pins s σ H xs us Q I r h
  obtain ⟨c, cv, b, dd, fs, rfl, ec0, hcv, e, ed, hd, q⟩ := h
  cases r with
  | cons rx rr =>
    cases rr with
    | cons rt rr =>
      cases rr
      cases rx
      have ec := hcv _ rt
      subst ec ed ec0
      obtain ⟨hget, _⟩ := I.pin (a, oe) (List.mem_append.mpr (.inl List.mem_cons_self))
      obtain ⟨vs, hv⟩ := hf
      obtain ⟨mA, hns, hr⟩ : ObjOk X.prog X.w H s.heap dd (.xd fs) := I.hok dd _ hd
      obtain ⟨od, ho, hl⟩ := lookIn_ns hns
      have J : PySem.W.InstAt s.heap a oe C (some od) := ⟨hget, hz.1, by unfold PySem.W.notCls; rw [hv] <;> rfl, by rw [hz.2]; exact ho⟩
      exact PySem.W.kia_one (PySem.XV.kitx_err T.ga T.gg T.exC T.hd T.ha T.hn T.ht T.hm) I.kIn ⟨_, _, J⟩ e (fun z => nomatch z) fun tk => ⟨.bl b, H, I.kept (t' := tk) fun _ _ z => z, rfl, q⟩
end L2
set_option Elab.async false
set_option linter.all false
set_option maxRecDepth 100000
set_option maxHeartbeats 4000000
/-! a lambda handed to a def: all but the maker's own table stands -/
namespace LamX
open PySem PySem.Spec PyProof.Rows L2
/-- all but what stands at P -/
def ButP (P : Addr) (H H' : Hp) : Prop := ∀ b o, b ≠ P → H b = some o → H' b = some o
theorem ButP.refl {P : Addr} (H : Hp) : ButP P H H := fun _ _ _ h => h
section
variable {X : Cx} {pins : List (Addr × Obj)} {σ : L2.St} {H : Hp} {s : Shared}
theorem lam_made {T : List (Addr × Str)} {c P : Addr} {params : Arguments} {body : Expr} {scope : Scope} {pos : Pos} {E : Value → Shared → Prop} {Q : Value → Shared → Prop} (I : Inv X pins σ H s) (TB : TabB X.base X.mg c P) (hcode : X.env.code = .ref c)
    (hm : (P, X.env.qual ++ "<lambda>") ∈ T) (hu : ∀ p ∈ T, p.1 = P → p.2 = X.env.qual ++ "<lambda>") (hT : Tabs T H) (hdef : defaultsOf params X.env = ([], [])) (hfree : ∀ y ∈ scope.names, y.2 = .free → ∃ c, X.env.cells.lookup y.1 = some c)
    (h : ∀ (f c' : Addr) (pm ctv : Value) (H1 : Hp) (s' : Shared), Inv X pins σ H1 s' → ButP P H H1 → Tabs T H1 → s'.heap.get? f = some (PySem.W.kla_obj "<lambda>" (X.env.qual ++ "<lambda>") params body scope (cloFrom X.env.cells scope.names []) pm c' ctv) →
      H1 f = none → f ∉ frs X.stack → H1 c' = some (CodeO c' (X.env.qual ++ "<lambda>")) → Q (.ref f) s') : wpAny (model X.prog X.w) X.A (eval (.Lambda params body scope pos) X.env) Q E s := by
  have far : ∀ f, s.heap.objs.size ≤ f → f ∉ frs X.stack := fun f hf m => (List.mem_cons.mp (I.stkSub _ m)).elim (fun e => absurd (Nat.lt_of_lt_of_le (e ▸ I.lt) hf) (Nat.lt_irrefl _)) (I.nofs hf)
  obtain ⟨ts, tP, tok, tc⟩ := hT _ hm
  have atP : s.heap.get? P = some { cls := .none, data := .fields ts } := I.hok P _ tP
  have bm : s.heap.BuiltinsAt X.mg P := TB.bm.keeps I.bk
  refine PySem.W.kla_eval hdef ?_
  rcases hc : codeAmong pos ts.toList with _ | cv
  · refine PySem.W.kla_makeFunction (mg := X.mg) (c := c) (P := P) (ps := ts) (closure_ok hfree) I.ok.glob (I.mod.glob.keeps I.bk) hcode (TB.code.keeps I.bk) atP tok hc TB.gP bm fun c' ctv h' tk hx hge hlt ⟨c2, oc, vs, t, e2, hoc, hd, hv⟩ htb => ?_
    cases e2
    have big : s.heap.objs.size ≤ h'.objs.size := Nat.le_trans hge (Nat.le_of_lt hlt)
    have new : H c' = none := I.hok.fresh hge
    have cP : c' ≠ P := Ne.symm (ne_of_none tP new)
    let three : Array Value := #[rawInt pos.line, rawInt pos.col, .ref c']
    let fo := PySem.W.kla_obj "<lambda>" (X.env.qual ++ "<lambda>") params body scope (cloFrom X.env.cells scope.names []) ((X.mg "__name__").getD .none) c' ctv
    let H1 := upd (upd H P (.tbl (ts ++ three))) c' (CodeO c' (X.env.qual ++ "<lambda>"))
    have stay : ButP P H H1 := fun b o n e => by
      show upd (upd H P _) c' _ b = _
      rw [upd_ne (ne_of_none e new), upd_ne n]
      exact e
    have J : Inv X pins σ H1 { s with heap := h'.push fo, toks := tk } := inv_table (t' := tk) (more := three) (h' := h'.push fo) I tP (fun b o hb e => Heap.get?_push_of_some _ (hx b o hb e)) (Heap.get?_push_of_some _ htb) hge ⟨oc, vs, t, Heap.get?_push_of_some _ hoc, hd, hv⟩
    have split : (ts ++ three).toList = ts.toList ++ [rawInt pos.line, rawInt pos.col, .ref c'] := by simp [three]
    refine h h'.objs.size c' ((X.mg "__name__").getD .none) ctv H1 _ J stay (fun p hp => ?_) (Heap.get?_push_size _ rfl) ?_ (far _ big) upd_same
    · by_cases hb : p.1 = P
      · rw [hu p hp hb, hb]
        refine ⟨ts ++ three, ?_, by rw [split]; exact PySem.TriplesOk_snoc _ _ _ _ tok, fun q cv hq => ?_⟩
        · show upd (upd H P _) c' _ P = _
          rw [upd_ne (Ne.symm cP), upd_same]
        · rw [split] at hq
          rcases among_app _ tok hq with z | z
          · obtain ⟨c0, e1, e2⟩ := tc q cv z
            refine ⟨c0, e1, stay _ _ (fun y => ?_) e2⟩
            rw [y, tP] at e2
            exact codeO_ne _ (Option.some.inj e2).symm
          · exact ⟨c', z, upd_same⟩
      · obtain ⟨us, a1, a2, a3⟩ := hT p hp
        refine ⟨us, stay _ _ hb a1, a2, fun q cv hq => ?_⟩
        obtain ⟨c0, e1, e2⟩ := a3 q cv hq
        refine ⟨c0, e1, stay _ _ (fun y => ?_) e2⟩
        rw [y, tP] at e2
        exact codeO_ne _ (Option.some.inj e2).symm
    · have sP := Heap.lt_size atP
      show upd (upd H P _) c' _ h'.objs.size = none
      rw [upd_ne (Nat.ne_of_gt hlt), upd_ne (Nat.ne_of_gt (Nat.lt_of_lt_of_le sP big))]
      exact I.hok.fresh big
  · obtain ⟨c', rfl, hco⟩ := tc pos cv hc
    refine PySem.W.kla_makeFunctionHit (mg := X.mg) (c := c) (P := P) (ps := ts) (closure_ok hfree) I.ok.glob (I.mod.glob.keeps I.bk) hcode (TB.code.keeps I.bk) atP tok hc bm fun ctv h' tk hx big => ?_
    exact h h'.objs.size c' _ ctv H _ (I.kept fun b o e => Heap.get?_push_of_some _ (hx b o e)) (ButP.refl H) hT (Heap.get?_push_size _ rfl) (I.hok.fresh big) (far _ big) hco
end
def tLamP (T : List (Addr × Str)) (P : Addr) (TT : (XK → Hp → VK → Prop) → Hp → VK → Prop) (t : XK → TE) : TE := fun σ H Q => Tabs T H ∧ ∀ H1, ButP P H H1 → Tabs T H1 → TT (fun E H' Q' => t E σ H' Q') H1 Q
theorem pe_lamP {X : Cx} {T : List (Addr × Str)} {TT : (XK → Hp → VK → Prop) → Hp → VK → Prop} {x a : Str} {g c P : Addr} {k : Nat} {pg : Arguments} {bg : List Stmt} {sg : Scope} {dV kV doc pm cdv ct oc : Value} {an od : Option Addr} {osl : Array (Option Value)} {Ng : List Str}
    {params : Arguments} {body : Expr} {scope : Scope} {t : XK → TE} {p lpos pos : Pos} (hg : Gl X x) (hm : X.mg x = some (.ref g)) (hk : PySem.W.keepIn X.K (.ref g) = true) (lk : X.K.lookup g = some ⟨oc, od, .func (PySem.W.fnOf x x pg bg sg dV kV doc pm an cdv ct), osl⟩) (hcg : PySem.W.codeIn X.K cdv x = true)
    (hb : L2.Binds X.K (PySem.W.fnOf x x pg bg sg dV kV doc pm an cdv ct) [a] []) (Sg : FnScope Ng [a] sg) (hNg : Ng[0]? = some a) (hva : Vis sg a) (hG : GivesTo X Ng x sg g cdv bg a (X.env.qual ++ "<lambda>") TT)
    (TB : TabB X.base X.mg c P) (hcode : X.env.code = .ref c) (hmT : (P, X.env.qual ++ "<lambda>") ∈ T) (hu : ∀ p ∈ T, p.1 = P → p.2 = X.env.qual ++ "<lambda>") (hr : Room (k + 2) X.A) (L : LamS X.env.scope scope) (hdef : defaultsOf params X.env = ([], []))
    (hbind : ∀ (q : Str) (cl : List (Str × Addr)) (pm cv ctv : Value), bindArgs (PySem.W.kla_fn "<lambda>" q params body scope cl pm cv ctv) ⟨[], []⟩ = pure [])
    (hbody : ∀ (A : Around) (outer : List Env) (s : Shared) (H : Hp) (E : XK) (f c' : Addr), Room k (A.deeper (lamEnv X scope s.heap.objs.size f c')) → PE (lamCx X A outer s H E scope f c') body (t E))
    (hdb : (x == ("__debug__" : Str)) = false := by decide) (hd : (a == ("__debug__" : Str)) = false := by decide) (hcd : (a == ("__classdict__" : Str)) = false := by decide) : PE X (.Call (.Name x p) [.Lambda params body scope lpos] [] pos) (tLamP T P TT t) := by
  refine ⟨fun pins s σ H Q I ⟨hT, h⟩ => ?_⟩
  refine wpAny_Call_Name_kw (ld_glob I hg hm (PySem.W.callWith_K (h₀ := X.base) I.ok.mod.kin hk ?_ (by rfl) (by rfl)) hdb)
  refine Calls.spliced_cons (lam_made I TB hcode hmT hu hT hdef (L.has I.ok) fun f c' pm' ctv H1 s' J but T1 hf hfn hfr hco => Calls.spliced_nil ⟨J.kIn, ?_⟩)
  refine wpAny_call (codeAny_mono (run_ofS (CX := C8.CX0) (E := C8.E0) (Q := Q) (N := Ng) (ps := [a]) (us := [.ref f]) (vs := [.ref f]) lk hcg Sg hr J.env0 (hb s' [.ref f] J.kIn rfl) (.cons rfl .nil) rfl fun hr' => ?_) fun r s2 hq => ?_)
  · obtain ⟨t', p1, p2⟩ := hG f c' s' H1 Q (fun E H' Q' => t E σ H' Q') (fun W pn xe E p1 p2 tk hW => pe_act (i := 0) J L hf hfn hfr (hbind _ _ _ _ _) tk hW hr' (fun A outer s H hr2 => hbody A outer s H E f c' hr2) hNg hva hd hcd) hco (h H1 but T1)
    exact ⟨t', p1.nox, p2⟩
  · rcases r with e | fl
    · exact (show False from hq).elim
    cases fl with
    | ret u => exact J.after hq
    | next => exact False.elim hq
    | brk => exact False.elim hq
    | cont => exact False.elim hq
end LamX
set_option Elab.async false
set_option linter.all false
set_option maxRecDepth 100000
set_option maxHeartbeats 4000000
/-! a try with several clauses, each of which names what it catches -/
namespace TryT
open PySem PySem.Spec PyProof.Rows L2
abbrev Suit := Addr → Value → Option Addr → TS
inductive HdsA (X : Cx) : List ExceptHandler → List (Value × Nat × Suit) → Prop
  | nil : HdsA X [] []
  | cons {x n : Str} {c : Value} {i : Nat} {ts : Suit} {st : Stmt} {more : List Stmt} {p1 p2 : Pos} {r : List ExceptHandler} {l : List (Value × Nat × Suit)} (hc : Names X x c) (hi : X.N[i]? = some n) (hl : X.env.kindOf n = some .local)
      (su : ∀ a oe cls d pn, Zc cls d oe → (∃ vs, oe.data = .fields vs) → PSs (X.suite a ((a, oe) :: pn)) (st :: more) (ts a cls d)) (h : HdsA X r l) : HdsA X (.ExceptHandler (some (.Name x p1)) (some n) (st :: more) p2 :: r) ((c, i, ts) :: l)
/-- what the suite's ends are: the name goes -/
def goneE (i : Nat) (D : Ends) : Ends where
  nx := fun τ G => D.nx (τ.set i none) G
  rt := D.rt
  bk := fun τ G => D.bk (τ.set i none) G
  ct := fun τ G => D.ct (τ.set i none) G
def wAll (K : PySem.W.Frag) (Wout : WX) (D : Ends) : List (Value × Nat × Suit) → WX
  | [] => Wout
  | (c, i, ts) :: r => fun cls d σ H => ∃ b, PySem.W.exmOne K cls c = some b ∧ (b = true → ∀ a, H a = none → ts a cls d (goneE i D) (σ.set i (some (.ref a))) H) ∧ (b = false → wAll K Wout D r cls d σ H)
section
variable {X : Cx} {body : List Stmt} {pos : Pos} {tb : WX → TS} {Wout : WX} {D : Ends} {pins : List (Addr × Obj)} {σ : L2.St} {H : Hp} {s sI : Shared}
/-- the suite's run, its name bound ahead and gone behind -/
theorem suite_named {E1 E2 : Value → Shared → Prop} {a : Addr} {oe : Obj} {n : Str} {i : Nat} {p2 : Pos} {t : TS} {sts : List Stmt} (ok : X.Ok) (hN : X.N.Nodup) (hi : X.N[i]? = some n) (hl : X.env.kindOf n = some .local)
    (S : Inv (X.suite a ((a, oe) :: (X.pn ++ pins))) [] σ H s) (hp : PSs (X.suite a ((a, oe) :: (X.pn ++ pins))) sts t) (h : t (goneE i D) (σ.set i (some (.ref a))) H) :
    wpAny (model X.prog X.w) (X.A.mark (some (.ref a))) (storeName X.env n (.ref a)) (fun _ s5 => wpAny (model X.prog X.w) (X.A.mark (some (.ref a))) (execs sts X.env)
      (fun f s6 => wpAny (model X.prog X.w) X.A (do bindName X.env n .none; unbindBehindTheSuite X.env n p2) (fun _ s7 => SP X pins D f s7) X.xe s6) E2 s5) E1 s := by
  refine store_ok (X := X.suite a ((a, oe) :: (X.pn ++ pins))) (v := .ref a) S hN hi (.inl hl) rfl (fun s5 S5 => ?_) (.inr hl)
  refine wpAny_mono (hp.run [] s5 _ H _ S5 h) (fun f s6 z => ?_) fun _ _ z => z.elim
  have fin : ∀ {τ : L2.St} {G : Hp}, Inv (X.suite a ((a, oe) :: (X.pn ++ pins))) [] τ G s6 → (∀ s7, Inv X pins (τ.set i none) G s7 → SP X pins D f s7) → wpAny (model X.prog X.w) X.A (do bindName X.env n .none; unbindBehindTheSuite X.env n p2) (fun _ s7 => SP X pins D f s7) X.xe s6 := fun {τ G} J q => gone_ok (J.unsuite ok) hN hi hl q
  cases f
  case next => exact let ⟨_, _, J, q⟩ := z; fin J fun _ J' => ⟨_, _, J', q⟩
  case brk => exact let ⟨_, _, J, q⟩ := z; fin J fun _ J' => ⟨_, _, J', q⟩
  case cont => exact let ⟨_, _, J, q⟩ := z; fin J fun _ J' => ⟨_, _, J', q⟩
  case ret u => exact let ⟨_, _, _, J, r, q⟩ := z; fin J fun _ J' => ⟨_, _, _, J', r, q⟩
theorem ps_try_named {h₀ : ExceptHandler} {r₀ : List ExceptHandler} {l : List (Value × Nat × Suit)} (hs : X.stack = X.env :: X.outer) (hf : X.env.frame = some X.env.locals) (hN : X.N.Nodup) (tk : Takes X Wout)
    (hb : ∀ W pn xe, Takes (X.tr pn xe) W → PassesOwn (model X.prog X.w) X.A X.env xe → PSs (X.tr pn xe) body (tb W)) (hh : HdsA X (h₀ :: r₀) l) :
    PS X (.Try body (h₀ :: r₀) [] [] pos) (fun D τ G => tb (wAll X.K Wout D l) D τ G) := by
  refine ⟨fun pins s σ H D I h => ?_⟩
  have ok := I.ok
  have frA : X.A.frames = some (X.env :: X.outer) := ok.frames.trans (congrArg some hs)
  refine wpAny_Try_except (wpAny_mono ((hb (wAll X.K Wout D l) (X.pn ++ pins) _ (fun u s' ⟨a, B, sI, pq, τ, G, cls, d, eu, J', nb, up, sky, na, os, ag, w⟩ => ?c1) PassesOwn.looking).run [] s σ H D (I.toTry _) h) (fun f s1 z => ?c2) fun _ _ z => z)
  case c2 =>
    cases f
    case next => exact let ⟨_, _, J, q⟩ := z; wpAny_execs_nil ⟨_, _, J.ofTry ok, q⟩
    case brk => exact let ⟨_, _, J, q⟩ := z; ⟨_, _, J.ofTry ok, q⟩
    case cont => exact let ⟨_, _, J, q⟩ := z; ⟨_, _, J.ofTry ok, q⟩
    case ret u => exact let ⟨_, _, _, J, r, q⟩ := z; ⟨_, _, _, J.ofTry ok, r, q⟩
  case c1 =>
    subst eu
    have J := J'.ofTry ok
    rw [hs] at sky
    refine Sky.land Zc.steady frA hf sky fun h3 fl up3 => ?_
    have up13 := up.trans up3
    have J3 := J.landed (s' := { s' with heap := h3 }) nb fl.1 up13 os ag
    have far : ∀ {h : Heap} {oo : Obj} {xs : Array Value}, h.FunFrames B (X.env :: X.outer) → h.get? a = some oo → oo.data = .fields xs → ∀ e ∈ X.env :: X.outer, e.frame ≠ some a := fun ff e dd x hx q => by
      obtain ⟨_, o2, e2, nd⟩ := ff.mem (List.mem_filterMap.mpr ⟨x, hx, q⟩)
      rw [e] at e2
      cases e2
      exact nd _ dd
    obtain ⟨oe, xs, he, hz, hd⟩ := fl.there
    have away := far fl.2.2.1 he hd
    have nL : a ≠ X.env.locals := fun q => away X.env (List.mem_cons_self ..) (by rw [hf, q])
    have nF : a ∉ X.fs := fun m => by
      obtain ⟨x, hx, q⟩ := List.mem_filterMap.mp m
      exact away x (List.mem_cons_of_mem _ hx) q
    have S3 := J3.suite he hd na nL nF
    have walk : ∀ {r : List ExceptHandler} {l' : List (Value × Nat × Suit)}, HdsA X r l' → wAll X.K Wout D l' cls d τ G → wpAny (model X.prog X.w) X.A (handleBy (.ref a) X.env r) (SP X pins D) X.xe { s' with heap := h3 } := fun {r l'} hk => by
      induction hk with
      | nil =>
        intro w
        obtain ⟨_, _, _, o5, v5, T5, _, _, he5, _, hd5, t5, _⟩ := id fl
        refine wpAny_handleBy_nil ?_
        unfold PySem.passOn
        refine wpAny_bind (wpAny_field he5 hd5 t5 ?_)
        rw [if_neg (by simp : ¬ ((Value.ref T5 == Value.none) = true))]
        have on : wpAny (model X.prog X.w) X.A (setFlight (.ref a) X.env.frame) (fun _ s4 => wpAny (model X.prog X.w) X.A (throw (.ref a) : Sem Flow) (SP X pins D) X.xe s4) X.xe { s' with heap := h3 } := by
          rw [hf]
          refine HandSPX.setFlight_upZ fl fun _ hh up4 => wpAny_throw (tk _ _ ⟨a, B, sI, pins, τ, G, cls, d, rfl, J, nb, up13.trans up4, ?_, na, os, ag, w⟩)
          rw [hs]
          exact .inr (.inr hh)
        first
          | exact wpAny_bind (wpAny_pure (wpAny_bind on))
          | exact wpAny_bind on
      | cons hc hi hl su more ih =>
        intro ⟨b, e1, yes, no⟩
        refine wpAny_handleBy_cons (codeAny_handlers_test ?_) (fun q => by cases q)
        have look : PySem.W.Looks (model X.prog X.w) h3 (typeOf (.ref a)) cls := fun _ _ _ _ k q => wpAny_typeOf_ref (k _ _ he) (by rw [hz.1]; exact q)
        have hit := PySem.W.exm_one (M := model X.prog X.w) J3.kIn look e1
        refine (show ∀ {Q E : Value → Shared → Prop}, Q _ { s' with heap := h3 } → wpAny (model X.prog X.w) (X.A.mark (some (.ref a))) (eval (.Name _ _) X.env) Q E { s' with heap := h3 } from fun {Q E} q => ?_) (hit.here ?_)
        · rcases hc with ⟨g1, g2, g3 | ⟨g3, g4, g5⟩⟩
          · exact ld_glob (X := X.suite a ((a, oe) :: (X.pn ++ pins))) S3 g1 g3 q g2
          · exact ld_blt (X := X.suite a ((a, oe) :: (X.pn ++ pins))) S3 g1 g3 g4 q g5 g2
        cases b
        case false => exact ih (no rfl)
        case true =>
          refine codeAny_handlers_suite_as (HandSPX.lands_againZ fl fun h4 fl4 up4 => ?_)
          obtain ⟨o4, x4, he4, hz4, hd4⟩ := fl4.there
          have S4 := (J.landed (s' := { s' with heap := h4 }) nb fl4.1 (up13.trans up4) os ag).suite he4 hd4 na nL nF
          exact suite_named ok hN hi hl S4 (su a o4 cls d _ hz4 ⟨_, hd4⟩) (yes rfl a na)
    exact walk hh w
end
end TryT
set_option Elab.async false
set_option linter.all false
set_option maxRecDepth 100000
set_option maxHeartbeats 4000000
/-! what a def hears of a lambda -/
namespace TryT
open PySem PySem.Spec PyProof.Rows L2 LamX Evl Gen
theorem pss_len {X : Cx} {sts : List Stmt} {t : TS} (h : PSs X sts t) : PSs X sts fun D σ H => σ.length = X.N.length → t D σ H := ⟨fun pins s σ H D I z => h.run pins s σ H D I (z I.len)⟩
theorem takes_lam {X : Cx} {A : Around} {outer : List Env} {s : Shared} {H : Hp} {E : XK} {scope : Scope} {f c' : Addr} : Takes (lamCx X A outer s H E scope f c') (fun cls d _ H' => E cls d H') := takes_of rfl rfl rfl rfl
theorem passes_lam {X : Cx} {A : Around} {outer : List Env} {s : Shared} {H : Hp} {E : XK} {scope : Scope} {f c' : Addr} : Passes (L2.CX X.prog X.w) (lamCx X A outer s H E scope f c') E := passes_call takes_lam fun _ _ _ _ h => h
theorem ExC.xf {K : PySem.W.Frag} {C : Addr} (T : ExC K C) : XfC K C := ⟨T.ga, T.gg, T.exC, T.hd⟩
theorem set3 {α : Type} {σ : List α} {x : α} (h : (σ.set 2 x).length = 3) : ∃ a b, σ.set 2 x = [a, b, x] := by
  match σ, h with
  | [a, b, c], _ => exact ⟨a, b, rfl⟩
/-- the body of the try: x = f() -/
def tbGot (f c' : Addr) (q : Str) (tl : XK → Hp → VK → Prop) (i : Nat) (W : WX) : TS := fun D σ H => ∃ Ech : XK, (∀ cls d σ' H', Ech cls d H' → W cls d σ' H') ∧ σ[0]? = some (some (.ref f)) ∧ H c' = some (CodeO c' q) ∧ tl Ech H fun v H' => D.nx (σ.set i (some v)) H'
open RP
/-- repr of what the caught error bears -/
theorem er_held {K : PySem.W.Frag} {a C dd : Addr} {f : Str} {i : Nat} {σ : L2.St} {H : Hp} {v : V} {x : PyData} (hi : σ[i]? = some (some (.ref a))) (hd : H dd = some (.xd [(f, v)])) (h : Dv H v x) (h1 : x.showable = true) (h2 : x.depth ≤ 40) (h3 : x.shown.length ≤ sizeLine) :
    EvR rS [] (tCB (rRepr K) (tCons (tXf a (.ref C) (some dd) C f (tVar i)) tNil)) σ H x.shown :=
  er_reprD (fun H1 e o Q q => ⟨_, hi, rfl, rfl, dd, _, v, rfl, e _ _ hd, by simp, q v H1 (Ex.refl _) (by rw [Rm_nil]; exact h.ex e)⟩) h1 h2 h3
/-- [kind, repr(e.f), isinstance(e, B)] told -/
theorem hear_read {K : PySem.W.Frag} {a C B dd : Addr} {f kind : Str} {i : Nat} {σ : L2.St} {H : Hp} {v : V} {x : PyData} {D : Ends} {b : Bool} (hi : σ[i]? = some (some (.ref a))) (hd : H dd = some (.xd [(f, v)])) (h : Dv H v x) (h1 : x.showable = true) (h2 : x.depth ≤ 40)
    (h3 : x.shown.length ≤ sizeLine) (hb : PySem.W.kitOne K (.ref C) (.ref B) = some b) (k : ∀ t H1, Ex H H1 → H t = none → H1 t = some (.lst [.str kind, .str x.shown, .bl b]) → D.rt (.ref t) H1) :
    tRet (tLst (tCons (tC (.str kind)) (tCons (tCB (rRepr K) (tCons (tXf a (.ref C) (some dd) C f (tVar i)) tNil)) (tCons (tCB (rIsX K (.ref C) C a (some dd)) (tCons (tVar i) (tCons (tC (.ref B)) tNil))) tNil)))) D σ H :=
  er_held hi hd h h1 h2 h3 H (Ex.refl H) (fun _ z => nomatch z) _ fun w H1 e1 r => by
    obtain rfl : w = .str x.shown := r
    exact ⟨_, hi, .ref B, .ref B, b, dd, _, rfl, rfl, fun u z => z, hb, rfl, e1 _ _ hd, sz_of (by show 3 ≤ 100000; decide), fun t ht => k t _ (e1.trans (Ex.new ht)) (none_of e1 ht) upd_same⟩
end TryT
set_option Elab.async false
set_option linter.all false
set_option maxRecDepth 100000
set_option maxHeartbeats 4000000
/-! promises of methods that may raise -/
namespace RP
open PySem PySem.Spec PyProof.Rows L2 Evl Gen
/-- what is raised bears the value v -/
def ErrQ (E : XK) (H : Hp) (C : Addr) (f : Str) (v : V) : Prop := ∀ d H', Ex H H' → H d = none → H' d = some (.xd [(f, v)]) → E (.ref C) (some d) H'
theorem ErrQ.ex {E : XK} {H H' : Hp} {C : Addr} {f : Str} {v : V} (h : ErrQ E H C f v) (e : Ex H H') : ErrQ E H' C f v := fun d G eG nd hd => h d G (e.trans eG) (none_of e nd) hd
theorem t_raise {C : Addr} {f : Str} {i : Nat} {σ : L2.St} {H H1 : Hp} {v : V} {E : XK} (hi : σ[i]? = some (some v)) (k : ErrQ E H C f v) (e : Ex H H1) : tRone C f (tVar i) σ H1 fun cls d H' => E cls d H' := ⟨v, hi, fun d hd => k d _ (e.trans (Ex.new hd)) (none_of e hd) upd_same⟩
/-- the promises of one def, together: what it may raise is told by the second one -/
theorem fn_either {P : Program} {w : World} {K : PySem.W.Frag} {mg : Str → Option Value} {base : Heap} {k j : Nat} {f : Addr} {fd : FuncData} {ps : List Str} {s1 s2 : Sp} (F1 : FnOk P w K mg base CX0 k f fd ps s1) (F2 : FnOk P w K mg base (L2.CX P w) j f fd ps s2) (hk : k ≤ j) :
    FnOk P w K mg base (L2.CX P w) j f fd ps fun vs H Q E => s1 vs H Q E0 ∨ s2 vs H Q E where
  len := fun vs H Q E h => h.elim (F1.len vs H Q E0) (F2.len vs H Q E)
  run := fun A outer s H args us vs Q E hr e0 hb r h => by
    rcases h with h | h
    · refine codeAny_mono (F1.run A outer s H args us vs Q E0 (hr.mono hk) e0 hb r h) fun z s' hz => ?_
      cases z with
      | error e => exact (show False from hz).elim
      | ok fl => cases fl <;> exact hz
    · exact F2.run A outer s H args us vs Q E hr e0 hb r h
end RP
set_option Elab.async false
set_option linter.all false
set_option maxRecDepth 100000
set_option maxHeartbeats 4000000
/-! threads: own things that calls change, with what is kept of them -/
namespace RP
open PySem PySem.Spec PyProof.Rows L2 Evl Gen LamX
structure Th where
  A : List Addr
  I : Hp → Prop
  st : ∀ {H H' : Hp}, Ex H H' → I H → I H'
  ow : ∀ {H : Hp}, I H → Own A H
section
variable {α β : Type} {R : Rp α} {S : Rp β} {K : PySem.W.Frag} {ps : List Addr} {th : Th} {σ : L2.St} {H H' H2 : Hp} {ta tb tc te : TE} {tr : TA} {tt t u : TT} {v w : V} {a : α} {C : α → Prop} {D : Ends} {tu tz : TS} {g : TG} {b x y : Bool} {i : Nat}
/-- all but the thread's own stands -/
def Th.To (th : Th) (H H' : Hp) : Prop := Ex (Rm th.A H) (Rm th.A H') ∧ th.I H'
theorem Th.ex (h : th.I H) (e : Ex H H') : th.To H H' := ⟨Rm_mono e, th.st e h⟩
theorem Th.trans (a : th.To H H') (b : th.To H' H2) : th.To H H2 := ⟨a.1.trans b.1, b.2⟩
theorem Th.rm (r : th.To H H') (m : ∀ q ∈ th.A, q ∈ ps) : Ex (Rm ps H) (Rm ps H') := fun c o hc => by
  have nc : c ∉ ps := fun z => by rw [Rm_own z] at hc; cases hc
  exact Rm_get (Rm_ex _ _ (r.1 _ _ (Rm_get (Rm_ex _ _ hc) fun z => nc (m _ z)))) nc
theorem Th.own (r : th.To H H') (o : Own ps H) : Own ps H' := fun q hq => by
  by_cases hA : q ∈ th.A
  · exact th.ow r.2 q hA
  · obtain ⟨ob, ho, hn⟩ := o q hq
    exact ⟨ob, Rm_ex _ _ (r.1 _ _ (Rm_get ho hA)), hn⟩
theorem Th.fr (r : th.To H H') (m : ∀ q ∈ th.A, q ∈ ps) (o : Own ps H) : Fr ps H H' := ⟨Th.own r o, Th.rm r m⟩
theorem Th.keep {q : Addr} {ob : HO} (r : th.To H H') (n : q ∉ th.A) (h : H q = some ob) : H' q = some ob := Rm_ex _ _ (r.1 _ _ (Rm_get h n))
/-- an expression that changes the thread's own -/
def EvK (C : α → Prop) (R : Rp α) (ps : List Addr) (th : Th) (te : TE) (σ : L2.St) (H : Hp) : Prop := ∀ H1, Ex H H1 → Own ps H1 → ∀ Q : VK, (∀ a v H2, th.To H1 H2 → C a → R.p a v (Rm ps H2) → Q v H2) → te σ H1 Q
def EtK (b : Bool) (ps : List Addr) (th : Th) (tt : TT) (σ : L2.St) (H : Hp) : Prop := ∀ H1, Ex H H1 → Own ps H1 → ∀ Q : Bool → Hp → Prop, (∀ H2, th.To H1 H2 → Q b H2) → tt σ H1 Q
theorem EtK.of (h0 : th.I H) (h : EtR ps t σ H b) : EtK b ps th t σ H := fun H1 e o Q q => h H1 e o Q fun H2 e2 => q H2 (Th.ex (th.st e h0) e2)
theorem EvK.of (h0 : th.I H) (h : EvR R ps te σ H a) : EvK (fun z => z = a) R ps th te σ H := fun H1 e o Q q => h H1 e o Q fun v H2 e2 r => q a v H2 (Th.ex (th.st e h0) e2) rfl r
theorem EvK.imp {C' : α → Prop} (h : EvK C R ps th te σ H) (k : ∀ a, C a → C' a) : EvK C' R ps th te σ H := fun H1 e o Q q => h H1 e o Q fun a v H2 f c r => q a v H2 f (k a c) r
theorem EvK.map {f : α → β} (h : EvK C R ps th te σ H) (k : ∀ a v G, C a → R.p a v G → S.p (f a) v G) : EvK (fun z => ∃ a, C a ∧ z = f a) S ps th te σ H := fun H1 e o Q q => h H1 e o Q fun a v H2 r c p => q (f a) v H2 r ⟨a, c, rfl⟩ (k a v _ c p)
theorem etk_not (h : EtK x ps th t σ H) : EtK (!x) ps th (tNot t) σ H := fun H1 e o Q q => h H1 e o _ fun H2 e2 => q H2 e2
theorem etk_or (h1 : EtK x ps th t σ H) (h0 : th.I H) (h2 : x = false → ∀ H2, th.To H H2 → EtK y ps th u σ H2) : EtK (x || y) ps th (tOr t u) σ H := fun H1 e o Q q => h1 H1 e o _ fun H2 f => by
  cases x with
  | true =>
    show Q true H2
    exact q H2 f
  | false =>
    show u σ H2 Q
    exact h2 rfl H2 (Th.trans (Th.ex h0 e) f) H2 (Ex.refl _) (Th.own f o) Q fun H3 f3 => q H3 (Th.trans f f3)
theorem etk_B (h : EvK (fun z => z = b) rB ps th te σ H) : EtK b ps th (tB te) σ H := fun H1 e o Q q => h H1 e o _ fun z v H2 f c r => ⟨b, by rw [← c]; exact r, q H2 f⟩
theorem s_whenK' (o : Own ps H) (h : EtK b ps th t σ H) (h1 : b = true → ∀ H1, th.To H H1 → tu D σ H1) (h2 : b = false → ∀ H1, th.To H H1 → D.nx σ H1) : tIfS t tu tNext D σ H := h H (Ex.refl H) o _ fun H1 f => by
  cases b with
  | true => exact h1 rfl H1 f
  | false => exact h2 rfl H1 f
theorem q_whenK' (o : Own ps H) (h : EtK b ps th t σ H) (h1 : b = true → ∀ H1, th.To H H1 → tu { D with nx := tz D } σ H1) (h2 : b = false → ∀ H1, th.To H H1 → tz D σ H1) : tSeq (tIfS t tu tNext) tz D σ H := s_whenK' (D := { D with nx := tz D }) o h h1 h2
theorem q_asgK (o : Own ps H) (h : EvK C R ps th te σ H) (k : ∀ a v H1, th.To H H1 → C a → R.p a v (Rm ps H1) → tz D (σ.set i (some v)) H1) : tSeq (tAsg te (gName i)) tz D σ H := h H (Ex.refl H) o _ k
theorem s_asgK (o : Own ps H) (h : EvK C R ps th te σ H) (k : ∀ a v H1, th.To H H1 → C a → R.p a v (Rm ps H1) → D.nx (σ.set i (some v)) H1) : tAsg te (gName i) D σ H := h H (Ex.refl H) o _ k
theorem s_retK (o : Own ps H) (h : EvK C R ps th te σ H) (k : ∀ a v H1, th.To H H1 → C a → R.p a v (Rm ps H1) → D.rt v H1) : tRet te D σ H := h H (Ex.refl H) o _ k
/-! ### tables -/
theorem tab_own {T : List (Addr × Str)} {H : Hp} (h : Tabs T H) : Own (T.map (·.1)) H := fun p hp => by
  obtain ⟨x, hx, rfl⟩ := List.mem_map.mp hp
  obtain ⟨ts, h1, _⟩ := h x hx
  exact ⟨_, h1, fun xs z => by cases z⟩
/-- the tables' thread -/
def thT (T : List (Addr × Str)) : Th := ⟨T.map (·.1), Tabs T, fun e h => h.ext e, tab_own⟩
theorem but_rm {P : Addr} {A : List Addr} (h : ButP P H H') (m : P ∈ A) : Ex (Rm A H) (Rm A H') := fun c o hc => by
  have nc : c ∉ A := fun z => by rw [Rm_own z] at hc; cases hc
  exact Rm_get (h c o (fun z => nc (z ▸ m)) (Rm_ex _ _ hc)) nc
/-- what a def hears of a lambda, as an expression: P, the maker's own table -/
theorem ek_lam {T : List (Addr × Str)} {P : Addr} {q : Str} {TT : (XK → Hp → VK → Prop) → Hp → VK → Prop} {tl : XK → TE} (hP : (P, q) ∈ T) (hA : ∀ p ∈ T, p.1 ∈ th.A) (h0 : ∀ {G}, th.I G → Tabs T G) (hI : ∀ {G G'}, th.I G → ButP P G G' → Tabs T G' → th.I G') (hi : th.I H)
    (k : ∀ H1, th.To H H1 → Own ps H1 → ∀ Q : VK, (∀ a v H2, th.To H1 H2 → C a → R.p a v (Rm ps H2) → Q v H2) → TT (fun E G Q' => tl E σ G Q') H1 Q) : EvK C R ps th (tLamP T P TT tl) σ H := fun H1 e o Q q => by
  have i1 := th.st e hi
  refine ⟨h0 i1, fun H2 but t2 => ?_⟩
  have r12 : th.To H1 H2 := ⟨but_rm but (hA _ hP), hI i1 but t2⟩
  exact k H2 (Th.trans (Th.ex hi e) r12) (Th.own r12 o) Q fun a v H3 r c p => q a v H3 (Th.trans r12 r) c p
end
end RP
set_option Elab.async false
set_option linter.all false
set_option maxRecDepth 100000
set_option maxHeartbeats 4000000
/-! defs that make lambdas: their code object; methods called by keywords in another sequence -/
namespace L2
open PySem PySem.Spec PyProof.Rows
theorem code_at {K : PySem.W.Frag} {f : Addr} {oc : Value} {od : Option Addr} {osl : Array (Option Value)} {name qual : Str} {params : Arguments} {body : List Stmt} {scope : Scope} {dV kV doc pm cdv ct : Value} {an : Option Addr}
    (lk : K.lookup f = some ⟨oc, od, .func (PySem.W.fnOf name qual params body scope dV kV doc pm an cdv ct), osl⟩) (hcd : PySem.W.codeIn K cdv qual = true) : cdv = .ref (He.codeAt K f) := by
  unfold He.codeAt
  rw [lk]
  cases cdv with
  | ref c => rfl
  | _ => exact absurd hcd Bool.false_ne_true
theorem Fun.okGC {P : Program} {w : World} {K : PySem.W.Frag} {mg : Str → Option Value} {base : Heap} {x qual : Str} {st : Stmt} {f : Addr} {fd : FuncData} {N ps : List Str} {k : Nat} {sp : Sp} (F : Fun K x qual st f fd) (S : FnScope N ps (defScope st)) (len : ∀ vs H Q E, sp vs H Q E → vs.length = ps.length)
    (hbody : ∀ (cdv : Value) (A : Around) (outer : List Env) (s : Shared) (H : Hp) (vs : List V) (Q : VK) (E : XK), cdv = .ref (He.codeAt K f) → (A.deeper (envOfC qual (defScope st) s.heap.objs.size f cdv)).guards = some [] → Room k (A.deeper (envOfC qual (defScope st) s.heap.objs.size f cdv)) → sp vs H Q E →
      ∃ t, PSs (cxOf CX0 P w K mg base N qual (defScope st) f cdv A outer s H E).nox (defBody st) t ∧ t { nx := fun _ H' => Q .non H', rt := Q } (start N vs) H) : FnOkG P w K mg base CX0 (k + 1) f fd ps sp := by
  obtain ⟨oc, od, kV, doc, pm, an, cdv, ct, osl, rfl, lk, hcd⟩ := F.ex
  refine fn_ofG lk hcd S len fun A outer s H vs Q E hG hr hsp => ?_
  obtain ⟨t, h, q⟩ := hbody cdv A outer s H vs Q E (code_at lk hcd) hG hr hsp
  exact ⟨t, h.nox, q⟩
/-- two keywords, told in the other sequence -/
theorem Fun.kbnR {K : PySem.W.Frag} {x qual : Str} {st : Stmt} {f : Addr} {fd : FuncData} {ps ks : List Str} {n : Nat} (F : Fun K x qual st f fd) (h : ∀ (kV doc pm : Value) (an : Option Addr) (cdv ct : Value) (us ws : List Value), us.length = n → ws.length = ks.length →
    bindArgs (PySem.W.fnOf x qual (defArgs st) (defBody st) (defScope st) .none kV doc pm an cdv ct) ⟨us, ks.zip ws⟩ = pure (ps.zip (us ++ ws.reverse))) : KBn K fd ps n ks (fun us ws => us ++ ws.reverse) (fun vs zs => vs ++ zs.reverse) := by
  obtain ⟨oc, od, kV, doc, pm, an, cdv, ct, osl, rfl, lk, hcd⟩ := F.ex
  exact ⟨fun s us ws X l1 l2 => .of_eq (h kV doc pm an cdv ct us ws l1 l2), fun r q => r.append q.rev⟩
end L2
set_option Elab.async false
set_option linter.all false
set_option maxRecDepth 100000
set_option maxHeartbeats 4000000
/-! a def called by keywords alone -/
namespace L2
open PySem PySem.Spec PyProof.Rows
def tCallK0 (n : Nat) (sp : Sp) (gV : List V → List V → List V) (E : XK) (tk : TA) : TE := fun σ H Q => tk σ H fun zs H2 => zs.length = n ∧ sp (gV [] zs) H2 Q E
section
variable {X : Cx} {CX : CXT} {k : Nat} {f C : Addr} {fd : FuncData} {ps ks : List Str} {sp : Sp} {E : XK} {x m : Str} {p pos apos : Pos} {kws : List Keyword} {t tk : TA} {g : List Value → List Value → List Value} {gV : List V → List V → List V}
theorem pe_callK0 (F : FnOk X.prog X.w X.K X.mg X.base CX k f fd ps sp) (hr : Room k X.A) (hg : Gl X x) (hm : X.mg x = some (.ref f)) (hk : PySem.W.keepIn X.K (.ref f) = true) (hb : KBn X.K fd ps 0 ks g gV) (hx : Passes CX X E)
    (hkw : PK X kws tk) (hall : (backToKw pos (keywordEach kws X.env)).all (·.1.isSome) = true := by rfl) (hks : (backToKw pos (keywordEach kws X.env)).filterMap (·.1) = ks := by rfl)
    (hdb : (x == ("__debug__" : Str)) = false := by decide)
    (hpl : ((backTo pos (starEach [] X.env)).any (·.1) || (backToKw pos (keywordEach kws X.env)).any (·.1.isNone)) = false := by rfl) :
    PE X (.Call (.Name x p) [] kws pos) (tCallK0 ks.length sp gV E tk) := by
  refine ⟨fun pins s σ H Q I h => ?_⟩
  refine wpAny_Call_Name_kw (ld_glob I hg hm ?_ hdb)
  refine PySem.W.callWith_KW0 (h₀ := X.base) I.ok.mod.kin hk hall (thn (hkw.run pos pins s σ H _ I h) fun ws s2 ⟨zs, H2, I2, rz, l2, q2⟩ => ⟨I2.kIn, ?_⟩) hpl
  rw [hks]
  exact run_fnN (us := []) (vs := []) F hr hb hx I2 .nil rz rfl l2 q2
end
end L2
set_option Elab.async false
set_option linter.all false
set_option maxRecDepth 100000
set_option maxHeartbeats 4000000
namespace K21
open PySem PySem.Spec PyProof.Rows L2 Evl Gen RP
section
variable {P : Program} {w : World} {K : PySem.W.Frag} {mg : Str → Option Value} {base : Heap} {fd : Nat → FuncData}
abbrev rPlan : Rp (List (List Str) × List (Str × Str)) := rP (rL (rL rS)) (rL rE)
/-! ### products turned -/
theorem fm_app {α β : Type} {f g : α → List β} : ∀ {l : List α}, (l.flatMap f ++ l.flatMap g).Perm (l.flatMap fun x => f x ++ g x)
  | [] => List.Perm.refl _
  | a :: l => by
    rw [List.flatMap_cons, List.flatMap_cons, List.flatMap_cons, List.append_assoc, List.append_assoc]
    refine List.Perm.append_left _ (List.Perm.trans ?_ (List.Perm.append_left _ fm_app))
    rw [← List.append_assoc, ← List.append_assoc]
    exact List.perm_append_comm.append_right _
theorem fm_nil {α β : Type} : ∀ {l : List α}, (l.flatMap fun _ => ([] : List β)) = []
  | [] => rfl
  | _ :: l => by rw [List.flatMap_cons, fm_nil, List.append_nil]
theorem fm_swap {α β γ : Type} {g : α → β → List γ} {ys : List β} : ∀ {xs : List α}, (xs.flatMap fun v => ys.flatMap fun x => g v x).Perm (ys.flatMap fun x => xs.flatMap fun v => g v x)
  | [] => by
    show ([] : List γ).Perm (ys.flatMap fun _ => [])
    rw [fm_nil]
  | a :: xs => by
    rw [List.flatMap_cons]
    refine (List.Perm.append_left _ fm_swap).trans (fm_app.trans (.of_eq ?_))
    congr 1
theorem filt_fm {α β : Type} {p : α → Bool} {h : α → β} : ∀ {l : List α}, (l.filter p).map h = l.flatMap fun x => if p x = true then [h x] else []
  | [] => rfl
  | a :: l => by
    rw [List.filter_cons, List.flatMap_cons, ← filt_fm]
    cases hp : p a <;> simp [hp]
theorem fm_map {α β γ : Type} {f : α → List β} {h : β → γ} : ∀ {l : List α}, (l.flatMap f).map h = l.flatMap fun x => (f x).map h
  | [] => rfl
  | a :: l => by rw [List.flatMap_cons, List.flatMap_cons, List.map_append, fm_map]
theorem xprod_fm {xs ys : List Str} : xprod xs ys = xs.flatMap fun v => ys.flatMap fun x => if (!decide (v = x)) = true then [(v, x)] else [] := by
  unfold xprod row2
  congr 1
  funext v
  exact filt_fm
theorem xprod_swap {xs ys : List Str} : ((xprod xs ys).map swp).Perm (xprod ys xs) := by
  rw [xprod_fm, xprod_fm, fm_map]
  have e : (fun v : Str => (ys.flatMap fun x => if (!decide (v = x)) = true then [(v, x)] else []).map swp) = fun v => ys.flatMap fun x => if (!decide (x = v)) = true then [(x, v)] else [] := by
    funext v
    rw [fm_map]
    congr 1
    funext x
    by_cases h : v = x
    · subst h
      simp
    · have h2 : ¬ x = v := fun z => h z.symm
      simp [h, h2, swp]
  rw [e]
  exact fm_swap
theorem fnd_swap {es : List (Str × Str)} {d : Str × Str} : ((fnd es d).map swp).Perm (fnd es (d.2, d.1)) := by
  unfold fnd
  rw [List.map_append]
  exact xprod_swap.append xprod_swap
theorem moves_swap {es : List (Str × Str)} {d : Str × Str} : srtT ((movesOf es d).map swp) = movesOf es (d.2, d.1) := srtT_eq (((srtT_perm _).map swp).trans fnd_swap)
theorem mem_upsT {es : List (Str × Str)} {z x : Str} : x ∈ upsT es z ↔ (z, x) ∈ es := by
  unfold upsT
  rw [List.mem_map]
  constructor
  · rintro ⟨e, he, rfl⟩
    obtain ⟨h1, h2⟩ := List.mem_filter.mp he
    rw [← of_decide_eq_true h2]
    exact h1
  · exact fun h => ⟨(z, x), List.mem_filter.mpr ⟨h, decide_eq_true rfl⟩, rfl⟩
theorem mem_dnT {es : List (Str × Str)} {z x : Str} : x ∈ dnT es z ↔ (x, z) ∈ es := by
  unfold dnT
  rw [List.mem_map]
  constructor
  · rintro ⟨e, he, rfl⟩
    obtain ⟨h1, h2⟩ := List.mem_filter.mp he
    rw [← of_decide_eq_true h2]
    exact h1
  · exact fun h => ⟨(x, z), List.mem_filter.mpr ⟨h, decide_eq_true rfl⟩, rfl⟩
theorem mem_moves {es : List (Str × Str)} {d e : Str × Str} : e ∈ movesOf es d ↔ e.1 ≠ e.2 ∧ (((d.1, e.1) ∈ es ∧ (d.2, e.2) ∈ es) ∨ ((e.1, d.1) ∈ es ∧ (e.2, d.2) ∈ es)) := by
  unfold movesOf
  rw [(srtT_perm _).mem_iff]
  unfold fnd
  rw [List.mem_append, mem_xprod, mem_xprod, mem_upsT, mem_upsT, mem_dnT, mem_dnT]
  constructor
  · rintro (⟨a, b, c⟩ | ⟨a, b, c⟩)
    · exact ⟨c, .inl ⟨a, b⟩⟩
    · exact ⟨c, .inr ⟨a, b⟩⟩
  · rintro ⟨c, ⟨a, b⟩ | ⟨a, b⟩⟩
    · exact .inl ⟨a, b, c⟩
    · exact .inr ⟨a, b, c⟩
theorem moves_sym {es : List (Str × Str)} {d e : Str × Str} (hd : d.1 ≠ d.2) (he : e.1 ≠ e.2) : d ∈ movesOf es e ↔ e ∈ movesOf es d := by
  rw [mem_moves, mem_moves]
  constructor
  · rintro ⟨_, h | h⟩
    · exact ⟨he, .inr h⟩
    · exact ⟨hd |> fun _ => he, .inl h⟩
  · rintro ⟨_, h | h⟩
    · exact ⟨hd, .inr h⟩
    · exact ⟨hd, .inl h⟩
/-! ### what the law itself reckons -/
theorem rev_made {rows : List (List Str)} {es : List (Str × Str)} : mkS (rows.map List.reverse) es.reverse = mkS rows es := by
  show ((rows.map List.reverse).map srtS, srtT es.reverse) = (rows.map srtS, srtT es)
  rw [srtT_eq (List.reverse_perm es), List.map_map]
  congr 1
  exact List.map_congr_left fun l _ => srtS_eq (List.reverse_perm l)
theorem rev_mk {rows : List (List Str)} {es : List (Str × Str)} (h : Mk' rows es) : Mk' (rows.map List.reverse) es.reverse where
  lv := by
    have hp : (rows.map List.reverse).flatten.Perm rows.flatten := by
      have : ∀ l : List (List Str), (l.map List.reverse).flatten.Perm l.flatten := fun l => by
        induction l with
        | nil => exact List.Perm.refl _
        | cons a l ih =>
          rw [List.map_cons, List.flatten_cons, List.flatten_cons]
          exact (List.reverse_perm a).append ih
      exact this rows
    exact ⟨fun z => h.lv.some (List.map_eq_nil_iff.mp z), fun ws hw x hx => by
      obtain ⟨l, hl, rfl⟩ := List.mem_map.mp hw
      exact h.lv.names l hl x (List.mem_reverse.mp hx), hp.nodup_iff.mpr h.lv.once, by rw [many_perm hp]; exact h.lv.few⟩
  w18 := fun l hl => by
    obtain ⟨m, hm, rfl⟩ := List.mem_map.mp hl
    rw [List.length_reverse]
    exact h.w18 m hm
  h12 := by rw [List.length_map]; exact h.h12
  fit := fun e he => by
    obtain ⟨i, a, b, h1, h2, h3, h4⟩ := h.fit e (List.mem_reverse.mp he)
    exact ⟨i, a.reverse, b.reverse, by rw [List.getElem?_map, h1]; rfl, by rw [List.getElem?_map, h2]; rfl, List.mem_reverse.mpr h3, List.mem_reverse.mpr h4⟩
  nd := (List.reverse_perm _).nodup_iff.mpr h.nd
  z := by rw [List.length_reverse]; exact h.z
theorem pe_revLK {X : Cx} {e : Expr} {te : TE} {j : Nat} {p1 p2 p3 pos : Pos} (hK : X.K = K) (he : PE X e te) : PE X (.Subscript e (.Slice none none (some (.UnaryOp .USub (.Constant (.int 1) j p1) p2)) p3) pos) (tRevL K te) := hK ▸ pe_revL he
theorem sc_law_made : FnScope ["_law_draft_here", "_law_rows", "_law_ties", "_law_row"] ["_law_draft_here"] (defScope (topS 51)) := ⟨rfl, rfl, rfl, by decide +kernel, rfl, by decide +kernel, by decide +kernel⟩
theorem ok_law_made (T : Tx K mg fd) : FnOk P w K mg base CX0 7 (He.ga K "_law_made") (fd 23) ["_law_draft_here"] (Sp1 rPlan (rS_ K) (fun x => mkS x.1 x.2) (fun x => Mk' x.1 x.2)) := by
  refine (T.df 23 51 "_law_made" rfl).ok sc_law_made (fun vs H Q E h => ?len) (fun cdv A outer s H vs Q E hr h => ?body)
  case body =>
    refine ⟨_, (pss_cons (ps_asg (pv 0) (pg_tup rfl (pgs_cons (pg_name (i := 1) sc_law_made.nd rfl (Or.inl rfl)) (pgs_cons (pg_name (i := 2) sc_law_made.nd rfl (Or.inl rfl)) pgs_nil)))) (pss_one (ps_ret (pe_make T.mkr (ok_sh_init T) (hr.mono (by decide)) (by rfl) (T.gl 36 "Sheet" rfl) (bi3 T) .nil pass0 (pa_cons (pe_lc (own := [("_law_row", 3)]) (g := gName 3) rfl sc_law_made.nd (pi_list (pv 1)) (blkOk_by (N := ["_law_draft_here", "_law_rows", "_law_ties", "_law_row"]) (sc := (defScope (topS 51))) (own := [("_law_row", 3)]) (by decide +kernel)) (fun _ _ _ _ _ => (pg_name (i := 3) sc_law_made.nd rfl (Or.inl rfl))) (fun _ _ _ _ _ => pts_nil) (fun _ _ _ _ _ => (pe_revLK (K := K) rfl (pv 3)))) (pa_cons (pe_revL (pv 2)) pa_nil)))))), ?_⟩
    obtain ⟨ps, v, x, rfl, o, r, mk, q⟩ := h
    obtain ⟨a0, y, z, rfl, h2, h3, h4⟩ := r
    have h12 := mk.h12
    refine ⟨.ref a0, rfl, a0, _, rfl, st_of (Rm_ex _ _ h2), rfl, _, _, rfl, _, _, rfl, rfl, ?_⟩
    refine s_retR o (er_is (er_make (er_lc1 (R := rL rS) (S := rL rS) List.reverse (wk_list (er_var (i := 1) rfl h3)) (by omega) (fun _ => rfl) fun l hl qs v1 H1 e1 o1 x1 r1 => er_rev (er_var rfl r1)) (er_rev (er_var (i := 2) rfl h4)) (rev_mk mk)) rev_made) q
  case len =>
    obtain ⟨ps, v, x, rfl, _⟩ := h
    rfl
def duoRow (row : List Str) : List (Str × Str) := row.flatMap fun l => (row.filter fun x => !decide (x = l)).map fun x => (l, x)
def duosOf (rows : List (List Str)) : List (Str × Str) := srtT (rows.flatMap duoRow)
theorem mem_duoRow {row : List Str} {e : Str × Str} : e ∈ duoRow row ↔ e.1 ∈ row ∧ e.2 ∈ row ∧ e.1 ≠ e.2 := by
  unfold duoRow
  rw [List.mem_flatMap]
  constructor
  · rintro ⟨x, hx, h⟩
    obtain ⟨y, hy, rfl⟩ := List.mem_map.mp h
    obtain ⟨h1, h2⟩ := List.mem_filter.mp hy
    rw [Bool.not_eq_true', decide_eq_false_iff_not] at h2
    exact ⟨hx, h1, fun z => h2 z.symm⟩
  · rintro ⟨h1, h2, h3⟩
    exact ⟨e.1, h1, List.mem_map.mpr ⟨e.2, List.mem_filter.mpr ⟨h2, by rw [Bool.not_eq_true', decide_eq_false_iff_not]; exact fun z => h3 z.symm⟩, rfl⟩⟩
theorem mem_duos {rows : List (List Str)} {e : Str × Str} : e ∈ duosOf rows ↔ ∃ l ∈ rows, e.1 ∈ l ∧ e.2 ∈ l ∧ e.1 ≠ e.2 := by
  unfold duosOf
  rw [(srtT_perm _).mem_iff, List.mem_flatMap]
  constructor
  · rintro ⟨l, h1, h2⟩
    exact ⟨l, h1, mem_duoRow.mp h2⟩
  · rintro ⟨l, h1, h2⟩
    exact ⟨l, h1, mem_duoRow.mpr h2⟩
theorem duoRow_len {row : List Str} (h : row.length ≤ 18) : (duoRow row).length ≤ 324 := by
  refine Nat.le_trans (flat_len (c := 18) fun x _ => ?_) (Nat.le_trans (Nat.mul_le_mul_right _ h) (by decide))
  rw [List.length_map]
  exact Nat.le_trans (List.length_filter_le _ _) h
theorem duos_len {rows : List (List Str)} (h : rows.length ≤ 12) (h18 : ∀ l ∈ rows, l.length ≤ 18) : (duosOf rows).length ≤ 3888 := by
  unfold duosOf
  rw [(srtT_perm _).length_eq]
  exact Nat.le_trans (flat_len (c := 324) fun x hx => duoRow_len (h18 x hx)) (Nat.le_trans (Nat.mul_le_mul_right _ h) (by decide))
theorem sc_law_duos : FnScope ["_law_rows", "_law_found", "_law_row", "_law_left_one", "_law_right_one"] ["_law_rows"] (defScope (topS 52)) := ⟨rfl, rfl, rfl, by decide +kernel, rfl, by decide +kernel, by decide +kernel⟩
theorem ok_law_duos (T : Tx K mg fd) : FnOk P w K mg base CX0 2 (He.ga K "_law_duos") (fd 24) ["_law_rows"] (Sp1 (rL (rL rS)) (rL rE) duosOf (fun rows => rows.length ≤ 12 ∧ ∀ l ∈ rows, l.length ≤ 18)) := by
  refine (T.df 24 52 "_law_duos" rfl).ok sc_law_duos (fun vs H Q E h => ?len) (fun cdv A outer s H vs Q E hr h => ?body)
  case body =>
    refine ⟨_, (pss_cons (ps_set (i := 1) sc_law_duos.nd rfl (Or.inl rfl) (pe_lst pa_nil)) (pss_cons (ps_for PassesOwn.never rfl (pi_list (pv 0)) (pg_name (i := 2) sc_law_duos.nd rfl (Or.inl rfl)) (pss_one (ps_for PassesOwn.never rfl (pi_list (pv 2)) (pg_name (i := 3) sc_law_duos.nd rfl (Or.inr rfl)) (pss_one (ps_expr (pe_bm PySem.F.plainAttrs_list PySem.F.slot_list_extend PySem.F.type_list_extend mt_extend (pv 1) (pa_cons (pe_lc (own := [("_law_right_one", 4)]) (g := gName 4) rfl sc_law_duos.nd (pi_list (pv 2)) (blkOk_by (N := ["_law_rows", "_law_found", "_law_row", "_law_left_one", "_law_right_one"]) (sc := (defScope (topS 52))) (own := [("_law_right_one", 4)]) (by decide +kernel)) (fun _ _ _ _ _ => (pg_name (i := 4) sc_law_duos.nd rfl (Or.inl rfl))) (fun _ _ _ _ _ => (pts_one (pt_cmpR op_ne (pv 4) (pv 3) (nomark _)))) (fun _ _ _ _ _ => (pe_tup (pa_cons (pv 3) (pa_cons (pv 4) pa_nil))))) pa_nil))))))) (pss_one (ps_ret (pe_callB (r := rSortedT2 K) cr_sortedT2 (by rfl) (T.fr 56 "sorted" rfl) (by decide +kernel) (pa_cons (pv 1) pa_nil)))))), ?_⟩
    obtain ⟨ps, v, rows, rfl, o, r, ok, q⟩ := h
    obtain ⟨h12, h18⟩ := ok
    have lenf : ∀ i, ((rows.take i).flatMap duoRow).length ≤ 3888 := fun i => Nat.le_trans (flat_len (c := 324) fun x hx => duoRow_len (h18 x (List.mem_of_mem_take hx))) (Nat.le_trans (Nat.mul_le_mul_right _ (Nat.le_trans (by rw [List.length_take]; exact Nat.min_le_right _ _) h12)) (by decide))
    refine q_new (R := rE) o fun p1 H1 e1 np hp o1 x1 l1 => ?_
    have r1 := (rL (rL rS)).m x1 r
    refine q_forW o1 (wk_list (er_var (i := 0) rfl r1)) (fun i σ' H' => (∃ o2 o3 o4, σ' = [some v, some (.ref p1), o2, o3, o4]) ∧ Ls rE (p1 :: ps) H' p1 ((rows.take i).flatMap duoRow) ∧ Ex H H') (fun H2 e2 => ⟨⟨none, none, none, rfl⟩, by rw [List.take_zero]; exact l1.ex e2, e1.trans e2⟩) (fun _ _ _ _ e p => ⟨p.1, p.2.1.ex e, p.2.2.trans e⟩) (fun H2 e2 i row u σ' H3 hx f3 f13 pv ru => ?_) fun σ' H2 f2 pv => ?_
    · obtain ⟨⟨o2, o3, o4, rfl⟩, l3, eH⟩ := pv
      have hrm := List.mem_of_getElem? hx
      have hw := h18 row hrm
      have ru : (rL rS).p row u (Rm (p1 :: ps) H3) := ru
      have lenr : ∀ j, ((row.take j).flatMap fun l => (row.filter fun x => !decide (x = l)).map fun x => (l, x)).length ≤ 324 := fun j => by
        refine Nat.le_trans (flat_len (c := 18) fun x _ => ?_) (Nat.le_trans (Nat.mul_le_mul_right _ (Nat.le_trans (by rw [List.length_take]; exact Nat.min_le_right _ _) hw)) (by decide))
        rw [List.length_map]
        exact Nat.le_trans (List.length_filter_le _ _) hw
      refine s_forW f13.1 (wk_list (er_var (i := 2) rfl ru)) (fun j σ' H' => (∃ o3 o4, σ' = [some v, some (.ref p1), some u, o3, o4]) ∧ Ls rE (p1 :: ps) H' p1 ((rows.take i).flatMap duoRow ++ (row.take j).flatMap fun l => (row.filter fun x => !decide (x = l)).map fun x => (l, x)) ∧ Ex H H') (fun H4 e4 => ⟨⟨_, _, rfl⟩, by rw [List.take_zero, List.flatMap_nil, List.append_nil]; exact l3.ex e4, eH.trans e4⟩) (fun _ _ _ _ e p => ⟨p.1, p.2.1.ex e, p.2.2.trans e⟩) (fun H4 e4 j l w σ' H5 hl f5 f35 pv rw' => ?_) fun σ' H4 f4 pv => ?_
      · obtain ⟨⟨o3, o4, rfl⟩, l5, eH5⟩ := pv
        obtain rfl : w = .str l := rw'
        have ru5 := (rL rS).m f35.2 ru
        have lb : (row.filter fun x => !decide (x = l)).length ≤ 18 := Nat.le_trans (List.length_filter_le _ _) hw
        have a1 := lenf i
        have a2 := lenr j
        refine s_extR f35.1 l5 (ev_var (i := 1) rfl) (er_lc1F (R := rS) (S := rE) (fun x => (l, x)) (fun x => !decide (x = l)) (wk_list (er_var (i := 2) rfl ru5)) (by omega) (fun _ => rfl) (fun x hx qs v6 H6 e6 o6 x6 r6 => ?_) fun x hx _ qs v6 H6 e6 o6 x6 r6 => er_tup (er_var (v := .str l) (R := rS) rfl rfl) (er_var rfl r6)) (by rw [List.length_append, List.length_map]; omega) fun H6 f6 l6 ot6 => ⟨f5.trans f6, ⟨_, _, rfl⟩, ?_, Oth.back eH5 ot6 hp⟩
        · obtain rfl : v6 = .str x := r6
          exact et_is' (et_test' (er_B (ev_op (ev_var (v := .str x) rfl) (ev_var (v := .str l) rfl) (rv_ne rfl)))) (congrArg Bool.not (decide_eq_decide.mpr ⟨fun z => by injection z, fun z => by rw [z]⟩))
        · rw [List.take_add_one, hl, List.flatMap_append, ← List.append_assoc]
          show Ls rE (p1 :: ps) H6 p1 (_ ++ [l].flatMap _)
          rw [List.flatMap_cons, List.flatMap_nil, List.append_nil]
          exact l6
      · obtain ⟨⟨o3, o4, rfl⟩, l4, e4⟩ := pv
        rw [List.take_length] at l4
        refine ⟨f3.trans f4, ⟨_, _, _, rfl⟩, ?_, e4⟩
        rw [List.take_add_one, hx, List.flatMap_append]
        show Ls rE (p1 :: ps) H4 p1 (_ ++ [row].flatMap duoRow)
        rw [List.flatMap_cons, List.flatMap_nil, List.append_nil]
        exact l4
    obtain ⟨⟨o2, o3, o4, rfl⟩, l2, e02⟩ := pv
    rw [List.take_length] at l2
    exact s_retR (o.ex e02) (er_sortedT (er_var (i := 1) rfl (l2.rep np))) fun w H3 e3 t => q w H3 (e02.trans e3) t
  case len =>
    obtain ⟨ps, v, rows, rfl, _⟩ := h
    rfl
def endsT (es : List (Str × Str)) (z : Str) (side : Nat) : List Str := if side = 0 then upsT es z else dnT es z
theorem sc_law_ends : FnScope ["_law_ties", "_law_node", "_law_side", "_law_tie"] ["_law_ties", "_law_node", "_law_side"] (defScope (topS 53)) := ⟨rfl, rfl, rfl, by decide +kernel, rfl, by decide +kernel, by decide +kernel⟩
theorem ok_law_ends (T : Tx K mg fd) : FnOk P w K mg base CX0 1 (He.ga K "_law_ends") (fd 25) ["_law_ties", "_law_node", "_law_side"] (Sp3 (rL rE) rS rN (rL rS) endsT (fun es _ side => es.length ≤ 72 ∧ side ≤ 1)) := by
  refine (T.df 25 53 "_law_ends" rfl).ok sc_law_ends (fun vs H Q E h => ?len) (fun cdv A outer s H vs Q E hr h => ?body)
  case body =>
    refine ⟨_, (pss_one (ps_ret (pe_lc (own := [("_law_tie", 3)]) (g := gName 3) rfl sc_law_ends.nd (pi_list (pv 0)) (blkOk_by (N := ["_law_ties", "_law_node", "_law_side", "_law_tie"]) (sc := (defScope (topS 53))) (own := [("_law_tie", 3)]) (by decide +kernel)) (fun _ _ _ _ _ => (pg_name (i := 3) sc_law_ends.nd rfl (Or.inl rfl))) (fun _ _ _ _ _ => (pts_one (pt_cmpR op_eq (pe_ix (r := rIxT K) ix_tup (pv 3) (pv 2) (fun _ _ => rfl)) (pv 1) (nomark _)))) (fun _ _ _ _ _ => (pe_ix (r := rIxT K) ix_tup (pv 3) (pe_op op_sub pe_int (pv 2)) (fun _ _ => rfl)))))), ?_⟩
    obtain ⟨ps, v, w, u, es, z, side, rfl, o, r, ra, rb, ok, q⟩ := h
    obtain ⟨hz, hs⟩ := ok
    obtain rfl : w = .str z := ra
    obtain rfl : u = .int (side : Int) := rb
    rcases Nat.le_one_iff_eq_zero_or_eq_one.mp hs with rfl | rfl
    · refine s_retR o (er_is (er_lc1F (R := rE) (S := rS) (fun e => e.2) (fun e => decide (e.1 = z)) (wk_list (er_var (i := 0) rfl r)) (by omega) (fun _ => rfl) (fun e he qs v1 H1 e1 o1 x1 r1 => ?_) fun e he _ qs v1 H1 e1 o1 x1 r1 => er_snd (er_var rfl r1) (er_I (ev_is (ev_op ev_c (ev_var (v := .int 0) rfl) rv_I0) rfl))) rfl) q
      exact et_is' (et_test' (er_B (ev_op (ev_S o1 (er_fst (er_var rfl r1) (er_I (ev_var (v := .int 0) rfl)))) (ev_var (v := .str z) rfl) (rv_eq rfl)))) (decide_eq_decide.mpr ⟨fun z => by injection z, fun z => by rw [z]⟩)
    · refine s_retR o (er_is (er_lc1F (R := rE) (S := rS) (fun e => e.1) (fun e => decide (e.2 = z)) (wk_list (er_var (i := 0) rfl r)) (by omega) (fun _ => rfl) (fun e he qs v1 H1 e1 o1 x1 r1 => ?_) fun e he _ qs v1 H1 e1 o1 x1 r1 => er_fst (er_var rfl r1) (er_I (ev_is (ev_op ev_c (ev_var (v := .int 1) rfl) rv_I0) rfl))) rfl) q
      exact et_is' (et_test' (er_B (ev_op (ev_S o1 (er_snd (er_var rfl r1) (er_I (ev_var (v := .int 1) rfl)))) (ev_var (v := .str z) rfl) (rv_eq rfl)))) (decide_eq_decide.mpr ⟨fun z => by injection z, fun z => by rw [z]⟩)
  case len =>
    obtain ⟨ps, v, w, u, es, z, side, rfl, _⟩ := h
    rfl
def sideOf (es : List (Str × Str)) (d : Str × Str) (side : Nat) : List (Str × Str) := xprod (endsT es d.1 side) (endsT es d.2 side)
theorem ends_len {es : List (Str × Str)} {z : Str} {side : Nat} (h : es.length ≤ 72) : (endsT es z side).length ≤ 72 := by
  unfold endsT
  split
  · exact Nat.le_trans upsT_len h
  · exact Nat.le_trans dnT_len h
theorem side_len {es : List (Str × Str)} {d : Str × Str} {side : Nat} (h : es.length ≤ 72) : (sideOf es d side).length ≤ 5184 := xprod_72 (ends_len h) (ends_len h)
theorem filt_ne {x : Str} {ys : List Str} : (ys.filter fun y => !decide (x = y)) = ys.filter fun y => !decide (y = x) := List.filter_congr fun y _ => by rw [decide_eq_decide.mpr (show (x = y) ↔ (y = x) from ⟨Eq.symm, Eq.symm⟩)]
theorem xprod_snoc {xs : List Str} {x : Str} {ys : List Str} : xprod (xs ++ [x]) ys = xprod xs ys ++ (ys.filter fun y => !decide (y = x)).map fun y => (x, y) := by
  unfold xprod
  rw [List.flatMap_append, List.flatMap_cons, List.flatMap_nil, List.append_nil]
  show _ ++ (ys.filter fun y => !decide (x = y)).map (fun y => (x, y)) = _
  rw [filt_ne]
theorem sc_law_moves : FnScope ["_law_ties", "_law_duo", "_law_found", "_law_side", "_law_others_here", "_law_left_one", "_law_right_one"] ["_law_ties", "_law_duo"] (defScope (topS 54)) := ⟨rfl, rfl, rfl, by decide +kernel, rfl, by decide +kernel, by decide +kernel⟩
theorem ok_law_moves (T : Tx K mg fd) : FnOk P w K mg base CX0 2 (He.ga K "_law_moves") (fd 26) ["_law_ties", "_law_duo"] (Sp2 (rL rE) rE (rL rE) movesOf (fun es _ => es.length ≤ 72)) := by
  refine (T.df 26 54 "_law_moves" rfl).ok sc_law_moves (fun vs H Q E h => ?len) (fun cdv A outer s H vs Q E hr h => ?body)
  case body =>
    refine ⟨_, (pss_cons (ps_set (i := 2) sc_law_moves.nd rfl (Or.inl rfl) (pe_lst pa_nil)) (pss_cons (ps_for PassesOwn.never rfl (pi_list (pe_lst (pa_cons pe_int (pa_cons pe_int pa_nil)))) (pg_name (i := 3) sc_law_moves.nd rfl (Or.inl rfl)) (pss_cons (ps_set (i := 4) sc_law_moves.nd rfl (Or.inl rfl) (pe_call (ok_law_ends T) (hr.mono (by decide)) (by rfl) (T.gl 27 "_law_ends" rfl) (T.df 25 53 "_law_ends" rfl).kp ((T.df 25 53 "_law_ends" rfl).binds (ps := ["_law_ties", "_law_node", "_law_side"]) fun _ _ _ _ _ _ us hl => match us, hl with | [_, _, _], _ => rfl) .nil pass0 (pa_cons (pv 0) (pa_cons (pe_ix (r := rIxT K) ix_tup (pv 1) pe_int (fun _ _ => rfl)) (pa_cons (pv 3) pa_nil))))) (pss_one (ps_for PassesOwn.never rfl (pi_list (pe_call (ok_law_ends T) (hr.mono (by decide)) (by rfl) (T.gl 27 "_law_ends" rfl) (T.df 25 53 "_law_ends" rfl).kp ((T.df 25 53 "_law_ends" rfl).binds (ps := ["_law_ties", "_law_node", "_law_side"]) fun _ _ _ _ _ _ us hl => match us, hl with | [_, _, _], _ => rfl) .nil pass0 (pa_cons (pv 0) (pa_cons (pe_ix (r := rIxT K) ix_tup (pv 1) pe_int (fun _ _ => rfl)) (pa_cons (pv 3) pa_nil))))) (pg_name (i := 5) sc_law_moves.nd rfl (Or.inr rfl)) (pss_one (ps_expr (pe_bm PySem.F.plainAttrs_list PySem.F.slot_list_extend PySem.F.type_list_extend mt_extend (pv 2) (pa_cons (pe_lc (own := [("_law_right_one", 6)]) (g := gName 6) rfl sc_law_moves.nd (pi_list (pv 4)) (blkOk_by (N := ["_law_ties", "_law_duo", "_law_found", "_law_side", "_law_others_here", "_law_left_one", "_law_right_one"]) (sc := (defScope (topS 54))) (own := [("_law_right_one", 6)]) (by decide +kernel)) (fun _ _ _ _ _ => (pg_name (i := 6) sc_law_moves.nd rfl (Or.inl rfl))) (fun _ _ _ _ _ => (pts_one (pt_cmpR op_ne (pv 6) (pv 5) (nomark _)))) (fun _ _ _ _ _ => (pe_tup (pa_cons (pv 5) (pa_cons (pv 6) pa_nil))))) pa_nil)))))))) (pss_one (ps_ret (pe_callB (r := rSortedT2 K) cr_sortedT2 (by rfl) (T.fr 56 "sorted" rfl) (by decide +kernel) (pa_cons (pv 2) pa_nil)))))), ?_⟩
    obtain ⟨ps, v, w, es, d, rfl, o, r, ra, hz, q⟩ := h
    refine q_new (R := rE) o fun p1 H1 e1 np hp o1 x1 l1 => ?_
    have r1 := (rL rE).m x1 r
    have ra1 := rE.m x1 ra
    have l2f : ∀ i, (([0, 1] : List Nat).take i).flatMap (sideOf es d) = (([0, 1] : List Nat).take i).flatMap (sideOf es d) := fun _ => rfl
    have lenf : ∀ i, ((([0, 1] : List Nat).take i).flatMap (sideOf es d)).length ≤ 10368 := fun i => by
      refine Nat.le_trans (flat_len (c := 5184) fun x _ => side_len hz) (Nat.le_trans (Nat.mul_le_mul_right _ (Nat.le_trans (by rw [List.length_take]; exact Nat.min_le_right _ _) (Nat.le_refl 2))) (by decide))
    refine q_forW (xs := ([0, 1] : List Nat)) o1 (wk_list (R := rN) (er_lst (eas_cons (er_of ev_c rfl) (eas_cons (er_of ev_c rfl) eas_nil)) (by show 2 ≤ 100000; decide))) (fun i σ' H' => (∃ o3 o4 o5 o6, σ' = [some v, some w, some (.ref p1), o3, o4, o5, o6]) ∧ Ls rE (p1 :: ps) H' p1 ((([0, 1] : List Nat).take i).flatMap (sideOf es d)) ∧ Ex H H') (fun H2 e2 => ⟨⟨_, _, _, _, rfl⟩, by rw [List.take_zero]; exact l1.ex e2, e1.trans e2⟩) (fun _ _ _ _ e p => ⟨p.1, p.2.1.ex e, p.2.2.trans e⟩) (fun H2 e2 i side u σ' H3 hx f3 f13 pv ru => ?_) fun σ' H2 f2 pv => ?_
    · obtain ⟨⟨o3, o4, o5, o6, rfl⟩, l3, eH⟩ := pv
      obtain rfl : u = .int (side : Int) := ru
      have hs : side ≤ 1 := by
        have := List.mem_of_getElem? hx
        simp at this
        omega
      have r3 := (rL rE).m f13.2 r1
      have ra3 := rE.m f13.2 ra1
      refine q_asgR' f13.1 (er_call3 (f := endsT) (R := rL rE) (S := rS) (U := rN) (er_var (i := 0) rfl r3) (er_snd (er_var (i := 1) rfl ra3) (er_I ev_c)) (er_var (v := .int (side : Int)) (i := 3) rfl rfl) ⟨hz, hs⟩) fun vo H4 e4 ro => ?_
      have o4' := f13.1.ex e4
      have l4 := l3.ex e4
      have r4 := (rL rE).m (Rm_mono e4) r3
      have ra4 := rE.m (Rm_mono e4) ra3
      have z1 := ends_len (z := d.1) (side := side) hz
      have z2 := ends_len (z := d.2) (side := side) hz
      refine s_forW o4' (wk_list (er_call3 (f := endsT) (R := rL rE) (S := rS) (U := rN) (er_var (i := 0) rfl r4) (er_fst (er_var (i := 1) rfl ra4) (er_I ev_c)) (er_var (v := .int (side : Int)) (i := 3) rfl rfl) ⟨hz, hs⟩)) (fun j σ' H' => (∃ o5 o6, σ' = [some v, some w, some (.ref p1), some (.int (side : Int)), some vo, o5, o6]) ∧ Ls rE (p1 :: ps) H' p1 ((([0, 1] : List Nat).take i).flatMap (sideOf es d) ++ xprod ((endsT es d.1 side).take j) (endsT es d.2 side)) ∧ Ex H H') (fun H5 e5 => ⟨⟨_, _, rfl⟩, by rw [List.take_zero]; exact (by rw [show xprod [] (endsT es d.2 side) = [] from rfl, List.append_nil]; exact l4.ex e5), (eH.trans e4).trans e5⟩) (fun _ _ _ _ e p => ⟨p.1, p.2.1.ex e, p.2.2.trans e⟩) (fun H5 e5 j x y σ' H6 hj f6 f46 pv ry => ?_) fun σ' H5 f5 pv => ?_
      · obtain ⟨⟨o5, o6, rfl⟩, l6, eH6⟩ := pv
        obtain rfl : y = .str x := ry
        have ro6 := (rL rS).m f46.2 ro
        have a1 := lenf i
        have a2 := xprod_72 (xs := (endsT es d.1 side).take j) (ys := endsT es d.2 side) (by rw [List.length_take]; omega) z2
        have a3 := List.length_filter_le (fun z => !decide (z = x)) (endsT es d.2 side)
        refine s_extR f46.1 l6 (ev_var (i := 2) rfl) (er_lc1F (R := rS) (S := rE) (fun z => (x, z)) (fun z => !decide (z = x)) (wk_list (er_var (i := 4) rfl ro6)) (by omega) (fun _ => rfl) (fun z hz' qs v7 H7 e7 o7 x7 r7 => ?_) fun z hz' _ qs v7 H7 e7 o7 x7 r7 => er_tup (er_var (v := .str x) (R := rS) rfl rfl) (er_var rfl r7)) (by rw [List.length_append, List.length_map]; omega) fun H7 f7 l7 ot7 => ⟨(Fr.refl f46.1).trans f7 |> fun f => f6.trans f, ⟨_, _, rfl⟩, ?_, Oth.back eH6 ot7 hp⟩
        · obtain rfl : v7 = .str z := r7
          exact et_is' (et_test' (er_B (ev_op (ev_var (v := .str z) rfl) (ev_var (v := .str x) rfl) (rv_ne rfl)))) (congrArg Bool.not (decide_eq_decide.mpr ⟨fun z => by injection z, fun z => by rw [z]⟩))
        · rw [List.take_add_one, hj]
          show Ls rE (p1 :: ps) H7 p1 (_ ++ xprod (_ ++ [x]) _)
          rw [xprod_snoc, ← List.append_assoc]
          exact l7
      · obtain ⟨⟨o5, o6, rfl⟩, l5, e5⟩ := pv
        rw [List.take_length] at l5
        refine ⟨(f3.ex e4).trans f5, ⟨_, _, _, _, rfl⟩, ?_, e5⟩
        rw [List.take_add_one, hx, List.flatMap_append]
        show Ls rE (p1 :: ps) H5 p1 (_ ++ [side].flatMap (sideOf es d))
        rw [List.flatMap_cons, List.flatMap_nil, List.append_nil]
        exact l5
    obtain ⟨⟨o3, o4, o5, o6, rfl⟩, l2, e02⟩ := pv
    refine s_retR (o.ex e02) (er_is (er_sortedT (er_var (i := 2) rfl (l2.rep np))) ?_) fun w H3 e3 t => q w H3 (e02.trans e3) t
    show srtT (([0, 1] : List Nat).flatMap (sideOf es d)) = movesOf es d
    rw [List.flatMap_cons, List.flatMap_cons, List.flatMap_nil, List.append_nil]
    rfl
  case len =>
    obtain ⟨ps, v, w, es, d, rfl, _⟩ := h
    rfl
end
end K21
set_option Elab.async false
set_option linter.all false
set_option maxRecDepth 100000
set_option maxHeartbeats 4000000
namespace K21
open PySem PySem.Spec PyProof.Rows L2 Evl Gen
section
variable {P : Program} {w : World} {K : PySem.W.Frag} {mg : Str → Option Value} {base : Heap} {fd : Nat → FuncData}
theorem sc_law_pot : FnScope ["_law_script", "_law_k", "_law_seed"] ["_law_script", "_law_k"] (defScope (topS 47)) := ⟨rfl, rfl, rfl, by decide +kernel, rfl, by decide +kernel, by decide +kernel⟩
theorem ok_law_pot (T : Tx K mg fd) : FnOk P w K mg base CX0 1 (He.ga K "_law_pot") (fd 19) ["_law_script", "_law_k"] (spPot K) := by
  refine (T.df 19 47 "_law_pot" rfl).ok sc_law_pot (fun vs H Q E h => ?len) (fun cdv A outer s H vs Q E hr h => ?body)
  case body =>
    refine ⟨_, (pss_cons (ps_set (i := 2) sc_law_pot.nd rfl (Or.inl rfl) (pe_op op_add (pe_op op_mulW pe_int (pv 1)) pe_int)) (pss_cons (ps_if (pt_cmpR op_lt (pv 1) (pe_callB call_len (by rfl) (T.fr 47 "len" rfl) (by decide +kernel) (pa_cons (pv 0) pa_nil)) (nomark _)) (pss_one (ps_set (i := 2) sc_law_pot.nd rfl (Or.inl rfl) (pe_callB call_abs (by rfl) (T.fr 53 "abs" rfl) (by decide +kernel) (pa_cons (pe_ix ix_list (pv 0) (pv 1) (fun _ _ => rfl)) pa_nil)))) pss_nil) (pss_one (ps_ret (pe_lst (pa_cons (pe_callB (call_max2 rfl) (by rfl) (T.fr 51 "max" rfl) (by decide +kernel) (pa_cons pe_int (pa_cons (pe_op op_sub (pv 2) (pe_op op_pow pe_int pe_int)) pa_nil))) (pa_cons (pe_op op_add (pe_op op_mod (pe_op op_mulW (pe_callTy call_int1 (by rfl) (T.fr 41 "int" rfl) (by decide +kernel) (pa_cons (pe_op op_add (pe_op op_mod (pe_callTy call_int1 (by rfl) (T.fr 41 "int" rfl) (by decide +kernel) (pa_cons (pv 2) pa_nil)) pe_int) pe_int) pa_nil)) (pe_op op_pow (pe_op op_add (pe_op op_mulW pe_int (pv 1)) pe_int) pe_int)) pe_int) pe_int) pa_nil))))))), ?_⟩
    obtain ⟨a, ns, j, rfl, hS, hl, hj, q⟩ := h
    refine q_asg (v := .int (23 * (j : Int) + 13)) (ev_op (ev_op ev_c (ev_var rfl) (rv_I (wide_mul (a := 10) (b := 10) (by decide) (by omega) (by decide) (by decide) (by decide)))) ev_c rv_I0) fun H1 e1 => ?_
    have ev0 : ∃ tk : Int, 0 ≤ tk ∧ (decide ((j : Int) < (ns.length : Int)) = true → ∃ i, ns[j]? = some i ∧ tk = if i < 0 then -i else i) ∧ (decide ((j : Int) < (ns.length : Int)) = false → tk = 23 * (j : Int) + 13) := by
      by_cases hlt : (j : Int) < (ns.length : Int)
      · have hlt' : j < ns.length := by omega
        refine ⟨if ns[j] < 0 then -ns[j] else ns[j], by split <;> omega, fun _ => ⟨ns[j], by simp [hlt'], rfl⟩, fun z => ?_⟩
        rw [decide_eq_true hlt] at z
        cases z
      · exact ⟨23 * (j : Int) + 13, by omega, fun z => absurd (of_decide_eq_true z) hlt, fun _ => rfl⟩
    obtain ⟨tk, tk0, tk1, tk2⟩ := ev0
    refine q_ifAsg (v := .int tk) (b := decide ((j : Int) < (ns.length : Int))) (et_test (ev_op (ev_var rfl) (ev_lenX (ev_var rfl) fun H2 e2 Q q => ⟨_, _, rfl, .inl ⟨_, ex_l (e1.trans e2) hS, by rw [List.length_map]⟩, q⟩) rv_I0)) (fun hb => ?_) (fun hb => ?_) (fun H2 e2 => ?_)
    · obtain ⟨i, hi, et⟩ := tk1 hb
      rw [et]
      exact ev_absI (ev_op (ev_var rfl) (ev_var rfl) (rv_ixL (ex_l e1 hS) (atI_nat (by rw [List.getElem?_map, hi] <;> rfl))))
    · rw [tk2 hb]
      rfl
    · have m1 := Int.emod_nonneg tk (show (2147483549 : Int) ≠ 0 by decide)
      have m2 := Int.emod_lt_of_pos tk (show (0 : Int) < 2147483549 by decide)
      have mb : ((2 * (j : Int) + 5) ^ (3 : Int).toNat).natAbs < 2 ^ 40 := by
        have : j = 0 ∨ j = 1 ∨ j = 2 ∨ j = 3 ∨ j = 4 ∨ j = 5 := by omega
        rcases this with rfl | rfl | rfl | rfl | rfl | rfl <;> decide
      refine s_retL (el_lst (ea_cons (ev_maxI ev_c (ev_op (ev_var rfl) (ev_op ev_c ev_c (rv_I ⟨by decide, by decide, by decide⟩)) rv_I0)) (ea_cons (ev_op (ev_op (ev_op (ev_int1 (ev_op (ev_op (ev_int1 (ev_var rfl)) ev_c (rv_I (by decide))) ev_c rv_I0)) (ev_op (ev_op (ev_op ev_c (ev_var rfl) (rv_I (wide_mul (a := 10) (b := 10) (by decide) (by omega) (by decide) (by decide) (by decide)))) ev_c rv_I0) ev_c (rv_I ⟨by decide, by decide, by omega⟩)) (rv_I (wide_mul (a := 40) (b := 40) (by omega) mb (by decide) (by decide) (by decide)))) ev_c (rv_I (by decide))) ev_c rv_I0) ea_nil)) (by show 2 ≤ 100000; decide)) fun p H3 hp e3 h3 => ?_
      refine q p H3 (fresh_back (e1.trans e2) hp) ((e1.trans e2).trans e3) ⟨_, _, h3, ?_, ?_, ?_⟩
      · split <;> omega
      · have := Int.emod_nonneg ((tk % 2147483549 + 9) * (2 * (j : Int) + 5) ^ (3 : Int).toNat) (show (2147483579 : Int) ≠ 0 by decide)
        omega
      · have := Int.emod_lt_of_pos ((tk % 2147483549 + 9) * (2 * (j : Int) + 5) ^ (3 : Int).toNat) (show (0 : Int) < 2147483579 by decide)
        omega
  case len =>
    obtain ⟨a, ns, j, rfl, _⟩ := h
    rfl
theorem sc_law_draw : FnScope ["_law_pot_here", "_law_faces", "_law_digit"] ["_law_pot_here", "_law_faces"] (defScope (topS 48)) := ⟨rfl, rfl, rfl, by decide +kernel, rfl, by decide +kernel, by decide +kernel⟩
theorem ok_law_draw (T : Tx K mg fd) : FnOk P w K mg base CX0 1 (He.ga K "_law_draw") (fd 20) ["_law_pot_here", "_law_faces"] spDraw := by
  refine (T.df 20 48 "_law_draw" rfl).ok sc_law_draw (fun vs H Q E h => ?len) (fun cdv A outer s H vs Q E hr h => ?body)
  case body =>
    refine ⟨_, (pss_cons (ps_if (pt_cmpR op_gt (pe_ix ix_list (pv 0) pe_int (fun _ _ => rfl)) pe_int (nomark _)) (pss_cons (ps_asg (pe_callB call_divmod (by rfl) (T.fr 54 "divmod" rfl) (by decide +kernel) (pa_cons (pe_ix ix_list (pv 0) pe_int (fun _ _ => rfl)) (pa_cons (pv 1) pa_nil))) (pg_tup rfl (pgs_cons (pg_sub (pv 0) pe_int set_list) (pgs_cons (pg_name (i := 2) sc_law_draw.nd rfl (Or.inl rfl)) pgs_nil)))) (pss_one (ps_ret (pv 2)))) pss_nil) (pss_cons (ps_asg (pe_op op_mod (pe_callTy call_int1 (by rfl) (T.fr 41 "int" rfl) (by decide +kernel) (pa_cons (pe_op op_add (pe_op op_mulW (pe_ix ix_list (pv 0) pe_int (fun _ _ => rfl)) pe_int) pe_int) pa_nil)) pe_int) (pg_sub (pv 0) pe_int set_list)) (pss_one (ps_ret (pe_op op_mod (pe_callTy call_int1 (by rfl) (T.fr 41 "int" rfl) (by decide +kernel) (pa_cons (pe_op op_fdiv (pe_op op_mod (pe_callTy call_int1 (by rfl) (T.fr 41 "int" rfl) (by decide +kernel) (pa_cons (pe_op op_mulW (pe_ix ix_list (pv 0) pe_int (fun _ _ => rfl)) (pe_ix ix_list (pv 0) pe_int (fun _ _ => rfl))) pa_nil)) pe_int) pe_int) pa_nil)) (pv 1)))))), ?_⟩
    obtain ⟨p, m, rfl, ⟨x, y, hp, x0, y0, y1⟩, m0, m1, q⟩ := h
    refine q_when (b := decide ((0 : Int) < x)) (et_test (ev_op (ev_op (ev_var rfl) ev_c (rv_ixL (sq_of hp) (atI_nat (j := 0) rfl))) ev_c rv_I0)) (fun hb H1 e1 => ?_) (fun hb H1 e1 => ?_)
    · have hp1 := e1 p _ hp
      refine ⟨_, rfl, p, [.int x, .int y], 0, .int x, rfl, rfl, sq_of hp1, atI_nat (j := 0) rfl, _, rfl, x, m, rfl, ⟨m0, by omega⟩, fun t ht => ?_⟩
      have hpt : p ≠ t := (ne_pot hp1 ht).symm
      refine ⟨t, [.int (x / m), .int (x % m)], rfl, st_of upd_same, rfl, _, _, rfl, _, rfl, p, [.int x, .int y], 0, 0, rfl, rfl, by rw [upd_ne hpt]; exact hp1, rfl, _, _, rfl, rfl, ?_⟩
      refine s_ret (v := .int (x % m)) (ev_var rfl) fun H2 e2 => ?_
      refine q (x % m) H2 ?_ ?_ (Int.emod_nonneg _ (by omega)) (Int.emod_lt_of_pos _ m0)
      · exact (((rem_mono e1).trans (rem_mono (Ex.new ht))).trans rem_upd).trans (rem_mono e2)
      · exact ⟨x / m, y, e2 p _ upd_same, Int.ediv_nonneg x0 (by omega), y0, y1⟩
    · have hp1 := e1 p _ hp
      have c1 := Int.emod_nonneg (y * 39979 + 16033) (show (2147483543 : Int) ≠ 0 by decide)
      have c2 := Int.emod_lt_of_pos (y * 39979 + 16033) (show (0 : Int) < 2147483543 by decide)
      refine q_setL (j := 1) hp1 (ev_op (ev_int1 (ev_op (ev_op (ev_op (ev_var rfl) ev_c (rv_ixL (sq_of hp1) (atI_nat (j := 1) rfl))) ev_c (rv_I (wide_mul (a := 40) (b := 40) (by omega) (by decide) (by decide) (by decide) (by decide)))) ev_c rv_I0)) ev_c (rv_I (by decide))) (ev_var rfl) ev_c (by show 1 < 2; decide) fun H2 e2 => ?_
      have hp2 : (upd H2 p (.lst [.int x, .int ((y * 39979 + 16033) % 2147483543)])) p = some (.lst [.int x, .int ((y * 39979 + 16033) % 2147483543)]) := upd_same
      refine s_ret (ev_op (ev_int1 (ev_op (ev_op (ev_int1 (ev_op (ev_op (ev_var rfl) ev_c (rv_ixL (sq_of hp2) (atI_nat (j := 1) rfl))) (ev_op (ev_var rfl) ev_c (rv_ixL (sq_of hp2) (atI_nat (j := 1) rfl))) (rv_I (wide_mul (a := 40) (b := 40) (by omega) (by omega) (by decide) (by decide) (by decide))))) ev_c (rv_I (by decide))) ev_c (rv_I ⟨by decide, by decide⟩))) (ev_var rfl) (rv_I m0)) fun H3 e3 => ?_
      refine q _ H3 ?_ ⟨x, _, e3 p _ hp2, x0, c1, by omega⟩ (Int.emod_nonneg _ (by omega)) (Int.emod_lt_of_pos _ m0)
      exact ((rem_mono (e1.trans e2)).trans rem_upd).trans (rem_mono e3)
  case len =>
    obtain ⟨p, m, rfl, _⟩ := h
    rfl
theorem sc_law_pick : FnScope ["_law_pot_here", "_law_some"] ["_law_pot_here", "_law_some"] (defScope (topS 49)) := ⟨rfl, rfl, rfl, by decide +kernel, rfl, by decide +kernel, by decide +kernel⟩
theorem ok_law_pick (T : Tx K mg fd) : FnOk P w K mg base CX0 2 (He.ga K "_law_pick") (fd 21) ["_law_pot_here", "_law_some"] (spPick K) := by
  refine (T.df 21 49 "_law_pick" rfl).ok sc_law_pick (fun vs H Q E h => ?len) (fun cdv A outer s H vs Q E hr h => ?body)
  case body =>
    refine ⟨_, (pss_one (ps_ret (pe_ix ix_list (pv 1) (pe_call (ok_law_draw T) (hr.mono (by decide)) (by rfl) (T.gl 22 "_law_draw" rfl) (T.df 20 48 "_law_draw" rfl).kp ((T.df 20 48 "_law_draw" rfl).binds (ps := ["_law_pot_here", "_law_faces"]) fun _ _ _ _ _ _ us hl => match us, hl with | [_, _], _ => rfl) .nil pass0 (pa_cons (pv 0) (pa_cons (pe_callB call_len (by rfl) (T.fr 47 "len" rfl) (by decide +kernel) (pa_cons (pv 1) pa_nil)) pa_nil))) (fun _ _ => rfl)))), ?_⟩
    obtain ⟨p, a, xs, rfl, hp, hs, l0, l1, q⟩ := h
    have hs' : SqL K H a xs := sq_of (rem_ex a _ hs)
    refine ⟨_, rfl, _, rfl, _, rfl, _, _, rfl, .inl ⟨_, hs', rfl⟩, p, _, rfl, hp, by omega, by omega, fun d H' e hp' d0 d1 => ?_⟩
    obtain ⟨j, rfl⟩ := Int.eq_ofNat_of_zero_le d0
    have hj : j < xs.length := by omega
    exact ⟨a, xs, (j : Int), xs[j], rfl, rfl, sq_of (rem_ex a _ (e a _ hs)), atI_nat (by simp [hj]), q _ _ (List.getElem_mem hj) e hp'⟩
  case len =>
    obtain ⟨p, a, xs, rfl, _⟩ := h
    rfl
end
end K21
set_option Elab.async false
set_option linter.all false
set_option maxRecDepth 100000
set_option maxHeartbeats 4000000
namespace K21
open PySem PySem.Spec PyProof.Rows L2 Evl Gen
section
variable {P : Program} {w : World} {K : PySem.W.Frag} {mg : Str → Option Value} {base : Heap} {fd : Nat → FuncData}
theorem rem_of {p : Addr} {H H' : Hp} (e : Ex (rem p H) H') : Ex (rem p H) (rem p H') := fun b o h => by
  have n : b ≠ p := by
    intro z
    subst z
    unfold rem at h
    rw [if_pos rfl] at h
    cases h
  exact rem_at (e b o h) n
theorem cons_erase : ∀ {zs : List V} {j : Nat} (hj : j < zs.length), (zs[j] :: zs.eraseIdx j).Perm zs
  | x :: r, 0, _ => List.Perm.refl _
  | x :: r, j + 1, h => (List.Perm.swap x (r[j]'(Nat.lt_of_succ_lt_succ h)) (r.eraseIdx j)).trans ((cons_erase (zs := r) (j := j) (Nat.lt_of_succ_lt_succ h)).cons x)
theorem rem_p {p : Addr} {H : Hp} : rem p H p = none := by
  unfold rem
  rw [if_pos rfl]
theorem rem_none {p q : Addr} {H : Hp} (h : H q = none) : rem p H q = none := by
  unfold rem
  split
  · rfl
  · exact h
def spSome (K : PySem.W.Frag) : Sp := fun vs H Q _ => ∃ (p a : Addr) (xs : List V) (m : Nat), vs = [.ref p, .ref a, .int (m : Int)] ∧ Pot H p ∧ SqL K (rem p H) a xs ∧ m ≤ xs.length ∧ xs.length ≤ 1000 ∧
  ∀ ys zs q H', (ys ++ zs).Perm xs → ys.length = m → Ex (rem p H) (rem p H') → Pot H' p → rem p H q = none → rem p H' q = some (.lst ys) → Q (.ref q) H'
end
end K21
set_option Elab.async false
set_option linter.all false
set_option maxRecDepth 100000
set_option maxHeartbeats 4000000
/-! what is drawn from the pot -/
namespace K21
open PySem PySem.Spec PyProof.Rows L2 Evl Gen RP
section
variable {α β γ : Type} {R : Rp α} {S : Rp β} {T : Rp γ} {K : PySem.W.Frag} {ps : List Addr} {p : Addr} {σ : L2.St} {H H' : Hp} {ta tb tc te : TE} {tr : TA} {tt t u : TT} {v w : V} {a : α} {C : α → Prop} {D : Ends} {tu tz : TS} {g : TG} {b x y : Bool} {i : Nat}
/-- all but the pot stands -/
def Pt (p : Addr) (H H' : Hp) : Prop := Ex (rem p H) (rem p H') ∧ Pot H' p
theorem pot_ex (h : Pot H p) (e : Ex H H') : Pot H' p := by
  obtain ⟨x', y', a1, a2⟩ := h
  exact ⟨x', y', e _ _ a1, a2⟩
theorem Pt.ex (h : Pot H p) (e : Ex H H') : Pt p H H' := ⟨rem_mono e, pot_ex h e⟩
theorem Pt.trans {H2 : Hp} (a : Pt p H H') (b : Pt p H' H2) : Pt p H H2 := ⟨a.1.trans b.1, b.2⟩
theorem Pt.own (h : Pt p H H') (o : Own ps H) : Own ps H' := fun q hq => by
  by_cases e : q = p
  · subst e
    obtain ⟨x', y', a1, a2⟩ := h.2
    exact ⟨_, a1, fun xs z => by cases z⟩
  · obtain ⟨ob, ho, hn⟩ := o q hq
    exact ⟨ob, rem_ex _ _ (h.1 _ _ (rem_at ho e)), hn⟩
theorem Pt.rm (h : Pt p H H') (m : p ∈ ps) : Ex (Rm ps H) (Rm ps H') := fun b u hb => by
  have hbn : b ∉ ps := fun mm => by rw [Rm_own mm] at hb; cases hb
  exact Rm_get (rem_ex _ _ (h.1 _ _ (rem_at (Rm_ex _ _ hb) fun z => hbn (z ▸ m)))) hbn
theorem Pt.fr (h : Pt p H H') (m : p ∈ ps) (o : Own ps H) : Fr ps H H' := ⟨h.own o, h.rm m⟩
def EvN (C : α → Prop) (R : Rp α) (ps : List Addr) (p : Addr) (te : TE) (σ : L2.St) (H : Hp) : Prop := ∀ H1, Ex H H1 → Own ps H1 → ∀ Q : VK, (∀ a v H2, Pt p H1 H2 → C a → R.p a v (Rm ps H2) → Q v H2) → te σ H1 Q
def EtN (b : Bool) (ps : List Addr) (p : Addr) (tt : TT) (σ : L2.St) (H : Hp) : Prop := ∀ H1, Ex H H1 → Own ps H1 → ∀ Q : Bool → Hp → Prop, (∀ H2, Pt p H1 H2 → Q b H2) → tt σ H1 Q
/-- a test that may come out either way -/
def EtQ (ps : List Addr) (p : Addr) (tt : TT) (σ : L2.St) (H : Hp) : Prop := ∀ H1, Ex H H1 → Own ps H1 → ∀ Q : Bool → Hp → Prop, (∀ b H2, Pt p H1 H2 → Q b H2) → tt σ H1 Q
theorem EtN.of (hp : Pot H p) (h : EtR ps t σ H b) : EtN b ps p t σ H := fun H1 e o Q q => h H1 e o Q fun H2 e2 => q H2 (Pt.ex (pot_ex hp e) e2)
theorem EvN.of (hp : Pot H p) (h : EvR R ps te σ H a) : EvN (fun z => z = a) R ps p te σ H := fun H1 e o Q q => h H1 e o Q fun v H2 e2 r => q a v H2 (Pt.ex (pot_ex hp e) e2) rfl r
theorem EvN.imp {C' : α → Prop} (h : EvN C R ps p te σ H) (k : ∀ a, C a → C' a) : EvN C' R ps p te σ H := fun H1 e o Q q => h H1 e o Q fun a v H2 f c r => q a v H2 f (k a c) r
theorem etn_or (m : p ∈ ps) (h1 : EtN x ps p t σ H) (h2 : x = false → ∀ H2, Pt p H H2 → EtN y ps p u σ H2) (hp : Pot H p) : EtN (x || y) ps p (tOr t u) σ H := fun H1 e o Q q => h1 H1 e o _ fun H2 f => by
  cases x with
  | true =>
    show Q true H2
    exact q H2 f
  | false =>
    show u σ H2 Q
    exact h2 rfl H2 ((Pt.ex hp e).trans f) H2 (Ex.refl _) (f.own o) Q fun H3 f3 => q H3 (f.trans f3)
theorem etn_not (h : EtN x ps p t σ H) : EtN (!x) ps p (tNot t) σ H := fun H1 e o Q q => h H1 e o _ fun H2 e2 => q H2 e2
theorem etn_B (h : EvN (fun z => z = b) rB ps p te σ H) : EtN b ps p (tB te) σ H := fun H1 e o Q q => h H1 e o _ fun z v H2 f c r => ⟨b, by rw [← c]; exact r, q H2 f⟩
theorem s_whenN (o : Own ps H) (h : EtN b ps p t σ H) (h1 : b = true → ∀ H1, Pt p H H1 → tu D σ H1) (h2 : b = false → ∀ H1, Pt p H H1 → D.nx σ H1) : tIfS t tu tNext D σ H := h H (Ex.refl H) o _ fun H1 f => by
  cases b with
  | true => exact h1 rfl H1 f
  | false => exact h2 rfl H1 f
theorem q_whenN (o : Own ps H) (h : EtN b ps p t σ H) (h1 : b = true → ∀ H1, Pt p H H1 → tu { D with nx := tz D } σ H1) (h2 : b = false → ∀ H1, Pt p H H1 → tz D σ H1) : tSeq (tIfS t tu tNext) tz D σ H := s_whenN (D := { D with nx := tz D }) o h h1 h2
theorem q_asgN (o : Own ps H) (h : EvN C R ps p te σ H) (k : ∀ a v H1, Pt p H H1 → C a → R.p a v (Rm ps H1) → tz D (σ.set i (some v)) H1) : tSeq (tAsg te (gName i)) tz D σ H := h H (Ex.refl H) o _ k
theorem s_asgN (o : Own ps H) (h : EvN C R ps p te σ H) (k : ∀ a v H1, Pt p H H1 → C a → R.p a v (Rm ps H1) → D.nx (σ.set i (some v)) H1) : tAsg te (gName i) D σ H := h H (Ex.refl H) o _ k
theorem s_retN (o : Own ps H) (h : EvN C R ps p te σ H) (k : ∀ a v H1, Pt p H H1 → C a → R.p a v (Rm ps H1) → D.rt v H1) : tRet te D σ H := h H (Ex.refl H) o _ k
/-- over a drawn list -/
theorem s_forN (o : Own ps H) (h : EvN C R ps p te σ H) (k : ∀ a v H1, Pt p H H1 → C a → R.p a v (Rm ps H1) → tFor (iList K (tC v)) g tu D σ H1) : tFor (iList K te) g tu D σ H := h H (Ex.refl H) o _ k
theorem q_forN (o : Own ps H) (h : EvN C R ps p te σ H) (k : ∀ a v H1, Pt p H H1 → C a → R.p a v (Rm ps H1) → tSeq (tFor (iList K (tC v)) g tu) tz D σ H1) : tSeq (tFor (iList K te) g tu) tz D σ H := h H (Ex.refl H) o _ k
theorem en_if (hp : Pot H p) (h : EtQ ps p t σ H) (h1 : ∀ H2, Pt p H H2 → EvR R ps ta σ H2 a) (h2 : ∀ H2, Pt p H H2 → EvR R ps tb σ H2 a) : EvN (fun z => z = a) R ps p (tIf t ta tb) σ H := fun H1 e o Q q => h H1 e o _ fun b H2 f => by
  have f2 := (Pt.ex hp e).trans f
  have go : ∀ {tx : TE}, EvR R ps tx σ H2 a → tx σ H2 Q := fun g => g H2 (Ex.refl _) (f.own o) Q fun v H3 e3 r => q a v H3 (f.trans (Pt.ex f.2 e3)) rfl r
  cases b with
  | true =>
    show ta σ H2 Q
    exact go (h1 H2 f2)
  | false =>
    show tb σ H2 Q
    exact go (h2 H2 f2)
/-! ### draws -/
theorem en_draw {m : Nat} {E : XK} (hp : Pot H p) (hi : σ[i]? = some (some (.ref p))) (h : EvR rI ps tb σ H (m : Int)) (h0 : 0 < m) (h1 : m ≤ 1000000000) : EvN (fun n => n < m) rN ps p (tCall spDraw [] E (tCons (tVar i) (tCons tb tNil))) σ H := fun H1 e o Q q =>
  ⟨_, hi, h H1 e o _ fun v H2 e2 r => by
    obtain rfl : v = .int (m : Int) := r
    refine ⟨p, m, rfl, pot_ex hp (e.trans e2), by omega, by omega, fun d H3 x hp3 d0 d1 => ?_⟩
    obtain ⟨n, rfl⟩ := Int.eq_ofNat_of_zero_le d0
    exact q n _ H3 ⟨(rem_mono e2).trans x, hp3⟩ (by omega) rfl⟩
theorem etq_draw {m : Nat} {j : Int} {E : XK} (hp : Pot H p) (hi : σ[i]? = some (some (.ref p))) (h : EvR rI ps tb σ H (m : Int)) (h0 : 0 < m) (h1 : m ≤ 1000000000) : EtQ ps p (tTest (tOp rEq (tCall spDraw [] E (tCons (tVar i) (tCons tb tNil))) (tC (.int j)))) σ H := fun H1 e o Q q =>
  en_draw (p := p) hp hi h h0 h1 H1 e o _ fun n v H2 f c r => by
    obtain rfl : v = .int (n : Int) := r
    exact ⟨rfl, _, rfl, q _ H2 f⟩
theorem all2_perm {P : α → V → Prop} : ∀ {xs ys : List V} {as : List α}, ys.Perm xs → All2 P as xs → ∃ bs, bs.Perm as ∧ All2 P bs ys := by
  intro xs ys as h
  induction h generalizing as with
  | nil => exact fun q => ⟨as, List.Perm.refl _, q⟩
  | cons x _ ih =>
    intro q
    cases as with
    | nil => exact q.elim
    | cons a r =>
      obtain ⟨bs, h1, h2⟩ := ih q.2
      exact ⟨a :: bs, h1.cons a, q.1, h2⟩
  | swap x y l =>
    intro q
    match as, q with
    | a :: b :: r, q => exact ⟨b :: a :: r, List.Perm.swap .., q.2.1, q.1, q.2.2⟩
  | trans _ _ ih1 ih2 =>
    intro q
    obtain ⟨bs, h1, h2⟩ := ih2 q
    obtain ⟨cs, h3, h4⟩ := ih1 h2
    exact ⟨cs, h3.trans h1, h4⟩
theorem all2_split {P : α → V → Prop} : ∀ {ys zs : List V} {as : List α}, All2 P as (ys ++ zs) → ∃ bs cs, as = bs ++ cs ∧ All2 P bs ys ∧ All2 P cs zs
  | [], zs, as, q => ⟨[], as, rfl, trivial, q⟩
  | y :: ys, zs, [], q => q.elim
  | y :: ys, zs, a :: as, q => by
    obtain ⟨bs, cs, h1, h2, h3⟩ := all2_split (ys := ys) (zs := zs) (as := as) q.2
    exact ⟨a :: bs, cs, by rw [h1]; rfl, ⟨q.1, h2⟩, h3⟩
theorem en_some {as : List α} {m : Nat} {E : XK} (mp : p ∈ ps) (hp : Pot H p) (hi : σ[i]? = some (some (.ref p))) (h : EvR (rL R) ps tb σ H as) (h2 : EvR rI ps tc σ H (m : Int)) (hm : m ≤ as.length) (hz : as.length ≤ 1000) :
    EvN (fun bs => ∃ cs, (bs ++ cs).Perm as ∧ bs.length = m) (rL R) ps p (tCall (spSome K) [] E (tCons (tVar i) (tCons tb (tCons tc tNil)))) σ H := fun H1 e o Q q =>
  ⟨_, hi, h H1 e o _ fun v H2 e2 r => h2 H2 (e.trans e2) (o.ex e2) _ fun w H3 e3 r3 => by
    obtain rfl : w = .int (m : Int) := r3
    obtain ⟨l, vs, rfl, hl, hv⟩ := (rL R).m (Rm_mono e3) r
    have nl : l ≠ p := fun z => by rw [z, Rm_own mp] at hl; cases hl
    have hp3 := pot_ex hp ((e.trans e2).trans e3)
    refine ⟨p, l, vs, m, rfl, hp3, sq_of (rem_at (Rm_ex _ _ hl) nl), by rw [← hv.len]; exact hm, by rw [← hv.len]; exact hz, fun ys zs q' H4 h5 h6 h7 h8 h9 h10 => ?_⟩
    have f : Pt p H3 H4 := ⟨h7, h8⟩
    obtain ⟨ds, h11, h12⟩ := all2_perm h5 hv
    obtain ⟨bs, cs, rfl, h13, h14⟩ := all2_split h12
    have o3 := o.ex (e2.trans e3)
    have nq : q' ∉ ps := fun mm => by
      by_cases ez : q' = p
      · rw [ez, rem_p] at h10; cases h10
      · obtain ⟨ob, ho, _⟩ := o3 q' mm
        rw [rem_at ho ez] at h9
        cases h9
    exact q bs _ H4 ((Pt.ex (pot_ex hp e) (e2.trans e3)).trans f) ⟨cs, h11, by rw [h13.len, h6]⟩ ⟨q', ys, rfl, Rm_get (rem_ex _ _ h10) nq, h13.imp fun _ _ r => R.m (f.rm mp) r⟩⟩
theorem en_pick {as : List α} {E : XK} (mp : p ∈ ps) (hp : Pot H p) (hi : σ[i]? = some (some (.ref p))) (h : EvR (rL R) ps tb σ H as) (h0 : 0 < as.length) (hz : as.length ≤ 1000) :
    EvN (fun a => a ∈ as) R ps p (tCall (spPick K) [] E (tCons (tVar i) (tCons tb tNil))) σ H := fun H1 e o Q q =>
  ⟨_, hi, h H1 e o _ fun v H2 e2 r => by
    obtain ⟨l, vs, rfl, hl, hv⟩ := r
    have nl : l ≠ p := fun z => by rw [z, Rm_own mp] at hl; cases hl
    refine ⟨p, l, vs, rfl, pot_ex hp (e.trans e2), rem_at (Rm_ex _ _ hl) nl, by rw [← hv.len]; exact h0, by rw [← hv.len]; exact hz, fun x H3 hx h7 h8 => ?_⟩
    have f : Pt p H2 H3 := ⟨h7, h8⟩
    obtain ⟨j, hj⟩ := List.mem_iff_getElem?.mp hx
    obtain ⟨a, ha, hr⟩ := hv.getv hj
    exact q a x H3 ((Pt.ex (pot_ex hp e) e2).trans f) (List.mem_of_getElem? ha) (R.m (f.rm mp) hr)⟩
/-- promises with the pot ahead -/
def SpD (R : Rp α) (C : α → Prop) : Sp := fun vs H Q _ => ∃ ps p v a, vs = [.ref p, v] ∧ p ∈ ps ∧ Own ps H ∧ Pot H p ∧ R.p a v (Rm ps H) ∧ C a ∧ ∀ H', Pt p H H' → Q (.bl true) H'
theorem en_callD {E : XK} (mp : p ∈ ps) (hp : Pot H p) (hi : σ[i]? = some (some (.ref p))) (h : EvR R ps tb σ H a) (hc : C a) : EvN (fun z => z = true) rB ps p (tCall (SpD R C) [] E (tCons (tVar i) (tCons tb tNil))) σ H := fun H1 e o Q q =>
  ⟨_, hi, h H1 e o _ fun v H2 e2 r => ⟨ps, p, v, a, rfl, mp, o.ex e2, pot_ex hp (e.trans e2), r, hc, fun H3 f => q true _ H3 ((Pt.ex (pot_ex hp e) e2).trans f) rfl rfl⟩⟩
theorem en_callDG {E : XK} (mp : p ∈ ps) (hp : Pot H p) (hi : σ[i]? = some (some (.ref p))) (h : EvR R ps tb σ H a) (hc : C a) : EvN (fun z => z = true) rB ps p (tCallG (SpD R C) E (tCons (tVar i) (tCons tb tNil))) σ H := fun H1 e o Q q =>
  ⟨_, hi, h H1 e o _ fun v H2 e2 r => ⟨ps, p, v, a, rfl, mp, o.ex e2, pot_ex hp (e.trans e2), r, hc, fun H3 f => q true _ H3 ((Pt.ex (pot_ex hp e) e2).trans f) rfl rfl⟩⟩
end
end K21
set_option Elab.async false
set_option linter.all false
set_option maxRecDepth 100000
set_option maxHeartbeats 4000000
/-! a drawn plan: own lists that are popped from -/
namespace K21
open PySem PySem.Spec PyProof.Rows L2 Evl Gen RP
section
variable {α β γ : Type} {R : Rp α} {S : Rp β} {K : PySem.W.Frag} {ps qs : List Addr} {p l q : Addr} {σ : L2.St} {H H' H1 H2 : Hp} {ta tb tc te : TE} {D : Ends} {tu tz : TS} {g : TG} {C : Nat → Prop} {E : XK} {i j : Nat}
theorem Pt.back (f : Pt p H H1) (o : Oth l H1 H2) (hl : H l = none) (h : Pot H2 p) : Pt p H H2 := ⟨fun b u hb => by
  have hb1 := f.1 b u hb
  have n : b ≠ l := fun z => by
    have := rem_ex _ _ hb
    rw [z, hl] at this
    cases this
  have np : b ≠ p := fun z => by rw [z, rem_p] at hb; cases hb
  exact rem_at (o b u n (rem_ex _ _ hb1)) np, h⟩
theorem pot_oth (h : Pot H p) (o : Oth l H H') (n : p ≠ l) : Pot H' p := by
  obtain ⟨x', y', a1, a2⟩ := h
  exact ⟨x', y', o p _ n a1, a2⟩
theorem Rm_sub (h : ∀ x ∈ ps, x ∈ qs) : Ex (Rm qs H) (Rm ps H) := fun b u hb => by
  have n : b ∉ qs := fun m => by rw [Rm_own m] at hb; cases hb
  exact Rm_get (Rm_ex _ _ hb) fun m => n (h b m)
theorem _root_.RP.Ls.rep_of {as : List α} {a : Addr} (h : Ls R qs H a as) (hs : ∀ x ∈ ps, x ∈ qs) (n : a ∉ ps) : (rL R).p as (.ref a) (Rm ps H) := let ⟨_, vs, h1, h2⟩ := h; ⟨a, vs, rfl, Rm_get h1 n, h2.imp fun _ _ r => R.m (Rm_sub hs) r⟩
/-- beside one own thing more, laid new -/
theorem Rm_new (e : Ex H H') (hn : H l = none) : Ex (Rm ps H) (Rm (l :: ps) H') := fun b u hb => by
  have n : b ≠ l := fun z => by rw [z, Rm_none hn] at hb; cases hb
  have n2 : b ∉ ps := fun m => by rw [Rm_own m] at hb; cases hb
  exact Rm_get (e _ _ (Rm_ex _ _ hb)) fun m => (List.mem_cons.mp m).elim n n2
theorem _root_.RP.Ls.new {as : List α} {a : Addr} (h : Ls R ps H a as) (e : Ex H H') (hn : H l = none) : Ls R (l :: ps) H' a as := let ⟨m, vs, h1, h2⟩ := h; ⟨List.mem_cons_of_mem _ m, vs, e _ _ h1, h2.imp fun _ _ r => R.m (Rm_new e hn) r⟩
theorem rE_re {e : Str × Str} {v : V} (o : Own qs H) (h : rE.p e v (Rm ps H)) : rE.p e v (Rm qs H) := by
  obtain ⟨a, y, z, rfl, ha, h1, h2⟩ := h
  have := Rm_ex _ _ ha
  exact ⟨a, y, z, rfl, Rm_get this (o.tup this), h1, h2⟩
theorem _root_.RP.Ls.pt {as : List α} {a : Addr} (h : Ls R ps H a as) (f : Pt p H H') (m : p ∈ ps) (n : a ≠ p) : Ls R ps H' a as := let ⟨m1, vs, h1, h2⟩ := h; ⟨m1, vs, rem_ex _ _ (f.1 _ _ (rem_at h1 n)), h2.imp fun _ _ r => R.m (f.rm m) r⟩
/-- some(..): the list is new -/
theorem run_some {as : List α} {m : Nat} {Q : VK} (mp : p ∈ ps) (hp : Pot H p) (o : Own ps H) (hi : σ[i]? = some (some (.ref p))) (h : EvR (rL R) ps tb σ H as) (h2 : EvR rI ps tc σ H (m : Int)) (hm : m ≤ as.length) (hz : as.length ≤ 1000)
    (k : ∀ bs cs q' H1, (bs ++ cs).Perm as → bs.length = m → Pt p H H1 → H q' = none → q' ∉ ps → Own (q' :: ps) H1 → Ls R (q' :: ps) H1 q' bs → Q (.ref q') H1) :
    tCall (spSome K) [] E (tCons (tVar i) (tCons tb (tCons tc tNil))) σ H Q := ⟨_, hi, h H (Ex.refl _) o _ fun v H2 e2 r => h2 H2 e2 (o.ex e2) _ fun w H3 e3 r3 => by
    obtain rfl : w = .int (m : Int) := r3
    obtain ⟨l, vs, rfl, hl, hv⟩ := (rL R).m (Rm_mono e3) r
    have nl : l ≠ p := fun z => by rw [z, Rm_own mp] at hl; cases hl
    have hp3 := pot_ex hp (e2.trans e3)
    refine ⟨p, l, vs, m, rfl, hp3, sq_of (rem_at (Rm_ex _ _ hl) nl), by rw [← hv.len]; exact hm, by rw [← hv.len]; exact hz, fun ys zs q' H4 h5 h6 h7 h8 h9 h10 => ?_⟩
    have f : Pt p H3 H4 := ⟨h7, h8⟩
    obtain ⟨ds, h11, h12⟩ := all2_perm h5 hv
    obtain ⟨bs, cs, rfl, h13, h14⟩ := all2_split h12
    have o3 := o.ex (e2.trans e3)
    have ez : q' ≠ p := fun ez => by rw [ez, rem_p] at h10; cases h10
    have hq3 : H3 q' = none := by
      cases hh : H3 q' with
      | none => rfl
      | some u => rw [rem_at hh ez] at h9; cases h9
    have nq := o3.nin hq3
    have h4 := rem_ex _ _ h10
    refine k bs cs q' H4 h11 (by rw [h13.len, h6]) ((Pt.ex hp (e2.trans e3)).trans f) (fresh_back (e2.trans e3) hq3) nq ((f.own o3).push h4) ⟨List.mem_cons_self .., ys, h4, h13.imp fun _ _ r => R.m (fun b u hb => ?_) r⟩
    have n : b ≠ q' := fun z => by rw [z, Rm_none hq3] at hb; cases hb
    have := f.rm mp b u hb
    have n2 : b ∉ ps := fun m => by rw [Rm_own m] at this; cases this
    exact Rm_get (Rm_ex _ _ this) fun m => (List.mem_cons.mp m).elim n n2⟩
theorem s_forRN (o : Own ps H) (h : EvN C rN ps p te σ H) (k : ∀ n H1, Pt p H H1 → C n → tFor (iRng1 (tCons (tC (.int (n : Int))) tNil)) g tu D σ H1) : tFor (iRng1 (tCons te tNil)) g tu D σ H := h H (Ex.refl H) o _ fun n v H1 f c r => by
  obtain rfl : v = .int (n : Int) := r
  exact k n H1 f c
theorem q_forRN (o : Own ps H) (h : EvN C rN ps p te σ H) (k : ∀ n H1, Pt p H H1 → C n → tSeq (tFor (iRng1 (tCons (tC (.int (n : Int))) tNil)) g tu) tz D σ H1) : tSeq (tFor (iRng1 (tCons te tNil)) g tu) tz D σ H := h H (Ex.refl H) o _ fun n v H1 f c r => by
  obtain rfl : v = .int (n : Int) := r
  exact k n H1 f c
theorem lc_RN {tt : TT} {tx : TE} {vs : List Nat} {Q : VK} (o : Own ps H) (h : EvN C rN ps p te σ H) (k : ∀ n H1, Pt p H H1 → C n → tLc (iRng1 (tCons (tC (.int (n : Int))) tNil)) g tt tx vs σ H1 Q) : tLc (iRng1 (tCons te tNil)) g tt tx vs σ H Q := h H (Ex.refl H) o _ fun n v H1 f c r => by
  obtain rfl : v = .int (n : Int) := r
  exact k n H1 f c
theorem en_addC {x m : Nat} (h : EvN (fun n => n < m) rN ps p te σ H) : EvN (fun n => x ≤ n ∧ n < x + m) rN ps p (tOp (rI0 fun i j => V.int (i + j)) (tC (.int (x : Int))) te) σ H := fun H1 e o Q q => h H1 e o _ fun n v H2 f c r => by
    obtain rfl : v = .int (n : Int) := r
    exact ⟨_, _, rfl, rfl, q (x + n) _ H2 f ⟨by omega, by omega⟩ (by show V.int _ = V.int _; rw [Int.natCast_add])⟩
/-- own.append(e), e changing other own things -/
theorem s_appN (hi : σ[i]? = some (some (.ref q))) (hq : ∃ vs, H q = some (.lst vs)) (h : te σ H fun v H2 => rAppend (.ref q) [v] H2 fun _ H3 => D.nx σ H3) : tDrop (tBM K "list" rAppend (tVar i) (tCons te tNil)) D σ H := by
  obtain ⟨vs, h1⟩ := hq
  exact ⟨_, hi, Or.inl ⟨rfl, vs, sq_of h1⟩, h⟩
/-- [own.pop() for .. in range(n)] -/
theorem lc_pops {xs : List Str} {n : Nat} {Q : VK} (L : Ls rS ps H l xs) (hn : n ≤ xs.length) (hz : n ≤ 1000) (hw : ∀ x, wipe ((wipe σ [j]).set j (some x)) [j] = wipe σ [j]) (hi : ∀ x, ((wipe σ [j]).set j (some x))[i]? = some (some (.ref l)))
    (k : ∀ q H', H q = none → Oth l H H' → H' q = some (.lst (((xs.drop (xs.length - n)).reverse).map V.str)) → H' l = some (.lst ((xs.take (xs.length - n)).map V.str)) → Q (.ref q) H') :
    tLc (iRng1 (tCons (tC (.int (n : Int))) tNil)) (gName j) tYes (tBM0 K "list" rPop (tVar i)) [j] σ H Q := by
  obtain ⟨m, vs, hl, hv⟩ := L
  have hvs : vs = xs.map V.str := strs_eq hv
  subst hvs
  refine ⟨(n : Int), rfl, by omega, by omega, fun Dl hD => ?_⟩
  have nD : Dl ≠ l := fun z => by rw [z, hl] at hD; cases hD
  rw [show ((n : Int)).toNat = n from Int.toNat_natCast n]
  refine lc_it (walk_range (lo := 0) (n := n)) (fun t H2 => Oth l H H2 ∧ H2 Dl = some (.lst (((xs.drop (xs.length - t)).reverse).map V.str)) ∧ H2 l = some (.lst ((xs.take (xs.length - t)).map V.str)))
    ⟨fun b u nb hb => by rw [upd_ne (fun z => by rw [z, hD] at hb; cases hb)]; exact hb, by rw [upd_same, Nat.sub_zero, List.drop_length]; rfl, by rw [upd_ne nD.symm, Nat.sub_zero, List.take_length]; exact hl⟩
    (fun _ _ _ _ => trivial) (fun t x H2 H3 ht pv y => ?_) (fun H2 pv => ?_)
  · obtain ⟨rfl, rfl⟩ := y
    obtain ⟨h1, h2, h3⟩ := pv
    refine ⟨hw _, ?_⟩
    have hpos : xs.length - t - 1 < xs.length := by omega
    have hlast : ((xs.take (xs.length - t)).map V.str)[((xs.take (xs.length - t)).map V.str).length - 1]? = some (.str xs[xs.length - t - 1]) := by
      rw [List.length_map, List.length_take, Nat.min_eq_left (by omega), List.getElem?_map, List.getElem?_take_of_lt (by omega), List.getElem?_eq_getElem hpos]
      rfl
    refine ⟨_, hi _, Or.inl ⟨rfl, _, sq_of h3⟩, l, _, _, rfl, rfl, h3, hlast, ?_⟩
    refine ⟨_, by rw [upd_ne nD]; exact h2, sz_lt (by rw [List.length_map, List.length_reverse, List.length_drop]; omega), ?_, ?_, ?_⟩
    · intro b u nb hb
      rw [upd_ne (fun z => by rw [z, hD] at hb; cases hb), upd_ne nb]
      exact h1 b u nb hb
    · rw [upd_same, ← List.map_singleton (f := V.str), ← List.map_append]
      congr 2
      have e1 : xs.drop (xs.length - (t + 1)) = xs[xs.length - t - 1] :: xs.drop (xs.length - t) := by
        rw [show xs.length - (t + 1) = xs.length - t - 1 by omega, List.drop_eq_getElem_cons hpos, show xs.length - t - 1 + 1 = xs.length - t by omega]
      rw [e1, List.reverse_cons]
    · rw [upd_ne nD.symm, upd_same, ← List.map_dropLast]
      congr 3
      rw [List.dropLast_eq_take, List.length_take, Nat.min_eq_left (by omega), List.take_take]
      congr 1
      omega
  · exact k Dl H2 hD pv.1 pv.2.1 pv.2.2
theorem dtE : Dt K (rL rE) (fun es : List (Str × Str) => PyData.list (es.map fun x => PyData.tuple [PyData.str x.1, PyData.str x.2])) (fun as => ∀ a ∈ as, okS a.1 ∧ okS a.2) 2 := dtL (dtP dtS dtS)
theorem ok_nil : ∀ a ∈ ([] : List (Str × Str)), okS a.1 ∧ okS a.2 := fun _ h => (nomatch h)
theorem ev_neNil {es : List (Str × Str)} (L : Ls rE ps H l es) (hi : σ[i]? = some (some (.ref l))) (ok : ∀ e ∈ es, okS e.1 ∧ okS e.2) : Ev (tOp (rNeD K) (tVar i) (tLst tNil)) σ H (.bl (!decide (es = []))) := fun H1 e Q q => by
  obtain ⟨m, vs, hl, hv⟩ := L
  refine ⟨_, hi, sz_of (Nat.zero_le _), fun p hp => ?_⟩
  have e2 : Ex H (upd H1 p (.lst [])) := e.trans (Ex.new hp)
  have D := dtE (K := K)
  have r1 : (rL rE).p es (.ref l) (upd H1 p (.lst [])) := ⟨l, vs, rfl, e2 _ _ hl, hv.imp fun _ _ r => rE.m (Rm_ex.trans e2) r⟩
  have r2 : (rL rE).p [] (.ref p) (upd H1 p (.lst [])) := ⟨p, [], rfl, upd_same, trivial⟩
  have s1 := dt_shaped D (by decide) ok
  have s2 := dt_shaped (a := ([] : List (Str × Str))) D (by decide) ok_nil
  refine ⟨_, _, D.of r1, D.of r2, s1, s2, ?_⟩
  rw [eqv_dec D ok ok_nil]
  exact q _ (Ex.new hp)
end
theorem pe_bm0K {X : Cx} {K : PySem.W.Frag} {o : Expr} {to : TE} {name : Str} {apos cpos : Pos} {T id : String} {r : V → List V → Hp → VK → Prop} (hK : X.K = K) (pa : PlainAttrs T) (slot : Slot T name id) (hty : typeOf (.builtin id) = pure (.type "method_descriptor")) (hm : MtR X id r) (ho : PE X o to)
    (hbase : attributeBase o name X.env (eval o X.env) = eval o X.env := by rfl) (hline : (apos.endLine == cpos.line) = true := by rfl) : PE X (.Call (.Attribute o name apos) [] [] cpos) (tBM0 K T r to) := hK ▸ pe_bm0 pa slot hty hm ho hbase hline
theorem perm_erase {α : Type} : ∀ {xs : List α} {j : Nat} (hj : j < xs.length), ([xs[j]] ++ xs.eraseIdx j).Perm xs
  | a :: r, 0, _ => List.Perm.refl _
  | a :: r, j + 1, h => (List.Perm.swap a (r[j]'(Nat.lt_of_succ_lt_succ h)) _).trans ((perm_erase (xs := r) (j := j) (Nat.lt_of_succ_lt_succ h)).cons a)
def colL (x : List Str × List Str) (lo : Str) : List (Str × Str) := x.2.map fun hi => (lo, hi)
def rowL (x : List Str × List Str) : List (Str × Str) := x.1.flatMap (colL x)
def allL (rows : List (List Str)) : List (Str × Str) := (rows.zip (rows.drop 1)).flatMap rowL
/-! ### all lines of rows -/
theorem allL_cons {a b : List Str} {r : List (List Str)} : allL (a :: b :: r) = rowL (a, b) ++ allL (b :: r) := rfl
theorem mem_rowL {x : List Str × List Str} {e : Str × Str} : e ∈ rowL x ↔ e.1 ∈ x.1 ∧ e.2 ∈ x.2 := by
  unfold rowL colL
  rw [List.mem_flatMap]
  constructor
  · rintro ⟨lo, h1, h2⟩
    obtain ⟨hi, h3, rfl⟩ := List.mem_map.mp h2
    exact ⟨h1, h3⟩
  · rintro ⟨h1, h2⟩
    exact ⟨e.1, h1, List.mem_map.mpr ⟨e.2, h2, rfl⟩⟩
theorem allL_fit : ∀ {rows : List (List Str)} {e : Str × Str}, e ∈ allL rows → Fit rows e
  | [], e, h => nomatch h
  | [a], e, h => nomatch h
  | a :: b :: r, e, h => by
    rw [allL_cons, List.mem_append] at h
    rcases h with h | h
    · have := mem_rowL.mp h
      exact ⟨0, a, b, rfl, rfl, this.1, this.2⟩
    · obtain ⟨i, x, y, h1, h2, h3, h4⟩ := allL_fit h
      exact ⟨i + 1, x, y, h1, h2, h3, h4⟩
theorem rowL_nd {a b : List Str} (ha : a.Nodup) (hb : b.Nodup) : (rowL (a, b)).Nodup := by
  unfold rowL
  induction a with
  | nil => exact List.nodup_nil
  | cons x r ih =>
    have h := List.nodup_cons.mp ha
    rw [List.flatMap_cons]
    refine List.nodup_append.mpr ⟨?_, ih h.2, fun e h1 f h2 z => ?_⟩
    · exact List.Pairwise.map _ (fun y z hne e => hne (congrArg Prod.snd e)) hb
    · subst z
      obtain ⟨y, _, rfl⟩ := List.mem_map.mp h1
      have := mem_rowL (x := (r, b)).mp h2
      exact h.1 this.1
theorem allL_nd : ∀ {rows : List (List Str)}, rows.flatten.Nodup → (allL rows).Nodup
  | [], _ => List.nodup_nil
  | [a], _ => List.nodup_nil
  | a :: b :: r, h => by
    rw [List.flatten_cons] at h
    have h1 := List.nodup_append.mp h
    have h2 := h1.2.1
    rw [List.flatten_cons] at h2
    have h3 := List.nodup_append.mp h2
    rw [allL_cons]
    refine List.nodup_append.mpr ⟨rowL_nd h1.1 h3.1, allL_nd h1.2.1, fun e he f hf z => ?_⟩
    subst z
    exact h1.2.2 e.1 (mem_rowL.mp he).1 e.1 (allL_fit hf).in1 rfl
end K21
set_option Elab.async false
set_option linter.all false
set_option maxRecDepth 100000
set_option maxHeartbeats 4000000
namespace K21
open PySem PySem.Spec PyProof.Rows L2 Evl Gen RP
section
variable {P : Program} {w : World} {K : PySem.W.Frag} {mg : Str → Option Value} {base : Heap} {fd : Nat → FuncData}
theorem q_par2R {i j : Nat} {α β : Type} {R : Rp α} {S : Rp β} {ps : List Addr} {σ : L2.St} {H : Hp} {ta tb : TE} {tz : TS} {D : Ends} {a : α} {b : β} (o : Own ps H) (h1 : EvR R ps ta σ H a) (h2 : EvR S ps tb σ H b) (k : ∀ v w H1, Ex H H1 → R.p a v (Rm ps H1) → S.p b w (Rm ps H1) → tz D ((σ.set i (some v)).set j (some w)) H1) : tSeq (tAsg (tTup (tCons ta (tCons tb tNil))) (gTup K 2 (gCons (gName i) (gCons (gName j) gNil)))) tz D σ H :=
  h1 H (Ex.refl H) o _ fun v H1 e1 r1 => h2 H1 e1 (o.ex e1) _ fun w H2 e2 r2 => ⟨sz_of (by show 2 ≤ 100000; decide), fun t ht => by
    have e3 := Ex.new (o := .tup [v, w]) ht
    refine ⟨t, _, rfl, st_of upd_same, rfl, _, _, rfl, _, _, rfl, rfl, ?_⟩
    exact k v w _ ((e1.trans e2).trans e3) (R.m (Rm_mono (e2.trans e3)) r1) (S.m (Rm_mono e3) r2)⟩
theorem duos_pair {s : Sht} {d : Str × Str} (h : d ∈ duosOf s.1) : PairOk s d := mem_duos.mp h
theorem pair_ok {s : Sht} (ok : Sok s) {d : Str × Str} (h : PairOk s d) : okS d.1 ∧ okS d.2 := by
  have nm : ∀ z ∈ s.1.flatten, okS z := fun z hz => by
    obtain ⟨l, h1, h2⟩ := List.mem_flatten.mp hz
    exact isN_strOk (ok.lv.names l h1 z h2)
  exact ⟨nm _ h.in1, nm _ h.in2⟩
theorem er_movesC {ps : List Addr} {σ : L2.St} {H : Hp} {ta tb : TE} {es : List (Str × Str)} {d : Str × Str} {E : XK} (h : EvR (rL rE) ps ta σ H es) (h2 : EvR rE ps tb σ H d) (hz : es.length ≤ 72) : EvR (rL rE) ps (tCall (Sp2 (rL rE) rE (rL rE) movesOf (fun es _ => es.length ≤ 72)) [] E (tCons ta (tCons tb tNil))) σ H (movesOf es d) := er_call2 (f := movesOf) h h2 hz
/-- [steps(x, d) for d in ds] == [moves(es, d) for d in ds] -/
theorem er_both {ps : List Addr} {σ : L2.St} {H : Hp} {ia ib il j : Nat} {v1 v2 v3 : V} {s : Sht} {es ds : List (Str × Str)} {E E' : XK} {vs vs' : List Nat} (g1 : σ[ia]? = some (some v1)) (g2 : σ[ib]? = some (some v2)) (g3 : σ[il]? = some (some v3)) (r : (rS_ K).p s v1 (Rm ps H)) (rl : (rL rE).p es v2 (Rm ps H)) (rd : (rL rE).p ds v3 (Rm ps H)) (ok : Sok s) (hz : es.length ≤ 72) (hd : ∀ d ∈ ds, PairOk s d) (hl : ds.length ≤ 3888) (he : ∀ e ∈ es, okS e.1 ∧ okS e.2) (hm : ∀ d ∈ ds, movesOf s.2 d = movesOf es d)
    (hw : ∀ x, wipe ((wipe σ vs).set j (some x)) vs = wipe σ vs) (hw' : ∀ x, wipe ((wipe σ vs').set j (some x)) vs' = wipe σ vs') (hj : ∀ x, ((wipe σ vs).set j (some x))[ia]? = some (some v1) ∧ ((wipe σ vs).set j (some x))[j]? = some (some x)) (hj' : ∀ x, ((wipe σ vs').set j (some x))[ib]? = some (some v2) ∧ ((wipe σ vs').set j (some x))[j]? = some (some x)) :
    EvR rB ps (tOp (rEqD K) (tLc (iList K (tVar il)) (gName j) tYes (tCall (spSteps K) [] E (tCons (tVar ia) (tCons (tVar j) tNil))) vs) (tLc (iList K (tVar il)) (gName j) tYes (tCall (Sp2 (rL rE) rE (rL rE) movesOf (fun es _ => es.length ≤ 72)) [] E' (tCons (tVar ib) (tCons (tVar j) tNil))) vs')) σ H true := by
  have a1 : EvR (rL (rL rE)) ps (tLc (iList K (tVar il)) (gName j) tYes (tCall (spSteps K) [] E (tCons (tVar ia) (tCons (tVar j) tNil))) vs) σ H (ds.map (movesOf s.2)) := er_lc1 (R := rE) (S := rL rE) (movesOf s.2) (wk_list (er_var g3 rd)) (by omega) hw fun d hd' qs v H1 e1 o1 x1 r1 => er_steps (er_var (hj v).1 ((rS_ K).m x1 r)) (er_var (hj v).2 r1) ok (hd d hd')
  have a2 : EvR (rL (rL rE)) ps (tLc (iList K (tVar il)) (gName j) tYes (tCall (Sp2 (rL rE) rE (rL rE) movesOf (fun es _ => es.length ≤ 72)) [] E' (tCons (tVar ib) (tCons (tVar j) tNil))) vs') σ H (ds.map (movesOf es)) := er_lc1 (R := rE) (S := rL rE) (movesOf es) (wk_list (er_var g3 rd)) (by omega) hw' fun d hd' qs v H1 e1 o1 x1 r1 => er_movesC (er_var (hj' v).1 ((rL rE).m x1 rl)) (er_var (hj' v).2 r1) hz
  have hmm : ds.map (movesOf s.2) = ds.map (movesOf es) := List.map_congr_left hm
  have o2 : ∀ m ∈ ds.map (movesOf es), ∀ e ∈ m, okS e.1 ∧ okS e.2 := fun m h e h2 => by
    obtain ⟨d, _, rfl⟩ := List.mem_map.mp h
    exact moves_ok he e h2
  exact er_is (er_eqD (dtL (dtL (dtP dtS dtS))) (by decide) a1 a2 (by rw [hmm]; exact o2) o2) (decide_eq_true hmm)
theorem sc_law_plain_right : FnScope ["_law_near", "_law_duos_here", "_law_ties", "_law_duo"] ["_law_near"] (defScope (topS 59)) := ⟨rfl, rfl, rfl, by decide +kernel, rfl, by decide +kernel, by decide +kernel⟩
theorem ok_law_plain_right (T : Tx K mg fd) : FnOk P w K mg base CX0 9 (He.ga K "_law_plain_right") (fd 31) ["_law_near"] (Sp1 (rS_ K) rB (fun _ => true) Sok) := by
  refine (T.df 31 59 "_law_plain_right" rfl).ok sc_law_plain_right (fun vs H Q E h => ?len) (fun cdv A outer s H vs Q E hr h => ?body)
  case body =>
    refine ⟨_, (pss_cons (ps_asg (pe_tup (pa_cons (pe_call (ok_law_duos T) (hr.mono (by decide)) (by rfl) (T.gl 26 "_law_duos" rfl) (T.df 24 52 "_law_duos" rfl).kp ((T.df 24 52 "_law_duos" rfl).binds (ps := ["_law_rows"]) fun _ _ _ _ _ _ us hl => match us, hl with | [_], _ => rfl) .nil pass0 (pa_cons (pe_meth0 (pv 0) T.cls (T.meth 67 "levels" rfl) (ok_sh_levels T) (hr.mono (by decide)) ((T.dm 47 5 "levels" "Sheet.levels" rfl).binds (ps := ["self"]) fun _ _ _ _ _ _ us hl => match us, hl with | [_], _ => rfl) .nil pass0) pa_nil)) (pa_cons (pe_meth0 (pv 0) T.cls (T.meth 69 "lines" rfl) (ok_sh_lines T) (hr.mono (by decide)) ((T.dm 49 7 "lines" "Sheet.lines" rfl).binds (ps := ["self"]) fun _ _ _ _ _ _ us hl => match us, hl with | [_], _ => rfl) .nil pass0) pa_nil))) (pg_tup rfl (pgs_cons (pg_name (i := 1) sc_law_plain_right.nd rfl (Or.inl rfl)) (pgs_cons (pg_name (i := 2) sc_law_plain_right.nd rfl (Or.inr rfl)) pgs_nil)))) (pss_one (ps_ret (pe_cmpR (op_eqD hr.units) (pe_lc (own := [("_law_duo", 3)]) (g := gName 3) rfl sc_law_plain_right.nd (pi_list (pv 1)) (blkOk_by (N := ["_law_near", "_law_duos_here", "_law_ties", "_law_duo"]) (sc := (defScope (topS 59))) (own := [("_law_duo", 3)]) (by decide +kernel)) (fun _ _ _ _ _ => (pg_name (i := 3) sc_law_plain_right.nd rfl (Or.inl rfl))) (fun _ _ _ _ _ => pts_nil) (fun _ _ _ _ _ => (pe_call (ok_steps T) (hr.mono (by decide)) (by rfl) (T.gl 19 "steps" rfl) (T.df 17 44 "steps" rfl).kp ((T.df 17 44 "steps" rfl).binds (ps := ["sheet", "pair"]) fun _ _ _ _ _ _ us hl => match us, hl with | [_, _], _ => rfl) .nil pass0 (pa_cons (pv 0) (pa_cons (pv 3) pa_nil))))) (pe_lc (own := [("_law_duo", 3)]) (g := gName 3) rfl sc_law_plain_right.nd (pi_list (pv 1)) (blkOk_by (N := ["_law_near", "_law_duos_here", "_law_ties", "_law_duo"]) (sc := (defScope (topS 59))) (own := [("_law_duo", 3)]) (by decide +kernel)) (fun _ _ _ _ _ => (pg_name (i := 3) sc_law_plain_right.nd rfl (Or.inl rfl))) (fun _ _ _ _ _ => pts_nil) (fun _ _ _ _ _ => (pe_call (ok_law_moves T) (hr.mono (by decide)) (by rfl) (T.gl 28 "_law_moves" rfl) (T.df 26 54 "_law_moves" rfl).kp ((T.df 26 54 "_law_moves" rfl).binds (ps := ["_law_ties", "_law_duo"]) fun _ _ _ _ _ _ us hl => match us, hl with | [_, _], _ => rfl) .nil pass0 (pa_cons (pv 2) (pa_cons (pv 3) pa_nil))))) (nomark _))))), ?_⟩
    obtain ⟨ps, v, s, rfl, o, r, ok, q⟩ := h
    have h12 := ok.h12
    refine q_par2R o (er_call1 (f := duosOf) (er_meth0 (f := fun s : Sht => s.1) (er_var (i := 0) rfl r) (by decide +kernel) ok) ⟨ok.h12, ok.w18⟩) (er_meth0 (f := fun s : Sht => s.2) (er_var (i := 0) rfl r) (by decide +kernel) ok) fun vd vl H1 e1 rd rl => ?_
    have r := (rS_ K).m (Rm_mono e1) r
    refine s_retR (o.ex e1) (er_both (ia := 0) (ib := 2) (il := 1) (j := 3) rfl rfl rfl r rl rd ok ok.z (fun d hd => duos_pair hd) (duos_len ok.h12 ok.w18) (sok_lines ok) (fun d _ => rfl) (fun _ => rfl) (fun _ => rfl) (fun _ => ⟨rfl, rfl⟩) (fun _ => ⟨rfl, rfl⟩)) fun z H2 e2 t => q z H2 (e1.trans e2) t
  case len =>
    obtain ⟨ps, v, s, rfl, _⟩ := h
    rfl
def spDuo (K : PySem.W.Frag) : Sp := fun vs H Q _ => ∃ ps v wt wd wo rows es duos d, vs = [v, wt, wd, wo] ∧ Own ps H ∧ (rS_ K).p (mkS rows es) v (Rm ps H) ∧ (rL rE).p es wt (Rm ps H) ∧ (rL rE).p duos wd (Rm ps H) ∧ rE.p d wo (Rm ps H) ∧ Mk' rows es ∧ (∀ e ∈ duos, PairOk (mkS rows es) e) ∧ PairOk (mkS rows es) d ∧ duos.length ≤ 3888 ∧ ∀ H', Ex H H' → Q (.bl true) H'
theorem er_boolD {ps : List Addr} {σ : L2.St} {H : Hp} {te : TE} {b : Bool} (h : EvR rB ps te σ H b) : EvR rDv ps te σ H (.bool b) := er_impG h fun v H1 r => by
  obtain rfl : v = .bl b := r
  exact .bl b
theorem er_reprB {ps : List Addr} {σ : L2.St} {H : Hp} {te : TE} {b : Bool} (h : EvR rB ps te σ H b) : EvR rS ps (tCB (rRepr K) (tCons te tNil)) σ H (PyData.bool b).shown := er_reprD (er_boolD h) rfl (by cases b <;> decide +kernel) (by cases b <;> decide +kernel)
theorem er_stepsK {ps : List Addr} {σ : L2.St} {H : Hp} {ta tb : TE} {s : Sht} {d : Str × Str} {E : XK} (h : EvR (rS_ K) ps ta σ H s) (h2 : EvR rE ps tb σ H d) (ok : Sok s) (pk : PairOk s d) : EvR (rL rE) ps (tCallK0 2 (spSteps K) (fun vs zs => vs ++ zs.reverse) E (tCons tb (tCons ta tNil))) σ H (movesOf s.2 d) := fun H1 e o Q q => h2 H1 e o _ fun w H2 e2 r2 => h H2 (e.trans e2) (o.ex e2) _ fun v H3 e3 r => ⟨rfl, ps, v, w, s, d, rfl, o.ex (e2.trans e3), r, rE.m (Rm_mono e3) r2, ok, pk, fun l H4 _ e4 rr => q _ H4 ((e2.trans e3).trans e4) rr⟩
theorem er_stepK {ps : List Addr} {σ : L2.St} {H : Hp} {ta tb tc : TE} {s : Sht} {a b : Str × Str} {E : XK} (h : EvR (rS_ K) ps ta σ H s) (h2 : EvR rE ps tb σ H a) (h3 : EvR rE ps tc σ H b) (ok : Sok s) (p1 : PairOk s a) (p2 : PairOk s b) : EvR rB ps (tCallK0 3 (Sp3 (rS_ K) rE rE rB stepB (fun s a b => Sok s ∧ PairOk s a ∧ PairOk s b)) (fun vs zs => vs ++ zs.reverse) E (tCons tc (tCons tb (tCons ta tNil)))) σ H (stepB s a b) := fun H1 e o Q q => h3 H1 e o _ fun u H2 e2 r3 => h2 H2 (e.trans e2) (o.ex e2) _ fun w H3 e3 r2 => h H3 ((e.trans e2).trans e3) (o.ex (e2.trans e3)) _ fun v H4 e4 r => ⟨rfl, ps, v, w, u, s, a, b, rfl, o.ex ((e2.trans e3).trans e4), r, rE.m (Rm_mono e4) r2, rE.m (Rm_mono (e3.trans e4)) r3, ⟨ok, p1, p2⟩, fun z H5 e5 t => q z H5 (((e2.trans e3).trans e4).trans e5) t⟩
theorem sc_law_duo_right : FnScope ["_law_made_here", "_law_ties", "_law_duos_here", "_law_duo", "_law_due", "_law_told", "_law_near", "_law_turned", "_law_first", "_law_second"] ["_law_made_here", "_law_ties", "_law_duos_here", "_law_duo"] (defScope (topS 57)) := ⟨rfl, rfl, rfl, by decide +kernel, rfl, by decide +kernel, by decide +kernel⟩
theorem ok_law_duo_right (T : Tx K mg fd) : FnOkG P w K mg base CX0 10 (He.ga K "_law_duo_right") (fd 29) ["_law_made_here", "_law_ties", "_law_duos_here", "_law_duo"] (spDuo K) := by
  refine (T.df 29 57 "_law_duo_right" rfl).okG sc_law_duo_right (fun vs H Q E h => ?len) (fun cdv A outer s H vs Q E hG hr h => ?body)
  case body =>
    refine ⟨_, (pss_cons (ps_set (i := 4) sc_law_duo_right.nd rfl (Or.inl rfl) (pe_call (ok_law_moves T) (hr.mono (by decide)) (by rfl) (T.gl 28 "_law_moves" rfl) (T.df 26 54 "_law_moves" rfl).kp ((T.df 26 54 "_law_moves" rfl).binds (ps := ["_law_ties", "_law_duo"]) fun _ _ _ _ _ _ us hl => match us, hl with | [_, _], _ => rfl) .nil pass0 (pa_cons (pv 1) (pa_cons (pv 3) pa_nil)))) (pss_cons (ps_set (i := 5) sc_law_duo_right.nd rfl (Or.inl rfl) (pe_call (ok_steps T) (hr.mono (by decide)) (by rfl) (T.gl 19 "steps" rfl) (T.df 17 44 "steps" rfl).kp ((T.df 17 44 "steps" rfl).binds (ps := ["sheet", "pair"]) fun _ _ _ _ _ _ us hl => match us, hl with | [_, _], _ => rfl) .nil pass0 (pa_cons (pv 0) (pa_cons (pv 3) pa_nil)))) (pss_cons (ps_if (PW.pt (pw_or (pt_cmpR (op_neD hr.units) (pv 5) (pv 4) (nomark _)) (pw_or1 (pt_not (pt_val (pe_callB call_isi (by rfl) (T.fr 40 "isinstance" rfl) (by decide +kernel) (pa_cons (pv 5) (pa_cons (pe_bltn (v := V.ty "list") (by rfl) (T.fr 44 "list" rfl) (by decide +kernel) rfl) pa_nil)))))))) (pss_one (ps_ret pe_bl)) pss_nil) (pss_cons (ps_expr (pe_bm PySem.F.plainAttrs_list PySem.F.slot_list_append PySem.F.type_list_append mt_append (pv 5) (pa_cons (pv 3) pa_nil))) (pss_cons (ps_if (pt_cmpR (op_neD hr.units) (pe_callK0 (ok_steps T) (hr.mono (by decide)) (by rfl) (T.gl 19 "steps" rfl) (T.df 17 44 "steps" rfl).kp ((T.df 17 44 "steps" rfl).kbnR (ps := ["sheet", "pair"]) (ks := ["pair", "sheet"]) (n := 0) fun _ _ _ _ _ _ us ws h1 h2 => match us, ws, h1, h2 with | [], [_, _], _, _ => rfl) pass0 (pk_cons (pv 3) (pk_cons (pv 0) pk_nil))) (pv 4) (nomark _)) (pss_one (ps_ret pe_bl)) pss_nil) (pss_cons (ps_for PassesOwn.never rfl (pi_list (pv 2)) (pg_name (i := 6) sc_law_duo_right.nd rfl (Or.inl rfl)) (pss_cons (ps_if (pt_cmpR op_ne (pe_callB (call_repr hG hr.units) (by rfl) (T.fr 49 "repr" rfl) (by decide +kernel) (pa_cons (pe_call (ok_is_step T) (hr.mono (by decide)) (by rfl) (T.gl 20 "is_step" rfl) (T.df 18 45 "is_step" rfl).kp ((T.df 18 45 "is_step" rfl).binds (ps := ["sheet", "start", "goal"]) fun _ _ _ _ _ _ us hl => match us, hl with | [_, _, _], _ => rfl) .nil pass0 (pa_cons (pv 0) (pa_cons (pv 3) (pa_cons (pv 6) pa_nil)))) pa_nil)) (pe_callB (call_repr hG hr.units) (by rfl) (T.fr 49 "repr" rfl) (by decide +kernel) (pa_cons (pe_cmpR (inDK (K := K) rfl (u65 hr)) (pv 6) (pv 4) rfl) pa_nil)) (nomark _)) (pss_one (ps_ret pe_bl)) pss_nil) (pss_one (ps_if (pt_cmpR op_ne (pe_callK0 (ok_is_step T) (hr.mono (by decide)) (by rfl) (T.gl 20 "is_step" rfl) (T.df 18 45 "is_step" rfl).kp ((T.df 18 45 "is_step" rfl).kbnR (ps := ["sheet", "start", "goal"]) (ks := ["goal", "start", "sheet"]) (n := 0) fun _ _ _ _ _ _ us ws h1 h2 => match us, ws, h1, h2 with | [], [_, _, _], _, _ => rfl) pass0 (pk_cons (pv 3) (pk_cons (pv 6) (pk_cons (pv 0) pk_nil)))) (pe_cmpR (inDK (K := K) rfl (u65 hr)) (pv 6) (pv 4) rfl) (nomark _)) (pss_one (ps_ret pe_bl)) pss_nil)))) (pss_cons (ps_set (i := 7) sc_law_duo_right.nd rfl (Or.inl rfl) (pe_callB (r := rSortedT2 K) cr_sortedT2 (by rfl) (T.fr 56 "sorted" rfl) (by decide +kernel) (pa_cons (pe_lc (own := [("_law_first", 8), ("_law_second", 9)]) (g := gTup K 2 (gCons (gName 8) (gCons (gName 9) gNil))) rfl sc_law_duo_right.nd (pi_list (pv 4)) (blkOk_by (N := ["_law_made_here", "_law_ties", "_law_duos_here", "_law_duo", "_law_due", "_law_told", "_law_near", "_law_turned", "_law_first", "_law_second"]) (sc := (defScope (topS 57))) (own := [("_law_first", 8), ("_law_second", 9)]) (by decide +kernel)) (fun _ _ _ _ _ => (pg_tup rfl (pgs_cons (pg_name (i := 8) sc_law_duo_right.nd rfl (Or.inl rfl)) (pgs_cons (pg_name (i := 9) sc_law_duo_right.nd rfl (Or.inl rfl)) pgs_nil)))) (fun _ _ _ _ _ => pts_nil) (fun _ _ _ _ _ => (pe_tup (pa_cons (pv 9) (pa_cons (pv 8) pa_nil))))) pa_nil))) (pss_one (ps_ret (pe_cmpR (op_eqD hr.units) (pe_call (ok_steps T) (hr.mono (by decide)) (by rfl) (T.gl 19 "steps" rfl) (T.df 17 44 "steps" rfl).kp ((T.df 17 44 "steps" rfl).binds (ps := ["sheet", "pair"]) fun _ _ _ _ _ _ us hl => match us, hl with | [_, _], _ => rfl) .nil pass0 (pa_cons (pv 0) (pa_cons (pe_tup (pa_cons (pe_ix (r := rIxT K) ix_tup (pv 3) pe_int (fun _ _ => rfl)) (pa_cons (pe_ix (r := rIxT K) ix_tup (pv 3) pe_int (fun _ _ => rfl)) pa_nil))) pa_nil))) (pv 7) (nomark _))))))))))), ?_⟩
    obtain ⟨ps, v, wt, wd, wo, rows, es, duos, d, rfl, o, r, rt, rd, ro, mk, pall, pk, hlen, q⟩ := h
    have ok : Sok (mkS rows es) := mk.sok
    have hz := mk.z
    have okl : ∀ e ∈ es, okS e.1 ∧ okS e.2 := fun e he => sok_lines ok e ((srtT_perm es).mem_iff.mpr he)
    have same : ∀ d, movesOf (mkS rows es).2 d = movesOf es d := fun d => moves_perm (srtT_perm es) d
    have mo := fun d => moves_ok (d := d) okl
    refine q_asgR' o (er_movesC (er_var (i := 1) rfl rt) (er_var (i := 3) rfl ro) hz) fun vdue H1 e1 rdue => ?_
    have o1 := o.ex e1
    have r := (rS_ K).m (Rm_mono e1) r
    have rt := (rL rE).m (Rm_mono e1) rt
    have rd := (rL rE).m (Rm_mono e1) rd
    have ro := rE.m (Rm_mono e1) ro
    refine ⟨_, rfl, _, rfl, ps, v, wo, mkS rows es, d, rfl, o1, r, ro, ok, pk, fun l H2 hl e2 rl => ?_⟩
    rw [same] at rl
    have o2 := o1.ex e2
    have r2 := (rS_ K).m (Rm_mono e2) r
    have rdue2 := (rL rE).m (Rm_mono e2) rdue
    refine q_whenR o2 (b := false) (et_is' (et_or' (x := false) (y := false) (et_is' (et_test' (er_neD (dtL (dtP dtS dtS)) (by decide) (er_var (R := rL rE) (i := 5) rfl rl) (er_var (i := 4) rfl rdue2) (mo d) (mo d))) (by rw [decide_eq_true rfl]; rfl)) fun _ => et_not' (x := true) (et_B' (er_B ?_))) rfl) (fun z => nomatch z) fun _ H3 e3 => ?_
    · obtain ⟨a, vs5, hv, h5, _⟩ := rl
      cases hv
      exact ev_isi (ev_var rfl) (.lst (Rm_ex _ _ h5)) (by show kitB _ _ = some true; decide +kernel) ev_c
    have e23 := e2.trans e3
    obtain ⟨a5, vs5, hv5, h5, hall5⟩ := rl
    cases hv5
    have h5' := e3 _ _ (Rm_ex _ _ h5)
    have nl : l ∉ ps := o1.nin hl
    have o3 : Own (l :: ps) H3 := (o2.ex e3).push h5'
    have px : Ex (Rm ps H1) (Rm (l :: ps) H3) := (Rm_push (Rm_none hl)).trans (Rm_mono e23)
    have px0 : Ex (Rm ps H1) (Rm (l :: ps) H3) := px
    have L3 : Ls rE (l :: ps) H3 l (movesOf es d) := ⟨List.mem_cons_self .., vs5, h5', hall5.imp fun _ _ r => rE_re o3 (rE.m (Rm_mono e3) r)⟩
    have r := (rS_ K).m px r
    have rt := (rL rE).m px rt
    have rd := (rL rE).m px rd
    have ro := rE.m px ro
    have rdue := (rL rE).m px rdue
    refine q_appR o3 L3 (ev_var (i := 5) rfl) (er_var (i := 3) rfl ro) (by unfold movesOf; rw [(srtT_perm _).length_eq]; unfold fnd; rw [List.length_append]; have a1 := xprod_72 (Nat.le_trans (upsT_len (es := es) (z := d.1)) hz) (Nat.le_trans (upsT_len (es := es) (z := d.2)) hz); have a2 := xprod_72 (Nat.le_trans (dnT_len (es := es) (z := d.1)) hz) (Nat.le_trans (dnT_len (es := es) (z := d.2)) hz); omega) fun H4 f4 L4 ot4 => ?_
    have back : Ex H H4 := Oth.back (e1.trans e23) ot4 (none_of e1 hl)
    have o4 := f4.1
    have r := (rS_ K).m f4.2 r
    have rt := (rL rE).m f4.2 rt
    have rd := (rL rE).m f4.2 rd
    have ro := rE.m f4.2 ro
    have rdue := (rL rE).m f4.2 rdue
    refine q_whenR o4 (b := false) (et_is' (et_test' (er_neD (dtL (dtP dtS dtS)) (by decide) (er_stepsK (er_var (i := 0) rfl r) (er_var (i := 3) rfl ro) ok pk) (er_var (i := 4) rfl rdue) (by rw [same]; exact mo d) (mo d))) (by rw [same, decide_eq_true rfl]; rfl)) (fun z => nomatch z) fun _ H5 e5 => ?_
    have o5 := o4.ex e5
    have r := (rS_ K).m (Rm_mono e5) r
    have rt := (rL rE).m (Rm_mono e5) rt
    have rd := (rL rE).m (Rm_mono e5) rd
    have ro := rE.m (Rm_mono e5) ro
    have rdue := (rL rE).m (Rm_mono e5) rdue
    refine q_forW o5 (wk_list (er_var (i := 2) rfl rd)) (fun _ σ' H' => (∃ o6 o7 o8 o9, σ' = [some v, some wt, some wd, some wo, some vdue, some (.ref l), o6, o7, o8, o9]) ∧ Ex H H') (fun H6 e6 => ⟨⟨_, _, _, _, rfl⟩, (back.trans e5).trans e6⟩) (fun _ _ _ _ e p => ⟨p.1, p.2.trans e⟩) (fun H6 e6 i x u σ' H7 hx f7 f57 pv ru => ?_) fun σ' H6 f6 pv => ?_
    · obtain ⟨⟨o6, o7, o8, o9, rfl⟩, e07⟩ := pv
      have ru : rE.p x u (Rm (l :: ps) H7) := ru
      have px := pall x (List.mem_of_getElem? hx)
      have r := (rS_ K).m f57.2 r
      have ro := rE.m f57.2 ro
      have rdue := (rL rE).m f57.2 rdue
      have o7' := f57.1
      have okx := pair_ok ok px
      have e1b : stepB (mkS rows es) d x = decide (x ∈ movesOf es d) := by unfold stepB; rw [same]
      have e2b : stepB (mkS rows es) x d = decide (x ∈ movesOf es d) := by
        unfold stepB
        rw [same]
        obtain ⟨_, _, _, _, n1⟩ := pk
        obtain ⟨_, _, _, _, n2⟩ := px
        exact decide_eq_decide.mpr (moves_sym n1 n2)
      have inT : ∀ {G : Hp} {σ : L2.St}, Ex H7 G → σ[6]? = some (some u) → σ[4]? = some (some vdue) → EvR rB (l :: ps) (tOp (rInD K) (tVar 6) (tVar 4)) σ G (decide (x ∈ movesOf es d)) := fun eG g1 g2 => er_is (er_inDp (dtP dtS dtS) (by decide) (er_var g1 (rE.m (Rm_mono eG) ru)) (er_var g2 ((rL rE).m (Rm_mono eG) rdue)) okx (mo d)) (decide_eq_decide.mpr Iff.rfl)
      refine q_whenR o7' (b := false) (et_is' (et_test' (er_B (ev_op (ev_S o7' (er_reprB (er_call3 (f := stepB) (er_var (i := 0) rfl r) (er_var (i := 3) rfl ro) (er_var (i := 6) rfl ru) ⟨ok, pk, px⟩))) (ev_S o7' (er_reprB (inT (Ex.refl _) rfl rfl))) (rv_ne rfl)))) (by rw [e1b, decide_eq_true rfl]; rfl)) (fun z => nomatch z) fun _ H8 e8 => ?_
      have o8' := o7'.ex e8
      have r := (rS_ K).m (Rm_mono e8) r
      have ro := rE.m (Rm_mono e8) ro
      have ru8 := rE.m (Rm_mono e8) ru
      refine s_whenR o8' (b := false) (et_is' (et_test' (er_B (ev_op (ev_B o8' (er_stepK (er_var (i := 0) rfl r) (er_var (i := 6) rfl ru8) (er_var (i := 3) rfl ro) ok px pk)) (ev_B o8' (inT e8 rfl rfl)) (rv_ne rfl)))) (by rw [e2b, decide_eq_true rfl]; rfl)) (fun z => nomatch z) fun _ H9 e9 => ?_
      exact ⟨f7.ex (e8.trans e9), ⟨_, _, _, _, rfl⟩, e07.trans (e8.trans e9)⟩
    obtain ⟨⟨o6, o7, o8, o9, rfl⟩, e06⟩ := pv
    have o6' := f6.1
    have r := (rS_ K).m f6.2 r
    have ro := rE.m f6.2 ro
    have rdue := (rL rE).m f6.2 rdue
    have ml : (movesOf es d).length ≤ 10368 := by
      unfold movesOf
      rw [(srtT_perm _).length_eq]
      unfold fnd
      rw [List.length_append]
      have a1 := xprod_72 (Nat.le_trans (upsT_len (es := es) (z := d.1)) hz) (Nat.le_trans (upsT_len (es := es) (z := d.2)) hz)
      have a2 := xprod_72 (Nat.le_trans (dnT_len (es := es) (z := d.1)) hz) (Nat.le_trans (dnT_len (es := es) (z := d.2)) hz)
      omega
    refine q_asgR' o6' (er_sortedT (er_lc2 (R := rS) (S := rS) (T := rE) swp (wk_list (er_var (i := 4) rfl rdue)) (by omega) (fun _ _ => rfl) fun e he qs v9 w9 H9 e9 o9 x9 r9 s9 => er_tup (er_var rfl s9) (er_var rfl r9))) fun vt H7 e7 rt7 => ?_
    have o7' := o6'.ex e7
    have r := (rS_ K).m (Rm_mono e7) r
    have ro := rE.m (Rm_mono e7) ro
    have pk2 : PairOk (mkS rows es) (d.2, d.1) := let ⟨l, h1, h2, h3, h4⟩ := pk; ⟨l, h1, h3, h2, fun z => h4 z.symm⟩
    refine s_retR o7' (er_is (er_eqD (dtL (dtP dtS dtS)) (by decide) (er_steps (er_var (i := 0) rfl r) (er_tup (er_snd (er_var (i := 3) rfl ro) (er_I ev_c)) (er_fst (er_var (i := 3) rfl ro) (er_I ev_c))) ok pk2) (er_var (i := 7) rfl rt7) (by rw [same]; exact mo _) ?_) (decide_eq_true ?_)) fun z H8 e8 t => ?_
    · intro e he
      have := (srtT_perm _).mem_iff.mp he
      obtain ⟨f, hf, rfl⟩ := List.mem_map.mp this
      exact ⟨(mo d f hf).2, (mo d f hf).1⟩
    · rw [same, moves_swap]
    · obtain rfl : z = .bl true := t
      exact q H8 (e06.trans (e7.trans e8))
  case len =>
    obtain ⟨ps, v, wt, wd, wo, rows, es, duos, d, rfl, _⟩ := h
    rfl
end
end K21
set_option Elab.async false
set_option linter.all false
set_option maxRecDepth 100000
set_option maxHeartbeats 4000000
namespace K21
open PySem PySem.Spec PyProof.Rows L2 Evl Gen RP
section
variable {P : Program} {w : World} {K : PySem.W.Frag} {mg : Str → Option Value} {base : Heap} {fd : Nat → FuncData}
inductive Sel {α γ : Type} (C : α → γ → Prop) : List α → List γ → Prop
  | nil : Sel C [] []
  | skip {xs : List α} {x : α} {bs : List γ} : Sel C xs bs → Sel C (xs ++ [x]) bs
  | take {xs : List α} {x : α} {bs : List γ} {b : γ} : Sel C xs bs → C x b → Sel C (xs ++ [x]) (bs ++ [b])
theorem Sel.len {α γ : Type} {C : α → γ → Prop} {xs : List α} {bs : List γ} (h : Sel C xs bs) : bs.length ≤ xs.length := by
  induction h with
  | nil => exact Nat.le_refl _
  | skip _ ih => rw [List.length_append]; omega
  | take _ _ ih => rw [List.length_append, List.length_append]; exact Nat.add_le_add_right ih 1
theorem Sel.mem {α γ : Type} {C : α → γ → Prop} {xs : List α} {bs : List γ} (h : Sel C xs bs) : ∀ b ∈ bs, ∃ x ∈ xs, C x b := by
  induction h with
  | nil => exact fun b hb => nomatch hb
  | skip _ ih => exact fun b hb => let ⟨x, h1, h2⟩ := ih b hb; ⟨x, List.mem_append_left _ h1, h2⟩
  | take _ c ih => exact fun b hb => (List.mem_append.mp hb).elim (fun hb => let ⟨x, h1, h2⟩ := ih b hb; ⟨x, List.mem_append_left _ h1, h2⟩) fun hb => ⟨_, List.mem_append_right _ (List.mem_singleton.mpr rfl), by rw [List.mem_singleton.mp hb]; exact c⟩
theorem Sel.imp {α γ : Type} {C C' : α → γ → Prop} {xs : List α} {bs : List γ} (h : Sel C xs bs) (k : ∀ a b, C a b → C' a b) : Sel C' xs bs := by
  induction h with
  | nil => exact .nil
  | skip _ ih => exact .skip ih
  | take _ c ih => exact .take ih (k _ _ c)
theorem Sel.sub {α γ : Type} {f : α → γ} {xs : List α} {bs : List γ} (h : Sel (fun x b => b = f x) xs bs) : bs.Sublist (xs.map f) := by
  induction h with
  | nil => exact List.Sublist.slnil
  | skip _ ih => rw [List.map_append]; exact ih.trans (List.sublist_append_left _ _)
  | take _ c ih => rw [List.map_append, c]; exact List.Sublist.append ih (List.Sublist.refl _)
section
variable {α β γ : Type} {R : Rp α} {S : Rp γ} {K : PySem.W.Frag} {ps : List Addr} {p q : Addr} {σ : L2.St} {H : Hp} {te : TE} {tt : TT} {D : Ends} {i : Nat}
theorem pot_ne {l : Addr} (hp : Pot H p) (h : H l = none) : p ≠ l := fun z => by
  obtain ⟨x', y', a1, _⟩ := hp
  rw [z, h] at a1
  cases a1
/-- a comprehension that draws -/
theorem en_lcN {wi : TI} {xs : List α} {j : Nat} {vs : List Nat} {C : α → γ → Prop} (mp : p ∈ ps) (hp : Pot H p) (h : Wk R ps wi σ H xs) (hz : xs.length ≤ 40000) (hw : ∀ x, wipe ((wipe σ vs).set j (some x)) vs = wipe σ vs)
    (ht : ∀ x ∈ xs, ∀ qs v H1, p ∈ qs → Pot H1 p → Own qs H1 → Ex (Rm ps H) (Rm qs H1) → R.p x v (Rm qs H1) → EtQ qs p tt ((wipe σ vs).set j (some v)) H1)
    (he : ∀ x ∈ xs, ∀ qs v H1, p ∈ qs → Pot H1 p → Own qs H1 → Ex (Rm ps H) (Rm qs H1) → R.p x v (Rm qs H1) → EvN (C x) S qs p te ((wipe σ vs).set j (some v)) H1) :
    EvN (Sel C xs) (rL S) ps p (tLc wi (gName j) tt te vs) σ H := fun H0 e o Q k => h H0 e o _ fun J n G Y H1 e1 hn wk hG hY Dl hD => by
  have o1 := o.ex e1
  have hp1 := pot_ex hp (e.trans e1)
  have npl := pot_ne hp1 hD
  refine lc_it wk (fun i H2 => ∃ bs, Sel C (xs.take i) bs ∧ Pt p H1 H2 ∧ Own (Dl :: ps) H2 ∧ Ex (Rm ps H1) (Rm (Dl :: ps) H2) ∧ ∃ vs, H2 Dl = some (.lst vs) ∧ All2 (fun x y => S.p x y (Rm (Dl :: ps) H2)) bs vs)
    ⟨[], by rw [List.take_zero]; exact .nil, Pt.ex hp1 (Ex.new hD), (new_own o1 hD).1, (new_own o1 hD).2, [], upd_same, trivial⟩ (fun i H2 _ pv => let ⟨_, _, _, _, x, _⟩ := pv; hG H2 (x.trans Rm_ex)) (fun i u H2 H2' hi pv y => ?_) (fun H2 pv => ?_)
  · obtain ⟨bs, hs, f, o2, x2, vs', p2, p3⟩ := pv
    obtain ⟨e3, x, hx, rx⟩ := hY i H2 u H2' (Dl :: ps) hi o2 x2 y
    have hm : x ∈ xs := List.mem_of_getElem? hx
    have o2' := o2.ex e3
    have mp' : p ∈ Dl :: ps := List.mem_cons_of_mem _ mp
    have f2 : Pt p H1 H2' := f.trans (Pt.ex f.2 e3)
    have g1 : Ex (Rm ps H) (Rm (Dl :: ps) H2') := ((Rm_mono (e.trans e1)).trans x2).trans (Rm_mono e3)
    refine ⟨hw _, ?_⟩
    refine ht x hm (Dl :: ps) u H2' mp' f2.2 o2' g1 rx H2' (Ex.refl _) o2' _ fun b H3 f3 => ?_
    have f13 := f2.trans f3
    have o3 := f3.own o2'
    have x3 : Ex (Rm (Dl :: ps) H2) (Rm (Dl :: ps) H3) := (Rm_mono e3).trans (f3.rm mp')
    have hD3 : H3 Dl = some (.lst vs') := rem_ex _ _ (f3.1 _ _ (rem_at (e3 _ _ p2) npl.symm))
    have p33 := p3.imp fun _ _ r => S.m x3 r
    cases b with
    | false =>
      rw [if_neg Bool.false_ne_true]
      exact ⟨bs, by rw [take_snoc hx]; exact .skip hs, f13, o3, x2.trans x3, vs', hD3, p33⟩
    | true =>
      rw [if_pos rfl]
      refine he x hm (Dl :: ps) u H3 mp' f3.2 o3 (g1.trans (f3.rm mp')) (R.m (f3.rm mp') rx) H3 (Ex.refl _) o3 _ fun b v H4 f4 c r => ?_
      have hD4 : H4 Dl = some (.lst vs') := rem_ex _ _ (f4.1 _ _ (rem_at hD3 npl.symm))
      have hl := hs.len
      rw [List.length_take] at hl
      have ot : Oth Dl H4 (upd H4 Dl (.lst (vs' ++ [v]))) := Oth.upd (Ex.refl _)
      have er : Rm (Dl :: ps) (upd H4 Dl (.lst (vs' ++ [v]))) = Rm (Dl :: ps) H4 := Rm_upd (List.mem_cons_self ..)
      have p34 := p33.imp fun _ _ r => S.m (f4.rm mp') r
      refine ⟨vs', hD4, sz_lt (by rw [← p3.len]; omega), bs ++ [b], by rw [take_snoc hx]; exact .take hs c, Pt.back (f13.trans f4) ot hD (pot_oth f4.2 ot npl), (f4.own o3).upd, by rw [er]; exact (x2.trans x3).trans (f4.rm mp'), vs' ++ [v], upd_same, ?_⟩
      rw [er]
      exact p34.app (.one r)
  · rw [hn, List.take_length] at pv
    obtain ⟨bs, hs, f, o2, x2, vs', p2, p3⟩ := pv
    exact k bs _ H2 ((Pt.ex (pot_ex hp e) e1).trans f) hs ⟨Dl, vs', rfl, Rm_get p2 (o1.nin hD), p3.imp fun _ _ r => S.m Rm_pop r⟩
theorem s_extN {as : List α} {C : List α → Prop} (mp : p ∈ ps) (np : q ≠ p) (o : Own ps H) (l : Ls R ps H q as) (hi : σ[i]? = some (some (.ref q))) (h : EvN C (rL R) ps p te σ H) (hz : ∀ bs, C bs → as.length + bs.length ≤ 100000) (k : ∀ bs H1 H', C bs → Pt p H H1 → Oth q H1 H' → Fr ps H H' → Ls R ps H' q (as ++ bs) → D.nx σ H') : tDrop (tBM K "list" rExtend (tVar i) (tCons te tNil)) D σ H := by
  have l0 := l
  obtain ⟨m, vs, h1, h2⟩ := l0
  refine ⟨_, hi, Or.inl ⟨rfl, vs, sq_of h1⟩, h H (Ex.refl _) o _ fun bs w H2 f c r => ?_⟩
  obtain ⟨x, hx, _, hh⟩ := s_extR (K := K) (te := tC w) (ta := tVar i) (D := D) (f.own o) (RP.Ls.pt l f mp np) (ev_var hi) (er_of ev_c r) (hz bs c) fun H3 f3 l3 o3 => k bs H2 H3 c f o3 ((f.fr mp o).trans f3) l3
  obtain rfl : V.ref q = x := Option.some.inj (Option.some.inj (hi.symm.trans hx))
  exact hh
/-- `a, b, c = [], 0, ..` -/
theorem q_new3 {j c : Nat} {C : Nat → Prop} {tz : TS} {z : V} (mp : p ∈ ps) (hp : Pot H p) (o : Own ps H) (h : ∀ qs G, p ∈ qs → Pot G p → EvN C rN qs p te σ G) (kk : ∀ l n H1, H l = none → l ∉ ps → p ≠ l → Pt p H H1 → Own (l :: ps) H1 → Ls R (l :: ps) H1 l [] → C n → tz D (((σ.set i (some (.ref l))).set j (some z)).set c (some (.int (n : Int)))) H1) : tSeq (tAsg (tTup (tCons (tLst tNil) (tCons (tC z) (tCons te tNil)))) (gTup K 3 (gCons (gName i) (gCons (gName j) (gCons (gName c) gNil))))) tz D σ H := by
  refine ⟨sz_of (Nat.zero_le _), fun l hl => ?_⟩
  have npl := pot_ne hp hl
  have o1 := (new_own o hl (ob := .lst [])).1
  refine h (l :: ps) _ (List.mem_cons_of_mem _ mp) (pot_ex hp (Ex.new hl)) _ (Ex.refl _) o1 _ fun n v H2 f2 c r => ?_
  obtain rfl : v = .int (n : Int) := r
  have hl2 : H2 l = some (.lst []) := rem_ex _ _ (f2.1 _ _ (rem_at upd_same npl.symm))
  refine ⟨sz_of (by show 3 ≤ 100000; decide), fun t ht => ?_⟩
  refine ⟨t, _, rfl, st_of upd_same, rfl, _, _, rfl, _, _, rfl, _, _, rfl, rfl, ?_⟩
  have e3 : Ex H2 (upd H2 t (.tup [.ref l, z, .int (n : Int)])) := Ex.new ht
  have f03 := ((Pt.ex hp (Ex.new hl)).trans f2).trans (Pt.ex f2.2 e3)
  exact kk l n _ hl (o.nin hl) npl f03 ((f2.own o1).ex e3) ⟨List.mem_cons_self .., [], e3 _ _ hl2, trivial⟩ c
theorem Rm_newP {ps : List Addr} {p l : Addr} {H H' : Hp} (f : Pt p H H') (mp : p ∈ ps) (hn : H l = none) : Ex (Rm ps H) (Rm (l :: ps) H') := fun b u hb => by
  have n : b ≠ l := fun z => by rw [z, Rm_none hn] at hb; cases hb
  have n2 : b ∉ ps := fun m => by rw [Rm_own m] at hb; cases hb
  exact Rm_get (Rm_ex _ _ (f.rm mp b u hb)) fun m => (List.mem_cons.mp m).elim n n2
theorem pt_none {p l : Addr} {H H' : Hp} (f : Pt p H H') (n : l ≠ p) (h : H' l = none) : H l = none := by
  cases hh : H l with
  | none => rfl
  | some u =>
    have := rem_ex _ _ (f.1 _ _ (rem_at hh n))
    rw [h] at this
    cases this
theorem en_min {ps : List Addr} {p : Addr} {σ : L2.St} {H : Hp} {te : TE} {i m : Nat} {C : Nat → Prop} (hv : σ[i]? = some (some (.int (m : Int)))) (h : EvN C rN ps p te σ H) : EvN (fun n => n ≤ m) rN ps p (tCB (fun xs H Q => ∃ i j, xs = [V.int i, V.int j] ∧ Q (V.int (if j < i then j else i)) H) (tCons (tVar i) (tCons te tNil))) σ H := fun H1 e o Q q => ⟨_, hv, h H1 e o _ fun n v H2 f c r => by
  obtain rfl : v = .int (n : Int) := r
  refine ⟨_, _, rfl, q (if n < m then n else m) _ H2 f (by split <;> omega) ?_⟩
  show V.int _ = V.int _
  congr 1
  split <;> split <;> omega⟩
theorem q_whenQ {ps : List Addr} {p : Addr} {σ : L2.St} {H : Hp} {t : TT} {tu tz : TS} {D : Ends} (o : Own ps H) (h : EtQ ps p t σ H) (h1 : ∀ H1, Pt p H H1 → tu { D with nx := tz D } σ H1) (h2 : ∀ H1, Pt p H H1 → tz D σ H1) : tSeq (tIfS t tu tNext) tz D σ H := h H (Ex.refl H) o _ fun b H1 f => by
  cases b with
  | true => exact h1 H1 f
  | false => exact h2 H1 f
theorem q_mayZero {ps : List Addr} {p : Addr} {σ : L2.St} {H : Hp} {t : TT} {tz : TS} {D : Ends} {j m0 : Nat} (o : Own ps H) (h : EtQ ps p t σ H) (hj : σ[j]? = some (some (.int (m0 : Int)))) (k : ∀ (m : Nat) G, (m = 0 ∨ m = m0) → Pt p H G → tz D (σ.set j (some (.int (m : Int)))) G) : tSeq (tIfS t (tAsg (tC (.int 0)) (gName j)) tNext) tz D σ H := q_whenQ o h (fun H1 f => k 0 H1 (.inl rfl) f) fun H1 f => by
  have e : σ.set j (some (.int (m0 : Int))) = σ := by
    obtain ⟨hlt, he⟩ := List.getElem?_eq_some_iff.mp hj
    rw [← he]
    exact List.set_getElem_self hlt
  have := k m0 H1 (.inr rfl) f
  rw [e] at this
  exact this
/-- what a drawn value stands for -/
theorem en_two {C : α → Prop} {C' : β → Prop} {T : Rp β} {r : R2} {tb : TE} {b : γ} {T2 : Rp γ} (h : EvN C R ps p te σ H) (hb : Pot H p → ∀ G, Pt p H G → EvR T2 ps tb σ G b) (hr : ∀ a v w G, C a → R.p a v (Rm ps G) → T2.p b w (Rm ps G) → Own ps G → ∀ Q : VK, (∀ c z G', Ex G G' → C' c → T.p c z (Rm ps G') → Q z G') → r v w G Q) (hp : Pot H p) : EvN C' T ps p (tOp r te tb) σ H := fun H1 e o Q q => h H1 e o _ fun a v H2 f c r1 => hb hp H2 ((Pt.ex hp e).trans f) H2 (Ex.refl _) (f.own o) _ fun w H3 e3 r2 => hr a v w H3 c (R.m (Rm_mono e3) r1) r2 ((f.own o).ex e3) _ fun c z G' e4 hc rc => q c z G' (f.trans (Pt.ex f.2 (e3.trans e4))) hc rc
end
end
end K21
set_option Elab.async false
set_option linter.all false
set_option maxRecDepth 100000
set_option maxHeartbeats 4000000
namespace K21
open PySem PySem.Spec PyProof.Rows L2 Evl Gen RP
section
variable {P : Program} {w : World} {K : PySem.W.Frag} {mg : Str → Option Value} {base : Heap} {fd : Nat → FuncData}
def N20 : List Str := [("a" : Str), "b2", "c", "d", "3", "f", "g0", "h", "i", "j", "k9", "l", "m", "n", "o", "p", "q1", "r", "s", "t"]
theorem n20_nd : N20.Nodup := by decide +kernel
theorem n20_nm : ∀ z ∈ N20, isN (.str z) = true := by decide +kernel
structure Drf (rows : List (List Str)) (ties : List (Str × Str)) : Prop where
  lo : 1 ≤ rows.length
  hi : rows.length ≤ 5
  w : ∀ l ∈ rows, l.length ≤ 4
  nm : ∃ a, rows.flatten = N20.take a
  ties : ties.Sublist (allL rows)
def spDraft : Sp := fun vs H Q _ => ∃ ps p, vs = [.ref p, .int ((5 : Nat) : Int), .int ((4 : Nat) : Int)] ∧ p ∈ ps ∧ Own ps H ∧ Pot H p ∧ ∀ v rows ties H', Pt p H H' → rPlan.p (rows, ties) v (Rm ps H') → Drf rows ties → Q v H'
theorem sc_law_draft : FnScope ["_law_pot_here", "_law_most", "_law_wide", "_law_names", "_law_rows", "_law_at", "_law_thick", "_law_turn", "_law_many", "_law_ties", "_law_lows", "_law_highs", "_law_low", "_law_high"] ["_law_pot_here", "_law_most", "_law_wide"] (defScope (topS 50)) := ⟨rfl, rfl, rfl, by decide +kernel, rfl, by decide +kernel, by decide +kernel⟩
theorem ok_law_draft (T : Tx K mg fd) : FnOk P w K mg base CX0 2 (He.ga K "_law_draft") (fd 22) ["_law_pot_here", "_law_most", "_law_wide"] spDraft := by
  refine (T.df 22 50 "_law_draft" rfl).ok sc_law_draft (fun vs H Q E h => ?len) (fun cdv A outer s H vs Q E hr h => ?body)
  case body =>
    refine ⟨_, (pss_cons (ps_set (i := 3) sc_law_draft.nd rfl (Or.inl rfl) (pe_lst (pa_cons pe_str (pa_cons pe_str (pa_cons pe_str (pa_cons pe_str (pa_cons pe_str (pa_cons pe_str (pa_cons pe_str (pa_cons pe_str (pa_cons pe_str (pa_cons pe_str (pa_cons pe_str (pa_cons pe_str (pa_cons pe_str (pa_cons pe_str (pa_cons pe_str (pa_cons pe_str (pa_cons pe_str (pa_cons pe_str (pa_cons pe_str (pa_cons pe_str pa_nil)))))))))))))))))))))) (pss_cons (ps_asg (pe_tup (pa_cons (pe_lst pa_nil) (pa_cons pe_int (pa_cons (pe_op op_add pe_int (pe_call (ok_law_draw T) (hr.mono (by decide)) (by rfl) (T.gl 22 "_law_draw" rfl) (T.df 20 48 "_law_draw" rfl).kp ((T.df 20 48 "_law_draw" rfl).binds (ps := ["_law_pot_here", "_law_faces"]) fun _ _ _ _ _ _ us hl => match us, hl with | [_, _], _ => rfl) .nil pass0 (pa_cons (pv 0) (pa_cons pe_int pa_nil)))) pa_nil)))) (pg_tup rfl (pgs_cons (pg_name (i := 4) sc_law_draft.nd rfl (Or.inl rfl)) (pgs_cons (pg_name (i := 5) sc_law_draft.nd rfl (Or.inl rfl)) (pgs_cons (pg_name (i := 6) sc_law_draft.nd rfl (Or.inr rfl)) pgs_nil))))) (pss_cons (ps_for PassesOwn.never rfl (pi_range1 (by rfl) (T.fr 50 "range" rfl) (pa_cons (pe_op op_add pe_int (pe_call (ok_law_draw T) (hr.mono (by decide)) (by rfl) (T.gl 22 "_law_draw" rfl) (T.df 20 48 "_law_draw" rfl).kp ((T.df 20 48 "_law_draw" rfl).binds (ps := ["_law_pot_here", "_law_faces"]) fun _ _ _ _ _ _ us hl => match us, hl with | [_, _], _ => rfl) .nil pass0 (pa_cons (pv 0) (pa_cons (pv 1) pa_nil)))) pa_nil)) (pg_name (i := 7) sc_law_draft.nd rfl (Or.inl rfl)) (pss_cons (ps_set (i := 8) sc_law_draft.nd rfl (Or.inl rfl) (pe_callB (call_min2 rfl) (by rfl) (T.fr 52 "min" rfl) (by decide +kernel) (pa_cons (pv 2) (pa_cons (pe_op op_add pe_int (pe_call (ok_law_draw T) (hr.mono (by decide)) (by rfl) (T.gl 22 "_law_draw" rfl) (T.df 20 48 "_law_draw" rfl).kp ((T.df 20 48 "_law_draw" rfl).binds (ps := ["_law_pot_here", "_law_faces"]) fun _ _ _ _ _ _ us hl => match us, hl with | [_, _], _ => rfl) .nil pass0 (pa_cons (pv 0) (pa_cons (pe_op op_add (pv 2) pe_int) pa_nil)))) pa_nil)))) (pss_cons (ps_if (pt_cmpR op_eq (pe_call (ok_law_draw T) (hr.mono (by decide)) (by rfl) (T.gl 22 "_law_draw" rfl) (T.df 20 48 "_law_draw" rfl).kp ((T.df 20 48 "_law_draw" rfl).binds (ps := ["_law_pot_here", "_law_faces"]) fun _ _ _ _ _ _ us hl => match us, hl with | [_, _], _ => rfl) .nil pass0 (pa_cons (pv 0) (pa_cons pe_int pa_nil))) pe_int (nomark _)) (pss_one (ps_set (i := 8) sc_law_draft.nd rfl (Or.inl rfl) pe_int)) pss_nil) (pss_cons (ps_expr (pe_bm PySem.F.plainAttrs_list PySem.F.slot_list_append PySem.F.type_list_append mt_append (pv 4) (pa_cons (pe_slice sl_list (pv 3) (po_some (pv 5)) (po_some (pe_op op_add (pv 5) (pv 8)))) pa_nil))) (pss_one (ps_aug (i := 5) sc_law_draft.nd rfl (Or.inl rfl) (pv 8) ip_add)))))) (pss_cons (ps_set (i := 9) sc_law_draft.nd rfl (Or.inl rfl) (pe_lst pa_nil)) (pss_cons (ps_for PassesOwn.never rfl (pi_zip (by rfl) (T.fr 57 "zip" rfl) (pa_cons (pv 4) (pa_cons (pe_slice sl_list (pv 4) (po_some pe_int) po_none) pa_nil))) (pg_tup rfl (pgs_cons (pg_name (i := 10) sc_law_draft.nd rfl (Or.inl rfl)) (pgs_cons (pg_name (i := 11) sc_law_draft.nd rfl (Or.inl rfl)) pgs_nil))) (pss_one (ps_for PassesOwn.never rfl (pi_list (pv 10)) (pg_name (i := 12) sc_law_draft.nd rfl (Or.inr rfl)) (pss_one (ps_expr (pe_bm PySem.F.plainAttrs_list PySem.F.slot_list_extend PySem.F.type_list_extend mt_extend (pv 9) (pa_cons (pe_lc (own := [("_law_high", 13)]) (g := gName 13) rfl sc_law_draft.nd (pi_list (pv 11)) (blkOk_by (N := ["_law_pot_here", "_law_most", "_law_wide", "_law_names", "_law_rows", "_law_at", "_law_thick", "_law_turn", "_law_many", "_law_ties", "_law_lows", "_law_highs", "_law_low", "_law_high"]) (sc := (defScope (topS 50))) (own := [("_law_high", 13)]) (by decide +kernel)) (fun _ _ _ _ _ => (pg_name (i := 13) sc_law_draft.nd rfl (Or.inl rfl))) (fun _ _ _ _ _ => (pts_one (pt_cmpR op_lt (pe_call (ok_law_draw T) (hr.mono (by decide)) (by rfl) (T.gl 22 "_law_draw" rfl) (T.df 20 48 "_law_draw" rfl).kp ((T.df 20 48 "_law_draw" rfl).binds (ps := ["_law_pot_here", "_law_faces"]) fun _ _ _ _ _ _ us hl => match us, hl with | [_, _], _ => rfl) .nil pass0 (pa_cons (pv 0) (pa_cons pe_int pa_nil))) (pv 6) (nomark _)))) (fun _ _ _ _ _ => (pe_tup (pa_cons (pv 12) (pa_cons (pv 13) pa_nil))))) pa_nil))))))) (pss_one (ps_ret (pe_tup (pa_cons (pv 4) (pa_cons (pv 9) pa_nil)))))))))), ?_⟩
    obtain ⟨ps, p, rfl, mp, o, hp, q⟩ := h
    refine q_asgR' o (er_lst (R := rS) (as := N20) (eas_cons (er_S ev_c) (eas_cons (er_S ev_c) (eas_cons (er_S ev_c) (eas_cons (er_S ev_c) (eas_cons (er_S ev_c) (eas_cons (er_S ev_c) (eas_cons (er_S ev_c) (eas_cons (er_S ev_c) (eas_cons (er_S ev_c) (eas_cons (er_S ev_c) (eas_cons (er_S ev_c) (eas_cons (er_S ev_c) (eas_cons (er_S ev_c) (eas_cons (er_S ev_c) (eas_cons (er_S ev_c) (eas_cons (er_S ev_c) (eas_cons (er_S ev_c) (eas_cons (er_S ev_c) (eas_cons (er_S ev_c) (eas_cons (er_S ev_c) eas_nil)))))))))))))))))))) (by show 20 ≤ 100000; decide)) fun vn H1 e1 rn => ?_
    have o1 := o.ex e1
    have hp1 := pot_ex hp e1
    have f1 : Pt p H H1 := Pt.ex hp e1
    refine q_new3 (R := rL rS) (C := fun n => 1 ≤ n ∧ n < 1 + 5) mp hp1 o1 (fun qs G mq hpG => en_addC (x := 1) (m := 5) (en_draw (i := 0) hpG rfl (er_I ev_c) (by decide) (by decide))) fun q1 thick H2 hq1 nq1 npq1 f2 o2 L2 hth => ?_
    have mp1 : p ∈ q1 :: ps := List.mem_cons_of_mem _ mp
    have rn2 := (rL rS).m (Rm_newP f2 mp hq1) rn
    have hq0 := pt_none f1 npq1.symm hq1
    have f02 := f1.trans f2
    refine q_forRN (ps := q1 :: ps) o2 (en_addC (p := p) (x := 1) (m := 5) (en_draw (i := 0) f2.2 rfl (er_I (ev_var rfl)) (by decide) (by decide))) fun n H3 f3 hn => ?_
    have rn3 := (rL rS).m (f3.rm mp1) rn2
    have f03 := f02.trans f3
    refine q_forW (f3.own o2) (wk_range (n := n) (er_I ev_c) (by omega)) (fun i σ' H' => (∃ (c : Nat) (o7 o8 : Option V) (rows : List (List Str)), σ' = [some (.ref p), some (.int ((5 : Nat) : Int)), some (.int ((4 : Nat) : Int)), some vn, some (.ref q1), some (.int (c : Int)), some (.int (thick : Int)), o7, o8, none, none, none, none, none] ∧ Ls (rL rS) (q1 :: ps) H' q1 rows ∧ rows.length = i ∧ (∀ l ∈ rows, l.length ≤ 4) ∧ rows.flatten = N20.take c ∧ c ≤ 4 * i) ∧ Pt p H H')
      (fun H4 e4 => ⟨⟨0, _, _, [], rfl, (RP.Ls.pt L2 f3 mp1 npq1.symm).ex e4, rfl, (fun l h => nomatch h), rfl, Nat.le_refl _⟩, f03.trans (Pt.ex f03.2 e4)⟩) (fun _ _ _ _ e pv => let ⟨⟨c, o7, o8, rows, h1, h2, h3⟩, h4⟩ := pv; ⟨⟨c, o7, o8, rows, h1, h2.ex e, h3⟩, h4.trans (Pt.ex h4.2 e)⟩) (fun H4 e4 i x u σ' H5 hx f5 f35 pv ru => ?_) fun σ' H4 f4 pv => ?_
    · obtain ⟨⟨c, o7, o8, rows, rfl, L5, hrl, hrw, hrf, hc⟩, f05⟩ := pv
      have hin : i < n := by
        have h1 := (List.getElem?_eq_some_iff.mp hx).1
        rwa [List.length_range] at h1
      have rn5 := (rL rS).m f35.2 rn3
      refine q_asgN (ps := q1 :: ps) (p := p) f35.1 (en_min (i := 2) (m := 4) rfl (en_addC (x := 1) (m := 5) (en_draw (i := 0) f05.2 rfl (er_I (ev_is (ev_op (ev_var rfl) ev_c rv_I0) rfl)) (by decide) (by decide)))) fun m0 v0 H6 f6 hm0 r0 => ?_
      obtain rfl : v0 = .int (m0 : Int) := r0
      have o6 := f6.own f35.1
      refine q_mayZero (ps := q1 :: ps) (p := p) (j := 8) (m0 := m0) o6 (etq_draw (i := 0) (m := 12) f6.2 rfl (er_I ev_c) (by decide) (by decide)) rfl fun m H7 hm f7 => ?_
      have hm4 : m ≤ 4 := by omega
      have f57 := f6.trans f7
      have f07 := f05.trans f57
      have o7' := f57.own f35.1
      have L7 := RP.Ls.pt L5 f57 mp1 npq1.symm
      have rn7 := (rL rS).m (f57.rm mp1) rn5
      have h20 : N20.length = 20 := rfl
      refine q_appR o7' L7 (ev_var (i := 4) rfl) (er_is (a' := (N20.drop c).take m) (er_sl (er_var (i := 3) rfl rn7) (eo_some (ev_var (i := 5) rfl)) (eo_some (ev_is (w := .int ((c + m : Nat) : Int)) (ev_op (ev_var (i := 5) rfl) (ev_var (i := 8) rfl) rv_I0) (congrArg V.int (Int.natCast_add c m).symm)))) ?_) (by omega) fun H8 f8 L8 ot8 => ?_
      · rw [HT.sIx_nat, HT.sIx_nat, h20, Nat.min_eq_left (by omega), Nat.min_eq_left (by omega)]
        congr 1
        omega
      have f08 := Pt.back f07 ot8 hq0 (pot_oth f07.2 ot8 npq1)
      refine s_aug (i := 5) rfl (ev_var (i := 8) rfl) fun H9 e9 => ?_
      refine ⟨((f5.trans (f57.fr mp1 f35.1)).trans f8).ex e9, ⟨c + m, _, _, _, rfl, L8.ex e9, by rw [List.length_append, hrl]; rfl, fun l hl => ?_, ?_, by omega⟩, f08.trans (Pt.ex f08.2 e9)⟩
      · rcases List.mem_append.mp hl with h | h
        · exact hrw l h
        · rw [List.mem_singleton.mp h, List.length_take]
          omega
      · rw [List.flatten_append, hrf, List.flatten_cons, List.flatten_nil, List.append_nil]
        exact (List.take_add).symm
    obtain ⟨⟨c, o7, o8, rows, rfl, L4, hrl, hrw, hrf, hc⟩, f04⟩ := pv
    rw [List.length_range] at hrl
    have ob : Own ps H4 := f4.1.pop
    have rr : (rL (rL rS)).p rows (.ref q1) (Rm ps H4) := L4.rep nq1
    refine q_new (R := rE) ob fun q2 H5 e5 nq2 hq2 o5 x5 l5 => ?_
    have rr5 := (rL (rL rS)).m x5 rr
    have mp2 : p ∈ q2 :: ps := List.mem_cons_of_mem _ mp
    have npq2 := pot_ne f04.2 hq2
    have hq20 := pt_none f04 npq2.symm hq2
    have f05 := f04.trans (Pt.ex f04.2 e5)
    have lz : (rows.zip (rows.drop 1)).length ≤ 5 := by rw [List.length_zip]; omega
    have zrow : ∀ x ∈ rows.zip (rows.drop 1), x.1.length ≤ 4 ∧ x.2.length ≤ 4 := fun x hx => by
      have h := List.of_mem_zip hx
      exact ⟨hrw _ h.1, hrw _ (List.mem_of_mem_drop h.2)⟩
    have coll : ∀ (x : List Str × List Str) lo, (colL x lo).length = x.2.length := fun x lo => by unfold colL; rw [List.length_map]
    have rowl : ∀ x ∈ rows.zip (rows.drop 1), (rowL x).length ≤ 16 := fun x hx => by
      have h := zrow x hx
      have h2 : (rowL x).length ≤ x.1.length * 4 := flat_len (c := 4) fun lo _ => by rw [coll]; exact h.2
      omega
    have lena : ∀ i, (((rows.zip (rows.drop 1)).take i).flatMap rowL).length ≤ 80 := fun i => by
      have h1 : (((rows.zip (rows.drop 1)).take i).flatMap rowL).length ≤ _ := flat_len (c := 16) fun x hx => rowl x (List.mem_of_mem_take hx)
      have h2 : ((rows.zip (rows.drop 1)).take i).length ≤ 5 := by rw [List.length_take]; omega
      omega
    refine q_forW (xs := rows.zip (rows.drop 1)) o5 (wk_zip (er_var (i := 4) rfl rr5) (er_is (er_sl (er_var (i := 4) rfl rr5) (eo_some ev_c) eo_none) ?_)) (fun i σ' H' => (∃ o10 o11 o12 o13, σ' = [some (.ref p), some (.int ((5 : Nat) : Int)), some (.int ((4 : Nat) : Int)), some vn, some (.ref q1), some (.int (c : Int)), some (.int (thick : Int)), o7, o8, some (.ref q2), o10, o11, o12, o13]) ∧ Pt p H H' ∧ ∃ ts, Ls rE (q2 :: ps) H' q2 ts ∧ ts.Sublist (((rows.zip (rows.drop 1)).take i).flatMap rowL))
      (fun H6 e6 => ⟨⟨_, _, _, _, rfl⟩, f05.trans (Pt.ex f05.2 e6), [], l5.ex e6, List.nil_sublist _⟩) (fun _ _ _ _ e pv => let ⟨h1, h2, ts, h3, h4⟩ := pv; ⟨h1, h2.trans (Pt.ex h2.2 e), ts, h3.ex e, h4⟩) (fun H6 e6 i x u σ' H7 hx f7 f57 pv ru => ?_) fun σ' H6 f6 pv => ?_
    · show ((rows.drop (HT.sIx rows.length 0 (some 1))).take (HT.sIx rows.length rows.length none - HT.sIx rows.length 0 (some 1))) = rows.drop 1
      have e1 : HT.sIx rows.length 0 (some 1) = min 1 rows.length := HT.sIx_nat _ 1 _
      have e2 : HT.sIx rows.length rows.length none = rows.length := rfl
      rw [e1, e2]
      by_cases h0 : rows = []
      · subst h0; rfl
      · have := List.length_pos_iff.mpr h0
        rw [Nat.min_eq_left this, List.take_of_length_le (by rw [List.length_drop]; omega)]
    · obtain ⟨⟨o10, o11, o12, o13, rfl⟩, f07, ts, l7, hts⟩ := pv
      obtain ⟨a, y, z, rfl, ha, ry, rz⟩ := ru
      have hxm := List.mem_of_getElem? hx
      have hw := zrow x hxm
      refine ⟨a, _, rfl, st_of (Rm_ex _ _ ha), rfl, _, _, rfl, _, _, rfl, rfl, ?_⟩
      refine s_forW f57.1 (wk_list (er_var (i := 10) rfl ry)) (fun j σ' H' => (∃ o12 o13, σ' = [some (.ref p), some (.int ((5 : Nat) : Int)), some (.int ((4 : Nat) : Int)), some vn, some (.ref q1), some (.int (c : Int)), some (.int (thick : Int)), o7, o8, some (.ref q2), some y, some z, o12, o13]) ∧ Pt p H H' ∧ ∃ ts, Ls rE (q2 :: ps) H' q2 ts ∧ ts.Sublist (((rows.zip (rows.drop 1)).take i).flatMap rowL ++ (x.1.take j).flatMap (colL x)))
        (fun H8 e8 => ⟨⟨_, _, rfl⟩, f07.trans (Pt.ex f07.2 e8), ts, l7.ex e8, by rw [List.take_zero, List.flatMap_nil, List.append_nil]; exact hts⟩) (fun _ _ _ _ e pv => let ⟨h1, h2, ts, h3, h4⟩ := pv; ⟨h1, h2.trans (Pt.ex h2.2 e), ts, h3.ex e, h4⟩) (fun H8 e8 j lo u σ' H9 hlo f9 f79 pv ru => ?_) fun σ' H8 f8 pv => ?_
      · obtain ⟨⟨o12, o13, rfl⟩, f09, ts, l9, hts⟩ := pv
        obtain rfl : u = .str lo := ru
        have rz9 := (rL rS).m f79.2 rz
        have hlm := List.mem_of_getElem? hlo
        have a1 := hts.length_le
        have a2 := lena i
        have a3 : ((x.1.take j).flatMap (colL x)).length ≤ 16 := by
          have h1 : ((x.1.take j).flatMap (colL x)).length ≤ _ := flat_len (c := 4) fun lo _ => by rw [coll]; exact hw.2
          have h2 : (x.1.take j).length ≤ 4 := by rw [List.length_take]; omega
          omega
        rw [List.length_append] at a1
        refine s_extN (q := q2) (i := 9) mp2 npq2.symm f79.1 l9 rfl (en_lcN (R := rS) (S := rE) (C := fun h b => b = (lo, h)) mp2 f09.2 (wk_list (er_var (i := 11) rfl rz9)) (by omega) (fun _ => rfl) (fun h hh qs v H10 mq hpq oq xq rq => ?_) fun h hh qs v H10 mq hpq oq xq rq => EvN.of hpq (er_tup (er_var (v := .str lo) (R := rS) rfl rfl) (er_var rfl rq))) (fun bs hb => by have := hb.len; omega) fun bs H10 H11 hb f10 ot11 fr11 l11 => ?_
        · exact fun H11 e11 o11 Q11 q11 => en_draw (i := 0) (m := 6) hpq rfl (er_I ev_c) (by decide) (by decide) H11 e11 o11 _ fun n v1 H12 f12 c12 r12 => by
            obtain rfl : v1 = .int (n : Int) := r12
            exact ⟨_, rfl, _, _, rfl, rfl, _, rfl, q11 _ H12 f12⟩
        · have f010 := f09.trans f10
          refine ⟨f9.trans fr11, ⟨_, _, rfl⟩, Pt.back f010 ot11 hq20 (pot_oth f010.2 ot11 npq2), ts ++ bs, l11, ?_⟩
          rw [List.take_add_one, hlo, List.flatMap_append, ← List.append_assoc]
          refine List.Sublist.append hts ?_
          show bs.Sublist ([lo].flatMap (colL x))
          rw [List.flatMap_cons, List.flatMap_nil, List.append_nil]
          exact hb.sub
      · obtain ⟨⟨o12, o13, rfl⟩, f08, ts, l8, hts⟩ := pv
        rw [List.take_length] at hts
        refine ⟨f7.trans f8, ⟨_, _, _, _, rfl⟩, f08, ts, l8, ?_⟩
        rw [List.take_add_one, hx, List.flatMap_append]
        show ts.Sublist (_ ++ [x].flatMap rowL)
        rw [List.flatMap_cons, List.flatMap_nil, List.append_nil]
        exact hts
    obtain ⟨⟨o10, o11, o12, o13, rfl⟩, f06, ts, l6, hts⟩ := pv
    rw [List.take_length] at hts
    refine ⟨_, rfl, _, rfl, sz_of (by show 2 ≤ 100000; decide), fun tt htt => ?_⟩
    have e9 : Ex H6 (upd H6 tt (.tup [.ref q1, .ref q2])) := Ex.new htt
    have r1 : (rL (rL rS)).p rows (.ref q1) (Rm ps H6) := (rL (rL rS)).m (f6.2.trans Rm_pop) rr5
    have ntt : tt ∉ ps := (f6.1.pop).nin htt
    exact q _ rows ts _ (f06.trans (Pt.ex f06.2 e9)) ⟨tt, _, _, rfl, Rm_get upd_same ntt, (rL (rL rS)).m (Rm_mono e9) r1, (rL rE).m (Rm_mono e9) (l6.rep nq2)⟩ ⟨by omega, by omega, hrw, ⟨c, hrf⟩, hts⟩

  case len =>
    obtain ⟨ps, p, rfl, _⟩ := h
    rfl
end
end K21
set_option Elab.async false
set_option linter.all false
set_option maxRecDepth 100000
set_option maxHeartbeats 4000000
namespace K21
open PySem PySem.Spec PyProof.Rows L2 Evl Gen RP
section
variable {P : Program} {w : World} {K : PySem.W.Frag} {mg : Str → Option Value} {base : Heap} {fd : Nat → FuncData}
theorem er_over {ps : List Addr} {σ : L2.St} {H : Hp} {ta tb : TE} {s t : Sht} {E : XK} (h : EvR (rS_ K) ps ta σ H s) (h2 : EvR (rS_ K) ps tb σ H t) (ok : Sok s) (ok2 : Sok t) (mk : Mk' (s.1 ++ t.1) (s.2 ++ t.2)) : EvR (rS_ K) ps (tOp (rOwn2 (shC K) (Sp2 (rS_ K) (rS_ K) (rS_ K) overS (fun s t => Sok s ∧ Sok t ∧ Mk' (s.1 ++ t.1) (s.2 ++ t.2))) [] E) ta tb) σ H (overS s t) := er_op h h2 fun v w H1 e1 o rv rw' Q q => by
  have rv2 := rv
  obtain ⟨x, rfl, dx, p1, p2, p3, p4, p5, p6, kvs, h1, _⟩ := rv2
  have rw2 := rw'
  obtain ⟨y, rfl, dy, q1, q2, q3, q4, q5, q6, kvt, h3, _⟩ := rw2
  exact ⟨x, y, dx, dy, _, _, rfl, rfl, Rm_ex _ _ h1, Rm_ex _ _ h3, ps, _, _, s, t, rfl, o, rv, rw', ⟨ok, ok2, mk⟩, fun z H2 e2 r => q z H2 e2 r⟩
theorem er_inv {ps : List Addr} {σ : L2.St} {H : Hp} {ta : TE} {s : Sht} {E : XK} (h : EvR (rS_ K) ps ta σ H s) (ok : Sok s) : EvR (rS_ K) ps (tUn (rOwn1 (shC K) (Sp1 (rS_ K) (rS_ K) invS Sok) [] E) ta) σ H (invS s) := er_un h fun v H1 e1 o rv Q q => by
  have rv2 := rv
  obtain ⟨x, rfl, dx, p1, p2, p3, p4, p5, p6, kvs, h1, _⟩ := rv2
  exact ⟨x, dx, _, rfl, Rm_ex _ _ h1, ps, _, s, rfl, o, rv, ok, fun z H2 e2 r => q z H2 e2 r⟩
section
variable {α β γ : Type} {R : Rp α} {S : Rp β} {T : Rp γ} {ps : List Addr} {p q : Addr} {σ : L2.St} {H : Hp} {ta tb tc td te : TE} {D : Ends} {i : Nat} {s : Sht} {C0 : Addr} {m : Str} {E : XK}
theorem en_meth1 {f : Sht → α → γ} {Cd : Sht → α → Prop} {Ca : α → Prop} (mp : p ∈ ps) (hp : Pot H p) (h : EvR (rSh C0) ps ta σ H s) (h2 : ∀ G, Pt p H G → EvN Ca R ps p tb σ G) (hm : NH m) (hc : ∀ a, Ca a → Cd s a) : EvN (fun z => ∃ a, Ca a ∧ z = f s a) T ps p (tMeth C0 m (Sp2 (rSh C0) R T f Cd) [] E ta (tCons tb tNil)) σ H := fun H1 e o Q q => h H1 e o _ fun v H2 e2 r => by
  have r' := r
  obtain ⟨x, rfl, dx, p1, p2, p3, p4, p5, p6, kvs, h1, _⟩ := r'
  exact ⟨x, dx, _, rfl, Rm_ex _ _ h1, shF_lookup hm, h2 H2 (Pt.ex hp (e.trans e2)) H2 (Ex.refl _) (o.ex e2) _ fun a w H3 f3 ca r2 => ⟨ps, _, w, s, a, rfl, f3.own (o.ex e2), (rSh C0).m (f3.rm mp) r, r2, hc a ca, fun z H4 e4 t => q _ z H4 ((Pt.ex (pot_ex hp e) e2).trans (f3.trans (Pt.ex f3.2 e4))) ⟨a, ca, rfl⟩ t⟩⟩
theorem en_meth2 {f : Sht → α → β → γ} {Cd : Sht → α → β → Prop} {Ca : α → Prop} {Cb : β → Prop} (mp : p ∈ ps) (hp : Pot H p) (h : EvR (rSh C0) ps ta σ H s) (h2 : ∀ G, Pt p H G → EvN Ca R ps p tb σ G) (h3 : ∀ G, Pt p H G → EvN Cb S ps p tc σ G) (hm : NH m) (hc : ∀ a b, Ca a → Cb b → Cd s a b) : EvN (fun z => ∃ a b, Ca a ∧ Cb b ∧ z = f s a b) T ps p (tMeth C0 m (Sp3 (rSh C0) R S T f Cd) [] E ta (tCons tb (tCons tc tNil))) σ H := fun H1 e o Q q => h H1 e o _ fun v H2 e2 r => by
  have r' := r
  obtain ⟨x, rfl, dx, p1, p2, p3, p4, p5, p6, kvs, h1, _⟩ := r'
  exact ⟨x, dx, _, rfl, Rm_ex _ _ h1, shF_lookup hm, h2 H2 (Pt.ex hp (e.trans e2)) H2 (Ex.refl _) (o.ex e2) _ fun a w H3 f3 ca r2 => h3 H3 ((Pt.ex hp (e.trans e2)).trans f3) H3 (Ex.refl _) (f3.own (o.ex e2)) _ fun b z H4 f4 cb r3 =>
    ⟨ps, _, w, z, s, a, b, rfl, (f3.trans f4).own (o.ex e2), (rSh C0).m ((f3.trans f4).rm mp) r, R.m (f4.rm mp) r2, r3, hc a b ca cb, fun y H5 e5 t => q _ y H5 ((Pt.ex (pot_ex hp e) e2).trans ((f3.trans f4).trans (Pt.ex f4.2 e5))) ⟨a, b, ca, cb, rfl⟩ t⟩⟩
theorem en_sing {C : α → Prop} (hp : Pot H p) (mp : p ∈ ps) (h : EvN C R ps p te σ H) : EvN (fun z => ∃ a, C a ∧ z = [a]) (rL R) ps p (tLst (tCons te tNil)) σ H := fun H1 e o Q q => h H1 e o _ fun a v H2 f c r => ⟨sz_of (by show 1 ≤ 100000; decide), fun l hl => q _ _ _ (f.trans (Pt.ex f.2 (Ex.new hl))) ⟨a, c, rfl⟩ ⟨l, [v], rfl, Rm_get upd_same ((f.own o).nin hl), R.m (Rm_mono (Ex.new hl)) r, trivial⟩⟩
theorem en_cat {as : List α} {C : List α → Prop} (mp : p ∈ ps) (hp : Pot H p) (h : EvR (rL R) ps ta σ H as) (h2 : ∀ G, Pt p H G → EvN C (rL R) ps p tb σ G) (hz : ∀ bs, C bs → as.length + bs.length ≤ 100000) : EvN (fun z => ∃ bs, C bs ∧ z = as ++ bs) (rL R) ps p (tOp rCat ta tb) σ H := fun H1 e o Q q => h H1 e o _ fun v H2 e2 r => h2 H2 (Pt.ex hp (e.trans e2)) H2 (Ex.refl _) (o.ex e2) _ fun bs w H3 f3 c r2 => by
  have r3 := (rL R).m (f3.rm mp) r
  have := er_cat (ta := tC v) (tb := tC w) (σ := σ) (er_of ev_c r3) (er_of ev_c r2) (hz bs c)
  exact this H3 (Ex.refl _) (f3.own (o.ex e2)) Q fun z H4 e4 t => q _ z H4 ((Pt.ex (pot_ex hp e) e2).trans (f3.trans (Pt.ex f3.2 e4))) ⟨bs, c, rfl⟩ t
theorem q_new4 {a b c : α} {C : α → Prop} {tz : TS} (mp : p ∈ ps) (hp : Pot H p) (o : Own ps H) (ha : EvR R ps ta σ H a) (hb : EvR R ps tb σ H b) (hc : EvR R ps tc σ H c) (hd : ∀ G, Pt p H G → EvN C R ps p td σ G)
    (k : ∀ d l H1, C d → Pt p H H1 → l ∉ ps → H l = none → p ≠ l → Own (l :: ps) H1 → Ls R (l :: ps) H1 l [a, b, c, d] → Ex (Rm ps H) (Rm (l :: ps) H1) → tz D (σ.set i (some (.ref l))) H1) : tSeq (tAsg (tLst (tCons ta (tCons tb (tCons tc (tCons td tNil))))) (gName i)) tz D σ H :=
  ha H (Ex.refl _) o _ fun va H1 e1 ra => hb H1 e1 (o.ex e1) _ fun vb H2 e2 rb => hc H2 (e1.trans e2) (o.ex (e1.trans e2)) _ fun vc H3 e3 rc => hd H3 (Pt.ex hp ((e1.trans e2).trans e3)) H3 (Ex.refl _) (o.ex ((e1.trans e2).trans e3)) _ fun d vd H4 f4 cd rd => ⟨sz_of (by show 4 ≤ 100000; decide), fun l hl => by
    have f04 := (Pt.ex hp ((e1.trans e2).trans e3)).trans f4
    have o4 := f04.own o
    have npl := pot_ne f04.2 hl
    have nw := new_own o4 (ob := .lst [va, vb, vc, vd]) hl
    have hl0 := pt_none f04 npl.symm hl
    exact k d l _ cd (f04.trans (Pt.ex f04.2 (Ex.new hl))) (o4.nin hl) hl0 npl nw.1 ⟨List.mem_cons_self .., _, upd_same, R.m (((Rm_mono (e2.trans e3)).trans (f4.rm mp)).trans nw.2) ra, R.m (((Rm_mono e3).trans (f4.rm mp)).trans nw.2) rb, R.m ((f4.rm mp).trans nw.2) rc, R.m nw.2 rd, trivial⟩ ((f04.rm mp).trans nw.2)⟩
theorem q_extN {as : List α} {C : List α → Prop} {tz : TS} (mp : p ∈ ps) (np : q ≠ p) (o : Own ps H) (l : Ls R ps H q as) (hi : σ[i]? = some (some (.ref q))) (h : EvN C (rL R) ps p te σ H) (hz : ∀ bs, C bs → as.length + bs.length ≤ 100000) (k : ∀ bs H1 H', C bs → Pt p H H1 → Oth q H1 H' → Fr ps H H' → Ls R ps H' q (as ++ bs) → tz D σ H') : tSeq (tDrop (tBM K "list" rExtend (tVar i) (tCons te tNil))) tz D σ H := s_extN (D := { D with nx := tz D }) mp np o l hi h hz k
end
structure OthOk (s : Sht) (rows : List (List Str)) (spare : List (Str × Str)) : Prop where
  ok : Sok s
  len : s.1.length = rows.length
  lo : 1 ≤ rows.length
  hi : rows.length ≤ 5
  few : s.1.flatten.length ≤ 20
  add : AddOk s (spare.take 2)
  put : ∀ a, a < rows.length → PutOk s a "zz"
  mk0 : Mk' [["zz", "zy"]] []
  mkz : Mk' (s.1 ++ (mkS [["zz", "zy"]] []).1) (s.2 ++ (mkS [["zz", "zy"]] []).2)
def spOthers (K : PySem.W.Frag) : Sp := fun vs H Q _ => ∃ ps p v vr vsp s rows spare, vs = [.ref p, v, vr, vsp] ∧ p ∈ ps ∧ Own ps H ∧ Pot H p ∧ (rS_ K).p s v (Rm ps H) ∧ (rL (rL rS)).p rows vr (Rm ps H) ∧ (rL rE).p spare vsp (Rm ps H) ∧ OthOk s rows spare ∧ ∀ u ss H', Pt p H H' → (rL (rS_ K)).p ss u (Rm ps H') → (∀ t ∈ ss, Sok t) → ss.length ≤ 60 → Q u H'
theorem sc_law_others : FnScope ["_law_pot_here", "_law_made_here", "_law_rows", "_law_spare", "_law_top", "_law_every", "_law_found", "_law_k", "_law_turn", "_law_near"] ["_law_pot_here", "_law_made_here", "_law_rows", "_law_spare"] (defScope (topS 58)) := ⟨rfl, rfl, rfl, by decide +kernel, rfl, by decide +kernel, by decide +kernel⟩
theorem ok_law_others (T : Tx K mg fd) : FnOk P w K mg base CX0 9 (He.ga K "_law_others") (fd 30) ["_law_pot_here", "_law_made_here", "_law_rows", "_law_spare"] (spOthers K) := by
  obtain ⟨ds2, hr2, hb2⟩ := bi2 T
  refine (T.df 30 58 "_law_others" rfl).ok sc_law_others (fun vs H Q E h => ?len) (fun cdv A outer s H vs Q E hr h => ?body)
  case body =>
    refine ⟨_, (pss_cons (ps_asg (pe_tup (pa_cons (pe_op op_sub (pe_callB (r := rLen K) call_len (by rfl) (T.fr 47 "len" rfl) (by decide +kernel) (pa_cons (pv 2) pa_nil)) pe_int) (pa_cons (pe_callTy (call_listOwnL (F' := L2.E0) (ok_sh_iter T) rfl (ok_sh_len T) (hr.mono (by decide)) (T.meth 77 "__iter__" rfl) ((T.dm 57 17 "__iter__" "Sheet.__iter__" rfl).binds (ps := ["self"]) fun _ _ _ _ _ _ us hl => match us, hl with | [_], _ => rfl) pass0 (T.meth 75 "__len__" rfl) ((T.dm 55 15 "__len__" "Sheet.__len__" rfl).binds (ps := ["self"]) fun _ _ _ _ _ _ us hl => match us, hl with | [_], _ => rfl) hr.hd) (by rfl) (T.fr 44 "list" rfl) (by decide +kernel) (pa_cons (pv 1) pa_nil)) pa_nil))) (pg_tup rfl (pgs_cons (pg_name (i := 4) sc_law_others.nd rfl (Or.inr rfl)) (pgs_cons (pg_name (i := 5) sc_law_others.nd rfl (Or.inr rfl)) pgs_nil)))) (pss_cons (ps_set (i := 6) sc_law_others.nd rfl (Or.inl rfl) (pe_lst (pa_cons (pe_un (un_inv1 (ok_sh_invert T) (hr.mono (by decide)) (T.meth 83 "__invert__" rfl) ((T.dm 63 23 "__invert__" "Sheet.__invert__" rfl).binds (ps := ["self"]) fun _ _ _ _ _ _ us hl => match us, hl with | [_], _ => rfl) .nil pass0) (pv 1)) (pa_cons (pe_meth0 (pv 1) T.cls (T.meth 88 "with_level" rfl) (ok_sh_with_level T) (hr.mono (by decide)) ((T.dm 68 28 "with_level" "Sheet.with_level" rfl).binds (ps := ["self"]) fun _ _ _ _ _ _ us hl => match us, hl with | [_], _ => rfl) .nil pass0) (pa_cons (pe_meth (pv 1) T.cls (T.meth 90 "joined" rfl) (ok_sh_joined T) (hr.mono (by decide)) ((T.dm 70 30 "joined" "Sheet.joined" rfl).binds (ps := ["self", "lines"]) fun _ _ _ _ _ _ us hl => match us, hl with | [_, _], _ => rfl) .nil pass0 (pa_cons (pe_slice sl_list (pv 3) po_none (po_some pe_int)) pa_nil)) (pa_cons (pe_meth (pv 1) T.cls (T.meth 86 "with_node" rfl) (ok_sh_with_node T) (hr.mono (by decide)) ((T.dm 66 26 "with_node" "Sheet.with_node" rfl).binds (ps := ["self", "level", "name"]) fun _ _ _ _ _ _ us hl => match us, hl with | [_, _, _], _ => rfl) .nil pass0 (pa_cons (pe_call (ok_law_draw T) (hr.mono (by decide)) (by rfl) (T.gl 22 "_law_draw" rfl) (T.df 20 48 "_law_draw" rfl).kp ((T.df 20 48 "_law_draw" rfl).binds (ps := ["_law_pot_here", "_law_faces"]) fun _ _ _ _ _ _ us hl => match us, hl with | [_, _], _ => rfl) .nil pass0 (pa_cons (pv 0) (pa_cons (pe_op op_add (pv 4) pe_int) pa_nil))) (pa_cons pe_str pa_nil))) pa_nil)))))) (pss_cons (ps_expr (pe_bm PySem.F.plainAttrs_list PySem.F.slot_list_extend PySem.F.type_list_extend mt_extend (pv 6) (pa_cons (pe_op op_cat (pe_lc (own := [("_law_k", 7)]) (g := gName 7) rfl sc_law_others.nd (pi_range2 (by rfl) (T.fr 50 "range" rfl) (pa_cons pe_int (pa_cons (pe_op op_add (pv 4) pe_int) pa_nil))) (blkOk_by (N := ["_law_pot_here", "_law_made_here", "_law_rows", "_law_spare", "_law_top", "_law_every", "_law_found", "_law_k", "_law_turn", "_law_near"]) (sc := (defScope (topS 58))) (own := [("_law_k", 7)]) (by decide +kernel)) (fun _ _ _ _ _ => (pg_name (i := 7) sc_law_others.nd rfl (Or.inl rfl))) (fun _ _ _ _ _ => pts_nil) (fun _ _ _ _ _ => (pe_meth (pv 1) T.cls (T.meth 89 "cut" rfl) (ok_sh_cut T) (hr.mono (by decide)) ((T.dm 69 29 "cut" "Sheet.cut" rfl).binds (ps := ["self", "first", "last"]) fun _ _ _ _ _ _ us hl => match us, hl with | [_, _, _], _ => rfl) .nil pass0 (pa_cons (pv 7) (pa_cons (pv 4) pa_nil))))) (pe_lst (pa_cons (pe_meth (pv 1) T.cls (T.meth 89 "cut" rfl) (ok_sh_cut T) (hr.mono (by decide)) ((T.dm 69 29 "cut" "Sheet.cut" rfl).binds (ps := ["self", "first", "last"]) fun _ _ _ _ _ _ us hl => match us, hl with | [_, _, _], _ => rfl) .nil pass0 (pa_cons pe_int (pa_cons (pe_call (ok_law_draw T) (hr.mono (by decide)) (by rfl) (T.gl 22 "_law_draw" rfl) (T.df 20 48 "_law_draw" rfl).kp ((T.df 20 48 "_law_draw" rfl).binds (ps := ["_law_pot_here", "_law_faces"]) fun _ _ _ _ _ _ us hl => match us, hl with | [_, _], _ => rfl) .nil pass0 (pa_cons (pv 0) (pa_cons (pe_op op_add (pv 4) pe_int) pa_nil))) pa_nil))) pa_nil))) pa_nil))) (pss_cons (ps_expr (pe_bm PySem.F.plainAttrs_list PySem.F.slot_list_extend PySem.F.type_list_extend mt_extend (pv 6) (pa_cons (pe_op op_cat (pe_slice sl_list (pe_meth0 (pv 1) T.cls (T.meth 74 "parts" rfl) (ok_sh_parts T) (hr.mono (by decide)) ((T.dm 54 13 "parts" "Sheet.parts" rfl).binds (ps := ["self"]) fun _ _ _ _ _ _ us hl => match us, hl with | [_], _ => rfl) .nil pass0) po_none (po_some pe_int)) (pe_lst (pa_cons (pe_op (op_own2 (ok_sh_rshift T) (hr.mono (by decide)) T.self (T.meth 85 "__rshift__" rfl) ((T.dm 65 25 "__rshift__" "Sheet.__rshift__" rfl).binds (ps := ["self", "other"]) fun _ _ _ _ _ _ us hl => match us, hl with | [_, _], _ => rfl) .nil pass0) (pv 1) (pe_make T.mkr (ok_sh_init T) (hr.mono (by decide)) (by rfl) (T.gl 36 "Sheet" rfl) hb2 hr2 pass0 (pa_cons (pe_lst (pa_cons (pe_lst (pa_cons pe_str (pa_cons pe_str pa_nil))) pa_nil)) pa_nil))) pa_nil))) pa_nil))) (pss_cons (ps_expr (pe_bm PySem.F.plainAttrs_list PySem.F.slot_list_extend PySem.F.type_list_extend mt_extend (pv 6) (pa_cons (pe_lc (own := [("_law_turn", 8)]) (g := gName 8) rfl sc_law_others.nd (pi_range1 (by rfl) (T.fr 50 "range" rfl) (pa_cons (pe_callB (call_min2 rfl) (by rfl) (T.fr 52 "min" rfl) (by decide +kernel) (pa_cons pe_int (pa_cons (pe_callB (r := rLen K) call_len (by rfl) (T.fr 47 "len" rfl) (by decide +kernel) (pa_cons (pv 5) pa_nil)) pa_nil))) pa_nil)) (blkOk_by (N := ["_law_pot_here", "_law_made_here", "_law_rows", "_law_spare", "_law_top", "_law_every", "_law_found", "_law_k", "_law_turn", "_law_near"]) (sc := (defScope (topS 58))) (own := [("_law_turn", 8)]) (by decide +kernel)) (fun _ _ _ _ _ => (pg_name (i := 8) sc_law_others.nd rfl (Or.inl rfl))) (fun _ _ _ _ _ => pts_nil) (fun _ _ _ _ _ => (pe_meth (pv 1) T.cls (T.meth 87 "without_node" rfl) (ok_sh_without_node T) (hr.mono (by decide)) ((T.dm 67 27 "without_node" "Sheet.without_node" rfl).binds (ps := ["self", "node"]) fun _ _ _ _ _ _ us hl => match us, hl with | [_, _], _ => rfl) .nil pass0 (pa_cons (pe_call (ok_law_pick T) (hr.mono (by decide)) (by rfl) (T.gl 23 "_law_pick" rfl) (T.df 21 49 "_law_pick" rfl).kp ((T.df 21 49 "_law_pick" rfl).binds (ps := ["_law_pot_here", "_law_some"]) fun _ _ _ _ _ _ us hl => match us, hl with | [_, _], _ => rfl) .nil pass0 (pa_cons (pv 0) (pa_cons (pv 5) pa_nil))) pa_nil)))) pa_nil))) (pss_one (ps_ret (pe_op op_cat (pv 6) (pe_lc (own := [("_law_near", 9)]) (g := gName 9) rfl sc_law_others.nd (pi_list (pe_slice sl_list (pv 6) po_none (po_some pe_int))) (blkOk_by (N := ["_law_pot_here", "_law_made_here", "_law_rows", "_law_spare", "_law_top", "_law_every", "_law_found", "_law_k", "_law_turn", "_law_near"]) (sc := (defScope (topS 58))) (own := [("_law_near", 9)]) (by decide +kernel)) (fun _ _ _ _ _ => (pg_name (i := 9) sc_law_others.nd rfl (Or.inl rfl))) (fun _ _ _ _ _ => (pts_one (pt_cmpR (op_neDK (K := K) rfl hr.units) (pv 5) (pe_lst pa_nil) (nomark _)))) (fun _ _ _ _ _ => (pe_meth (pv 9) T.cls (T.meth 87 "without_node" rfl) (ok_sh_without_node T) (hr.mono (by decide)) ((T.dm 67 27 "without_node" "Sheet.without_node" rfl).binds (ps := ["self", "node"]) fun _ _ _ _ _ _ us hl => match us, hl with | [_, _], _ => rfl) .nil pass0 (pa_cons (pe_ix (r := rIxL K) ix_list (pv 5) pe_int (fun _ _ => rfl)) pa_nil)))))))))))), ?_⟩
    obtain ⟨ps, p, v, vr, vsp, s0, rows, spare, rfl, mp, o, hp, r, rr, rsp, hk, q⟩ := h
    have ok := hk.ok
    have hlen := hk.len
    have hlo := hk.lo
    have hhi := hk.hi
    have hfew := hk.few
    have hn : isN (.str ("zz" : Str)) = true := (hk.put 0 hlo).nm
    have okev : ∀ z ∈ s0.1.flatten, okS z := fun z hz => by
      obtain ⟨l, h1, h2⟩ := List.mem_flatten.mp hz
      exact isN_strOk (ok.lv.names l h1 z h2)
    refine q_par2R (R := rI) (S := rL rS) (a := ((rows.length - 1 : Nat) : Int)) (b := s0.1.flatten) o (er_I (ev_is (ev_op (ev_I o (er_len (er_toQ (er_var (i := 2) rfl rr)) fun a vs H1 Q h q => len_rd h q)) ev_c rv_I0) (congrArg V.int (by omega)))) (er_listO (er_var (i := 1) rfl r) ok) fun vt ve H1 e1 rt re => ?_
    obtain rfl : vt = .int ((rows.length - 1 : Nat) : Int) := rt
    have o1 := o.ex e1
    have f1 : Pt p H H1 := Pt.ex hp e1
    have r := (rS_ K).m (Rm_mono e1) r
    have rsp := (rL rE).m (Rm_mono e1) rsp
    have tp : ∀ {σ : L2.St} {G : Hp}, σ[4]? = some (some (.int ((rows.length - 1 : Nat) : Int))) → EvR rI ps (tOp (rI0 fun i j => V.int (i + j)) (tVar 4) (tC (.int 1))) σ G ((rows.length : Nat) : Int) := fun g => er_I (ev_is (ev_op (ev_var g) ev_c rv_I0) (congrArg V.int (by omega)))
    have tpq : ∀ {qs : List Addr} {σ : L2.St} {G : Hp}, σ[4]? = some (some (.int ((rows.length - 1 : Nat) : Int))) → EvR rI qs (tOp (rI0 fun i j => V.int (i + j)) (tVar 4) (tC (.int 1))) σ G ((rows.length : Nat) : Int) := fun g => er_I (ev_is (ev_op (ev_var g) ev_c rv_I0) (congrArg V.int (by omega)))
    refine q_new4 (R := rS_ K) (C := Sok) (a := invS s0) (b := moreL s0) (c := addS s0 (spare.take 2)) mp f1.2 o1 (er_inv (er_var (i := 1) rfl r) ok) (er_meth0 (f := moreL) (er_var (i := 1) rfl r) (by decide +kernel) ⟨ok, by omega⟩) (er_meth1 (f := addS) (er_var (i := 1) rfl r) (er_is (er_sl (er_var (i := 3) rfl rsp) eo_none (eo_some ev_c)) ?_) (by decide +kernel) hk.add)
      (fun G fG => (en_meth2 (R := rN) (S := rS) (f := putIn) (Ca := fun a => a < rows.length) (Cb := fun z => z = ("zz" : Str)) mp fG.2 (er_var (i := 1) rfl ((rS_ K).m (fG.rm mp) r)) (fun G2 f2 => en_draw (i := 0) f2.2 rfl (tp rfl) (by omega) (by omega)) (fun G2 f2 => EvN.of f2.2 (er_S ev_c)) (by decide +kernel) fun a b ha hb => by rw [hb]; exact hk.put a ha).imp fun z hz => by
        obtain ⟨a, b, ha, rfl, rfl⟩ := hz
        exact (hk.put a ha).mk'.sok) fun d l H2 hd f2 nl hl npl o2 L2 x2 => ?_
    · show ((spare.drop (HT.sIx spare.length 0 none)).take (HT.sIx spare.length spare.length (some 2) - HT.sIx spare.length 0 none)) = spare.take 2
      have e1 : HT.sIx spare.length spare.length (some 2) = min 2 spare.length := HT.sIx_nat _ 2 _
      have e2 : HT.sIx spare.length 0 none = 0 := rfl
      rw [e1, e2, List.drop_zero, Nat.sub_zero, List.take_eq_take_iff]
      omega
    have f02 := f1.trans f2
    have hl0 := pt_none f1 npl.symm hl
    have mp2 : p ∈ l :: ps := List.mem_cons_of_mem _ mp
    have r2 := (rS_ K).m x2 r
    have re2 := (rL rS).m x2 re
    have lrows : ∀ {k : Nat}, k ≤ rows.length - 1 → k < s0.1.length := fun h => by omega
    -- cuts
    refine q_extN (R := rS_ K) (q := l) (i := 6) (C := fun z => ∃ bs, (∃ c, (∃ a b, a = 0 ∧ b < rows.length ∧ c = cutS s0 a b) ∧ bs = [c]) ∧ z = (((List.range (rows.length - 1)).map (1 + ·)).map fun k => cutS s0 k (rows.length - 1)) ++ bs) mp2 npl.symm o2 L2 rfl (en_cat mp2 f2.2 (er_is (er_lc1 (R := rN) (S := rS_ K) (fun k => cutS s0 k (rows.length - 1)) (wk_range2 (m := 1) (n := rows.length) (er_I ev_c) (tpq rfl) (by omega) (by omega)) (by rw [List.length_map, List.length_range]; omega) (fun _ => rfl) fun k hk' qs v3 H3 e3 o3 x3 r3 => er_meth2 (f := cutS) (R := rN) (S := rN) (er_var (i := 1) rfl ((rS_ K).m x3 r2)) (er_var rfl r3) (er_var (v := .int ((rows.length - 1 : Nat) : Int)) (i := 4) rfl rfl) (by decide +kernel) ?_) rfl) (fun G fG => en_sing fG.2 mp2 (en_meth2 (R := rN) (S := rN) (f := cutS) (Ca := fun a => a = 0) (Cb := fun b => b < rows.length) mp2 fG.2 (er_var (i := 1) rfl ((rS_ K).m (fG.rm mp2) r2)) (fun G2 f2 => EvN.of f2.2 (er_of ev_c rfl)) (fun G2 f2 => en_draw (i := 0) f2.2 rfl (tpq rfl) (by omega) (by omega)) (by decide +kernel) fun a b ha hb => ⟨ok, by omega, by omega⟩)) ?_) ?_ fun A H3 H4 hA f3 ot4 f24 L4 => ?_
    · obtain ⟨k0, hk0, rfl⟩ := List.mem_map.mp hk'
      have := List.mem_range.mp hk0
      exact ⟨ok, by omega, by omega⟩
    · rintro bs ⟨c, _, rfl⟩
      rw [List.length_map, List.length_map, List.length_range, List.length_singleton]
      omega
    · rintro bs ⟨bs', ⟨c, _, rfl⟩, rfl⟩
      rw [List.length_append, List.length_map, List.length_map, List.length_range, List.length_singleton]
      show 4 + _ ≤ _
      omega
    have hA1 : ∀ t ∈ A, Sok t := by
      obtain ⟨bs', ⟨c, ⟨a, b, rfl, hb, rfl⟩, rfl⟩, rfl⟩ := hA
      intro t ht
      rcases List.mem_append.mp ht with ht | ht
      · obtain ⟨k1, hk1, rfl⟩ := List.mem_map.mp ht
        obtain ⟨k0, hk0, rfl⟩ := List.mem_map.mp hk1
        have := List.mem_range.mp hk0
        exact cut_ok ok (by omega) (by omega)
      · rw [List.mem_singleton.mp ht]
        exact cut_ok ok (by omega) (by omega)
    have hA2 : A.length ≤ 5 := by
      obtain ⟨bs', ⟨c, _, rfl⟩, rfl⟩ := hA
      rw [List.length_append, List.length_map, List.length_map, List.length_range, List.length_singleton]
      omega
    have f04 : Pt p H H4 := Pt.back (f02.trans f3) ot4 hl0 (pot_oth f3.2 ot4 npl)
    have r4 := (rS_ K).m f24.2 r2
    have re4 := (rL rS).m f24.2 re2
    -- parts, one above
    have plen : (partsOf s0).length ≤ 20 := by unfold partsOf; rw [List.length_map]; exact Nat.le_trans ldf_len hfew
    have pok : ∀ t ∈ partsOf s0, Sok t := fun t ht => by
      obtain ⟨z, _, rfl⟩ := List.mem_map.mp ht
      exact only_sok ok
    obtain ⟨B, hB⟩ : ∃ B, B = ((partsOf s0).drop (HT.sIx (partsOf s0).length 0 none)).take (HT.sIx (partsOf s0).length (partsOf s0).length (some 3) - HT.sIx (partsOf s0).length 0 none) := ⟨_, rfl⟩
    have hB1 : ∀ t ∈ B, Sok t := fun t ht => pok t (List.mem_of_mem_drop (List.mem_of_mem_take (hB ▸ ht)))
    have hB2 : B.length ≤ 20 := by rw [hB, List.length_take, List.length_drop]; omega
    refine q_extR (R := rS_ K) (bs := B ++ [overS s0 (mkS [["zz", "zy"]] [])]) f24.1 L4 (ev_var (i := 6) rfl) (er_cat (er_is (er_sl (er_meth0 (f := partsOf) (er_var (i := 1) rfl r4) (by decide +kernel) ok) eo_none (eo_some ev_c)) hB.symm) (er_lst (R := rS_ K) (eas_cons (er_over (er_var (i := 1) rfl r4) (er_make1 T.emp (er_lst (R := rL rS) (as := [["zz", "zy"]]) (eas_cons (er_lst (R := rS) (as := ["zz", "zy"]) (eas_cons (er_S ev_c) (eas_cons (er_S ev_c) eas_nil)) (by show 2 ≤ 100000; decide)) eas_nil) (by show 1 ≤ 100000; decide)) hk.mk0) ok hk.mk0.sok hk.mkz) eas_nil) (by show 1 ≤ 100000; decide)) (by rw [List.length_singleton]; omega)) (by rw [List.length_append, List.length_append, List.length_singleton]; show 4 + A.length + _ ≤ _; omega) fun H5 f5 L5 ot5 => ?_
    have f05 : Pt p H H5 := Pt.back f04 ot5 hl0 (pot_oth f04.2 ot5 npl)
    have r5 := (rS_ K).m f5.2 r4
    have re5 := (rL rS).m f5.2 re4
    -- nodes out
    refine q_extN (R := rS_ K) (q := l) (i := 6) (C := Sel (fun _ t => Sok t) (List.range (min 3 s0.1.flatten.length))) mp2 npl.symm f5.1 L5 rfl ((en_lcN (R := rN) (S := rS_ K) (C := fun _ t => ∃ a, a ∈ s0.1.flatten ∧ t = outOf s0 a) mp2 f05.2 (wk_range (n := min 3 s0.1.flatten.length) (er_I (ev_is (ev_minI ev_c (ev_I f5.1 (er_len (er_toQ (er_var (i := 5) rfl re5)) fun a vs H1 Q h q => len_rd h q))) (congrArg V.int ?_))) (by omega)) (by rw [List.length_range]; omega) (fun _ => rfl) (fun x hx qs v6 H6 mq hpq oq xq rq => fun H7 e7 o7 Q7 q7 => q7 true H7 (Pt.ex (pot_ex hpq e7) (Ex.refl _))) fun x hx qs v6 H6 mq hpq oq xq rq => en_meth1 (R := rS) (f := outOf) (Ca := fun a => a ∈ s0.1.flatten) mq hpq (er_var (i := 1) rfl ((rS_ K).m xq r5)) (fun G fG => en_pick (K := K) (i := 0) mq fG.2 rfl (er_var (i := 5) rfl ((rL rS).m (xq.trans (fG.rm mq)) re5)) ?_ (by omega)) (by decide +kernel) fun a ha => ⟨ok, ha⟩).imp fun bs hs => ?_) ?_ fun Cc H6 H7 hC f6 ot7 f57 L7 => ?_
    · split <;> omega
    · have := List.mem_range.mp hx
      omega
    · exact hs.imp fun a b ⟨z, hz, e⟩ => by rw [e]; exact only_sok ok
    · intro bs hs
      have := hs.len
      rw [List.length_range] at this
      rw [List.length_append, List.length_append, List.length_append, List.length_singleton]
      show 4 + A.length + _ + _ ≤ _
      omega
    have hC1 : ∀ t ∈ Cc, Sok t := fun t ht => let ⟨_, _, h⟩ := hC.mem t ht; h
    have hC2 := hC.len
    rw [List.length_range] at hC2
    have f07 : Pt p H H7 := Pt.back (f05.trans f6) ot7 hl0 (pot_oth f6.2 ot7 npl)
    have ob := f57.1.pop
    have rf := L7.rep nl
    have re7 := (rL rS).m (f57.2.trans Rm_pop) re5
    have hout : ∀ t ∈ [invS s0, moreL s0], ∀ z ∈ s0.1.flatten, Sok t ∧ z ∈ t.1.flatten := fun t ht z hz => by
      rcases List.mem_cons.mp ht with rfl | ht
      · refine ⟨inv_ok ok, ?_⟩
        rw [inv_lv ok]
        exact (flat_rev).mem_iff.mpr hz
      · rw [List.mem_singleton.mp ht]
        refine ⟨(more_mk ok (by omega)).sok, ?_⟩
        show z ∈ ((s0.1 ++ [[]]).map srtS).flatten
        rw [flat_perm.mem_iff, List.flatten_append]
        exact List.mem_append_left _ hz
    obtain ⟨F, hF⟩ : ∃ F, F = (([invS s0, moreL s0, addS s0 (spare.take 2), d] ++ A) ++ (B ++ [overS s0 (mkS [["zz", "zy"]] [])])) ++ Cc := ⟨_, rfl⟩
    rw [← hF] at rf
    have hF2 : F.length ≤ 33 := by
      rw [hF, List.length_append, List.length_append, List.length_append, List.length_append, List.length_singleton]
      show 4 + A.length + _ + _ ≤ _
      omega
    have hF1 : ∀ t ∈ F, Sok t := fun t ht => by
      rw [hF, List.mem_append, List.mem_append, List.mem_append, List.mem_append] at ht
      rcases ht with ((ht | ht) | (ht | ht)) | ht
      · rcases List.mem_cons.mp ht with rfl | ht
        · exact inv_ok ok
        · rcases List.mem_cons.mp ht with rfl | ht
          · exact (more_mk ok (by omega)).sok
          · rcases List.mem_cons.mp ht with rfl | ht
            · exact hk.add.sok
            · rw [List.mem_singleton.mp ht]
              exact hd
      · exact hA1 t ht
      · exact hB1 t ht
      · rw [List.mem_singleton.mp ht]
        exact hk.mkz.sok
      · exact hC1 t ht
    have hF0 : F.take 2 = [invS s0, moreL s0] := by rw [hF]; rfl
    have ge2 : 2 ≤ F.length := by rw [hF, List.length_append, List.length_append, List.length_append]; show 2 ≤ 4 + A.length + _ + _; omega
    refine s_retR ob (er_cat (er_var (i := 6) rfl rf) (er_lc1F (R := rS_ K) (S := rS_ K) (xs := [invS s0, moreL s0]) (fun t => outOf t (s0.1.flatten.headD "")) (fun _ => !decide (s0.1.flatten = [])) (wk_list (er_is (er_sl (er_var (i := 6) rfl rf) eo_none (eo_some ev_c)) ?_)) (by show 2 ≤ 40000; decide) (fun _ => rfl) (fun t ht qs v8 H8 e8 o8 x8 r8 => et_test' (er_neD (dtL dtS) (by decide) (er_var (i := 5) rfl ((rL rS).m x8 re7)) (er_lst (R := rS) (as := []) eas_nil (Nat.zero_le _)) okev (fun z hz => nomatch hz))) fun t ht hne qs v8 H8 e8 o8 x8 r8 => er_meth1 (R := rS) (f := outOf) (er_var rfl r8) (er_ix (i := 0) (er_var (i := 5) rfl ((rL rS).m x8 re7)) (er_I ev_c) ?_) (by decide +kernel) ?_) ?_) fun u H8 e8 ru => q u _ H8 (f07.trans (Pt.ex f07.2 e8)) ru (fun t ht => ?_) ?_
    · show ((F.drop (HT.sIx F.length 0 none)).take (HT.sIx F.length F.length (some 2) - HT.sIx F.length 0 none)) = [invS s0, moreL s0]
      have e1 : HT.sIx F.length F.length (some 2) = min 2 F.length := HT.sIx_nat _ 2 _
      have e2 : HT.sIx F.length 0 none = 0 := rfl
      rw [e1, e2, List.drop_zero, Nat.sub_zero, Nat.min_eq_left ge2, hF0]
    · cases he : s0.1.flatten with
      | nil => rw [he] at hne; exact Bool.noConfusion hne
      | cons z zs => rfl
    · refine hout t ht _ ?_
      cases he : s0.1.flatten with
      | nil => rw [he] at hne; exact Bool.noConfusion hne
      | cons z zs => exact List.mem_cons_self ..
    · rw [List.length_map]
      have := List.length_filter_le (fun _ : Sht => !decide (s0.1.flatten = [])) [invS s0, moreL s0]
      have h2 : ([invS s0, moreL s0] : List Sht).length = 2 := rfl
      omega
    · rcases List.mem_append.mp ht with ht | ht
      · exact hF1 t ht
      · obtain ⟨t', ht', rfl⟩ := List.mem_map.mp ht
        have h1 := (List.mem_filter.mp ht').1
        rcases List.mem_cons.mp h1 with rfl | h1
        · exact only_sok (inv_ok ok)
        · rw [List.mem_singleton.mp h1]
          exact only_sok (more_mk ok (by omega)).sok
    · rw [List.length_append, List.length_map]
      have := List.length_filter_le (fun _ : Sht => !decide (s0.1.flatten = [])) [invS s0, moreL s0]
      have h2 : ([invS s0, moreL s0] : List Sht).length = 2 := rfl
      omega

  case len =>
    obtain ⟨ps, p, v, vr, vsp, s, rows, spare, rfl, _⟩ := h
    rfl
end
end K21
set_option Elab.async false
set_option linter.all false
set_option maxRecDepth 100000
set_option maxHeartbeats 4000000
namespace K21
open PySem PySem.Spec PyProof.Rows L2 Evl Gen RP
section
variable {P : Program} {w : World} {K : PySem.W.Frag} {mg : Str → Option Value} {base : Heap} {fd : Nat → FuncData}
theorem Fit.grow {ls ls' : List (List Str)} {e : Str × Str} (h : Fit ls e) (k : ∀ (i : Nat) (r : List Str), ls[i]? = some r → ∃ r', ls'[i]? = some r' ∧ ∀ z ∈ r, z ∈ r') : Fit ls' e := by
  obtain ⟨i, a, b, h1, h2, h3, h4⟩ := h
  obtain ⟨a', k1, k2⟩ := k i a h1
  obtain ⟨b', k3, k4⟩ := k (i + 1) b h2
  exact ⟨i, a', b', k1, k3, k2 _ h3, k4 _ h4⟩
theorem modify_flat {ls : List (List Str)} {z : Str} : ∀ {a : Nat}, a < ls.length → (ls.modify a (· ++ [z])).flatten.Perm (z :: ls.flatten) := by
  induction ls with
  | nil => intro a h; exact absurd h (Nat.not_lt_zero _)
  | cons l r ih =>
    intro a h
    cases a with
    | zero =>
      show ((l ++ [z]) ++ r.flatten).Perm _
      rw [List.append_assoc]
      exact List.perm_middle
    | succ a =>
      show (l ++ (r.modify a (· ++ [z])).flatten).Perm _
      exact ((List.Perm.append_left l (ih (Nat.lt_of_succ_lt_succ h))).trans List.perm_middle)
theorem modify_get {ls : List (List Str)} {a i : Nat} {z : Str} {r : List Str} (h : ls[i]? = some r) : (ls.modify a (· ++ [z]))[i]? = some (if a = i then r ++ [z] else r) := by
  rw [List.getElem?_modify, h]
  rfl
theorem lv_of {ls : List (List Str)} (h0 : ls ≠ []) (h1 : ∀ z ∈ ls.flatten, isN (.str z) = true) (h2 : ls.flatten.Nodup) (h3 : ls.flatten.length ≤ 60) : LvOk ls := ⟨h0, fun ws hw x hx => h1 x (List.mem_flatten.mpr ⟨ws, hw, hx⟩), h2, by rw [← many_flat]; exact h3⟩
theorem lv_names {ls : List (List Str)} (h : LvOk ls) : ∀ z ∈ ls.flatten, isN (.str z) = true := fun z hz => by
  obtain ⟨l, h1, h2⟩ := List.mem_flatten.mp hz
  exact h.names l h1 z h2
theorem put_of {s : Sht} {a : Nat} {z : Str} (ok : Sok s) (h20 : s.1.flatten.length ≤ 20) (hw : ∀ l ∈ s.1, l.length ≤ 4) (nz : z ∉ s.1.flatten) (nm : isN (.str z) = true) (ha : a < s.1.length) : PutOk s a z := by
  have hp := modify_flat (z := z) ha
  refine ⟨ok, ha, nz, nm, lv_of (fun y => ?_) (fun x hx => ?_) (hp.nodup_iff.mpr (List.nodup_cons.mpr ⟨nz, ok.lv.once⟩)) (by rw [hp.length_eq, List.length_cons]; omega), fun r hr => ?_, by rw [List.length_modify]; exact ok.h12, fun e he => Fit.grow (ok.fit e he) fun i r hr => ⟨_, modify_get hr, fun y hy => ?_⟩, ok.nd, ok.z⟩
  · have := congrArg List.length y
    rw [List.length_modify] at this
    have h0 : ([] : List (List Str)).length = 0 := rfl
    omega
  · rcases List.mem_cons.mp (hp.mem_iff.mp hx) with rfl | hx
    · exact nm
    · exact lv_names ok.lv x hx
  · obtain ⟨i, hi⟩ := List.mem_iff_getElem?.mp hr
    cases g : s.1[i]? with
    | none =>
      rw [List.getElem?_modify, g] at hi
      cases hi
    | some q =>
      rw [modify_get g] at hi
      have h5 := hw q (List.mem_of_getElem? g)
      rw [← Option.some.inj hi]
      split
      · rw [List.length_append, List.length_singleton]; omega
      · omega
  · split
    · exact List.mem_append_left _ hy
    · exact hy
theorem over_of {s t : Sht} (ok : Sok s) (ok2 : Sok t) (ht : t.2 = []) (hd : ∀ z ∈ s.1.flatten, z ∉ t.1.flatten) (hf : s.1.flatten.length + t.1.flatten.length ≤ 60) (hl : s.1.length + t.1.length ≤ 12) : Mk' (s.1 ++ t.1) (s.2 ++ t.2) where
  lv := lv_of (fun y => ok.lv.some (List.append_eq_nil_iff.mp y).1) (fun z hz => by
    rw [List.flatten_append] at hz
    exact (List.mem_append.mp hz).elim (lv_names ok.lv z) (lv_names ok2.lv z)) (by
    rw [List.flatten_append]
    exact List.nodup_append.mpr ⟨ok.lv.once, ok2.lv.once, fun a ha b hb e => hd a ha (e ▸ hb)⟩) (by rw [List.flatten_append, List.length_append]; exact hf)
  w18 := fun l hl => (List.mem_append.mp hl).elim (ok.w18 l) (ok2.w18 l)
  h12 := by rw [List.length_append]; exact hl
  fit := fun e he => by
    rw [ht, List.append_nil] at he
    exact Fit.grow (ok.fit e he) fun i r hr => ⟨r, by rw [List.getElem?_append_left (List.getElem?_eq_some_iff.mp hr).1]; exact hr, fun z hz => hz⟩
  nd := by rw [ht, List.append_nil]; exact ok.nd
  z := by rw [ht, List.append_nil]; exact ok.z
theorem zz_mk : Mk' [["zz", "zy"]] [] := ⟨lv_of (by simp) (by decide +kernel) (by decide +kernel) (by decide), by decide, by decide, (fun e h => nomatch h), List.nodup_nil, Nat.zero_le _⟩
theorem allL_len {rows : List (List Str)} (h5 : rows.length ≤ 5) (h4 : ∀ l ∈ rows, l.length ≤ 4) : (allL rows).length ≤ 64 := by
  have h1 : (allL rows).length ≤ _ := flat_len (l := rows.zip (rows.drop 1)) (c := 16) fun x hx => by
    have h := List.of_mem_zip hx
    have a1 := h4 _ h.1
    have a2 := h4 _ (List.mem_of_mem_drop h.2)
    have h2 : (rowL x).length ≤ x.1.length * 4 := flat_len (c := 4) fun lo _ => by unfold colL; rw [List.length_map]; exact a2
    omega
  have h2 : (rows.zip (rows.drop 1)).length ≤ 4 := by
    rw [List.length_zip, List.length_drop]
    omega
  omega
section
variable {rows : List (List Str)} {ties : List (Str × Str)}
theorem Drf.sub (d : Drf rows ties) : rows.flatten.Sublist N20 := by
  obtain ⟨a, h⟩ := d.nm
  rw [h]
  exact List.take_sublist _ _
theorem Drf.few (d : Drf rows ties) : rows.flatten.length ≤ 20 := d.sub.length_le
theorem Drf.mk' (d : Drf rows ties) : Mk' rows ties where
  lv := lv_of (fun y => by have := d.lo; rw [y] at this; exact absurd this (by decide)) (fun z hz => n20_nm z (d.sub.mem hz)) (n20_nd.sublist d.sub) (by have := d.few; omega)
  w18 := fun l hl => by have := d.w l hl; omega
  h12 := by have := d.hi; omega
  fit := fun e he => allL_fit (d.ties.mem he)
  nd := (allL_nd (n20_nd.sublist d.sub)).sublist d.ties
  z := by have h1 := d.ties.length_le; have h2 := allL_len d.hi d.w; omega
theorem Drf.z64 (d : Drf rows ties) : ties.length ≤ 64 := by have h1 := d.ties.length_le; have h2 := allL_len d.hi d.w; omega
theorem mk_flat {es : List (Str × Str)} : (mkS rows es).1.flatten.Perm rows.flatten := flat_perm
theorem Drf.add (d : Drf rows ties) {es : List (Str × Str)} (h : ∀ e ∈ es, e ∈ allL rows) (hz : es.length ≤ 2) : AddOk (mkS rows ties) es := ⟨d.mk'.sok, fun e he => (allL_fit (h e he)).srt, by
  have h1 := len_adds (l := (mkS rows ties).2) (es := es)
  have h2 : (mkS rows ties).2.length = ties.length := (srtT_perm ties).length_eq
  have := d.z64
  omega, by omega⟩
theorem Drf.others (d : Drf rows ties) {spare : List (Str × Str)} (h : ∀ e ∈ spare, e ∈ allL rows) : OthOk (mkS rows ties) rows spare := by
  have hl : (mkS rows ties).1.length = rows.length := List.length_map _
  have hf : (mkS rows ties).1.flatten.length ≤ 20 := by rw [mk_flat.length_eq]; exact d.few
  have hin : ∀ z ∈ (mkS rows ties).1.flatten, z ∈ N20 := fun z hz => d.sub.mem (mk_flat.mem_iff.mp hz)
  have hi := d.hi
  refine ⟨d.mk'.sok, hl, d.lo, d.hi, hf, d.add (fun e he => h e (List.mem_of_mem_take he)) (by rw [List.length_take]; omega), fun a ha => put_of d.mk'.sok hf (fun l hl => ?_) (fun hz => ?_) (by decide +kernel) (by omega), zz_mk, over_of d.mk'.sok zz_mk.sok (srtT_perm []).eq_nil (fun z hz hz2 => ?_) ?_ ?_⟩
  · obtain ⟨m, hm, rfl⟩ := List.mem_map.mp hl
    rw [(srtS_perm m).length_eq]
    exact d.w m hm
  · exact absurd (hin _ hz) (by decide +kernel)
  · have h1 := hin z hz
    have h2 := (mk_flat (rows := [["zz", "zy"]]) (es := [])).mem_iff.mp hz2
    have : ∀ y ∈ ([["zz", "zy"]] : List (List Str)).flatten, y ∉ N20 := by decide +kernel
    exact this z h2 h1
  · rw [(mk_flat (rows := [["zz", "zy"]]) (es := [])).length_eq]
    show _ + 2 ≤ 60
    omega
  · rw [hl]
    show _ + 1 ≤ 12
    omega
theorem Drf.pair (d : Drf rows ties) {e : Str × Str} (h : e ∈ duosOf rows) : PairOk (mkS rows ties) e := by
  obtain ⟨l, h1, h2, h3, h4⟩ := mem_duos.mp h
  exact ⟨srtS l, List.mem_map.mpr ⟨l, h1, rfl⟩, (srtS_perm l).mem_iff.mpr h2, (srtS_perm l).mem_iff.mpr h3, h4⟩
theorem Drf.tok (d : Drf rows ties) : ∀ e ∈ ties, okS e.1 ∧ okS e.2 := fun e he => by
  have hf := d.mk'.fit e he
  exact ⟨isN_strOk (lv_names d.mk'.lv _ hf.in1), isN_strOk (lv_names d.mk'.lv _ hf.in2)⟩
theorem PairOk.add {s : Sht} (ok : Sok s) {es : List (Str × Str)} {e : Str × Str} (h : PairOk s e) : PairOk (addS s es) e := let ⟨l, h1, h2⟩ := h; ⟨l, by rw [add_lv ok]; exact h1, h2⟩
theorem add_moves {es : List (Str × Str)} {e : Str × Str} (hn : es.Nodup) (he : e ∉ es) (d : Str × Str) : movesOf (addS (mkS rows es) [e]).2 d = movesOf (es ++ [e]) d := by
  refine moves_perm ((srtT_perm _).trans ?_) d
  have hnd : (srtT es ++ [e]).Nodup := List.nodup_append.mpr ⟨(srtT_perm es).nodup_iff.mpr hn, List.nodup_cons.mpr ⟨fun h => (nomatch h), List.nodup_nil⟩, fun a ha b hb z => he ((srtT_perm es).mem_iff.mp (by rw [← List.mem_singleton.mp hb, ← z]; exact ha))⟩
  show (adds (srtT es) [e]).Perm _
  rw [adds_new hnd]
  exact (srtT_perm es).append_right [e]
end
end
end K21
set_option Elab.async false
set_option linter.all false
set_option maxRecDepth 100000
set_option maxHeartbeats 4000000
namespace K21
open PySem PySem.Spec PyProof.Rows L2 Evl Gen RP
section
variable {P : Program} {w : World} {K : PySem.W.Frag} {mg : Str → Option Value} {base : Heap} {fd : Nat → FuncData}
def spRight : Sp := fun vs H Q _ => ∃ p, vs = [.ref p] ∧ Pot H p ∧ ∀ H', Pt p H H' → Q (.bl true) H'
section
variable {α β γ : Type} {R : Rp α} {ps : List Addr} {p : Addr} {σ : L2.St} {H : Hp} {ta tb tc td te tx : TE} {t tt : TT} {g : TG} {vs : List Nat}
theorem er_duo {rows : List (List Str)} {es duos : List (Str × Str)} {d : Str × Str} {E : XK} (h : EvR (rS_ K) ps ta σ H (mkS rows es)) (h2 : EvR (rL rE) ps tb σ H es) (h3 : EvR (rL rE) ps tc σ H duos) (h4 : EvR rE ps td σ H d) (mk : Mk' rows es) (pall : ∀ e ∈ duos, PairOk (mkS rows es) e) (pk : PairOk (mkS rows es) d) (hl : duos.length ≤ 3888) : EvR rB ps (tCallG (spDuo K) E (tCons ta (tCons tb (tCons tc (tCons td tNil))))) σ H true := fun H1 e o Q q => h H1 e o _ fun v H2 e2 r => h2 H2 (e.trans e2) (o.ex e2) _ fun w H3 e3 r2 => h3 H3 ((e.trans e2).trans e3) (o.ex (e2.trans e3)) _ fun u H4 e4 r3 => h4 H4 (((e.trans e2).trans e3).trans e4) (o.ex ((e2.trans e3).trans e4)) _ fun x H5 e5 r4 => ⟨ps, v, w, u, x, rows, es, duos, d, rfl, o.ex (((e2.trans e3).trans e4).trans e5), (rS_ K).m (Rm_mono ((e3.trans e4).trans e5)) r, (rL rE).m (Rm_mono (e4.trans e5)) r2, (rL rE).m (Rm_mono e5) r3, r4, mk, pall, pk, hl, fun H6 e6 => q _ H6 ((((e2.trans e3).trans e4).trans e5).trans e6) rfl⟩
theorem en_ifB {b : Bool} {C : α → Prop} (hp : Pot H p) (h : EtR ps t σ H b) (h1 : b = true → ∀ G, Pt p H G → EvN C R ps p ta σ G) (h2 : b = false → ∀ G, Pt p H G → EvN C R ps p tb σ G) : EvN C R ps p (tIf t ta tb) σ H := fun H1 e o Q q => h H1 e o _ fun H2 e2 => by
  cases b with
  | true =>
    show ta σ H2 Q
    exact h1 rfl H2 (Pt.ex hp (e.trans e2)) H2 (Ex.refl _) (o.ex e2) Q fun a v H3 f c r => q a v H3 ((Pt.ex (pot_ex hp e) e2).trans f) c r
  | false =>
    show tb σ H2 Q
    exact h2 rfl H2 (Pt.ex hp (e.trans e2)) H2 (Ex.refl _) (o.ex e2) Q fun a v H3 f c r => q a v H3 ((Pt.ex (pot_ex hp e) e2).trans f) c r
theorem en_allN {C : α → Prop} (hp : Pot H p) (h : EvN C R ps p te σ H) (k : ∀ a v G, Pt p H G → C a → R.p a v (Rm ps G) → EvR rB ps (tCB (rAll K) (tCons (tLc (iList K (tC v)) g tt tx vs) tNil)) σ G true) : EvN (fun z => z = true) rB ps p (tCB (rAll K) (tCons (tLc (iList K te) g tt tx vs) tNil)) σ H := fun H1 e o Q q => h H1 e o _ fun a v H2 f c r => k a v H2 ((Pt.ex hp e).trans f) c r H2 (Ex.refl _) (f.own o) Q fun z H3 e3 r3 => q true z H3 (f.trans (Pt.ex f.2 e3)) rfl r3
theorem en_others {i1 i2 i3 : Nat} {v vr vsp : V} {s : Sht} {rows : List (List Str)} {spare : List (Str × Str)} {E : XK} (mp : p ∈ ps) (hp : Pot H p) (g0 : σ[0]? = some (some (.ref p))) (g1 : σ[i1]? = some (some v)) (g2 : σ[i2]? = some (some vr)) (g3 : σ[i3]? = some (some vsp)) (r : (rS_ K).p s v (Rm ps H)) (rr : (rL (rL rS)).p rows vr (Rm ps H)) (rsp : (rL rE).p spare vsp (Rm ps H)) (ok : OthOk s rows spare) : EvN (fun ss => (∀ t ∈ ss, Sok t) ∧ ss.length ≤ 60) (rL (rS_ K)) ps p (tCall (spOthers K) [] E (tCons (tVar 0) (tCons (tVar i1) (tCons (tVar i2) (tCons (tVar i3) tNil))))) σ H := fun H1 e o Q q =>
  ⟨_, g0, _, g1, _, g2, _, g3, ps, p, v, vr, vsp, s, rows, spare, rfl, mp, o, pot_ex hp e, (rS_ K).m (Rm_mono e) r, (rL (rL rS)).m (Rm_mono e) rr, (rL rE).m (Rm_mono e) rsp, ok, fun u ss H2 f2 ru h1 h2 => q ss u H2 f2 ⟨h1, h2⟩ ru⟩
end
theorem sc_law_right : FnScope ["_law_pot_here", "_law_rows", "_law_ties", "_law_made_here", "_law_like", "_law_duos_here", "_law_duo", "_law_spare", "_law_lows", "_law_highs", "_law_low", "_law_high", "_law_tie", "_law_more", "_law_near"] ["_law_pot_here"] (defScope (topS 60)) := ⟨rfl, rfl, rfl, by decide +kernel, rfl, by decide +kernel, by decide +kernel⟩
theorem ok_law_right (T : Tx K mg fd) : FnOkG P w K mg base CX0 11 (He.ga K "_law_right") (fd 32) ["_law_pot_here"] spRight := by
  refine (T.df 32 60 "_law_right" rfl).okG sc_law_right (fun vs H Q E h => ?len) (fun cdv A outer s H vs Q E hG hr h => ?body)
  case body =>
    refine ⟨_, (pss_cons (ps_asg (pe_call (ok_law_draft T) (hr.mono (by decide)) (by rfl) (T.gl 24 "_law_draft" rfl) (T.df 22 50 "_law_draft" rfl).kp ((T.df 22 50 "_law_draft" rfl).binds (ps := ["_law_pot_here", "_law_most", "_law_wide"]) fun _ _ _ _ _ _ us hl => match us, hl with | [_, _, _], _ => rfl) .nil pass0 (pa_cons (pv 0) (pa_cons pe_int (pa_cons pe_int pa_nil)))) (pg_tup rfl (pgs_cons (pg_name (i := 1) sc_law_right.nd rfl (Or.inl rfl)) (pgs_cons (pg_name (i := 2) sc_law_right.nd rfl (Or.inr rfl)) pgs_nil)))) (pss_cons (ps_asg (pe_tup (pa_cons (pe_call (ok_law_made T) (hr.mono (by decide)) (by rfl) (T.gl 25 "_law_made" rfl) (T.df 23 51 "_law_made" rfl).kp ((T.df 23 51 "_law_made" rfl).binds (ps := ["_law_draft_here"]) fun _ _ _ _ _ _ us hl => match us, hl with | [_], _ => rfl) .nil pass0 (pa_cons (pe_tup (pa_cons (pv 1) (pa_cons (pv 2) pa_nil))) pa_nil)) (pa_cons (pe_call (ok_law_made T) (hr.mono (by decide)) (by rfl) (T.gl 25 "_law_made" rfl) (T.df 23 51 "_law_made" rfl).kp ((T.df 23 51 "_law_made" rfl).binds (ps := ["_law_draft_here"]) fun _ _ _ _ _ _ us hl => match us, hl with | [_], _ => rfl) .nil pass0 (pa_cons (pe_tup (pa_cons (pv 1) (pa_cons (pv 2) pa_nil))) pa_nil)) pa_nil))) (pg_tup rfl (pgs_cons (pg_name (i := 3) sc_law_right.nd rfl (Or.inr rfl)) (pgs_cons (pg_name (i := 4) sc_law_right.nd rfl (Or.inl rfl)) pgs_nil)))) (pss_cons (ps_set (i := 5) sc_law_right.nd rfl (Or.inr rfl) (pe_call (ok_law_duos T) (hr.mono (by decide)) (by rfl) (T.gl 26 "_law_duos" rfl) (T.df 24 52 "_law_duos" rfl).kp ((T.df 24 52 "_law_duos" rfl).binds (ps := ["_law_rows"]) fun _ _ _ _ _ _ us hl => match us, hl with | [_], _ => rfl) .nil pass0 (pa_cons (pv 1) pa_nil))) (pss_cons (ps_if (PW.pt (pw_or (pt_not (pt_val (pe_callB (cr_all rfl) (by rfl) (T.fr 48 "all" rfl) (by decide +kernel) (pa_cons (pe_lc (own := [("_law_duo", 6)]) (g := gName 6) rfl sc_law_right.nd (pi_list (pv 5)) (blkOk_by (N := ["_law_pot_here", "_law_rows", "_law_ties", "_law_made_here", "_law_like", "_law_duos_here", "_law_duo", "_law_spare", "_law_lows", "_law_highs", "_law_low", "_law_high", "_law_tie", "_law_more", "_law_near"]) (sc := (defScope (topS 60))) (own := [("_law_duo", 6)]) (by decide +kernel)) (fun _ _ _ _ _ => (pg_name (i := 6) sc_law_right.nd rfl (Or.inl rfl))) (fun _ _ _ _ _ => pts_nil) (fun _ _ _ _ _ => (pe_callG (ok_law_duo_right T) hG (hr.mono (by decide)) (by rfl) (T.gl 31 "_law_duo_right" rfl) (T.df 29 57 "_law_duo_right" rfl).kp ((T.df 29 57 "_law_duo_right" rfl).binds (ps := ["_law_made_here", "_law_ties", "_law_duos_here", "_law_duo"]) fun _ _ _ _ _ _ us hl => match us, hl with | [_, _, _, _], _ => rfl) pass0 (pa_cons (pv 3) (pa_cons (pv 2) (pa_cons (pv 5) (pa_cons (pv 6) pa_nil))))))) pa_nil)))) (pw_or1 (pt_cmpR (op_ownNe (ok_sh_eq T) (hr.mono (by decide)) (T.meth 78 "__eq__" rfl) T.nef T.subO ((T.dm 58 18 "__eq__" "Sheet.__eq__" rfl).binds (ps := ["self", "other"]) fun _ _ _ _ _ _ us hl => match us, hl with | [_, _], _ => rfl) pass0) (pv 3) (pv 4) (nomark _))))) (pss_one (ps_ret pe_bl)) pss_nil) (pss_cons (ps_set (i := 7) sc_law_right.nd rfl (Or.inl rfl) (pe_lst pa_nil)) (pss_cons (ps_for PassesOwn.never rfl (pi_zip (by rfl) (T.fr 57 "zip" rfl) (pa_cons (pv 1) (pa_cons (pe_slice sl_list (pv 1) (po_some pe_int) po_none) pa_nil))) (pg_tup rfl (pgs_cons (pg_name (i := 8) sc_law_right.nd rfl (Or.inl rfl)) (pgs_cons (pg_name (i := 9) sc_law_right.nd rfl (Or.inl rfl)) pgs_nil))) (pss_one (ps_for PassesOwn.never rfl (pi_list (pv 8)) (pg_name (i := 10) sc_law_right.nd rfl (Or.inr rfl)) (pss_one (ps_expr (pe_bm PySem.F.plainAttrs_list PySem.F.slot_list_extend PySem.F.type_list_extend mt_extend (pv 7) (pa_cons (pe_lc (own := [("_law_high", 11)]) (g := gName 11) rfl sc_law_right.nd (pi_list (pv 9)) (blkOk_by (N := ["_law_pot_here", "_law_rows", "_law_ties", "_law_made_here", "_law_like", "_law_duos_here", "_law_duo", "_law_spare", "_law_lows", "_law_highs", "_law_low", "_law_high", "_law_tie", "_law_more", "_law_near"]) (sc := (defScope (topS 60))) (own := [("_law_high", 11)]) (by decide +kernel)) (fun _ _ _ _ _ => (pg_name (i := 11) sc_law_right.nd rfl (Or.inl rfl))) (fun _ _ _ _ _ => (pts_one (pt_cmpR (notInDK (K := K) rfl (u65 hr)) (pe_tup (pa_cons (pv 10) (pa_cons (pv 11) pa_nil))) (pv 2) rfl))) (fun _ _ _ _ _ => (pe_tup (pa_cons (pv 10) (pa_cons (pv 11) pa_nil))))) pa_nil))))))) (pss_cons (ps_for PassesOwn.never rfl (pi_list (pe_ifExp (pt_cmpR (op_neD hr.units) (pv 7) (pe_lst pa_nil) (nomark _)) (pe_lst (pa_cons (pe_call (ok_law_pick T) (hr.mono (by decide)) (by rfl) (T.gl 23 "_law_pick" rfl) (T.df 21 49 "_law_pick" rfl).kp ((T.df 21 49 "_law_pick" rfl).binds (ps := ["_law_pot_here", "_law_some"]) fun _ _ _ _ _ _ us hl => match us, hl with | [_, _], _ => rfl) .nil pass0 (pa_cons (pv 0) (pa_cons (pv 7) pa_nil))) pa_nil)) (pe_lst pa_nil))) (pg_name (i := 12) sc_law_right.nd rfl (Or.inr rfl)) (pss_cons (ps_set (i := 13) sc_law_right.nd rfl (Or.inr rfl) (pe_op (op_ownTup (ok_sh_add T) (hr.mono (by decide)) (T.op2 .Add (by decide) (T.meth 80 "__add__" rfl)) ((T.dm 60 20 "__add__" "Sheet.__add__" rfl).binds (ps := ["self", "other"]) fun _ _ _ _ _ _ us hl => match us, hl with | [_, _], _ => rfl) .nil pass0) (pv 3) (pv 12))) (pss_one (ps_if (pt_cmpR (op_neD hr.units) (pe_lc (own := [("_law_duo", 6)]) (g := gName 6) rfl sc_law_right.nd (pi_list (pv 5)) (blkOk_by (N := ["_law_pot_here", "_law_rows", "_law_ties", "_law_made_here", "_law_like", "_law_duos_here", "_law_duo", "_law_spare", "_law_lows", "_law_highs", "_law_low", "_law_high", "_law_tie", "_law_more", "_law_near"]) (sc := (defScope (topS 60))) (own := [("_law_duo", 6)]) (by decide +kernel)) (fun _ _ _ _ _ => (pg_name (i := 6) sc_law_right.nd rfl (Or.inl rfl))) (fun _ _ _ _ _ => pts_nil) (fun _ _ _ _ _ => (pe_call (ok_steps T) (hr.mono (by decide)) (by rfl) (T.gl 19 "steps" rfl) (T.df 17 44 "steps" rfl).kp ((T.df 17 44 "steps" rfl).binds (ps := ["sheet", "pair"]) fun _ _ _ _ _ _ us hl => match us, hl with | [_, _], _ => rfl) .nil pass0 (pa_cons (pv 13) (pa_cons (pv 6) pa_nil))))) (pe_lc (own := [("_law_duo", 6)]) (g := gName 6) rfl sc_law_right.nd (pi_list (pv 5)) (blkOk_by (N := ["_law_pot_here", "_law_rows", "_law_ties", "_law_made_here", "_law_like", "_law_duos_here", "_law_duo", "_law_spare", "_law_lows", "_law_highs", "_law_low", "_law_high", "_law_tie", "_law_more", "_law_near"]) (sc := (defScope (topS 60))) (own := [("_law_duo", 6)]) (by decide +kernel)) (fun _ _ _ _ _ => (pg_name (i := 6) sc_law_right.nd rfl (Or.inl rfl))) (fun _ _ _ _ _ => pts_nil) (fun _ _ _ _ _ => (pe_call (ok_law_moves T) (hr.mono (by decide)) (by rfl) (T.gl 28 "_law_moves" rfl) (T.df 26 54 "_law_moves" rfl).kp ((T.df 26 54 "_law_moves" rfl).binds (ps := ["_law_ties", "_law_duo"]) fun _ _ _ _ _ _ us hl => match us, hl with | [_, _], _ => rfl) .nil pass0 (pa_cons (pe_op op_cat (pv 2) (pe_lst (pa_cons (pv 12) pa_nil))) (pa_cons (pv 6) pa_nil))))) (nomark _)) (pss_one (ps_ret pe_bl)) pss_nil)))) (pss_cons (ps_if (pt_not (pt_val (pe_callB (cr_all rfl) (by rfl) (T.fr 48 "all" rfl) (by decide +kernel) (pa_cons (pe_lc (own := [("_law_near", 14)]) (g := gName 14) rfl sc_law_right.nd (pi_list (pe_call (ok_law_others T) (hr.mono (by decide)) (by rfl) (T.gl 32 "_law_others" rfl) (T.df 30 58 "_law_others" rfl).kp ((T.df 30 58 "_law_others" rfl).binds (ps := ["_law_pot_here", "_law_made_here", "_law_rows", "_law_spare"]) fun _ _ _ _ _ _ us hl => match us, hl with | [_, _, _, _], _ => rfl) .nil pass0 (pa_cons (pv 0) (pa_cons (pv 3) (pa_cons (pv 1) (pa_cons (pv 7) pa_nil)))))) (blkOk_by (N := ["_law_pot_here", "_law_rows", "_law_ties", "_law_made_here", "_law_like", "_law_duos_here", "_law_duo", "_law_spare", "_law_lows", "_law_highs", "_law_low", "_law_high", "_law_tie", "_law_more", "_law_near"]) (sc := (defScope (topS 60))) (own := [("_law_near", 14)]) (by decide +kernel)) (fun _ _ _ _ _ => (pg_name (i := 14) sc_law_right.nd rfl (Or.inl rfl))) (fun _ _ _ _ _ => pts_nil) (fun _ _ _ _ _ => (pe_call (ok_law_plain_right T) (hr.mono (by decide)) (by rfl) (T.gl 33 "_law_plain_right" rfl) (T.df 31 59 "_law_plain_right" rfl).kp ((T.df 31 59 "_law_plain_right" rfl).binds (ps := ["_law_near"]) fun _ _ _ _ _ _ us hl => match us, hl with | [_], _ => rfl) .nil pass0 (pa_cons (pv 14) pa_nil)))) pa_nil)))) (pss_one (ps_ret pe_bl)) pss_nil) (pss_one (ps_ret (pe_cmpR (op_eqD hr.units) (pe_lc (own := [("_law_duo", 6)]) (g := gName 6) rfl sc_law_right.nd (pi_list (pv 5)) (blkOk_by (N := ["_law_pot_here", "_law_rows", "_law_ties", "_law_made_here", "_law_like", "_law_duos_here", "_law_duo", "_law_spare", "_law_lows", "_law_highs", "_law_low", "_law_high", "_law_tie", "_law_more", "_law_near"]) (sc := (defScope (topS 60))) (own := [("_law_duo", 6)]) (by decide +kernel)) (fun _ _ _ _ _ => (pg_name (i := 6) sc_law_right.nd rfl (Or.inl rfl))) (fun _ _ _ _ _ => pts_nil) (fun _ _ _ _ _ => (pe_call (ok_steps T) (hr.mono (by decide)) (by rfl) (T.gl 19 "steps" rfl) (T.df 17 44 "steps" rfl).kp ((T.df 17 44 "steps" rfl).binds (ps := ["sheet", "pair"]) fun _ _ _ _ _ _ us hl => match us, hl with | [_, _], _ => rfl) .nil pass0 (pa_cons (pv 3) (pa_cons (pv 6) pa_nil))))) (pe_lc (own := [("_law_duo", 6)]) (g := gName 6) rfl sc_law_right.nd (pi_list (pv 5)) (blkOk_by (N := ["_law_pot_here", "_law_rows", "_law_ties", "_law_made_here", "_law_like", "_law_duos_here", "_law_duo", "_law_spare", "_law_lows", "_law_highs", "_law_low", "_law_high", "_law_tie", "_law_more", "_law_near"]) (sc := (defScope (topS 60))) (own := [("_law_duo", 6)]) (by decide +kernel)) (fun _ _ _ _ _ => (pg_name (i := 6) sc_law_right.nd rfl (Or.inl rfl))) (fun _ _ _ _ _ => pts_nil) (fun _ _ _ _ _ => (pe_call (ok_law_moves T) (hr.mono (by decide)) (by rfl) (T.gl 28 "_law_moves" rfl) (T.df 26 54 "_law_moves" rfl).kp ((T.df 26 54 "_law_moves" rfl).binds (ps := ["_law_ties", "_law_duo"]) fun _ _ _ _ _ _ us hl => match us, hl with | [_, _], _ => rfl) .nil pass0 (pa_cons (pv 2) (pa_cons (pv 6) pa_nil))))) (nomark _)))))))))))), ?_⟩
    obtain ⟨p, rfl, hp, q⟩ := h
    have o : Own [p] H := fun b hb => by
      rw [List.mem_singleton.mp hb]
      obtain ⟨x', y', a1, a2⟩ := hp
      exact ⟨_, a1, fun xs z => by cases z⟩
    have mp : p ∈ [p] := List.mem_singleton.mpr rfl
    obtain ⟨ps, hps⟩ : ∃ ps, ps = [p] := ⟨_, rfl⟩
    rw [← hps] at o mp
    refine ⟨_, rfl, ps, p, rfl, mp, o, hp, fun v0 rows ties H1 f1 rp drf => ?_⟩
    obtain ⟨t0, y, z, rfl, ht0, ry, rz⟩ := rp
    have ry : (rL (rL rS)).p rows y (Rm ps H1) := ry
    have rz : (rL rE).p ties z (Rm ps H1) := rz
    refine ⟨t0, _, rfl, st_of (Rm_ex _ _ ht0), rfl, _, _, rfl, _, _, rfl, rfl, ?_⟩
    have o1 := f1.own o
    have mk := drf.mk'
    have ok := mk.sok
    have hlo := drf.lo
    have hhi := drf.hi
    have hrw := drf.w
    have tok := drf.tok
    have z64 := drf.z64
    have h18 : ∀ l ∈ rows, l.length ≤ 18 := mk.w18
    have hdl := duos_len (rows := rows) (by omega) h18
    have hdp : ∀ e ∈ duosOf rows, PairOk (mkS rows ties) e := fun e he => drf.pair he
    refine q_par2R o1 (er_call1 (f := fun x : List (List Str) × List (Str × Str) => mkS x.1 x.2) (R := rPlan) (a := (rows, ties)) (er_tup (er_var (i := 1) rfl ry) (er_var (i := 2) rfl rz)) mk) (er_call1 (f := fun x : List (List Str) × List (Str × Str) => mkS x.1 x.2) (R := rPlan) (a := (rows, ties)) (er_tup (er_var (i := 1) rfl ry) (er_var (i := 2) rfl rz)) mk) fun vm vl H2 e2 rm rl => ?_
    have o2 := o1.ex e2
    have ry2 := (rL (rL rS)).m (Rm_mono e2) ry
    refine q_asgR' o2 (er_call1 (f := duosOf) (er_var (i := 1) rfl ry2) ⟨by omega, h18⟩) fun vd H3 e3 rd => ?_
    have e13 := e2.trans e3
    have o3 := o1.ex e13
    have f3 : Pt p H H3 := f1.trans (Pt.ex f1.2 e13)
    have ry := (rL (rL rS)).m (Rm_mono e13) ry
    have rz := (rL rE).m (Rm_mono e13) rz
    have rm := (rS_ K).m (Rm_mono e3) rm
    have rl := (rS_ K).m (Rm_mono e3) rl
    refine q_whenR o3 (b := false) (et_is' (et_or' (x := false) (y := false) (et_not' (x := true) (et_B' (er_is (er_all (er_lc1 (R := rE) (S := rB) (fun _ => true) (wk_list (er_var (i := 5) rfl rd)) (by omega) (fun _ => rfl) fun e he qs v4 H4 e4 o4 x4 r4 => er_duo (er_var (i := 3) rfl ((rS_ K).m x4 rm)) (er_var (i := 2) rfl ((rL rE).m x4 rz)) (er_var (i := 5) rfl ((rL rE).m x4 rd)) (er_var (i := 6) rfl r4) mk hdp (hdp e he) hdl)) (by rw [List.all_map]; exact List.all_eq_true.mpr fun _ _ => rfl)))) fun _ => et_test' (er_is (er_eqO (neg := true) (er_var (i := 3) rfl rm) (er_var (i := 4) rfl rl) ok ok) (by show (!decide (mkS rows ties = mkS rows ties)) = false; rw [decide_eq_true rfl]; rfl))) rfl) (fun z => nomatch z) fun _ H4 e4 => ?_
    have o4 := o3.ex e4
    have f4 : Pt p H H4 := f3.trans (Pt.ex f3.2 e4)
    have ry := (rL (rL rS)).m (Rm_mono e4) ry
    have rz := (rL rE).m (Rm_mono e4) rz
    have rm := (rS_ K).m (Rm_mono e4) rm
    have rd := (rL rE).m (Rm_mono e4) rd
    -- pairs that are no line
    refine q_new (R := rE) o4 fun q2 H5 e5 nq2 hq2 o5 x5 l5 => ?_
    have ry5 := (rL (rL rS)).m x5 ry
    have rz5 := (rL rE).m x5 rz
    have lz : (rows.zip (rows.drop 1)).length ≤ 5 := by rw [List.length_zip]; omega
    have zrow : ∀ x ∈ rows.zip (rows.drop 1), x.1.length ≤ 4 ∧ x.2.length ≤ 4 := fun x hx => by
      have h := List.of_mem_zip hx
      exact ⟨hrw _ h.1, hrw _ (List.mem_of_mem_drop h.2)⟩
    have coll : ∀ (x : List Str × List Str) lo, (colL x lo).length = x.2.length := fun x lo => by unfold colL; rw [List.length_map]
    have rowl : ∀ x ∈ rows.zip (rows.drop 1), (rowL x).length ≤ 16 := fun x hx => by
      have h := zrow x hx
      have h2 : (rowL x).length ≤ x.1.length * 4 := flat_len (c := 4) fun lo _ => by rw [coll]; exact h.2
      omega
    have lena : ∀ i, (((rows.zip (rows.drop 1)).take i).flatMap rowL).length ≤ 80 := fun i => by
      have h1 : (((rows.zip (rows.drop 1)).take i).flatMap rowL).length ≤ _ := flat_len (c := 16) fun x hx => rowl x (List.mem_of_mem_take hx)
      have h2 : ((rows.zip (rows.drop 1)).take i).length ≤ 5 := by rw [List.length_take]; omega
      omega
    have rnm : ∀ z ∈ rows.flatten, okS z := fun z hz => isN_strOk (lv_names mk.lv z hz)
    refine q_forW (xs := rows.zip (rows.drop 1)) o5 (wk_zip (er_var (i := 1) rfl ry5) (er_is (er_sl (er_var (i := 1) rfl ry5) (eo_some ev_c) eo_none) ?_)) (fun i σ' H' => (∃ o6 o8 o9 o10 o11, σ' = [some (.ref p), some y, some z, some vm, some vl, some vd, o6, some (.ref q2), o8, o9, o10, o11, none, none, none]) ∧ Ex H4 H' ∧ ∃ ts, Ls rE (q2 :: ps) H' q2 ts ∧ ts.Sublist (((rows.zip (rows.drop 1)).take i).flatMap rowL) ∧ ∀ e ∈ ts, e ∉ ties)
      (fun H6 e6 => ⟨⟨_, _, _, _, _, rfl⟩, e5.trans e6, [], l5.ex e6, List.nil_sublist _, fun e h => nomatch h⟩) (fun _ _ _ _ e pv => let ⟨h1, h2, ts, h3, h4⟩ := pv; ⟨h1, h2.trans e, ts, h3.ex e, h4⟩) (fun H6 e6 i x u σ' H7 hx f7 f57 pv ru => ?_) fun σ' H6 f6 pv => ?_
    · show ((rows.drop (HT.sIx rows.length 0 (some 1))).take (HT.sIx rows.length rows.length none - HT.sIx rows.length 0 (some 1))) = rows.drop 1
      have e1 : HT.sIx rows.length 0 (some 1) = min 1 rows.length := HT.sIx_nat _ 1 _
      have e2 : HT.sIx rows.length rows.length none = rows.length := rfl
      rw [e1, e2, Nat.min_eq_left hlo, List.take_of_length_le (by rw [List.length_drop]; omega)]
    · obtain ⟨⟨o6, o8, o9, o10, o11, rfl⟩, e7, ts, l7, hts, hnt⟩ := pv
      obtain ⟨a, y2, z2, rfl, ha, ry2, rz2⟩ := ru
      have hxm := List.mem_of_getElem? hx
      have hw := zrow x hxm
      have hxz := List.of_mem_zip hxm
      refine ⟨a, _, rfl, st_of (Rm_ex _ _ ha), rfl, _, _, rfl, _, _, rfl, rfl, ?_⟩
      refine s_forW f57.1 (wk_list (er_var (i := 8) rfl ry2)) (fun j σ' H' => (∃ o6 o10 o11, σ' = [some (.ref p), some y, some z, some vm, some vl, some vd, o6, some (.ref q2), some y2, some z2, o10, o11, none, none, none]) ∧ Ex H4 H' ∧ ∃ ts, Ls rE (q2 :: ps) H' q2 ts ∧ ts.Sublist (((rows.zip (rows.drop 1)).take i).flatMap rowL ++ (x.1.take j).flatMap (colL x)) ∧ ∀ e ∈ ts, e ∉ ties)
        (fun H8 e8 => ⟨⟨_, _, _, rfl⟩, e7.trans e8, ts, l7.ex e8, by rw [List.take_zero, List.flatMap_nil, List.append_nil]; exact hts, hnt⟩) (fun _ _ _ _ e pv => let ⟨h1, h2, ts, h3, h4⟩ := pv; ⟨h1, h2.trans e, ts, h3.ex e, h4⟩) (fun H8 e8 j lo u σ' H9 hlo f9 f79 pv ru => ?_) fun σ' H8 f8 pv => ?_
      · obtain ⟨⟨o6, o10, o11, rfl⟩, e9, ts, l9, hts, hnt⟩ := pv
        obtain rfl : u = .str lo := ru
        have rz9 := (rL rS).m f79.2 rz2
        have rt9 := (rL rE).m (f57.trans f79).2 rz5
        have hlm := List.mem_of_getElem? hlo
        have a1 := hts.length_le
        have a2 := lena i
        have a3 : ((x.1.take j).flatMap (colL x)).length ≤ 16 := by
          have h1 : ((x.1.take j).flatMap (colL x)).length ≤ _ := flat_len (c := 4) fun lo _ => by rw [coll]; exact hw.2
          have h2 : (x.1.take j).length ≤ 4 := by rw [List.length_take]; omega
          omega
        have a4 := List.length_filter_le (fun h => !decide ((lo, h) ∈ ties)) x.2
        rw [List.length_append] at a1
        refine s_extR f79.1 l9 (ev_var (i := 7) rfl) (er_lc1F (R := rS) (S := rE) (fun h => (lo, h)) (fun h => !decide ((lo, h) ∈ ties)) (wk_list (er_var (i := 9) rfl rz9)) (by omega) (fun _ => rfl) (fun h hh qs v6 H10 e10 o10 x10 r10 => et_is' (et_test' (er_notInD (dtP dtS dtS) (by decide) (er_tup (er_var (v := .str lo) (R := rS) (i := 10) rfl rfl) (er_var (i := 11) rfl r10)) (er_var (i := 2) rfl ((rL rE).m x10 rt9)) ⟨rnm _ (List.mem_flatten.mpr ⟨_, hxz.1, hlm⟩), rnm _ (List.mem_flatten.mpr ⟨_, List.mem_of_mem_drop hxz.2, hh⟩)⟩ tok)) (congrArg Bool.not (decide_eq_decide.mpr Iff.rfl))) fun h hh _ qs v6 H10 e10 o10 x10 r10 => er_tup (er_var (v := .str lo) (R := rS) rfl rfl) (er_var rfl r10)) (by rw [List.length_map]; omega) fun H10 f10 l10 ot10 => ?_
        refine ⟨f9.trans f10, ⟨_, _, _, rfl⟩, Oth.back e9 ot10 hq2, _, l10, ?_, fun e he => ?_⟩
        · rw [List.take_add_one, hlo, List.flatMap_append, ← List.append_assoc]
          refine List.Sublist.append hts ?_
          show (List.map (fun h => (lo, h)) _).Sublist ([lo].flatMap (colL x))
          rw [List.flatMap_cons, List.flatMap_nil, List.append_nil]
          exact List.Sublist.map _ List.filter_sublist
        · rcases List.mem_append.mp he with he | he
          · exact hnt e he
          · obtain ⟨h, hh, rfl⟩ := List.mem_map.mp he
            have := (List.mem_filter.mp hh).2
            intro hm
            rw [decide_eq_true hm] at this
            exact Bool.noConfusion this
      · obtain ⟨⟨o6, o10, o11, rfl⟩, e8, ts, l8, hts, hnt⟩ := pv
        rw [List.take_length] at hts
        refine ⟨f7.trans f8, ⟨_, _, _, _, _, rfl⟩, e8, ts, l8, ?_, hnt⟩
        rw [List.take_add_one, hx, List.flatMap_append]
        show ts.Sublist (_ ++ [x].flatMap rowL)
        rw [List.flatMap_cons, List.flatMap_nil, List.append_nil]
        exact hts
    obtain ⟨⟨o6, o8, o9, o10, o11, rfl⟩, e46, spare, l6, hsp, hnt⟩ := pv
    rw [List.take_length] at hsp
    have hsp : spare.Sublist (allL rows) := hsp
    have hsl : spare.length ≤ 64 := Nat.le_trans hsp.length_le (allL_len hhi hrw)
    have oth : OthOk (mkS rows ties) rows spare := drf.others fun e he => hsp.mem he
    have okall : ∀ e ∈ allL rows, okS e.1 ∧ okS e.2 := fun e he => ⟨rnm _ (allL_fit he).in1, rnm _ (allL_fit he).in2⟩
    have o6' := o4.ex e46
    have f6' : Pt p H H6 := f4.trans (Pt.ex f4.2 e46)
    have rsp := l6.rep nq2
    have ry := (rL (rL rS)).m (Rm_mono e46) ry
    have rz := (rL rE).m (Rm_mono e46) rz
    have rm := (rS_ K).m (Rm_mono e46) rm
    have rd := (rL rE).m (Rm_mono e46) rd
    -- one line more
    refine q_forN (ps := ps) (p := p) (R := rL rE) (C := fun w : List (Str × Str) => w.length ≤ 1 ∧ ∀ e ∈ w, e ∈ spare) o6' (en_ifB (b := !decide (spare = [])) f6'.2 (et_test' (er_neD (dtL (dtP dtS dtS)) (by decide) (er_var (i := 7) rfl rsp) (er_lst (R := rE) (as := []) eas_nil (Nat.zero_le _)) (fun e he => okall e (hsp.mem he)) ok_nil)) (fun hb G fG => (en_sing fG.2 mp (en_pick (K := K) (i := 0) mp fG.2 rfl (er_var (i := 7) rfl ((rL rE).m (fG.rm mp) rsp)) (List.length_pos_iff.mpr fun z => by rw [decide_eq_true z] at hb; exact Bool.noConfusion hb) (by omega))).imp ?_) fun hb G fG => (EvN.of fG.2 (er_lst (R := rE) (as := []) eas_nil (Nat.zero_le _))).imp ?_) fun w vw H7 f7 cw rw' => ?_
    · rintro w ⟨a, ha, rfl⟩
      exact ⟨Nat.le_refl _, fun e he => by rw [List.mem_singleton.mp he]; exact ha⟩
    · rintro w rfl
      exact ⟨Nat.zero_le _, fun e he => nomatch he⟩
    have o7 := f7.own o6'
    have ry7 := (rL (rL rS)).m (f7.rm mp) ry
    have rz7 := (rL rE).m (f7.rm mp) rz
    have rm7 := (rS_ K).m (f7.rm mp) rm
    have rd7 := (rL rE).m (f7.rm mp) rd
    have rsp7 := (rL rE).m (f7.rm mp) rsp
    have f07 := f6'.trans f7
    refine q_forW (xs := w) o7 (wk_list (er_of ev_c rw')) (fun _ σ' H' => (∃ o6 o12 o13, σ' = [some (.ref p), some y, some z, some vm, some vl, some vd, o6, some (.ref q2), o8, o9, o10, o11, o12, o13, none]) ∧ Pt p H H') (fun H8 e8 => ⟨⟨_, _, _, rfl⟩, f07.trans (Pt.ex f07.2 e8)⟩) (fun _ _ _ _ e pv => ⟨pv.1, pv.2.trans (Pt.ex pv.2.2 e)⟩) (fun H8 e8 i e u σ' H9 hx f9 f79 pv ru => ?_) fun σ' H8 f8 pv => ?_
    · obtain ⟨⟨o6, o12, o13, rfl⟩, f09⟩ := pv
      have hes := cw.2 e (List.mem_of_getElem? hx)
      have aok : AddOk (mkS rows ties) [e] := drf.add (fun x hx => by rw [List.mem_singleton.mp hx]; exact hsp.mem hes) (by show 1 ≤ 2; decide)
      have rz9 := (rL rE).m f79.2 rz7
      have rm9 := (rS_ K).m f79.2 rm7
      have rd9 := (rL rE).m f79.2 rd7
      have ru : rE.p e u (Rm ps H9) := ru
      refine q_asgR' f79.1 (er_ownTup (α := Unit) (β := Str × Str) (S := rE) (f := fun s _ => s) (C := fun _ _ => True) (g := fun s e => addS s [e]) (Cd := fun s e => AddOk s [e]) (er_var (i := 3) rfl rm9) (er_var (i := 12) rfl ru) aok) fun va H10 e10 ra => ?_
      have o10' := f79.1.ex e10
      have rz10 := (rL rE).m (Rm_mono e10) rz9
      have rd10 := (rL rE).m (Rm_mono e10) rd9
      have ru10 := rE.m (Rm_mono e10) ru
      have hm : (duosOf rows).map (movesOf (addS (mkS rows ties) [e]).2) = (duosOf rows).map (movesOf (ties ++ [e])) := List.map_congr_left fun d _ => add_moves mk.nd (hnt e hes) d
      have okB : ∀ m ∈ (duosOf rows).map (movesOf (ties ++ [e])), ∀ x ∈ m, okS x.1 ∧ okS x.2 := fun m h x h2 => by
        obtain ⟨d, _, rfl⟩ := List.mem_map.mp h
        exact moves_ok (fun y hy => (List.mem_append.mp hy).elim (tok y) fun hy => by rw [List.mem_singleton.mp hy]; exact okall e (hsp.mem hes)) x h2
      refine s_whenR o10' (b := false) (et_is' (et_test' (er_neD (dtL (dtL (dtP dtS dtS))) (by decide) (er_lc1 (R := rE) (S := rL rE) (movesOf (addS (mkS rows ties) [e]).2) (wk_list (er_var (i := 5) rfl rd10)) (by omega) (fun _ => rfl) fun d hd qs v11 H11 e11 o11 x11 r11 => er_steps (er_var (i := 13) rfl ((rS_ K).m x11 ra)) (er_var (i := 6) rfl r11) aok.sok (PairOk.add ok (hdp d hd))) (er_lc1 (R := rE) (S := rL rE) (movesOf (ties ++ [e])) (wk_list (er_var (i := 5) rfl rd10)) (by omega) (fun _ => rfl) fun d hd qs v11 H11 e11 o11 x11 r11 => er_movesC (er_cat (er_var (i := 2) rfl ((rL rE).m x11 rz10)) (er_lst (R := rE) (as := [e]) (eas_cons (er_var (i := 12) rfl (rE.m x11 ru10)) eas_nil) (by show 1 ≤ 100000; decide)) (by rw [List.length_singleton]; omega)) (er_var (i := 6) rfl r11) (by rw [List.length_append, List.length_singleton]; omega)) (by rw [hm]; exact okB) okB)) (by rw [hm, decide_eq_true rfl]; rfl)) (fun z => nomatch z) fun _ H11 e11 => ?_
      exact ⟨f9.ex (e10.trans e11), ⟨_, _, _, rfl⟩, f09.trans (Pt.ex f09.2 (e10.trans e11))⟩
    obtain ⟨⟨o6, o12, o13, rfl⟩, f08⟩ := pv
    have ry8 := (rL (rL rS)).m f8.2 ry7
    have rz8 := (rL rE).m f8.2 rz7
    have rm8 := (rS_ K).m f8.2 rm7
    have rd8 := (rL rE).m f8.2 rd7
    have rsp8 := (rL rE).m f8.2 rsp7
    -- others
    refine q_whenN (ps := ps) (p := p) (b := !true) f8.1 (etn_not (etn_B (en_allN f08.2 (en_others (i1 := 3) (i2 := 1) (i3 := 7) mp f08.2 rfl rfl rfl rfl rm8 ry8 rsp8 oth) fun ss vss G fG hss rss => er_is (er_all (er_lc1 (R := rS_ K) (S := rB) (fun _ => true) (wk_list (er_of ev_c rss)) (by omega) (fun _ => rfl) fun t ht qs v9 H9 e9 o9 x9 r9 => er_call1 (f := fun _ => true) (er_var (i := 14) rfl r9) (hss.1 t ht))) (by rw [List.all_map]; exact List.all_eq_true.mpr fun _ _ => rfl)))) (fun z => absurd z (by decide)) fun _ H9 f9 => ?_
    have f09 := f08.trans f9
    refine s_retR (f9.own f8.1) (er_both (ia := 3) (ib := 2) (il := 5) (j := 6) rfl rfl rfl ((rS_ K).m (f9.rm mp) rm8) ((rL rE).m (f9.rm mp) rz8) ((rL rE).m (f9.rm mp) rd8) ok (by omega) hdp hdl tok (fun d _ => moves_perm (srtT_perm ties) d) (fun _ => rfl) (fun _ => rfl) (fun _ => ⟨rfl, rfl⟩) (fun _ => ⟨rfl, rfl⟩)) fun u H10 e10 t => ?_
    obtain rfl : u = .bl true := t
    exact q H10 (f09.trans (Pt.ex f09.2 e10))

  case len =>
    obtain ⟨p, rfl, _⟩ := h
    rfl
end
end K21
set_option Elab.async false
set_option linter.all false
set_option maxRecDepth 100000
set_option maxHeartbeats 4000000
namespace K21
open PySem PySem.Spec PyProof.Rows L2 Evl Gen RP
section
variable {P : Program} {w : World} {K : PySem.W.Frag} {mg : Str → Option Value} {base : Heap} {fd : Nat → FuncData}
def spLaw (K : PySem.W.Frag) : Sp := fun vs H Q _ => ∃ (a : Addr) (ns : List Int), vs = [.ref a] ∧ SqL K H a (ns.map V.int) ∧ ns.length ≤ 63 ∧ ∀ H', Q (.bl true) H'
theorem sc_law : FnScope ["_law_script", "_law_k"] ["_law_script"] (defScope (topS 61)) := ⟨rfl, rfl, rfl, by decide +kernel, rfl, by decide +kernel, by decide +kernel⟩
theorem ok_law (T : Tx K mg fd) : FnOkG P w K mg base CX0 12 (He.ga K "law") (fd 33) ["_law_script"] (spLaw K) := by
  refine (T.df 33 61 "law" rfl).okG sc_law (fun vs H Q E h => ?len) (fun cdv A outer s H vs Q E hG hr h => ?body)
  case body =>
    refine ⟨_, (pss_one (ps_ret (pe_callB (cr_all rfl) (by rfl) (T.fr 48 "all" rfl) (by decide +kernel) (pa_cons (pe_lc (own := [("_law_k", 1)]) (g := gName 1) rfl sc_law.nd (pi_range1 (by rfl) (T.fr 50 "range" rfl) (pa_cons (pe_callB (call_max2 rfl) (by rfl) (T.fr 51 "max" rfl) (by decide +kernel) (pa_cons pe_int (pa_cons (pe_callB (call_min2 rfl) (by rfl) (T.fr 52 "min" rfl) (by decide +kernel) (pa_cons (pe_callB call_len (by rfl) (T.fr 47 "len" rfl) (by decide +kernel) (pa_cons (pv 0) pa_nil)) (pa_cons pe_int pa_nil))) pa_nil))) pa_nil)) (blkOk_by (N := ["_law_script", "_law_k"]) (sc := (defScope (topS 61))) (own := [("_law_k", 1)]) (by decide +kernel)) (fun _ _ _ _ _ => (pg_name (i := 1) sc_law.nd rfl (Or.inl rfl))) (fun _ _ _ _ _ => pts_nil) (fun _ _ _ _ _ => (pe_callG (ok_law_right T) hG (hr.mono (by decide)) (by rfl) (T.gl 34 "_law_right" rfl) (T.df 32 60 "_law_right" rfl).kp ((T.df 32 60 "_law_right" rfl).binds (ps := ["_law_pot_here"]) fun _ _ _ _ _ _ us hl => match us, hl with | [_], _ => rfl) pass0 (pa_cons (pe_call (ok_law_pot T) (hr.mono (by decide)) (by rfl) (T.gl 21 "_law_pot" rfl) (T.df 19 47 "_law_pot" rfl).kp ((T.df 19 47 "_law_pot" rfl).binds (ps := ["_law_script", "_law_k"]) fun _ _ _ _ _ _ us hl => match us, hl with | [_, _], _ => rfl) .nil pass0 (pa_cons (pv 0) (pa_cons (pv 1) pa_nil))) pa_nil)))) pa_nil)))), ?_⟩
    obtain ⟨a, ns, rfl, hS, hl, q⟩ := h
    have hn : ∃ n : Int, n = (if (if (6 : Int) < (ns.length : Int) then (6 : Int) else (ns.length : Int)) > 2 then (if (6 : Int) < (ns.length : Int) then (6 : Int) else (ns.length : Int)) else 2) ∧ 0 ≤ n ∧ n ≤ 6 := ⟨_, rfl, by split <;> (try split) <;> omega, by split <;> (try split) <;> omega⟩
    obtain ⟨n, en, n0, n3⟩ := hn
    refine s_ret (v := .bl true) ?_ fun H1 e1 => q H1
    refine ev_is (ev_all (bs := (List.range n.toNat).map fun _ => true) ?_) (by rw [List.all_map]; exact congrArg V.bl (List.all_eq_true.mpr fun _ _ => rfl))
    have e0 : given n.toNat (fun _ => true) (fun _ => V.bl true) = ((List.range n.toNat).map fun _ => true).map V.bl := by
      unfold given
      rw [List.filter_eq_self.mpr (fun _ _ => rfl), List.map_map] <;> rfl
    rw [← e0]
    refine el_lcR1 (fun _ => true) (fun _ => V.bl true) (ea_cons ?_ ea_nil) ⟨n0, by omega⟩ (fun _ => rfl) (fun _ _ _ _ H1 _ Q1 q1 => q1 H1 (Ex.refl _)) fun i H1 e1 hi _ => ?_
    · rw [en]
      exact ev_maxI ev_c (ev_minI (ev_lenX (ev_var rfl) fun H2 e2 Q2 q2 => ⟨_, _, rfl, .inl ⟨_, ex_l e2 hS, by rw [List.length_map]⟩, q2⟩) ev_c)
    · intro H2 e2 Q2 q2
      refine ⟨_, rfl, _, rfl, a, ns, i, rfl, ex_l (e1.trans e2) hS, by omega, by omega, fun p H3 hp e3 hp3 => ⟨p, rfl, hp3, fun H4 f4 => q2 H4 fun b o hb => ?_⟩⟩
      exact rem_ex _ _ (f4.1 _ _ (rem_at (e3 _ _ hb) (ne_of_none hb hp)))
  case len =>
    obtain ⟨a, ns, rfl, _⟩ := h
    rfl
end
end K21
set_option Elab.async false
set_option linter.all false
set_option maxRecDepth 100000
set_option maxHeartbeats 0
namespace K21
open PySem PySem.Spec PyProof.Rows L2
theorem facts {P : Program} {w : World} {K : PySem.W.Frag} {h : Heap} {mg : Str → Option Value} {f : Addr} (X : K.In h) (G : h.Ns mainGlobals mg) (hfa : mg ("law" : Str) = some (.ref f)) (c : He.SaysX ex fa fn K) :
    ∃ fd : FuncData, (∀ (s : Shared) (v : Value), BindsTo s fd ⟨[v], []⟩ [("_law_script", v)]) ∧ ∀ base : Heap, K.In base → base.Ns mainGlobals mg → FnOkG P w K mg base CX0 12 f fd ["_law_script"] (spLaw K) := by
  obtain ⟨fd, T⟩ := Tx.of X G c
  have e := hfa.symm.trans (T.gl 35 "law" rfl)
  cases e
  obtain ⟨⟨oc, od, kV, doc, pm, an, cdv, ct, osl, efd, lk, hcd⟩, kp⟩ := T.df 33 61 "law" rfl
  refine ⟨fd 33, fun s v => ?_, fun base _ _ => ok_law T⟩
  rw [efd]
  exact .of_eq rfl
end K21
open PySem PySem.W PySem.Calls PyProof.Rows
theorem PySem.Challenge.cw_uplines_k21_whole_steps_holds : PySem.Challenge.rw_uplines_k21_whole_steps.Holds := by
  w_on; o_law
  refine HandSHeadRun.head_any (r := OpenLaw.row PySem.Challenge.rw_uplines_k21_whole_steps) (q := view (OpenLaw.row PySem.Challenge.rw_uplines_k21_whole_steps).prog [61]) (H := K21.hk) (ob := K21.ob) (M := 12000) (loose := K21.loose) (d := HandSHeadRun.topDef (OpenLaw.row PySem.Challenge.rw_uplines_k21_whole_steps).prog 61) (kwd := []) K21.ob_eq
    (by kernel_rfl) (fun s => by kernel_rfl) K21.run (by kernel_rfl) (by kernel_rfl) (by kernel_rfl) (by rfl) (by first | assumption | decide +kernel) (by decide +kernel) ⟨rfl, rfl, rfl, rfl, rfl, by decide +kernel⟩ ?hw ?hc
  case hw => w_witness2
  case hc =>
    refine L2.walk_ofG (l := PySem.Challenge.rw_uplines_k21_whole_steps) (n := 63) (k := 12) (x := "_law_script") rfl (by decide) (by kernel_rfl) ⟨rfl, by decide, by decide⟩ ?F
    intro w mg fa h Y G hmg0
    obtain ⟨K, KX, c, _⟩ := Y
    have hmg : mg ("law" : PySem.Str) = some (.ref fa) := by
      have e : (HandSHeadRun.topDef (OpenLaw.row PySem.Challenge.rw_uplines_k21_whole_steps).prog 61).name = ("law" : PySem.Str) := by kernel_rfl
      rw [← e]
      exact hmg0
    obtain ⟨fd, hb, hF⟩ := K21.facts (P := (PySem.Challenge.rw_uplines_k21_whole_steps).prog) (w := w) KX G hmg c
    exact ⟨K, fd, K21.spLaw K, KX, hb, fun H a ns hl _ hS => ⟨a, ns, rfl, hS, hl, fun _ => rfl⟩, hF⟩
