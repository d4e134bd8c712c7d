import PyProof.Rows.All
import Wide.All
import OpenK.AllK
import Wide.FinOn
import KE.KSortTup
import KE.KSortTupAny
import HandS.Base
import HandS.Call
import HandS.Sort
import HandS.SortOrd
import HandS.SortRule
import HandS.List
import PyProof.ReprReads
import PyProof.ReprRoads
import HandS.Ends
import HandS.Exc
import HandS.ExcInit
import HandS.Defaults
import KE.KIsAll
import KE.KTryMore
import HandS.IsInst
import HandS.Words
import HandS.ExcOwn
import HandS.ExcValue
import HandS.Iter
import HandS.Walk
import HandS.Evl
import HandS.Text
import HandS.Flow
import HandS.Wide
import HandS.Dict
import PyProof.ReprBulk
import PyProof.FitsInt
import KE.GoesMore
import KE.GoesEnum
import PyProof.EnumMake
import HandS.WordsDict
import HandS.TupSets
import HandS.Set
import HandS.SetKeys
import PyProof.SetRoads
import PyProof.Rows.StrMeet
import PyProof.Rows.TmSorted
import HandS.ClsMeth
import KE.KOpsOwn
import OpenK.KOps
import HandS.IterNext
import PyProof.TupleOps
import HandS.OwnEq
import PyProof.InstNe
import HandS.IterVal
import HandS.OwnIter
import HandS.FStr
import HandS.Comp
import HandS.Star
import HandS.Style
import HandS.More
import HandS.Conv
import HandS.Head0
import HandS.Head1
import HandS.Head2
import HandS.HeadEnd
import HandS.HeadHook1
import HandS.HeadHook2
import HandS.HeadNt
import HandS.MakeKw
import HandS.Deep
import PySem.Challenge.RW_uplines_k12_sheets_told
set_option Elab.async false
set_option linter.all false
set_option maxRecDepth 100000
set_option maxHeartbeats 4000000
/-! sorted of pairs of texts, of any length -/
namespace XS
open PySem PySem.Spec PyProof.Rows
abbrev cl (x : Str) : List Nat := x.cps.toList
theorem cl_inj {x y : Str} (h : cl x = cl y) : x = y := by
  obtain ⟨⟨l⟩⟩ := x
  obtain ⟨⟨m⟩⟩ := y
  have e : l = m := h
  rw [e]
/-- x before y: by code points -/
def ltS (x y : Str) : Bool := decide (cl x < cl y)
theorem ltS_tri (x y : Str) : ltS x y = true ∨ x = y ∨ ltS y x = true := by
  unfold ltS
  rw [decide_eq_true_eq, decide_eq_true_eq]
  by_cases h : cl x < cl y
  · exact .inl h
  · by_cases h2 : cl y < cl x
    · exact .inr (.inr h2)
    · exact .inr (.inl (cl_inj (List.le_antisymm (List.not_lt.mp h2) (List.not_lt.mp h))))
theorem ltS_irr (x : Str) : ltS x x = false := by
  unfold ltS
  rw [decide_eq_false_iff_not]
  exact List.lt_irrefl _
theorem ltS_tr {x y z : Str} (h1 : ltS x y = true) (h2 : ltS y z = true) : ltS x z = true := by
  unfold ltS at *
  rw [decide_eq_true_eq] at *
  exact List.lt_trans h1 h2
theorem ltS_as {x y : Str} (h : ltS x y = true) : ltS y x = false := by
  cases g : ltS y x with
  | false => rfl
  | true =>
    have := ltS_tr h g
    rw [ltS_irr] at this
    cases this
/-- pairs: by their first, then by their second -/
def ltT (p q : Str × Str) : Bool := if p.1 = q.1 then ltS p.2 q.2 else ltS p.1 q.1
theorem ltT_iff {p q : Str × Str} : ltT p q = true ↔ ltS p.1 q.1 = true ∨ (p.1 = q.1 ∧ ltS p.2 q.2 = true) := by
  unfold ltT
  by_cases e : p.1 = q.1
  · rw [if_pos e]
    constructor
    · exact fun h => .inr ⟨e, h⟩
    · rintro (h | ⟨_, h⟩)
      · rw [e, ltS_irr] at h
        cases h
      · exact h
  · rw [if_neg e]
    constructor
    · exact .inl
    · rintro (h | ⟨h, _⟩)
      · exact h
      · exact absurd h e
theorem ltT_irr (p : Str × Str) : ltT p p = false := by
  unfold ltT
  rw [if_pos rfl, ltS_irr]
theorem ltT_tr {p q r : Str × Str} (h1 : ltT p q = true) (h2 : ltT q r = true) : ltT p r = true := by
  rw [ltT_iff] at *
  rcases h1 with h1 | ⟨e1, h1⟩ <;> rcases h2 with h2 | ⟨e2, h2⟩
  · exact .inl (ltS_tr h1 h2)
  · exact .inl (e2 ▸ h1)
  · exact .inl (e1 ▸ h2)
  · exact .inr ⟨e1.trans e2, ltS_tr h1 h2⟩
theorem ltT_as {p q : Str × Str} (h : ltT p q = true) : ltT q p = false := by
  cases g : ltT q p with
  | false => rfl
  | true =>
    have := ltT_tr h g
    rw [ltT_irr] at this
    cases this
theorem ltT_tri (p q : Str × Str) : ltT p q = true ∨ p = q ∨ ltT q p = true := by
  rw [ltT_iff, ltT_iff]
  rcases ltS_tri p.1 q.1 with h | h | h
  · exact .inl (.inl h)
  · rcases ltS_tri p.2 q.2 with g | g | g
    · exact .inl (.inr ⟨h, g⟩)
    · exact .inr (.inl (Prod.ext h g))
    · exact .inr (.inr (.inr ⟨h.symm, g⟩))
  · exact .inr (.inr (.inl h))
theorem swoT {α : Type} (k : α → Str × Str) : SrtO.Swo fun v u => ltT (k v) (k u) := by
  refine ⟨fun x y h => ltT_as h, fun x y z h1 h2 => ?_⟩
  cases g : ltT (k z) (k x) with
  | false => rfl
  | true =>
    exfalso
    rcases ltT_tri (k x) (k y) with e | e | e
    · have := ltT_tr g e
      rw [h2] at this
      cases this
    · rw [e, h2] at g
      cases g
    · rw [h1] at e
      cases e
/-- v is a pair of these texts -/
def TP (h : Heap) (v : Value) (p : Str × Str) : Prop := ∃ a o t u n, v = .ref a ∧ h.get? a = some o ∧ o.cls = .type "tuple" ∧ o.data = .seq #[.str p.1 t, .str p.2 u] n
theorem TP.keeps {h h' : Heap} {v : Value} {p : Str × Str} (x : TP h v p) (k : ∀ b o, h.get? b = some o → o.cls = .type "tuple" → h'.get? b = some o) : TP h' v p := by
  obtain ⟨a, o, t, u, n, e, ho, hc, hd⟩ := x
  exact ⟨a, o, t, u, n, e, k _ _ ho hc, hc, hd⟩
theorem firstsT {h : Heap} : ∀ {vs : List Value}, (∀ v ∈ vs, ∃ p, TP h v p) → ∃ fs : List Value, PySem.W.KatTups h vs fs ∧ fs.length = vs.length ∧ ∀ f ∈ fs, ∃ x t, f = Value.str x t
  | [], _ => ⟨[], PySem.W.KatTups.nil, rfl, fun _ z => nomatch z⟩
  | v :: vs, hp => by
    obtain ⟨fs, g1, g2, g3⟩ := firstsT (vs := vs) fun u z => hp u (List.mem_cons_of_mem _ z)
    obtain ⟨p, a, o, t, u, n, rfl, ho, hc, hd⟩ := hp v (List.mem_cons_self ..)
    refine ⟨.str p.1 t :: fs, .cons ho hc hd rfl g1, congrArg (· + 1) g2, fun f z => ?_⟩
    cases z with
    | head => exact ⟨_, _, rfl⟩
    | tail _ z => exact g3 f z
section
variable {prog : Program} {w : World} {A : Around} {E : Value → Shared → Prop} {s : Shared}
theorem cmpT {vs : List Value} {k : Value → Str × Str} (hp : ∀ v ∈ vs, TP s.heap v (k v)) : SrtO.Cmp prog w A s (tuples' true) (fun p => p.1 ∈ vs) (SrtO.lt2 fun v u => ltT (k v) (k u)) := by
  intro p q hm hm'
  have g1 := hp _ hm
  have g2 := hp _ hm'
  change wpAny (model prog w) A (keyLt' (tuples' true) p.1 q.1) (fun r s' => s' = s ∧ r = ltT (k p.1) (k q.1)) (fun _ _ => False) s
  generalize k p.1 = x at g1 ⊢
  generalize k q.1 = y at g2 ⊢
  obtain ⟨x1, x2⟩ := x
  obtain ⟨y1, y2⟩ := y
  obtain ⟨a, o, t, u, n, e, ho, hc, hd⟩ := g1
  obtain ⟨b, o2, t2, u2, n2, e2, ho2, hc2, hd2⟩ := g2
  rw [e, e2]
  refine PySem.W.kat_lt ho hd ho2 hd2 ?_
  change PySem.W.KatLex prog w A true (decide (2 < 2)) _ [(.str x1 t, .str y1 t2), (.str x2 u, .str y2 u2)] 0 s
  refine PySem.W.kat_cons (SeqAt.EqAt.str_str x1 t y1 t2 prog w _ _ (PySem.W.kat_go (fun c => ?_) fun c => ?_))
  · have f1 : x1 = y1 := by simpa using c
    subst f1
    refine PySem.W.kat_yes (PySem.W.kat_cons (SeqAt.EqAt.str_str x2 u y2 u2 prog w _ _ (PySem.W.kat_go (fun d => ?_) fun d => ?_)))
    · have f2 : x2 = y2 := by simpa using d
      subst f2
      exact PySem.W.kat_yes (PySem.W.kat_nil ⟨rfl, (ltT_irr _).symm⟩)
    · refine PySem.W.kat_no (PyProof.Rows.oneLt_any_str ⟨rfl, ?_⟩)
      unfold ltT
      rw [if_pos rfl]
      rfl
  · have f1 : ¬ x1 = y1 := by simpa using c
    refine PySem.W.kat_no (PyProof.Rows.oneLt_any_str ⟨rfl, ?_⟩)
    unfold ltT
    rw [if_neg f1]
    rfl
theorem sortableT {a : Addr} {vs : List Value} {k : Value → Str × Str} (h0 : 0 < vs.length) (hp : ∀ v ∈ vs, TP s.heap v (k v)) (ha : ∀ o, s.heap.get? a = some o → o.cls ≠ .type "tuple") : SrtO.SortableO prog w A s a vs fun v u => ltT (k v) (k u) := by
  intro h' keep
  have hp2 : ∀ v ∈ vs, TP h' v (k v) := fun v z => (hp v z).keeps fun b o e c => keep b o (fun y => by subst y; exact ha o e c) e
  obtain ⟨fs, g1, g2, g3⟩ := firstsT fun v z => ⟨_, hp2 v z⟩
  refine ⟨tuples' true, fun Q E hq => ?_, cmpT hp2⟩
  refine PySem.W.kat_kind (T := .type "str") g1 (by omega) (fun f z => ?_) (by rfl) ?_
  · obtain ⟨x, t, rfl⟩ := g3 f z
    exact PySem.W.Looks.now
  · have e : (Value.type "str" != Value.type "tuple") = true := by first | decide +kernel | rfl | decide
    rw [e]
    exact hq
theorem sortedT {l : Addr} {vs : List Value} {k : Value → Str × Str} {Q : Value → Shared → Prop} (hl : s.heap.IsList l vs.toArray) (hz : vs.length ≤ sizeLine) (hp : ∀ v ∈ vs, TP s.heap v (k v))
    (q : ∀ (h' : Heap) (d : Addr) (out : List Value), SrtO.Srtd (fun v u => ltT (k v) (k u)) out → SrtO.Stb (fun v u => ltT (k v) (k u)) out vs → (∀ b o, s.heap.get? b = some o → h'.get? b = some o) → s.heap.objs.size ≤ d → (∃ n, h'.get? d = some (seqObj "list" out.toArray n)) → Q (.ref d) { s with heap := h' }) :
    wpAny (model prog w) A (call (.builtin "sorted") [.ref l]) Q E s := by
  refine SrtO.sorted_ord (swoT k) hl hz (fun _ h1 a ha kk => ?_) fun out g1 g2 => q _ _ out g1 g2 (fun b o e => sortedAll_old e) (Nat.le_succ _) (sortedAll_at s.heap vs out.toArray)
  refine sortableT (s := { s with heap := h1 }) (by omega) (fun v z => (hp v z).keeps fun b o e _ => (kk b o e).2) fun o e c => ?_
  have e2 := e.symm.trans ha
  cases e2
  exact absurd (Value.type.inj c) (by decide)
end
end XS
namespace L2
open PySem PySem.Spec PyProof.Rows
/-- sorted(xs) of pairs of texts (k says which): a new list of the same objects, sorted -/
def rSortedT2 (K : PySem.W.Frag) : List V → Hp → VK → Prop := fun vs H Q => ∃ (a : Addr) (xs : List V) (k : V → Str × Str), vs = [V.ref a] ∧ SqL K H a xs ∧ (∀ x ∈ xs, ∃ t, x = V.ref t ∧ H t = some (.tup [.str (k x).1, .str (k x).2])) ∧
  ∀ ys p, SrtO.Srtd (fun v u => XS.ltT (k v) (k u)) ys → ys.Perm xs → H p = none → Q (.ref p) (upd H p (.lst ys))
theorem cr_sortedT2 {X : Cx} : CallR X (.builtin "sorted") (rSortedT2 X.K) := by
  intro pins s σ H vs us Q I r h
  obtain ⟨a, xs, k, rfl, hs, hx, q⟩ := h
  obtain ⟨its, rv, hl, hz⟩ := I.list hs
  obtain ⟨u, rfl, ru⟩ := vals1 r
  cases ru
  obtain ⟨e1, e2⟩ := refs_back rv fun x m => let ⟨t, e, _⟩ := hx x m; ⟨t, e⟩
  refine XS.sortedT (k := fun u => k (backV u)) hl.isList (by rw [← rv.length]; exact hz) (fun v hv => ?_) fun h' d out g1 g2 kp hd hn => ?_
  · obtain ⟨t, rfl⟩ := e2 v hv
    have hm : V.ref t ∈ xs := by rw [e1]; exact List.mem_map.mpr ⟨_, hv, rfl⟩
    obtain ⟨t', e, ht⟩ := hx _ hm
    cases e
    obtain ⟨_, its2, r2, o, ho, hc, n, hdd⟩ := I.hok _ _ ht
    obtain ⟨u1, u2, rfl, ⟨t1, rfl⟩, ⟨t2, rfl⟩⟩ := vals2 r2
    exact ⟨t, o, t1, t2, n, rfl, ho, hc, hdd⟩
  · have g3 : ∀ u ∈ out, ∃ a, u = Value.ref a := fun u hu => e2 u (g2.perm.mem_iff.mp hu)
    obtain ⟨n, hn⟩ := hn
    have pm : (out.map backV).Perm xs := by
      rw [e1]
      exact g2.perm.map backV
    exact ⟨.ref d, upd H d (.lst (out.map backV)), I.laid (t' := s.toks) kp hd ⟨by rw [pm.length_eq]; exact hz, out, n, vals_back g3, hn⟩, rfl, q _ d (SrtO.srtd_map g1) pm (I.hok.fresh hd)⟩
end L2
set_option Elab.async false
set_option linter.all false
set_option maxRecDepth 100000
set_option maxHeartbeats 4000000
/-! repr of data at any depth, dicts among it -/
namespace L2
open PySem PySem.Spec PyProof.Rows
def keyData : Key → PyData
  | .inl i => .int i
  | .inr x => .str x
mutual
inductive Dq (K : PySem.W.Frag) (H : Hp) : V → PyData → Prop
  | non : Dq K H .non .none
  | bl (b : Bool) : Dq K H (.bl b) (.bool b)
  | int (i : Int) : Dq K H (.int i) (.int i)
  | str (x : Str) : Dq K H (.str x) (.str x)
  | lst {a : Addr} {xs : List V} {ds : List PyData} : SqL K H a xs → DqAll K H xs ds → Dq K H (.ref a) (.list ds)
  | tup {a : Addr} {xs : List V} {ds : List PyData} : SqT K H a xs → DqAll K H xs ds → Dq K H (.ref a) (.tuple ds)
  | dic {a : Addr} {kvs : List (Key × V)} {ds : List (PyData × PyData)} : H a = some (.dK kvs) → ds.map (·.1) = kvs.map (fun p => keyData p.1) → DqAll K H (kvs.map (·.2)) (ds.map (·.2)) → Dq K H (.ref a) (.dict ds)
inductive DqAll (K : PySem.W.Frag) (H : Hp) : List V → List PyData → Prop
  | nil : DqAll K H [] []
  | cons {v : V} {vs : List V} {d : PyData} {ds : List PyData} : Dq K H v d → DqAll K H vs ds → DqAll K H (v :: vs) (d :: ds)
end
theorem keys_read {P : Program} {w : World} {h : Heap} : ∀ {es : List DictEntry} {vs : List (Key × Value)}, Pairs (mixKind P w) es vs → ReadsAll h (es.map (·.key)) (vs.map fun p => keyData p.1) [] := by
  intro es vs p
  induction p with
  | nil => exact .nil
  | @cons e kv es kvs h1 h2 _ ih =>
    have q : Reads h e.key (keyData kv.1) [] := by
      obtain ⟨k, y⟩ := kv
      rcases keyIs_shape (show keyIs k e.key = true from h1) with ⟨i, t, e1, e2⟩ | ⟨x, t, e1, e2⟩
      · rw [e2, e1]
        exact .int i t
      · rw [e2, e1]
        exact .str x t
    exact .cons q ih
theorem keys_repr {P : Program} {w : World} {h : Heap} {n : Nat} : ∀ {es : List DictEntry} {vs : List (Key × Value)}, Pairs (mixKind P w) es vs → PyData.showableAll (vs.map fun p => keyData p.1) = true → (∀ t ∈ PyData.shownAll (vs.map fun p => keyData p.1), t.length ≤ sizeLine) →
    ReprAllK P w [] h n (es.map (·.key)) (PyData.shownAll (vs.map fun p => keyData p.1)) := by
  intro es vs p
  induction p with
  | nil => intro _ _; exact .nil
  | @cons e kv es kvs h1 h2 _ ih =>
    intro hs hz
    obtain ⟨k, y⟩ := kv
    simp only [List.map_cons, PyData.showableAll, Bool.and_eq_true] at hs
    simp only [List.map_cons, PyData.shownAll, List.mem_cons, forall_eq_or_imp] at hz
    have q : ReprK P w [] h n e.key (keyData k).shown := by
      rcases keyIs_shape (show keyIs k e.key = true from h1) with ⟨i, t, e1, e2⟩ | ⟨x, t, e1, e2⟩
      · rw [e2, e1]
        rw [e1] at hs
        show ReprK P w [] h n _ (PyData.shown (.int i))
        simp only [PyData.shown]
        exact .of_is (ReprIs.int t (by simpa [keyData, PyData.showable] using hs.1)) _ _ _
      · rw [e2, e1]
        rw [e1] at hz
        show ReprK P w [] h n _ (PyData.shown (.str x))
        simp only [PyData.shown]
        exact .of_is (ReprIs.str x t (by simpa only [keyData, PyData.shown] using hz.1)) _ _ _
    exact .cons q (ih hs.2 hz.2)
theorem vals_kv {kvs : List (Key × V)} {vs : List (Key × Value)} (r : KV kvs vs) : Vals (kvs.map (·.2)) (vs.map (·.2)) ∧ kvs.map (fun p => keyData p.1) = vs.map (fun p => keyData p.1) := by
  unfold KV at r
  induction r with
  | nil => exact ⟨.nil, rfl⟩
  | cons h t ih =>
    refine ⟨.cons h.2 ih.1, ?_⟩
    rw [List.map_cons, List.map_cons, ih.2, h.1]
theorem pairs_vals {P : Program} {w : World} : ∀ {es : List DictEntry} {vs : List (Key × Value)}, Pairs (mixKind P w) es vs → es.map (·.val) = vs.map (·.2) := by
  intro es vs p
  induction p with
  | nil => rfl
  | cons h1 h2 _ ih => rw [List.map_cons, List.map_cons, ih, h2]
section
variable {X : Cx} {pins : List (Addr × Obj)} {σ : St} {H : Hp} {s : Shared}
mutual
theorem Dq.repr (I : Inv X pins σ H s) : ∀ {v : V} {d : PyData}, Dq X.K H v d → ∀ u : Value, RelV v u → d.showable = true → d.shown.length ≤ sizeLine →
    ∃ as bs, Reads s.heap u d as ∧ ReadAtMost s.heap d.depth bs ∧ ReprK X.prog X.w bs s.heap d.depth u d.shown
  | _, _, .non, u, r, _, _ => by
    cases r
    exact ⟨_, [], .none, (fun _ h => nomatch h), by simp only [PyData.shown]; exact .of_is ReprIs.none _ _ _⟩
  | _, _, .bl b, u, r, _, _ => by
    cases r
    exact ⟨_, [], .bool b, (fun _ h => nomatch h), by simp only [PyData.shown]; exact .of_is (ReprIs.bool b) _ _ _⟩
  | _, _, .int i, u, r, hs, _ => by
    obtain ⟨t, rfl⟩ := r
    exact ⟨_, [], .int i t, (fun _ h => nomatch h), by simp only [PyData.shown]; exact .of_is (ReprIs.int t (by simpa [PyData.showable] using hs)) _ _ _⟩
  | _, _, .str x, u, r, _, hz => by
    obtain ⟨t, rfl⟩ := r
    exact ⟨_, [], .str x t, (fun _ h => nomatch h), by simp only [PyData.shown]; exact .of_is (ReprIs.str x t (by simpa only [PyData.shown] using hz)) _ _ _⟩
  | _, _, .lst (a := a) (xs := xs) (ds := ds) hq ha, u, r, hs, hz => by
    cases r
    obtain ⟨its, rv, ⟨o, n, ho, hc, _, hd⟩, _⟩ := I.list hq
    have hz' : (listText (PyData.shownAll ds)).length ≤ sizeLine := by simpa only [PyData.shown] using hz
    obtain ⟨as, bs, hr, hb, hk⟩ := DqAll.repr I ha its rv (by simpa [PyData.showable] using hs) (fun t ht => Nat.le_trans (listText_mem_le ht) hz')
    have rr : Reads s.heap (.ref a) (.list ds) _ := .list ho hc hd hr
    have hna : a ∉ bs := not_mem_of_deeper rr (by simp only [PyData.depth]; omega) hb
    refine ⟨_, a :: bs, rr, ReadAtMost.cons rr (by simp only [PyData.depth]; omega) hb, ?_⟩
    simp only [PyData.depth, PyData.shown]
    cases its with
    | nil =>
      cases hr
      simp only [PyData.shownAll, listText_nil]
      exact ReprK.listEmpty ho hc hd
    | cons x l => exact ReprK.list ho hc hd hna (by simpa using hk.length_eq) (fun i y e => hk.item i y (by simpa using e))
  | _, _, .tup (a := a) (xs := xs) (ds := ds) hq ha, u, r, hs, hz => by
    cases r
    obtain ⟨its, rv, ⟨o, ho, hc, n, hd⟩, _⟩ := I.tuple hq
    have hz' : (tupleText (PyData.shownAll ds)).length ≤ sizeLine := by simpa only [PyData.shown] using hz
    obtain ⟨as, bs, hr, hb, hk⟩ := DqAll.repr I ha its rv (by simpa [PyData.showable] using hs) (fun t ht => Nat.le_trans (tupleText_mem_le ht) hz')
    have rr : Reads s.heap (.ref a) (.tuple ds) _ := .tuple ho hc hd hr
    have hna : a ∉ bs := not_mem_of_deeper rr (by simp only [PyData.depth]; omega) hb
    refine ⟨_, a :: bs, rr, ReadAtMost.cons rr (by simp only [PyData.depth]; omega) hb, ?_⟩
    simp only [PyData.depth, PyData.shown]
    exact ReprK.tuple ho hc hd hna hk
  | _, _, .dic (a := a) (kvs := kvs) (ds := ds) hq he ha, u, r, hs, hz => by
    cases r
    obtain ⟨_, hsys, vs, rkv, o, es, ep, ho, hx, hd, _, hp, _⟩ := (show ObjOk X.prog X.w H s.heap a (.dK kvs) from I.hok a _ hq)
    obtain ⟨rv, ek⟩ := vals_kv rkv
    have hz' : (dictText (PyData.shownKv ds)).length ≤ sizeLine := by simpa only [PyData.shown] using hz
    obtain ⟨hs1, hs2⟩ := PyData.showableKv_split ds (by simpa [PyData.showable] using hs)
    obtain ⟨as, bs, hr, hb, hk⟩ := DqAll.repr I ha _ rv hs2 (fun t ht => let ⟨p, hp, hl⟩ := PyData.shownKv_val_le ds t ht; Nat.le_trans hl (Nat.le_trans (dictText_mem_le hp) hz'))
    have k0 := keys_repr (h := s.heap) (n := PyData.depthAll (ds.map (·.2))) hp (by rw [← ek, ← he]; exact hs1) (by rw [← ek, ← he]; exact fun t ht => let ⟨p, hp, hl⟩ := PyData.shownKv_key_le ds t ht; Nat.le_trans hl (Nat.le_trans (dictText_mem_le hp) hz'))
    have r0 := keys_read (h := s.heap) hp
    rw [← ek, ← he] at k0 r0
    have r1 : ReadsAll s.heap (es.toList.map (·.val)) (ds.map (·.2)) as := by rw [pairs_vals hp]; exact hr
    have rr : Reads s.heap (.ref a) (.dict ds) _ := .dict ho hx.1 hd r0 r1
    have hbd : ReadAtMost s.heap (PyData.depthKv ds) bs := hb.mono (PyData.depthAll_vals_le ds)
    have hna : a ∉ bs := not_mem_of_deeper rr (by simp only [PyData.depth]; omega) hbd
    refine ⟨_, a :: bs, rr, ReadAtMost.cons rr (by simp only [PyData.depth]; omega) hbd, ?_⟩
    simp only [PyData.depth, PyData.shown, PyData.shownKv_eq]
    have hk' : ReprAllK X.prog X.w bs s.heap (PyData.depthAll (ds.map (·.2))) (es.toList.map (·.val)) (PyData.shownAll (ds.map (·.2))) := by rw [pairs_vals hp]; exact hk
    exact ReprK.dict ho hx.1 hd hsys hna (ReprEntriesK.of_two es.toList _ _
      (k0.more_le (fun b (hb : b ∈ ([] : List Addr)) => absurd hb (by simp)) (PyData.depthAll_vals_le ds)) (hk'.more_le (fun b hb => hb) (PyData.depthAll_vals_le ds)))
theorem DqAll.repr (I : Inv X pins σ H s) : ∀ {vs : List V} {ds : List PyData}, DqAll X.K H vs ds → ∀ us : List Value, Vals vs us → PyData.showableAll ds = true → (∀ t ∈ PyData.shownAll ds, t.length ≤ sizeLine) →
    ∃ as bs, ReadsAll s.heap us ds as ∧ ReadAtMost s.heap (PyData.depthAll ds) bs ∧ ReprAllK X.prog X.w bs s.heap (PyData.depthAll ds) us (PyData.shownAll ds)
  | _, _, .nil, us, r, _, _ => by
    cases r
    exact ⟨_, [], .nil, (fun _ h => nomatch h), by simp only [PyData.shownAll]; exact .nil⟩
  | _, _, .cons (d := d) (ds := ds) h1 h2, us, r, hs, hz => by
    cases r with
    | cons r1 r2 =>
      have hs' : d.showable = true ∧ PyData.showableAll ds = true := by simpa [PyData.showableAll] using hs
      obtain ⟨a1, b1, q1, hb1, k1⟩ := Dq.repr I h1 _ r1 hs'.1 (hz _ (by simp only [PyData.shownAll]; exact List.mem_cons_self ..))
      obtain ⟨a2, b2, q2, hb2, k2⟩ := DqAll.repr I h2 _ r2 hs'.2 (fun t ht => hz t (by simp only [PyData.shownAll]; exact List.mem_cons_of_mem _ ht))
      refine ⟨_, b1 ++ b2, .cons q1 q2, ?_, ?_⟩
      · intro b hm
        simp only [PyData.depthAll]
        rcases List.mem_append.mp hm with hm | hm
        · obtain ⟨d', as', r', hd'⟩ := hb1 b hm
          exact ⟨d', as', r', Nat.le_trans hd' (Nat.le_max_left _ _)⟩
        · obtain ⟨d', as', r', hd'⟩ := hb2 b hm
          exact ⟨d', as', r', Nat.le_trans hd' (Nat.le_max_right _ _)⟩
      · simp only [PyData.depthAll, PyData.shownAll]
        exact .cons ((k1.more fun b hb => List.mem_append_left _ hb).level_le (Nat.le_max_left _ _)) (k2.more_le (fun b hb => List.mem_append_right _ hb) (Nat.le_max_right _ _))
end
end
/-- repr(x) -/
def rRepr (K : PySem.W.Frag) : List V → Hp → VK → Prop := fun xs H Q => ∃ (v : V) (d : PyData), xs = [v] ∧ Dq K H v d ∧ d.showable = true ∧ d.depth ≤ 40 ∧ d.shown.length ≤ sizeLine ∧ Q (.str d.shown) H
section
variable {X : Cx}
theorem call_repr (hg : X.A.guards = some []) (hu : X.A.units + 64 < cLine) : CallR X (.builtin "repr") (rRepr X.K) := by
  intro pins s σ H xs us Q I r h
  obtain ⟨v, d, rfl, hq, hs, hdp, hz, q⟩ := h
  obtain ⟨u, rfl, ru⟩ := vals1 r
  have fin : ∀ h' u' tk, (∀ b o, s.heap.get? b = some o → h'.get? b = some o) → EP X pins σ Q (.str d.shown u') { s with heap := h', toks := tk } := fun h' u' tk hk => ⟨.str d.shown, H, I.kept (t' := tk) hk, ⟨_, rfl⟩, q⟩
  cases hq with
  | non => cases ru; simp only [PyData.shown] at fin; exact PySem.P.repr_of_none (fin _ _ _ fun _ _ e => e)
  | bl b => cases ru; simp only [PyData.shown] at fin; exact PySem.P.repr_of_bool (fin _ _ _ fun _ _ e => e)
  | int i =>
    obtain ⟨t, rfl⟩ := ru
    simp only [PyData.shown] at fin
    exact PySem.P.repr_of_int (by simpa [PyData.showable] using hs) (fin _ _ _ fun _ _ e => e)
  | str x =>
    obtain ⟨t, rfl⟩ := ru
    simp only [PyData.shown] at fin hz
    exact PySem.P.repr_of_str (fin _ _ _ fun _ _ e => e) hz
  | @lst a ys ds hq ha =>
    cases ru
    obtain ⟨its, rv, ⟨o, n, ho, hc, _, hd⟩, _⟩ := I.list hq
    have hz' : (listText (PyData.shownAll ds)).length ≤ sizeLine := by simpa only [PyData.shown] using hz
    obtain ⟨as, bs, hr, hb, hk⟩ := DqAll.repr I ha its rv (by simpa [PyData.showable] using hs) (fun t ht => Nat.le_trans (listText_mem_le ht) hz')
    have rr : Reads s.heap (.ref a) (.list ds) _ := .list ho hc hd hr
    have hna : a ∉ bs := not_mem_of_deeper rr (by simp only [PyData.depth]; omega) hb
    simp only [PyData.depth] at hdp
    simp only [PyData.shown] at fin
    refine call_repr_slot (by omega) ⟨o, ho, hc⟩ F.slot_list_repr.toG ?_
    cases its with
    | nil =>
      cases hr
      simp only [PyData.shownAll, listText_nil] at fin
      exact call_list_repr_empty ⟨o, ho, hc⟩ ho hd ⟨_, _, rfl, fin _ _ _ fun _ _ e => e⟩
    | cons x l =>
      exact call_list_reprK ho hc hd hna (by simpa using hk.length_eq) (fun i y e => hk.item i y (by simpa using e)) hg (fun b _ => Clear.nil b) (by show X.A.units + 1 + _ < _; omega) (fun _ _ e => e) (fun h' u tk hk => ⟨_, _, rfl, fin h' u tk hk⟩) hz'
  | @tup a ys ds hq ha =>
    cases ru
    obtain ⟨its, rv, ⟨o, ho, hc, n, hd⟩, _⟩ := I.tuple hq
    have hz' : (tupleText (PyData.shownAll ds)).length ≤ sizeLine := by simpa only [PyData.shown] using hz
    obtain ⟨as, bs, hr, hb, hk⟩ := DqAll.repr I ha its rv (by simpa [PyData.showable] using hs) (fun t ht => Nat.le_trans (tupleText_mem_le ht) hz')
    have rr : Reads s.heap (.ref a) (.tuple ds) _ := .tuple ho hc hd hr
    have hna : a ∉ bs := not_mem_of_deeper rr (by simp only [PyData.depth]; omega) hb
    simp only [PyData.depth] at hdp
    simp only [PyData.shown] at fin
    refine call_repr_slot (by omega) ⟨o, ho, hc⟩ F.slot_tuple_repr ?_
    exact call_tuple_reprK ho hc hd hna hk hg (fun b _ => Clear.nil b) (by show X.A.units + 1 + _ < _; omega) (fun _ _ e => e) (fun h' u tk hk => ⟨_, _, rfl, fin h' u tk hk⟩) hz'
  | @dic a kvs ds hq he ha =>
    cases ru
    obtain ⟨_, hsys, vs, rkv, o, es, ep, ho, hx, hd, _, hp, _⟩ := (show ObjOk X.prog X.w H s.heap a (.dK kvs) from I.hok a _ hq)
    obtain ⟨rv, ek⟩ := vals_kv rkv
    have hz' : (dictText (PyData.shownKv ds)).length ≤ sizeLine := by simpa only [PyData.shown] using hz
    obtain ⟨hs1, hs2⟩ := PyData.showableKv_split ds (by simpa [PyData.showable] using hs)
    obtain ⟨as, bs, hr, hb, hk⟩ := DqAll.repr I ha _ rv hs2 (fun t ht => let ⟨p, hp, hl⟩ := PyData.shownKv_val_le ds t ht; Nat.le_trans hl (Nat.le_trans (dictText_mem_le hp) hz'))
    have k0 := keys_repr (h := s.heap) (n := PyData.depthAll (ds.map (·.2))) hp (by rw [← ek, ← he]; exact hs1) (by rw [← ek, ← he]; exact fun t ht => let ⟨p, hp, hl⟩ := PyData.shownKv_key_le ds t ht; Nat.le_trans hl (Nat.le_trans (dictText_mem_le hp) hz'))
    have r0 := keys_read (h := s.heap) hp
    rw [← ek, ← he] at k0 r0
    have r1 : ReadsAll s.heap (es.toList.map (·.val)) (ds.map (·.2)) as := by rw [pairs_vals hp]; exact hr
    have rr : Reads s.heap (.ref a) (.dict ds) _ := .dict ho hx.1 hd r0 r1
    have hbd : ReadAtMost s.heap (PyData.depthKv ds) bs := hb.mono (PyData.depthAll_vals_le ds)
    have hna : a ∉ bs := not_mem_of_deeper rr (by simp only [PyData.depth]; omega) hbd
    simp only [PyData.depth] at hdp
    simp only [PyData.shown, PyData.shownKv_eq] at fin
    have hk' : ReprAllK X.prog X.w bs s.heap (PyData.depthAll (ds.map (·.2))) (es.toList.map (·.val)) (PyData.shownAll (ds.map (·.2))) := by rw [pairs_vals hp]; exact hk
    refine call_repr_slot (by omega) ⟨o, ho, hx.1⟩ F.slot_dict_repr ?_
    exact call_dict_reprK ho hx.1 hd hsys hna (ReprEntriesK.of_two es.toList _ _
      (k0.more_le (fun b (hb : b ∈ ([] : List Addr)) => absurd hb (by simp)) (PyData.depthAll_vals_le ds)) (hk'.more_le (fun b hb => hb) (PyData.depthAll_vals_le ds))) hg (fun b _ => Clear.nil b) (by show X.A.units + 1 + _ < _; omega) (fun _ _ e => e) (fun h' u tk hk => ⟨_, _, rfl, fin h' u tk hk⟩) (by rw [← PyData.shownKv_eq]; exact hz')
end
end L2
set_option Elab.async false
set_option linter.all false
set_option maxRecDepth 100000
set_option maxHeartbeats 4000000
/-! an exception class of one's own over any base, made by a call with keywords as well -/
namespace PySem
namespace XV
open PySem.W PySem.Calls PyProof.Rows PySem.HandSPX
section
variable {M : Model} {A : Around} {E : Value → Shared → Prop} {h : Heap} {g : Array GenState} {d : Drawn} {t : Nat} {os : OsState}
variable {nm q : Str} {C N : Addr} {bs bm bmB : List Value} {hdct : Bool} {sn : List Str} {sub : List Value} {ab : Bool} {col : Option Bool} {dd : Option Addr} {k0 k1 k2 k3 k5 : Option Value} {B newId initId : String} {kw : List (Str × Value)}
theorem check_new_kw (F : ExcBaseFacts B newId initId bmB) (hT : ∀ X : String, bm.contains (.type X) = bmB.contains (.type X)) {rest : List Value} {Q : Unit → Shared → Prop}
    (hC : h.get? C = some (excClassObj nm q C N bs bm hdct sn sub ab col dd k0 k1 k2 k3 k5 newId)) (hq : Q () ⟨h, g, d, t, os⟩) : wpAny M A (checkBuiltinCall newId ⟨.ref C :: rest, kw⟩) Q E ⟨h, g, d, t, os⟩ := by
  have hcont : (Value.ref C :: bm).contains (.type B) = true := by rw [List.contains_cons, hT, F.hasB, Bool.or_true]
  have hstar := F.noStar
  simp only [checkBuiltinCall, F.newKind, F.newSplit, F.newRow]
  repeat (first | refine wpAny_loadPart_at hC ?_ | (refine wpAny_isSubtype_exc hC ?_; rw [hcont]) | refine wpAny_staticBase_exc hC ?_ | refine wpAny_madeBy_exc hC ?_ | simp only [bne_self_eq_false, Bool.false_eq_true, if_false] | wp_step)
  exact hq
end
section
variable {prog : Program} {w : World} {A : Around} {E : Value → Shared → Prop} {R : Result → Shared → Prop} {h : Heap} {g : Array GenState} {d : Drawn} {t : Nat} {os : OsState}
variable {nm q : Str} {C N : Addr} {bs bm bmB : List Value} {hdct : Bool} {sn : List Str} {sub : List Value} {ab : Bool} {col : Option Bool} {dd : Option Addr} {k0 k1 k2 k3 k5 : Option Value} {B newId initId : String} {kw : List (Str × Value)}
theorem new_kw (F : ExcBaseFacts B newId initId bmB) (hT : ∀ X : String, bm.contains (.type X) = bmB.contains (.type X)) {rest : List Value}
    (hC : h.get? C = some (excClassObj nm q C N bs bm hdct sn sub ab col dd k0 k1 k2 k3 k5 newId))
    (hq : R (.ok (.ret (.ref (h.objs.size + 1)))) ⟨(h.push { cls := .type "tuple", data := .seq rest.toArray }).push
      { cls := .ref C, data := .fields #[.ref h.objs.size, .none, .none, .none, .bool false, .none] }, g, d, t, os⟩) (hrest : rest.length ≤ sizeLine) :
    codeAny (model prog w) A (.builtin newId ⟨.ref C :: rest, kw⟩) R ⟨h, g, d, t, os⟩ := by
  have hends := F.ends
  have hcB : (Value.ref C :: bm).contains (.type B) = true := by rw [List.contains_cons, hT, F.hasB, Bool.or_true]
  have hcA : (Value.ref C :: bm).contains (.type "AttributeError") = false := by rw [List.contains_cons, hT, F.noAttr]; rfl
  have hcN : (Value.ref C :: bm).contains (.type "NameError") = false := by rw [List.contains_cons, hT, F.noName]; rfl
  refine codeAny_builtinAt F.entry ?_
  unfold Builtin.«BaseException.__new__»
  refine wpAt_bind ?_
  show wpAt _ _ _ (stack >>= _) _ _ _
  refine wpAt_bind (wpAt_stack fun p below => wpAt_of_wpAny ?_)
  wp_walk
  refine wpAt_of_wpAny ?_
  rw [F.owner]
  repeat (first | with_reducible refine wpAny_madeHere_exc F.canon hC ?_ | with_reducible refine wpAny_loadPart_at hC ?_ | (with_reducible refine wpAny_isSubtype_exc hC ?_; first | rw [hcB] | rw [hcA] | rw [hcN]) | wp_step)
  show R _ _
  rw [Heap.size_push]
  exact hq
theorem type_call_kw (F : ExcBaseFacts B newId initId bmB) (hT : ∀ X : String, bm.contains (.type X) = bmB.contains (.type X)) {rest : List Value} {fI : Addr} {Q : Fin → Shared → Prop}
    (hC : h.get? C = some (excClassObj nm q C N bs bm hdct sn sub ab col dd k0 k1 k2 k3 k5 newId))
    (hi : W.Looks (model prog w) h (typeLookup (.ref C) "__init__") (some (.ref fI))) (hb : ∀ self, W.Looks (model prog w) h (bindSpecial (.ref fI) self) (.ref fI, [self])) (hrest : rest.length ≤ sizeLine)
    (hq : codeAny (model prog w) A (.call (.ref fI) ⟨.ref (h.objs.size + 1) :: rest, kw⟩)
      (fun r s' => match r with | .ok (.ret v) => v = .none ∧ Q (.done (.ret (.ref (h.objs.size + 1)))) s' | .ok _ => False | .error e => E e s')
      ⟨(h.push (W.kdv_tup rest)).push (excO C h.objs.size), g, d, t, os⟩) :
    wpAny (model prog w) A (Builtin.«type.__call__» ⟨.ref C :: rest, kw⟩) Q E ⟨h, g, d, t, os⟩ := by
  repeat (first | with_reducible refine wpAny_loadPart_at hC ?_ | with_reducible refine wpAny_madeBy_exc hC ?_ | wp_step)
  refine codeAny_call_builtin_code (Code.quiet_builtin _ F.quiet) (check_new_kw F hT hC ?_)
  refine new_kw F hT hC ?_ hrest
  show wpAny _ _ _ _ _ _
  have k : ∀ b o, h.get? b = some o → ((h.push (W.kdv_tup rest)).push (excO C h.objs.size)).get? b = some o := fun b o e => Heap.get?_push_of_some _ (Heap.get?_push_of_some _ e)
  have hC₁ := k _ _ hC
  have hget : ((h.push (W.kdv_tup rest)).push (excO C h.objs.size)).get? (h.objs.size + 1) = some (excO C h.objs.size) := by heap_get
  have hcC : (Value.ref C :: bm).contains (.ref C) = true := by simp
  have i1 := hi.keeps k
  have b1 := (hb (.ref (h.objs.size + 1))).keeps k
  unfold isInstance
  repeat (first | with_reducible refine wpAny_loadPart_at hget ?_ | (with_reducible refine wpAny_isSubtype_exc hC₁ ?_; rw [hcC]) | wp_step)
  show wpAny _ _ (typeLookup (.ref C) _) _ _ _
  refine i1.at ?_
  refine wpAny_holding (wpAny_bind (b1.at ?_))
  refine wpAny_bind (wpAny_call (codeAny_mono hq fun r s' z => ?_))
  rcases r with e | (v | _ | _ | _) <;> first | exact z | exact z.elim | skip
  obtain ⟨rfl, z⟩ := z
  first
    | exact wpAny_pure (wpAny_pure z)
    | (wp_walk; exact z)
theorem call_kw (F : ExcBaseFacts B newId initId bmB) (hT : ∀ X : String, bm.contains (.type X) = bmB.contains (.type X)) {rest : List Value} {fI : Addr}
    (hC : h.get? C = some (excClassObj nm q C N bs bm hdct sn sub ab col dd k0 k1 k2 k3 k5 newId))
    (hi : W.Looks (model prog w) h (typeLookup (.ref C) "__init__") (some (.ref fI))) (hb : ∀ self, W.Looks (model prog w) h (bindSpecial (.ref fI) self) (.ref fI, [self])) (hrest : rest.length ≤ sizeLine)
    (hcall : W.Looks (model prog w) h (specialOf (.ref C) "__call__") (some (.builtin "type.__call__"))) (htyp : W.Looks (model prog w) h (isInstance (.ref C) (.type "type")) true)
    (hq : codeAny (model prog w) (A.under (.builtin "type.__call__" ⟨.ref C :: rest, kw⟩)) (.call (.ref fI) ⟨.ref (h.objs.size + 1) :: rest, kw⟩) (W.InitBack (h.objs.size + 1) R)
      ⟨(h.push (W.kdv_tup rest)).push (excO C h.objs.size), g, d, t, os⟩) :
    codeAny (model prog w) A (.call (.ref C) ⟨rest, kw⟩) R ⟨h, g, d, t, os⟩ := by
  refine codeAny_of_tree ?_
  show wpAny _ _ (callAny (.ref C) _) _ _ _
  refine W.nd_load hC ?_
  show wpAny _ _ (callAny.viaDunder (.ref C) _) _ _ _
  unfold callAny.viaDunder
  refine wpAny_bind (hcall.at ?_)
  dsimp only
  rw [tc_bind]
  refine wpAny_bind (wpAny_pure (wpAny_bind (wpAny_pure ?_)))
  refine wpAny_pure (a := Fin.again (.call (.builtin "type.__call__") ⟨.ref C :: rest, kw⟩)) (And.intro rfl ?_)
  refine codeAny_call_builtin_at (Code.quiet_builtin _ (by decide +kernel)) entry_typeCall (W.check_slot (s := ⟨h, g, d, t, os⟩) tc_kind tc_split htyp (tc_args _ _ _) ?_)
  refine type_call_kw F hT hC hi hb hrest (codeAny_mono hq fun r s' z => ?_)
  rcases r with e | (v | _ | _ | _) <;> exact z
end
end XV
end PySem
set_option Elab.async false
set_option linter.all false
set_option maxRecDepth 100000
set_option maxHeartbeats 4000000
/-! an own exception over any base as a value: its stores, its fields, isinstance -/
namespace PySem
namespace XV
open PySem.W PySem.Calls PyProof.Rows PySem.HandSPX
/-- a built-in error and its chain -/
structure ErrBase (B newId initId : String) (tail : List Value) : Prop where
  F : ExcBaseFacts B newId initId tail
  passes : ∀ self : Value, refuseLoop self "__setattr__" tail = pure ()
  obj : tail.contains (.type "object") = true
theorem base_value : ErrBase "ValueError" "ValueError.__new__" "ValueError.__init__" [.type "ValueError", .type "Exception", .type "BaseException", .type "object"] := ⟨F.excBase_ValueError, fun self => by kernel_rfl, by decide +kernel⟩
theorem base_lookup : ErrBase "LookupError" "LookupError.__new__" "LookupError.__init__" [.type "LookupError", .type "Exception", .type "BaseException", .type "object"] := ⟨F.excBase_LookupError, fun self => by kernel_rfl, by decide +kernel⟩
theorem base_runtime : ErrBase "RuntimeError" "RuntimeError.__new__" "RuntimeError.__init__" [.type "RuntimeError", .type "Exception", .type "BaseException", .type "object"] := ⟨F.excBase_RuntimeError, fun self => by kernel_rfl, by decide +kernel⟩
theorem base_arith : ErrBase "ArithmeticError" "ArithmeticError.__new__" "ArithmeticError.__init__" [.type "ArithmeticError", .type "Exception", .type "BaseException", .type "object"] := ⟨F.excBase_ArithmeticError, fun self => by kernel_rfl, by decide +kernel⟩
/-- own classes, then the chain -/
def refsB (tail : List Value) : List Value → Bool
  | .ref _ :: r => refsB tail r
  | l => l == tail
section
variable {tail : List Value}
theorem refsB_cases : ∀ l : List Value, refsB tail l = true → (∃ c r, l = .ref c :: r ∧ refsB tail r = true) ∨ l = tail
  | [], e => .inr (beq_iff_eq.mp e)
  | .ref c :: r, e => .inl ⟨c, r, rfl, e⟩
  | .none :: _, e => .inr (beq_iff_eq.mp e)
  | .ellipsis :: _, e => .inr (beq_iff_eq.mp e)
  | .notImplemented :: _, e => .inr (beq_iff_eq.mp e)
  | .bool _ :: _, e => .inr (beq_iff_eq.mp e)
  | .int _ _ :: _, e => .inr (beq_iff_eq.mp e)
  | .float _ _ :: _, e => .inr (beq_iff_eq.mp e)
  | .str _ _ :: _, e => .inr (beq_iff_eq.mp e)
  | .bytes _ _ :: _, e => .inr (beq_iff_eq.mp e)
  | .type _ :: _, e => .inr (beq_iff_eq.mp e)
  | .builtin _ :: _, e => .inr (beq_iff_eq.mp e)
theorem refsB_pass (hp : ∀ self : Value, refuseLoop self "__setattr__" tail = pure ()) (self : Value) : ∀ l : List Value, refsB tail l = true → refuseLoop self "__setattr__" l = pure () := by
  intro l
  induction l with
  | nil =>
    intro e
    have q : ([] : List Value) = tail := beq_iff_eq.mp e
    rw [q]
    exact hp self
  | cons a r ih =>
    intro e
    rcases refsB_cases (a :: r) e with ⟨c, r', q, h⟩ | q
    · obtain ⟨rfl, rfl⟩ := List.cons.inj q
      rw [refuseLoop_ref]
      exact ih h
    · rw [q]
      exact hp self
theorem refsB_contains (X : String) : ∀ l : List Value, refsB tail l = true → l.contains (.type X) = tail.contains (.type X) := by
  intro l
  induction l with
  | nil =>
    intro e
    have q : ([] : List Value) = tail := beq_iff_eq.mp e
    rw [q]
  | cons a r ih =>
    intro e
    rcases refsB_cases (a :: r) e with ⟨c, r', q, h⟩ | q
    · obtain ⟨rfl, rfl⟩ := List.cons.inj q
      rw [List.contains_cons, ih h]
      rfl
    · rw [q]
end
section
open Builtin Builtin.ObjectAttr
variable {prog : Program} {w : World} {A : Around} {E : Value → Shared → Prop} {R : Result → Shared → Prop} {hp : Heap} {g : Array GenState} {d : Drawn} {t : Nat} {os : OsState} {tail : List Value} {B newId initId : String}
theorem osa_new {K : W.Frag} {name : Str} {tk : Tok} {v : Value} {x C : Addr} {fv : Array Value} {cd : ClassData} (EB : ErrBase B newId initId tail)
    (X : K.In hp) (hx : hp.get? x = some { cls := .ref C, data := .fields fv }) (hcd : W.clsIn K C = some cd) (hm : refsB tail cd.mro = true) (hne : cd.mro.isEmpty = false) (hh : cd.hasDict = true) (ha : W.findIn K (.ref C) name = some none)
    (hq : ∀ h' tk' dx, (∀ b o, b ≠ x → hp.get? b = some o → h'.get? b = some o) → hp.objs.size ≤ dx → dx ≠ x → h'.get? x = some { cls := .ref C, dict := some dx, data := .fields fv } →
      h'.Ns1 dx (fun y => if y = name then some v else none) → R (.ok (.ret .none)) ⟨h', g, d, tk', os⟩) :
    codeAny (model prog w) A (.call (.builtin "object.__setattr__") ⟨[.ref x, .str name tk, v], []⟩) R ⟨hp, g, d, t, os⟩ := by
  have I : W.InstAt hp x { cls := .ref C, data := .fields fv } C none := ⟨hx, rfl, rfl, trivial⟩
  have SF := F.store_object
  have hob : cd.mro.contains (.type "object") = true := (refsB_contains "object" _ hm).trans EB.obj
  have hxs : x ≠ hp.objs.size := Nat.ne_of_lt (Heap.lt_size hx)
  have sub : W.Looks (model prog w) hp (isInstance (.ref x) (.type "object")) true := I.type.andThen (W.looks_mroIn X (by unfold W.mroIn; rw [hcd, Option.bind_some, if_neg (by rw [hne]; decide), hob]))
  refine codeAny_call_builtin SF.slot.plain SF.entry (@W.check_slot (model prog w) _ _ ⟨hp, g, d, t, os⟩ "object.__setattr__" "object" "__setattr__" (.ref x) [.str name tk, v] [] _ SF.kind SF.split sub (SF.args (.ref x) (.str name tk) v) ?_)
  have hmr : W.Looks (model prog w) hp (mroOf (.ref C)) cd.mro := (W.looks_clsIn X hcd).andThen .now
  have L3 : W.Looks (model prog w) hp (storeTaker? none) none := .now
  have hcls : W.Looks (model prog w) hp (classData C) cd := W.looks_clsIn X hcd
  rw [W.osa_eq, refuse_eq]
  refine wpAny_bind (wpAny_bind (I.type.at (wpAny_bind (hmr.at ?_))))
  rw [refsB_pass EB.passes _ _ hm]
  refine wpAny_pure (wpAny_bind (I.type.at (wpAny_bind ((W.looks_findIn X ha).at (wpAny_bind (L3.at ?_))))))
  show wpAny _ _ (storeInOwnDict (.ref x) (.ref C) (.str name tk) name v false) _ _ _
  obtain ⟨nm, bs, mro, ns, qn, hd, sn, sb, ab, col, del⟩ := cd
  dsimp only at hh
  subst hh
  unfold storeInOwnDict ownDictForStores
  repeat (first | with_reducible refine store_in_new ?_ ?_ | with_reducible refine wpAny_loadPart_at hx ?_ | with_reducible refine hcls.at ?_ | wp_step)
  · exact ⟨_, #[], _, (Heap.get?_update_ne _ _ _ _ hxs.symm).trans (Heap.get?_push_at rfl rfl), rfl, fun e he => absurd he (by simp), fun _ => rfl⟩
  · intro h' tk' hn' hs
    have hx₁ : (hp.push { cls := .type "dict", data := .dict #[] }).get? x = some { cls := .ref C, data := .fields fv } := Heap.get?_push_of_some _ hx
    refine hq h' tk' hp.objs.size (fun b o hb ho => ?_) (Nat.le_refl _) hxs.symm ?_ hn'
    · exact (hs.2 b (Nat.ne_of_lt (Heap.lt_size ho))).trans ((Heap.get?_update_ne _ _ _ _ hb).trans (Heap.get?_push_of_some _ ho))
    · exact (hs.2 x hxs).trans (Heap.get?_update_self _ hx₁ rfl)
theorem osa_more {K : W.Frag} {name : Str} {tk : Tok} {v : Value} {x C dx : Addr} {fv : Array Value} {cd : ClassData} {m0 : Str → Option Value} {nl : List Str} (EB : ErrBase B newId initId tail)
    (X : K.In hp) (hx : hp.get? x = some { cls := .ref C, dict := some dx, data := .fields fv }) (hns : hp.Ns1 dx m0) (hw : Within m0 nl) (hz : nl.length ≤ 1000) (hcd : W.clsIn K C = some cd) (hm : refsB tail cd.mro = true) (hne : cd.mro.isEmpty = false) (hh : cd.hasDict = true)
    (ha : W.findIn K (.ref C) name = some none)
    (hq : ∀ h' tk', (∀ b o, b ≠ dx → hp.get? b = some o → h'.get? b = some o) → h'.Ns1 dx (fun y => if y = name then some v else m0 y) → R (.ok (.ret .none)) ⟨h', g, d, tk', os⟩) :
    codeAny (model prog w) A (.call (.builtin "object.__setattr__") ⟨[.ref x, .str name tk, v], []⟩) R ⟨hp, g, d, t, os⟩ := by
  obtain ⟨oD, esD, epD, hoD, hdD, _⟩ := hns.count hw
  have I : W.InstAt hp x { cls := .ref C, dict := some dx, data := .fields fv } C (some oD) := ⟨hx, rfl, rfl, hoD⟩
  have SF := F.store_object
  have hob : cd.mro.contains (.type "object") = true := (refsB_contains "object" _ hm).trans EB.obj
  have sub : W.Looks (model prog w) hp (isInstance (.ref x) (.type "object")) true := I.type.andThen (W.looks_mroIn X (by unfold W.mroIn; rw [hcd, Option.bind_some, if_neg (by rw [hne]; decide), hob]))
  refine codeAny_call_builtin SF.slot.plain SF.entry (@W.check_slot (model prog w) _ _ ⟨hp, g, d, t, os⟩ "object.__setattr__" "object" "__setattr__" (.ref x) [.str name tk, v] [] _ SF.kind SF.split sub (SF.args (.ref x) (.str name tk) v) ?_)
  have hmr : W.Looks (model prog w) hp (mroOf (.ref C)) cd.mro := (W.looks_clsIn X hcd).andThen .now
  have L3 : W.Looks (model prog w) hp (storeTaker? none) none := .now
  have hcls : W.Looks (model prog w) hp (classData C) cd := W.looks_clsIn X hcd
  rw [W.osa_eq, refuse_eq]
  refine wpAny_bind (wpAny_bind (I.type.at (wpAny_bind (hmr.at ?_))))
  rw [refsB_pass EB.passes _ _ hm]
  refine wpAny_pure (wpAny_bind (I.type.at (wpAny_bind ((W.looks_findIn X ha).at (wpAny_bind (L3.at ?_))))))
  show wpAny _ _ (storeInOwnDict (.ref x) (.ref C) (.str name tk) name v false) _ _ _
  obtain ⟨nm, bs, mro, ns, qn, hd, sn, sb, ab, col, del⟩ := cd
  dsimp only at hh
  subst hh
  unfold storeInOwnDict ownDictForStores
  repeat (first | with_reducible refine OEX.store_in_old hns hw hz ?_ | with_reducible refine wpAny_loadPart_at hx ?_ | with_reducible refine hcls.at ?_ | wp_step)
  intro h' tk' hn' hs
  exact hq h' tk' (fun b o hb ho => (hs.2 b hb).trans ho) hn'
end
section
variable {prog : Program} {w : World} {A : Around} {E : Value → Shared → Prop} {s : Shared} {K : Frag} {x D : Addr} {ox : Obj} {od : Option Obj}
theorem findObj_dataO {C : Addr} {name : Str} {a g : Value} (hc : (clsIn K C).isSome = true) (ha : findIn K (.ref C) name = some (some a)) (hg : specialIn K a "__get__" = some (some g)) (ht : takesIn K a = some true) : findObj K C od name = some (.bind g a) := by
  obtain ⟨cd, hc⟩ := Option.isSome_iff_exists.mp hc
  unfold findObj
  rw [hc, Option.bind_some, ha, Option.bind_some]
  simp [hg, ht]
/-- x.__class__ of an exception with or without its dict -/
theorem class_of {Q : Option Value → Shared → Prop} (hga : findIn K (.ref D) "__getattribute__" = some (some (.builtin "BaseException.__getattribute__"))) (hgt : findIn K (.ref D) "__getattr__" = some none) (hsub : subIn K (.ref D) (.type "BaseException") = some true)
    (hdct : hasDictIn K D = true) (ha : findIn K (.ref D) "__class__" = some (some (.builtin "object.__class__")))
    (hn : specialIn K (.builtin "object.__class__") "__get__" = some (some (.builtin "getset_descriptor.__get__"))) (htk : takesIn K (.builtin "object.__class__") = some true) (hm : mroIn K D (.type "object") = some true)
    (X : K.In s.heap) (I : InstAt s.heap x ox D od) (h : Q (some (.ref D)) { s with toks := s.toks + 1 }) : wpAny (model prog w) A (getAttr? (.ref x) "__class__") Q E s := by
  have hf : findObj K D od "__class__" = some (.bind (.builtin "getset_descriptor.__get__") (.builtin "object.__class__")) := findObj_dataO (by obtain ⟨cd, hc, _⟩ := any_some hdct; rw [hc]; rfl) ha hn htk
  obtain ⟨hp, g, d, t, os⟩ := s
  have L0 := I.type (M := model prog w)
  have L1 := looks_findIn (M := model prog w) X hga
  have L2 := looks_findIn (M := model prog w) X hgt
  have L3 := looks_find (M := model prog w) X I hf
  have sub : Looks (model prog w) hp (isInstance (.ref x) (.type "BaseException")) true := L0.andThen (looks_subIn X hsub)
  have hx0 : (false && onTheHeap (Value.builtin "BaseException.__getattribute__")) = false := rfl
  have hx2 : (Value.builtin "BaseException.__getattribute__" == Value.builtin "object.__getattribute__") = false := by decide +kernel
  have hx1 : (onTheHeap (Value.ref D) && Value.builtin "BaseException.__getattribute__" == Value.builtin "object.__getattribute__") = false := by rw [hx2]; rfl
  unfold getAttr? getAttrBy? getAttrBy
  refine wpAny_bind (wpAny_mkText (wpAny_bind (wpAny_attempt (wpAny_holding (wpAny_bind (L0.at (wpAny_bind (L1.at ?_))))))))
  show wpAny _ _ (if (onTheHeap (Value.ref D) && Value.builtin "BaseException.__getattribute__" == Value.builtin "object.__getattribute__") = true then _ else _) _ _ _
  rw [hx1, if_neg Bool.false_ne_true]
  unfold getAttrByItsOwn hookBefore
  refine wpAny_bind ?_
  rw [if_pos (show onTheHeap (Value.ref D) = true from rfl)]
  refine L2.at ?_
  refine wpAny_bind (wpAny_attempt (wpAny_holding ?_))
  unfold callGetattribute
  rw [hx0, if_neg Bool.false_ne_true]
  unfold boundAndCalled
  rw [PySem.F.excAttr_ValueError.ga.bind (.ref x)]
  refine wpAny_bind (wpAny_pure ?_)
  show wpAny _ _ (call (.builtin "BaseException.__getattribute__") [.ref x, .str "__class__" t]) _ _ _
  refine wpAny_call (codeAny_call_builtin PySem.F.excAttr_ValueError.ga.plain PySem.F.entry_bexc_ga ?_)
  refine @check_slot (model prog w) _ _ ⟨hp, g, d, t + 1, os⟩ "BaseException.__getattribute__" "BaseException" "__getattribute__" (.ref x) [.str "__class__" t] [] _ (by decide +kernel) (by decide +kernel) sub (PySem.F.args_bexc_ga (.ref x) (.str "__class__" t)) ?_
  unfold Builtin.«object.__getattribute__»
  refine wpAny_bind (wpAny_of_eq (a := ((Value.ref x : Value), [Value.str "__class__" t])) (by first | rfl | (simp only [slotArgs]; rfl)) ?_)
  refine wpAny_bind (wpAny_pure (wpAny_bind (L0.at (wpAny_bind (L3.at ?_)))))
  show wpAny _ _ (holding [Value.builtin "object.__class__"] (call (.builtin "getset_descriptor.__get__") [.builtin "object.__class__", .ref x, .ref D]) >>= ret) _ _ _
  refine wpAny_bind (wpAny_holding (wpAny_call (class_get (s := ⟨hp, g, d, t + 1, os⟩) (ox := ox) (od := od) X I hm ?_)))
  refine wpAny_pure ?_
  show wpAny _ _ (handedOut (.ref D)) _ _ _
  rw [handedOut_of (v := .ref D) rfl]
  first
    | exact wpAny_pure (wpAny_pure h)
    | exact wpAny_pure h
    | exact wpAny_pure (wpAny_bind (wpAny_pure (wpAny_pure h)))
theorem kitx_err (hga : findIn K (.ref D) "__getattribute__" = some (some (.builtin "BaseException.__getattribute__"))) (hgt : findIn K (.ref D) "__getattr__" = some none) (hsub : subIn K (.ref D) (.type "BaseException") = some true) (hdct : hasDictIn K D = true) (ha : findIn K (.ref D) "__class__" = some (some (.builtin "object.__class__")))
    (hn : specialIn K (.builtin "object.__class__") "__get__" = some (some (.builtin "getset_descriptor.__get__"))) (htk : takesIn K (.builtin "object.__class__") = some true) (hm : mroIn K D (.type "object") = some true) :
    KitX K (.ref x) (.ref D) (fun h => ∃ ox od, InstAt h x ox D od) where
  ty := fun _ _ _ ⟨_, _, I⟩ => I.type
  it := fun _ _ X _ => by
    obtain ⟨cdD, hcD, _⟩ := any_some hdct
    unfold clsIn at hcD
    split at hcD
    · rename_i c' d' cd' sl' ho
      intro A' Q' E' s' k q
      unfold isType loadHead
      exact wpAny_bind (wpAny_loadPart (k _ _ (X _ _ ho)) (wpAny_pure q))
    · cases hcD
  ne := fun h tp dd its n sl X htp => by
    obtain ⟨cdD, hcD, _⟩ := any_some hdct
    refine Bool.eq_false_iff.mpr fun q => ?_
    have e : D = tp := Value.ref.inj (beq_iff_eq.mp q)
    subst e
    unfold clsIn at hcD
    split at hcD
    · rename_i c' d' cd' sl' ho
      have z := (X _ _ ho).symm.trans htp
      cases z
    · cases hcD
  ca := fun X ⟨_, _, I⟩ k => class_of hga hgt hsub hdct ha hn htk hm X I k
end
end XV
end PySem

namespace L2
open PySem PySem.Spec PyProof.Rows
open PySem.XV (ErrBase refsB)
/-- what the written part says of an own exception's class -/
structure ExC (K : PySem.W.Frag) (C : Addr) : Prop where
  cls : ∃ nm q N bs bm sn sub ab col dd k0 k1 k2 k3 k5 B newId initId tail, ErrBase B newId initId tail ∧ K.lookup C = some (excClassObj nm q C N bs bm true sn sub ab col dd k0 k1 k2 k3 k5 newId) ∧ refsB tail bm = true
  sa : PySem.W.findIn K (.ref C) "__setattr__" = some (some (.builtin "object.__setattr__"))
  ga : PySem.W.findIn K (.ref C) "__getattribute__" = some (some (.builtin "BaseException.__getattribute__"))
  gg : PySem.W.findIn K (.ref C) "__getattr__" = some none
  exC : PySem.W.subIn K (.ref C) (.type "BaseException") = some true
  tyC : PySem.W.typeIn K (.ref C) = some (.type "type")
  kC : PySem.W.keepIn K (.ref C) = true
  cl : PySem.W.specialIn K (.ref C) "__call__" = some (some (.builtin "type.__call__"))
  inT : PySem.W.instIn K (.ref C) (.type "type") = some true
  hd : PySem.W.hasDictIn K C = true
  ha : PySem.W.findIn K (.ref C) "__class__" = some (some (.builtin "object.__class__"))
  hm : PySem.W.mroIn K C (.type "object") = some true
  hn : PySem.W.specialIn K (.builtin "object.__class__") "__get__" = some (some (.builtin "getset_descriptor.__get__"))
  ht : PySem.W.takesIn K (.builtin "object.__class__") = some true
section
variable {X : Cx} {pins : List (Addr × Obj)} {σ : St} {H : Hp} {s : Shared} {a C dx : Addr} {f : Str} {y : V} {u : Value} {fs : List (Str × V)} {Q : Unit → Shared → Prop} {E : Value → Shared → Prop} {A : Around}
theorem est_new (T : ExC X.K C) (I : Inv X pins σ H s) (e : H a = some (exo a C none)) (hno : PySem.W.findIn X.K (.ref C) f = some none) (ry : RelV y u)
    (h : ∀ dx s', H dx = none → dx ≠ a → Inv X pins σ (upd (upd H dx (exd dx [(f, y)])) a (exo a C (some dx))) s' → Q () s') : wpAny (model X.prog X.w) A (setAttr (.ref a) f u) Q E s := by
  obtain ⟨nm, q, N, bs, bm, sn, sub, ab, col, dd, k0, k1, k2, k3, k5, B, newId, initId, tail, EB, hC, hbm⟩ := T.cls
  have hcl : PySem.W.clsIn X.K C = some { name := nm, bases := bs, mro := .ref C :: bm, ns := N, qualname := q, hasDict := true, slotNames := sn, subclasses := sub, abstract := ab, collection := col, hasDel := false } := by unfold PySem.W.clsIn; rw [hC] <;> rfl
  obtain ⟨t1, ho⟩ := exo_at I.hok e
  obtain ⟨hp, g, d, t, os⟩ := s
  refine PySem.W.set_plain I.kIn (ox := { cls := .ref C, dict := none, data := .fields #[.ref t1, .none, .none, .none, .bool false, .none] }) (od := none) ⟨ho, rfl, rfl, trivial⟩ T.sa ?_
  refine PySem.XV.osa_new EB I.kIn ho hcl (show refsB tail (.ref C :: bm) = true from hbm) rfl rfl hno (fun h' tk' dx k dn dne hx hn => ?_)
  have hnd : H dx = none := I.hok.fresh dn
  have nd : ∀ {b : Addr} {o : Obj}, hp.get? b = some o → b ≠ dx := fun {b o} q => Nat.ne_of_lt (Nat.lt_of_lt_of_le (Heap.lt_size q) dn)
  have na : ∀ {b : Addr}, H b = none → b ≠ a := fun {b} n z => by
    rw [z, e] at n
    cases n
  have Un1 : Un X.fs [] H (upd (upd H dx (exd dx [(f, y)])) a (exo a C (some dx))) hp h' := {
    keep := fun b o q n _ _ => k b o (na n) q
    slot := fun b o q n _ _ => ⟨o.slots, k b o (na n) q⟩
    free := fun b o q n _ => by rw [upd_ne (na n), upd_ne (nd q)]; exact n
    there := fun b o q _ => by
      by_cases hb : b = a
      · exact ⟨_, by rw [hb]; exact hx⟩
      · exact ⟨o, k b o hb q⟩
    tups := fun b xs q => by rw [upd_ne (at_ne e q exo_tup), upd_ne (ne_of_none q hnd)]; exact q
    frzs := fun b o v q => by rw [upd_ne (at_ne e q exo_frz), upd_ne (ne_of_none q hnd)]; exact q
    tbls := fun b ps q => ⟨#[], by rw [upd_ne (at_ne e q exo_tbl), upd_ne (ne_of_none q hnd), q]; simp⟩ }
  refine h dx _ hnd dne (I.un (t' := tk') Un1 fun b o q => ?_)
  by_cases hb : b = a
  · subst hb
    rw [upd_same] at q
    cases q
    exact exo_ok hx
  · rw [upd_ne hb] at q
    by_cases hd : b = dx
    · subst hd
      rw [upd_same] at q
      cases q
      exact exd_ok hn (relO_put (fs := []) ry fun g => True.intro)
    · rw [upd_ne hd] at q
      exact (I.hok b o q).stay (fun c v hc z => k c v (by
          rcases hc with hc | hc
          · rw [hc]
            exact hb
          · exact at_ne e hc exo_own) z)
        (fun c hc => by rw [upd_ne (at_ne e hc exo_own), upd_ne (ne_of_none hc hnd)]; exact hc) (fun c xs hc => by rw [upd_ne (at_ne e hc exo_tup), upd_ne (ne_of_none hc hnd)]; exact hc)
theorem est_more (T : ExC X.K C) (I : Inv X pins σ H s) (e : H a = some (exo a C (some dx))) (ed : H dx = some (exd dx fs)) (hl : fs.length ≤ 900) (hno : PySem.W.findIn X.K (.ref C) f = some none) (ry : RelV y u)
    (h : ∀ s', Inv X pins σ (upd H dx (exd dx ((f, y) :: fs))) s' → Q () s') : wpAny (model X.prog X.w) A (setAttr (.ref a) f u) Q E s := by
  obtain ⟨nm, q, N, bs, bm, sn, sub, ab, col, dd, k0, k1, k2, k3, k5, B, newId, initId, tail, EB, hC, hbm⟩ := T.cls
  have hcl : PySem.W.clsIn X.K C = some { name := nm, bases := bs, mro := .ref C :: bm, ns := N, qualname := q, hasDict := true, slotNames := sn, subclasses := sub, abstract := ab, collection := col, hasDel := false } := by unfold PySem.W.clsIn; rw [hC] <;> rfl
  obtain ⟨t1, ho⟩ := exo_at I.hok e
  obtain ⟨mA, hns, rel⟩ := exd_at I.hok ed
  have hw := within_of rel
  obtain ⟨hp, g, d, t, os⟩ := s
  obtain ⟨oD, _, _, hoD, _, _⟩ := hns.count hw
  refine PySem.W.set_plain I.kIn (ox := { cls := .ref C, dict := some dx, data := .fields #[.ref t1, .none, .none, .none, .bool false, .none] }) (od := some oD) ⟨ho, rfl, rfl, hoD⟩ T.sa ?_
  refine PySem.XV.osa_more EB I.kIn ho hns hw (by rw [List.length_map]; omega) hcl (show refsB tail (.ref C :: bm) = true from hbm) rfl rfl hno (fun h' tk' k hn => ?_)
  have hd : ∃ o, h'.get? dx = some o := by
    obtain ⟨o, _, _, e', _⟩ := hn
    exact ⟨o, e'⟩
  exact h _ (I.write (t' := tk') (x := dx) (e := dx) (o := exd dx ((f, y) :: fs)) (by rw [ed]; exact True.intro) (.inl rfl) k hd (exd_ok hn (relO_put ry rel)))
end
/-- self.f = e -/
def tEst (K : PySem.W.Frag) (f : Str) (to te : TE) : TS := fun D σ H => te σ H fun y H1 => to σ H1 fun x H2 => ∃ a C : Addr, x = .ref a ∧ ExC K C ∧ PySem.W.findIn K (.ref C) f = some none ∧
  ((H2 a = some (exo a C none) ∧ ∀ dx, H2 dx = none → dx ≠ a → D.nx σ (upd (upd H2 dx (exd dx [(f, y)])) a (exo a C (some dx)))) ∨
    ∃ (dx : Addr) (fs : List (Str × V)), H2 a = some (exo a C (some dx)) ∧ H2 dx = some (exd dx fs) ∧ fs.length ≤ 900 ∧ D.nx σ (upd H2 dx (exd dx ((f, y) :: fs))))
section
variable {X : Cx} {o e : Expr} {es : List Expr} {to te : TE} {ta : TA} {f : Str} {p p' p1 p2 pos : Pos}
theorem ps_est (ho : PE X o to) (he : PE X e te) (hs : swapsWith e (some (.Attribute o f p')) pos.line X.env = pure false := by rfl) : PS X (.Assign [.Attribute o f p'] e pos) (tEst X.K f to te) := by
  refine ⟨fun pins s σ H D I h => ?_⟩
  refine plainObj_wpAny_Assign_Attribute (thn (he.run pins s σ H _ I h) fun v s1 ⟨y, H1, I1, r1, q1⟩ => thn (ho.run pins s1 σ H1 _ I1 q1) fun u s2 ⟨x, H2, I2, r2, a, C, ex, T, hno, q⟩ => ?_) hs
  subst ex
  obtain rfl : u = Value.ref a := r2
  rcases q with ⟨ea, q⟩ | ⟨dx, fs, ea, ed, hl, q⟩
  · exact est_new T I2 ea hno r1 fun dx s' n ne J => ⟨σ, _, J, q dx n ne⟩
  · exact est_more T I2 ea ed hl hno r1 fun s' J => ⟨σ, _, J, q⟩
/-- e.f of an exception that stands as a value -/
def tEfd (K : PySem.W.Frag) (f : Str) (te : TE) : TE := fun σ H Q => te σ H fun x H1 => ∃ (a C dx : Addr) (fs : List (Str × V)) (v : V), x = .ref a ∧ ExC K C ∧ PySem.W.findIn K (.ref C) f = some none ∧ H1 a = some (exo a C (some dx)) ∧ H1 dx = some (exd dx fs) ∧ fs.lookup f = some v ∧ Q v H1
theorem pe_efd (he : PE X e te) (hb : attributeBase e f X.env (eval e X.env) = eval e X.env := by rfl) : PE X (.Attribute e f pos) (tEfd X.K f te) := by
  refine ⟨fun pins s σ H Q I h => ?_⟩
  refine attr_of hb (thn (he.run pins s σ H _ I h) fun u s1 hh => ?_)
  obtain ⟨x, H1, I1, rx, a, C, dx, fs, v, ex, T, hno, ea, ed, hl, q⟩ := hh
  subst ex
  obtain rfl : u = Value.ref a := rx
  obtain ⟨t1, ho⟩ := exo_at I1.hok ea
  obtain ⟨mA, hns, rel⟩ := exd_at I1.hok ed
  obtain ⟨od, hod, hlk⟩ := lookIn_ns hns
  obtain ⟨u, hu, ru⟩ := RelO.some_of (v := v) (o := mA f) (by rw [← hl]; exact rel f)
  have J : PySem.W.InstAt s1.heap a { cls := .ref C, dict := some dx, data := .fields #[.ref t1, .none, .none, .none, .bool false, .none] } C (some od) := ⟨ho, rfl, rfl, hod⟩
  exact HandSPX.exc_get I1.kIn J T.ga T.gg T.exC (PySem.W.findObj_own T.hd hno rfl (by rw [hlk, hu])) (handed_of ru) ⟨v, H1, I1.tok _, ru, q⟩
/-- isinstance(e, c), e an exception that stands as a value -/
def rIsV (K : PySem.W.Frag) : List V → Hp → VK → Prop := fun xs H Q => ∃ (a C : Addr) (c : V) (u : Value) (b : Bool), xs = [.ref a, c] ∧ ClsV c u ∧ ExC K C ∧ (H a = some (exo a C none) ∨ ∃ dx fs, H a = some (exo a C (some dx)) ∧ H dx = some (exd dx fs)) ∧ PySem.W.kitOne K (.ref C) u = some b ∧ Q (.bl b) H
theorem call_isV {X : Cx} : CallR X (.builtin "isinstance") (rIsV X.K) := by
  intro pins s σ H xs us Q I r h
  obtain ⟨a, C, c, u, b, rfl, k, T, ha, e, q⟩ := h
  obtain ⟨u1, u2, rfl, r1, r2⟩ := vals2 r
  have e2 := k.eq r2
  subst e2
  obtain rfl : u1 = Value.ref a := r1
  have J : ∃ ox od, PySem.W.InstAt s.heap a ox C od := by
    rcases ha with ha | ⟨dx, fs, ha, hd⟩
    · obtain ⟨t1, ho⟩ := exo_at I.hok ha
      exact ⟨_, none, ho, rfl, rfl, trivial⟩
    · obtain ⟨t1, ho⟩ := exo_at I.hok ha
      obtain ⟨mA, hns, rel⟩ := exd_at I.hok hd
      obtain ⟨od, hod, _⟩ := lookIn_ns hns
      exact ⟨_, some od, ho, rfl, rfl, hod⟩
  exact PySem.W.kia_one (PySem.XV.kitx_err T.ga T.gg T.exC T.hd T.ha T.hn T.ht T.hm) I.kIn J e (fun z => nomatch z) fun tk => ⟨.bl b, H, I.tok tk, rfl, q⟩
end
/-! ### made by a call -/
/-- C(e, ..), C(k = e, ..): a new exception, then its __init__ -/
def tEmk (C : Addr) (n m : Nat) (sp : Sp) (gV : List V → List V → List V) (t tk : TA) : TE := fun σ H Q => t σ H fun vs H1 => tk σ H1 fun zs H2 => vs.length = n ∧ zs.length = m ∧ n ≤ 1000 ∧ ∀ a, H2 a = none →
  sp (gV (.ref a :: vs) zs) (upd H2 a (exo a C none)) (fun v H3 => v = .non ∧ Q (.ref a) H3) E0
section
variable {X : Cx} {CX : CXT} {k n : Nat} {fI C : Addr} {fd : FuncData} {ps ks : List Str} {sp : Sp} {x : Str} {p pos : Pos} {e : Expr} {es : List Expr} {kws : List Keyword} {t tk : TA} {g : List Value → List Value → List Value} {gV : List V → List V → List V}
theorem run_emk {pins : List (Addr × Obj)} {σ : St} {H : Hp} {s : Shared} {Q : VK} {us ws : List Value} {vs zs : List V} (T : ExC X.K C) (iC : PySem.W.findIn X.K (.ref C) "__init__" = some (some (.ref fI))) (tI : PySem.W.typeIn X.K (.ref fI) = some (.type "function"))
    (F : FnOk X.prog X.w X.K X.mg X.base CX k fI fd ps sp) (hr : Room (k + 1) X.A) (hb : KBn X.K fd ps (n + 1) ks g gV) (hx : Passes CX X E0)
    (I : Inv X pins σ H s) (r : Vals vs us) (rz : Vals zs ws) (l1 : vs.length = n) (l2 : zs.length = ks.length) (l3 : n ≤ 1000)
    (h : ∀ a, H a = none → sp (gV (.ref a :: vs) zs) (upd H a (exo a C none)) (fun v H2 => v = .non ∧ Q (.ref a) H2) E0) :
    wpAny (model X.prog X.w) X.A (call (.ref C) us (ks.zip ws)) (EP X pins σ Q) X.xe s := by
  obtain ⟨nm, q, N, bs, bm, sn, sub, ab, col, dd, k0, k1, k2, k3, k5, B, newId, initId, tail, EB, hC, hbm⟩ := T.cls
  obtain ⟨hp, gg, dr, tok, os⟩ := s
  have hsz : hp.objs.size ≤ hp.objs.size + 1 := Nat.le_succ _
  have hn : H (hp.objs.size + 1) = none := I.hok.fresh hsz
  have hq := h (hp.objs.size + 1) hn
  have kk : ∀ b o, hp.get? b = some o → ((hp.push (PySem.W.kdv_tup us)).push (PySem.HandSPX.excO C hp.objs.size)).get? b = some o := fun b o e => Heap.get?_push_of_some _ (Heap.get?_push_of_some _ e)
  have hget : ((hp.push (PySem.W.kdv_tup us)).push (PySem.HandSPX.excO C hp.objs.size)).get? (hp.objs.size + 1) = some (PySem.HandSPX.excO C hp.objs.size) := by heap_get
  have I2 : Inv X pins σ (upd H (hp.objs.size + 1) (exo (hp.objs.size + 1) C none)) ⟨(hp.push (PySem.W.kdv_tup us)).push (PySem.HandSPX.excO C hp.objs.size), gg, dr, tok, os⟩ :=
    I.laid (t' := tok) (a := hp.objs.size + 1) (o := exo (hp.objs.size + 1) C none) (h' := (hp.push (PySem.W.kdv_tup us)).push (PySem.HandSPX.excO C hp.objs.size)) kk hsz (exo_ok hget)
  have r1 : Vals (V.ref (hp.objs.size + 1) :: vs) (Value.ref (hp.objs.size + 1) :: us) := .cons rfl r
  have r2 := hb.rel r1 rz
  have e1 : (Value.ref (hp.objs.size + 1) :: us).length = n + 1 := r1.length.symm.trans (congrArg Nat.succ l1)
  have e2 : ws.length = ks.length := rz.length.symm.trans l2
  have hus : us.length ≤ sizeLine := by
    rw [← Paired.length r, sizeLine_eq]
    omega
  refine wpAny_call (PySem.XV.call_kw EB.F (fun Y => PySem.XV.refsB_contains Y bm hbm) (I.kIn _ _ hC) (PySem.W.looks_findIn I.kIn iC) (fun self => PySem.W.bind_fn I.kIn self tI) hus (PySem.W.looks_specialIn I.kIn T.cl) (PySem.W.looks_instIn I.kIn T.inT)
    (codeAny_mono (F.run _ X.stack _ _ ⟨Value.ref (hp.objs.size + 1) :: us, ks.zip ws⟩ (g (Value.ref (hp.objs.size + 1) :: us) ws) _ _ E0 (hr.make C us (ks.zip ws)) (I2.env0.make C us (ks.zip ws)) (hb.to _ (Value.ref (hp.objs.size + 1) :: us) ws I2.kIn e1 e2) r2 hq) fun r s' hq' => ?_))
  cases r with
  | error er => exact hx pins σ _ _ er s' I2 hq'
  | ok fl =>
    cases fl with
    | ret u =>
      obtain ⟨v, H', I3, rv, ev, q3⟩ := I2.after hq'
      subst ev
      exact ⟨rv, ⟨V.ref (hp.objs.size + 1), H', I3, rfl, q3⟩⟩
    | next => exact False.elim hq'
    | brk => exact False.elim hq'
    | cont => exact False.elim hq'
theorem pe_emk (T : ExC X.K C) (iC : PySem.W.findIn X.K (.ref C) "__init__" = some (some (.ref fI))) (tI : PySem.W.typeIn X.K (.ref fI) = some (.type "function"))
    (F : FnOk X.prog X.w X.K X.mg X.base CX k fI fd ps sp) (hr : Room (k + 1) X.A) (hg : Gl X x) (hm : X.mg x = some (.ref C)) (hb : KBn X.K fd ps (n + 1) [] g gV) (hx : Passes CX X E0)
    (ha : PA X (e :: es) t) (hdb : (x == ("__debug__" : Str)) = false := by decide) (he : starEach (e :: es) X.env = (false, eval e X.env) :: starEach es X.env := by rfl) (hpl : (backTo pos (starEach es X.env)).any (·.1) = false := by rfl) :
    PE X (.Call (.Name x p) (e :: es) [] pos) (tEmk C n 0 sp gV t tNil) := by
  refine ⟨fun pins s σ H Q I h => ?_⟩
  refine wpAny_Call_Name_kw (ld_glob I hg hm ?_ hdb)
  refine PySem.W.callWith_K (h₀ := X.base) I.ok.mod.kin T.kC (thn (ha.run pos pins s σ H _ I h) fun us s1 ⟨vs, H1, I1, r, l1, l2, l3, q⟩ => ⟨I1.kIn, ?_⟩) he hpl
  exact run_emk (ks := []) (ws := []) T iC tI F hr hb hx I1 r .nil l1 l2 l3 q
theorem pe_emk0 (T : ExC X.K C) (iC : PySem.W.findIn X.K (.ref C) "__init__" = some (some (.ref fI))) (tI : PySem.W.typeIn X.K (.ref fI) = some (.type "function"))
    (F : FnOk X.prog X.w X.K X.mg X.base CX k fI fd ps sp) (hr : Room (k + 1) X.A) (hg : Gl X x) (hm : X.mg x = some (.ref C)) (hb : KBn X.K fd ps 1 ks g gV) (hx : Passes CX X E0) (hkw : PK X kws tk)
    (hall : (backToKw pos (keywordEach kws X.env)).all (·.1.isSome) = true := by rfl) (hks : (backToKw pos (keywordEach kws X.env)).filterMap (·.1) = ks := by rfl) (hdb : (x == ("__debug__" : Str)) = false := by decide)
    (hpl : ((backTo pos (starEach [] X.env)).any (·.1) || (backToKw pos (keywordEach kws X.env)).any (·.1.isNone)) = false := by rfl) :
    PE X (.Call (.Name x p) [] kws pos) (tEmk C 0 ks.length sp gV tNil tk) := by
  refine ⟨fun pins s σ H Q I h => ?_⟩
  refine wpAny_Call_Name_kw (ld_glob I hg hm ?_ hdb)
  refine PySem.W.callWith_KW0 (h₀ := X.base) I.ok.mod.kin T.kC hall ?_ hpl
  refine thn (hkw.run pos pins s σ H _ I h) fun ws s2 ⟨zs, H2, I2, rz, l1, l2, l3, q2⟩ => ⟨I2.kIn, ?_⟩
  rw [hks]
  exact run_emk (us := []) (vs := []) T iC tI F hr hb hx I2 .nil rz rfl l2 l3 q2
/-- f(k = e, ..): keywords alone -/
theorem pe_callN0 {f : Addr} {E : XK} (F : FnOk X.prog X.w X.K X.mg X.base CX k f fd ps sp) (hr : Room k X.A) (hg : Gl X x) (hm : X.mg x = some (.ref f)) (hk : PySem.W.keepIn X.K (.ref f) = true) (hb : KBn X.K fd ps 0 ks g gV) (hx : Passes CX X E) (hkw : PK X kws tk)
    (hall : (backToKw pos (keywordEach kws X.env)).all (·.1.isSome) = true := by rfl) (hks : (backToKw pos (keywordEach kws X.env)).filterMap (·.1) = ks := by rfl) (hdb : (x == ("__debug__" : Str)) = false := by decide)
    (hpl : ((backTo pos (starEach [] X.env)).any (·.1) || (backToKw pos (keywordEach kws X.env)).any (·.1.isNone)) = false := by rfl) :
    PE X (.Call (.Name x p) [] kws pos) (tCallN 0 ks.length sp gV E tNil tk) := by
  refine ⟨fun pins s σ H Q I h => ?_⟩
  refine wpAny_Call_Name_kw (ld_glob I hg hm ?_ hdb)
  refine PySem.W.callWith_KW0 (h₀ := X.base) I.ok.mod.kin hk hall ?_ hpl
  refine thn (hkw.run pos pins s σ H _ I h) fun ws s2 ⟨zs, H2, I2, rz, l1, l2, q2⟩ => ⟨I2.kIn, ?_⟩
  rw [hks]
  exact run_fnN (us := []) (vs := []) F hr hb hx I2 .nil rz rfl l2 q2
end
end L2
set_option Elab.async false
set_option linter.all false
set_option maxRecDepth 100000
set_option maxHeartbeats 4000000
/-! own exceptions: made without an __init__ of their own, with one field, with two -/
namespace L2
open PySem PySem.Spec PyProof.Rows
section
variable {X : Cx}
/-- C(), no __init__ of its own -/
theorem pe_emkN {C : Addr} {bmB : List Value} {B newId initId : String} {x : Str} {p pos : Pos} (F : ExcBaseFacts B newId initId bmB) (q : PySem.W.excIn X.K C bmB newId = true) (gC : X.mg x = some (.ref C)) (kC : PySem.W.keepIn X.K (.ref C) = true) (hg : Gl X x)
    (hdb : (x == ("__debug__" : Str)) = false := by decide) :
    PE X (.Call (.Name x p) [] [] pos) (fun _ H Q => ∀ a, H a = none → Q (.ref a) (upd H a (exo a C none))) := by
  refine ⟨fun pins s σ H Q I h => ?_⟩
  refine wpAny_Call_Name_kw (ld_glob I hg gC ?_ hdb)
  refine PySem.W.callWith_K0 I.kIn kC ?_
  obtain ⟨bm, N, nm, qn, bs, hdct, sn, sub, ab, col, dd, k0, k1, k2, k3, k5, mN, hC, hN, hni, T⟩ := exc_obj I.kIn q
  refine wpAny_call_exc_subT F T hC hN hni (fun h' a hm => ?_) (by show 0 ≤ sizeLine; exact Nat.zero_le _)
  have hn : H a = none := I.hok.gone hm.new
  obtain ⟨t, ht, _, _⟩ := hm.there
  exact ⟨.ref a, upd H a (exo a C none), I.laidN hm.keeps hm.new hn (exo_ok ht), rfl, h a hn⟩
end
theorem upd_thrice {H : Hp} {a dx : Addr} {o1 o2 o3 : HO} : upd (upd (upd H a o1) dx o2) a o3 = upd (upd H dx o2) a o3 := by
  funext b
  unfold upd
  by_cases h1 : b = a
  · rw [if_pos h1, if_pos h1]
  · rw [if_neg h1, if_neg h1]
    by_cases h2 : b = dx
    · rw [if_pos h2, if_neg h1]
    · rw [if_neg h2, if_neg h1]
theorem upd_comm {H : Hp} {a dx : Addr} {o1 o2 : HO} (ne : dx ≠ a) : upd (upd H a o1) dx o2 = upd (upd H dx o2) a o1 := by
  funext b
  unfold upd
  by_cases h1 : b = dx
  · rw [if_pos h1, if_neg (fun z => ne (h1.symm.trans z)), if_pos h1]
  · rw [if_neg h1]
    by_cases h2 : b = a
    · rw [if_pos h2, if_pos h2]
    · rw [if_neg h2, if_neg h2, if_neg h1]
/-! ### __init__ with one field -/
def iA1 (f : Str) (p1 p2 : Pos) : Arguments := { posonlyargs := [], args := [{ arg := "self", annotation := none, pos := p1 }, { arg := f, annotation := none, pos := p2 }], vararg := none, kwonlyargs := [], kw_defaults := [], kwarg := none, defaults := [] }
def iB1 (f : Str) (q1 q2 q3 q4 : Pos) : List Stmt := [.Assign [.Attribute (.Name "self" q1) f q2] (.Name f q3) q4]
def iS1 (f : Str) : Scope := { kind := .function, names := [(PySem.Str.ofString "self", .local), (f, .local)], isGenerator := false, isCoroutine := false, more := [] }
def iSt1 (f : Str) (p1 p2 q1 q2 q3 q4 pos : Pos) : Stmt := .FunctionDef "__init__" (iA1 f p1 p2) (iB1 f q1 q2 q3 q4) [] none [] (iS1 f) none "__init__" pos
def iA2 (f g : Str) (p1 p2 p3 : Pos) : Arguments := { posonlyargs := [], args := [{ arg := "self", annotation := none, pos := p1 }, { arg := f, annotation := none, pos := p2 }, { arg := g, annotation := none, pos := p3 }], vararg := none, kwonlyargs := [], kw_defaults := [], kwarg := none, defaults := [] }
def iB2 (f g : Str) (q1 q2 q3 q4 r1 r2 r3 r4 : Pos) : List Stmt := [.Assign [.Attribute (.Name "self" q1) f q2] (.Name f q3) q4, .Assign [.Attribute (.Name "self" r1) g r2] (.Name g r3) r4]
def iS2 (f g : Str) : Scope := { kind := .function, names := [(PySem.Str.ofString "self", .local), (f, .local), (g, .local)], isGenerator := false, isCoroutine := false, more := [] }
def iSt2 (f g : Str) (p1 p2 p3 q1 q2 q3 q4 r1 r2 r3 r4 pos : Pos) : Stmt := .FunctionDef "__init__" (iA2 f g p1 p2 p3) (iB2 f g q1 q2 q3 q4 r1 r2 r3 r4) [] none [] (iS2 f g) none "__init__" pos
theorem sc_value : FnScope ["self", "value"] ["self", "value"] (iS1 "value") := ⟨rfl, rfl, rfl, by decide +kernel, rfl, by decide +kernel, by decide +kernel⟩
theorem sc_position : FnScope ["self", "position"] ["self", "position"] (iS1 "position") := ⟨rfl, rfl, rfl, by decide +kernel, rfl, by decide +kernel, by decide +kernel⟩
theorem sc_line : FnScope ["self", "line"] ["self", "line"] (iS1 "line") := ⟨rfl, rfl, rfl, by decide +kernel, rfl, by decide +kernel, by decide +kernel⟩
theorem sc_one : FnScope ["self", "one", "other"] ["self", "one", "other"] (iS2 "one" "other") := ⟨rfl, rfl, rfl, by decide +kernel, rfl, by decide +kernel, by decide +kernel⟩
theorem sc_what : FnScope ["self", "what", "limit"] ["self", "what", "limit"] (iS2 "what" "limit") := ⟨rfl, rfl, rfl, by decide +kernel, rfl, by decide +kernel, by decide +kernel⟩
def spI1 (K : PySem.W.Frag) (f : Str) : Sp := fun vs H Q _ => ∃ (a C : Addr) (y : V), vs = [.ref a, y] ∧ ExC K C ∧ PySem.W.findIn K (.ref C) f = some none ∧ H a = some (exo a C none) ∧
  ∀ dx, H dx = none → dx ≠ a → Q .non (upd (upd H dx (exd dx [(f, y)])) a (exo a C (some dx)))
def spI2 (K : PySem.W.Frag) (f g : Str) : Sp := fun vs H Q _ => ∃ (a C : Addr) (y z : V), vs = [.ref a, y, z] ∧ ExC K C ∧ PySem.W.findIn K (.ref C) f = some none ∧ PySem.W.findIn K (.ref C) g = some none ∧ H a = some (exo a C none) ∧
  ∀ dx, H dx = none → dx ≠ a → Q .non (upd (upd (upd H dx (exd dx [(f, y)])) a (exo a C (some dx))) dx (exd dx [(g, z), (f, y)]))
def one1 (k : V → Hp → Prop) : List V → Hp → Prop
  | [y], H => k y H
  | _, _ => False
def two2 (k : V → V → Hp → Prop) : List V → Hp → Prop
  | [y, z], H => k y z H
  | _, _ => False
section
variable {P : Program} {w : World} {K : PySem.W.Frag} {mg : Str → Option Value} {base : Heap} {qual : Str} {fI : Addr} {fd : FuncData} {p1 p2 p3 q1 q2 q3 q4 r1 r2 r3 r4 pos : Pos}
theorem ok_value (F : Fun K "__init__" qual (iSt1 "value" p1 p2 q1 q2 q3 q4 pos) fI fd) : FnOk P w K mg base CX0 1 fI fd ["self", "value"] (spI1 K "value") := by
  refine F.ok (show FnScope _ _ (defScope _) from sc_value) (fun vs H Q E h => ?_) (fun cdv A outer s H vs Q E hr h => ?_)
  · obtain ⟨a, C, y, rfl, _⟩ := h
    rfl
  · obtain ⟨a, C, y, rfl, T, no, ha, q⟩ := h
    exact ⟨_, pss_one (ps_est (pv 0) (pv 1)), _, rfl, _, rfl, a, C, rfl, T, no, .inl ⟨ha, q⟩⟩
theorem ok_position (F : Fun K "__init__" qual (iSt1 "position" p1 p2 q1 q2 q3 q4 pos) fI fd) : FnOk P w K mg base CX0 1 fI fd ["self", "position"] (spI1 K "position") := by
  refine F.ok (show FnScope _ _ (defScope _) from sc_position) (fun vs H Q E h => ?_) (fun cdv A outer s H vs Q E hr h => ?_)
  · obtain ⟨a, C, y, rfl, _⟩ := h
    rfl
  · obtain ⟨a, C, y, rfl, T, no, ha, q⟩ := h
    exact ⟨_, pss_one (ps_est (pv 0) (pv 1)), _, rfl, _, rfl, a, C, rfl, T, no, .inl ⟨ha, q⟩⟩
theorem ok_line (F : Fun K "__init__" qual (iSt1 "line" p1 p2 q1 q2 q3 q4 pos) fI fd) : FnOk P w K mg base CX0 1 fI fd ["self", "line"] (spI1 K "line") := by
  refine F.ok (show FnScope _ _ (defScope _) from sc_line) (fun vs H Q E h => ?_) (fun cdv A outer s H vs Q E hr h => ?_)
  · obtain ⟨a, C, y, rfl, _⟩ := h
    rfl
  · obtain ⟨a, C, y, rfl, T, no, ha, q⟩ := h
    exact ⟨_, pss_one (ps_est (pv 0) (pv 1)), _, rfl, _, rfl, a, C, rfl, T, no, .inl ⟨ha, q⟩⟩
theorem ok_one (F : Fun K "__init__" qual (iSt2 "one" "other" p1 p2 p3 q1 q2 q3 q4 r1 r2 r3 r4 pos) fI fd) : FnOk P w K mg base CX0 1 fI fd ["self", "one", "other"] (spI2 K "one" "other") := by
  refine F.ok (show FnScope _ _ (defScope _) from sc_one) (fun vs H Q E h => ?_) (fun cdv A outer s H vs Q E hr h => ?_)
  · obtain ⟨a, C, y, z, rfl, _⟩ := h
    rfl
  · obtain ⟨a, C, y, z, rfl, T, no, no2, ha, q⟩ := h
    refine ⟨_, pss_cons (ps_est (pv 0) (pv 1)) (pss_one (ps_est (pv 0) (pv 2))), _, rfl, _, rfl, a, C, rfl, T, no, .inl ⟨ha, fun dx nd ne => ?_⟩⟩
    exact ⟨_, rfl, _, rfl, a, C, rfl, T, no2, .inr ⟨dx, [("one", y)], upd_same, by rw [upd_ne ne, upd_same], Nat.le_of_ble_eq_true rfl, q dx nd ne⟩⟩
theorem ok_what (F : Fun K "__init__" qual (iSt2 "what" "limit" p1 p2 p3 q1 q2 q3 q4 r1 r2 r3 r4 pos) fI fd) : FnOk P w K mg base CX0 1 fI fd ["self", "what", "limit"] (spI2 K "what" "limit") := by
  refine F.ok (show FnScope _ _ (defScope _) from sc_what) (fun vs H Q E h => ?_) (fun cdv A outer s H vs Q E hr h => ?_)
  · obtain ⟨a, C, y, z, rfl, _⟩ := h
    rfl
  · obtain ⟨a, C, y, z, rfl, T, no, no2, ha, q⟩ := h
    refine ⟨_, pss_cons (ps_est (pv 0) (pv 1)) (pss_one (ps_est (pv 0) (pv 2))), _, rfl, _, rfl, a, C, rfl, T, no, .inl ⟨ha, fun dx nd ne => ?_⟩⟩
    exact ⟨_, rfl, _, rfl, a, C, rfl, T, no2, .inr ⟨dx, [("what", y)], upd_same, by rw [upd_ne ne, upd_same], Nat.le_of_ble_eq_true rfl, q dx nd ne⟩⟩
end
/-- an own error named x with the one field f -/
structure ErC1 (K : PySem.W.Frag) (mg : Str → Option Value) (f x : Str) (C : Addr) : Prop where
  T : ExC K C
  g : mg x = some (.ref C)
  no : PySem.W.findIn K (.ref C) f = some none
  init : ∃ (fI : Addr) (fd : FuncData), PySem.W.findIn K (.ref C) "__init__" = some (some (.ref fI)) ∧ PySem.W.typeIn K (.ref fI) = some (.type "function") ∧ KBn K fd ["self", f] 2 [] (fun us _ => us) (fun vs _ => vs) ∧
    KBn K fd ["self", f] 1 [f] (fun us ws => us ++ ws) (fun vs zs => vs ++ zs) ∧ ∀ (P : Program) (w : World) (base : Heap), FnOk P w K mg base CX0 1 fI fd ["self", f] (spI1 K f)
structure ErC2 (K : PySem.W.Frag) (mg : Str → Option Value) (f g x : Str) (C : Addr) : Prop where
  T : ExC K C
  gm : mg x = some (.ref C)
  no : PySem.W.findIn K (.ref C) f = some none
  no2 : PySem.W.findIn K (.ref C) g = some none
  init : ∃ (fI : Addr) (fd : FuncData), PySem.W.findIn K (.ref C) "__init__" = some (some (.ref fI)) ∧ PySem.W.typeIn K (.ref fI) = some (.type "function") ∧ KBn K fd ["self", f, g] 3 [] (fun us _ => us) (fun vs _ => vs) ∧
    KBn K fd ["self", f, g] 1 [g, f] (fun us ws => us ++ ws.reverse) (fun vs zs => vs ++ zs.reverse) ∧ ∀ (P : Program) (w : World) (base : Heap), FnOk P w K mg base CX0 1 fI fd ["self", f, g] (spI2 K f g)
theorem Vals.rev {vs : List V} {us : List Value} (r : Vals vs us) : Vals vs.reverse us.reverse := by
  induction r with
  | nil => exact .nil
  | cons h t ih =>
    rw [List.reverse_cons, List.reverse_cons]
    exact ih.append (.cons h .nil)
section
variable {K : PySem.W.Frag} {mg : Str → Option Value} {C fI : Addr} {x qual : Str} {oc : Value} {od an : Option Addr} {osl : Array (Option Value)} {kV doc pm cdv ct : Value} {p1 p2 p3 q1 q2 q3 q4 r1 r2 r3 r4 : Pos}
theorem erc_value (T : ExC K C) (g : mg x = some (.ref C)) (no : PySem.W.findIn K (.ref C) "value" = some none) (i : PySem.W.findIn K (.ref C) "__init__" = some (some (.ref fI))) (t : PySem.W.typeIn K (.ref fI) = some (.type "function"))
    (l : K.lookup fI = some ⟨oc, od, .func (PySem.W.fnOf "__init__" qual (iA1 "value" p1 p2) (iB1 "value" q1 q2 q3 q4) (iS1 "value") .none kV doc pm an cdv ct), osl⟩) (c : PySem.W.codeIn K cdv qual = true) (k : PySem.W.keepIn K (.ref fI) = true) : ErC1 K mg "value" x C :=
  ⟨T, g, no, fI, _, i, t, ⟨fun s us ws _ h1 h2 => match us, h1, ws, h2 with | [_, _], _, [], _ => .of_eq rfl, fun r _ => r⟩, ⟨fun s us ws _ h1 h2 => match us, h1, ws, h2 with | [_], _, [_], _ => .of_eq rfl, fun r r' => r.append r'⟩,
    fun P w base => ok_value (fun_mk (st := iSt1 "value" p1 p2 q1 q2 q3 q4 p1) l c k)⟩
theorem erc_position (T : ExC K C) (g : mg x = some (.ref C)) (no : PySem.W.findIn K (.ref C) "position" = some none) (i : PySem.W.findIn K (.ref C) "__init__" = some (some (.ref fI))) (t : PySem.W.typeIn K (.ref fI) = some (.type "function"))
    (l : K.lookup fI = some ⟨oc, od, .func (PySem.W.fnOf "__init__" qual (iA1 "position" p1 p2) (iB1 "position" q1 q2 q3 q4) (iS1 "position") .none kV doc pm an cdv ct), osl⟩) (c : PySem.W.codeIn K cdv qual = true) (k : PySem.W.keepIn K (.ref fI) = true) : ErC1 K mg "position" x C :=
  ⟨T, g, no, fI, _, i, t, ⟨fun s us ws _ h1 h2 => match us, h1, ws, h2 with | [_, _], _, [], _ => .of_eq rfl, fun r _ => r⟩, ⟨fun s us ws _ h1 h2 => match us, h1, ws, h2 with | [_], _, [_], _ => .of_eq rfl, fun r r' => r.append r'⟩,
    fun P w base => ok_position (fun_mk (st := iSt1 "position" p1 p2 q1 q2 q3 q4 p1) l c k)⟩
theorem erc_line (T : ExC K C) (g : mg x = some (.ref C)) (no : PySem.W.findIn K (.ref C) "line" = some none) (i : PySem.W.findIn K (.ref C) "__init__" = some (some (.ref fI))) (t : PySem.W.typeIn K (.ref fI) = some (.type "function"))
    (l : K.lookup fI = some ⟨oc, od, .func (PySem.W.fnOf "__init__" qual (iA1 "line" p1 p2) (iB1 "line" q1 q2 q3 q4) (iS1 "line") .none kV doc pm an cdv ct), osl⟩) (c : PySem.W.codeIn K cdv qual = true) (k : PySem.W.keepIn K (.ref fI) = true) : ErC1 K mg "line" x C :=
  ⟨T, g, no, fI, _, i, t, ⟨fun s us ws _ h1 h2 => match us, h1, ws, h2 with | [_, _], _, [], _ => .of_eq rfl, fun r _ => r⟩, ⟨fun s us ws _ h1 h2 => match us, h1, ws, h2 with | [_], _, [_], _ => .of_eq rfl, fun r r' => r.append r'⟩,
    fun P w base => ok_line (fun_mk (st := iSt1 "line" p1 p2 q1 q2 q3 q4 p1) l c k)⟩
theorem erc_one (T : ExC K C) (g : mg x = some (.ref C)) (no : PySem.W.findIn K (.ref C) "one" = some none) (no2 : PySem.W.findIn K (.ref C) "other" = some none) (i : PySem.W.findIn K (.ref C) "__init__" = some (some (.ref fI))) (t : PySem.W.typeIn K (.ref fI) = some (.type "function"))
    (l : K.lookup fI = some ⟨oc, od, .func (PySem.W.fnOf "__init__" qual (iA2 "one" "other" p1 p2 p3) (iB2 "one" "other" q1 q2 q3 q4 r1 r2 r3 r4) (iS2 "one" "other") .none kV doc pm an cdv ct), osl⟩) (c : PySem.W.codeIn K cdv qual = true) (k : PySem.W.keepIn K (.ref fI) = true) : ErC2 K mg "one" "other" x C :=
  ⟨T, g, no, no2, fI, _, i, t, ⟨fun s us ws _ h1 h2 => match us, h1, ws, h2 with | [_, _, _], _, [], _ => .of_eq rfl, fun r _ => r⟩, ⟨fun s us ws _ h1 h2 => match us, h1, ws, h2 with | [_], _, [_, _], _ => .of_eq rfl, fun r r' => r.append r'.rev⟩,
    fun P w base => ok_one (fun_mk (st := iSt2 "one" "other" p1 p2 p3 q1 q2 q3 q4 r1 r2 r3 r4 p1) l c k)⟩
theorem erc_what (T : ExC K C) (g : mg x = some (.ref C)) (no : PySem.W.findIn K (.ref C) "what" = some none) (no2 : PySem.W.findIn K (.ref C) "limit" = some none) (i : PySem.W.findIn K (.ref C) "__init__" = some (some (.ref fI))) (t : PySem.W.typeIn K (.ref fI) = some (.type "function"))
    (l : K.lookup fI = some ⟨oc, od, .func (PySem.W.fnOf "__init__" qual (iA2 "what" "limit" p1 p2 p3) (iB2 "what" "limit" q1 q2 q3 q4 r1 r2 r3 r4) (iS2 "what" "limit") .none kV doc pm an cdv ct), osl⟩) (c : PySem.W.codeIn K cdv qual = true) (k : PySem.W.keepIn K (.ref fI) = true) : ErC2 K mg "what" "limit" x C :=
  ⟨T, g, no, no2, fI, _, i, t, ⟨fun s us ws _ h1 h2 => match us, h1, ws, h2 with | [_, _, _], _, [], _ => .of_eq rfl, fun r _ => r⟩, ⟨fun s us ws _ h1 h2 => match us, h1, ws, h2 with | [_], _, [_, _], _ => .of_eq rfl, fun r r' => r.append r'.rev⟩,
    fun P w base => ok_what (fun_mk (st := iSt2 "what" "limit" p1 p2 p3 q1 q2 q3 q4 r1 r2 r3 r4 p1) l c k)⟩
end
/-! ### the calls -/
def tEr1 (C : Addr) (f : Str) (te : TE) : TE := fun σ H Q => te σ H fun y H1 => ∀ a dx, H1 a = none → H1 dx = none → dx ≠ a → Q (.ref a) (upd (upd H1 dx (exd dx [(f, y)])) a (exo a C (some dx)))
/-- C(y, z) -/
def tEr2 (C : Addr) (f g : Str) (ty tz : TE) : TE := fun σ H Q => ty σ H fun y H1 => tz σ H1 fun z H2 => ∀ a dx, H2 a = none → H2 dx = none → dx ≠ a → Q (.ref a) (upd (upd H2 dx (exd dx [(g, z), (f, y)])) a (exo a C (some dx)))
/-- C(g = z, f = y) -/
def tEr2k (C : Addr) (f g : Str) (tz ty : TE) : TE := fun σ H Q => tz σ H fun z H1 => ty σ H1 fun y H2 => ∀ a dx, H2 a = none → H2 dx = none → dx ≠ a → Q (.ref a) (upd (upd H2 dx (exd dx [(g, z), (f, y)])) a (exo a C (some dx)))
section
variable {X : Cx} {C : Addr} {f g x : Str} {te ty tz : TE} {p pos kp1 kp2 : Pos} {e e1 e2 : Expr}
theorem pe_er1 (c : ErC1 X.K X.mg f x C) (hr : Room 2 X.A) (hg : Gl X x) (he : PE X e te) (hdb : (x == ("__debug__" : Str)) = false := by decide)
    (hs : starEach (e :: []) X.env = (false, eval e X.env) :: starEach [] X.env := by rfl) (hpl : (backTo pos (starEach [] X.env)).any (·.1) = false := by rfl) : PE X (.Call (.Name x p) [e] [] pos) (tEr1 C f te) := by
  refine ⟨fun pins s σ H Q I h => ?_⟩
  obtain ⟨fI, fd, iC, tI, kb, _, F⟩ := c.init
  refine wpAny_Call_Name_kw (ld_glob I hg c.g ?_ hdb)
  refine PySem.W.callWith_K (h₀ := X.base) I.ok.mod.kin c.T.kC (thn ((pa_cons he pa_nil hs).run pos pins s σ H (one1 fun y H1 => ∀ a dx, H1 a = none → H1 dx = none → dx ≠ a → Q (.ref a) (upd (upd H1 dx (exd dx [(f, y)])) a (exo a C (some dx)))) I h) fun us s1 hh => ?_) hs hpl
  obtain ⟨vs, H1, I1, r, q⟩ := hh
  refine ⟨I1.kIn, ?_⟩
  match vs, q, r with
  | [y], q, r =>
    refine run_emk (n := 1) (ks := []) (ws := []) c.T iC tI (F _ _ _) hr kb pass0 I1 r .nil rfl rfl (by decide) fun a na => ?_
    refine ⟨a, C, y, rfl, c.T, c.no, upd_same, fun dx nd ne => ⟨rfl, ?_⟩⟩
    rw [upd_thrice]
    rw [upd_ne ne] at nd
    exact q a dx na nd ne
theorem pe_er1k (c : ErC1 X.K X.mg f x C) (hr : Room 2 X.A) (hg : Gl X x) (he : PE X e te) (hdb : (x == ("__debug__" : Str)) = false := by decide)
    (hall : (backToKw pos (keywordEach [⟨some f, e, kp1⟩] X.env)).all (·.1.isSome) = true := by rfl) (hks : (backToKw pos (keywordEach [⟨some f, e, kp1⟩] X.env)).filterMap (·.1) = [f] := by rfl)
    (hpl : ((backTo pos (starEach [] X.env)).any (·.1) || (backToKw pos (keywordEach [⟨some f, e, kp1⟩] X.env)).any (·.1.isNone)) = false := by rfl) : PE X (.Call (.Name x p) [] [⟨some f, e, kp1⟩] pos) (tEr1 C f te) := by
  refine ⟨fun pins s σ H Q I h => ?_⟩
  obtain ⟨fI, fd, iC, tI, _, kb, F⟩ := c.init
  refine wpAny_Call_Name_kw (ld_glob I hg c.g ?_ hdb)
  refine PySem.W.callWith_KW0 (h₀ := X.base) I.ok.mod.kin c.T.kC hall ?_ hpl
  refine thn ((pk_cons he pk_nil).run pos pins s σ H (one1 fun y H1 => ∀ a dx, H1 a = none → H1 dx = none → dx ≠ a → Q (.ref a) (upd (upd H1 dx (exd dx [(f, y)])) a (exo a C (some dx)))) I h) fun ws s2 hh => ?_
  obtain ⟨zs, H1, I1, r, q⟩ := hh
  refine ⟨I1.kIn, ?_⟩
  rw [hks]
  match zs, q, r with
  | [y], q, r =>
    refine run_emk (n := 0) (us := []) (vs := []) c.T iC tI (F _ _ _) hr kb pass0 I1 .nil r rfl rfl (by decide) fun a na => ?_
    refine ⟨a, C, y, rfl, c.T, c.no, upd_same, fun dx nd ne => ⟨rfl, ?_⟩⟩
    rw [upd_thrice]
    rw [upd_ne ne] at nd
    exact q a dx na nd ne
theorem pe_er2 (c : ErC2 X.K X.mg f g x C) (hr : Room 2 X.A) (hg : Gl X x) (h1 : PE X e1 ty) (h2 : PE X e2 tz) (hdb : (x == ("__debug__" : Str)) = false := by decide)
    (hs : starEach (e1 :: [e2]) X.env = (false, eval e1 X.env) :: starEach [e2] X.env := by rfl) (hs2 : starEach (e2 :: []) X.env = (false, eval e2 X.env) :: starEach [] X.env := by rfl) (hpl : (backTo pos (starEach [e2] X.env)).any (·.1) = false := by rfl) : PE X (.Call (.Name x p) [e1, e2] [] pos) (tEr2 C f g ty tz) := by
  refine ⟨fun pins s σ H Q I h => ?_⟩
  obtain ⟨fI, fd, iC, tI, kb, _, F⟩ := c.init
  refine wpAny_Call_Name_kw (ld_glob I hg c.gm ?_ hdb)
  refine PySem.W.callWith_K (h₀ := X.base) I.ok.mod.kin c.T.kC (thn ((pa_cons h1 (pa_cons h2 pa_nil hs2) hs).run pos pins s σ H (two2 fun y z H1 => ∀ a dx, H1 a = none → H1 dx = none → dx ≠ a → Q (.ref a) (upd (upd H1 dx (exd dx [(g, z), (f, y)])) a (exo a C (some dx)))) I h) fun us s1 hh => ?_) hs hpl
  obtain ⟨vs, H1, I1, r, q⟩ := hh
  refine ⟨I1.kIn, ?_⟩
  match vs, q, r with
  | [y, z], q, r =>
    refine run_emk (n := 2) (ks := []) (ws := []) c.T iC tI (F _ _ _) hr kb pass0 I1 r .nil rfl rfl (by decide) fun a na => ?_
    refine ⟨a, C, y, z, rfl, c.T, c.no, c.no2, upd_same, fun dx nd ne => ⟨rfl, ?_⟩⟩
    rw [upd_thrice, upd_upd, upd_comm ne]
    rw [upd_ne ne] at nd
    exact q a dx na nd ne
theorem pe_er2k (c : ErC2 X.K X.mg f g x C) (hr : Room 2 X.A) (hg : Gl X x) (h1 : PE X e1 tz) (h2 : PE X e2 ty) (hdb : (x == ("__debug__" : Str)) = false := by decide)
    (hall : (backToKw pos (keywordEach [⟨some g, e1, kp1⟩, ⟨some f, e2, kp2⟩] X.env)).all (·.1.isSome) = true := by rfl) (hks : (backToKw pos (keywordEach [⟨some g, e1, kp1⟩, ⟨some f, e2, kp2⟩] X.env)).filterMap (·.1) = [g, f] := by rfl)
    (hpl : ((backTo pos (starEach [] X.env)).any (·.1) || (backToKw pos (keywordEach [⟨some g, e1, kp1⟩, ⟨some f, e2, kp2⟩] X.env)).any (·.1.isNone)) = false := by rfl) : PE X (.Call (.Name x p) [] [⟨some g, e1, kp1⟩, ⟨some f, e2, kp2⟩] pos) (tEr2k C f g tz ty) := by
  refine ⟨fun pins s σ H Q I h => ?_⟩
  obtain ⟨fI, fd, iC, tI, _, kb, F⟩ := c.init
  refine wpAny_Call_Name_kw (ld_glob I hg c.gm ?_ hdb)
  refine PySem.W.callWith_KW0 (h₀ := X.base) I.ok.mod.kin c.T.kC hall ?_ hpl
  refine thn ((pk_cons h1 (pk_cons h2 pk_nil)).run pos pins s σ H (two2 fun z y H1 => ∀ a dx, H1 a = none → H1 dx = none → dx ≠ a → Q (.ref a) (upd (upd H1 dx (exd dx [(g, z), (f, y)])) a (exo a C (some dx)))) I h) fun ws s2 hh => ?_
  obtain ⟨zs, H1, I1, r, q⟩ := hh
  refine ⟨I1.kIn, ?_⟩
  rw [hks]
  match zs, q, r with
  | [z, y], q, r =>
    refine run_emk (n := 0) (us := []) (vs := []) c.T iC tI (F _ _ _) hr kb pass0 I1 .nil r rfl rfl (by decide) fun a na => ?_
    refine ⟨a, C, y, z, rfl, c.T, c.no, c.no2, upd_same, fun dx nd ne => ⟨rfl, ?_⟩⟩
    rw [upd_thrice, upd_upd, upd_comm ne]
    rw [upd_ne ne] at nd
    exact q a dx na nd ne
end
/-! ### defs whose callers ask no repr above them -/
structure FnOkG (P : Program) (w : World) (K : PySem.W.Frag) (mg : Str → Option Value) (base : Heap) (CX : CXT) (k : Nat) (f : Addr) (fd : FuncData) (ps : List Str) (sp : Sp) : Prop where
  len : ∀ vs H Q E, sp vs H Q E → vs.length = ps.length
  run : ∀ (A : Around) (outer : List Env) (s : Shared) (H : Hp) (args : Args) (us : List Value) (vs : List V) (Q : VK) (E : XK), A.guards = some [] → Room k A → Env0 P w K mg base A outer s H → BindsTo s fd args (ps.zip us) → Vals vs us → sp vs H Q E →
    codeAny (model P w) A (.call (.ref f) args) (CR CX outer P w H s Q E) s
theorem FnOk.g {P : Program} {w : World} {K : PySem.W.Frag} {mg : Str → Option Value} {base : Heap} {CX : CXT} {k : Nat} {f : Addr} {fd : FuncData} {ps : List Str} {sp : Sp} (F : FnOk P w K mg base CX k f fd ps sp) : FnOkG P w K mg base CX k f fd ps sp :=
  ⟨F.len, fun A outer s H args us vs Q E _ hr he hb hv hs => F.run A outer s H args us vs Q E hr he hb hv hs⟩
theorem fn_ofG {CX : CXT} {P : Program} {w : World} {K : PySem.W.Frag} {mg : Str → Option Value} {base : Heap} {k : Nat} {f : Addr} {name qual : Str} {params : Arguments} {body : List Stmt} {scope : Scope} {dV kV doc pm cdv ct oc : Value} {an od : Option Addr}
    {osl : Array (Option Value)} {N ps : List Str} {sp : Sp} (lk : K.lookup f = some ⟨oc, od, .func (PySem.W.fnOf name qual params body scope dV kV doc pm an cdv ct), osl⟩) (hcd : PySem.W.codeIn K cdv qual = true) (S : FnScope N ps scope)
    (len : ∀ vs H Q E, sp vs H Q E → vs.length = ps.length)
    (hbody : ∀ (A : Around) (outer : List Env) (s : Shared) (H : Hp) (vs : List V) (Q : VK) (E : XK), (A.deeper (envOfC qual scope s.heap.objs.size f cdv)).guards = some [] → Room k (A.deeper (envOfC qual scope s.heap.objs.size f cdv)) → sp vs H Q E →
      ∃ t, PSs (cxOf CX P w K mg base N qual scope f cdv A outer s H E) body t ∧ t { nx := fun _ H' => Q .non H', rt := Q } (start N vs) H) :
    FnOkG P w K mg base CX (k + 1) f (PySem.W.fnOf name qual params body scope dV kV doc pm an cdv ct) ps sp := by
  refine ⟨len, fun A outer s H args us vs Q E hG hr e0 hb r hsp => ?_⟩
  have hl := len _ _ _ _ hsp
  have KX : K.In s.heap := e0.mod.kin.keeps fun b o e => (e0.bs b o e).1
  have lim : s.heap.NoLimit := e0.mod.nolimit.keeps fun b o e => (e0.bs b o e).1
  have hkind : ∀ y ∈ ps.zip us, scope.names.lookup y.1 = some .local ∨ (scope.names.lookup y.1 = some .cell ∧ ((cellsFrom (s.heap.objs.size + 1) scope.names []).lookup y.1).isSome = true) := fun ⟨n, v⟩ hy => by
    rcases S.par n (List.of_mem_zip hy).1 with q | q
    · exact .inl q
    · exact .inr ⟨q, PySem.W.cellsFrom_some _ _ _ (.inl q)⟩
  refine codeAny_call_function hr.depth (KX _ _ lk) rfl S.co S.gen rfl (PySem.W.codeRec_of KX hcd) (hb _ _ _ _ ?_)
  refine wpAny_newFunctionEnv_cells S.kind hkind fun env he s1 x => ?_
  subst he
  refine ⟨lim.keeps x.toInCall.keep, codeAny_func ?_⟩
  obtain ⟨t, ht, hq⟩ := hbody A outer s H vs Q E hG (hr.deeper _) hsp
  have I : Inv (cxOf CX P w K mg base N qual scope f cdv A outer s H E) [] (start N vs) H s1 := inv_start S hr.hd e0 hl r x
  refine wpAny_mono (ht.run [] s1 (start N vs) H _ I hq) (fun fl s' hs => ?_) fun e s' hs => hs
  have fin : ∀ {σ' : St} {H' : Hp} {v : V} {u : Value}, Inv (cxOf CX P w K mg base N qual scope f cdv A outer s H E) [] σ' H' s' → RelV v u → Q v H' → CE outer P w H s Q u s' :=
    fun {σ' H' v u} J rv q => ⟨v, H', J.os, J.bare, J.base, J.hok, rv, q⟩
  cases fl with
  | ret u =>
    obtain ⟨v, σ', H', J, rv, q⟩ := hs
    exact fin J rv q
  | next =>
    obtain ⟨σ', H', J, q⟩ := hs
    exact fin (v := V.non) (u := Value.none) J rfl q
  | brk =>
    obtain ⟨_, _, _, q⟩ := hs
    exact False.elim q
  | cont =>
    obtain ⟨_, _, _, q⟩ := hs
    exact False.elim q
theorem Fun.okG {P : Program} {w : World} {K : PySem.W.Frag} {mg : Str → Option Value} {base : Heap} {x qual : Str} {st : Stmt} {f : Addr} {fd : FuncData} {N ps : List Str} {k : Nat} {sp : Sp} (F : Fun K x qual st f fd) (S : FnScope N ps (defScope st)) (len : ∀ vs H Q E, sp vs H Q E → vs.length = ps.length)
    (hbody : ∀ (cdv : Value) (A : Around) (outer : List Env) (s : Shared) (H : Hp) (vs : List V) (Q : VK) (E : XK), (A.deeper (envOfC qual (defScope st) s.heap.objs.size f cdv)).guards = some [] → Room k (A.deeper (envOfC qual (defScope st) s.heap.objs.size f cdv)) → sp vs H Q E →
      ∃ t, PSs (cxOf CX0 P w K mg base N qual (defScope st) f cdv A outer s H E).nox (defBody st) t ∧ t { nx := fun _ H' => Q .non H', rt := Q } (start N vs) H) : FnOkG P w K mg base CX0 (k + 1) f fd ps sp := by
  obtain ⟨oc, od, kV, doc, pm, an, cdv, ct, osl, rfl, lk, hcd⟩ := F.ex
  refine fn_ofG lk hcd S len fun A outer s H vs Q E hG hr hsp => ?_
  obtain ⟨t, h, q⟩ := hbody cdv A outer s H vs Q E hG hr hsp
  exact ⟨t, h.nox, q⟩
section
variable {X : Cx} {CX : CXT} {k : Nat} {f : Addr} {fd : FuncData} {ps : List Str} {sp : Sp} {E : XK} {x : Str} {p pos : Pos} {e : Expr} {es : List Expr} {t : TA}
theorem run_fnG {pins : List (Addr × Obj)} {σ : St} {H : Hp} {s : Shared} {Q : VK} {us : List Value} {vs : List V} (F : FnOkG X.prog X.w X.K X.mg X.base CX k f fd ps sp) (hG : X.A.guards = some []) (hr : Room k X.A) (hb : Binds X.K fd ps []) (hx : Passes CX X E)
    (I : Inv X pins σ H s) (r : Vals vs us) (h : sp vs H Q E) : wpAny (model X.prog X.w) X.A (call (.ref f) us) (EP X pins σ Q) X.xe s := by
  have hl : us.length = ps.length := by rw [← r.length]; exact F.len _ _ _ _ h
  have b := hb s us I.kIn (by rw [List.append_nil]; exact hl)
  rw [List.append_nil] at b
  refine wpAny_call (codeAny_mono (F.run X.A X.stack s H ⟨us, []⟩ us vs Q E hG hr I.env0 b r h) fun r s' hq => ?_)
  cases r with
  | error e => exact hx pins σ H s e s' I hq
  | ok fl =>
    cases fl with
    | ret u => exact I.after hq
    | next => exact False.elim hq
    | brk => exact False.elim hq
    | cont => exact False.elim hq
def tCallG (sp : Sp) (E : XK) (t : TA) : TE := fun σ H Q => t σ H fun vs H1 => sp vs H1 Q E
theorem pe_callG (F : FnOkG X.prog X.w X.K X.mg X.base CX k f fd ps sp) (hG : X.A.guards = some []) (hr : Room k X.A) (hg : Gl X x) (hm : X.mg x = some (.ref f)) (hk : PySem.W.keepIn X.K (.ref f) = true) (hb : Binds X.K fd ps []) (hx : Passes CX X E)
    (ha : PA X (e :: es) t) (hdb : (x == ("__debug__" : Str)) = false := by decide) (he : starEach (e :: es) X.env = (false, eval e X.env) :: starEach es X.env := by rfl) (hpl : (backTo pos (starEach es X.env)).any (·.1) = false := by rfl) :
    PE X (.Call (.Name x p) (e :: es) [] pos) (tCallG sp E t) := by
  refine ⟨fun pins s σ H Q I h => ?_⟩
  refine wpAny_Call_Name_kw (ld_glob I hg hm ?_ hdb)
  refine PySem.W.callWith_K (h₀ := X.base) I.ok.mod.kin hk (thn (ha.run pos pins s σ H _ I h) fun us s1 ⟨vs, H1, I1, r, q⟩ => ⟨I1.kIn, ?_⟩) he hpl
  exact run_fnG F hG hr hb hx I1 r q
end
end L2
set_option Elab.async false
set_option linter.all false
set_option maxRecDepth 100000
set_option maxHeartbeats 4000000
namespace Gen
open PySem PySem.Spec PyProof.Rows L2 Evl
/-! ### data that is told, under more heap -/
mutual
theorem dq_ex {K : PySem.W.Frag} {H H' : Hp} (e : Ex H H') : ∀ {v : V} {d : PyData}, Dq K H v d → Dq K H' v d
  | _, _, .non => .non
  | _, _, .bl b => .bl b
  | _, _, .int i => .int i
  | _, _, .str x => .str x
  | _, _, .lst h1 h2 => .lst (ex_l e h1) (dqa_ex e h2)
  | _, _, .tup h1 h2 => .tup (ex_t e h1) (dqa_ex e h2)
  | _, _, .dic h1 h2 h3 => .dic (e _ _ h1) h2 (dqa_ex e h3)
theorem dqa_ex {K : PySem.W.Frag} {H H' : Hp} (e : Ex H H') : ∀ {vs : List V} {ds : List PyData}, DqAll K H vs ds → DqAll K H' vs ds
  | _, _, .nil => .nil
  | _, _, .cons h1 h2 => .cons (dq_ex e h1) (dqa_ex e h2)
end
inductive Ky (H : Hp) : V → String → Prop
  | non : Ky H .non "NoneType"
  | bl (b : Bool) : Ky H (.bl b) "bool"
  | int (i : Int) : Ky H (.int i) "int"
  | str (x : Str) : Ky H (.str x) "str"
  | lst {a : Addr} {xs : List V} : H a = some (.lst xs) → Ky H (.ref a) "list"
  | tup {a : Addr} {xs : List V} : H a = some (.tup xs) → Ky H (.ref a) "tuple"
  | dic {a : Addr} {kvs : List (Key × V)} : H a = some (.dK kvs) → Ky H (.ref a) "dict"
theorem Ky.ex {H H' : Hp} (e : Ex H H') {v : V} {t : String} (h : Ky H v t) : Ky H' v t := by
  cases h with
  | non => exact .non
  | bl b => exact .bl b
  | int i => exact .int i
  | str x => exact .str x
  | lst h => exact .lst (e _ _ h)
  | tup h => exact .tup (e _ _ h)
  | dic h => exact .dic (e _ _ h)
theorem Ky.ty {K : PySem.W.Frag} {H : Hp} {v : V} {t : String} (h : Ky H v t) : TyX K H v (.type t) := by
  cases h with
  | non => exact .base .non
  | bl b => exact .base (.bl b)
  | int i => exact .base (.int i)
  | str x => exact .base (.str x)
  | lst h => exact .base (.lst h)
  | tup h => exact .base (.tup h)
  | dic h => exact .base (.dK h)
def kI : V → Bool
  | .int _ => true
  | .bl _ => true
  | _ => false
def kB : V → Bool
  | .bl _ => true
  | _ => false
def kS : V → Bool
  | .str _ => true
  | _ => false
theorem Ky.int_ {H : Hp} {v : V} {t : String} (h : Ky H v t) : kitB t "int" = some (kI v) := by
  cases h <;> first | (show kitB _ _ = some true; decide +kernel) | (show kitB _ _ = some false; decide +kernel)
theorem Ky.bool_ {H : Hp} {v : V} {t : String} (h : Ky H v t) : kitB t "bool" = some (kB v) := by
  cases h <;> first | (show kitB _ _ = some true; decide +kernel) | (show kitB _ _ = some false; decide +kernel)
theorem Ky.str_ {H : Hp} {v : V} {t : String} (h : Ky H v t) : kitB t "str" = some (kS v) := by
  cases h <;> first | (show kitB _ _ = some true; decide +kernel) | (show kitB _ _ = some false; decide +kernel)
/-- small data -/
structure Sm (n : Nat) (d : PyData) : Prop where
  sh : d.showable = true
  lv : d.leavesShort 40 = true
  bk : d.bulk ≤ n
  dp : d.depth ≤ 20
theorem Sm.len {n : Nat} {d : PyData} (s : Sm n d) (hn : n ≤ 10000) : d.shown.length ≤ sizeLine := by
  have h := PyData.shown_le_bulk 40 (by decide) d s.lv
  have h2 : (40 + 2) * d.bulk ≤ 42 * 10000 := Nat.mul_le_mul (by decide) (Nat.le_trans s.bk hn)
  rw [sizeLine_eq]
  omega
structure Gd (K : PySem.W.Frag) (H : Hp) (v : V) (d : PyData) : Prop where
  q : Dq K H v d
  s : Sm 100 d
  d10 : d.depth ≤ 10
  k : ∃ t, Ky H v t
theorem Gd.ex {K : PySem.W.Frag} {H H' : Hp} {v : V} {d : PyData} (h : Gd K H v d) (e : Ex H H') : Gd K H' v d := ⟨dq_ex e h.q, h.s, h.d10, let ⟨t, k⟩ := h.k; ⟨t, k.ex e⟩⟩
section
variable {K : PySem.W.Frag} {σ : L2.St} {H H' : Hp} {ta tb te tx : TE} {x y z v : V} {d : PyData} {n : Nat}
/-- repr -/
theorem ev_repr (h : Ev te σ H v) (q : ∀ H1, Ex H H1 → Dq K H1 v d) (s : Sm n d) (hn : n ≤ 10000) : Ev (tCB (rRepr K) (tCons te tNil)) σ H (.str d.shown) := fun H1 e Q k =>
  h H1 e _ fun H2 e2 => ⟨v, d, rfl, q H2 (e.trans e2), s.sh, Nat.le_trans s.dp (by decide), s.len hn, k H2 e2⟩
theorem ev_reprL {xs : List V} {ds : List PyData} (h : EvL te σ H xs) (q : ∀ H1, Ex H H1 → DqAll K H1 xs ds) (s : Sm n (.list ds)) (hn : n ≤ 10000) : Ev (tCB (rRepr K) (tCons te tNil)) σ H (.str (PyData.shown (.list ds))) := fun H1 e Q k =>
  h H1 e _ fun p H2 _ e2 hp => ⟨.ref p, .list ds, rfl, .lst (sq_of hp) (q H2 (e.trans e2)), s.sh, Nat.le_trans s.dp (by decide), s.len hn, k H2 e2⟩
/-- isinstance of data -/
theorem ev_isi {t n : String} {b : Bool} (h : Ev te σ H v) (k : Ky H v t) (hb : kitB t n = some b) (hc : Ev tx σ H (.ty n)) : Ev (tCB (rIsi K) (tCons te (tCons tx tNil))) σ H (.bl b) := fun H1 e Q q =>
  h H1 e _ fun H2 e2 => hc H2 (e.trans e2) _ fun H3 e3 => ⟨v, .ty n, .type t, .type n, b, rfl, .ty n, (k.ex ((e.trans e2).trans e3)).ty, kit_ty hb, q H3 (e2.trans e3)⟩
theorem ev_all {bs : List Bool} (h : EvL te σ H (bs.map V.bl)) : Ev (tCB (rAll K) (tCons te tNil)) σ H (.bl (bs.all id)) := fun H1 e Q q =>
  h H1 e _ fun p H2 _ e2 hp => ⟨p, bs, rfl, sq_of hp, q H2 e2⟩
theorem ev_callG {sp : Sp} {vs : List V} {E : XK} {ta : TA} (h : EvA ta σ H vs) (hs : SpV sp vs H z) : Ev (tCallG sp E ta) σ H z := fun H1 e Q q =>
  h H1 e _ fun H2 e2 => hs H2 (e.trans e2) Q (fun H3 e3 => q H3 (e2.trans e3)) E
theorem ev_call0 {sp : Sp} {vs : List V} {E : XK} {ta : TA} (h : EvA ta σ H vs) (hs : SpV sp vs H z) : Ev (tCall sp [] E ta) σ H z := fun H1 e Q q =>
  h H1 e _ fun H2 e2 => by
    have g := hs H2 (e.trans e2) Q (fun H3 e3 => q H3 (e2.trans e3)) E
    show sp (vs ++ []) H2 Q E
    rw [List.append_nil]
    exact g
theorem ev_callK {sp : Sp} {ws : List V} {E : XK} {tk : TA} {m : Nat} {gV : List V → List V → List V} (h : EvA tk σ H ws) (hm : ws.length = m) (hs : SpV sp (gV [] ws) H z) : Ev (tCallN 0 m sp gV E tNil tk) σ H z := fun H1 e Q q => by
  show tk σ H1 fun zs H2 => ([] : List V).length = 0 ∧ zs.length = m ∧ sp (gV [] zs) H2 Q E
  exact h H1 e _ fun H2 e2 => ⟨rfl, hm, hs H2 (e.trans e2) Q (fun H3 e3 => q H3 (e2.trans e3)) E⟩
theorem et_chain {i j m : Int} {r r' : R2} {tc : TE} {a b : Bool} (h1 : Ev ta σ H (.int i)) (h2 : Ev tb σ H (.int j)) (h3 : Ev tc σ H (.int m)) (r1 : RV r (.int i) (.int j) H (.bl a)) (r2 : RV r' (.int j) (.int m) H (.bl b)) :
    EvT (tTest (tChain r r' ta tb tc)) σ H (a && b) := fun H1 e Q q =>
  h1 H1 e _ fun H2 e2 => h2 H2 (e.trans e2) _ fun H3 e3 => r1 H3 ((e.trans e2).trans e3) _ fun H4 e4 => ⟨a, rfl, by
    cases a with
    | true =>
      rw [if_pos rfl]
      exact h3 H4 (((e.trans e2).trans e3).trans e4) _ fun H5 e5 => r2 H5 ((((e.trans e2).trans e3).trans e4).trans e5) _ fun H6 e6 => ⟨b, rfl, q H6 ((((e2.trans e3).trans e4).trans e5).trans e6)⟩
    | false =>
      rw [if_neg (by decide)]
      exact ⟨false, rfl, q H4 ((e2.trans e3).trans e4)⟩⟩
theorem et_opT {r : R2} {b : Bool} (h : Ev (tOp r ta tb) σ H (.bl b)) : EvT (tTest (tOp r ta tb)) σ H b := et_test h
theorem ev_lenX {r : List V → Hp → VK → Prop} {n : Int} (ha : Ev ta σ H x) (hr : ∀ H1, Ex H H1 → ∀ Q : VK, Q (.int n) H1 → r [x] H1 Q) : Ev (tCB r (tCons ta tNil)) σ H (.int n) := fun H1 e Q q =>
  ha H1 e _ fun H2 e2 => hr H2 (e.trans e2) Q (q H2 e2)
end
/-- over a text, sign by sign -/
theorem el_lcS {σ : L2.St} {H : Hp} {te tl : TE} {j : Nat} {vs : List Nat} {w : Str} (f : Nat → Bool) (h : Ev tl σ H (.str w)) (hz : w.cps.size ≤ 40000) (hw : ∀ x, wipe ((wipe σ vs).set j (some x)) vs = wipe σ vs)
    (he : ∀ (c : Nat) H1, Ex H H1 → Ev te ((wipe σ vs).set j (some (.str ⟨#[c]⟩))) H1 (.bl (f c))) :
    EvL (tLc (iStr tl) (gName j) tYes te vs) σ H ((w.cps.toList.map f).map V.bl) := fun H0 e Q q => h H0 e _ fun H1 e1 => ⟨w, rfl, fun Dl hD =>
  lc_it (walk_str (z := w)) (fun i H' => H1 Dl = none ∧ Ex H1 H' ∧ H' Dl = some (.lst (((w.cps.toList.take i).map f).map V.bl))) ⟨hD, Ex.new hD, by rw [upd_same]; rfl⟩ (fun _ _ _ _ => trivial)
    (fun i x H' H'' hi p y => by
      obtain ⟨rfl, c, hc, rfl⟩ := y
      obtain ⟨p1, p2, p3⟩ := p
      refine ⟨hw _, ?_⟩
      refine he c H'' ((e.trans e1).trans p2) H'' (Ex.refl _) _ fun H4 e4 => ⟨_, e4 _ _ p3, sz_lt (by simp only [List.length_map, List.length_take]; omega), p1, Ex.mut (p2.trans e4) p1, ?_⟩
      rw [upd_same]
      have ht : w.cps.toList.take (i + 1) = w.cps.toList.take i ++ [c] := by
        rw [List.take_add_one]
        have hc' : w.cps.toList[i]? = some c := by rw [Array.getElem?_toList]; exact hc
        rw [hc']
        rfl
      rw [ht, List.map_append, List.map_append] <;> rfl)
    (fun H' p => by
      obtain ⟨p1, p2, p3⟩ := p
      refine q Dl H' (fresh_back e1 p1) (e1.trans p2) ?_
      rw [p3]
      have hl : w.cps.toList.take w.cps.size = w.cps.toList := List.take_of_length_le (by simp)
      rw [hl])⟩
end Gen
set_option Elab.async false
set_option linter.all false
set_option maxRecDepth 100000
set_option maxHeartbeats 4000000
namespace Gen
open PySem PySem.Spec PyProof.Rows L2 Evl
def isI (v : V) : Bool := kI v && !kB v
def ge0 : V → Bool
  | .int i => decide (0 ≤ i)
  | _ => false
def isC (v : V) : Bool := isI v && ge0 v
def sgn : Str := "abcdefghijklmnopqrstuvwxyz0123456789"
def isN : V → Bool
  | .str x => decide (1 ≤ (x.length : Int)) && decide ((x.length : Int) ≤ 6) && (x.cps.toList.map fun c => decide (c ∈ sgn.cps.toList)).all id
  | _ => false
def spV1 (f : V → Bool) : Sp := fun vs H Q _ => ∃ v t, vs = [v] ∧ Ky H v t ∧ (∀ x, v = .str x → x.cps.size ≤ 100) ∧ RetV (.bl (f v)) H Q
theorem spV {f : V → Bool} {H : Hp} {v : V} {t : String} (k : Ky H v t) (hz : ∀ x, v = .str x → x.cps.size ≤ 100) : SpV (spV1 f) [v] H (.bl (f v)) := fun H1 e Q q E => ⟨v, t, rfl, k.ex e, hz, q⟩
theorem isI_int {H : Hp} {v : V} {t : String} (k : Ky H v t) (h : isI v = true) : ∃ i, v = .int i := by
  cases k with
  | int i => exact ⟨i, rfl⟩
  | _ => exact absurd h (by simp [isI, kI, kB])
theorem kS_str {v : V} (h : kS v = true) : ∃ x, v = .str x := by
  cases v with
  | str x => exact ⟨x, rfl⟩
  | _ => cases h
theorem isN_no {v : V} (h : kS v = false) : isN v = false := by
  cases v with
  | str x => cases h
  | _ => rfl
theorem isN_out {x : Str} (h : (decide (1 ≤ (x.length : Int)) && decide ((x.length : Int) ≤ 6)) = false) : isN (.str x) = false := by
  show (decide (1 ≤ (x.length : Int)) && decide ((x.length : Int) ≤ 6) && _) = false
  rw [h]
  rfl
theorem isN_in {x : Str} (h : (decide (1 ≤ (x.length : Int)) && decide ((x.length : Int) ≤ 6)) = true) : isN (.str x) = (x.cps.toList.map fun c => decide (c ∈ sgn.cps.toList)).all id := by
  show (decide (1 ≤ (x.length : Int)) && decide ((x.length : Int) ≤ 6) && _) = _
  rw [h]
  rfl
theorem z_in {w : Str} (h : w.cps.size ≤ 100) : w.length ≤ sizeLine := Nat.le_trans h (by rw [sizeLine_eq]; decide)
theorem isN_law (x : Str) : (decide (V.str x = V.str (Str.ofString "")) || decide ((6 : Int) < (x.length : Int))) = !(decide (1 ≤ (x.length : Int)) && decide ((x.length : Int) ≤ 6)) := by
  have e0 : decide (V.str x = V.str (Str.ofString "")) = !decide (1 ≤ (x.length : Int)) := by
    rw [Bool.eq_iff_iff]
    simp only [decide_eq_true_eq, Bool.not_eq_true', decide_eq_false_iff_not]
    constructor
    · intro h
      cases h
      decide
    · intro h
      have h0 : x.cps.size = 0 := by
        have : x.length = x.cps.size := rfl
        omega
      obtain ⟨c⟩ := x
      have hc : c = #[] := Array.size_eq_zero_iff.mp h0
      subst hc
      rfl
  have e1 : decide ((6 : Int) < (x.length : Int)) = !decide ((x.length : Int) ≤ 6) := by
    rw [Bool.eq_iff_iff]
    simp only [decide_eq_true_eq, Bool.not_eq_true', decide_eq_false_iff_not]
    omega
  rw [e0, e1, Bool.not_and]
theorem ev_int1 {σ : L2.St} {H : Hp} {te : TE} {i : Int} (h : Ev te σ H (.int i)) : Ev (tCB (fun xs H Q => (∃ i, xs = [.int i] ∧ Q (V.int i) H) ∨ ∃ k, xs = [.bl k] ∧ Q (V.int (if k = true then 1 else 0)) H) (tCons te tNil)) σ H (.int i) := fun H1 e Q q =>
  h H1 e _ fun H2 e2 => .inl ⟨i, rfl, q H2 e2⟩
theorem ev_absI {σ : L2.St} {H : Hp} {te : TE} {i : Int} (h : Ev te σ H (.int i)) : Ev (tCB (fun xs H Q => ∃ i, xs = [.int i] ∧ Q (V.int (if i < 0 then -i else i)) H) (tCons te tNil)) σ H (.int (if i < 0 then -i else i)) := fun H1 e Q q =>
  h H1 e _ fun H2 e2 => ⟨i, rfl, q H2 e2⟩
theorem ev_maxI {σ : L2.St} {H : Hp} {ta tb : TE} {i j : Int} (ha : Ev ta σ H (.int i)) (hb : Ev tb σ H (.int j)) : Ev (tCB (fun xs H Q => ∃ i j, xs = [.int i, .int j] ∧ Q (V.int (if j > i then j else i)) H) (tCons ta (tCons tb tNil))) σ H (.int (if j > i then j else i)) := fun H1 e Q q =>
  ha H1 e _ fun H2 e2 => hb H2 (e.trans e2) _ fun H3 e3 => ⟨i, j, rfl, q H3 (e2.trans e3)⟩
theorem ev_minI {σ : L2.St} {H : Hp} {ta tb : TE} {i j : Int} (ha : Ev ta σ H (.int i)) (hb : Ev tb σ H (.int j)) : Ev (tCB (fun xs H Q => ∃ i j, xs = [.int i, .int j] ∧ Q (V.int (if j < i then j else i)) H) (tCons ta (tCons tb tNil))) σ H (.int (if j < i then j else i)) := fun H1 e Q q =>
  ha H1 e _ fun H2 e2 => hb H2 (e.trans e2) _ fun H3 e3 => ⟨i, j, rfl, q H3 (e2.trans e3)⟩
/-- the pot: a list of two ints -/
structure Pot (H : Hp) (p : Addr) : Prop where
  at_ : ∃ x y : Int, H p = some (.lst [.int x, .int y]) ∧ 0 ≤ x ∧ 0 ≤ y ∧ y < 2147483648
/-- all but what stands at p -/
def rem (p : Addr) (H : Hp) : Hp := fun b => if b = p then none else H b
theorem rem_ex {p : Addr} {H : Hp} : Ex (rem p H) H := fun b o h => by
  unfold rem at h
  split at h
  · cases h
  · exact h
theorem rem_mono {p : Addr} {H H' : Hp} (e : Ex H H') : Ex (rem p H) (rem p H') := fun b o h => by
  unfold rem at h ⊢
  split at h
  · cases h
  · rename_i hb
    rw [if_neg hb]
    exact e b o h
theorem rem_upd {p : Addr} {H : Hp} {o : HO} : Ex (rem p H) (rem p (upd H p o)) := fun b u h => by
  unfold rem at h ⊢
  split at h
  · cases h
  · rename_i hb
    rw [if_neg hb, upd_ne hb]
    exact h
/-- what is laid at a new place -/
theorem rem_at {p q : Addr} {H : Hp} {o : HO} (h : H q = some o) (hq : q ≠ p) : rem p H q = some o := by
  unfold rem
  rw [if_neg hq]
  exact h
theorem ne_pot {p q : Addr} {H : Hp} {o : HO} (hp : H p = some o) (hq : H q = none) : q ≠ p := by
  intro z
  subst z
  rw [hp] at hq
  cases hq
def spPot (K : PySem.W.Frag) : Sp := fun vs H Q _ => ∃ (a : Addr) (ns : List Int) (j : Nat), vs = [.ref a, .int (j : Int)] ∧ SqL K H a (ns.map V.int) ∧ ns.length ≤ 1000 ∧ j ≤ 3 ∧ ∀ p H', H p = none → Ex H H' → Pot H' p → Q (.ref p) H'
def spDraw : Sp := fun vs H Q _ => ∃ (p : Addr) (m : Int), vs = [.ref p, .int m] ∧ Pot H p ∧ 0 < m ∧ m ≤ 1000000000 ∧ ∀ (d : Int) H', Ex (rem p H) (rem p H') → Pot H' p → 0 ≤ d → d < m → Q (.int d) H'
def spPick (K : PySem.W.Frag) : Sp := fun vs H Q _ => ∃ (p a : Addr) (xs : List V), vs = [.ref p, .ref a] ∧ Pot H p ∧ rem p H a = some (.lst xs) ∧ 0 < xs.length ∧ xs.length ≤ 1000 ∧ ∀ x H', x ∈ xs → Ex (rem p H) (rem p H') → Pot H' p → Q x H'
structure MP where
  p : V → Hp → Prop
  m : ∀ {v : V} {H H' : Hp}, Ex H H' → p v H → p v H'
def AllP : List MP → List V → Hp → Prop
  | [], [], _ => True
  | P :: Ps, v :: vs, H => P.p v H ∧ AllP Ps vs H
  | _, _, _ => False
theorem AllP.mono {H H' : Hp} (e : Ex H H') : ∀ {Ps : List MP} {vs : List V}, AllP Ps vs H → AllP Ps vs H'
  | [], [], _ => trivial
  | P :: Ps, v :: vs, h => ⟨P.m e h.1, AllP.mono e h.2⟩
  | [], _ :: _, h => h.elim
  | _ :: _, [], h => h.elim
theorem AllP.app {H : Hp} {Qs : List MP} {ws : List V} : ∀ {Ps : List MP} {vs : List V}, AllP Ps vs H → AllP Qs ws H → AllP (Ps ++ Qs) (vs ++ ws) H
  | [], [], _, h2 => h2
  | _ :: _, _ :: _, h, h2 => ⟨h.1, AllP.app h.2 h2⟩
  | [], _ :: _, h, _ => h.elim
  | _ :: _, [], h, _ => h.elim
theorem AllP.len {H : Hp} : ∀ {Ps : List MP} {vs : List V}, AllP Ps vs H → vs.length = Ps.length
  | [], [], _ => rfl
  | _ :: _, _ :: _, h => by rw [List.length_cons, List.length_cons, AllP.len h.2]
  | [], _ :: _, h => h.elim
  | _ :: _, [], h => h.elim
theorem AllP.at_ {H : Hp} : ∀ {Ps : List MP} {vs : List V} {i : Nat} {P : MP} {v : V}, AllP Ps vs H → Ps[i]? = some P → vs[i]? = some v → P.p v H
  | [], [], _, _, _, _, h1, _ => by cases h1
  | _ :: _, _ :: _, 0, _, _, h, h1, h2 => by
    cases h1
    cases h2
    exact h.1
  | _ :: _, _ :: _, i + 1, _, _, h, h1, h2 => AllP.at_ (i := i) h.2 h1 h2
  | [], _ :: _, _, _, _, h, _, _ => h.elim
  | _ :: _, [], _, _, _, h, _, _ => h.elim
theorem AllP.rep {H : Hp} {P : MP} : ∀ {n : Nat} {vs : List V}, AllP (List.replicate n P) vs H → ∀ v ∈ vs, P.p v H
  | 0, [], _ => fun v z => nomatch z
  | n + 1, v :: vs, h => fun u hu => by
    rcases List.mem_cons.mp hu with rfl | z
    · exact h.1
    · exact AllP.rep (n := n) h.2 u z
  | 0, _ :: _, h => h.elim
  | _ + 1, [], h => h.elim
def EvP (te : TE) (σ : L2.St) (H : Hp) (P : MP) : Prop := ∀ H1, Ex H H1 → ∀ Q : VK, (∀ v H2, Ex H1 H2 → P.p v H2 → Q v H2) → te σ H1 Q
def EvAP (ta : TA) (σ : L2.St) (H : Hp) (Ps : List MP) : Prop := ∀ H1, Ex H H1 → ∀ Q : List V → Hp → Prop, (∀ vs H2, Ex H1 H2 → AllP Ps vs H2 → Q vs H2) → ta σ H1 Q
def EvLP (te : TE) (σ : L2.St) (H : Hp) (Ps : List MP) : Prop := ∀ H1, Ex H H1 → ∀ Q : VK, (∀ vs p H2, H1 p = none → Ex H1 H2 → AllP Ps vs H2 → H2 p = some (.lst vs) → Q (.ref p) H2) → te σ H1 Q
section
variable {K : PySem.W.Frag} {σ : L2.St} {H H' : Hp} {ta tb te tx tl : TE} {tr : TA} {x y z v : V} {P : MP} {Ps Qs : List MP} {a C dx : Addr} {f : Str}
theorem eap_nil : EvAP tNil σ H [] := fun H1 _ _ q => q [] H1 (Ex.refl _) trivial
theorem eap_cons (h : EvP te σ H P) (hr : EvAP tr σ H Ps) : EvAP (tCons te tr) σ H (P :: Ps) := fun H1 e Q q =>
  h H1 e _ fun v H2 e2 hv => hr H2 (e.trans e2) _ fun vs H3 e3 hs => q (v :: vs) H3 (e2.trans e3) ⟨P.m e3 hv, hs⟩
theorem evp_of (h : Ev te σ H v) (hp : ∀ H1, Ex H H1 → P.p v H1) : EvP te σ H P := fun H1 e Q q => h H1 e _ fun H2 e2 => q v H2 e2 (hp H2 (e.trans e2))
theorem evp_weak {P' : MP} (h : EvP te σ H P) (hp : ∀ v H1, P.p v H1 → P'.p v H1) : EvP te σ H P' := fun H1 e Q q => h H1 e _ fun v H2 e2 hv => q v H2 e2 (hp v H2 hv)
theorem elp_lst {ta : TA} (h : EvAP ta σ H Ps) (hl : Ps.length ≤ 100000) : EvLP (tLst ta) σ H Ps := fun H1 e Q q =>
  h H1 e _ fun vs H2 e2 hs => ⟨sz_of (by rw [hs.len]; exact hl), fun p hp => q vs p _ (fresh_back e2 hp) (e2.trans (Ex.new hp)) (hs.mono (Ex.new hp)) upd_same⟩
theorem elp_cat {xs : List V} (ha : Ev ta σ H (.ref a)) (hx : H a = some (.lst xs)) (hP : AllP Ps xs H) (hb : EvLP tb σ H Qs) (hl : Ps.length + Qs.length ≤ 100000) : EvLP (tOp rCat ta tb) σ H (Ps ++ Qs) := fun H1 e Q q =>
  ha H1 e _ fun H2 e2 => hb H2 (e.trans e2) _ fun ws b H3 hb3 e3 hs h3 => ⟨a, b, xs, ws, rfl, rfl, ((e.trans e2).trans e3) a _ hx, h3, sz_of (by rw [hP.len, hs.len]; exact hl), fun p hp =>
    q (xs ++ ws) p _ (fresh_back (e2.trans e3) hp) ((e2.trans e3).trans (Ex.new hp)) ((hP.mono ((e.trans e2).trans e3)).app hs |>.mono (Ex.new hp)) upd_same⟩
variable {D : Ends} {tu tz : TS} {g : TG}
theorem q_asgP {i : Nat} (h : EvLP te σ H Ps) (k : ∀ vs p H1, H p = none → Ex H H1 → AllP Ps vs H1 → H1 p = some (.lst vs) → tz D (σ.set i (some (.ref p))) H1) : tSeq (tAsg te (gName i)) tz D σ H := h H (Ex.refl H) _ fun vs p H1 hp e hs h1 => k vs p H1 hp e hs h1
theorem s_retP (h : EvLP te σ H Ps) (k : ∀ vs p H1, H p = none → Ex H H1 → AllP Ps vs H1 → H1 p = some (.lst vs) → D.rt (.ref p) H1) : tRet te D σ H := h H (Ex.refl H) _ fun vs p H1 hp e hs h1 => k vs p H1 hp e hs h1
/-- a walk over a list whose items are told by one word; the slot j alone changes -/
def Nst (H : Hp) (σ : L2.St) (j : Nat) : L2.St → Hp → Prop := fun σ' H' => Ex H H' ∧ ∃ o, σ' = σ.set j o
theorem q_forV {xs : List V} {j : Nat} (h : Ev tl σ H (.ref a)) (hx : H a = some (.lst xs)) (hP : ∀ v ∈ xs, P.p v H) (h0 : ∃ o, σ = σ.set j o)
    (hs : ∀ v H1, Ex H H1 → P.p v H1 → tu { D with nx := Nst H σ j, ct := Nst H σ j, bk := tz D } (σ.set j (some v)) H1) (hd : ∀ o H1, Ex H H1 → tz D (σ.set j o) H1) : tSeq (tFor (iList K tl) (gName j) tu) tz D σ H := by
  refine q_forLn (D := D) h (sq_of hx) (fun _ => Nst H σ j) (fun H1 e => ⟨e, h0⟩) (fun i σ' H' _ p => sq_of (p.1 a _ hx)) (fun i x σ' H' hi p => ?_) (fun σ' H' p => ?_)
  · obtain ⟨e, o, rfl⟩ := p
    rw [List.set_set]
    exact hs x H' e (P.m e (hP x (List.mem_of_getElem? hi)))
  · obtain ⟨e, o, rfl⟩ := p
    exact hd o H' e
theorem q_forN {n : Nat} {j : Nat} (h : EvLP tl σ H (List.replicate n P)) (h0 : ∃ o, σ = σ.set j o)
    (hs : ∀ H0 v H1, Ex H H0 → Ex H0 H1 → P.p v H1 → tu { D with nx := Nst H0 σ j, ct := Nst H0 σ j, bk := tz D } (σ.set j (some v)) H1) (hd : ∀ o H1, Ex H H1 → tz D (σ.set j o) H1) : tSeq (tFor (iList K tl) (gName j) tu) tz D σ H := by
  show tl σ H _
  refine h H (Ex.refl H) _ fun vs p H1 hp e hP h1 => ?_
  refine ⟨p, rfl, ⟨vs, sq_of h1⟩, for_list (fun _ => Nst H1 σ j) ⟨Ex.refl _, h0⟩ (fun i σ' H' _ q => sq_of (q.1 p _ h1)) (fun i x σ' H' hi q => ?_) (fun σ' H' q => ?_)⟩
  · obtain ⟨e1, o, rfl⟩ := q
    show tu _ ((σ.set j o).set j (some x)) H'
    rw [List.set_set]
    exact hs H1 x H' e e1 (P.m e1 (hP.rep x (List.mem_of_getElem? hi)))
  · obtain ⟨e1, o, rfl⟩ := q
    exact hd o H' (e.trans e1)
theorem dp_bools (H : Hp) : ∀ bs : List Bool, DpAll K H (bs.map V.bl) (bs.map PyData.bool)
  | [] => .nil
  | b :: bs => .cons (.bl b) (dp_bools H bs)
theorem dq_bools (H : Hp) : ∀ bs : List Bool, DqAll K H (bs.map V.bl) (bs.map PyData.bool)
  | [] => .nil
  | b :: bs => .cons (.bl b) (dq_bools H bs)
mutual
theorem dp_ex {H H' : Hp} (e : Ex H H') : ∀ {v : V} {d : PyData}, Dp K H v d → Dp K H' v d
  | _, _, .non => .non
  | _, _, .bl b => .bl b
  | _, _, .int i => .int i
  | _, _, .str x => .str x
  | _, _, .lst h1 h2 => .lst (ex_l e h1) (dpa_ex e h2)
  | _, _, .tup h1 h2 => .tup (ex_t e h1) (dpa_ex e h2)
theorem dpa_ex {H H' : Hp} (e : Ex H H') : ∀ {vs : List V} {ds : List PyData}, DpAll K H vs ds → DpAll K H' vs ds
  | _, _, .nil => .nil
  | _, _, .cons h1 h2 => .cons (dp_ex e h1) (dpa_ex e h2)
end
/-- equal data are equal -/
theorem rv_eqD {d : PyData} {x y : V} (hx : Dp K H x d) (hy : Dp K H y d) (s : SeqAt.shaped d = true) : RV (rEqD K) x y H (.bl true) := fun H1 e Q q =>
  ⟨d, d, dp_ex e hx, dp_ex e hy, s, s, by rw [SeqAt.eqv_refl d (SeqAt.canLay_of_shaped s)]; exact q H1 (Ex.refl _)⟩
theorem el_cat {xs zs : List V} (ha : Ev ta σ H (.ref a)) (hx : H a = some (.lst xs)) (hb : EvL tb σ H zs) (hl : xs.length + zs.length ≤ 100000) : EvL (tOp rCat ta tb) σ H (xs ++ zs) := fun H1 e Q q =>
  ha H1 e _ fun H2 e2 => hb H2 (e.trans e2) _ fun b H3 hb3 e3 h3 => ⟨a, b, xs, zs, rfl, rfl, ((e.trans e2).trans e3) a _ hx, h3, sz_of hl, fun p hp => q p _ (fresh_back (e2.trans e3) hp) ((e2.trans e3).trans (Ex.new hp)) upd_same⟩
theorem q_ext {l : Addr} {xs ys : List V} (hl : H l = some (.lst xs)) (ha : Ev ta σ H (.ref l)) (h : EvL te σ H ys) (hz : xs.length + ys.length ≤ 100000) (k : ∀ H1, Ex H H1 → tz D σ (upd H1 l (.lst (xs ++ ys)))) :
    tSeq (tDrop (tBM K "list" rExtend ta (tCons te tNil))) tz D σ H := ha H (Ex.refl H) _ fun H1 e1 =>
  ⟨Or.inl ⟨rfl, xs, sq_of (e1 l _ hl)⟩, h H1 e1 _ fun p H2 hp e2 h2 => ⟨l, p, xs, ys, rfl, rfl, e2 l _ (e1 l _ hl), h2, sz_of hz, k H2 (e1.trans e2)⟩⟩
theorem q_ext0 {H0 : Hp} {l : Addr} {xs ys : List V} (hf : H0 l = none) (e0 : Ex H0 H) (hl : H l = some (.lst xs)) (ha : Ev ta σ H (.ref l)) (h : EvL te σ H ys) (hz : xs.length + ys.length ≤ 100000) (k : ∀ H1, Ex H0 H1 → H1 l = some (.lst (xs ++ ys)) → tz D σ H1) :
    tSeq (tDrop (tBM K "list" rExtend ta (tCons te tNil))) tz D σ H := q_ext hl ha h hz fun H1 e => k _ (Ex.mut (e0.trans e) hf) upd_same
theorem q_extP {l : Addr} {xs : List V} (hl : H l = some (.lst xs)) (ha : Ev ta σ H (.ref l)) (h : EvLP te σ H Ps) (hz : xs.length + Ps.length ≤ 100000) (k : ∀ ys H1, Ex H H1 → AllP Ps ys H1 → tz D σ (upd H1 l (.lst (xs ++ ys)))) :
    tSeq (tDrop (tBM K "list" rExtend ta (tCons te tNil))) tz D σ H := ha H (Ex.refl H) _ fun H1 e1 =>
  ⟨Or.inl ⟨rfl, xs, sq_of (e1 l _ hl)⟩, h H1 e1 _ fun ys p H2 hp e2 hs h2 => ⟨l, p, xs, ys, rfl, rfl, e2 l _ (e1 l _ hl), h2, sz_of (by rw [hs.len]; exact hz), k ys H2 (e1.trans e2) hs⟩⟩
end
section
variable {K : PySem.W.Frag} {σ : L2.St} {H H' H0 : Hp} {ta tb te tx tl : TE} {tr : TA} {x y z v : V} {P : MP} {Ps Qs : List MP} {a f : Addr} {D : Ends} {tz : TS}
def Rws (row : Nat → List V) (Dl : Addr) (rs : List V) (H : Hp) : Prop := ∀ (j : Nat) (v : V), rs[j]? = some v → ∃ p, p ≠ Dl ∧ v = .ref p ∧ H p = some (.lst (row j))
def RW (H1 : Hp) (row : Nat → List V) (Dl : Addr) (k : Nat) (H' : Hp) : Prop := H1 Dl = none ∧ Ex H1 H' ∧ ∃ rs, rs.length = k ∧ H' Dl = some (.lst rs) ∧ Rws row Dl rs H'
def EvR (te : TE) (σ : L2.St) (H : Hp) (n : Nat) (row : Nat → List V) : Prop := ∀ H1, Ex H H1 → ∀ Q : VK, (∀ rs Dl H2, H1 Dl = none → Ex H1 H2 → H2 Dl = some (.lst rs) → rs.length = n → Rws row Dl rs H2 → Q (.ref Dl) H2) → te σ H1 Q
theorem rw_turn {H1 : Hp} {row : Nat → List V} {Dl : Addr} {k : Nat} {σ2 : L2.St} (p : RW H1 row Dl k H') (hk : k < 50000) (h : EvL te σ2 H' (row k)) : te σ2 H' fun y H4 => ∃ acc, H4 Dl = some (.lst acc) ∧ acc.length < sizeLine ∧ RW H1 row Dl (k + 1) (upd H4 Dl (.lst (acc ++ [y]))) := by
  obtain ⟨p1, p2, rs, p3, p4, p5⟩ := p
  refine h H' (Ex.refl _) _ fun q H4 hq e4 h4 => ⟨rs, e4 _ _ p4, sz_lt (by omega), p1, Ex.mut (p2.trans e4) p1, rs ++ [.ref q], by rw [List.length_append, p3]; rfl, upd_same, ?_⟩
  have nq : q ≠ Dl := by
    intro z
    subst z
    rw [p4] at hq
    cases hq
  intro j v hj
  by_cases hlt : j < rs.length
  · rw [List.getElem?_append_left hlt] at hj
    obtain ⟨p', n', ev, hp'⟩ := p5 j v hj
    exact ⟨p', n', ev, by rw [upd_ne n']; exact e4 _ _ hp'⟩
  · have hj' := (List.getElem?_eq_some_iff.mp hj).1
    rw [List.length_append] at hj'
    have e : j = rs.length := by simp only [List.length_cons, List.length_nil] at hj'; omega
    subst e
    rw [List.getElem?_append_right (Nat.le_refl _), Nat.sub_self] at hj
    cases hj
    rw [p3]
    exact ⟨q, nq, rfl, by rw [upd_ne nq]; exact h4⟩
theorem el_rowsL {xs : List V} {j : Nat} {vs : List Nat} (row : Nat → List V) (h : Ev tl σ H (.ref a)) (hx : SqL K H a xs) (hz : xs.length ≤ 40000) (hw : ∀ x, wipe ((wipe σ vs).set j (some x)) vs = wipe σ vs)
    (he : ∀ (i : Nat) (x : V) H1, Ex H H1 → xs[i]? = some x → EvL te ((wipe σ vs).set j (some x)) H1 (row i)) : EvR (tLc (iList K tl) (gName j) tYes te vs) σ H xs.length row := fun H0 e Q q => h H0 e _ fun H1 e1 => ⟨a, rfl, ⟨xs, ex_l (e.trans e1) hx⟩, fun Dl hD =>
  lc_list (xs := xs) (RW H1 row Dl) ⟨hD, Ex.new hD, [], rfl, upd_same, fun j v z => by cases z⟩ (fun i H' _ p => ex_l ((e.trans e1).trans p.2.1) hx)
    (fun i x H' hi p => ⟨hw x, rw_turn p (by have := (List.getElem?_eq_some_iff.mp hi).1; omega) (he i x H' ((e.trans e1).trans p.2.1) hi)⟩)
    (fun H' p => let ⟨rs, h1, h2, h3⟩ := p.2.2; q rs Dl H' (fresh_back e1 p.1) (e1.trans p.2.1) h2 h1 h3)⟩
theorem el_rowsR {n : Nat} {j : Nat} {vs : List Nat} {ta : TA} (row : Nat → List V) (h : EvA ta σ H [.int (n : Int)]) (hz : n ≤ 40000) (hw : ∀ x, wipe ((wipe σ vs).set j (some x)) vs = wipe σ vs)
    (he : ∀ (i : Nat) H1, Ex H H1 → i < n → EvL te ((wipe σ vs).set j (some (.int (i : Int)))) H1 (row i)) : EvR (tLc (iRng1 ta) (gName j) tYes te vs) σ H n row := fun H0 e Q q => h H0 e _ fun H1 e1 => ⟨(n : Int), rfl, by omega, by omega, fun Dl hD =>
  lc_range (lo := 0) (n := (n : Int).toNat) (RW H1 row Dl) ⟨hD, Ex.new hD, [], rfl, upd_same, fun j v z => by cases z⟩
    (fun i H' hi p => by
      have e0 : (0 : Int) + (i : Int) = (i : Int) := Int.zero_add _
      show wipe ((wipe σ vs).set j (some (.int ((0 : Int) + (i : Int))))) vs = wipe σ vs ∧ te ((wipe σ vs).set j (some (.int ((0 : Int) + (i : Int))))) H' fun y H4 => ∃ acc, H4 Dl = some (.lst acc) ∧ acc.length < sizeLine ∧ RW H1 row Dl (i + 1) (upd H4 Dl (.lst (acc ++ [y])))
      rw [e0]
      exact ⟨hw _, rw_turn p (by omega) (he i H' ((e.trans e1).trans p.2.1) (by omega))⟩)
    (fun H' p => let ⟨rs, h1, h2, h3⟩ := p.2.2; q rs Dl H' (fresh_back e1 p.1) (e1.trans p.2.1) h2 (by rw [h1, Int.toNat_natCast]) h3)⟩
theorem q_asgR {n i : Nat} {row : Nat → List V} (h : EvR te σ H n row) (k : ∀ rs Dl H2, H Dl = none → Ex H H2 → H2 Dl = some (.lst rs) → rs.length = n → Rws row Dl rs H2 → tz D (σ.set i (some (.ref Dl))) H2) : tSeq (tAsg te (gName i)) tz D σ H := h H (Ex.refl _) _ fun rs Dl H2 h1 h2 h3 h4 h5 => k rs Dl H2 h1 h2 h3 h4 h5
/-- rows of bools as data -/
def rowD (rb : Nat → List Bool) (n : Nat) : List PyData := (List.range n).map fun i => .list ((rb i).map PyData.bool)
theorem rows_dp {Dl : Addr} : ∀ {rs : List V} {rb : Nat → List Bool}, Rws (fun i => (rb i).map V.bl) Dl rs H → DpAll K H rs (rowD rb rs.length)
  | [], _, _ => .nil
  | v :: rs, rb, h => by
    obtain ⟨p, _, rfl, hp⟩ := h 0 _ rfl
    have e : rowD rb (V.ref p :: rs).length = .list ((rb 0).map PyData.bool) :: rowD (fun i => rb (i + 1)) rs.length := by
      unfold rowD
      rw [List.length_cons, List.range_succ_eq_map, List.map_cons, List.map_map]
      rfl
    rw [e]
    exact .cons (.lst (sq_of hp) (dp_bools H _)) (rows_dp (rb := fun i => rb (i + 1)) fun j v hj => h (j + 1) v hj)
theorem rws_ex {Dl : Addr} {rs : List V} {row : Nat → List V} (h : Rws row Dl rs H) (e : Ex H H') : Rws row Dl rs H' := fun j v hj => let ⟨p, h1, h2, h3⟩ := h j v hj; ⟨p, h1, h2, e _ _ h3⟩
end
end Gen
set_option Elab.async false
set_option linter.all false
set_option maxRecDepth 100000
set_option maxHeartbeats 4000000
/-! for i, x in enumerate(t), t a tuple -/
namespace XE
open PySem PyProof.Rows
open Sem (wp)
open AutoSeq1 (wpAny_loadPart')
set_option maxHeartbeats 4000000 in
theorem new_enum {v : Value} {o : Obj} {Ho : Heap → Prop} (B : Begins v o Ho) :
    Meets (Builtin.«enumerate.__new__» ⟨[.type "enumerate", v], []⟩) (fun _ R s => Ho s.heap ∧
      R (.ok (.ret (.ref (s.heap.push o).objs.size))) { s with heap := (s.heap.push o).push { cls := .type "enumerate", data := .fields #[.none, .bool false, .ref s.heap.objs.size, rawInt 0, .none, .none] } }) :=
  .of_wp fun prog w A R s start => by
    obtain ⟨hp, g, d, tk, os⟩ := s
    obtain ⟨b1, fin⟩ := start
    have same := sub_enumerate
    have walk : ∀ {A2 : Around} {E2 : Value → Shared → Prop} {Q2 : Value → Shared → Prop}, Q2 (.ref hp.objs.size) ⟨hp.push o, g, d, tk, os⟩ → wpAny (model prog w) A2 (pyIter v) Q2 E2 ⟨hp, g, d, tk, os⟩ :=
      fun q => B.iter prog w _ _ ⟨hp, g, d, tk, os⟩ _ b1 q
    wp_walk using walk
    refine wpAny_stack_any fun st => wpAny_pure ?_
    split
    · rename_i c _ _ _ _ _
      cases (c == Value.type "enumerate")
      all_goals
        wp_walk using walk
        exact ⟨_, rfl, fin⟩
    · wp_walk using walk
      exact ⟨_, rfl, fin⟩
theorem call_enum {prog : Program} {w : World} {A : Around} {E : Value → Shared → Prop} {s : Shared} {v : Value} {o : Obj} {Ho : Heap → Prop} {Q : Value → Shared → Prop} (B : Begins v o Ho) (b1 : Ho s.heap)
    (q : ∀ h', IsEnum h' (s.heap.objs.size + 1) s.heap.objs.size 0 .none → h'.get? s.heap.objs.size = some o → (∀ b ob, s.heap.get? b = some ob → h'.get? b = some ob) → Q (.ref (s.heap.objs.size + 1)) { s with heap := h' }) :
    wpAny (model prog w) A (call (.type "enumerate") [v]) Q E s := by
  have sz : (s.heap.push o).objs.size = s.heap.objs.size + 1 := Heap.size_push ..
  refine callType_new F.called_enumerate (by decide) (F.typeCall_enumerate_1 _) (F.newCall_enumerate_1 _) (fun obj => F.args_object_init_2 obj _) F.entry_enumerate_new (new_enum B) ⟨b1, ?_⟩
  show _ ∧ _
  rw [sz]
  have en : IsEnum ((s.heap.push o).push { cls := .type "enumerate", data := .fields #[.none, .bool false, .ref s.heap.objs.size, rawInt 0, .none, .none] }) (s.heap.objs.size + 1) s.heap.objs.size 0 .none := by
    have z := Heap.get?_push_size (s.heap.push o) (o := { cls := .type "enumerate", data := .fields #[.none, .bool false, .ref s.heap.objs.size, rawInt 0, .none, .none] }) rfl
    rw [sz] at z
    exact z
  exact ⟨⟨_, en, rfl⟩, q _ en (Heap.get?_push_of_some _ (Heap.get?_push_size _ B.free)) fun b ob z => Heap.get?_push_of_some _ (Heap.get?_push_of_some _ z)⟩
end XE
namespace L2
open PySem PySem.Spec PyProof.Rows
/-- the tuple at a, each item in a new pair -/
def IteT (K : PySem.W.Frag) (a : Addr) (xs : List V) : It :=
  ⟨fun i H => SqT K H a xs ∧ i < xs.length, fun i H v H' => ∃ T x, v = .ref T ∧ H T = none ∧ H' = upd H T (.tup [.int (i : Nat), x]) ∧ xs[i]? = some x, fun i H => SqT K H a xs ∧ xs.length ≤ i⟩
theorem turn_enumT {P : Program} {w : World} {K : PySem.W.Frag} {elts : List Expr} {kk : Nat} {tpos : Pos} (a e it : Addr) (xs : List V) :
    Turn P w K (.Tuple elts kk tpos) (IteT K a xs) [e, it] e (fun i h => (∃ old, IsEnum h e it ((i : Nat) : Int) old) ∧ h.IsTupleIter it a i ∧ e ≠ it) where
  mem := by simp
  obj := fun i h st b hb => by
    obtain ⟨⟨old, he⟩, ⟨o, ho, hc, hd⟩, _⟩ := st
    rcases (by simpa using hb : b = e ∨ b = it) with z | z
    · subst z
      exact ⟨_, he, fun v q => nomatch q⟩
    · subst z
      exact ⟨o, ho, fun v q => by rw [hd] at q; cases q⟩
  keep := fun i h h' st k => let ⟨⟨old, he⟩, hi, hne⟩ := st; ⟨⟨old, k e (by simp) _ he⟩, hi.at fun o q => k it (by simp) o q, hne⟩
  item := by
    intro X hP hw hK hc i pins s σ H E I hf st hg
    subst hP hw hK
    obtain ⟨⟨old, en⟩, hit, hne⟩ := st
    obtain ⟨hq, hlt⟩ := hg
    obtain ⟨its, rv, p, hz⟩ := I.tuple hq
    have tup : s.heap.IsTuple a its.toArray := p
    have apart : a ≠ it := by
      intro z
      subst z
      obtain ⟨o, g1, g2, _⟩ := tup
      obtain ⟨o2, g3, g4, _⟩ := hit
      rw [g1] at g3
      cases g3
      rw [g2] at g4
      exact absurd (Value.type.inj g4) (by decide)
    have le : e < s.heap.objs.size := Heap.lt_size en
    have lit : it < s.heap.objs.size := by obtain ⟨_, q, _⟩ := hit; exact Heap.lt_size q
    have ea : e ≠ a := by
      intro z
      subst z
      obtain ⟨o, g1, g2, _⟩ := tup
      have g3 := (show s.heap.get? e = some _ from en)
      rw [g1] at g3
      cases g3
      exact absurd (Value.type.inj g2) (by decide)
    refine wpAny_pyNext_enum_itemD (Draws.tuple (A := X.A.in1) (show X.A.in1.handled = none from I.ok.hd hc) it a apart its.toArray) en ⟨hit, tup⟩ (by rw [List.size_toArray, ← rv.length]; exact hlt) hne (by simp [hne, ea]) fun u h1 tk hu out st1 hT hsz hk => ?_
    obtain ⟨x, hx⟩ : ∃ x, xs[i]? = some x := ⟨xs[i], List.getElem?_eq_getElem hlt⟩
    obtain ⟨u2, hu2, ru⟩ := rv.get hx
    have eu : u2 = u := by
      have z : its[i]? = some u := by simpa using hu
      rw [hu2] at z
      exact Option.some.inj z
    subst eu
    refine ⟨_, rfl, wpAny_letOwnedTupleGo_enum (s := { s with heap := h1, toks := tk + 1 }) out fun h2 en2 sb => ?_⟩
    have hT2 : h2.get? s.heap.objs.size = some { cls := .type "tuple", data := .seq #[.int i tk, u2] } := (sb.2 _ (Nat.ne_of_gt le)).trans hT
    have new : ObjOk X.prog X.w (upd H s.heap.objs.size (.tup [.int (i : Nat), x])) h2 s.heap.objs.size (.tup [.int (i : Nat), x]) := ⟨by show 2 ≤ sizeLine; decide, [.int i tk, u2], .cons ⟨_, rfl⟩ (.cons ru .nil), ⟨_, hT2, rfl, _, rfl⟩⟩
    have I1 : Inv X pins σ (upd H s.heap.objs.size (.tup [.int (i : Nat), x])) { s with heap := h2, toks := tk + 1 } :=
      I.turnedNew (ch := [e, it]) (fun b ob hb q => (sb.2 b (fun z => hb (by simp [z]))).trans (hk b ob (fun z => hb (by simp [z])) (fun z => hb (by simp [z])) q)) hf (Nat.le_refl _) new
    refine ⟨.ref s.heap.objs.size, _, I1, rfl, ⟨_, x, rfl, I.hok.fresh (Nat.le_refl _), rfl, hx⟩, ⟨⟨u2, ?_⟩, st1.1.at fun o q => (sb.2 it (Ne.symm hne)).trans q, hne⟩, fun b hb => ?_⟩
    · rw [show ((i + 1 : Nat) : Int) = (i : Int) + 1 by omega]
      exact en2
    · have lb : b < s.heap.objs.size := by
        rcases (by simpa using hb : b = e ∨ b = it) with z | z
        · rw [z]; exact le
        · rw [z]; exact lit
      rw [upd_ne (Nat.ne_of_lt lb)]
      exact (hf b hb).1
  done := by
    intro X hP hw hK hc i pins s σ H E I hf st hg
    subst hP hw hK
    obtain ⟨⟨old, en⟩, hit, hne⟩ := st
    obtain ⟨hq, hle⟩ := hg
    obtain ⟨its, rv, p, hz⟩ := I.tuple hq
    have tup : s.heap.IsTuple a its.toArray := p
    obtain ⟨f0, f1, f2, f3, f4, f5⟩ := hf it (by simp)
    have none_ : its.toArray[i]? = none := by
      have := rv.length
      simp
      omega
    have hT : s.TypeIs (.ref e) "enumerate" := ⟨_, en, rfl⟩
    unfold pyNext
    refine wpAny_bind (wpAny_attempt (wpAny_callSpecial?_slot (name := Str.ofString "__next__") hT F.slot_enumerate_next (wpAny_call_entry F.slot_enumerate_next hT F.entry_enumerate_next ?_ (F.args_enumerate_next_1 _))))
    change wpAny _ _ (field (.ref e) 2 >>= _) _ _ _
    refine wpAny_bind (wpAny_field en rfl (x := .ref it) rfl ?_)
    refine wpAny_bind (wpAny_nextOf_tuple_end (show X.A.in1.handled = none from I.ok.hd hc) hit tup none_ fun h1 g eb stop => ?_)
    obtain ⟨o, ho, hcl⟩ := stop
    refine wpAny_bind (wpAny_isInstance (T := "StopIteration") (b := true) ⟨o, ho, hcl⟩ isSubtype_stop ?_)
    exact wpAny_pure ⟨rfl, I.turned (t' := s.toks) (fun b ob hb q => eb b ob hb q) f0 f1 f3 f4 f5⟩
  self := fun A i s Q E st h => let ⟨⟨_, he⟩, _⟩ := st; wpAny_pyIter_enum he h
def iEnumT (K : PySem.W.Frag) (ta : TA) : TI := fun σ H R => ta σ H fun vs H1 => ∃ a xs, vs = [.ref a] ∧ SqT K H1 a xs ∧ R (IteT K a xs) H1
theorem pi_enumT {X : Cx} {e : Expr} {ta : TA} {p pos tpos : Pos} {elts : List Expr} {kk : Nat} (hg : Gl X "enumerate") (hm : X.mg "enumerate" = none) (ha : PA X [e] ta) (hs : starEach [e] X.env = [(false, eval e X.env)] := by rfl) :
    PI X (.Tuple elts kk tpos) (.Call (.Name "enumerate" p) [e] [] pos) (iEnumT X.K ta) := by
  refine ⟨fun pins s σ H R I h => ?_⟩
  refine Call_ (ld_blt I hg hm boot_enumerate (PyProof.Rows.callWith_type1 (thn (ha.run pos pins s σ H _ I h) fun us s1 ⟨vs, H1, I1, r1, a, xs, ex, hq, q⟩ => ?_) hs rfl))
  subst ex
  obtain ⟨u, rfl, ru⟩ := vals1 r1
  cases ru
  obtain ⟨its, rv, p', hz⟩ := I1.tuple hq
  refine XE.call_enum (begins_tuple a its.toArray) (show s1.heap.IsTuple a its.toArray from p') fun h' en it k => wpAny_pyIter_enum en ?_
  have I2 : Inv X pins σ H1 { s1 with heap := h' } := I1.kept (t' := s1.toks) k
  refine ⟨s1.heap.objs.size + 1, [s1.heap.objs.size + 1, s1.heap.objs.size], _, _, H1, rfl, I2, turn_enumT a (s1.heap.objs.size + 1) s1.heap.objs.size xs, ⟨⟨.none, en⟩, ⟨_, it, rfl, rfl⟩, Nat.succ_ne_self _⟩, fun b hb => ?_, q⟩
  have above : s1.heap.objs.size ≤ b := by
    rcases (by simpa using hb : b = s1.heap.objs.size + 1 ∨ b = s1.heap.objs.size) with z | z
    · rw [z]; exact Nat.le_add_right _ _
    · rw [z]; exact Nat.le_refl _
  exact I1.fpOk above (I1.hok.fresh above)
end L2
set_option Elab.async false
set_option linter.all false
set_option maxRecDepth 100000
set_option maxHeartbeats 4000000
/-! what a for walks that is a list or a tuple -/
namespace L2
open PySem PySem.Spec PyProof.Rows
section
variable {X : Cx} {tg e : Expr} {te : TE} {ta : TA}
/-- a list or a tuple of these items -/
def Sq (K : PySem.W.Frag) (H : Hp) (a : Addr) (xs : List V) : Prop := SqL K H a xs ∨ SqT K H a xs
def iSeq (K : PySem.W.Frag) (te : TE) : TI := fun σ H R => te σ H fun x H1 => ∃ a xs, x = .ref a ∧ ((SqL K H1 a xs ∧ R (Itl K a) H1) ∨ (SqT K H1 a xs ∧ R (Itt K a) H1))
theorem pi_seq (he : PE X e te) : PI X tg e (iSeq X.K te) := by
  refine ⟨fun pins s σ H R I h => thn (he.run pins s σ H _ I h) fun v s1 ⟨x, H1, I1, r1, a, xs, ex, hh⟩ => ?_⟩
  subst ex
  cases r1
  have room : ∀ b ∈ [s1.heap.objs.size], FpOk X pins H1 b := fun b hb => by
    have z : b = s1.heap.objs.size := by simpa using hb
    subst z
    exact I1.fpOk (Nat.le_refl _) (I1.hok.fresh (Nat.le_refl _))
  rcases hh with ⟨hq, q⟩ | ⟨hq, q⟩
  · obtain ⟨its, rv, p, hz⟩ := I1.list hq
    exact wpAny_pyIter_list p.isList ⟨_, [s1.heap.objs.size], _, _, H1, rfl, I1.kept (t' := s1.toks) fun b o z => Heap.get?_push_of_some _ z, turn_list a _, ⟨_, Heap.get?_push_size _ rfl, rfl, rfl⟩, room, q⟩
  · obtain ⟨its, rv, p, hz⟩ := I1.tuple hq
    exact wpAny_pyIter_tuple (show s1.heap.IsTuple a its.toArray from p) ⟨_, [s1.heap.objs.size], _, _, H1, rfl, I1.kept (t' := s1.toks) fun b o z => Heap.get?_push_of_some _ z, turn_tuple a _, ⟨_, Heap.get?_push_size _ rfl, rfl, rfl⟩, room, q⟩
def iEnumS (K : PySem.W.Frag) (ta : TA) : TI := fun σ H R => ta σ H fun vs H1 => ∃ a xs, vs = [.ref a] ∧ ((SqL K H1 a xs ∧ R (Ite K a) H1) ∨ (SqT K H1 a xs ∧ R (IteT K a xs) H1))
theorem pi_enumS {p pos tpos : Pos} {elts : List Expr} {kk : Nat} (hg : Gl X "enumerate") (hm : X.mg "enumerate" = none) (ha : PA X [e] ta) (hs : starEach [e] X.env = [(false, eval e X.env)] := by rfl) :
    PI X (.Tuple elts kk tpos) (.Call (.Name "enumerate" p) [e] [] pos) (iEnumS X.K ta) := by
  refine ⟨fun pins s σ H R I h => Call_ (ld_blt I hg hm boot_enumerate (PyProof.Rows.callWith_type1 (thn (ha.run pos pins s σ H _ I h) fun us s1 ⟨vs, H1, I1, r1, a, xs, ex, hh⟩ => ?_) hs rfl))⟩
  subst ex
  obtain ⟨u, rfl, ru⟩ := vals1 r1
  cases ru
  have room : ∀ b ∈ [s1.heap.objs.size + 1, s1.heap.objs.size], FpOk X pins H1 b := fun b hb => by
    have above : s1.heap.objs.size ≤ b := by
      rcases (by simpa using hb : b = s1.heap.objs.size + 1 ∨ b = s1.heap.objs.size) with z | z
      · rw [z]; exact Nat.le_add_right _ _
      · rw [z]; exact Nat.le_refl _
    exact I1.fpOk above (I1.hok.fresh above)
  rcases hh with ⟨hq, q⟩ | ⟨hq, q⟩
  · obtain ⟨its, rv, p', hz⟩ := I1.list hq
    exact call_enumerate_list p'.isList fun h' en it _ k => wpAny_pyIter_enum en ⟨s1.heap.objs.size + 1, [s1.heap.objs.size + 1, s1.heap.objs.size], _, _, H1, rfl, I1.kept (t' := s1.toks) k, turn_enum a (s1.heap.objs.size + 1) s1.heap.objs.size, ⟨⟨.none, en⟩, it, Nat.succ_ne_self _⟩, room, q⟩
  · obtain ⟨its, rv, p', hz⟩ := I1.tuple hq
    exact XE.call_enum (begins_tuple a its.toArray) (show s1.heap.IsTuple a its.toArray from p') fun h' en it k => wpAny_pyIter_enum en
      ⟨s1.heap.objs.size + 1, [s1.heap.objs.size + 1, s1.heap.objs.size], _, _, H1, rfl, I1.kept (t' := s1.toks) k, turn_enumT a (s1.heap.objs.size + 1) s1.heap.objs.size xs, ⟨⟨.none, en⟩, ⟨_, it, rfl, rfl⟩, Nat.succ_ne_self _⟩, room, q⟩
end
end L2
set_option Elab.async false
set_option linter.all false
set_option maxRecDepth 100000
set_option maxHeartbeats 4000000
/-! readings of walks over a list or a tuple, of enumerate over them -/
namespace Evl
open PySem L2
section
variable {K : PySem.W.Frag} {σ : L2.St} {H H' : Hp} {ta : TA} {te tl : TE} {t : TT} {a : Addr} {xs : List V} {D : Ends} {tu tz : TS} {g : TG}
theorem ex_s (e : Ex H H') (h : Sq K H a xs) : Sq K H' a xs := by
  rcases h with h | h
  · exact .inl (ex_l e h)
  · exact .inr (ex_t e h)
theorem sqL_ty (h : SqL K H a xs) : TyX K H (.ref a) (.type "list") := by
  rcases h with (h | ⟨o, h⟩) | ⟨o, its, n, hk, hc, _⟩
  · exact .base (.lst h)
  · exact .base (.frz h)
  · exact .kList hk hc
theorem sqT_ty (h : SqT K H a xs) : TyX K H (.ref a) (.type "tuple") := by
  rcases h with (h | ⟨o, h⟩) | ⟨o, its, n, hk, hc, _⟩
  · exact .base (.tup h)
  · exact .fTuple h
  · exact .kTuple hk hc
theorem walk_enumT : Walk (IteT K a xs) xs.length (fun H => SqT K H a xs) (YPair (fun i => some (.int (i : Nat))) (fun i => xs[i]?)) :=
  ⟨fun i _ hi q => ⟨q, hi⟩, fun _ q => ⟨q, Nat.le_refl _⟩, fun i H v H' _ q y => let ⟨T, x, h1, h2, h3, h4⟩ := y; ⟨T, .int (i : Nat), x, h1, h2, h3, rfl, h4⟩⟩
/-- for x in xs, a list or a tuple -/
theorem s_forS {H0 : Hp} (h : Ev tl σ H (.ref a)) (e0 : Ex H0 H) (hx : Sq K H0 a xs) (Pv : Nat → L2.St → Hp → Prop) (h0 : ∀ H1, Ex H H1 → Pv 0 σ H1) (hl : ∀ i σ' H', Pv i σ' H' → Ex H0 H')
    (hs : ∀ i x σ' H', xs[i]? = some x → Pv i σ' H' → g x σ' H' fun σ2 H2 => tu { D with nx := Pv (i + 1), ct := Pv (i + 1), bk := D.nx } σ2 H2) (hd : ∀ σ' H', Pv xs.length σ' H' → D.nx σ' H') : tFor (iSeq K tl) g tu D σ H :=
  h H (Ex.refl H) _ fun H1 e => ⟨a, xs, rfl, by
    rcases hx with hx | hx
    · exact .inl ⟨ex_l (e0.trans e) hx, for_list Pv (h0 H1 e) (fun i σ' H' _ p => ex_l (hl i σ' H' p) hx) hs hd⟩
    · exact .inr ⟨ex_t (e0.trans e) hx, for_tup Pv (h0 H1 e) (fun i σ' H' _ p => ex_t (hl i σ' H' p) hx) hs hd⟩⟩
theorem q_forS {H0 : Hp} (h : Ev tl σ H (.ref a)) (e0 : Ex H0 H) (hx : Sq K H0 a xs) (Pv : Nat → L2.St → Hp → Prop) (h0 : ∀ H1, Ex H H1 → Pv 0 σ H1) (hl : ∀ i σ' H', Pv i σ' H' → Ex H0 H')
    (hs : ∀ i x σ' H', xs[i]? = some x → Pv i σ' H' → g x σ' H' fun σ2 H2 => tu { D with nx := Pv (i + 1), ct := Pv (i + 1), bk := tz D } σ2 H2) (hd : ∀ σ' H', Pv xs.length σ' H' → tz D σ' H') : tSeq (tFor (iSeq K tl) g tu) tz D σ H :=
  s_forS (D := { D with nx := tz D }) h e0 hx Pv h0 hl hs hd
/-- for i, x in enumerate(xs) -/
theorem s_forE {H0 : Hp} {i j : Nat} (h : EvA ta σ H [.ref a]) (e0 : Ex H0 H) (hx : Sq K H0 a xs) (Pv : Nat → L2.St → Hp → Prop) (h0 : ∀ H1, Ex H H1 → Pv 0 σ H1) (hl : ∀ k σ' H', Pv k σ' H' → Ex H0 H')
    (hs : ∀ (k : Nat) x σ' H' H2, xs[k]? = some x → Pv k σ' H' → Ex H' H2 → tu { D with nx := Pv (k + 1), ct := Pv (k + 1), bk := D.nx } ((σ'.set i (some (.int (k : Int)))).set j (some x)) H2) (hd : ∀ σ' H', Pv xs.length σ' H' → D.nx σ' H') :
    tFor (iEnumS K ta) (gTup K 2 (gCons (gName i) (gCons (gName j) gNil))) tu D σ H :=
  h H (Ex.refl H) _ fun H1 e => by
    have turn : ∀ (k : Nat) (v : V) (σ' : L2.St) (H2 H3 : Hp), k < xs.length → Pv k σ' H2 → YPair (fun i => some (.int (i : Nat))) (fun i => xs[i]?) k H2 v H3 →
        gTup K 2 (gCons (gName i) (gCons (gName j) gNil)) v σ' H3 fun σ2 H4 => tu { D with nx := Pv (k + 1), ct := Pv (k + 1), bk := D.nx } σ2 H4 := by
      rintro k v σ' H2 H3 hk p ⟨T, y, x, rfl, nT, rfl, hy, hx'⟩
      cases hy
      exact ⟨T, _, rfl, st_of upd_same, rfl, _, _, rfl, _, _, rfl, rfl, hs k x σ' H2 _ hx' p (Ex.new nT)⟩
    rcases hx with hx | hx
    · exact ⟨a, xs, rfl, .inl ⟨ex_l (e0.trans e) hx, for_it walk_enum Pv (h0 H1 e) (fun k σ' H' _ p => ex_l (hl k σ' H' p) hx) (fun k v σ' H2 H3 hk p y => turn k v σ' H2 H3 hk p y) hd⟩⟩
    · exact ⟨a, xs, rfl, .inr ⟨ex_t (e0.trans e) hx, for_it walk_enumT Pv (h0 H1 e) (fun k σ' H' _ p => ex_t (hl k σ' H' p) hx) (fun k v σ' H2 H3 hk p y => turn k v σ' H2 H3 hk p y) hd⟩⟩
theorem q_forE {H0 : Hp} {i j : Nat} (h : EvA ta σ H [.ref a]) (e0 : Ex H0 H) (hx : Sq K H0 a xs) (Pv : Nat → L2.St → Hp → Prop) (h0 : ∀ H1, Ex H H1 → Pv 0 σ H1) (hl : ∀ k σ' H', Pv k σ' H' → Ex H0 H')
    (hs : ∀ (k : Nat) x σ' H' H2, xs[k]? = some x → Pv k σ' H' → Ex H' H2 → tu { D with nx := Pv (k + 1), ct := Pv (k + 1), bk := tz D } ((σ'.set i (some (.int (k : Int)))).set j (some x)) H2) (hd : ∀ σ' H', Pv xs.length σ' H' → tz D σ' H') :
    tSeq (tFor (iEnumS K ta) (gTup K 2 (gCons (gName i) (gCons (gName j) gNil))) tu) tz D σ H := s_forE (D := { D with nx := tz D }) h e0 hx Pv h0 hl hs hd
end
end Evl
set_option Elab.async false
set_option linter.all false
set_option maxRecDepth 100000
set_option maxHeartbeats 4000000
/-! readings of dicts by texts, of levels -/
namespace Gen
open PySem L2 Evl
theorem u1 {n : Nat} (h : n + 64 < cLine) : n + 1 < cLine := by omega
section
variable {K : PySem.W.Frag} {σ : L2.St} {H H' : Hp} {td ty tv : TE} {d a : Addr} {kvs : List (Key × V)} {x : Str} {v : V} {D : Ends} {tz : TS}
theorem ev_din (hy : Ev ty σ H (.str x)) (hd : Ev td σ H (.ref d)) (h : H d = some (.dK kvs)) : Ev (tDIn ty td) σ H (.bl (valV kvs (.inr x)).isSome) := fun H1 e Q q =>
  hy H1 e _ fun H2 e2 => hd H2 (e.trans e2) _ fun H3 e3 => ⟨d, _, rfl, DGet.k (k := .inr x) (((e.trans e2).trans e3) _ _ h), q H3 (e2.trans e3)⟩
theorem ev_dnotin (hy : Ev ty σ H (.str x)) (hd : Ev td σ H (.ref d)) (h : H d = some (.dK kvs)) : Ev (tDNotIn ty td) σ H (.bl (!(valV kvs (.inr x)).isSome)) := fun H1 e Q q =>
  hy H1 e _ fun H2 e2 => hd H2 (e.trans e2) _ fun H3 e3 => ⟨d, _, rfl, DGet.k (k := .inr x) (((e.trans e2).trans e3) _ _ h), q H3 (e2.trans e3)⟩
theorem ev_dget (hd : Ev td σ H (.ref d)) (hy : Ev ty σ H (.str x)) (h : H d = some (.dK kvs)) (hv : valV kvs (.inr x) = some v) : Ev (tDGet td ty) σ H v := fun H1 e Q q =>
  hd H1 e _ fun H2 e2 => hy H2 (e.trans e2) _ fun H3 e3 => ⟨d, v, rfl, hv ▸ DGet.k (k := .inr x) (((e.trans e2).trans e3) _ _ h), q H3 (e2.trans e3)⟩
theorem s_dput (hd : Ev td σ H (.ref d)) (hy : Ev ty σ H (.str x)) (hv : Ev tv σ H v) (h : H d = some (.dK kvs)) (hz : kvs.length < 100000) (k : ∀ H1, Ex H H1 → D.nx σ (upd H1 d (.dK (putK kvs (.inr x) v)))) : sDPut td ty tv D σ H :=
  hv H (Ex.refl H) _ fun H1 e1 => hd H1 e1 _ fun H2 e2 => hy H2 (e1.trans e2) _ fun H3 e3 => ⟨d, _, rfl, DPut.k (k := .inr x) (((e1.trans e2).trans e3) _ _ h) (sz_lt hz), k H3 ((e1.trans e2).trans e3)⟩
theorem q_dput (hd : Ev td σ H (.ref d)) (hy : Ev ty σ H (.str x)) (hv : Ev tv σ H v) (h : H d = some (.dK kvs)) (hz : kvs.length < 100000) (k : ∀ H1, Ex H H1 → tz D σ (upd H1 d (.dK (putK kvs (.inr x) v)))) : tSeq (sDPut td ty tv) tz D σ H :=
  s_dput (D := { D with nx := tz D }) hd hy hv h hz k
theorem q_dnew {i : Nat} (k : ∀ p, H p = none → tz D (σ.set i (some (.ref p))) (upd H p (.dK []))) : tSeq (tAsg tDNewK (gName i)) tz D σ H := fun p hp => k p hp
end
/-- levels: rows of texts -/
def LvAt (K : PySem.W.Frag) (H : Hp) (a : Addr) (ls : List (List Str)) : Prop :=
  ∃ rows, Sq K H a rows ∧ rows.length = ls.length ∧ ∀ (i : Nat) (ws : List Str), ls[i]? = some ws → ∃ p, rows[i]? = some (.ref p) ∧ Sq K H p (ws.map V.str)
theorem LvAt.ex {K : PySem.W.Frag} {H H' : Hp} {a : Addr} {ls : List (List Str)} (h : LvAt K H a ls) (e : Ex H H') : LvAt K H' a ls :=
  let ⟨rows, h1, h2, h3⟩ := h
  ⟨rows, ex_s e h1, h2, fun i ws hi => let ⟨p, h4, h5⟩ := h3 i ws hi; ⟨p, h4, ex_s e h5⟩⟩
def plRow (n : Nat) (ws : List Str) (acc : List (Key × V)) : List (Key × V) := ws.foldl (fun acc w => putK acc (.inr w) (.int (n : Int))) acc
def plTo : Nat → List (List Str) → List (Key × V) → List (Key × V)
  | _, [], acc => acc
  | n, ws :: r, acc => plTo (n + 1) r (plRow n ws acc)
theorem plTo_snoc {ws : List Str} : ∀ {ls : List (List Str)} {n : Nat} {acc : List (Key × V)}, plTo n (ls ++ [ws]) acc = plRow (n + ls.length) ws (plTo n ls acc)
  | [], n, acc => rfl
  | l :: r, n, acc => by
    show plTo (n + 1) (r ++ [ws]) (plRow n l acc) = _
    rw [plTo_snoc, List.length_cons, Nat.add_assoc, Nat.add_comm 1]
    rfl
theorem plRow_len : ∀ {ws : List Str} {n : Nat} {acc : List (Key × V)}, (plRow n ws acc).length ≤ acc.length + ws.length
  | [], n, acc => by show acc.length ≤ acc.length + 0; omega
  | w :: r, n, acc => by
    have h1 : (plRow n r (putK acc (.inr w) (.int (n : Int)))).length ≤ (putK acc (.inr w) (.int (n : Int))).length + r.length := plRow_len
    have h2 := length_putK acc (.inr w) (.int (n : Int))
    show (plRow n r (putK acc (.inr w) (.int (n : Int)))).length ≤ acc.length + (r.length + 1)
    omega
def many (ls : List (List Str)) : Nat := (ls.map List.length).sum
theorem plTo_len : ∀ {ls : List (List Str)} {n : Nat} {acc : List (Key × V)}, (plTo n ls acc).length ≤ acc.length + many ls
  | [], n, acc => by show acc.length ≤ acc.length + 0; omega
  | l :: r, n, acc => by
    have h1 : (plTo (n + 1) r (plRow n l acc)).length ≤ _ := plTo_len
    have h2 : (plRow n l acc).length ≤ _ := plRow_len
    have h3 : many (l :: r) = l.length + many r := rfl
    show (plTo (n + 1) r (plRow n l acc)).length ≤ _
    omega
theorem many_take {ls : List (List Str)} {i : Nat} {ws : List Str} (h : ls[i]? = some ws) : many (ls.take i) + ws.length ≤ many ls := by
  have e : ls = ls.take i ++ ws :: ls.drop (i + 1) := by
    have hi := (List.getElem?_eq_some_iff.mp h)
    obtain ⟨hl, he⟩ := hi
    have := List.take_append_drop i ls
    rw [List.drop_eq_getElem_cons hl, he] at this
    exact this.symm
  have e2 : many ls = many (ls.take i) + (ws.length + many (ls.drop (i + 1))) := by
    conv => lhs; rw [e]
    unfold many
    rw [List.map_append, List.sum_append]
    rfl
  omega
theorem take_snoc {α : Type} {ls : List α} {i : Nat} {ws : α} (h : ls[i]? = some ws) : ls.take (i + 1) = ls.take i ++ [ws] := by
  rw [List.take_add_one, h]
  rfl
/-- a line that fits -/
def fitB (kvs : List (Key × V)) (x y : Str) : Bool :=
  match valV kvs (.inr x), valV kvs (.inr y) with
  | some (.int i), some (.int j) => decide (j = i + 1)
  | _, _ => false
end Gen
set_option Elab.async false
set_option linter.all false
set_option maxRecDepth 100000
set_option maxHeartbeats 4000000
/-! sets whose elements are tuples of keys of any kind: the table, the search, the adding -/
namespace XT
open PySem PySem.Spec PyProof.Rows L2
section
variable {P : Program} {w : World} {K : Type} [DecidableEq K] {knd : PySem.KeyKind P w K} {A : Around} {E : Value → Shared → Prop} {s : Shared}
abbrev Hs (knd : PySem.KeyKind P w K) (k : List K) : Int := tupleKeyHash knd k
abbrev At (knd : PySem.KeyKind P w K) (h : Heap) (k : List K) (b : Addr) : Prop := IsTupleKey knd h k b
/-- items of which nothing is asked -/
structure Calm (knd : PySem.KeyKind P w K) : Prop where
  cls : ∀ {k : K} {v : Value} (n : Nat), knd.is k v = true → ofAClassStatement n v = pure false
  byv : ∀ {k : K} {v : Value} (n : Nat), knd.is k v = true → ∃ r, hashByValue n v = pure r
theorem each_is {ks : List K} {vs : List Value} (h : PySem.ItemsAre knd ks vs) : ∀ v ∈ vs, ∃ k, knd.is k v = true := by
  induction h with
  | nil => exact fun v z => nomatch z
  | @cons k v0 ks vs h0 _ ih =>
    intro v z
    cases z with
    | head => exact ⟨k, h0⟩
    | tail _ z => exact ih v z
theorem cls_at (c : Calm knd) {k : List K} {b : Addr} {Q : Bool → Shared → Prop} (x : At knd s.heap k b) (q : Q false s) : wpAny (model P w) A (ofAClassStatement 8 (.ref b)) Q E s := by
  have ty := x.typeIs
  obtain ⟨ob, its, m, h1, _, h2, h3⟩ := x
  unfold ofAClassStatement
  refine wpAny_bind (wpAny_typeOf ty ?_)
  dsimp only
  have eq1 : ("tuple" == "tuple") = true := rfl
  simp only [eq1, if_true, Bool.not_true, Bool.false_eq_true, if_false]
  try refine wpAny_bind (wpAny_pure ?_)
  try simp only [Bool.not_true, Bool.false_eq_true, if_false]
  change wpAny _ _ (seqItems? (.ref b) >>= _) _ _ s
  refine wpAny_bind (wpAny_seqItems h1 h2 ?_)
  dsimp only
  refine wpAny_bind ?_
  change wpAny _ _ (forIn its _ _) _ _ s
  rw [← Array.forIn_toList]
  refine wpAny_forIn_list _ (fun more r s1 => r.1 = none ∧ s1 = s ∧ ∀ v ∈ more, ∃ k, knd.is k v = true) _ ?turn ?fin _ _ ⟨rfl, rfl, each_is h3⟩
  case turn =>
    rintro v more r s1 ⟨hr, rfl, hm⟩
    obtain ⟨k1, hk1⟩ := hm v (List.mem_cons_self ..)
    rw [c.cls _ hk1]
    refine wpAny_bind (wpAny_pure ?_)
    simp only [Bool.false_eq_true, if_false]
    exact wpAny_pure ⟨rfl, rfl, fun u z => hm u (List.mem_cons_of_mem _ z)⟩
  case fin =>
    rintro ⟨r1, r2⟩ s1 ⟨hr, rfl, _⟩
    simp only at hr
    subst hr
    exact wpAny_pure q
theorem byv_at (c : Calm knd) {k : List K} {b : Addr} {Q : Bool → Shared → Prop} (x : At knd s.heap k b) (q : ∀ r, Q r s) : wpAny (model P w) A (hashByValue 8 (.ref b)) Q E s := by
  have ty := x.typeIs
  obtain ⟨ob, its, m, h1, _, h2, h3⟩ := x
  unfold hashByValue
  refine wpAny_bind (wpAny_specialOf ty F.slot_tuple_hash.lookup ?_)
  change wpAny _ _ (seqItems? (.ref b) >>= _) _ _ s
  refine wpAny_bind (wpAny_seqItems h1 h2 (wpAny_bind ?_))
  change wpAny _ _ (forIn its _ _) _ _ s
  rw [← Array.forIn_toList]
  refine wpAny_forIn_list _ (fun more r s1 => r.1 = none ∧ s1 = s ∧ ∀ v ∈ more, ∃ k, knd.is k v = true) _ ?turn ?fin _ _ ⟨rfl, rfl, each_is h3⟩
  case turn =>
    rintro v more r s1 ⟨hr, rfl, hm⟩
    obtain ⟨k1, hk1⟩ := hm v (List.mem_cons_self ..)
    obtain ⟨g, hg⟩ := c.byv 7 hk1
    rw [hg]
    refine wpAny_bind (wpAny_pure ?_)
    cases g with
    | true =>
      simp only [Bool.not_true, Bool.false_eq_true, if_false]
      exact wpAny_pure ⟨rfl, rfl, fun u z => hm u (List.mem_cons_of_mem _ z)⟩
    | false =>
      simp only [Bool.not_false, if_true]
      exact wpAny_pure (wpAny_pure (q false))
  case fin =>
    rintro ⟨r1, r2⟩ s1 ⟨hr, rfl, _⟩
    simp only at hr
    subst hr
    exact wpAny_pure (q true)
/-- whether a search could be seen: never -/
theorem unseen (c : Calm knd) {k : List K} {b : Addr} {Q : Bool → Shared → Prop} (x : At knd s.heap k b) {ys : List Value} (hy : ∀ y ∈ ys, ∃ k1 b1, y = Value.ref b1 ∧ At knd s.heap k1 b1) (q : Q false s) :
    wpAny (model P w) A (searchCouldBeSeen (.ref b) ys) Q E s := by
  unfold searchCouldBeSeen
  refine wpAny_bind ?_
  refine wpAny_forIn_list _ (fun more r s1 => r.1 = none ∧ s1 = s ∧ ∀ y ∈ more, ∃ k1 b1, y = Value.ref b1 ∧ At knd s.heap k1 b1) _ ?turn ?fin _ _ ⟨rfl, rfl, hy⟩
  case turn =>
    rintro v more r s1 ⟨hr, rfl, hm⟩
    obtain ⟨k1, b1, rfl, x1⟩ := hm v (List.mem_cons_self ..)
    have hm2 := fun u (z : u ∈ more) => hm u (List.mem_cons_of_mem _ z)
    dsimp only
    by_cases same : (b == b1 || (carriedByValue (.ref b) && carriedByValue (.ref b1))) = true
    · exact wp_if_pos same (wpAny_pure ⟨rfl, rfl, hm2⟩)
    · refine wp_if_neg same (wpAny_bind (wpAny_eqIsQuiet_tuple x ?_))
      simp only [Bool.not_true, Bool.false_eq_true, if_false]
      refine wpAny_bind (wpAny_eqIsQuiet_tuple x1 ?_)
      simp only [Bool.not_true, Bool.false_eq_true, if_false]
      refine wpAny_bind (cls_at c x ?_)
      simp only [Bool.false_eq_true, if_false]
      refine wpAny_bind (cls_at c x1 ?_)
      simp only [Bool.false_eq_true, if_false]
      exact wpAny_pure ⟨rfl, rfl, hm2⟩
  case fin =>
    rintro ⟨r1, r2⟩ s1 ⟨hr, rfl, _⟩
    simp only at hr
    subst hr
    exact wpAny_pure q
end
end XT
set_option Elab.async false
set_option linter.all false
set_option maxRecDepth 100000
set_option maxHeartbeats 4000000
/-! the search for a tuple in such a set -/
namespace XT
open PySem PySem.Spec PyProof.Rows L2
section
variable {P : Program} {w : World} {K : Type} [DecidableEq K] {knd : PySem.KeyKind P w K} {A : Around} {E : Value → Shared → Prop} {s : Shared}
def entries (knd : PySem.KeyKind P w K) (L : List (Addr × List K)) : List (Int × Value) := L.map fun e => (Hs knd e.2, .ref e.1)
def hashes (knd : PySem.KeyKind P w K) (L : List (Addr × List K)) : List Int := L.map fun e => Hs knd e.2
/-- at a a set whose elements are the tuples of L, told by their addresses and keys -/
structure Tset (knd : PySem.KeyKind P w K) (h : Heap) (a : Addr) (L : List (Addr × List K)) (es : Array (Int × Value)) (ep : Nat) (t : SetTable) : Prop where
  obj : ∃ o, h.get? a = some o ∧ o.ExactSet ∧ o.data = .set es ep t
  ents : es.toList = entries knd L
  tab : TabOk t (hashes knd L)
  once : (L.map Prod.snd).Nodup
  here : ∀ e ∈ L, At knd h e.2 e.1
  led : w.params.followText "set-order" = true ∨ t.led = true
  room : L.length * 5 < t.mask * 3
  few : L.length < 64
variable {a : Addr} {L : List (Addr × List K)} {es : Array (Int × Value)} {ep : Nat} {t : SetTable}
theorem ents_len (h : es.toList = entries knd L) : es.size = L.length := by
  have := congrArg List.length h
  simpa only [entries, Array.length_toList, List.length_map] using this
theorem ents_at (h : es.toList = entries knd L) {i : Nat} {e : Addr × List K} (hi : L[i]? = some e) : es[i]? = some (Hs knd e.2, Value.ref e.1) := by
  have := congrArg (fun l => l[i]?) h
  simpa only [Array.getElem?_toList, entries, List.getElem?_map, hi, Option.map_some] using this
theorem fits_of (h1 : t.place.size = es.size) (h2 : t.dummies = #[]) (h3 : es.size ≤ t.mask) : t.fits es.size = true := by
  simp only [SetTable.fits, SetTable.fill, h2, Bool.and_eq_true, beq_iff_eq, decide_eq_true_eq]
  exact ⟨h1, by simpa [h1] using h3⟩
theorem Tset.place (R : Tset knd s.heap a L es ep t) : t.place.size = L.length := by
  have := R.tab.sz
  simpa only [hashes, List.length_map] using this
theorem Tset.fits (R : Tset knd s.heap a L es ep t) : t.fits es.size = true :=
  fits_of (by rw [R.place, ents_len R.ents]) R.tab.dm (by have := R.room; rw [ents_len R.ents]; omega)
theorem Tset.keeps_way (R : Tset knd s.heap a L es ep t) : ¬ t.gaveWay = true := by
  simp only [SetTable.gaveWay, mask_odd R.tab.mok]
  decide
/-- the c-th step of a hash's way -/
abbrev stepN (m : Nat) (h : Int) (c : Nat) : SetTable.Probe := nth m (runAt m (SetTable.bits h % (m + 1)) (SetTable.bits h)) c
theorem step_more (m : Nat) (h : Int) (c q : Nat) : nth m (stepN m h c) q = stepN m h (c + q) := (nth_add m c _ q).symm
theorem step_way (m : Nat) (h : Int) (c : Nat) : (stepN m h c).j = way m h c := rfl
theorem no_dummy (m : Nat) : ∀ (n : Nat) (p : SetTable.Probe), p.dummy = none → (nth m p n).dummy = none
  | 0, _, h => h
  | n + 1, p, h => no_dummy m n (adv m p) (by unfold adv; split <;> exact h)
/-- from the c-th step on; D steps are left up to the empty slot -/
theorem look (R : Tset knd s.heap a L es ep t) (cm : Calm knd) {x : Addr} {k : List K} (hx : At knd s.heap k x) (hu : A.units < cLine) {Z : Nat} (hZ : Z < 10 * SetTable.turns t.mask)
    (z1 : way t.mask (Hs knd k) Z ∉ t.place.toList) (z2 : ∀ c, c < Z → way t.mask (Hs knd k) c ∈ t.place.toList) {Q : SetFound → Shared → Prop}
    {ad : Bool} (q1 : k ∈ L.map Prod.snd → ∀ r : Option Nat, r.isSome = !ad → Q (.there r) s) (q2 : k ∉ L.map Prod.snd → Q (.free (way t.mask (Hs knd k) Z) false) s) :
    ∀ (f c : Nat) (stand : Option SetTable.Probe), stand.getD (t.probeStart (Hs knd k)) = stepN t.mask (Hs knd k) c → c ≤ Z → Z < f + c →
      (∀ (i : Nat) (e : Addr × List K), L[i]? = some e → e.2 = k → ∃ d, c ≤ d ∧ d < Z ∧ t.place.toList[i]? = some (way t.mask (Hs knd k) d)) →
      wpAny (model P w) A (setSearchFrom a (.ref x) (Hs knd k) ad f stand) Q E s := by
  obtain ⟨ob, o1, o2, o3⟩ := R.obj
  intro f
  induction f with
  | zero => intro c stand _ h1 h2; omega
  | succ f ih =>
    intro c stand hst h1 h2 hall
    rw [setSearchFrom_succ]
    refine wpAny_bind (wpAny_setState_of o1 o3 R.fits ?_)
    dsimp only
    refine wp_if_neg R.keeps_way ?_
    try refine wpAny_bind (wpAny_pure ?_)
    have hashes_at : ∀ (i : Nat) (e : Addr × List K), L[i]? = some e → (es[i]?.map (·.1)).getD 0 = Hs knd e.2 := fun i e h => by rw [ents_at R.ents h] <;> rfl
    have W : ∀ q, (nth t.mask (stepN t.mask (Hs knd k) c) q).j = way t.mask (Hs knd k) (c + q) := fun q => by rw [step_more]
    have found := go_spec t R.tab.ris R.tab.dm (fun i => (es[i]?.map (·.1)).getD 0) (Hs knd k) (10 * SetTable.turns t.mask) (Z - c) (stepN t.mask (Hs knd k) c) (no_dummy _ c _ rfl) (by omega)
      (fun q hq => by rw [W]; exact z2 _ (by omega)) (by rw [W, Nat.add_sub_cancel' h1]; exact z1)
    -- none of k's own is passed unseen
    have unpassed : ∀ (lim : Nat), (∀ (q i : Nat), q < lim → t.place.toList[i]? = some (nth t.mask (stepN t.mask (Hs knd k) c) q).j → (es[i]?.map (·.1)).getD 0 ≠ Hs knd k) → ∀ (i : Nat) (e : Addr × List K), L[i]? = some e → e.2 = k → ∀ d, c ≤ d → d < c + lim → t.place.toList[i]? ≠ some (way t.mask (Hs knd k) d) := by
      intro lim hno i e hi hk d d1 d2 hp
      refine hno (d - c) i (by omega) (by rw [W, Nat.add_sub_cancel' d1]; exact hp) ?_
      rw [hashes_at i e hi, hk]
    rcases found with ⟨q, i, hq, hi, hh, hno, hpr⟩ | ⟨hno, hpr⟩
    · have probe : t.probe (fun i => (es[i]?.map (·.1)).getD 0) (Hs knd k) (stand.getD (t.probeStart (Hs knd k))) = some (.candidate (way t.mask (Hs knd k) (c + q)) i (stepN t.mask (Hs knd k) (c + (q + 1)))) := by
        rw [hst, ← W, ← step_more]
        exact hpr
      rw [probe]
      dsimp only
      rw [W] at hi
      have il : i < L.length := by
        have := (List.getElem?_eq_some_iff.mp hi).1
        rw [Array.length_toList, R.place] at this
        exact this
      obtain ⟨e, he⟩ : ∃ e, L[i]? = some e := ⟨L[i], List.getElem?_eq_getElem il⟩
      have em := List.mem_of_getElem? he
      have behind : wpAny (model P w) A (searchRest a (.ref x) (Hs knd k) ad f es t (way t.mask (Hs knd k) (c + q)) i (stepN t.mask (Hs knd k) (c + (q + 1)))) Q E s := by
        unfold searchRest
        rw [ents_at R.ents he]
        dsimp only
        refine wpAny_bind (wpAny_holding (wpAny_eqBool_tuple hu (R.here e em) hx (wpAny_bind (wpAny_setState_of o1 o3 R.fits ?_))))
        dsimp only
        by_cases same : e.2 = k
        · have kin := q1 (List.mem_map.mpr ⟨e, em, same⟩)
          cases ad with
          | true => exact wp_if_pos (by simp [same]) (wpAny_pure (kin none rfl))
          | false =>
            refine wp_if_neg (by simp) ?_
            try refine wpAny_bind (wpAny_pure ?_)
            rw [sameMem]
            dsimp only
            have live := slot_live R.tab.ris hi
            simp only [if_true, live, ents_at R.ents he]
            refine wpAny_bind (wpAny_isSame_ref_self (wpAny_bind (wpAny_pure ?_)))
            simp only [if_true]
            exact wp_if_pos (by simp [same]) (wpAny_pure (kin _ rfl))
        · refine wp_if_neg (by simp [same]) ?_
          try refine wpAny_bind (wpAny_pure ?_)
          rw [sameMem]
          dsimp only
          have live := slot_live R.tab.ris hi
          simp only [if_true, live, ents_at R.ents he]
          refine wpAny_bind (wpAny_isSame_ref_self (wpAny_bind (wpAny_pure ?_)))
          simp only [if_true]
          refine wp_if_neg (by simp [same]) ?_
          refine ih (c + (q + 1)) (some (stepN t.mask (Hs knd k) (c + (q + 1)))) rfl (by omega) (by omega) fun i1 e1 hi1 hk1 => ?_
          obtain ⟨d, d1, d2, d3⟩ := hall i1 e1 hi1 hk1
          refine ⟨d, ?_, d2, d3⟩
          rcases Nat.lt_trichotomy d (c + q) with y | y | y
          · exact absurd d3 (unpassed q hno i1 e1 hi1 hk1 d d1 y)
          · subst y
            have l2 := slot_live R.tab.ris d3
            rw [live] at l2
            cases l2
            rw [he] at hi1
            cases hi1
            exact absurd hk1 same
          · omega
      by_cases hl : t.led = true
      · refine wp_if_neg (by simp [hl]) ?_
        try refine wpAny_bind (wpAny_pure ?_)
        exact behind
      · refine wp_if_pos (by simp [hl]) (wpAny_bind (unseen cm hx (fun y hy => ?_) (wp_if_neg (by decide) ?_)))
        · obtain ⟨v, hv, rfl⟩ := List.mem_map.mp hy
          have hv1 : v ∈ es.toList := by
            have : v ∈ es ∧ v.1 = Hs knd k := by simpa using hv
            simpa using this.1
          rw [R.ents] at hv1
          obtain ⟨e1, he1, rfl⟩ := List.mem_map.mp hv1
          exact ⟨e1.2, e1.1, rfl, R.here e1 he1⟩
        · try refine wpAny_bind (wpAny_pure ?_)
          exact behind
    · have probe : t.probe (fun i => (es[i]?.map (·.1)).getD 0) (Hs knd k) (stand.getD (t.probeStart (Hs knd k))) = some (.empty (way t.mask (Hs knd k) Z) none) := by
        have e2 := W (Z - c)
        rw [Nat.add_sub_cancel' h1] at e2
        rw [hst, ← e2]
        exact hpr
      rw [probe]
      dsimp only
      refine wpAny_pure (q2 fun hm => ?_)
      obtain ⟨e, he, hk⟩ := List.mem_map.mp hm
      obtain ⟨i, hi⟩ := List.getElem?_of_mem he
      obtain ⟨d, d1, d2, d3⟩ := hall i e hi hk
      exact unpassed (Z - c) hno i e hi hk d d1 (by omega) d3
/-- as adding asks -/
theorem look0 (R : Tset knd s.heap a L es ep t) (cm : Calm knd) {x : Addr} {k : List K} (hx : At knd s.heap k x) (hu : A.units < cLine) {Q : SetFound → Shared → Prop}
    {ad : Bool} (q1 : k ∈ L.map Prod.snd → ∀ r : Option Nat, r.isSome = !ad → Q (.there r) s)
    (q2 : ∀ Z, k ∉ L.map Prod.snd → way t.mask (Hs knd k) Z ∉ t.place.toList → (∀ c, c < Z → way t.mask (Hs knd k) c ∈ t.place.toList) → Q (.free (way t.mask (Hs knd k) Z) false) s) :
    wpAny (model P w) A (setSearch a (.ref x) (Hs knd k) ad) Q E s := by
  obtain ⟨Z, hZ, z1, z2⟩ := R.tab.first (by have := R.room; simp only [hashes, List.length_map]; omega) (Hs knd k)
  have small : Z < 100000 := by
    have : SetTable.turns t.mask ≤ 142 := by
      unfold SetTable.turns
      rcases R.tab.mok with e | e | e <;> omega
    omega
  unfold setSearch
  refine look R cm hx hu hZ z1 z2 q1 (fun n => q2 Z n z1 z2) 100000 0 none rfl (Nat.zero_le _) (by omega) fun i e hi hk => ?_
  have ilt : i < t.place.toList.length := by
    rw [Array.length_toList, R.place]
    exact (List.getElem?_eq_some_iff.mp hi).1
  obtain ⟨d, d1, d2⟩ := R.tab.before z1 (show (hashes knd L)[i]? = some (Hs knd k) by rw [hashes, List.getElem?_map, hi, ← hk] <;> rfl) (List.getElem?_eq_getElem ilt)
  exact ⟨d, Nat.zero_le _, d1, by rw [List.getElem?_eq_getElem ilt, d2]⟩
end
end XT
set_option Elab.async false
set_option linter.all false
set_option maxRecDepth 100000
set_option maxHeartbeats 4000000
/-! such a set laid anew, one put in, one looked for -/
namespace XT
open PySem PySem.Spec PyProof.Rows L2
section
variable {P : Program} {w : World} {K : Type} [DecidableEq K] {knd : PySem.KeyKind P w K} {A : Around} {E : Value → Shared → Prop} {s : Shared}
variable {a : Addr} {L : List (Addr × List K)} {es : Array (Int × Value)} {ep : Nat} {t : SetTable}
theorem at_still {h h' : Heap} {k : List K} {b : Addr} {o : Obj} (x : At knd h k b) (ho : h.get? a = some o) (hd : o.data = .set es ep t) (sb : Heap.SameBut a h h') : At knd h' k b := by
  obtain ⟨o1, its, m, g1, g2, g3, g4⟩ := x
  refine ⟨o1, its, m, (sb.2 b ?_).trans g1, g2, g3, g4⟩
  intro z
  subst z
  rw [ho] at g1
  cases g1
  rw [hd] at g3
  cases g3
/-- the elements told in another sequence of places -/
theorem told_anew (order : Array Nat) (h : es.toList = entries knd L) (hp : order.toList.Perm (List.range L.length)) :
    ∃ M : List (Addr × List K), (order.filterMap (es[·]?)).toList = entries knd M ∧ M.Perm L ∧ hashes knd M = order.toList.map fun i => (es.map (·.1)).getD i 0 := by
  refine ⟨order.toList.filterMap (L[·]?), ?_, ?_, ?_⟩
  · have g : ∀ l : List Nat, l.filterMap (es[·]?) = entries knd (l.filterMap (L[·]?)) := by
      intro l
      induction l with
      | nil => rfl
      | cons i l ih =>
        cases hi : L[i]? with
        | some e =>
          rw [List.filterMap_cons_some (ents_at h hi), List.filterMap_cons_some hi, ih]
          rfl
        | none =>
          have hn : es[i]? = none := by
            rw [Array.getElem?_eq_none_iff, ents_len h]
            exact List.getElem?_eq_none_iff.mp hi
          rw [List.filterMap_cons_none hn, List.filterMap_cons_none hi, ih]
    first
      | rw [Array.toList_filterMap, g]
      | simpa using g order.toList
  · have all : (List.range L.length).filterMap (L[·]?) = L := by
      refine List.ext_getElem? fun i => ?_
      have key : ∀ n, n ≤ L.length → (List.range n).filterMap (L[·]?) = L.take n := by
        intro n
        induction n with
        | zero => exact fun _ => rfl
        | succ n ih =>
          intro hn
          rw [List.range_succ, List.filterMap_append, ih (by omega), List.filterMap_cons_some (List.getElem?_eq_getElem (by omega : n < L.length)), List.filterMap_nil, List.take_add_one, List.getElem?_eq_getElem (by omega : n < L.length)]
          rfl
      rw [key _ (Nat.le_refl _), List.take_length]
    have pm := hp.filterMap (L[·]?)
    rw [all] at pm
    exact pm
  · have g : ∀ l : List Nat, (∀ i ∈ l, i < L.length) → hashes knd (l.filterMap (L[·]?)) = l.map fun i => (es.map (·.1)).getD i 0 := by
      intro l
      induction l with
      | nil => exact fun _ => rfl
      | cons i l ih =>
        intro hl
        have hi := hl i (List.mem_cons_self ..)
        have e1 := List.getElem?_eq_getElem hi
        rw [List.filterMap_cons_some e1, List.map_cons, ← ih fun j hj => hl j (List.mem_cons_of_mem _ hj)]
        have e2 : (es.map (·.1)).getD i 0 = Hs knd (L[i]).2 := by
          rw [Array.getD_eq_getD_getElem?, Array.getElem?_map, ents_at h e1] <;> rfl
        rw [e2] <;> rfl
    exact g _ fun i hi => List.mem_range.mp (hp.mem_iff.mp hi)
theorem relay (o : Obj) (ho : s.heap.get? a = some o) (hex : o.ExactSet) (hd : o.data = .set es ep t) (he : es.toList = entries knd L) (hs : t.place.size = es.size) (hm : t.dummies = #[]) (hf : es.size ≤ t.mask)
    (h1 : (L.map Prod.snd).Nodup) (h2 : ∀ e ∈ L, At knd s.heap e.2 e.1) (h4 : w.params.followText "set-order" = true ∨ t.led = true) (h5 : L.length < 64) {n M : Nat}
    (w1 : SetTable.sizeAbove n - 1 = M) (w2 : MaskOk M) (w3 : SetTable.sizeAbove n ≤ 128) (w4 : L.length * 5 < M * 3) {Q : Unit → Shared → Prop}
    (q : ∀ h' L' es' ep' t', Heap.SameBut a s.heap h' → Tset knd h' a L' es' ep' t' → L'.Perm L → Q () { s with heap := h' }) : wpAny (model P w) A (setRelay a n) Q E s := by
  have len := ents_len he
  obtain ⟨t2, order, r1, r2, r3, r4, r5, r6, r7⟩ := relaid_ok t (hs := es.map (·.1)) (wanted := n) w1 w2 (by rw [Array.size_map, len]; omega)
  rw [Array.size_map, len] at r2
  obtain ⟨N, n1, n2, n3⟩ := told_anew order he r2
  have size2 : (order.filterMap (es[·]?)).size = es.size := by rw [ents_len n1, n2.length_eq, len]
  rw [setRelay_eq]
  refine wpAny_bind (wpAny_setState_of ho hd (fits_of hs hm hf) ?_)
  dsimp only
  refine wp_if_neg (by rw [sizeLine_eq]; omega) ?_
  try refine wpAny_bind (wpAny_pure ?_)
  rw [r1]
  dsimp only
  refine wpAny_bind (wp_if_neg (by rw [size2]; simp) ?_)
  try refine wpAny_bind (wpAny_pure ?_)
  refine wpAny_pure ?_
  dsimp only
  refine wpAny_storeSet_of ho hd ?_ (by rw [size2, len, sizeLine_eq]; omega)
  have sb : Heap.SameBut a s.heap (s.heap.update a (Obj.putSet (order.filterMap (es[·]?)) t2)) := Heap.SameBut.update ..
  refine q _ N _ (ep + 1) t2 sb ⟨⟨_, store_at ho hd, ⟨hex.1, hex.2.1, hex.2.2⟩, rfl⟩, n1, by rw [n3]; exact r3, (n2.map _).nodup_iff.mpr h1, fun e he => at_still (h2 e (n2.mem_iff.mp he)) ho hd sb, by rw [r5]; exact h4, by rw [n2.length_eq, r4]; exact w4, by rw [n2.length_eq]; exact h5⟩ n2
/-- what adding (x, k) leaves -/
def Added (L : List (Addr × List K)) (x : Addr) (k : List K) (L' : List (Addr × List K)) : Prop := (k ∈ L.map Prod.snd → L' = L) ∧ (k ∉ L.map Prod.snd → L'.Perm ((x, k) :: L))
theorem put_in (R : Tset knd s.heap a L es ep t) (cm : Calm knd) {x : Addr} {k : List K} (hx : At knd s.heap k x) (hu : A.units < cLine) (few : L.length + 1 < 64) {Q : Bool → Shared → Prop}
    (q : ∀ b h' L' es' ep' t', Heap.SameBut a s.heap h' → Tset knd h' a L' es' ep' t' → Added L x k L' → Q b { s with heap := h' }) : wpAny (model P w) A (setAddHashed a (.ref x) (Hs knd k)) Q E s := by
  obtain ⟨ob, o1, o2, o3⟩ := R.obj
  have len := ents_len R.ents
  have room := R.room
  unfold setAddHashed
  refine wpAny_holding ?_
  rw [show (100000 : Nat) = 99999 + 1 from rfl, setAddHashedIn_succ]
  refine wpAny_bind (wpAny_setState_of o1 o3 R.fits ?_)
  dsimp only
  refine wp_if_neg (by simp [byScan, Value.scannable]) ?_
  try refine wpAny_bind (wpAny_pure ?_)
  refine wpAny_bind (look0 R cm hx hu (ad := true) (fun m r hr => ?_) fun Z m z1 z2 => ?_)
  · dsimp only
    exact wpAny_pure (q false s.heap L es ep t (Heap.SameBut.refl a s.heap) R ⟨fun _ => rfl, fun z => absurd m z⟩)
  dsimp only
  refine wpAny_bind (wpAny_setState_of o1 o3 R.fits ?_)
  dsimp only
  obtain ⟨p1, p2, p3, p4, p5, p6, p7, p8, p9⟩ := R.tab.put z1 z2
  generalize hg : t.put (way t.mask (Hs knd k) Z) = both at p1 p3 p4 p5 p6 p7 p8 p9 ⊢
  obtain ⟨t1, at_⟩ := both
  dsimp only at p1 p3 p4 p5 p6 p7 p8 p9 ⊢
  subst p1
  have leaf : ∀ t2 : SetTable, t2.place = t1.place → t2.mask = t1.mask → t2.dummies = t1.dummies → t2.led = t1.led → wpAny (model P w) A (do
      storeSet a (SetTable.insertAt es (SetTable.below t.place (way t.mask (Hs knd k) Z)) (Hs knd k, Value.ref x)) t2
      if (!false && t2.tooFull) = true then do
        setRelay a (SetTable.grown (es.size + 1))
        pure true
      else pure true) Q E s := ?leaf
  case leaf =>
    intro t2 y1 y2 y3 y4
    have p3 : TabOk t2 ((hashes knd L).take (SetTable.below t.place (way t.mask (Hs knd k) Z)) ++ Hs knd k :: (hashes knd L).drop (SetTable.below t.place (way t.mask (Hs knd k) Z))) := ⟨by rw [y1]; exact p3.ris, by rw [y3]; exact p3.dm, by rw [y1]; exact p3.sz, by rw [y2]; exact p3.mok, by rw [y1, y2]; exact p3.bd, by rw [y1, y2]; exact p3.reach⟩
    have p4 : t2.mask = t.mask := y2.trans p4
    have p5 : t2.led = t.led := y4.trans p5
    have p9 : t2.fill = (hashes knd L).length + 1 := by
      rw [← p9]
      unfold SetTable.fill
      rw [y1, y3]
    obtain ⟨L1, hL1⟩ : ∃ L1, L1 = L.take (SetTable.below t.place (way t.mask (Hs knd k) Z)) ++ (x, k) :: L.drop (SetTable.below t.place (way t.mask (Hs knd k) Z)) := ⟨_, rfl⟩
    have pm : L1.Perm ((x, k) :: L) := by
      have g : (L.take (SetTable.below t.place (way t.mask (Hs knd k) Z)) ++ (x, k) :: L.drop (SetTable.below t.place (way t.mask (Hs knd k) Z))).Perm _ := List.perm_middle
      rw [List.take_append_drop] at g
      rw [hL1]
      exact g
    have ent2 : (SetTable.insertAt es (SetTable.below t.place (way t.mask (Hs knd k) Z)) (Hs knd k, Value.ref x)).toList = entries knd L1 := by
      rw [SetTable.toList_insertAt, R.ents, hL1]
      simp only [entries, List.map_append, List.map_cons, List.map_take, List.map_drop]
    have hs1 : hashes knd L1 = (hashes knd L).take (SetTable.below t.place (way t.mask (Hs knd k) Z)) ++ Hs knd k :: (hashes knd L).drop (SetTable.below t.place (way t.mask (Hs knd k) Z)) := by
      rw [hL1]
      simp only [hashes, List.map_append, List.map_cons, List.map_take, List.map_drop]
    rw [← hs1] at p3
    clear hs1 hL1
    have l1 : L1.length = L.length + 1 := pm.length_eq
    have once1 : (L1.map Prod.snd).Nodup := (pm.map _).nodup_iff.mpr (List.nodup_cons.mpr ⟨m, R.once⟩)
    have fill1 : t2.fill = L.length + 1 := by rw [p9, hashes, List.length_map]
    generalize SetTable.insertAt es (SetTable.below t.place (way t.mask (Hs knd k) Z)) (Hs knd k, Value.ref x) = es1 at ent2 ⊢
    have len1 : es1.size = L.length + 1 := (ents_len ent2).trans l1
    refine wpAny_bind (wpAny_storeSet_of o1 o3 ?_ (by rw [len1, sizeLine_eq]; omega))
    have sb : Heap.SameBut a s.heap (s.heap.update a (Obj.putSet es1 t2)) := Heap.SameBut.update ..
    have so := store_at (es' := es1) (t' := t2) o1 o3
    generalize s.heap.update a (Obj.putSet es1 t2) = h1 at sb so ⊢
    have here1 : ∀ e ∈ L1, At knd h1 e.2 e.1 := fun e he => by
      rcases List.mem_cons.mp (pm.mem_iff.mp he) with z | z
      · subst z
        exact at_still hx o1 o3 sb
      · exact at_still (R.here e z) o1 o3 sb
    have led1 : w.params.followText "set-order" = true ∨ t2.led = true := by rw [p5]; exact R.led
    have place1 : t2.place.size = es1.size := by
      have g := p3.sz
      rw [hashes, List.length_map, l1] at g
      rw [g, len1]
    by_cases full : t2.tooFull = true
    · have over : (L.length + 1) * 5 ≥ t2.mask * 3 := by
        have g := full
        unfold SetTable.tooFull at g
        rw [decide_eq_true_eq, fill1] at g
        exact g
      first
        | refine wpAny_bind (wp_if_pos (by simp [full]) ?_)
        | refine wp_if_pos (by simp [full]) (wpAny_bind ?_)
      rw [len]
      have more : ∀ M, SetTable.sizeAbove (SetTable.grown (L.length + 1)) - 1 = M → MaskOk M → SetTable.sizeAbove (SetTable.grown (L.length + 1)) ≤ 128 → (L.length + 1) * 5 < M * 3 → L.length + 1 ≤ t.mask →
          wpAny (model P w) A (setRelay a (SetTable.grown (L.length + 1))) (fun _ s' => wpAny (model P w) A (pure true) Q E s') E { s with heap := h1 } := fun M m1 m2 m3 m4 m5 =>
        relay (s := { s with heap := h1 }) _ so ⟨o2.1, o2.2.1, o2.2.2⟩ rfl ent2 place1 p3.dm (by rw [len1, p4]; exact m5) once1 here1 led1 (by rw [l1]; exact few) m1 m2 m3 (by rw [l1]; exact m4)
          fun h2 L2 es2 ep2 t2 sb2 R2 pm2 => wpAny_pure (q true h2 L2 es2 ep2 t2 (sb.trans sb2) R2 ⟨fun z => absurd z m, fun _ => pm2.trans pm⟩)
      rw [p4] at over
      rcases R.tab.mok with e | e | e
      · have e2 : L.length = 4 := by rw [e] at over room; omega
        rw [e2] at more ⊢
        exact more 31 (by rw [size_20]) (.inr (.inl rfl)) (by rw [size_20]; decide) (by omega) (by rw [e]; decide)
      · have e2 : L.length = 18 := by rw [e] at over room; omega
        rw [e2] at more ⊢
        exact more 127 (by rw [size_76]) (.inr (.inr rfl)) (by rw [size_76]; decide) (by omega) (by rw [e]; decide)
      · rw [e] at over
        omega
    · have under : ¬ (L.length + 1) * 5 ≥ t2.mask * 3 := by
        have g := full
        unfold SetTable.tooFull at g
        rw [decide_eq_true_eq, fill1] at g
        exact g
      have fin := q true h1 L1 es1 (ep + 1) t2 sb ⟨⟨_, so, ⟨o2.1, o2.2.1, o2.2.2⟩, rfl⟩, ent2, p3, once1, here1, led1, by rw [l1]; omega, by rw [l1]; exact few⟩ ⟨fun z => absurd z m, fun _ => pm⟩
      first
        | exact wp_if_neg (by simp [full]) (wpAny_pure fin)
        | exact wpAny_bind (wp_if_neg (by simp [full]) (wpAny_pure (wpAny_pure fin)))
  by_cases c : t1.plain = true
  · first
      | refine wpAny_bind (wp_if_pos c (byv_at cm hx fun r => ?_))
      | refine wp_if_pos c (wpAny_bind (byv_at cm hx fun r => ?_))
    cases r with
    | true => exact leaf t1 rfl rfl rfl rfl
    | false => exact leaf { t1 with plain := false } rfl rfl rfl rfl
  · first
      | refine wpAny_bind (wp_if_neg c (wpAny_pure ?_))
      | refine wp_if_neg c (wpAny_bind (wpAny_pure ?_))
    exact leaf t1 rfl rfl rfl rfl
/-- whether it is in -/
theorem find_in (R : Tset knd s.heap a L es ep t) (cm : Calm knd) {x : Addr} {k : List K} (hx : At knd s.heap k x) (hu : A.units < cLine) {Q : Option Nat → Shared → Prop}
    (q : ∀ r : Option Nat, (r.isSome = true ↔ k ∈ L.map Prod.snd) → Q r s) : wpAny (model P w) A (setFind a (.ref x) (Hs knd k)) Q E s := by
  obtain ⟨ob, o1, o2, o3⟩ := R.obj
  unfold setFind
  rw [show (100000 : Nat) = 99999 + 1 from rfl]
  unfold setFindIn
  refine wpAny_bind (wpAny_setState_of o1 o3 R.fits ?_)
  dsimp only
  refine wp_if_neg (by simp [byScan, Value.scannable]) ?_
  try refine wpAny_bind (wpAny_pure ?_)
  refine wpAny_bind (look0 R cm hx hu (ad := false) (fun m r hr => ?_) fun Z m z1 z2 => ?_)
  · dsimp only
    exact wpAny_pure (q r ⟨fun _ => m, fun _ => hr⟩)
  · dsimp only
    exact wpAny_pure (q none ⟨fun z => Bool.noConfusion z, fun z => absurd z m⟩)
end
end XT
set_option Elab.async false
set_option linter.all false
set_option maxRecDepth 100000
set_option maxHeartbeats 4000000
/-! set(), add, in of sets of tuples, over the layer -/
namespace XT
open PySem PySem.Spec PyProof.Rows L2
theorem calm_mix {P : Program} {w : World} : Calm (mixKind P w) := ⟨fun {k v} n h => by
    rcases keyIs_shape (show keyIs k v = true from h) with ⟨i, t, e1, e2⟩ | ⟨x, t, e1, e2⟩ <;> subst e2 <;> cases n <;> rfl,
  fun {k v} n h => by
    rcases keyIs_shape (show keyIs k v = true from h) with ⟨i, t, e1, e2⟩ | ⟨x, t, e1, e2⟩ <;> subst e2
    · exact ⟨true, by cases n <;> rfl⟩
    · exact ⟨false, by cases n <;> rfl⟩⟩
section
variable {P : Program} {w : World} {A : Around} {E : Value → Shared → Prop} {s : Shared} {a : Addr} {L : List (Addr × List Key)} {es : Array (Int × Value)} {ep : Nat} {t : SetTable}
def memB (k : List Key) (L : List (Addr × List Key)) : Bool := (L.map Prod.snd).any fun j => decide (j = k)
theorem memB_iff {k : List Key} {L : List (Addr × List Key)} : memB k L = true ↔ k ∈ L.map Prod.snd := by
  unfold memB
  rw [List.any_eq_true]
  exact ⟨fun ⟨j, h1, h2⟩ => of_decide_eq_true h2 ▸ h1, fun h => ⟨k, h, decide_eq_true rfl⟩⟩
/-- the set's own object, without its elements -/
def Bare (P : Program) (w : World) (h : Heap) (a : Addr) (L : List (Addr × List Key)) : Prop := ∃ (es : Array (Int × Value)) (ep : Nat) (t : SetTable), (∃ o, h.get? a = some o ∧ o.ExactSet ∧ o.data = .set es ep t) ∧ es.toList = entries (mixKind P w) L ∧ TabOk t (hashes (mixKind P w) L) ∧
  (L.map Prod.snd).Nodup ∧ (w.params.followText "set-order" = true ∨ t.led = true) ∧ L.length * 5 < t.mask * 3 ∧ L.length < 64
def TSO (P : Program) (w : World) (a : Addr) (L : List (Addr × List Key)) : HO := .ext fun h => Bare P w h a L
theorem Tset.bare (R : Tset (mixKind P w) s.heap a L es ep t) : Bare P w s.heap a L := ⟨es, ep, t, R.obj, R.ents, R.tab, R.once, R.led, R.room, R.few⟩
theorem bare_ok {H : Hp} {h : Heap} (R : Bare P w h a L) : ObjOk P w H h a (TSO P w a L) := by
  have ⟨_, _, _, ⟨o, ho, _⟩, _⟩ := R
  refine ⟨R, ⟨o, ho⟩, fun h1 h2 p k => ?_⟩
  have ⟨es, ep, t, ⟨o1, g, r⟩, q⟩ := (show Bare P w h1 a L from p)
  exact ⟨es, ep, t, ⟨o1, k o1 g, r⟩, q⟩
theorem fresh_bare {h : Heap} (ho : h.get? a = some { cls := .type "set", dict := none, data := .set #[] 0 (.fresh 0 0 (!w.params.followText "set-order")) }) : Bare P w h a [] := by
  refine ⟨#[], 0, _, ⟨_, ho, ⟨rfl, rfl, rfl⟩, rfl⟩, rfl, ⟨List.Pairwise.nil, rfl, rfl, .inl rfl, fun x z => (by cases z), fun i h j z => (by cases z)⟩, List.nodup_nil, ?_, (by show 0 * 5 < 7 * 3; decide), (by show 0 < 64; decide)⟩
  show _ ∨ (!w.params.followText "set-order") = true
  cases w.params.followText "set-order" <;> simp
theorem set_type (R : Tset (mixKind P w) s.heap a L es ep t) : s.TypeIs (.ref a) "set" := let ⟨o, ho, hc, _⟩ := R.obj; ⟨o, ho, hc.1⟩
theorem add_tup (R : Tset (mixKind P w) s.heap a L es ep t) {b : Addr} {k : List Key} (x : At (mixKind P w) s.heap k b) (hu : A.in1.units < cLine) (few : L.length + 1 < 64) {Q : Value → Shared → Prop}
    (q : ∀ h' L' es' ep' t' n, Heap.SameBut a s.heap h' → Tset (mixKind P w) h' a L' es' ep' t' → Added L b k L' → Q .none { s with heap := h', toks := n }) : wpAny (model P w) A (call (.builtin "set.add") [.ref a, .ref b]) Q E s := by
  refine wpAny_call_entry F.slot_set_add (set_type R) F.entry_set_add ?_ (F.args_set_add_2 _ _)
  unfold Builtin.«set.add» Builtin.Frozenset.oneOther
  simp only [List.isEmpty_nil, bind_assoc]
  unfold Builtin.Frozenset.addrOf setAdd
  refine wpAny_bind (wpAny_pure ?_)
  try dsimp only
  refine wpAny_bind (wpAny_pure ?_)
  try dsimp only
  refine wpAny_bind (wpAny_holding (wpAny_bind (wpAny_pyHash_tuple hu x ?_)))
  refine put_in (s := { s with toks := s.toks + (k.length + 1) }) R calm_mix x hu few fun c h' L' es' ep' t' sb R' ad => ?_
  change wpAny _ _ (ret Value.none) _ _ _
  exact wpAny_pure ⟨_, rfl, q h' L' es' ep' t' _ sb R' ad⟩
theorem in_tup (R : Tset (mixKind P w) s.heap a L es ep t) {b : Addr} {k : List Key} (x : At (mixKind P w) s.heap k b) (hu : A.in1.units < cLine) {Q : Value → Shared → Prop}
    (q : ∀ n, Q (.bool (memB k L)) { s with toks := n }) : wpAny (model P w) A (compareOp .In (.ref b) (.ref a)) Q E s := by
  change wpAny _ _ (do return .bool (← contains (.ref a) (.ref b))) Q E s
  refine wpAny_bind ?_
  unfold contains
  try with_reducible refine wpAny_holding ?_
  have ty := set_type R
  refine wpAny_bind (wpAny_specialOf ty F.slot_set_contains.lookup ?_)
  change wpAny _ _ (if (some (Value.builtin "set.__contains__") == some Value.none) = true then _ else _) _ E s
  rw [if_neg (by rw [beq_builtin_none]; exact Bool.false_ne_true)]
  refine wpAny_bind (wpAny_callSpecialUnlessNone?_slot (name := Str.ofString "__contains__") ty F.slot_set_contains (wpAny_call_entry F.slot_set_contains ty entry_set_contains ?_ (F.args_set_contains_2 _ _)))
  unfold Builtin.«frozenset.__contains__» Builtin.Frozenset.oneOther
  simp only [List.isEmpty_nil, bind_assoc]
  unfold Builtin.Frozenset.addrOf Builtin.Frozenset.withSetAsKey setContains
  refine wpAny_bind (wpAny_pure ?_)
  try dsimp only
  refine wpAny_bind (wpAny_pure ?_)
  try dsimp only
  refine wpAny_bind (wpAny_tryCatch (wpAny_holding (wpAny_bind (wpAny_pyHash_tuple hu x ?_))))
  refine wpAny_bind (find_in (s := { s with toks := s.toks + (k.length + 1) }) R calm_mix x hu fun r hr => ?_)
  refine wpAny_pure ?_
  change wpAny _ _ (ret (Value.bool r.isSome)) _ _ _
  have er : r.isSome = memB k L := by rw [Bool.eq_iff_iff, hr, memB_iff]
  rw [er]
  exact wpAny_pure ⟨_, rfl, wpAny_truthy_bool (wpAny_pure (q _))⟩
end
theorem items_mix {P : Program} {w : World} : ∀ {k : List Key} {us : List Value}, Vals (k.map kV) us → PySem.ItemsAre (mixKind P w) k us
  | [], _, .nil => .nil
  | _ :: _, _, .cons r z => .cons (kV_is r) (items_mix z)
section
variable {X : Cx} {o e : Expr} {es : List Expr} {to : TE} {t : TA} {apos cpos : Pos}
theorem at_of_tup {pins : List (Addr × Obj)} {σ : L2.St} {H : Hp} {s : Shared} {b : Addr} {k : List Key} (I : Inv X pins σ H s) (h : SqT X.K H b (k.map kV)) : At (mixKind X.prog X.w) s.heap k b := by
  obtain ⟨its, r, ⟨ob, g1, g2, n, g3⟩, _⟩ := I.tuple h
  exact ⟨ob, its.toArray, n, g1, g2, g3, by simpa using items_mix r⟩
theorem whole_set {pins : List (Addr × Obj)} {σ : L2.St} {H : Hp} {s : Shared} {a : Addr} {L : List (Addr × List Key)} (I : Inv X pins σ H s) (h : H a = some (TSO X.prog X.w a L)) (he : ∀ e ∈ L, SqT X.K H e.1 (e.2.map kV)) : ∃ es ep t, Tset (mixKind X.prog X.w) s.heap a L es ep t := by
  obtain ⟨es, ep, t, h1, h2, h3, h4, h6, h7, h8⟩ := (show Bare X.prog X.w s.heap a L from (I.hok a _ h).1)
  exact ⟨es, ep, t, h1, h2, h3, h4, fun e z => at_of_tup I (he e z), h6, h7, h8⟩
/-- set(), for tuples -/
def rSet0T (P : Program) (w : World) : List V → Hp → VK → Prop := fun xs H Q => xs = [] ∧ ∀ p, H p = none → Q (.ref p) (upd H p (TSO P w p []))
theorem cr_set0T : CallR X (.type "set") (rSet0T X.prog X.w) := by
  intro pins s σ H xs us Q I r h
  obtain ⟨rfl, q⟩ := h
  cases r
  refine setR_new fun _ => ?_
  exact ⟨.ref _, upd H s.heap.objs.size (TSO X.prog X.w s.heap.objs.size []), I.laid (t' := s.toks) (fun b u z => Heap.get?_push_of_some _ z) (Nat.le_refl _) (bare_ok (fresh_bare (Heap.get?_push_size _ rfl))), rfl, q _ (I.hok.fresh (Nat.le_refl _))⟩
/-- found.add(tuple) -/
def rSAddT (K : PySem.W.Frag) (P : Program) (w : World) : V → List V → Hp → VK → Prop := fun x xs H Q => ∃ (a b : Addr) (L : List (Addr × List Key)) (k : List Key), x = V.ref a ∧ xs = [V.ref b] ∧ H a = some (TSO P w a L) ∧ (∀ e ∈ L, SqT K H e.1 (e.2.map kV)) ∧ SqT K H b (k.map kV) ∧ L.length + 1 < 64 ∧
  ∀ L', Added L b k L' → Q .non (upd H a (TSO P w a L'))
theorem mt_saddT (hu : X.A.in1.units < cLine) : MtR X "set.add" (rSAddT X.K X.prog X.w) := by
  intro pins s σ H x xs v us Q I rx rxs h
  obtain ⟨a, b, L, k, rfl, rfl, ha, he, hb, few, q⟩ := h
  cases rx
  cases rxs with
  | cons ry rt =>
    cases rt
    cases ry
    obtain ⟨es, ep, t, R⟩ := whole_set I ha he
    refine add_tup R (at_of_tup I hb) hu few fun h' L' es' ep' t' n sb R' ad => ?_
    have there : ∃ u, h'.get? a = some u := let ⟨o, ho, _⟩ := R'.obj; ⟨o, ho⟩
    exact ⟨.non, upd H a (TSO X.prog X.w a L'), I.write (e := a) (t' := n) (by rw [ha]; trivial) (.inl rfl) (fun c u hc hk => (sb.2 c hc).trans hk) there (bare_ok (Tset.bare (s := { s with heap := h' }) R')), rfl, q L' ad⟩
def tSAddT (K : PySem.W.Frag) (P : Program) (w : World) (to : TE) (t : TA) : TE := fun σ H Q => to σ H fun x H1 => (∃ a L, x = V.ref a ∧ H1 a = some (TSO P w a L)) ∧ t σ H1 fun xs H2 => rSAddT K P w x xs H2 Q
theorem bare_type {s : Shared} {P : Program} {w : World} {a : Addr} {L : List (Addr × List Key)} (R : Bare P w s.heap a L) : s.TypeIs (.ref a) "set" ∧ ∀ b, Value.ref a = .ref b → ∃ ob, s.heap.get? b = some ob ∧ ob.dict = none := by
  have ⟨_, _, _, ⟨o, ho, hc, _⟩, _⟩ := R
  exact ⟨⟨o, ho, hc.1⟩, fun b z => by cases z; exact ⟨o, ho, hc.2.1⟩⟩
theorem pe_saddT (hu : X.A.in1.units < cLine) (ho : PE X o to) (ha : PA X (e :: es) t)
    (m1 : attributeBase o "add" X.env (eval o X.env) = eval o X.env := by rfl)
    (m2 : ((backTo cpos (starEach (e :: es) X.env)).all (fun x => !x.1) && (backToKw cpos (keywordEach [] X.env)).all (fun x => x.1.isSome) && decide ((e :: es).length + ([] : List Keyword).length + (if ([] : List Keyword).isEmpty then 0 else 1) < 30)) = true := by rfl)
    (m3 : (apos.endLine == cpos.line) = true := by rfl) (m4 : starEach (e :: es) X.env = (false, eval e X.env) :: starEach es X.env := by rfl) (m5 : (backTo cpos (starEach es X.env)).any (·.1) = false := by rfl) :
    PE X (.Call (.Attribute o "add" apos) (e :: es) [] cpos) (tSAddT X.K X.prog X.w to t) := by
  refine ⟨fun pins s σ H Q I h => ?_⟩
  refine wpAny_Call_method_late m1 m2 m3 rfl (thn (ho.run pins s σ H _ I h) fun v s1 ⟨x, H1, I1, r1, ty, q1⟩ => ?_)
  obtain ⟨a, L, rfl, hL⟩ := ty
  obtain ⟨t1, t2⟩ := bare_type (show Bare X.prog X.w s1.heap a L from (I1.hok a _ hL).1)
  cases r1
  refine ⟨"set", "set.add", F.plainAttrs_set, F.slot_set_add, F.type_set_add, t1, t2, ?_⟩
  have args := ha.run cpos pins s1 σ H1 _ I1 q1
  rw [m4] at args ⊢
  refine Calls.callWith_builtin (by show (false || (backTo cpos (starEach es X.env)).any (·.1)) = false; rw [m5] <;> rfl) (Calls.evalArgs_plain (thn args fun us s2 ⟨vs, H2, I2, r2, q2⟩ => ?_))
  exact mt_saddT hu pins s2 σ H2 (.ref a) vs (.ref a) us Q I2 rfl r2 q2
/-- tuple in found -/
def rSInT (K : PySem.W.Frag) (P : Program) (w : World) : V → V → Hp → VK → Prop := fun x y H Q => ∃ (a b : Addr) (L : List (Addr × List Key)) (k : List Key), x = V.ref b ∧ y = V.ref a ∧ H a = some (TSO P w a L) ∧ (∀ e ∈ L, SqT K H e.1 (e.2.map kV)) ∧ SqT K H b (k.map kV) ∧ Q (.bl (memB k L)) H
theorem or_sinT (hu : X.A.in1.units < cLine) : OpR X (compareOp .In) (rSInT X.K X.prog X.w) := by
  intro pins s σ H x y v u Q I rx ry h
  obtain ⟨a, b, L, k, rfl, rfl, ha, he, hb, q⟩ := h
  cases rx
  cases ry
  obtain ⟨es, ep, t, R⟩ := whole_set I ha he
  exact in_tup R (at_of_tup I hb) hu fun n => ⟨.bl _, H, I.tok _, rfl, q⟩
end
end XT
set_option Elab.async false
set_option linter.all false
set_option maxRecDepth 100000
set_option maxHeartbeats 4000000
/-! readings of sets of texts, of sets of tuples -/
namespace Gen
open PySem L2 Evl
section
variable {P : Program} {w : World} {K : PySem.W.Frag} {σ : L2.St} {H H' : Hp} {td ty tv : TE} {d a b : Addr} {x : Str} {v : V} {D : Ends} {tz : TS} {S : Key → Bool} {n : Nat} {L : List (Addr × List Key)} {k : List Key}
theorem q_setK {i : Nat} (h : ∀ p, H p = none → tz D (σ.set i (some (.ref p))) (upd H p (SetK P w p (fun _ => false) 0))) : tSeq (tAsg (tCB (rSet0K P w) tNil) (gName i)) tz D σ H := ⟨rfl, fun p hp => h p hp⟩
theorem ev_sinK (hx : Ev ty σ H (.str x)) (hd : Ev td σ H (.ref a)) (h : H a = some (SetK P w a S n)) : Ev (tOp (rSInK P w false) ty td) σ H (.bl (S (.inr x))) :=
  ev_op hx hd (rv_val fun H6 e9 Q q => ⟨.inr x, a, _, _, rfl, rfl, e9 _ _ h, q⟩)
theorem s_saddK (hd : Ev td σ H (.ref a)) (hx : Ev ty σ H (.str x)) (h : H a = some (SetK P w a S n)) (hn : n < 4000) (hS : S (.inr x) = false) (q : ∀ H1, Ex H H1 → D.nx σ (upd H1 a (SetK P w a (fun j => S j || decide (j = .inr x)) (n + 1)))) :
    tDrop (tSAddK P w td (tCons ty tNil)) D σ H := hd H (Ex.refl H) _ fun H1 e1 => ⟨⟨a, S, n, rfl, e1 _ _ h⟩, hx H1 e1 _ fun H2 e2 => ⟨a, .inr x, S, n, rfl, rfl, (e1.trans e2) _ _ h, by
  have : scanBound = 4096 := rfl
  omega, by
  rw [hS, if_neg (by decide)]
  exact q H2 (e1.trans e2)⟩⟩
theorem q_setT {i : Nat} (h : ∀ p, H p = none → tz D (σ.set i (some (.ref p))) (upd H p (XT.TSO P w p []))) : tSeq (tAsg (tCB (XT.rSet0T P w) tNil) (gName i)) tz D σ H := ⟨rfl, fun p hp => h p hp⟩
open XT in
theorem ev_sinT (hx : Ev ty σ H (.ref b)) (hd : Ev td σ H (.ref a)) (h : H a = some (TSO P w a L)) (hL : ∀ e ∈ L, SqT K H e.1 (e.2.map kV)) (hb : SqT K H b (k.map kV)) : Ev (tOp (rSInT K P w) ty td) σ H (.bl (memB k L)) :=
  ev_op hx hd (rv_val fun H6 e9 Q q => ⟨a, b, L, k, rfl, rfl, e9 _ _ h, fun e he => ex_t e9 (hL e he), ex_t e9 hb, q⟩)
open XT in
theorem s_saddT (hd : Ev td σ H (.ref a)) (hx : Ev ty σ H (.ref b)) (h : H a = some (TSO P w a L)) (hL : ∀ e ∈ L, SqT K H e.1 (e.2.map kV)) (hb : SqT K H b (k.map kV)) (few : L.length + 1 < 64) (new : k ∉ L.map Prod.snd)
    (q : ∀ H1 L', Ex H H1 → L'.Perm ((b, k) :: L) → D.nx σ (upd H1 a (TSO P w a L'))) : tDrop (tSAddT K P w td (tCons ty tNil)) D σ H := hd H (Ex.refl H) _ fun H1 e1 => ⟨⟨a, L, rfl, e1 _ _ h⟩, hx H1 e1 _ fun H2 e2 =>
  have e := e1.trans e2
  ⟨a, b, L, k, rfl, rfl, e _ _ h, fun x hx => ex_t e (hL x hx), ex_t e hb, few, fun L' ad => q H2 L' e (ad.2 new)⟩⟩
end
end Gen
set_option Elab.async false
set_option linter.all false
set_option maxRecDepth 100000
set_option maxHeartbeats 4000000
/-! what sorted gives, as one list: texts, pairs of texts; readings of sorted and of rows -/
namespace Gen
open PySem PySem.Spec L2 Evl PyProof.Rows
def srtS (xs : List Str) : List Str := xs.mergeSort fun a b => !XS.ltS b a
def srtT (xs : List (Str × Str)) : List (Str × Str) := xs.mergeSort fun a b => !XS.ltT b a
theorem leS_tot (a b : Str) : (!XS.ltS b a || !XS.ltS a b) = true := by
  cases h : XS.ltS b a with
  | false => rfl
  | true => rw [XS.ltS_as h]; rfl
theorem leT_tot (a b : Str × Str) : (!XS.ltT b a || !XS.ltT a b) = true := by
  cases h : XS.ltT b a with
  | false => rfl
  | true => rw [XS.ltT_as h]; rfl
theorem leS_tr (a b c : Str) (h1 : (!XS.ltS b a) = true) (h2 : (!XS.ltS c b) = true) : (!XS.ltS c a) = true := by
  cases g : XS.ltS c a with
  | false => rfl
  | true =>
    rcases XS.ltS_tri a b with e | e | e
    · rw [XS.ltS_tr g e] at h2; cases h2
    · rw [← e, g] at h2; cases h2
    · rw [e] at h1; cases h1
theorem leT_tr (a b c : Str × Str) (h1 : (!XS.ltT b a) = true) (h2 : (!XS.ltT c b) = true) : (!XS.ltT c a) = true := by
  cases g : XS.ltT c a with
  | false => rfl
  | true =>
    rcases XS.ltT_tri a b with e | e | e
    · rw [XS.ltT_tr g e] at h2; cases h2
    · rw [← e, g] at h2; cases h2
    · rw [e] at h1; cases h1
theorem leS_as {a b : Str} (h1 : (!XS.ltS b a) = true) (h2 : (!XS.ltS a b) = true) : a = b := by
  rcases XS.ltS_tri a b with e | e | e
  · rw [e] at h2; cases h2
  · exact e
  · rw [e] at h1; cases h1
theorem leT_as {a b : Str × Str} (h1 : (!XS.ltT b a) = true) (h2 : (!XS.ltT a b) = true) : a = b := by
  rcases XS.ltT_tri a b with e | e | e
  · rw [e] at h2; cases h2
  · exact e
  · rw [e] at h1; cases h1
theorem srtS_perm (xs : List Str) : (srtS xs).Perm xs := List.mergeSort_perm xs _
theorem srtT_perm (xs : List (Str × Str)) : (srtT xs).Perm xs := List.mergeSort_perm xs _
theorem srtS_pw (xs : List Str) : (srtS xs).Pairwise fun a b => (!XS.ltS b a) = true := List.pairwise_mergeSort leS_tr leS_tot xs
theorem srtT_pw (xs : List (Str × Str)) : (srtT xs).Pairwise fun a b => (!XS.ltT b a) = true := List.pairwise_mergeSort leT_tr leT_tot xs
theorem srtS_of {xs ys : List Str} (hp : ys.Perm xs) (h : ys.Pairwise fun a b => (!XS.ltS b a) = true) : ys = srtS xs :=
  List.Perm.eq_of_pairwise (fun a b _ _ h1 h2 => leS_as h1 h2) h (srtS_pw xs) (hp.trans (srtS_perm xs).symm)
theorem srtT_of {xs ys : List (Str × Str)} (hp : ys.Perm xs) (h : ys.Pairwise fun a b => (!XS.ltT b a) = true) : ys = srtT xs :=
  List.Perm.eq_of_pairwise (fun a b _ _ h1 h2 => leT_as h1 h2) h (srtT_pw xs) (hp.trans (srtT_perm xs).symm)
theorem srtS_eq {xs ys : List Str} (hp : ys.Perm xs) : srtS ys = srtS xs := srtS_of ((srtS_perm ys).trans hp) (srtS_pw ys)
theorem srtT_eq {xs ys : List (Str × Str)} (hp : ys.Perm xs) : srtT ys = srtT xs := srtT_of ((srtT_perm ys).trans hp) (srtT_pw ys)
theorem rising_pw : ∀ {r : List Str} {p : Str}, risingS p r = true → (p :: r).Pairwise fun a b => (!XS.ltS b a) = true
  | [], p, _ => List.pairwise_singleton _ _
  | x :: r, p, h => by
    have h' : (!ltCps x.cps.toList p.cps.toList && risingS x r) = true := h
    simp only [Bool.and_eq_true] at h'
    have ih := rising_pw h'.2
    have hpx : (!XS.ltS x p) = true := by
      rw [ltCps_eq] at h'
      exact h'.1
    refine List.pairwise_cons.mpr ⟨fun y hy => ?_, ih⟩
    rcases List.mem_cons.mp hy with rfl | hy
    · exact hpx
    · exact leS_tr _ _ _ hpx ((List.pairwise_cons.mp ih).1 y hy)
theorem sorted_pw {ys : List Str} (h : sortedS ys = true) : ys.Pairwise fun a b => (!XS.ltS b a) = true := by
  cases ys with
  | nil => exact List.Pairwise.nil
  | cons x r => exact rising_pw h
section
variable {K : PySem.W.Frag} {σ : L2.St} {H H' : Hp} {te tl : TE} {a : Addr}
/-- sorted(a list of texts) -/
theorem el_sortedS {xs : List Str} (h : Ev te σ H (.ref a)) (hx : SqL K H a (xs.map V.str)) (hz : xs.length < 64) : EvL (tCB (rSortedS K) (tCons te tNil)) σ H ((srtS xs).map V.str) := fun H1 e Q q =>
  h H1 e _ fun H2 e2 => ⟨a, xs, rfl, ex_l (e.trans e2) hx, hz, fun ys p hp hs hn => by
    have e3 := srtS_of hp (sorted_pw hs)
    subst e3
    exact q p _ (fresh_back e2 hn) (e2.trans (Ex.new hn)) upd_same⟩
end
end Gen
set_option Elab.async false
set_option linter.all false
set_option maxRecDepth 100000
set_option maxHeartbeats 4000000
/-! lists of pairs of texts: comprehensions over them, sorted -/
namespace Gen
open PySem PySem.Spec L2 Evl PyProof.Rows
/-- a list whose rows are pairs of texts -/
def PrL (H : Hp) (a : Addr) (es : List (Str × Str)) : Prop :=
  ∃ rows, H a = some (.lst rows) ∧ rows.length = es.length ∧ ∀ (i : Nat) (e : Str × Str), es[i]? = some e → ∃ p, rows[i]? = some (.ref p) ∧ H p = some (.tup [.str e.1, .str e.2])
theorem PrL.ex {H H' : Hp} {a : Addr} {es : List (Str × Str)} (h : PrL H a es) (e : Ex H H') : PrL H' a es :=
  let ⟨rows, h1, h2, h3⟩ := h
  ⟨rows, e _ _ h1, h2, fun i ws hi => let ⟨p, h4, h5⟩ := h3 i ws hi; ⟨p, h4, e _ _ h5⟩⟩
section
variable {K : PySem.W.Frag} {σ : L2.St} {H H' : Hp} {te tl : TE} {a : Addr}
def pairOf (H : Hp) (v : V) : Str × Str := match v with
  | .ref p => match H p with
    | some (.tup [.str x, .str y]) => (x, y)
    | _ => (⟨#[]⟩, ⟨#[]⟩)
  | _ => (⟨#[]⟩, ⟨#[]⟩)
theorem pairOf_ref {p : Addr} {x y : Str} (h : H p = some (.tup [.str x, .str y])) : pairOf H (.ref p) = (x, y) := by
  unfold pairOf
  show (match H p with
    | some (.tup [.str x, .str y]) => (x, y)
    | _ => ((⟨#[]⟩, ⟨#[]⟩) : Str × Str)) = (x, y)
  rw [h]
theorem rows_pairs : ∀ {rows : List V} {es : List (Str × Str)}, rows.length = es.length → (∀ (i : Nat) (e : Str × Str), es[i]? = some e → ∃ p, rows[i]? = some (.ref p) ∧ H p = some (.tup [.str e.1, .str e.2])) → rows.map (pairOf H) = es
  | [], [], _, _ => rfl
  | v :: r, e :: es, hl, h => by
    obtain ⟨p, h1, h2⟩ := h 0 e rfl
    have h3 : v = .ref p := Option.some.inj h1
    rw [List.map_cons, h3, pairOf_ref h2, rows_pairs (Nat.succ.inj hl) fun i f hf => h (i + 1) f hf]
  | [], e :: es, hl, _ => by cases hl
  | v :: r, [], hl, _ => by cases hl
/-- sorted(a list of pairs of texts) -/
theorem el_sortedT {es : List (Str × Str)} (h : ∀ H1, Ex H H1 → ∀ Q : VK, (∀ p H2, H1 p = none → Ex H1 H2 → PrL H2 p es → Q (.ref p) H2) → te σ H1 Q) :
    ∀ H1, Ex H H1 → ∀ Q : VK, (∀ p H2, H1 p = none → Ex H1 H2 → PrL H2 p (srtT es) → Q (.ref p) H2) → tCB (rSortedT2 K) (tCons te tNil) σ H1 Q := fun H1 e1 Q q =>
  h H1 e1 _ fun p H2 hp e2 ⟨rows, r1, r2, r3⟩ => by
    have hm := rows_pairs r2 r3
    have hpair : ∀ x ∈ rows, ∃ t, x = V.ref t ∧ H2 t = some (.tup [.str (pairOf H2 x).1, .str (pairOf H2 x).2]) := fun x hx => by
      obtain ⟨i, hi⟩ := List.mem_iff_getElem?.mp hx
      have hil : i < es.length := by rw [← r2]; exact (List.getElem?_eq_some_iff.mp hi).1
      obtain ⟨t, h1, h2⟩ := r3 i es[i] (List.getElem?_eq_getElem hil)
      rw [h1] at hi
      cases hi
      exact ⟨t, rfl, by rw [pairOf_ref h2]; exact h2⟩
    refine ⟨p, rows, pairOf H2, rfl, sq_of r1, hpair, fun ys l hs hy hn => ?_⟩
    have hl0 : H1 l = none := fresh_back e2 hn
    have hys : ys.map (pairOf H2) = srtT es := by
      refine srtT_of ?_ ?_
      · rw [← hm]
        exact hy.map _
      · refine List.pairwise_map.mpr (List.Pairwise.imp (fun {x y} h => ?_) hs)
        have h' : XS.ltT (pairOf H2 y) (pairOf H2 x) = false := h
        rw [h']
        rfl
    refine q l _ hl0 (e2.trans (Ex.new hn)) ⟨ys, upd_same, by rw [← hys, List.length_map], fun i e hi => ?_⟩
    rw [← hys, List.getElem?_map] at hi
    obtain ⟨x, hx, rfl⟩ := Option.map_eq_some_iff.mp hi
    obtain ⟨t, rfl, ht⟩ := hpair x (hy.mem_iff.mp (List.mem_of_getElem? hx))
    exact ⟨t, hx, Ex.new hn _ _ ht⟩
/-- [(.., ..) for x, y in pairs]: f the new pair -/
theorem el_pairs {i j : Nat} {vs : List Nat} {es : List (Str × Str)} {rows : List V} {ta tb : TE} {H0 : Hp} (f : Str × Str → Str × Str) (h : Ev tl σ H (.ref a)) (e0 : Ex H0 H) (hR : Sq K H0 a rows) (hl : rows.length = es.length)
    (hi : ∀ (i : Nat) (e : Str × Str), es[i]? = some e → ∃ p, rows[i]? = some (.ref p) ∧ H0 p = some (.tup [.str e.1, .str e.2])) (hz : es.length ≤ 1000) (hw : ∀ x y, wipe (((wipe σ vs).set i (some x)).set j (some y)) vs = wipe σ vs)
    (ha : ∀ x y H1, Ev ta (((wipe σ vs).set i (some (.str x))).set j (some (.str y))) H1 (.str (f (x, y)).1)) (hb : ∀ x y H1, Ev tb (((wipe σ vs).set i (some (.str x))).set j (some (.str y))) H1 (.str (f (x, y)).2)) :
    ∀ H1, Ex H H1 → ∀ Q : VK, (∀ p H2, H1 p = none → Ex H1 H2 → PrL H2 p (es.map f) → Q (.ref p) H2) → tLc (iSeq K tl) (gTup K 2 (gCons (gName i) (gCons (gName j) gNil))) tYes (tTup (tCons ta (tCons tb tNil))) vs σ H1 Q := fun H1 e1 Q q =>
  h H1 e1 _ fun H2 e2 => by
    have turn : ∀ {Dl : Addr}, H2 Dl = none → ∀ (k : Nat) (x : V) (H3 : Hp), rows[k]? = some x → (Ex H2 H3 ∧ ∃ acc, acc.length = k ∧ H3 Dl = some (.lst acc) ∧ ∀ (n : Nat) (e : Str × Str), ((es.take k).map f)[n]? = some e → ∃ p, p ≠ Dl ∧ acc[n]? = some (.ref p) ∧ H3 p = some (.tup [.str e.1, .str e.2])) →
        gTup K 2 (gCons (gName i) (gCons (gName j) gNil)) x (wipe σ vs) H3 fun σ2 H4 => wipe σ2 vs = wipe σ vs ∧ tYes σ2 H4 fun b H5 => if b = true then tTup (tCons ta (tCons tb tNil)) σ2 H5 fun y H6 => ∃ acc, H6 Dl = some (.lst acc) ∧ acc.length < sizeLine ∧
          (Ex H2 (upd H6 Dl (.lst (acc ++ [y]))) ∧ ∃ acc2, acc2.length = k + 1 ∧ (upd H6 Dl (.lst (acc ++ [y]))) Dl = some (.lst acc2) ∧ ∀ (n : Nat) (e : Str × Str), ((es.take (k + 1)).map f)[n]? = some e → ∃ p, p ≠ Dl ∧ acc2[n]? = some (.ref p) ∧ (upd H6 Dl (.lst (acc ++ [y]))) p = some (.tup [.str e.1, .str e.2])) else
          (Ex H2 H5 ∧ ∃ acc, acc.length = k + 1 ∧ H5 Dl = some (.lst acc) ∧ ∀ (n : Nat) (e : Str × Str), ((es.take (k + 1)).map f)[n]? = some e → ∃ p, p ≠ Dl ∧ acc[n]? = some (.ref p) ∧ H5 p = some (.tup [.str e.1, .str e.2])) := by
      rintro Dl hD k x H3 hx ⟨p1, acc, p2, p3, p4⟩
      have hkl : k < es.length := by rw [← hl]; exact (List.getElem?_eq_some_iff.mp hx).1
      have hek : es[k]? = some es[k] := List.getElem?_eq_getElem hkl
      obtain ⟨r, hr, hs⟩ := hi k _ hek
      rw [hr] at hx
      cases hx
      have hs3 : H3 r = some (.tup [.str es[k].1, .str es[k].2]) := (((e0.trans e1).trans e2).trans p1) _ _ hs
      refine ⟨r, _, rfl, st_of hs3, rfl, _, _, rfl, _, _, rfl, rfl, hw _ _, ?_⟩
      dsimp only [tYes]
      rw [if_pos rfl]
      refine eu_tup (ea_cons (ha _ _ H3) (ea_cons (hb _ _ H3) ea_nil)) (by show 2 ≤ 100000; decide) H3 (Ex.refl _) _ fun p H4 hp e4 h4 => ?_
      have np : p ≠ Dl := by
        intro z
        subst z
        rw [p3] at hp
        cases hp
      refine ⟨acc, e4 _ _ p3, sz_lt (by omega), Ex.mut (p1.trans e4) hD, acc ++ [.ref p], by rw [List.length_append, p2]; rfl, upd_same, fun n e hn => ?_⟩
      rw [take_snoc hek, List.map_append] at hn
      have hlen : ((es.take k).map f).length = k := by rw [List.length_map, List.length_take]; exact Nat.min_eq_left (Nat.le_of_lt hkl)
      by_cases hnk : n < k
      · rw [List.getElem?_append_left (by rw [hlen]; exact hnk)] at hn
        obtain ⟨p', n1, n2, n3⟩ := p4 n e hn
        exact ⟨p', n1, by rw [List.getElem?_append_left (by rw [p2]; exact hnk)]; exact n2, by rw [upd_ne n1]; exact e4 _ _ n3⟩
      · have hnn : n = k := by
          have h5 := (List.getElem?_eq_some_iff.mp hn).1
          rw [List.length_append, hlen] at h5
          simp only [List.map_cons, List.map_nil, List.length_cons, List.length_nil] at h5
          omega
        subst hnn
        rw [List.getElem?_append_right (by rw [hlen]; exact Nat.le_refl _), hlen, Nat.sub_self] at hn
        cases hn
        exact ⟨p, np, by rw [List.getElem?_append_right (by rw [p2]; exact Nat.le_refl _), p2, Nat.sub_self]; rfl, by rw [upd_ne np]; exact h4⟩
    have fin : ∀ {Dl : Addr}, H2 Dl = none → ∀ H3, (Ex H2 H3 ∧ ∃ acc, acc.length = rows.length ∧ H3 Dl = some (.lst acc) ∧ ∀ (n : Nat) (e : Str × Str), ((es.take rows.length).map f)[n]? = some e → ∃ p, p ≠ Dl ∧ acc[n]? = some (.ref p) ∧ H3 p = some (.tup [.str e.1, .str e.2])) → Q (.ref Dl) H3 := by
      rintro Dl hD H3 ⟨p1, acc, p2, p3, p4⟩
      refine q Dl H3 (fresh_back e2 hD) (e2.trans p1) ⟨acc, p3, by rw [p2, hl, List.length_map], fun n e hn => ?_⟩
      have h5 := p4 n e
      rw [hl, List.take_length] at h5
      obtain ⟨p, _, h6, h7⟩ := h5 hn
      exact ⟨p, h6, h7⟩
    have zero : ∀ {Dl : Addr}, H2 Dl = none → (Ex H2 (upd H2 Dl (.lst [])) ∧ ∃ acc : List V, acc.length = 0 ∧ (upd H2 Dl (.lst [])) Dl = some (.lst acc) ∧ ∀ (n : Nat) (e : Str × Str), ((es.take 0).map f)[n]? = some e → ∃ p, p ≠ Dl ∧ acc[n]? = some (.ref p) ∧ (upd H2 Dl (.lst [])) p = some (.tup [.str e.1, .str e.2])) := fun {Dl} hD =>
      ⟨Ex.new hD, [], rfl, upd_same, fun n e z => by cases z⟩
    rcases hR with hR | hR
    · exact ⟨a, rows, rfl, .inl ⟨ex_l ((e0.trans e1).trans e2) hR, fun Dl hD => lc_list (xs := rows) (fun k H3 => Ex H2 H3 ∧ ∃ acc, acc.length = k ∧ H3 Dl = some (.lst acc) ∧ ∀ (n : Nat) (e : Str × Str), ((es.take k).map f)[n]? = some e → ∃ p, p ≠ Dl ∧ acc[n]? = some (.ref p) ∧ H3 p = some (.tup [.str e.1, .str e.2])) (zero hD) (fun k H3 _ p => ex_l (((e0.trans e1).trans e2).trans p.1) hR) (fun k x H3 hx p => turn hD k x H3 hx p) (fun H3 p => fin hD H3 p)⟩⟩
    · exact ⟨a, rows, rfl, .inr ⟨ex_t ((e0.trans e1).trans e2) hR, fun Dl hD => lc_tup (xs := rows) (fun k H3 => Ex H2 H3 ∧ ∃ acc, acc.length = k ∧ H3 Dl = some (.lst acc) ∧ ∀ (n : Nat) (e : Str × Str), ((es.take k).map f)[n]? = some e → ∃ p, p ≠ Dl ∧ acc[n]? = some (.ref p) ∧ H3 p = some (.tup [.str e.1, .str e.2])) (zero hD) (fun k H3 _ p => ex_t (((e0.trans e1).trans e2).trans p.1) hR) (fun k x H3 hx p => turn hD k x H3 hx p) (fun H3 p => fin hD H3 p)⟩⟩
end
end Gen
set_option Elab.async false
set_option linter.all false
set_option maxRecDepth 100000
set_option maxHeartbeats 4000000
/-! rows of texts in lists: the flat list, sorted rows, lengths -/
namespace Gen
open PySem PySem.Spec L2 Evl PyProof.Rows
/-- a list of lists of texts -/
def LvL (K : PySem.W.Frag) (H : Hp) (a : Addr) (ls : List (List Str)) : Prop :=
  ∃ rows, SqL K H a rows ∧ rows.length = ls.length ∧ ∀ (i : Nat) (ws : List Str), ls[i]? = some ws → ∃ p, rows[i]? = some (.ref p) ∧ SqL K H p (ws.map V.str)
theorem LvL.ex {K : PySem.W.Frag} {H H' : Hp} {a : Addr} {ls : List (List Str)} (h : LvL K H a ls) (e : Ex H H') : LvL K H' a ls :=
  let ⟨rows, h1, h2, h3⟩ := h
  ⟨rows, ex_l e h1, h2, fun i ws hi => let ⟨p, h4, h5⟩ := h3 i ws hi; ⟨p, h4, ex_l e h5⟩⟩
theorem LvL.at {K : PySem.W.Frag} {H : Hp} {a : Addr} {ls : List (List Str)} (h : LvL K H a ls) : LvAt K H a ls :=
  let ⟨rows, h1, h2, h3⟩ := h
  ⟨rows, .inl h1, h2, fun i ws hi => let ⟨p, h4, h5⟩ := h3 i ws hi; ⟨p, h4, .inl h5⟩⟩
/-- rows that were laid by a comprehension -/
theorem LvL.of_rws {K : PySem.W.Frag} {H : Hp} {Dl : Addr} {rs : List V} {ls : List (List Str)} {row : Nat → List V} (h : H Dl = some (.lst rs)) (hl : rs.length = ls.length) (hr : Rws row Dl rs H) (he : ∀ (i : Nat) ws, ls[i]? = some ws → row i = ws.map V.str) : LvL K H Dl ls :=
  ⟨rs, sq_of h, hl, fun i ws hi => by
    have hil : i < rs.length := by rw [hl]; exact (List.getElem?_eq_some_iff.mp hi).1
    obtain ⟨p, _, e, hp⟩ := hr i rs[i] (List.getElem?_eq_getElem hil)
    refine ⟨p, by rw [List.getElem?_eq_getElem hil, e], sq_of ?_⟩
    rw [hp, he i ws hi]⟩
section
variable {K : PySem.W.Frag} {σ : L2.St} {H H' : Hp} {te tl : TE} {a : Addr}
theorem flat_len {ls : List (List Str)} {i : Nat} {ws : List Str} (h : ls[i]? = some ws) (j : Nat) : ((ls.take i).flatten ++ ws.take j).length ≤ many ls := by
  have h1 := many_take h
  rw [List.length_append]
  have h2 : (ls.take i).flatten.length = many (ls.take i) := by
    generalize ls.take i = l
    induction l with
    | nil => rfl
    | cons x r ih => rw [List.flatten_cons, List.length_append, ih]; rfl
  have h3 : (ws.take j).length ≤ ws.length := by rw [List.length_take]; exact Nat.min_le_right _ _
  omega
/-- [x for row in rows for x in row] -/
theorem el_flat {i j : Nat} {vs vs1 : List Nat} {ls : List (List Str)} (h : Ev tl σ H (.ref a)) (hL : LvL K H a ls) (hz : many ls ≤ 1000) (hij : j ≠ i) (hw : ∀ x, wipe ((wipe σ vs).set i (some x)) vs = wipe σ vs)
    (hi : ∀ x, ((wipe σ vs).set i (some x))[i]? = some (some x)) (hw1 : ∀ x y, wipe ((wipe ((wipe σ vs).set i (some x)) vs1).set j (some y)) vs1 = wipe ((wipe σ vs).set i (some x)) vs1)
    (hj : ∀ x y, ((wipe ((wipe σ vs).set i (some x)) vs1).set j (some y))[j]? = some (some y)) :
    EvL (tLc2 (iList K tl) (gName i) tYes (iList K (tVar i)) (gName j) tYes (tVar j) vs vs1) σ H (ls.flatten.map V.str) := fun H1 e1 Q q =>
  h H1 e1 _ fun H2 e2 => by
    obtain ⟨rows, h1, h2, h3⟩ := hL
    have e12 := e1.trans e2
    refine ⟨a, rfl, ⟨rows, ex_l e12 h1⟩, fun Dl hD => ?_⟩
    let Pv : Nat → Hp → Prop := fun k H3 => Ex H2 H3 ∧ H3 Dl = some (.lst ((ls.take k).flatten.map V.str))
    let Pw : Nat → Nat → Hp → Prop := fun k n H3 => Ex H2 H3 ∧ H3 Dl = some (.lst (((ls.take k).flatten ++ (ls[k]?.getD []).take n).map V.str))
    refine ⟨fun k m H3 => m = rows.length - k ∧ k ≤ rows.length ∧ Pv k H3, ⟨rows.length, by simp, Nat.zero_le _, Ex.new hD, upd_same⟩, ?_⟩
    rintro k m H3 ⟨rfl, hk, p⟩
    by_cases hlt : k < rows.length
    · have hkl : k < ls.length := by rw [← h2]; exact hlt
      have hek : ls[k]? = some ls[k] := List.getElem?_eq_getElem hkl
      obtain ⟨r, hr, hs⟩ := h3 k _ hek
      have sq3 : ∀ {H4 : Hp}, Ex H2 H4 → SqL K H4 a rows := fun e => ex_l (e12.trans e) h1
      have rw3 : ∀ {H4 : Hp}, Ex H2 H4 → SqL K H4 r (ls[k].map V.str) := fun e => ex_l (e12.trans e) hs
      refine .inr ⟨⟨rows, rows[k], sq3 p.1, by simp [hlt]⟩, Pv (k + 1), fun H' p' => ⟨rows.length - (k + 1), by omega, rfl, hlt, p'⟩, fun x H4 y => ?_⟩
      obtain ⟨e, y⟩ := y
      subst e
      have hx := y rows (sq3 p.1)
      rw [hr] at hx
      cases hx
      refine ⟨hw _, ?_⟩
      dsimp only [tYes]
      rw [if_pos rfl]
      refine ⟨V.ref r, hi _, r, rfl, ⟨_, rw3 p.1⟩, ?_⟩
      refine ⟨fun n m H5 => m = ls[k].length - n ∧ n ≤ ls[k].length ∧ Pw k n H5, ⟨ls[k].length, by simp, Nat.zero_le _, p.1, ?_⟩, ?_⟩
      · rw [hek, Option.getD_some, List.take_zero, List.append_nil]
        exact p.2
      rintro n m H5 ⟨rfl, hn, p5⟩
      by_cases hln : n < ls[k].length
      · refine .inr ⟨⟨_, V.str ls[k][n], rw3 p5.1, by simp [hln]⟩, Pw k (n + 1), fun H' p' => ⟨ls[k].length - (n + 1), by omega, rfl, hln, p'⟩, fun x H6 y => ?_⟩
        obtain ⟨e, y⟩ := y
        subst e
        have hx := y _ (rw3 p5.1)
        have hen : ls[k][n]? = some ls[k][n] := List.getElem?_eq_getElem hln
        rw [List.getElem?_map, hen] at hx
        cases hx
        refine ⟨hw1 _ _, ?_⟩
        first | rw [if_pos rfl] | (dsimp only [tYes]; rw [if_pos rfl])
        refine ⟨V.str ls[k][n], hj _ _, _, p5.2, sz_lt ?_, Ex.mut p5.1 hD, ?_⟩
        · rw [List.length_map, hek, Option.getD_some]
          exact Nat.lt_of_le_of_lt (flat_len hek n) (by omega)
        · rw [upd_same, hek, Option.getD_some, take_snoc hen, ← List.append_assoc]
          rw [List.map_append (f := V.str) (l₁ := (ls.take k).flatten ++ ls[k].take n)]
          rfl
      · have en : n = ls[k].length := by omega
        subst en
        refine .inl ⟨⟨_, rw3 p5.1, by rw [List.length_map]; exact Nat.le_refl _⟩, p5.1, ?_⟩
        have h5 := p5.2
        rw [hek, Option.getD_some, List.take_length] at h5
        have e6 : (ls.take (k + 1)).flatten = (ls.take k).flatten ++ ls[k] := by rw [take_snoc hek, List.flatten_append]; simp
        rw [e6]
        exact h5
    · have e : k = rows.length := by omega
      subst e
      refine .inl ⟨⟨rows, ex_l (e12.trans p.1) h1, Nat.le_refl _⟩, ?_⟩
      have hp := p.2
      rw [h2, List.take_length] at hp
      exact q Dl H3 (fresh_back e2 hD) (e2.trans p.1) hp
end
end Gen
set_option Elab.async false
set_option linter.all false
set_option maxRecDepth 100000
set_option maxHeartbeats 4000000
/-! constants of a class, calls that tell fresh objects, max, fields of self, places -/
namespace Gen
open PySem PySem.Spec L2 Evl PyProof.Rows
section
variable {K : PySem.W.Frag} {σ : L2.St} {H H' H1 : Hp} {te tl : TE} {a x dx C : Addr} {v : V} {D : Ends} {tz : TS} {f : Str} {fs : List (Str × V)}
theorem ev_cval {mc : Value} {u : Value} (r : ClX.CRead K C mc) (c : ClX.CVal K C mc f v u) : Ev (ClX.tCVal K (tC (.ref C)) f) σ H v := fun H1 e Q q => ⟨C, mc, v, u, rfl, r, c, q H1 (Ex.refl H1)⟩
/-- i = def(..), told by what the def ends with -/
theorem q_asgC {sp : Sp} {vs : List V} {E : XK} {ta : TA} {i : Nat} (h : EvA ta σ H vs) (k : ∀ H1, Ex H H1 → sp vs H1 (fun v H2 => tz D (σ.set i (some v)) H2) E) : tSeq (tAsg (tCall sp [] E ta) (gName i)) tz D σ H := h H (Ex.refl H) _ fun H1 e => by
  show sp (vs ++ []) H1 _ E
  rw [List.append_nil]
  exact k H1 e
/-- self.f = .., the store -/
theorem fld_end (hx : σ[0]? = some (some (.ref x))) (h1 : H1 x = some (.ins C dx fs)) (c : Cls K C) (n : NoAttr K C f) (hl : fs.length < 1000) (k : D.nx σ (upd H1 x (.ins C dx (putF f v fs)))) :
    tVar 0 σ H1 fun y H2 => ∃ a C dx fs, y = .ref a ∧ H2 a = some (.ins C dx fs) ∧ Cls K C ∧ NoAttr K C f ∧ fs.length < 1000 ∧ D.nx σ (upd H2 a (.ins C dx (putF f v fs))) :=
  ⟨.ref x, hx, x, C, dx, fs, rfl, h1, c, n, hl, k⟩
/-- the heap without instances -/
def ni (H : Hp) : Hp := fun a => match H a with
  | some (.ins _ _ _) => none
  | o => o
theorem ni_ex (H : Hp) : Ex (ni H) H := fun a o h => by
  unfold ni at h
  split at h
  · cases h
  · exact h
theorem ni_ins (h : H x = some (.ins C dx fs)) : ni H x = none := by
  unfold ni
  rw [h]
theorem ni_up {o : HO} (h : H x = some (.ins C dx fs)) : Ex (ni H) (upd H x o) := Ex.mut (ni_ex H) (ni_ins h)
theorem ni_lst {xs : List V} (h : H a = some (.lst xs)) : ni H a = some (.lst xs) := by
  unfold ni
  rw [h]
theorem ni_tup {xs : List V} (h : H a = some (.tup xs)) : ni H a = some (.tup xs) := by
  unfold ni
  rw [h]
theorem ni_dK {kvs : List (Key × V)} (h : H a = some (.dK kvs)) : ni H a = some (.dK kvs) := by
  unfold ni
  rw [h]
theorem ni_frz {ob : Obj} {u : HO} (h : H a = some (.frz ob u)) : ni H a = some (.frz ob u) := by
  unfold ni
  rw [h]
theorem ni_l {xs : List V} (h : SqL K H a xs) : SqL K (ni H) a xs := by
  rcases h with (h | ⟨o, h⟩) | h
  · exact .inl (.inl (ni_lst h))
  · exact .inl (.inr ⟨o, ni_frz h⟩)
  · exact .inr h
theorem ni_t {xs : List V} (h : SqT K H a xs) : SqT K (ni H) a xs := by
  rcases h with (h | ⟨o, h⟩) | h
  · exact .inl (.inl (ni_tup h))
  · exact .inl (.inr ⟨o, ni_frz h⟩)
  · exact .inr h
theorem LvL.ni {ls : List (List Str)} (h : LvL K H a ls) : LvL K (ni H) a ls :=
  let ⟨rows, h1, h2, h3⟩ := h
  ⟨rows, ni_l h1, h2, fun i ws hi => let ⟨p, h4, h5⟩ := h3 i ws hi; ⟨p, h4, ni_l h5⟩⟩
theorem PrL.ni {es : List (Str × Str)} (h : PrL H a es) : PrL (ni H) a es :=
  let ⟨rows, h1, h2, h3⟩ := h
  ⟨rows, ni_lst h1, h2, fun i ws hi => let ⟨p, h4, h5⟩ := h3 i ws hi; ⟨p, h4, ni_tup h5⟩⟩
/-- max of a list of ints -/
def mx (ns : List Int) : Int := ns.max?.getD 0
theorem mx_of {ns : List Int} {m : Int} (h : m ∈ ns) (hm : ∀ y, y ∈ ns → y ≤ m) : m = mx ns := by
  unfold mx
  rw [List.max?_eq_some_iff.mpr ⟨h, hm⟩]
  rfl
theorem ev_maxL {ns : List Int} (h : EvL te σ H (ns.map V.int)) (hn : 0 < ns.length) : Ev (tCB (rMax K) (tCons te tNil)) σ H (.int (mx ns)) := fun H1 e Q q =>
  h H1 e _ fun p H2 _ e2 hp => ⟨p, ns, rfl, sq_of hp, hn, fun m h1 h2 => by
    rw [mx_of h1 h2]
    exact q H2 e2⟩
theorem mx_le {ns : List Int} {b : Int} (hb : 0 ≤ b) (h : ∀ y ∈ ns, y ≤ b) : mx ns ≤ b := by
  unfold mx
  cases e : ns.max? with
  | none => exact hb
  | some m => exact h m (List.max?_eq_some_iff.mp e).1
theorem given_all {n : Nat} {v : Nat → V} : given n (fun _ => true) v = (List.range n).map v := by
  induction n with
  | zero => rfl
  | succ n ih => rw [given_yes rfl, ih, List.range_succ, List.map_append]; rfl
end
/-! ### places -/
theorem plRow_val {n : Nat} {z : Str} : ∀ {ws : List Str} {acc : List (Key × V)}, valV (plRow n ws acc) (.inr z) = if z ∈ ws then some (.int (n : Int)) else valV acc (.inr z)
  | [], acc => by rw [if_neg (List.not_mem_nil)]; rfl
  | w :: r, acc => by
    show valV (plRow n r (putK acc (.inr w) (.int (n : Int)))) (.inr z) = _
    rw [plRow_val, valV_put]
    by_cases h : z ∈ r
    · rw [if_pos h, if_pos (List.mem_cons_of_mem _ h)]
    · rw [if_neg h]
      by_cases e : z = w
      · subst e
        rw [if_pos rfl, if_pos (List.mem_cons_self ..)]
      · rw [if_neg (fun t => e (by cases t; rfl)), if_neg (fun t => (List.mem_cons.mp t).elim e h)]
theorem plTo_out {z : Str} : ∀ {ls : List (List Str)} {n : Nat} {acc : List (Key × V)}, z ∉ ls.flatten → valV (plTo n ls acc) (.inr z) = valV acc (.inr z)
  | [], n, acc, _ => rfl
  | l :: r, n, acc, h => by
    rw [List.flatten_cons, List.mem_append, not_or] at h
    show valV (plTo (n + 1) r (plRow n l acc)) (.inr z) = _
    rw [plTo_out h.2, plRow_val, if_neg h.1]
theorem plTo_in {z : Str} : ∀ {ls : List (List Str)} {n i : Nat} {ws : List Str} {acc : List (Key × V)}, ls.flatten.Nodup → ls[i]? = some ws → z ∈ ws → valV (plTo n ls acc) (.inr z) = some (.int ((n + i : Nat) : Int))
  | l :: r, n, 0, ws, acc, hd, hi, hz => by
    cases hi
    rw [List.flatten_cons] at hd
    show valV (plTo (n + 1) r (plRow n l acc)) (.inr z) = _
    rw [plTo_out fun m => (List.nodup_append.mp hd).2.2 z hz z m rfl, plRow_val, if_pos hz]
    rfl
  | l :: r, n, i + 1, ws, acc, hd, hi, hz => by
    rw [List.flatten_cons] at hd
    show valV (plTo (n + 1) r (plRow n l acc)) (.inr z) = _
    rw [plTo_in (List.nodup_append.mp hd).2.1 hi hz, Nat.add_right_comm, Nat.add_assoc]
  | [], n, i, ws, acc, _, hi, _ => by cases hi
/-- the places of the nodes of these levels -/
structure PlOk (kvs : List (Key × V)) (ls : List (List Str)) : Prop where
  in_ : ∀ (i : Nat) ws z, ls[i]? = some ws → z ∈ ws → valV kvs (.inr z) = some (.int (i : Int))
  out : ∀ z, z ∉ ls.flatten → valV kvs (.inr z) = none
theorem plOk {ls : List (List Str)} (h : ls.flatten.Nodup) : PlOk (plTo 0 ls []) ls := ⟨fun i ws z hi hz => by rw [plTo_in h hi hz, Nat.zero_add], fun z hz => by rw [plTo_out hz]; rfl⟩
theorem mem_flat {ls : List (List Str)} {z : Str} : z ∈ ls.flatten ↔ z ∈ (ls.map srtS).flatten := by
  rw [List.mem_flatten, List.mem_flatten]
  constructor
  · rintro ⟨l, h1, h2⟩
    exact ⟨srtS l, List.mem_map.mpr ⟨l, h1, rfl⟩, (srtS_perm l).mem_iff.mpr h2⟩
  · rintro ⟨l, h1, h2⟩
    obtain ⟨m, h3, rfl⟩ := List.mem_map.mp h1
    exact ⟨m, h3, (srtS_perm m).mem_iff.mp h2⟩
theorem PlOk.srt {kvs : List (Key × V)} {ls : List (List Str)} (h : PlOk kvs ls) : PlOk kvs (ls.map srtS) :=
  ⟨fun i ws z hi hz => by
    rw [List.getElem?_map] at hi
    obtain ⟨l, h1, rfl⟩ := Option.map_eq_some_iff.mp hi
    exact h.in_ i l z h1 ((srtS_perm l).mem_iff.mp hz), fun z hz => h.out z fun m => hz (mem_flat.mp m)⟩
theorem flat_perm : ∀ {ls : List (List Str)}, (ls.map srtS).flatten.Perm ls.flatten
  | [] => List.Perm.refl _
  | l :: r => by
    rw [List.map_cons, List.flatten_cons, List.flatten_cons]
    exact (srtS_perm l).append flat_perm
end Gen
set_option Elab.async false
set_option linter.all false
set_option maxRecDepth 100000
set_option maxHeartbeats 4000000
/-! operators, in, len, ~ by a class's own methods -/
namespace L2
open PySem PySem.Spec PyProof.Rows
section
variable {X : Cx} {CX : CXT} {k : Nat} {f C : Addr} {fd : FuncData} {ps : List Str} {sp : Sp} {ds : List Value} {dvs : List V} {E : XK} {m : Str}
/-- what an own method's call hands back is never NotImplemented -/
theorem back_of {pins : List (Addr × Obj)} {σ : L2.St} {Q : VK} {u : Value} {s' : Shared} (h : EP X pins σ Q u s') : PySem.W.CmpBack (EP X pins σ Q) u s' := by
  obtain ⟨v, H', I, r, q⟩ := h
  cases u with
  | notImplemented =>
    exfalso
    cases v with
    | int _ => obtain ⟨_, r⟩ := r; cases r
    | str _ => obtain ⟨_, r⟩ := r; cases r
    | byt _ => obtain ⟨_, r⟩ := r; cases r
    | flt _ => obtain ⟨_, r⟩ := r; cases r
    | _ => cases r
  | _ => exact ⟨v, H', I, r, q⟩
theorem inst_of {pins : List (Addr × Obj)} {σ : L2.St} {H : Hp} {s : Shared} {a dx : Addr} {fs : List (Str × V)} (I : Inv X pins σ H s) (e : H a = some (.ins C dx fs)) : ∃ od, PySem.W.InstAt s.heap a (PySem.W.instObj C dx) C (some od) := by
  obtain ⟨mA, O, _⟩ := ins_get I.hok e
  obtain ⟨od, J, _⟩ := O.look
  exact ⟨od, J⟩
/-- x op y, both of the class at C -/
def rOwn2 (C : Addr) (sp : Sp) (dvs : List V) (E : XK) : R2 := fun x y H Q => ∃ a b dx dy fs gs, x = .ref a ∧ y = .ref b ∧ H a = some (.ins C dx fs) ∧ H b = some (.ins C dy gs) ∧ sp ([x, y] ++ dvs) H Q E
theorem op_own2 {op : Operator} (F : FnOk X.prog X.w X.K X.mg X.base CX k f fd ps sp) (hr : Room k X.A) (hc : PySem.W.selfFirst X.K C = true) (hm : Meth X.K C (PySem.dunder op.info.2) f) (hb : Binds X.K fd ps ds) (hd : Vals dvs ds) (hx : Passes CX X E) : OpR X (binaryOp op) (rOwn2 C sp dvs E) := by
  intro pins s σ H x y v u Q I rx ry h
  obtain ⟨a, b, dx, dy, fs, gs, rfl, rfl, ea, eb, q⟩ := h
  cases rx
  cases ry
  obtain ⟨oa, Ja⟩ := inst_of I ea
  obtain ⟨ob, Jb⟩ := inst_of I eb
  obtain ⟨_, fr⟩ := I.fr
  exact PySem.W.binop_K fr I.ok.mod.kin Ja Jb.type hc hm.at_ hm.fn (wpAny_mono (run_fn (us := [.ref a, .ref b]) (vs := [.ref a, .ref b]) F hr hb hd hx I (.cons rfl (.cons rfl .nil)) q) (fun _ _ z => back_of z) fun _ _ z => z)
/-- ~x -/
def rOwn1 (C : Addr) (sp : Sp) (dvs : List V) (E : XK) : V → Hp → VK → Prop := fun x H Q => ∃ a dx fs, x = .ref a ∧ H a = some (.ins C dx fs) ∧ sp ([x] ++ dvs) H Q E
theorem un_inv1 (F : FnOk X.prog X.w X.K X.mg X.base CX k f fd ps sp) (hr : Room k X.A) (hm : Meth X.K C "__invert__" f) (hb : Binds X.K fd ps ds) (hd : Vals dvs ds) (hx : Passes CX X E) : UnR X (unaryOp .Invert) (rOwn1 C sp dvs E) := by
  intro pins s σ H x v Q I rx h
  obtain ⟨a, dx, fs, rfl, ea, q⟩ := h
  cases rx
  obtain ⟨oa, Ja⟩ := inst_of I ea
  obtain ⟨_, fr⟩ := I.fr
  exact PySem.W.ksp_inv fr I.ok.mod.kin Ja hm.at_ hm.fn (run_fn (us := [.ref a]) (vs := [.ref a]) F hr hb hd hx I (.cons rfl .nil) q)
/-- y in x, x of the class at C, by its own __contains__, which gives True or False -/
def rOwnIn (C : Addr) (sp : Sp) (dvs : List V) (E : XK) (neg : Bool) : R2 := fun y x H Q => ∃ a dx fs, x = .ref a ∧ H a = some (.ins C dx fs) ∧ sp ([x, y] ++ dvs) H (fun v H' => ∃ c, v = .bl c ∧ Q (.bl (if neg then !c else c)) H') E
theorem truth_bl {pins : List (Addr × Obj)} {σ : L2.St} {Q : VK} {g : Bool → Bool} {u : Value} {s' : Shared} (h : EP X pins σ (fun v H' => ∃ c, v = .bl c ∧ Q (.bl (g c)) H') u s') : wpAny (model X.prog X.w) X.A (truthy u) (fun b s2 => EP X pins σ Q (.bool (g b)) s2) X.xe s' := by
  obtain ⟨v, H', I, r, c, rfl, q⟩ := h
  cases r
  exact wpAny_truthy_bool ⟨.bl (g c), H', I, rfl, q⟩
theorem op_ownIn (F : FnOk X.prog X.w X.K X.mg X.base CX k f fd ps sp) (hr : Room k X.A) (hm : Meth X.K C "__contains__" f) (hb : Binds X.K fd ps ds) (hd : Vals dvs ds) (hx : Passes CX X E) : OpR X (compareOp .In) (rOwnIn C sp dvs E false) := by
  intro pins s σ H y x u v Q I ry rx h
  obtain ⟨a, dx, fs, rfl, ea, q⟩ := h
  cases rx
  obtain ⟨oa, Ja⟩ := inst_of I ea
  obtain ⟨_, fr⟩ := I.fr
  exact PySem.W.in_K fr I.ok.mod.kin Ja hm.at_ hm.fn (wpAny_mono (run_fn (us := [.ref a, u]) (vs := [.ref a, y]) F hr hb hd hx I (.cons rfl (.cons ry .nil)) q) (fun _ _ z => truth_bl (g := fun c => c) z) fun _ _ z => z)
theorem op_ownNotIn (F : FnOk X.prog X.w X.K X.mg X.base CX k f fd ps sp) (hr : Room k X.A) (hm : Meth X.K C "__contains__" f) (hb : Binds X.K fd ps ds) (hd : Vals dvs ds) (hx : Passes CX X E) : OpR X (compareOp .NotIn) (rOwnIn C sp dvs E true) := by
  intro pins s σ H y x u v Q I ry rx h
  obtain ⟨a, dx, fs, rfl, ea, q⟩ := h
  cases rx
  obtain ⟨oa, Ja⟩ := inst_of I ea
  obtain ⟨_, fr⟩ := I.fr
  exact PySem.W.notIn_K fr I.ok.mod.kin Ja hm.at_ hm.fn (wpAny_mono (run_fn (us := [.ref a, u]) (vs := [.ref a, y]) F hr hb hd hx I (.cons rfl (.cons ry .nil)) q) (fun _ _ z => truth_bl (g := fun c => !c) z) fun _ _ z => z)
end
end L2
set_option Elab.async false
set_option linter.all false
set_option maxRecDepth 100000
set_option maxHeartbeats 4000000
/-! an own operator beside a tuple, on either side; len, repr, the walk over an own __iter__ -/
namespace PySem.W
open PySem PySem.Calls PyProof.Rows
section
variable {prog : Program} {w : World} {A : Around} {E : Value → Shared → Prop} {s : Shared} {K : Frag} {x C L f : Addr} {h₀ : Heap} {m : Str → Option Value} {ox : Obj} {od : Option Obj} {T : String}
/-- the left one is of the class at C, the right one of a built-in type that has no say -/
theorem own_left {op : Operator} {b : Value} {t1 t2 own2 : Option Value} {Q : Value → Shared → Prop} (fr : Fr h₀ L s.heap m) (X0 : K.In h₀) (J : InstAt s.heap x ox C od) (tb : Looks (model prog w) s.heap (typeOf b) (.type T)) (sf : selfFirst K C = true)
    (at1 : findIn K (.ref C) (PySem.dunder op.info.2) = some (some (.ref f))) (fn1 : isFn K (.ref f) = true) (at2 : findIn K (.ref C) (dunderR op.info.2) = some own2) (at2' : own2 = none ∨ ∃ g : Addr, own2 = some (.ref g))
    (b1 : findIn K (.type T) (PySem.dunder op.info.2) = some t1) (b2 : findIn K (.type T) (dunderR op.info.2) = some t2) (nsub : subIn K (.type T) (.ref C) = some false)
    (q : wpAny (model prog w) A (call (.ref f) [.ref x, b]) (CmpBack Q) E s) : wpAny (model prog w) A (binaryOp op (.ref x) b) Q E s := by
  have X1 := X0.keeps fr.keep
  obtain ⟨cd, more, c1, c2⟩ := ksp_first sf
  rcases hinf : op.info with ⟨sg, nm⟩
  rw [hinf] at at1 at2 b1 b2
  dsimp only at at1 at2 b1 b2
  have tried := ksp_try X1 J at1 fn1 q
  obtain ⟨hh, gg, dd, tt, oo⟩ := s
  have k1 : Looks (model prog w) hh (typeOf (.ref x)) (.ref C) := J.type
  have k2 : Looks (model prog w) hh (typeOf b) (.type T) := tb
  have k3 : Looks (model prog w) hh (fillsNumberSlot (.ref C) nm) true := fills_K X1 c1 c2 at1
  have k4 := ksp_fillsT (M := model prog w) X1 b1 b2
  have k5 : Looks (model prog w) hh (isSubtype (.type T) (.ref C)) false := looks_subIn X1 nsub
  have k6 : Looks (model prog w) hh (numberSlotInPython (.ref C) nm) true := ksp_inPy X1 at1 at2 at2'
  have k7 : Looks (model prog w) hh (numberSlotInPython (.type T) nm) false := Looks.of_pure rfl
  have k8 : Looks (model prog w) hh (typeLookup (.type T) (dunderR nm)) t2 := looks_findIn X1 b2
  generalize ((t1.isSome && !isSeqSlot t1) || (t2.isSome && !isSeqSlot t2)) = both at k4
  have apart : (Value.ref C == Value.type T) = false := by
    rw [Bool.eq_false_iff]
    intro z
    cases beq_iff_eq.mp z
  simp only [binaryOp, hinf]
  refine wpAny_holding (wpAny_bind ?_)
  unfold binaryOp1
  refine wpAny_bind (k1.at (wpAny_bind (k2.at (wpAny_bind (k3.at ?_)))))
  simp only [apart, Bool.false_eq_true, if_false]
  cases both
  all_goals
    ksp_lk
    refine wpAny_mono tried (fun r s1 z => ?_) fun _ _ z => z
    obtain ⟨v, rfl, z⟩ := z
    ksp_lk
    exact z
/-- the right one is of the class at C, the left one of a built-in type without such a number slot -/
theorem own_right {op : Operator} {b : Value} {Q : Value → Shared → Prop} (fr : Fr h₀ L s.heap m) (X0 : K.In h₀) (J : InstAt s.heap x ox C od) (tb : Looks (model prog w) s.heap (typeOf b) (.type T)) (sf : selfFirst K C = true)
    (at1 : findIn K (.ref C) (PySem.dunder op.info.2) = some (some (.ref f))) (g : Addr) (at2 : findIn K (.ref C) (dunderR op.info.2) = some (some (.ref g))) (fn2 : isFn K (.ref g) = true)
    (b0 : Looks (model prog w) s.heap (fillsNumberSlot (.type T) op.info.2) false)
    (q : wpAny (model prog w) A (call (.ref g) [.ref x, b]) (CmpBack Q) E s) : wpAny (model prog w) A (binaryOp op b (.ref x)) Q E s := by
  have X1 := X0.keeps fr.keep
  obtain ⟨cd, more, c1, c2⟩ := ksp_first sf
  rcases hinf : op.info with ⟨sg, nm⟩
  rw [hinf] at at1 at2 b0
  dsimp only at at1 at2 b0
  have tried := ksp_try X1 J at2 fn2 q
  obtain ⟨hh, gg, dd, tt, oo⟩ := s
  have k1 : Looks (model prog w) hh (typeOf (.ref x)) (.ref C) := J.type
  have k2 : Looks (model prog w) hh (typeOf b) (.type T) := tb
  have k3 : Looks (model prog w) hh (fillsNumberSlot (.ref C) nm) true := fills_K X1 c1 c2 at1
  have k4 : Looks (model prog w) hh (fillsNumberSlot (.type T) nm) false := b0
  have apart : (Value.type T == Value.ref C) = false := by
    rw [Bool.eq_false_iff]
    intro z
    cases beq_iff_eq.mp z
  simp only [binaryOp, hinf]
  refine wpAny_holding (wpAny_bind ?_)
  unfold binaryOp1
  refine wpAny_bind (k2.at (wpAny_bind (k1.at (wpAny_bind (k4.at ?_)))))
  simp only [apart, Bool.false_eq_true, if_false]
  ksp_lk
  refine wpAny_mono tried (fun r s1 z => ?_) fun _ _ z => z
  obtain ⟨v, rfl, z⟩ := z
  ksp_lk
  exact z
end
end PySem.W
set_option Elab.async false
set_option linter.all false
set_option maxRecDepth 100000
set_option maxHeartbeats 4000000
namespace L2
open PySem PySem.Spec PyProof.Rows
section
variable {X : Cx} {CX : CXT} {k : Nat} {f g C : Addr} {fd : FuncData} {ps : List Str} {sp : Sp} {ds : List Value} {dvs : List V} {E : XK} {m : Str}
theorem tup_ty {pins : List (Addr × Obj)} {σ : L2.St} {H : Hp} {s : Shared} {t : Addr} {xs : List V} (I : Inv X pins σ H s) (h : SqT X.K H t xs) : PySem.W.Looks (model X.prog X.w) s.heap (typeOf (.ref t)) (.type "tuple") := by
  obtain ⟨its, r, ⟨o, ho, hc, n, hd⟩, _⟩ := I.tuple h
  have z : PySem.W.Looks (model X.prog X.w) s.heap (typeOf (.ref t)) o.cls := (PySem.W.Looks.ld ho).andThen .now
  rw [hc] at z
  exact z
/-- x op (a, b): x of the class at C -/
def rOwnTup (K : PySem.W.Frag) (C : Addr) (sp : Sp) (dvs : List V) (E : XK) : R2 := fun x y H Q => ∃ a t dx fs xs, x = .ref a ∧ y = .ref t ∧ H a = some (.ins C dx fs) ∧ SqT K H t xs ∧ sp ([x, y] ++ dvs) H Q E
/-- what the class has for a binary operator; tuples have none that goes ahead -/
structure Op2 (K : PySem.W.Frag) (C f : Addr) (op : Operator) : Prop where
  self : PySem.W.selfFirst K C = true
  me : Meth K C (PySem.dunder op.info.2) f
  refl : ∃ own2, PySem.W.findIn K (.ref C) (dunderR op.info.2) = some own2 ∧ (own2 = none ∨ ∃ g : Addr, own2 = some (.ref g))
  tup : ∃ t1 t2, PySem.W.findIn K (.type "tuple") (PySem.dunder op.info.2) = some t1 ∧ PySem.W.findIn K (.type "tuple") (dunderR op.info.2) = some t2
  sub : PySem.W.subIn K (.type "tuple") (.ref C) = some false
theorem op_ownTup {op : Operator} (F : FnOk X.prog X.w X.K X.mg X.base CX k f fd ps sp) (hr : Room k X.A) (c : Op2 X.K C f op) (hb : Binds X.K fd ps ds) (hd : Vals dvs ds) (hx : Passes CX X E) : OpR X (binaryOp op) (rOwnTup X.K C sp dvs E) := by
  intro pins s σ H x y v u Q I rx ry h
  obtain ⟨a, t, dx, fs, xs, rfl, rfl, ea, et, q⟩ := h
  cases rx
  cases ry
  obtain ⟨oa, Ja⟩ := inst_of I ea
  obtain ⟨_, fr⟩ := I.fr
  obtain ⟨o2, r1, r2⟩ := c.refl
  obtain ⟨t1, t2, u1, u2⟩ := c.tup
  exact PySem.W.own_left fr I.ok.mod.kin Ja (tup_ty I et) c.self c.me.at_ c.me.fn r1 r2 u1 u2 c.sub (wpAny_mono (run_fn (us := [.ref a, .ref t]) (vs := [.ref a, .ref t]) F hr hb hd hx I (.cons rfl (.cons rfl .nil)) q) (fun _ _ z => back_of z) fun _ _ z => z)
/-- (a, b) + x -/
def rTupOwn (K : PySem.W.Frag) (C : Addr) (sp : Sp) (dvs : List V) (E : XK) : R2 := fun y x H Q => ∃ a t dx fs xs, x = .ref a ∧ y = .ref t ∧ H a = some (.ins C dx fs) ∧ SqT K H t xs ∧ sp ([x, y] ++ dvs) H Q E
theorem op_tupOwn (F : FnOk X.prog X.w X.K X.mg X.base CX k g fd ps sp) (hr : Room k X.A) (c : Op2 X.K C f .Add) (hm : Meth X.K C (dunderR (Operator.Add).info.2) g) (hb : Binds X.K fd ps ds) (hd : Vals dvs ds) (hx : Passes CX X E) : OpR X (binaryOp .Add) (rTupOwn X.K C sp dvs E) := by
  intro pins s σ H y x u v Q I ry rx h
  obtain ⟨a, t, dx, fs, xs, rfl, rfl, ea, et, q⟩ := h
  cases rx
  cases ry
  obtain ⟨oa, Ja⟩ := inst_of I ea
  obtain ⟨_, fr⟩ := I.fr
  exact PySem.W.own_right fr I.ok.mod.kin Ja (tup_ty I et) c.self c.me.at_ g hm.at_ hm.fn (PySem.W.Looks.of_pure noFill_tuple_add) (wpAny_mono (run_fn (us := [.ref a, .ref t]) (vs := [.ref a, .ref t]) F hr hb hd hx I (.cons rfl (.cons rfl .nil)) q) (fun _ _ z => back_of z) fun _ _ z => z)
/-- len(x) by the class's own __len__ -/
def rOwnLen (C : Addr) (sp : Sp) (dvs : List V) (E : XK) : List V → Hp → VK → Prop := fun xs H Q => ∃ a dx fs, xs = [.ref a] ∧ H a = some (.ins C dx fs) ∧ sp ([.ref a] ++ dvs) H (fun v H' => ∃ n : Int, v = .int n ∧ 0 ≤ n ∧ n < 2 ^ 63 ∧ Q (.int n) H') E
/-- a def run from within a built-in -/
theorem run_at {pins : List (Addr × Obj)} {σ : L2.St} {H : Hp} {s : Shared} {B : Around} {Q : VK} {us : List Value} {vs : List V} (F : FnOk X.prog X.w X.K X.mg X.base CX k f fd ps sp) (hr : Room k B) (hf : B.frames = X.A.frames) (hb : Binds X.K fd ps ds) (hd : Vals dvs ds) (hx : Passes CX X E)
    (I : Inv X pins σ H s) (r : Vals vs us) (h : sp (vs ++ dvs) H Q E) : wpAny (model X.prog X.w) B (call (.ref f) us) (EP X pins σ Q) X.xe s := by
  have all := r.append hd
  have len := F.len _ _ _ _ h
  rw [all.length] at len
  have e1 := I.env0
  have env : Env0 X.prog X.w X.K X.mg X.base B X.stack s H := ⟨hf.trans e1.frames, e1.mod, e1.bs, e1.bsz, e1.funs, e1.frf, e1.hok, e1.bare⟩
  refine wpAny_call (codeAny_mono (F.run B X.stack s H ⟨us, []⟩ (us ++ ds) (vs ++ dvs) Q E hr env (hb s us I.kIn len) all h) fun fin s' z => ?_)
  cases fin with
  | error e => exact hx pins σ H s e s' I z
  | ok fl =>
    cases fl with
    | ret u => exact I.after z
    | next => exact z.elim
    | brk => exact z.elim
    | cont => exact z.elim
theorem call_ownLen (F : FnOk X.prog X.w X.K X.mg X.base CX k f fd ps sp) (hr : Room (k + 1) X.A) (hm : Meth X.K C "__len__" f) (hb : Binds X.K fd ps ds) (hd : Vals dvs ds) (hx : Passes CX X E) : CallR X (.builtin "len") (rOwnLen C sp dvs E) := by
  intro pins s σ H xs us Q I r h
  obtain ⟨a, dx, fs, rfl, ea, q⟩ := h
  obtain ⟨u, rfl, ru⟩ := vals1 r
  cases ru
  obtain ⟨oa, Ja⟩ := inst_of I ea
  obtain ⟨_, fr⟩ := I.fr
  refine PySem.W.len_K fr I.ok.mod.kin Ja hm.at_ hm.fn (wpAny_mono (run_at (us := [.ref a]) (vs := [.ref a]) F hr.in1 rfl hb hd hx I (.cons rfl .nil) q) (fun u s1 z => ?_) fun _ _ z => z)
  obtain ⟨v, H1, I1, rv, n, rfl, n0, n1, q1⟩ := z
  obtain ⟨t, rfl⟩ := rv
  exact ⟨⟨n0, n1⟩, .int n, H1, I1.tok _, ⟨_, rfl⟩, q1⟩
/-- repr(x) by the class's own __repr__ -/
def rOwnRepr (C : Addr) (sp : Sp) (dvs : List V) (E : XK) : List V → Hp → VK → Prop := fun xs H Q => ∃ a dx fs, xs = [.ref a] ∧ H a = some (.ins C dx fs) ∧ sp ([.ref a] ++ dvs) H (fun v H' => ∃ z : Str, v = .str z ∧ Q (.str z) H') E
theorem call_ownRepr (F : FnOk X.prog X.w X.K X.mg X.base CX k f fd ps sp) (hr : Room (k + 1) X.A) (hm : Meth X.K C "__repr__" f) (hb : Binds X.K fd ps ds) (hd : Vals dvs ds) (hx : Passes CX X E) : CallR X (.builtin "repr") (rOwnRepr C sp dvs E) := by
  intro pins s σ H xs us Q I r h
  obtain ⟨a, dx, fs, rfl, ea, q⟩ := h
  obtain ⟨u, rfl, ru⟩ := vals1 r
  cases ru
  obtain ⟨oa, Ja⟩ := inst_of I ea
  obtain ⟨_, fr⟩ := I.fr
  have room : X.A.in1.units < cLine := hr.in1.units0
  refine PySem.W.repr_K room fr I.ok.mod.kin Ja hm.at_ hm.fn (wpAny_mono (run_at (us := [.ref a]) (vs := [.ref a]) F hr.in1 rfl hb hd hx I (.cons rfl .nil) q) (fun u s1 z => ?_) fun _ _ z => z)
  obtain ⟨v, H1, I1, rv, n, rfl, q1⟩ := z
  obtain ⟨t, rfl⟩ := rv
  exact ⟨.str n, H1, I1, ⟨_, rfl⟩, q1⟩
end
end L2
set_option Elab.async false
set_option linter.all false
set_option maxRecDepth 100000
set_option maxHeartbeats 4000000
/-! == and != of two of a class with an own __eq__, whatever it answers -/
namespace PySem.W
open PySem PySem.Calls PyProof.Rows
section
variable {prog : Program} {w : World} {A : Around} {E : Value → Shared → Prop} {s : Shared} {K : Frag} {x C L f : Addr} {h₀ : Heap} {m : Str → Option Value} {ox : Obj} {od : Option Obj} {name : Str} {b : Value}
theorem ifBound_slot {M : Model} {id : String} {args : List Value} {Q : Option Value → Shared → Prop} (X : K.In s.heap) (I : InstAt s.heap x ox C od) (hs : findIn K (.ref C) name = some (some (.builtin id))) (hb : ∀ self, bindSpecial (.builtin id) self = pure (.builtin id, [self]))
    (h : wpAny M A (call (.builtin id) (.ref x :: args)) (fun v => Q (some v)) E s) : wpAny M A (callSpecialIfBound? (.ref x) name args) Q E s := by
  simp only [callSpecialIfBound?, bindSpecialIfBound?]
  refine wpAny_holding (wpAny_bind (wpAny_bind (wpAny_bind (I.type.here ((looks_findIn X hs).here ?_)))))
  simp only [hb]
  refine wpAny_bind (wpAny_askSetting (wpAny_ite ?_))
  have fin : wpAny M A (call (.builtin id) ([.ref x] ++ args) >>= fun v => pure (some v)) Q E s := wpAny_bind (wpAny_mono h (fun v s' h' => wpAny_pure h') fun _ _ h' => h')
  split
  · exact wpAny_bind (wpAny_pure (wpAny_pure (by exact fin)))
  · exact wpAny_tryCatch (wpAny_bind (wpAny_pure (wpAny_pure (by exact fin))))
theorem ne_own {Q : Value → Shared → Prop} (hu : A.units + 1 < cLine) (F : Fr h₀ L s.heap m) (X₀ : K.In h₀) (I : InstAt s.heap x ox C od) (hb : Looks (model prog w) s.heap (typeOf b) (.ref C))
    (hs : findIn K (.ref C) "__eq__" = some (some (.ref f))) (hf : isFn K (.ref f) = true) (hn : findIn K (.ref C) "__ne__" = some (some (.builtin "object.__ne__"))) (ho : subIn K (.ref C) (.type "object") = some true)
    (h : wpAny (model prog w) A.in1 (call (.ref f) [.ref x, b]) (fun v s' => ∃ c, v = .bool c ∧ Q (.bool (!c)) s') E s) : wpAny (model prog w) A (richCompare .NotEq (.ref x) b) Q E s := by
  have X := X₀.keeps F.keep
  have FB := PySem.F.cmp_object
  have one : wpAny (model prog w) A (tryCompare (.ref x) "__ne__" b) (fun r s' => ∃ v, r = some v ∧ Q v s') E s := by
    unfold tryCompare
    refine wpAny_bind (ifBound_slot X I hn FB.ne.bind (wpAny_call (codeAny_call_builtin FB.ne.plain PySem.F.cmpEntry_ne (check_slot PySem.F.cmpKind_ne PySem.F.cmpSplit_ne (I.type.andThen (looks_subIn X ho)) (PySem.F.cmpArgs_ne _ _) ?_))))
    unfold Builtin.«object.__ne__»
    obtain ⟨hp, g, d, tk, os⟩ := s
    have hu1 : A.in1.units < cLine := hu
    repeat (first
      | with_reducible refine wpAny_cRoomFor hu1 ?_
      | (refine wpAny_bind (m := callSpecialIfBound? (.ref x) (Str.ofString "__eq__") [b]) (ifBound_K X I hs hf (wpAny_mono h (fun r s' hr => by
            obtain ⟨c, rfl, hq⟩ := hr
            repeat (first | (show wpAny (model prog w) A (pure (some (Value.bool !c))) (fun r s' => ∃ v, r = some v ∧ Q v s') E _; exact wpAny_pure ⟨_, rfl, hq⟩) | (refine wpAny_bind (m := truthy (.bool _)) (wpAny_truthy_bool ?_)) | wp_step)) fun _ _ e => e)))
      | wp_step)
  unfold richCompare
  simp only [oneThing_ref]
  refine wpAny_holding (wpAny_bind (wpAny_cRoomFor (Nat.lt_of_succ_lt hu) ?_))
  refine wpAny_bind (I.type.here (wpAny_bind (hb.here ?_)))
  rw [show (Value.ref C != Value.ref C) = false from by simp]
  simp only [Bool.false_eq_true, if_false]
  refine wpAny_bind (wpAny_pure ?_)
  simp only [Bool.false_eq_true, if_false]
  refine wpAny_bind (wpAny_mono one (fun r s' z => ?_) fun _ _ e => e)
  obtain ⟨v, rfl, hq⟩ := z
  exact wpAny_pure hq
end
end PySem.W
namespace L2
open PySem PySem.Spec PyProof.Rows
section
variable {X : Cx} {CX : CXT} {k : Nat} {f C : Addr} {fd : FuncData} {ps : List Str} {sp : Sp} {E : XK}
/-- x == y, x != y, both of the class at C, whose __eq__ answers True or False -/
def rOwnEq (C : Addr) (sp : Sp) (E : XK) (neg : Bool) : R2 := fun x y H Q => ∃ a b dx dy fs gs, x = .ref a ∧ y = .ref b ∧ H a = some (.ins C dx fs) ∧ H b = some (.ins C dy gs) ∧ sp [x, y] H (fun v H' => ∃ c, v = .bl c ∧ Q (.bl (if neg then !c else c)) H') E
theorem op_ownEq (F : FnOk X.prog X.w X.K X.mg X.base CX k f fd ps sp) (hr : Room k X.A) (hm : Meth X.K C "__eq__" f) (hb : Binds X.K fd ps []) (hx : Passes CX X E) : OpR X (compareOp .Eq) (rOwnEq C sp E false) := by
  intro pins s σ H x y v u Q I rx ry h
  obtain ⟨a, b, dx, dy, fs, gs, rfl, rfl, ea, eb, q⟩ := h
  cases rx
  cases ry
  obtain ⟨oa, Ja⟩ := inst_of I ea
  obtain ⟨ob, Jb⟩ := inst_of I eb
  obtain ⟨_, fr⟩ := I.fr
  refine PySem.W.cmp_K (op := .Eq) (tb := .ref C) hr.units0 fr I.ok.mod.kin Ja Jb.type (by simp [PySem.W.notFirst]) hm.at_ hm.fn ?_
  refine wpAny_mono (run_fn (us := [.ref a, .ref b]) (vs := [.ref a, .ref b]) F hr hb .nil hx I (.cons rfl (.cons rfl .nil)) q) (fun w' s' z => ?_) fun _ _ z => z
  obtain ⟨v', H', I', r, c, rfl, q'⟩ := z
  cases r
  exact ⟨.bl c, H', I', rfl, q'⟩
theorem op_ownNe (F : FnOk X.prog X.w X.K X.mg X.base CX k f fd ps sp) (hr : Room (k + 1) X.A) (hm : Meth X.K C "__eq__" f) (hn : PySem.W.findIn X.K (.ref C) "__ne__" = some (some (.builtin "object.__ne__"))) (ho : PySem.W.subIn X.K (.ref C) (.type "object") = some true) (hb : Binds X.K fd ps []) (hx : Passes CX X E) : OpR X (compareOp .NotEq) (rOwnEq C sp E true) := by
  intro pins s σ H x y v u Q I rx ry h
  obtain ⟨a, b, dx, dy, fs, gs, rfl, rfl, ea, eb, q⟩ := h
  cases rx
  cases ry
  obtain ⟨oa, Ja⟩ := inst_of I ea
  obtain ⟨ob, Jb⟩ := inst_of I eb
  obtain ⟨_, fr⟩ := I.fr
  refine PySem.W.ne_own (by have := hr.units; omega) fr I.ok.mod.kin Ja Jb.type hm.at_ hm.fn hn ho ?_
  refine wpAny_mono (run_at (us := [.ref a, .ref b]) (vs := [.ref a, .ref b]) F hr.in1 rfl hb .nil hx I (.cons rfl (.cons rfl .nil)) q) (fun w' s' z => ?_) fun _ _ z => z
  obtain ⟨v', H', I', r, c, rfl, q'⟩ := z
  cases r
  exact ⟨c, rfl, .bl (!c), H', I', rfl, q'⟩
end
end L2
set_option Elab.async false
set_option linter.all false
set_option maxRecDepth 100000
set_option maxHeartbeats 4000000
/-! x in a list of objects with an own __eq__, whatever it answers -/
namespace GQ
open PySem PySem.SeqAt
open AutoSeq1 (wpAny_loadPart')
open MeetsSeq MeetsSeq2 MeetsSeq3 SeqRoads2
section
variable {prog : Program} {w : World} {A : Around} {R : Result → Shared → Prop} {E : Value → Shared → Prop}
/-- at each turn the list is read anew: N items, the i-th one equal to x or not, as b tells -/
def InI (prog : Program) (w : World) (A : Around) (E : Value → Shared → Prop) (l : Addr) (x : Value) (N : Nat) (b : Nat → Bool) (I : Shared → Prop) : Prop :=
  ∀ i s, I s → ∃ (items : Array Value) (n : Nat), s.heap.get? l = some { cls := .type "list", data := .seq items n } ∧ items.size = N ∧ ∀ (h1 : i < items.size), wpAny (model prog w) A.in1 (eqBool items[i] x) (fun r s' => r = b i ∧ I s') E s
theorem contains_loopG (l : Addr) (x : Value) (N : Nat) (b : Nat → Bool) (I : Shared → Prop) (hl : InI prog w A (fun e s' => R (.error e) s') l x N b I) (k : Nat) :
    ∀ i : Nat, N - i = k → i ≤ N → ∀ s, I s → (∀ s', I s' → R (.ok (.ret (.bool (((List.range N).drop i).any b)))) s') →
      wpAny (model prog w) A.in1 (Builtin.«list.__contains__.loop» ⟨[.ref l, x, rawInt i], []⟩) (FinOf prog w A R) (fun e s' => R (.error e) s') s := by
  induction k with
  | zero =>
    intro i hk hi s h fin
    obtain ⟨items, n, hl1, hs1, _⟩ := hl i _ h
    have hR := fin s h
    have hd : (List.range N).drop i = [] := by simp; omega
    rw [hd] at hR
    obtain ⟨hp, g, d, tk, os⟩ := s
    wp_walk using wpAny_loadPart' hl1
    have hi1 : items[((i : Nat) : Int).toNat]? = none := by simp; omega
    rw [hi1]
    wp_walk
    exact hR
  | succ k ih =>
    intro i hk hi s h fin
    obtain ⟨items, n, hl1, hs1, turn⟩ := hl i _ h
    have hlt : i < items.size := by omega
    have hd : (List.range N).drop i = i :: (List.range N).drop (i + 1) := by
      have hlt' : i < (List.range N).length := by simp; omega
      rw [List.drop_eq_getElem_cons hlt']
      simp
    rw [hd] at fin
    simp only [List.any_cons] at fin
    have ht := turn hlt
    obtain ⟨hp, g, d, tk, os⟩ := s
    wp_walk using wpAny_loadPart' hl1
    have hi1 : items[((i : Nat) : Int).toNat]? = some items[i] := by simp [hlt]
    have hc : ((i : Int) + 1) = ((i + 1 : Nat) : Int) := by omega
    rw [hi1]
    refine wpAny_bind (wpAny_mono ht (fun r s2 h2 => ?_) fun _ _ x => x)
    obtain ⟨hr, h2⟩ := h2
    subst hr
    cases hb : b i with
    | true =>
      have hR := fin s2 h2
      rw [hb] at hR
      obtain ⟨hp2, g2, d2, tk2, os2⟩ := s2
      wp_walk
      exact hR
    | false =>
      rw [hb] at fin
      have hrec := ih (i + 1) (by omega) (by omega) s2 h2 (by simpa using fin)
      obtain ⟨hp2, g2, d2, tk2, os2⟩ := s2
      wp_walk
      rw [hc]
      exact ⟨plainId_quiet plain_contains_loop _, codeAny_builtin entry_contains_loop (by
        rw [Around.under_plainId plain_contains_loop _]
        exact hrec)⟩
theorem in_listG {l : Addr} {x : Value} {N : Nat} {b : Nat → Bool} (I : Shared → Prop) {s : Shared} {Q : Value → Shared → Prop} (hl : InI prog w A E l x N b I) (h : I s) (fin : ∀ s', I s' → Q (.bool ((List.range N).any b)) s') :
    wpAny (model prog w) A (compareOp .In x (.ref l)) Q E s := by
  obtain ⟨items, n, hl1, hs1, _⟩ := hl 0 _ h
  show wpAny _ A (do return .bool (← contains (.ref l) x)) Q E s
  refine wpAny_bind (wpAny_contains_slot ⟨_, hl1, rfl⟩ F.slot_list_contains (wpAny_mono (call_here (Q := fun v s' => v = .bool ((List.range N).any b) ∧ I s') F.slot_list_contains ⟨_, hl1, rfl⟩ F.entry_list_contains (F.args_list_contains_2 _ _) ?_) (fun v s' hv => ?_) fun _ _ e => e))
  · have hrec := contains_loopG (A := A) (R := wants (fun v s' => v = .bool ((List.range N).any b) ∧ I s') E) l x N b I hl _ 0 rfl (Nat.zero_le _) s h (fun s' h' => ⟨by simp, h'⟩)
    obtain ⟨hp, g, d, tk, os⟩ := s
    wp_walk using wpAny_loadPart' hl1
    exact ⟨plainId_quiet plain_contains_loop _, codeAny_builtin entry_contains_loop (by
      rw [Around.under_plainId plain_contains_loop _]
      exact hrec)⟩
  · obtain ⟨rfl, hi⟩ := hv
    exact wpAny_truthy_bool (wpAny_pure (fin s' hi))
end
end GQ
namespace L2
open PySem PySem.Spec PyProof.Rows
section
variable {X : Cx} {CX : CXT} {k : Nat} {f C : Addr} {fd : FuncData} {ps : List Str} {sp : Sp} {E : XK}
/-- x in xs, all of the class at C, whose __eq__ answers as b tells, item by item, leaving what W says -/
def rInOwn (C : Addr) (sp : Sp) (E : XK) : R2 := fun x y H Q => ∃ (a l : Addr) (xs : List V) (b : Nat → Bool) (W : Hp → Prop), x = .ref a ∧ y = .ref l ∧ W H ∧
  (∀ H', W H' → H' l = some (.lst xs) ∧ ∃ (dx : Addr) (fs : List (Str × V)), H' a = some (.ins C dx fs)) ∧
  (∀ i v H', xs[i]? = some v → W H' → ∃ (c dy : Addr) (gs : List (Str × V)), v = .ref c ∧ H' c = some (.ins C dy gs) ∧ (c = a → b i = true) ∧ (c ≠ a → sp [.ref c, .ref a] H' (fun v' H'' => v' = .bl (b i) ∧ W H'') E)) ∧
  ∀ H', W H' → Q (.bl ((List.range xs.length).any b)) H'
theorem op_inOwnL (F : FnOk X.prog X.w X.K X.mg X.base CX k f fd ps sp) (hr : Room (k + 1) X.A) (hm : Meth X.K C "__eq__" f) (hb : Binds X.K fd ps []) (hx : Passes CX X E) : OpR X (compareOp .In) (rInOwn C sp E) := by
  intro pins s σ H x y v u Q I rx ry h
  obtain ⟨a, l, xs, b, W, rfl, rfl, w0, h1, h2, q⟩ := h
  cases rx
  cases ry
  refine GQ.in_listG (N := xs.length) (b := b) (fun s' => ∃ H', Inv X pins σ H' s' ∧ W H') (fun i s' hs => ?_) ⟨H, I, w0⟩ (fun s' hs => ?_)
  · obtain ⟨H', I', w1⟩ := hs
    obtain ⟨hl, dx, fs, ha⟩ := h1 H' w1
    obtain ⟨z, its, kk, r, e⟩ := I'.hok l _ hl
    refine ⟨its.toArray, kk, e, by rw [List.size_toArray, ← r.length], fun hi => ?_⟩
    have hi' : i < its.length := by simpa using hi
    have k1 : i < xs.length := by rw [r.length]; exact hi'
    obtain ⟨u, hu, ru⟩ := r.get (List.getElem?_eq_getElem k1)
    have g1 : its[i]? = some its.toArray[i] := by rw [List.getElem?_eq_getElem hi'] <;> simp
    rw [g1] at hu
    rw [Option.some.inj hu]
    obtain ⟨c, dy, gs, ev, hc, same, diff⟩ := h2 i xs[i] H' (List.getElem?_eq_getElem k1) w1
    rw [ev] at ru
    cases ru
    by_cases hca : c = a
    · subst hca
      rw [same rfl]
      exact SeqAt.EqAt.same (A := X.A.in1) (s := s') (.ref c) X.prog X.w X.xe _ ⟨rfl, H', I', w1⟩
    · refine GQ.eqBool_refG hca ?_
      obtain ⟨oa, Ja⟩ := inst_of I' hc
      obtain ⟨ob, Jb⟩ := inst_of I' ha
      obtain ⟨_, fr⟩ := I'.fr
      have hr1 : Room k X.A.in1 := hr.in1
      refine PySem.W.cmp_K (op := .Eq) (tb := .ref C) hr1.units0 fr I'.ok.mod.kin Ja Jb.type (by simp [PySem.W.notFirst]) hm.at_ hm.fn ?_
      refine wpAny_mono (run_at (us := [.ref c, .ref a]) (vs := [.ref c, .ref a]) F hr1 rfl hb .nil hx I' (.cons rfl (.cons rfl .nil)) (diff hca)) (fun w' s2 z => ?_) fun _ _ z => z
      obtain ⟨v', H2, I2, r', rfl, q'⟩ := z
      cases r'
      exact ⟨b i, rfl, rfl, H2, I2, q'⟩
  · obtain ⟨H', I', w1⟩ := hs
    exact ⟨.bl _, H', I', rfl, q H' w1⟩
end
end L2
set_option Elab.async false
set_option linter.all false
set_option maxRecDepth 100000
set_option maxHeartbeats 4000000
/-! for over, list of, an object whose own __iter__ gives a list's iterator -/
namespace L2
open PySem PySem.Spec PyProof.Rows ItX
/-- a def's promise that may speak of how many objects there are when it is called -/
def FnS (P : Program) (w : World) (K : PySem.W.Frag) (mg : Str → Option Value) (base : Heap) (CX : CXT) (k : Nat) (f : Addr) (fd : FuncData) (ps : List Str) (sp : Nat → Sp) : Prop :=
  ∀ (A : Around) (outer : List Env) (s : Shared) (H : Hp) (args : Args) (us : List Value) (vs : List V) (Q : VK) (E : XK), Room k A → Env0 P w K mg base A outer s H → BindsTo s fd args (ps.zip us) → Vals vs us → vs.length = ps.length → sp s.heap.objs.size vs H Q E →
    codeAny (model P w) A (.call (.ref f) args) (CR CX outer P w H s Q E) s
theorem fnS_of {CX : CXT} {P : Program} {w : World} {K : PySem.W.Frag} {mg : Str → Option Value} {base : Heap} {k : Nat} {f : Addr} {name qual : Str} {params : Arguments} {body : List Stmt} {scope : Scope} {dV kV doc pm cdv ct oc : Value} {an od : Option Addr}
    {osl : Array (Option Value)} {N ps : List Str} {sp : Nat → Sp} (lk : K.lookup f = some ⟨oc, od, .func (PySem.W.fnOf name qual params body scope dV kV doc pm an cdv ct), osl⟩) (hcd : PySem.W.codeIn K cdv qual = true) (S : FnScope N ps scope)
    (hbody : ∀ (A : Around) (outer : List Env) (s : Shared) (H : Hp) (vs : List V) (Q : VK) (E : XK), Room k (A.deeper (envOfC qual scope s.heap.objs.size f cdv)) → sp s.heap.objs.size vs H Q E →
      ∃ t, PSs (cxOf CX P w K mg base N qual scope f cdv A outer s H E) body t ∧ t { nx := fun _ H' => Q .non H', rt := Q } (start N vs) H) :
    FnS P w K mg base CX (k + 1) f (PySem.W.fnOf name qual params body scope dV kV doc pm an cdv ct) ps sp := by
  intro A outer s H args us vs Q E hr e0 hb r hl hsp
  have KX : K.In s.heap := e0.mod.kin.keeps fun b o e => (e0.bs b o e).1
  have lim : s.heap.NoLimit := e0.mod.nolimit.keeps fun b o e => (e0.bs b o e).1
  have hkind : ∀ y ∈ ps.zip us, scope.names.lookup y.1 = some .local ∨ (scope.names.lookup y.1 = some .cell ∧ ((cellsFrom (s.heap.objs.size + 1) scope.names []).lookup y.1).isSome = true) := fun ⟨n, v⟩ hy => by
    rcases S.par n (List.of_mem_zip hy).1 with q | q
    · exact .inl q
    · exact .inr ⟨q, PySem.W.cellsFrom_some _ _ _ (.inl q)⟩
  refine codeAny_call_function hr.depth (KX _ _ lk) rfl S.co S.gen rfl (PySem.W.codeRec_of KX hcd) (hb _ _ _ _ ?_)
  refine wpAny_newFunctionEnv_cells S.kind hkind fun env he s1 x => ?_
  subst he
  refine ⟨lim.keeps x.toInCall.keep, codeAny_func ?_⟩
  obtain ⟨t, ht, hq⟩ := hbody A outer s H vs Q E (hr.deeper _) hsp
  have I : Inv (cxOf CX P w K mg base N qual scope f cdv A outer s H E) [] (start N vs) H s1 := inv_start S hr.hd e0 hl r x
  refine wpAny_mono (ht.run [] s1 (start N vs) H _ I hq) (fun fl s' hs => ?_) fun e s' hs => hs
  have fin : ∀ {σ' : St} {H' : Hp} {v : V} {u : Value}, Inv (cxOf CX P w K mg base N qual scope f cdv A outer s H E) [] σ' H' s' → RelV v u → Q v H' → CE outer P w H s Q u s' :=
    fun {σ' H' v u} J rv q => ⟨v, H', J.os, J.bare, J.base, J.hok, rv, q⟩
  cases fl with
  | ret u =>
    obtain ⟨v, σ', H', J, rv, q⟩ := hs
    exact fin J rv q
  | next =>
    obtain ⟨σ', H', J, q⟩ := hs
    exact fin (v := V.non) (u := Value.none) J rfl q
  | brk =>
    obtain ⟨_, _, _, q⟩ := hs
    exact False.elim q
  | cont =>
    obtain ⟨_, _, _, q⟩ := hs
    exact False.elim q
theorem Fun.okS {P : Program} {w : World} {K : PySem.W.Frag} {mg : Str → Option Value} {base : Heap} {fd : FuncData} {x qual : Str} {st : Stmt} {f : Addr} {N ps : List Str} {k : Nat} {sp : Nat → Sp} (F : Fun K x qual st f fd) (S : FnScope N ps (defScope st))
    (hbody : ∀ (cdv : Value) (A : Around) (outer : List Env) (s : Shared) (H : Hp) (vs : List V) (Q : VK) (E : XK), Room k (A.deeper (envOfC qual (defScope st) s.heap.objs.size f cdv)) → sp s.heap.objs.size vs H Q E →
      ∃ t, PSs (cxOf CX0 P w K mg base N qual (defScope st) f cdv A outer s H E).nox (defBody st) t ∧ t { nx := fun _ H' => Q .non H', rt := Q } (start N vs) H) : FnS P w K mg base CX0 (k + 1) f fd ps sp := by
  obtain ⟨oc, od, kV, doc, pm, an, cdv, ct, osl, rfl, lk, hcd⟩ := F.ex
  refine fnS_of lk hcd S fun A outer s H vs Q E hr hsp => ?_
  obtain ⟨t, h, q⟩ := hbody cdv A outer s H vs Q E hr hsp
  exact ⟨t, h.nox, q⟩
section
variable {X : Cx} {CX CY : CXT} {k : Nat} {f g C : Addr} {fd fe : FuncData} {ps pt : List Str} {sp : Nat → Sp} {sq : Sp} {E F' : XK}
theorem run_iter {pins : List (Addr × Obj)} {σ : L2.St} {H : Hp} {s : Shared} {B : Around} {a : Addr} {R : Addr → Hp → Prop} (F : FnS X.prog X.w X.K X.mg X.base CX k f fd ps sp) (hl : ps.length = 1) (hr : Room k B) (hf : B.frames = X.A.frames) (hb : Binds X.K fd ps []) (hx : Passes CX X E)
    (I : Inv X pins σ H s) (h : ∀ n, sp n [.ref a] H (fun v H2 => ∃ it l, v = .ref it ∧ n ≤ it ∧ H2 it = some (ItO l it 0) ∧ R l (dropH H2 it)) E) :
    wpAny (model X.prog X.w) B (call (.ref f) [.ref a]) (fun u s' => ∃ it l H2, u = .ref it ∧ Inv X pins σ (dropH H2 it) s' ∧ FpOk X pins (dropH H2 it) it ∧ s'.heap.IsListIter it l 0 ∧ R l (dropH H2 it)) X.xe s := by
  have r : Vals [V.ref a] [Value.ref a] := .cons rfl .nil
  have len : [V.ref a].length = ps.length := hl.symm
  have e1 := I.env0
  have env : Env0 X.prog X.w X.K X.mg X.base B X.stack s H := ⟨hf.trans e1.frames, e1.mod, e1.bs, e1.bsz, e1.funs, e1.frf, e1.hok, e1.bare⟩
  refine wpAny_call (codeAny_mono (F B X.stack s H ⟨[.ref a], []⟩ [.ref a] [.ref a] _ E hr env (by
    have := hb s [.ref a] I.kIn (by simpa using len)
    simpa using this) r len (h _)) fun fin s' z => ?_)
  cases fin with
  | error e => exact hx pins σ H s e s' I z
  | ok fl =>
    cases fl with
    | ret u =>
      obtain ⟨v, H', os, bare, un, hok, rv, it, l, ev, h0, h2, hR⟩ := z
      subst ev
      cases rv
      have hsz : X.s_0.heap.objs.size ≤ it := Nat.le_trans I.sz h0
      have I' : Inv X pins σ H' s' := I.call' (ch := []) os un hok bare (fun b z => absurd z (by simp))
      have h2' := h2
      unfold ItO at h2'
      have eo := itO_get I' h2
      exact ⟨it, l, H', rfl, inv_drop I' h2', inv_fp I' h2 hsz, ⟨_, eo, rfl, rfl⟩, hR⟩
    | next => exact z.elim
    | brk => exact z.elim
    | cont => exact z.elim
theorem it_is {pins : List (Addr × Obj)} {σ : L2.St} {H : Hp} {s : Shared} {A : Around} {it l : Addr} {i : Nat} {Q : Value → Shared → Prop} {E : Value → Shared → Prop} (h : s.heap.IsListIter it l i) (q : Q (.ref it) s) : PySem.W.OwitIt (model X.prog X.w) A Q E (.ref it) s := by
  unfold PySem.W.OwitIt
  exact wpAny_specialOf (name := Str.ofString "__next__") h.typeIs slot_listiter_next.lookup q
/-- for .. in x, x of the class at C, whose __iter__ gives an iterator over a list -/
def iOwn (C : Addr) (sp : Nat → Sp) (E : XK) (K : PySem.W.Frag) (te : TE) : TI := fun σ H R => te σ H fun x H1 => ∃ a dx fs, x = .ref a ∧ H1 a = some (.ins C dx fs) ∧ ∀ n, sp n [.ref a] H1 (fun v H2 => ∃ it l, v = .ref it ∧ n ≤ it ∧ H2 it = some (ItO l it 0) ∧ R (Itl K l) (dropH H2 it)) E
theorem pi_own {tg e : Expr} {te : TE} (F : FnS X.prog X.w X.K X.mg X.base CX k f fd ps sp) (hl : ps.length = 1) (hr : Room k X.A) (hm : Meth X.K C "__iter__" f) (hb : Binds X.K fd ps []) (hx : Passes CX X E) (he : PE X e te) : PI X tg e (iOwn C sp E X.K te) := by
  refine ⟨fun pins s σ H R I h => ?_⟩
  refine thn (he.run pins s σ H _ I h) fun v s1 ⟨x, H1, I1, r1, a, dx, fs, ex, ea, q⟩ => ?_
  subst ex
  cases r1
  obtain ⟨oa, Ja⟩ := inst_of I1 ea
  obtain ⟨_, fr⟩ := I1.fr
  refine PySem.W.owit_iter fr I1.ok.mod.kin Ja hm.at_ hm.fn (wpAny_mono (run_iter (R := fun l H2 => R (Itl X.K l) H2) F hl hr rfl hb hx I1 q) (fun u s2 z => ?_) fun _ _ z => z)
  obtain ⟨it, l, H2, rfl, I2, fp, st, hR⟩ := z
  refine it_is (pins := pins) (σ := σ) (H := H) st ?_
  refine ⟨it, [it], _, _, dropH H2 it, rfl, I2, turn_list l it, st, fun b hb' => ?_, hR⟩
  have e : b = it := by simpa using hb'
  subst e
  exact fp
/-- list(x): the class at C has own __iter__ and __len__ -/
def rListOwn (K : PySem.W.Frag) (C : Addr) (sp : Nat → Sp) (sq : Sp) (E F' : XK) : List V → Hp → VK → Prop := fun xs H Q => ∃ (a : Addr) (dx : Addr) (fs : List (Str × V)), xs = [.ref a] ∧ H a = some (.ins C dx fs) ∧ ∀ q, H q = none →
  ∀ n, sp n [.ref a] (upd H q (.lst [])) (fun v H2 => ∃ it l, v = .ref it ∧ n ≤ it ∧ H2 it = some (ItO l it 0) ∧ (∃ dx fs, dropH H2 it a = some (.ins C dx fs)) ∧
    sq [.ref a] (dropH H2 it) (fun v H3 => ∃ (m : Nat) (ys : List V), v = .int (m : Int) ∧ m ≤ sizeLine ∧ H3 q = some (.lst []) ∧ q ≠ l ∧ SqL K H3 l ys ∧ ys.length ≤ sizeLine ∧ Q (.ref q) (upd H3 q (.lst ys))) F') E
theorem ext_loop {pins : List (Addr × Obj)} {σ : L2.St} {A1 : Around} {q it l : Addr} {ys : List V} {Rs : Result → Shared → Prop} (hc : A1.in1.handled = none) (hz : ys.length ≤ sizeLine) (hql : q ≠ l) (n : Nat) : ∀ (i : Nat) (H : Hp) (s : Shared), ys.length - i = n → i ≤ ys.length → Inv X pins σ H s → H q = some (.lst (ys.take i)) → SqL X.K H l ys → FpOk X pins H it → s.heap.IsListIter it l i →
    (∀ H' s', Inv X pins σ H' s' → H' = upd H q (.lst ys) → Rs (.ok (.ret .none)) s') → codeAny (model X.prog X.w) A1 (.builtin "list.extend.loop" ⟨[.ref q, .ref it, .none], []⟩) Rs s := by
  induction n with
  | zero =>
    intro i H s hn hi I hq hl fp st done
    refine codeAny_builtin PySem.F.entry_extend_loop ?_
    rw [Around.under_plainId PySem.F.plain_extend_loop _]
    show wpAny _ A1.in1 (pyNext (.ref it) >>= _) _ _ s
    obtain ⟨its, rv, p, hzz⟩ := I.list hl
    obtain ⟨f0, f1, f2, f3, f4, f5⟩ := fp
    have hll := rv.length
    refine wpAny_bind (wpAny_pyNext_list_end hc st p.isList (by simp; omega) fun h' eb => ?_)
    have I' : Inv X pins σ H { s with heap := h' } := I.turned (t' := s.toks) (fun b o hb e => eb b o hb e) f0 f1 f3 f4 f5
    refine wpAny_pure (done H _ I' ?_)
    have e : i = ys.length := by omega
    subst e
    rw [List.take_length] at hq
    funext b
    by_cases hb : b = q
    · rw [hb, upd_same, hq]
    · rw [upd_ne hb]
  | succ n ih =>
    intro i H s hn hi I hq hl fp st done
    refine codeAny_builtin PySem.F.entry_extend_loop ?_
    rw [Around.under_plainId PySem.F.plain_extend_loop _]
    show wpAny _ A1.in1 (pyNext (.ref it) >>= _) _ _ s
    obtain ⟨its, rv, p, hzz⟩ := I.list hl
    obtain ⟨f0, f1, f2, f3, f4, f5⟩ := id fp
    have hlt : i < ys.length := by omega
    obtain ⟨u, hu, ru⟩ := rv.get (List.getElem?_eq_getElem hlt)
    refine wpAny_bind (wpAny_pyNext_list_item st p.isList (x := u) (by simpa using hu) fun h' st' sb => ?_)
    have I1 : Inv X pins σ H { s with heap := h' } := I.turned (t' := s.toks) (fun b o hb e => (sb.2 b hb).trans e) f0 f1 f3 f4 f5
    show wpAny _ A1.in1 (updateSeq q (·.push u) >>= _) _ _ _
    obtain ⟨z, its2, kk, r2, hl2, e⟩ := I1.lstM hq
    have hlen : (ys.take i).length = i := by rw [List.length_take]; exact Nat.min_eq_left (Nat.le_of_lt hlt)
    have hs2 : its2.length = i := by rw [← r2.length, hlen]
    refine wpAny_bind (wpAny_updateSeq e rfl (wpAny_pure ⟨plainId_quiet PySem.F.plain_extend_loop _, ?_⟩) (by rw [List.size_toArray]; omega) (by show (its2.toArray.push u).size ≤ sizeLine + 1; rw [Array.size_push, List.size_toArray]; omega))
    have et : ys.take (i + 1) = ys.take i ++ [ys[i]] := by rw [List.take_add_one, List.getElem?_eq_getElem hlt]; rfl
    have I2 := I1.lset (f := (·.push u)) (its' := its2 ++ [u]) (t' := s.toks) (ys := ys.take (i + 1)) hq e (by simp) (by rw [et]; exact r2.append (.cons ru .nil)) (by rw [List.length_take]; omega)
    have nq : it ≠ q := fun z => by rw [z, hq] at f0; cases f0
    refine ih (i + 1) _ _ (by omega) (by omega) I2 upd_same ?_ ?_ ?_ ?_
    · have hx : upd H q (.lst (ys.take (i + 1))) l = H l := upd_ne hql.symm
      unfold SqL Rd at hl ⊢
      simp only [hx]
      exact hl
    · exact ⟨by rw [upd_ne nq]; exact f0, f1, f2, f3, f4, f5⟩
    · obtain ⟨o, h1, h2, h3⟩ := st'
      refine ⟨o, ?_, h2, h3⟩
      rw [Heap.get?_update_ne _ _ _ _ nq]
      exact h1
    · intro H' s' I' eH
      refine done H' s' I' ?_
      rw [eH, upd_upd]
end
end L2
set_option Elab.async false
set_option linter.all false
set_option maxRecDepth 100000
set_option maxHeartbeats 4000000
namespace L2
open PySem PySem.Spec PyProof.Rows ItX
section
variable {X : Cx} {CX CY : CXT} {k : Nat} {f g C : Addr} {fd fe : FuncData} {ps pt : List Str} {sp : Nat → Sp} {sq : Sp} {E F' : XK}
/-- a def that lets nothing out, run from within a built-in -/
theorem run_at0 {pins : List (Addr × Obj)} {σ : L2.St} {H : Hp} {s : Shared} {B : Around} {Q : VK} {us : List Value} {vs : List V} {E1 : Value → Shared → Prop} (F : FnOk X.prog X.w X.K X.mg X.base CX0 k g fe pt sq) (hr : Room k B) (hf : B.frames = X.A.frames) (hb : Binds X.K fe pt [])
    (I : Inv X pins σ H s) (r : Vals vs us) (h : sq vs H Q F') : wpAny (model X.prog X.w) B (call (.ref g) us) (EP X pins σ Q) E1 s := by
  have len := F.len _ _ _ _ h
  rw [r.length] at len
  have e1 := I.env0
  have env : Env0 X.prog X.w X.K X.mg X.base B X.stack s H := ⟨hf.trans e1.frames, e1.mod, e1.bs, e1.bsz, e1.funs, e1.frf, e1.hok, e1.bare⟩
  refine wpAny_call (codeAny_mono (F.run B X.stack s H ⟨us, []⟩ us vs Q F' hr env (by
    have := hb s us I.kIn (by simpa using len)
    simpa using this) r h) fun fin s' z => ?_)
  cases fin with
  | error e => exact z.elim
  | ok fl =>
    cases fl with
    | ret u => exact I.after z
    | next => exact z.elim
    | brk => exact z.elim
    | cont => exact z.elim
/-- the hint of an object with an own __len__ -/
theorem hint_own {pins : List (Addr × Obj)} {σ : L2.St} {H : Hp} {s : Shared} {B : Around} {a dx : Addr} {fs : List (Str × V)} {Q : Bool → Shared → Prop} {E1 : Value → Shared → Prop} (G : FnOk X.prog X.w X.K X.mg X.base CX0 k g fe pt sq) (hr : Room (k + 1) B) (hf : B.frames = X.A.frames) (hm : Meth X.K C "__len__" g) (hb : Binds X.K fe pt [])
    {R0 : V → Hp → Prop} (I : Inv X pins σ H s) (ea : H a = some (.ins C dx fs)) (h : sq [.ref a] H R0 F') (hR : ∀ v H3, R0 v H3 → ∃ m : Nat, v = .int (m : Int) ∧ m ≤ sizeLine ∧ ∀ s', Inv X pins σ H3 s' → Q ((m : Int) != 0) s') :
    wpAny (model X.prog X.w) B (Builtin.List.listLengthHint (.ref a)) Q E1 s := by
  obtain ⟨oa, Ja⟩ := inst_of I ea
  obtain ⟨_, fr⟩ := I.fr
  unfold Builtin.List.listLengthHint
  refine wpAny_bind (wpAny_bind (Ja.type.here ((PySem.W.looks_findIn I.kIn hm.at_).here ?_)))
  refine PySem.W.KFB.if_not rfl ?_
  rw [if_pos (show (some (Value.ref g)).isSome = true from rfl)]
  refine wpAny_bind (wpAny_rule ?_)
  refine wpAny_bind ?_
  refine wpAny_attempt (PySem.W.len_K fr I.ok.mod.kin Ja hm.at_ hm.fn (wpAny_mono (run_at0 (us := [.ref a]) (vs := [.ref a]) (B := B.in1) (E1 := fun _ _ => False) G hr.in1 hf hb I (.cons rfl .nil) h) (fun u s1 z => ?_) fun _ _ z => z.elim))
  obtain ⟨v, H1, I1, rv, z⟩ := z
  obtain ⟨m, rfl, hz, q⟩ := hR v H1 z
  obtain ⟨t, rfl⟩ := rv
  refine ⟨⟨Int.natCast_nonneg _, ?_⟩, ?_⟩
  · have : sizeLine < 2 ^ 63 := by rw [sizeLine_eq]; decide
    omega
  have hq := q { s1 with toks := s1.toks + 1 } (I1.tok _)
  dsimp only
  have ht : Builtin.List.listTooLong ((m : Int)).toNat = false := by
    show decide (((m : Int)).toNat > sizeLine) = false
    rw [Int.toNat_natCast]
    exact decide_eq_false (by omega)
  refine wpAny_bind (m := asInt? _) (wpAny_pure ?_)
  dsimp only
  rw [ht]
  rw [if_neg Bool.false_ne_true]
  exact wpAny_pure hq
theorem call_listOwnL (F : FnS X.prog X.w X.K X.mg X.base CX k f fd ps sp) (hl : ps.length = 1) (G : FnOk X.prog X.w X.K X.mg X.base CX0 k g fe pt sq) (hr : Room (k + 3) X.A) (hm : Meth X.K C "__iter__" f) (hb : Binds X.K fd ps []) (hx : Passes CX X E) (hn : Meth X.K C "__len__" g) (hbn : Binds X.K fe pt []) (hcalm : X.A.handled = none) :
    CallR X (.type "list") (rListOwn X.K C sp sq E F') := by
  intro pins s σ H xs us Q I rv h
  obtain ⟨a, dx, fs, rfl, ha, hq⟩ := h
  obtain ⟨u, rfl, ru⟩ := rv.one
  cases ru
  refine callType_codes (Q₁ := fun obj s₁ => obj = .ref s.heap.objs.size ∧ s₁ = { s with heap := s.heap.push { cls := .type "list", data := .seq #[] } }) PySem.F.called_list (PySem.F.typeCall_list_1 _) PySem.F.entry_list_init
    (code_list_new _ ⟨rfl, rfl⟩) fun obj s₁ h₁ => ?_
  obtain ⟨rfl, rfl⟩ := h₁
  have hS : (s.heap.push { cls := .type "list", data := .seq #[] }).get? s.heap.objs.size = some { cls := .type "list", data := .seq #[] } := Heap.get?_push_size _ rfl
  refine ⟨⟨_, hS, rfl⟩, PySem.F.args_list_init_2 _ _, ?_⟩
  have fr : H s.heap.objs.size = none := I.hok.fresh (Nat.le_refl _)
  have hsp := hq _ fr
  have I1 : Inv X pins σ (upd H s.heap.objs.size (.lst [])) { s with heap := s.heap.push { cls := .type "list", data := .seq #[] } } := I.lnew (its := []) (t' := s.toks) .nil (Nat.zero_le _)
  show wpAny _ _ (do let old ← Builtin.List.listItems (.ref s.heap.objs.size); Builtin.List.listUpdate (.ref s.heap.objs.size) (fun _ => #[]); letGo old.toList.reverse; Builtin.List.listExtendWith (.ref s.heap.objs.size) (.ref a) .none) _ _ _
  refine wpAny_bind ?_
  unfold Builtin.List.listItems
  refine wpAny_bind (wpAny_seqItems hS rfl (wpAny_pure ?_))
  show wpAny _ _ (updateSeq s.heap.objs.size (fun _ => #[]) >>= fun _ => letGo (#[] : Array Value).toList.reverse >>= fun _ => Builtin.List.listExtendWith (.ref s.heap.objs.size) (.ref a) .none) _ _ _
  refine wpAny_bind (wpAny_updateSeq hS rfl ?_)
  have I2 := I1.lset (f := fun _ => #[]) (its := []) (its' := []) (ys := []) (t' := s.toks) upd_same hS rfl .nil (Nat.zero_le _)
  rw [upd_upd] at I2
  refine wpAny_bind (wpAny_letGo ?_)
  have ha2 : upd H s.heap.objs.size (.lst []) a = some (.ins C dx fs) := by rw [upd_ne (ne_of_none ha fr)]; exact ha
  have hne : s.heap.objs.size ≠ a := (ne_of_none ha fr).symm
  revert I2
  generalize s.heap.objs.size = q at *
  intro I2
  obtain ⟨oa, Ja⟩ := inst_of I2 ha2
  obtain ⟨_, hF⟩ := I2.fr
  unfold Builtin.List.listExtendWith
  refine wpAny_bind (Ja.type.here ?_)
  have h1 : Builtin.List.listSameRef (.ref q) (.ref a) = false := by simp [Builtin.List.listSameRef, hne]
  have h2 : (Value.ref C == Value.type "list") = false := rfl
  have h3 : (Value.ref C == Value.type "tuple") = false := rfl
  simp only [h1, h2, h3, Bool.or_false, Bool.false_eq_true, if_false]
  refine wpAny_bind (PySem.W.owit_iter hF I2.ok.mod.kin Ja hm.at_ hm.fn (wpAny_mono (run_iter (B := X.A.in1.in1)
    (R := fun l Hd => (∃ dx fs, Hd a = some (.ins C dx fs)) ∧ sq [.ref a] Hd (fun v H3 => ∃ (m : Nat) (ys : List V), v = .int (m : Int) ∧ m ≤ sizeLine ∧ H3 q = some (.lst []) ∧ q ≠ l ∧ SqL X.K H3 l ys ∧ ys.length ≤ sizeLine ∧ Q (.ref q) (upd H3 q (.lst ys))) F')
    F hl ?room rfl hb hx I2 ?sp) (fun u s2 z => ?_) fun _ _ z => z))
  case room => exact ((show Room (k + 2) X.A.in1 from hr.in1).in1).mono (by omega)
  case sp => exact hsp
  obtain ⟨it, l, H2, rfl, I3, fp, st, ⟨dx', fs', ha3⟩, hlen⟩ := z
  refine it_is (pins := pins) (σ := σ) (H := H) st ?_
  obtain ⟨oi, e1, e2, e3⟩ := id st
  have I4 := I3.pinned (fp := [it]) (fun b hb => by
    have e : b = it := by simpa using hb
    subst e
    exact fp) (fun b hb => by
    have e : b = it := by simpa using hb
    subst e
    exact ⟨oi, e1, fun v z => by rw [e3] at z; cases z⟩)
  have hpin : pinsAt [it] s2.heap = [(it, oi)] := by
    unfold pinsAt
    simp [e1]
  rw [hpin] at I4
  refine wpAny_bind (wpAny_holding (hint_own (X := X) (B := X.A.in1.in1) (F' := F') (sq := sq) G (((show Room (k + 2) X.A.in1 from hr.in1).in1).mono (by omega)) rfl hn hbn I4 ha3 hlen ?_))
  rintro v H3 ⟨m, ys, rfl, hm0, hq3, hql, hl3, hz, hQ⟩
  refine ⟨m, rfl, hm0, fun s3 I5 => ?_⟩
  have p5 := I5.pin (it, oi) (by simp)
  obtain ⟨f0, f1, f2, f3, f4, f5⟩ := fp
  have fp5 : FpOk X pins H3 it := ⟨p5.2.1, f1, f2, f3, f4, f5⟩
  have st5 : s3.heap.IsListIter it l 0 := ⟨oi, p5.1, e2, e3⟩
  have I6 : Inv X pins σ H3 s3 := I5.unpinned
  have fin : ∀ (s4 : Shared), Inv X pins σ H3 s4 → s4.heap.IsListIter it l 0 → codeAny (model X.prog X.w) X.A.in1 (.builtin "list.extend.loop" ⟨[.ref q, .ref it, .none], []⟩) (wants (fun r s₂ => r = .none ∧ EP X pins σ Q (.ref q) s₂) X.xe) s4 := fun s4 I7 st7 =>
    ext_loop (X := X) (A1 := X.A.in1) hcalm hz hql _ 0 H3 s4 rfl (Nat.zero_le _) I7 hq3 hl3 fp5 st7 (fun H' s' I' eH => ⟨rfl, .ref q, H', I', rfl, by rw [eH]; exact hQ⟩)
  refine wpAny_ite_split (fun _ => ?_) (fun _ => wpAny_pure ⟨plainId_quiet PySem.F.plain_extend_loop _, fin s3 I6 st5⟩)
  refine wpAny_bind (wpAny_rule ?_)
  refine wpAny_bind ?_
  show wpAny _ _ (updateSeq q (·.push .none) >>= fun _ => updateSeq q (·.pop)) _ _ _
  obtain ⟨z, its, k3, r3, hl5, e5⟩ := I6.lstM hq3
  cases r3
  refine wpAny_bind (wpAny_updateSeq e5 rfl ?_)
  have I7 := I6.lset (f := (·.push Value.none)) (its' := [Value.none]) (ys := [.non]) (t' := s3.toks) hq3 e5 (by simp) (.cons rfl .nil) (by rw [List.length_singleton, sizeLine_eq]; decide)
  obtain ⟨z4, its4, k4, r4, hl4, e4⟩ := I7.lstM upd_same
  obtain ⟨u4, rfl, ru4⟩ := r4.one
  have nq : it ≠ q := fun z => by
    have h0 := fp5.1
    rw [z, hq3] at h0
    cases h0
  refine wpAny_updateSeq e4 rfl ?_ (by show 1 ≤ sizeLine; rw [sizeLine_eq]; decide) (by show 0 ≤ sizeLine + 1; exact Nat.zero_le _)
  refine wpAny_pure ⟨plainId_quiet PySem.F.plain_extend_loop _, fin _ ?_ ?_⟩
  · have I8 := I7.lset (f := (·.pop)) (its := [u4]) (its' := []) (ys := []) (t' := s3.toks) upd_same e4 (by rfl) .nil (Nat.zero_le _)
    rw [upd_upd] at I8
    have hH : upd H3 q (.lst []) = H3 := by
      funext b
      by_cases hb : b = q
      · rw [hb, upd_same, hq3]
      · rw [upd_ne hb]
    rw [hH] at I8
    exact I8
  · obtain ⟨o, h1, h2, h3⟩ := st5
    refine ⟨o, ?_, h2, h3⟩
    rw [Heap.get?_update_ne _ _ _ _ nq, Heap.get?_update_ne _ _ _ _ nq]
    exact h1
end
end L2
set_option Elab.async false
set_option linter.all false
set_option maxRecDepth 100000
set_option maxHeartbeats 4000000
/-! {e!r} of a list of data, repr(x) by an own __repr__ that asks no repr above it -/
namespace L2
open PySem PySem.Spec PyProof.Rows
section
variable {X : Cx} {CX : CXT} {k : Nat} {f C : Addr} {fd : FuncData} {ps : List Str} {sp : Sp} {E : XK}
def tFmtRD (K : PySem.W.Frag) (te : TE) : TE := fun σ H Q => te σ H fun x H1 => ∃ (a : Addr) (ys : List V) (ds : List PyData), x = .ref a ∧ SqL K H1 a ys ∧ DqAll K H1 ys ds ∧ (PyData.list ds).showable = true ∧ (PyData.list ds).depth ≤ 40 ∧ (PyData.list ds).shown.length ≤ sizeLine ∧ Q (.str (PyData.list ds).shown) H1
theorem pe_fmtRD {e : Expr} {te : TE} {pos : Pos} (hg : X.A.guards = some []) (hu : X.A.units + 64 < cLine) (he : PE X e te) : PE X (.FormattedValue e 114 none pos) (tFmtRD X.K te) := by
  refine ⟨fun pins s σ H Q I h => ?_⟩
  refine wpAny_FormattedValue_repr (thn (he.run pins s σ H _ I h) fun v s1 hv => ?_)
  obtain ⟨x, H1, I1, r1, a, ys, ds, rfl, hq, ha, hs, hdp, hz, q⟩ := hv
  cases r1
  obtain ⟨its, rv, ⟨o, n, ho, hc, _, hd⟩, _⟩ := I1.list hq
  have hz' : (listText (PyData.shownAll ds)).length ≤ sizeLine := by simpa only [PyData.shown] using hz
  obtain ⟨as, bs, hr, hb, hk⟩ := DqAll.repr I1 ha its rv (by simpa [PyData.showable] using hs) (fun t ht => Nat.le_trans (listText_mem_le ht) hz')
  have rr : Reads s1.heap (.ref a) (.list ds) _ := .list ho hc hd hr
  have hna : a ∉ bs := not_mem_of_deeper rr (by simp only [PyData.depth]; omega) hb
  simp only [PyData.depth] at hdp
  simp only [PyData.shown] at q
  have fin : ∀ (u' : Nat) (h' : Heap) (tk : Nat), (∀ b o, s1.heap.get? b = some o → h'.get? b = some o) → wpAny (model X.prog X.w) X.A (formatField (.str (listText (PyData.shownAll ds)) u') Str.empty) (EP X pins σ Q) X.xe { s1 with heap := h', toks := tk } := fun u' h' tk hk => by
    have I2 : Inv X pins σ H1 { s1 with heap := h', toks := tk } := I1.kept (t' := tk) hk
    exact wpAny_formatField_str ⟨.str _, H1, I2, ⟨_, rfl⟩, q⟩ ⟨.str _, H1, I2.tok _, ⟨_, rfl⟩, q⟩ hz'
  refine wpAny_pyReprObj_slot (by omega) ⟨o, ho, hc⟩ F.slot_list_repr.toG ?_
  cases its with
  | nil =>
    cases hr
    simp only [PyData.shownAll, listText_nil] at fin
    exact call_list_repr_empty ⟨o, ho, hc⟩ ho hd ⟨_, _, rfl, fin _ _ _ fun _ _ e => e⟩
  | cons x l =>
    exact call_list_reprK ho hc hd hna (by simpa using hk.length_eq) (fun i y e => hk.item i y (by simpa using e)) hg (fun b _ => Clear.nil b) (by omega) (fun _ _ e => e) (fun h' u tk hk => ⟨_, _, rfl, fin u h' tk hk⟩) hz'
theorem run_atG {pins : List (Addr × Obj)} {σ : L2.St} {H : Hp} {s : Shared} {B : Around} {Q : VK} {us : List Value} {vs : List V} (F : FnOkG X.prog X.w X.K X.mg X.base CX k f fd ps sp) (hG : B.guards = some []) (hr : Room k B) (hf : B.frames = X.A.frames) (hb : Binds X.K fd ps []) (hx : Passes CX X E)
    (I : Inv X pins σ H s) (r : Vals vs us) (h : sp vs H Q E) : wpAny (model X.prog X.w) B (call (.ref f) us) (EP X pins σ Q) X.xe s := by
  have len := F.len _ _ _ _ h
  rw [r.length] at len
  have e1 := I.env0
  have env : Env0 X.prog X.w X.K X.mg X.base B X.stack s H := ⟨hf.trans e1.frames, e1.mod, e1.bs, e1.bsz, e1.funs, e1.frf, e1.hok, e1.bare⟩
  refine wpAny_call (codeAny_mono (F.run B X.stack s H ⟨us, []⟩ us vs Q E hG hr env (by
    have := hb s us I.kIn (by simpa using len)
    simpa using this) r h) fun fin s' z => ?_)
  cases fin with
  | error e => exact hx pins σ H s e s' I z
  | ok fl =>
    cases fl with
    | ret u => exact I.after z
    | next => exact z.elim
    | brk => exact z.elim
    | cont => exact z.elim
theorem call_ownReprG (F : FnOkG X.prog X.w X.K X.mg X.base CX k f fd ps sp) (hG : X.A.guards = some []) (hr : Room (k + 1) X.A) (hm : Meth X.K C "__repr__" f) (hb : Binds X.K fd ps []) (hx : Passes CX X E) : CallR X (.builtin "repr") (rOwnRepr C sp [] E) := by
  intro pins s σ H xs us Q I r h
  obtain ⟨a, dx, fs, rfl, ea, q⟩ := h
  obtain ⟨u, rfl, ru⟩ := vals1 r
  cases ru
  obtain ⟨oa, Ja⟩ := inst_of I ea
  obtain ⟨_, fr⟩ := I.fr
  have room : X.A.in1.units < cLine := hr.in1.units0
  refine PySem.W.repr_K room fr I.ok.mod.kin Ja hm.at_ hm.fn (wpAny_mono (run_atG (us := [.ref a]) (vs := [.ref a]) F hG hr.in1 rfl hb hx I (.cons rfl .nil) q) (fun u s1 z => ?_) fun _ _ z => z)
  obtain ⟨v, H1, I1, rv, n, rfl, q1⟩ := z
  obtain ⟨t, rfl⟩ := rv
  exact ⟨.str n, H1, I1, ⟨_, rfl⟩, q1⟩
end
end L2
set_option Elab.async false
set_option linter.all false
set_option maxRecDepth 100000
set_option maxHeartbeats 4000000
/-! a comprehension of three clauses -/
namespace L2
open PySem PySem.Spec PyProof.Rows
theorem compTurn3_out (elt t0 i0 t1 i1 t2 i2 : Expr) (ifs0 ifs1 ifs2 : List Expr) (scope : Scope) (pos : Pos) (it acc : Value) (env : Env) :
    compTurn (.ListComp elt [⟨t0, i0, ifs0, 0⟩, ⟨t1, i1, ifs1, 0⟩, ⟨t2, i2, ifs2, 0⟩] scope pos) 0 it acc env = (do
      standAt i0.pos
      match ← pyNext it with
      | none => pure (.done .next)
      | some v =>
        letOwnedTupleGo t0 it v
        assign t0 env v
        let mut ok := true
        for c in ifs0 do
          if ok then ok ← isTrue c env (eval c env)
        if ok then
          let x ← eval i1 env
          standAt i1.pos
          let x ← foldedSetIterable i1 env x
          let _ ← runOwn (.compStart (.ListComp elt [⟨t0, i0, ifs0, 0⟩, ⟨t1, i1, ifs1, 0⟩, ⟨t2, i2, ifs2, 0⟩] scope pos) 1 (← holding [x] (pyIter x)) acc env) env
        again (.compLoop (.ListComp elt [⟨t0, i0, ifs0, 0⟩, ⟨t1, i1, ifs1, 0⟩, ⟨t2, i2, ifs2, 0⟩] scope pos) 0 it acc env)) := by rfl
theorem compTurn3_mid (elt t0 i0 t1 i1 t2 i2 : Expr) (ifs0 ifs1 ifs2 : List Expr) (scope : Scope) (pos : Pos) (it acc : Value) (env : Env) :
    compTurn (.ListComp elt [⟨t0, i0, ifs0, 0⟩, ⟨t1, i1, ifs1, 0⟩, ⟨t2, i2, ifs2, 0⟩] scope pos) 1 it acc env = (do
      standAt i1.pos
      match ← pyNext it with
      | none => pure (.done .next)
      | some v =>
        letOwnedTupleGo t1 it v
        assign t1 env v
        let mut ok := true
        for c in ifs1 do
          if ok then ok ← isTrue c env (eval c env)
        if ok then
          let x ← eval i2 env
          standAt i2.pos
          let x ← foldedSetIterable i2 env x
          let _ ← runOwn (.compStart (.ListComp elt [⟨t0, i0, ifs0, 0⟩, ⟨t1, i1, ifs1, 0⟩, ⟨t2, i2, ifs2, 0⟩] scope pos) 2 (← holding [x] (pyIter x)) acc env) env
        again (.compLoop (.ListComp elt [⟨t0, i0, ifs0, 0⟩, ⟨t1, i1, ifs1, 0⟩, ⟨t2, i2, ifs2, 0⟩] scope pos) 1 it acc env)) := by rfl
theorem compTurn3_in (elt t0 i0 t1 i1 t2 i2 : Expr) (ifs0 ifs1 ifs2 : List Expr) (scope : Scope) (pos : Pos) (it acc : Value) (env : Env) :
    compTurn (.ListComp elt [⟨t0, i0, ifs0, 0⟩, ⟨t1, i1, ifs1, 0⟩, ⟨t2, i2, ifs2, 0⟩] scope pos) 2 it acc env = (do
      standAt i2.pos
      match ← pyNext it with
      | none => pure (.done .next)
      | some v =>
        letOwnedTupleGo t2 it v
        assign t2 env v
        let mut ok := true
        for c in ifs2 do
          if ok then ok ← isTrue c env (eval c env)
        if ok then
          (do let _ ← call (.builtin "list.append") [acc, ← eval elt env])
        again (.compLoop (.ListComp elt [⟨t0, i0, ifs0, 0⟩, ⟨t1, i1, ifs1, 0⟩, ⟨t2, i2, ifs2, 0⟩] scope pos) 2 it acc env)) := by rfl

section
variable {prog : Program} {w : World} {A : Around} {R : Result → Shared → Prop} {s : Shared} {elt t0 i0 t1 i1 t2 i2 : Expr} {ifs0 ifs1 ifs2 : List Expr} {scope : Scope} {pos : Pos} {it acc : Value} {env : Env}
theorem compLoop3_out (hs : ∀ x, foldedSetIterable i1 env x = pure x) (I : Nat → Shared → Prop)
    (turn : ∀ n s, I n s → wpAny (model prog w) A (pyNext it) (fun r s₁ => match r with
      | none => R (.ok .next) s₁
      | some v => wpAny (model prog w) A (letOwnedTupleGo t0 it v) (fun _ s₁' => wpAny (model prog w) A (assign t0 env v) (fun _ s₂ =>
          wpAny (model prog w) A (forIn ifs0 true fun c r => if r = true then do let ok ← isTrue c env (eval c env); pure (ForInStep.yield ok) else pure (ForInStep.yield r)) (fun ok s₃ =>
            if ok = true then wpAny (model prog w) A (eval i1 env) (fun x s₄ => wpAny (model prog w) A (pyIter x) (fun it1 s₅ =>
              codeAny (model prog w) A (.compStart (.ListComp elt [⟨t0, i0, ifs0, 0⟩, ⟨t1, i1, ifs1, 0⟩, ⟨t2, i2, ifs2, 0⟩] scope pos) 1 it1 acc env) (fun r s' => match r with
                | .ok _ => ∃ m, m < n ∧ I m s'
                | .error _ => False) s₅) (notedBy (model prog w) A env fun e s' => R (.error e) s') s₄) (notedBy (model prog w) A env fun e s' => R (.error e) s') s₃
            else ∃ m, m < n ∧ I m s₃) (notedBy (model prog w) A env fun e s' => R (.error e) s') s₂) (notedBy (model prog w) A env fun e s' => R (.error e) s') s₁') (notedBy (model prog w) A env fun e s' => R (.error e) s') s₁) (notedBy (model prog w) A env fun e s' => R (.error e) s') s)
    (n : Nat) (h : I n s) :
    codeAny (model prog w) A (.compLoop (.ListComp elt [⟨t0, i0, ifs0, 0⟩, ⟨t1, i1, ifs1, 0⟩, ⟨t2, i2, ifs2, 0⟩] scope pos) 0 it acc env) R s := by
  refine codeAny_loop rfl I (fun n s hI => ?_) n h
  show wpAny _ A ((compTurn (.ListComp elt [⟨t0, i0, ifs0, 0⟩, ⟨t1, i1, ifs1, 0⟩, ⟨t2, i2, ifs2, 0⟩] scope pos) 0 it acc env).onRaise (fun x => do noteFrame x env; theTreesLotGoes x)) _ _ s
  refine wpAny_noted ?_
  rw [compTurn3_out]
  refine wpAny_bind (wpAny_standAt (wpAny_bind (wpAny_mono (turn n s hI) (fun r s₁ h₁ => ?_) fun _ _ h' => h')))
  cases r with
  | none => exact wpAny_pure h₁
  | some v =>
    refine wpAny_bind (wpAny_mono h₁ (fun _ s₁' h₁' => ?_) fun _ _ h' => h')
    refine wpAny_bind (wpAny_mono h₁' (fun _ s₂ h₂ => wpAny_bind (wpAny_mono h₂ (fun ok s₃ h₃ => ?_) fun _ _ h' => h')) fun _ _ h' => h')
    cases ok with
    | false => exact wpAny_pure ⟨rfl, h₃⟩
    | true =>
      refine wpAny_bind (wpAny_mono h₃ (fun x s₄ h₄ => ?_) fun _ _ h' => h')
      refine wpAny_bind (wpAny_standAt (wpAny_bind (wpAny_of_eq (hs x) (wpAny_bind (wpAny_holding (wpAny_mono h₄ (fun it1 s₅ h₅ => ?_) fun _ _ h' => h'))))))
      refine wpAny_bind (wpAny_runOwn ?_)
      rw [Around.mark_none]
      refine codeAny_mono h₅ fun r s' hr => ?_
      cases r with
      | ok f =>
        first
          | exact wpAny_pure ⟨rfl, hr⟩
          | exact wpAny_bind (wpAny_pure (wpAny_pure ⟨rfl, hr⟩))
      | error e => exact hr.elim
theorem compLoop3_mid (hs : ∀ x, foldedSetIterable i2 env x = pure x) (I : Nat → Shared → Prop)
    (turn : ∀ n s, I n s → wpAny (model prog w) A (pyNext it) (fun r s₁ => match r with
      | none => R (.ok .next) s₁
      | some v => wpAny (model prog w) A (letOwnedTupleGo t1 it v) (fun _ s₁' => wpAny (model prog w) A (assign t1 env v) (fun _ s₂ =>
          wpAny (model prog w) A (forIn ifs1 true fun c r => if r = true then do let ok ← isTrue c env (eval c env); pure (ForInStep.yield ok) else pure (ForInStep.yield r)) (fun ok s₃ =>
            if ok = true then wpAny (model prog w) A (eval i2 env) (fun x s₄ => wpAny (model prog w) A (pyIter x) (fun it1 s₅ =>
              codeAny (model prog w) A (.compStart (.ListComp elt [⟨t0, i0, ifs0, 0⟩, ⟨t1, i1, ifs1, 0⟩, ⟨t2, i2, ifs2, 0⟩] scope pos) 2 it1 acc env) (fun r s' => match r with
                | .ok _ => ∃ m, m < n ∧ I m s'
                | .error _ => False) s₅) (notedBy (model prog w) A env fun e s' => R (.error e) s') s₄) (notedBy (model prog w) A env fun e s' => R (.error e) s') s₃
            else ∃ m, m < n ∧ I m s₃) (notedBy (model prog w) A env fun e s' => R (.error e) s') s₂) (notedBy (model prog w) A env fun e s' => R (.error e) s') s₁') (notedBy (model prog w) A env fun e s' => R (.error e) s') s₁) (notedBy (model prog w) A env fun e s' => R (.error e) s') s)
    (n : Nat) (h : I n s) :
    codeAny (model prog w) A (.compLoop (.ListComp elt [⟨t0, i0, ifs0, 0⟩, ⟨t1, i1, ifs1, 0⟩, ⟨t2, i2, ifs2, 0⟩] scope pos) 1 it acc env) R s := by
  refine codeAny_loop rfl I (fun n s hI => ?_) n h
  show wpAny _ A ((compTurn (.ListComp elt [⟨t0, i0, ifs0, 0⟩, ⟨t1, i1, ifs1, 0⟩, ⟨t2, i2, ifs2, 0⟩] scope pos) 1 it acc env).onRaise (fun x => do noteFrame x env; theTreesLotGoes x)) _ _ s
  refine wpAny_noted ?_
  rw [compTurn3_mid]
  refine wpAny_bind (wpAny_standAt (wpAny_bind (wpAny_mono (turn n s hI) (fun r s₁ h₁ => ?_) fun _ _ h' => h')))
  cases r with
  | none => exact wpAny_pure h₁
  | some v =>
    refine wpAny_bind (wpAny_mono h₁ (fun _ s₁' h₁' => ?_) fun _ _ h' => h')
    refine wpAny_bind (wpAny_mono h₁' (fun _ s₂ h₂ => wpAny_bind (wpAny_mono h₂ (fun ok s₃ h₃ => ?_) fun _ _ h' => h')) fun _ _ h' => h')
    cases ok with
    | false => exact wpAny_pure ⟨rfl, h₃⟩
    | true =>
      refine wpAny_bind (wpAny_mono h₃ (fun x s₄ h₄ => ?_) fun _ _ h' => h')
      refine wpAny_bind (wpAny_standAt (wpAny_bind (wpAny_of_eq (hs x) (wpAny_bind (wpAny_holding (wpAny_mono h₄ (fun it1 s₅ h₅ => ?_) fun _ _ h' => h'))))))
      refine wpAny_bind (wpAny_runOwn ?_)
      rw [Around.mark_none]
      refine codeAny_mono h₅ fun r s' hr => ?_
      cases r with
      | ok f =>
        first
          | exact wpAny_pure ⟨rfl, hr⟩
          | exact wpAny_bind (wpAny_pure (wpAny_pure ⟨rfl, hr⟩))
      | error e => exact hr.elim
theorem compLoop3_in (I : Nat → Shared → Prop)
    (turn : ∀ n s, I n s → wpAny (model prog w) A (pyNext it) (fun r s₁ => match r with
      | none => R (.ok .next) s₁
      | some v => wpAny (model prog w) A (letOwnedTupleGo t2 it v) (fun _ s₁' => wpAny (model prog w) A (assign t2 env v) (fun _ s₂ =>
          wpAny (model prog w) A (forIn ifs2 true fun c r => if r = true then do let ok ← isTrue c env (eval c env); pure (ForInStep.yield ok) else pure (ForInStep.yield r)) (fun ok s₃ =>
            if ok = true then wpAny (model prog w) A (eval elt env) (fun x s₄ =>
              wpAny (model prog w) A (call (.builtin "list.append") [acc, x]) (fun _ s₅ => ∃ m, m < n ∧ I m s₅) (notedBy (model prog w) A env fun e s' => R (.error e) s') s₄) (notedBy (model prog w) A env fun e s' => R (.error e) s') s₃
            else ∃ m, m < n ∧ I m s₃) (notedBy (model prog w) A env fun e s' => R (.error e) s') s₂) (notedBy (model prog w) A env fun e s' => R (.error e) s') s₁') (notedBy (model prog w) A env fun e s' => R (.error e) s') s₁) (notedBy (model prog w) A env fun e s' => R (.error e) s') s)
    (n : Nat) (h : I n s) :
    codeAny (model prog w) A (.compLoop (.ListComp elt [⟨t0, i0, ifs0, 0⟩, ⟨t1, i1, ifs1, 0⟩, ⟨t2, i2, ifs2, 0⟩] scope pos) 2 it acc env) R s := by
  refine codeAny_loop rfl I (fun n s hI => ?_) n h
  show wpAny _ A ((compTurn (.ListComp elt [⟨t0, i0, ifs0, 0⟩, ⟨t1, i1, ifs1, 0⟩, ⟨t2, i2, ifs2, 0⟩] scope pos) 2 it acc env).onRaise (fun x => do noteFrame x env; theTreesLotGoes x)) _ _ s
  refine wpAny_noted ?_
  rw [compTurn3_in]
  refine wpAny_bind (wpAny_standAt (wpAny_bind (wpAny_mono (turn n s hI) (fun r s₁ h₁ => ?_) fun _ _ h' => h')))
  cases r with
  | none => exact wpAny_pure h₁
  | some v =>
    refine wpAny_bind (wpAny_mono h₁ (fun _ s₁' h₁' => ?_) fun _ _ h' => h')
    refine wpAny_bind (wpAny_mono h₁' (fun _ s₂ h₂ => wpAny_bind (wpAny_mono h₂ (fun ok s₃ h₃ => ?_) fun _ _ h' => h')) fun _ _ h' => h')
    cases ok with
    | false => exact wpAny_pure ⟨rfl, h₃⟩
    | true =>
      exact wpAny_bind (wpAny_bind (wpAny_mono h₃ (fun x s₄ h₄ => wpAny_bind (wpAny_mono h₄ (fun _ s₅ h₅ => wpAny_pure (wpAny_pure ⟨rfl, h₅⟩)) fun _ _ h' => h')) fun _ _ h' => h'))
theorem comp3Start1_ok (h0 : codeAny (model prog w) A (.compLoop (.ListComp elt [⟨t0, i0, ifs0, 0⟩, ⟨t1, i1, ifs1, 0⟩, ⟨t2, i2, ifs2, 0⟩] scope pos) 1 it acc env) R s)
    (h : wpAny (model prog w) A (pyIter it) (fun it' s' => codeAny (model prog w) A (.compLoop (.ListComp elt [⟨t0, i0, ifs0, 0⟩, ⟨t1, i1, ifs1, 0⟩, ⟨t2, i2, ifs2, 0⟩] scope pos) 1 it' acc env) R s')
      (notedBy (model prog w) A env fun x s' => R (.error x) s') s) :
    codeAny (model prog w) A (.compStart (.ListComp elt [⟨t0, i0, ifs0, 0⟩, ⟨t1, i1, ifs1, 0⟩, ⟨t2, i2, ifs2, 0⟩] scope pos) 1 it acc env) R s := by
  refine codeAny_of_tree ?_
  show wpAny _ _ ((compStart (.ListComp elt [⟨t0, i0, ifs0, 0⟩, ⟨t1, i1, ifs1, 0⟩, ⟨t2, i2, ifs2, 0⟩] scope pos) 1 it acc env).onRaise (fun x => do noteFrame x env; standAt theWindowsPlace)) _ _ s
  refine wpAny_notedAt ?_
  unfold compStart
  show wpAny _ _ (ask >>= _) _ _ s
  refine wpAny_bind (wpAny_askSetting (wpAny_ite ?_))
  split
  · first
      | exact wpAny_bind (wpAny_pure (wpAny_pure (And.intro rfl h0)))
      | exact wpAny_pure (And.intro rfl h0)
  · first
      | exact wpAny_bind (wpAny_rule (wpAny_bind (wpAny_standAt (wpAny_bind (wpAny_mono h (fun it' s' h' => wpAny_pure (And.intro rfl h')) fun _ _ x => x)))))
      | (refine wpAny_bind (wpAny_rule ?_); show wpAny _ _ (standAt i1.pos >>= _) _ _ s; exact wpAny_bind (wpAny_standAt (wpAny_bind (wpAny_mono h (fun it' s' h' => wpAny_pure (And.intro rfl h')) fun _ _ x => x))))
theorem comp3Start2_ok (h0 : codeAny (model prog w) A (.compLoop (.ListComp elt [⟨t0, i0, ifs0, 0⟩, ⟨t1, i1, ifs1, 0⟩, ⟨t2, i2, ifs2, 0⟩] scope pos) 2 it acc env) R s)
    (h : wpAny (model prog w) A (pyIter it) (fun it' s' => codeAny (model prog w) A (.compLoop (.ListComp elt [⟨t0, i0, ifs0, 0⟩, ⟨t1, i1, ifs1, 0⟩, ⟨t2, i2, ifs2, 0⟩] scope pos) 2 it' acc env) R s')
      (notedBy (model prog w) A env fun x s' => R (.error x) s') s) :
    codeAny (model prog w) A (.compStart (.ListComp elt [⟨t0, i0, ifs0, 0⟩, ⟨t1, i1, ifs1, 0⟩, ⟨t2, i2, ifs2, 0⟩] scope pos) 2 it acc env) R s := by
  refine codeAny_of_tree ?_
  show wpAny _ _ ((compStart (.ListComp elt [⟨t0, i0, ifs0, 0⟩, ⟨t1, i1, ifs1, 0⟩, ⟨t2, i2, ifs2, 0⟩] scope pos) 2 it acc env).onRaise (fun x => do noteFrame x env; standAt theWindowsPlace)) _ _ s
  refine wpAny_notedAt ?_
  unfold compStart
  show wpAny _ _ (ask >>= _) _ _ s
  refine wpAny_bind (wpAny_askSetting (wpAny_ite ?_))
  split
  · first
      | exact wpAny_bind (wpAny_pure (wpAny_pure (And.intro rfl h0)))
      | exact wpAny_pure (And.intro rfl h0)
  · first
      | exact wpAny_bind (wpAny_rule (wpAny_bind (wpAny_standAt (wpAny_bind (wpAny_mono h (fun it' s' h' => wpAny_pure (And.intro rfl h')) fun _ _ x => x)))))
      | (refine wpAny_bind (wpAny_rule ?_); show wpAny _ _ (standAt i2.pos >>= _) _ _ s; exact wpAny_bind (wpAny_standAt (wpAny_bind (wpAny_mono h (fun it' s' h' => wpAny_pure (And.intro rfl h')) fun _ _ x => x))))
end
section
variable {X : Cx}
def tLc3 (wi : TI) (g : TG) (tt : TT) (wi1 : TI) (g1 : TG) (tt1 : TT) (wi2 : TI) (g2 : TG) (tt2 : TT) (te : TE) (vs vs1 vs2 : List Nat) : TE := fun σ H Q => wi σ H fun J H1 => ∀ D, H1 D = none → ∃ W : Nat → Nat → Hp → Prop, (∃ m, W 0 m (upd H1 D (.lst []))) ∧ ∀ i m H, W i m H →
  (J.stop i H ∧ Q (.ref D) H) ∨ (J.go i H ∧ ∃ Nx : Hp → Prop, (∀ H', Nx H' → ∃ m', m' < m ∧ W (i + 1) m' H') ∧ ∀ x H', J.yld i H x H' → g x (wipe σ vs) H' fun σ2 H2 => wipe σ2 vs = wipe σ vs ∧ tt σ2 H2 fun b H3 =>
    if b = true then wi1 σ2 H3 fun J1 H4 => ∃ W1 : Nat → Nat → Hp → Prop, (∃ m, W1 0 m H4) ∧ ∀ j k H, W1 j k H →
      (J1.stop j H ∧ Nx H) ∨ (J1.go j H ∧ ∃ Nx1 : Hp → Prop, (∀ H', Nx1 H' → ∃ k', k' < k ∧ W1 (j + 1) k' H') ∧ ∀ x H', J1.yld j H x H' → g1 x (wipe σ2 vs1) H' fun σ3 H5 => wipe σ3 vs1 = wipe σ2 vs1 ∧ tt1 σ3 H5 fun b H6 =>
        if b = true then wi2 σ3 H6 fun J2 H7 => ∃ W2 : Nat → Nat → Hp → Prop, (∃ m, W2 0 m H7) ∧ ∀ j k H, W2 j k H →
          (J2.stop j H ∧ Nx1 H) ∨ (J2.go j H ∧ ∃ Nx2 : Hp → Prop, (∀ H', Nx2 H' → ∃ k', k' < k ∧ W2 (j + 1) k' H') ∧ ∀ x H', J2.yld j H x H' → g2 x (wipe σ3 vs2) H' fun σ4 H8 => wipe σ4 vs2 = wipe σ3 vs2 ∧ tt2 σ4 H8 fun b H9 =>
            if b = true then te σ4 H9 fun y H10 => ∃ acc, H10 D = some (.lst acc) ∧ acc.length < sizeLine ∧ Nx2 (upd H10 D (.lst (acc ++ [y]))) else Nx2 H9)
        else Nx1 H6)
    else Nx H3)
theorem lc3_core {pins : List (Addr × Obj)} {s : Shared} {σ : St} {H : Hp} {Q : VK} {elt tg iter tg1 iter1 tg2 iter2 : Expr} {ifs ifs1 ifs2 : List Expr} {scope : Scope} {own : List (Str × Nat)} {vs1 vs2 : List Nat} {pos pos' : Pos} {wi wi1 wi2 : TI} {g g1 g2 : TG} {tt tt1 tt2 : TT} {te : TE} {use : Option (Value → Sem Unit)} {Qf : Value → Shared → Prop}
    (hc : X.calm = true) (hN : X.N.Nodup) (I : Inv X pins σ H s) (hi : PI X tg iter wi) (ok : BlkOk X.N X.env.scope scope own) (hv : ∀ i ∈ vs1, i ∈ own.map (·.2)) (hv2 : ∀ i ∈ vs2, i ∈ vs1)
    (hg : ∀ (s : Shared) (H : Hp) (C : Addr) (cl : List (Str × Addr)) (fp : List Addr), PG (X.blk s H scope (compEnvC scope cl C X.env) fp) tg g) (ht : ∀ (s : Shared) (H : Hp) (C : Addr) (cl : List (Str × Addr)) (fp : List Addr), PTs (X.blk s H scope (compEnvC scope cl C X.env) fp) ifs tt)
    (he : ∀ (s : Shared) (H : Hp) (C : Addr) (cl : List (Str × Addr)) (fp : List Addr), PE (X.blk s H scope (compEnvC scope cl C X.env) fp) elt te) (hs : ∀ x, foldedSetIterable iter X.env x = pure x)
    (hi1 : ∀ (s : Shared) (H : Hp) (C : Addr) (cl : List (Str × Addr)) (fp : List Addr), PI (X.blk s H scope (compEnvC scope cl C X.env) fp) tg1 iter1 wi1)
    (hg1 : ∀ (s : Shared) (H : Hp) (C : Addr) (cl : List (Str × Addr)) (fp : List Addr), PG (X.blk s H scope (compEnvC scope cl C X.env) fp) tg1 g1)
    (ht1 : ∀ (s : Shared) (H : Hp) (C : Addr) (cl : List (Str × Addr)) (fp : List Addr), PTs (X.blk s H scope (compEnvC scope cl C X.env) fp) ifs1 tt1)
    (hi2 : ∀ (s : Shared) (H : Hp) (C : Addr) (cl : List (Str × Addr)) (fp : List Addr), PI (X.blk s H scope (compEnvC scope cl C X.env) fp) tg2 iter2 wi2)
    (hg2 : ∀ (s : Shared) (H : Hp) (C : Addr) (cl : List (Str × Addr)) (fp : List Addr), PG (X.blk s H scope (compEnvC scope cl C X.env) fp) tg2 g2)
    (ht2 : ∀ (s : Shared) (H : Hp) (C : Addr) (cl : List (Str × Addr)) (fp : List Addr), PTs (X.blk s H scope (compEnvC scope cl C X.env) fp) ifs2 tt2)
    (hs1 : ∀ env x, foldedSetIterable iter1 env x = pure x) (hs2 : ∀ env x, foldedSetIterable iter2 env x = pure x)
    (h : tLc3 wi g tt wi1 g1 tt1 wi2 g2 tt2 te (own.map (·.2)) vs1 vs2 σ H Q)
    (hRR : ∀ D C s' m H', Inv X pins σ H' s' → Q (.ref D) H' → s'.heap.Ns C m → FpOk X pins H' C → compPost (model X.prog X.w) X.A X.xe use Qf (.ref D) C (.ok .next) s') :
    wpAny (model X.prog X.w) X.A (comprehension (.ListComp elt [⟨tg, iter, ifs, 0⟩, ⟨tg1, iter1, ifs1, 0⟩, ⟨tg2, iter2, ifs2, 0⟩] scope pos) scope X.env pos' (newList []) false (eval iter X.env) use) Qf X.xe s := by
  have hfree : ∀ y ∈ scope.names, y.2 = .free → ∃ c, X.env.cells.lookup y.1 = some c := fun y hy e => by
    rcases ok.free y hy e with k | k
    · exact I.ok.has _ (.inl k)
    · exact I.ok.has _ (.inr k)
  refine wpAny_comprehension_free (use := use) rfl hs (closure_ok hfree) ok.kind (fun y hy e => by rw [ok.uniq y hy, e])
    (thn (hi.run pins s σ H _ I h) fun xv s1 hx => thn hx fun itv s2 h2 => ?_)
  obtain ⟨it, fp, tn, J, H2, e, I2, T, st2, f2, q⟩ := h2
  subst e
  refine wpAny_newObj_type (newEnv_comp ?_) (by show 0 ≤ sizeLine; decide)
  generalize hD : s2.heap.objs.size = D
  have hDn : H2 D = none := I2.hok.fresh (Nat.le_of_eq hD)
  obtain ⟨W, ⟨m0, w0⟩, turn⟩ := q D hDn
  -- the new list
  generalize hs3 : ({ s2 with heap := s2.heap.push { cls := .type "list", data := .seq ([] : List Value).toArray } } : Shared) = s3
  have I3 : Inv X pins σ (upd H2 D (.lst [])) s3 := by
    rw [← hs3]
    refine I2.laid (t' := s2.toks) (fun b o e => Heap.get?_push_of_some _ e) (Nat.le_of_eq hD) ⟨Nat.zero_le _, [], 0, .nil, ?_⟩
    rw [← hD]
    exact Heap.get?_push_size _ rfl
  have h3 : s3.heap = s2.heap.push { cls := .type "list", data := .seq ([] : List Value).toArray } := by rw [← hs3]
  have sz : ∀ b ∈ fp, b < s2.heap.objs.size := fun b hb => by
    obtain ⟨o, e, _⟩ := T.obj _ _ st2 b hb
    exact Heap.lt_size e
  have f3 : ∀ b ∈ fp, FpOk X pins (upd H2 D (.lst [])) b ∧ b < s3.heap.objs.size := fun b hb => by
    have hlt := sz b hb
    refine ⟨⟨?_, (f2 b hb).2⟩, by rw [h3, Heap.size_push]; exact Nat.lt_succ_of_lt hlt⟩
    rw [upd_ne (by rw [← hD]; exact Nat.ne_of_lt hlt)]
    exact (f2 b hb).1
  have st3 : tn 0 s3.heap := T.keep _ _ _ st2 fun b _ o e => by rw [h3]; exact Heap.get?_push_of_some _ e
  have I4 := block_start I3 ok hN f3
  have pg := hg s3 (upd H2 D (.lst [])) s3.heap.objs.size (cellsFrom (s3.heap.objs.size + 1) scope.names (cloFrom X.env.cells scope.names [])) fp
  have pt := ht s3 (upd H2 D (.lst [])) s3.heap.objs.size (cellsFrom (s3.heap.objs.size + 1) scope.names (cloFrom X.env.cells scope.names [])) fp
  have pe := he s3 (upd H2 D (.lst [])) s3.heap.objs.size (cellsFrom (s3.heap.objs.size + 1) scope.names (cloFrom X.env.cells scope.names [])) fp
  have pi1 := hi1 s3 (upd H2 D (.lst [])) s3.heap.objs.size (cellsFrom (s3.heap.objs.size + 1) scope.names (cloFrom X.env.cells scope.names [])) fp
  have pg1 := hg1 s3 (upd H2 D (.lst [])) s3.heap.objs.size (cellsFrom (s3.heap.objs.size + 1) scope.names (cloFrom X.env.cells scope.names [])) fp
  have pt1 := ht1 s3 (upd H2 D (.lst [])) s3.heap.objs.size (cellsFrom (s3.heap.objs.size + 1) scope.names (cloFrom X.env.cells scope.names [])) fp
  have pi2 := hi2 s3 (upd H2 D (.lst [])) s3.heap.objs.size (cellsFrom (s3.heap.objs.size + 1) scope.names (cloFrom X.env.cells scope.names [])) fp
  have pg2 := hg2 s3 (upd H2 D (.lst [])) s3.heap.objs.size (cellsFrom (s3.heap.objs.size + 1) scope.names (cloFrom X.env.cells scope.names [])) fp
  have pt2 := ht2 s3 (upd H2 D (.lst [])) s3.heap.objs.size (cellsFrom (s3.heap.objs.size + 1) scope.names (cloFrom X.env.cells scope.names [])) fp
  show codeAny _ _ (.compStart (.ListComp elt [⟨tg, iter, ifs, 0⟩, ⟨tg1, iter1, ifs1, 0⟩, ⟨tg2, iter2, ifs2, 0⟩] scope pos) 0 (.ref it) (.ref D) (compEnvC scope (cellsFrom (s3.heap.objs.size + 1) scope.names (cloFrom X.env.cells scope.names [])) s3.heap.objs.size X.env)) (compPost (model X.prog X.w) X.A X.xe use Qf (.ref D) s3.heap.objs.size) { s3 with heap := pushCells (s3.heap.push { cls := .type "dict", data := .dict #[] }) scope.names }
  have nfp : ∀ b ∈ fp, (upd H2 D (.lst [])) b = none := fun b hb => (f3 b hb).1.1
  generalize hce : compEnvC scope (cellsFrom (s3.heap.objs.size + 1) scope.names (cloFrom X.env.cells scope.names [])) s3.heap.objs.size X.env = ce at I4 pg pt pe pi1 pg1 pt1 pi2 pg2 pt2 ⊢
  have cL : ce.locals = s3.heap.objs.size := by subst hce; rfl
  generalize hH3 : upd H2 D (.lst []) = H3 at I3 I4 pg pt pe pi1 pg1 pt1 pi2 pg2 pt2 w0 nfp f3
  generalize hs4 : ({ s3 with heap := pushCells (s3.heap.push { cls := .type "dict", data := .dict #[] }) scope.names } : Shared) = s4 at I4 ⊢
  have st4 : tn 0 s4.heap := T.keep _ _ _ st3 fun b _ o e => by rw [← hs4]; exact pushCells_keeps _ _ _ _ (Heap.get?_push_of_some _ e)
  have stat : ∀ {σ' : St} {H' : Hp} {s' : Shared}, Inv (X.blk s3 H3 scope ce fp) [] σ' H' s' → (∀ b ∈ fp, H' b = none) → ∀ b ∈ fp, FpOk (X.blk s3 H3 scope ce fp) [] H' b := fun {σ' H' s'} I' hn b hb =>
    ⟨hn b hb, (I'.ok.exf b hb).1, I'.ok.exfs b hb, .inl hb, fun x c e => (I'.ok.exf b hb).2 x c e, fun p hp => absurd (show p ∈ ([] : List (Addr × Obj)) ++ [] from hp) (by simp)⟩
  have loop : codeAny (model X.prog X.w) X.A (.compLoop (.ListComp elt [⟨tg, iter, ifs, 0⟩, ⟨tg1, iter1, ifs1, 0⟩, ⟨tg2, iter2, ifs2, 0⟩] scope pos) 0 (.ref it) (.ref D) ce) (compPost (model X.prog X.w) X.A X.xe use Qf (.ref D) s3.heap.objs.size) s4 := by
    refine compLoop3_out (hs1 ce) (fun n s' => ∃ i H', Inv (X.blk s3 H3 scope ce fp) [] (wipe σ (own.map (·.2))) H' s' ∧ tn i s'.heap ∧ (∀ b ∈ fp, H' b = none) ∧ W i n H') ?_ m0 ⟨0, H3, I4, st4, nfp, w0⟩
    rintro n s5 ⟨i, H5, I5, st5, n5, w5⟩
    rcases turn i n H5 w5 with ⟨stop, qq⟩ | ⟨go, Nx, hNx, step⟩
    · have td := T.done (X.blk s3 H3 scope ce fp) rfl rfl rfl hc i [] s5 _ H5 (fun _ _ => False) I5 (stat I5 n5) st5 stop
      refine thnF td fun r s6 ⟨hr, I6⟩ => ?_
      subst hr
      -- back in the def's context
      have I7 : Inv X pins σ H5 s6 := I3.call' (ch := fp) I6.os I6.base I6.hok I6.bare fun b hb => ⟨(f3 b hb).1.2.2.2.1, (f3 b hb).1.2.1, (f3 b hb).1.2.2.2.2.1, (f3 b hb).1.2.2.2.2.2⟩
      have nC : H5 s3.heap.objs.size = none := by
        have z : H5 ce.locals = none := I6.free
        rw [cL] at z
        exact z
      obtain ⟨m, hn, _⟩ := I6.loc
      have hn : s6.heap.Ns ce.locals m := hn
      rw [cL] at hn
      exact hRR D s3.heap.objs.size s6 m H5 I7 qq hn (I3.fpOk (Nat.le_refl _) nC)
    · have ti := T.item (X.blk s3 H3 scope ce fp) rfl rfl rfl hc i [] s5 _ H5 (fun _ _ => False) I5 (stat I5 n5) st5 go
      refine thnF ti fun r s6 ⟨u, hr, h6⟩ => ?_
      subst hr
      refine thnF h6 fun _ s7 ⟨x, H7, I7, r7, y7, st7, n7⟩ => ?_
      have I7' := I7.pinned (stat I7 n7) (T.obj _ _ st7)
      refine thnF (pg.run _ s7 _ H7 x u _ I7' r7 (step x H7 y7)) fun _ s8 ⟨σ8, H8, I8, hw8, q8⟩ => ?_
      refine thnF (pt.run _ s8 σ8 H8 _ I8 q8) fun b s9 ⟨H9, I9, q9⟩ => ?_
      -- the turn's end, from any slots that know what the block knew at its start
      have fin : ∀ {σ9 : St} {s' : Shared} {H' : Hp}, Inv (X.blk s3 H3 scope ce fp) ([] ++ pinsAt fp s7.heap) σ9 H' s' → (wipe σ (own.map (·.2))).length = σ9.length → (∀ (j : Nat) v, (wipe σ (own.map (·.2)))[j]? = some (some v) → σ9[j]? = some (some v)) → Nx H' →
          ∃ m, m < n ∧ ∃ i H', Inv (X.blk s3 H3 scope ce fp) [] (wipe σ (own.map (·.2))) H' s' ∧ tn i s'.heap ∧ (∀ b ∈ fp, H' b = none) ∧ W i m H' := fun {σ9 s' H'} I' hl hk nx => by
        obtain ⟨m', hm, w'⟩ := hNx H' nx
        have pin' : ∀ b ∈ fp, ∀ o, s7.heap.get? b = some o → s'.heap.get? b = some o ∧ H' b = none := fun b hb o e =>
          let z := I'.pin (b, o) (List.mem_append_right _ (List.mem_append_right _ (mem_pinsAt hb e)))
          ⟨z.1, z.2.1⟩
        refine ⟨m', hm, i + 1, H', (I'.unpinned (pins := [])).weak hl hk, T.keep _ _ _ st7 fun b hb o e => (pin' b hb o e).1, fun b hb => ?_, w'⟩
        obtain ⟨o, e, _⟩ := T.obj _ _ st7 b hb
        exact (pin' b hb o e).2
      have hl8 : (wipe σ (own.map (·.2))).length = σ8.length := by rw [← hw8, wipe_length]
      have hk8 : ∀ (j : Nat) v, (wipe σ (own.map (·.2)))[j]? = some (some v) → σ8[j]? = some (some v) := fun j v e => by
        rw [← hw8] at e
        exact (wipe_some e).1
      have hk9 : ∀ (j : Nat) v, (wipe σ (own.map (·.2)))[j]? = some (some v) → (wipe σ8 vs1)[j]? = some (some v) := fun j v e => by
        rw [← hw8] at e
        obtain ⟨e1, e2⟩ := wipe_some e
        rw [wipe_out fun z => e2 (hv j z)]
        exact e1
      cases b with
      | false =>
        simp only [Bool.false_eq_true, if_false] at q9 ⊢
        exact fin I9 hl8 hk8 q9
      | true =>
        simp only [if_true] at q9 ⊢
        refine thnF (pi1.run _ s9 σ8 H9 _ I9 q9) fun xv s10 hx => thnF hx fun itv s11 h11 => ?_
        obtain ⟨it1, fp1, tn1, J1, H11, e1, I11, T1, st11, f11, W1, ⟨m1, w1⟩, turn1⟩ := h11
        subst e1
        -- the inner loop
        have stat1 : ∀ {H' : Hp}, (∀ b ∈ fp1, H' b = none) → ∀ b ∈ fp1, FpOk (X.blk s3 H3 scope ce fp) ([] ++ pinsAt fp s7.heap) H' b := fun hn b hb => ⟨hn b hb, (f11 b hb).2⟩
        have loop1 : codeAny (model X.prog X.w) X.A (.compLoop (.ListComp elt [⟨tg, iter, ifs, 0⟩, ⟨tg1, iter1, ifs1, 0⟩, ⟨tg2, iter2, ifs2, 0⟩] scope pos) 1 (.ref it1) (.ref D) ce)
            (fun r s' => match r with
              | .ok _ => ∃ m, m < n ∧ ∃ i H', Inv (X.blk s3 H3 scope ce fp) [] (wipe σ (own.map (·.2))) H' s' ∧ tn i s'.heap ∧ (∀ b ∈ fp, H' b = none) ∧ W i m H'
              | .error _ => False) s11 := by
          refine compLoop3_mid (hs2 ce) (fun k s' => ∃ j H', Inv (X.blk s3 H3 scope ce fp) ([] ++ pinsAt fp s7.heap) (wipe σ8 vs1) H' s' ∧ tn1 j s'.heap ∧ (∀ b ∈ fp1, H' b = none) ∧ W1 j k H') ?_ m1 ⟨0, H11, I11.weak (wipe_length _ _) (fun j v e => (wipe_some e).1), st11, fun b hb => (f11 b hb).1, w1⟩
          rintro k s12 ⟨j, H12, I12, st12, n12, w12⟩
          rcases turn1 j k H12 w12 with ⟨stop1, nx1⟩ | ⟨go1, Nx1, hNx1, step1⟩
          · refine thnF (T1.done (X.blk s3 H3 scope ce fp) rfl rfl rfl hc j _ s12 (wipe σ8 vs1) H12 (fun _ _ => False) I12 (stat1 n12) st12 stop1) fun r s13 ⟨hr, I13⟩ => ?_
            subst hr
            exact fin I13 (hl8.trans (wipe_length σ8 vs1).symm) hk9 nx1
          · refine thnF (T1.item (X.blk s3 H3 scope ce fp) rfl rfl rfl hc j _ s12 (wipe σ8 vs1) H12 (fun _ _ => False) I12 (stat1 n12) st12 go1) fun r s13 ⟨u1, hr, h13⟩ => ?_
            subst hr
            refine thnF h13 fun _ s14 ⟨x1, H14, I14, r14, y14, st14, n14⟩ => ?_
            have I14' := I14.pinned (stat1 n14) (T1.obj _ _ st14)
            refine thnF (pg1.run _ s14 (wipe σ8 vs1) H14 x1 u1 _ I14' r14 (step1 x1 H14 y14)) fun _ s15 ⟨σ15, H15, I15, hw15, q15⟩ => ?_
            refine thnF (pt1.run _ s15 σ15 H15 _ I15 q15) fun b1 s16 ⟨H16, I16, q16⟩ => ?_
            have fin1 : ∀ {σ' : St} {s' : Shared} {H' : Hp}, Inv (X.blk s3 H3 scope ce fp) (([] ++ pinsAt fp s7.heap) ++ pinsAt fp1 s14.heap) σ' H' s' → (wipe σ8 vs1).length = σ'.length → (∀ (j : Nat) v, (wipe σ8 vs1)[j]? = some (some v) → σ'[j]? = some (some v)) → Nx1 H' → ∃ m, m < k ∧ ∃ j H', Inv (X.blk s3 H3 scope ce fp) ([] ++ pinsAt fp s7.heap) (wipe σ8 vs1) H' s' ∧ tn1 j s'.heap ∧ (∀ b ∈ fp1, H' b = none) ∧ W1 j m H' := fun {σ' s' H'} I' hl hk nx => by
              obtain ⟨m', hm, w'⟩ := hNx1 H' nx
              have pin' : ∀ b ∈ fp1, ∀ o, s14.heap.get? b = some o → s'.heap.get? b = some o ∧ H' b = none := fun b hb o e =>
                let z := I'.pin (b, o) (List.mem_append_right _ (List.mem_append_right _ (mem_pinsAt hb e)))
                ⟨z.1, z.2.1⟩
              refine ⟨m', hm, j + 1, H', I'.unpinned.weak hl hk, T1.keep _ _ _ st14 fun b hb o e => (pin' b hb o e).1, fun b hb => ?_, w'⟩
              obtain ⟨o, e, _⟩ := T1.obj _ _ st14 b hb
              exact (pin' b hb o e).2
            have hl15 : (wipe σ8 vs1).length = σ15.length := by rw [← hw15, wipe_length]
            have hk15 : ∀ (j : Nat) v, (wipe σ8 vs1)[j]? = some (some v) → σ15[j]? = some (some v) := fun j v e => by
              rw [← hw15] at e
              exact (wipe_some e).1
            have hk16 : ∀ (j : Nat) v, (wipe σ8 vs1)[j]? = some (some v) → (wipe σ15 vs2)[j]? = some (some v) := fun j v e => by
              rw [← hw15] at e
              obtain ⟨e1, e2⟩ := wipe_some e
              rw [wipe_out fun z => e2 (hv2 j z)]
              exact e1
            cases b1 with
            | false =>
              simp only [Bool.false_eq_true, if_false] at q16 ⊢
              exact fin1 I16 hl15 hk15 q16
            | true =>
              simp only [if_true] at q16 ⊢
              refine thnF (pi2.run _ s16 σ15 H16 _ I16 q16) fun xv s20 hx => thnF hx fun itv s21 h21 => ?_
              obtain ⟨it2, fp2, tn2, J2, H21, e2, I21, T2, st21, f21, W2, ⟨m2, w2⟩, turn2⟩ := h21
              subst e2
              have stat2 : ∀ {H' : Hp}, (∀ b ∈ fp2, H' b = none) → ∀ b ∈ fp2, FpOk (X.blk s3 H3 scope ce fp) (([] ++ pinsAt fp s7.heap) ++ pinsAt fp1 s14.heap) H' b := fun hn b hb => ⟨hn b hb, (f21 b hb).2⟩
              have loop2 : codeAny (model X.prog X.w) X.A (.compLoop (.ListComp elt [⟨tg, iter, ifs, 0⟩, ⟨tg1, iter1, ifs1, 0⟩, ⟨tg2, iter2, ifs2, 0⟩] scope pos) 2 (.ref it2) (.ref D) ce)
                  (fun r s' => match r with
                    | .ok _ => ∃ m, m < k ∧ ∃ j H', Inv (X.blk s3 H3 scope ce fp) ([] ++ pinsAt fp s7.heap) (wipe σ8 vs1) H' s' ∧ tn1 j s'.heap ∧ (∀ b ∈ fp1, H' b = none) ∧ W1 j m H'
                    | .error _ => False) s21 := by
                refine compLoop3_in (fun k s' => ∃ j H', Inv (X.blk s3 H3 scope ce fp) (([] ++ pinsAt fp s7.heap) ++ pinsAt fp1 s14.heap) (wipe σ15 vs2) H' s' ∧ tn2 j s'.heap ∧ (∀ b ∈ fp2, H' b = none) ∧ W2 j k H') ?_ m2 ⟨0, H21, I21.weak (wipe_length _ _) (fun j v e => (wipe_some e).1), st21, fun b hb => (f21 b hb).1, w2⟩
                rintro k2 s22 ⟨j2, H22, I22, st22, n22, w22⟩
                rcases turn2 j2 k2 H22 w22 with ⟨stop2, nx2⟩ | ⟨go2, Nx2, hNx2, step2⟩
                · refine thnF (T2.done (X.blk s3 H3 scope ce fp) rfl rfl rfl hc j2 _ s22 (wipe σ15 vs2) H22 (fun _ _ => False) I22 (stat2 n22) st22 stop2) fun r s23 ⟨hr, I23⟩ => ?_
                  subst hr
                  exact fin1 I23 (hl15.trans (wipe_length σ15 vs2).symm) hk16 nx2
                · refine thnF (T2.item (X.blk s3 H3 scope ce fp) rfl rfl rfl hc j2 _ s22 (wipe σ15 vs2) H22 (fun _ _ => False) I22 (stat2 n22) st22 go2) fun r s23 ⟨u2, hr, h23⟩ => ?_
                  subst hr
                  refine thnF h23 fun _ s24 ⟨x2, H24, I24, r24, y24, st24, n24⟩ => ?_
                  have I24' := I24.pinned (stat2 n24) (T2.obj _ _ st24)
                  refine thnF (pg2.run _ s24 (wipe σ15 vs2) H24 x2 u2 _ I24' r24 (step2 x2 H24 y24)) fun _ s25 ⟨σ25, H25, I25, hw25, q25⟩ => ?_
                  refine thnF (pt2.run _ s25 σ25 H25 _ I25 q25) fun b2 s26 ⟨H26, I26, q26⟩ => ?_
                  have fin2 : ∀ {s' : Shared} {H' : Hp}, Inv (X.blk s3 H3 scope ce fp) ((([] ++ pinsAt fp s7.heap) ++ pinsAt fp1 s14.heap) ++ pinsAt fp2 s24.heap) σ25 H' s' → Nx2 H' → ∃ m, m < k2 ∧ ∃ j H', Inv (X.blk s3 H3 scope ce fp) (([] ++ pinsAt fp s7.heap) ++ pinsAt fp1 s14.heap) (wipe σ15 vs2) H' s' ∧ tn2 j s'.heap ∧ (∀ b ∈ fp2, H' b = none) ∧ W2 j m H' := fun {s' H'} I' nx => by
                    obtain ⟨m', hm, w'⟩ := hNx2 H' nx
                    have pin' : ∀ b ∈ fp2, ∀ o, s24.heap.get? b = some o → s'.heap.get? b = some o ∧ H' b = none := fun b hb o e =>
                      let z := I'.pin (b, o) (List.mem_append_right _ (List.mem_append_right _ (mem_pinsAt hb e)))
                      ⟨z.1, z.2.1⟩
                    refine ⟨m', hm, j2 + 1, H', I'.unpinned.weak (by rw [← hw25, wipe_length]) (fun j v e => by rw [← hw25] at e; exact (wipe_some e).1), T2.keep _ _ _ st24 fun b hb o e => (pin' b hb o e).1, fun b hb => ?_, w'⟩
                    obtain ⟨o, e, _⟩ := T2.obj _ _ st24 b hb
                    exact (pin' b hb o e).2
                  cases b2 with
                  | false =>
                    simp only [Bool.false_eq_true, if_false] at q26 ⊢
                    exact fin2 I26 q26
                  | true =>
                    simp only [if_true] at q26 ⊢
                    refine thnF (pe.run _ s26 σ25 H26 _ I26 q26) fun z s27 ⟨yv, H27, I27, r27, acc, hD27, hz27, nx⟩ => ?_
                    exact app_ok (X := X.blk s3 H3 scope ce fp) I27 hD27 hz27 r27 fun s28 I28 => fin2 I28 nx
              exact comp3Start2_ok loop2 (T2.self X.A 0 _ _ _ st21 loop2)
        exact comp3Start1_ok loop1 (T1.self X.A 0 _ _ _ st11 loop1)
  exact codeAny_compStart_list loop (T.self X.A 0 _ _ _ st4 loop)
theorem pe_lc3 {elt tg iter tg1 iter1 tg2 iter2 : Expr} {ifs ifs1 ifs2 : List Expr} {scope : Scope} {own : List (Str × Nat)} {vs1 vs2 : List Nat} {pos : Pos} {wi wi1 wi2 : TI} {g g1 g2 : TG} {tt tt1 tt2 : TT} {te : TE} (hc : X.calm = true) (hN : X.N.Nodup) (hi : PI X tg iter wi) (ok : BlkOk X.N X.env.scope scope own) (hv : ∀ i ∈ vs1, i ∈ own.map (·.2)) (hv2 : ∀ i ∈ vs2, i ∈ vs1)
    (hg : ∀ (s : Shared) (H : Hp) (C : Addr) (cl : List (Str × Addr)) (fp : List Addr), PG (X.blk s H scope (compEnvC scope cl C X.env) fp) tg g) (ht : ∀ (s : Shared) (H : Hp) (C : Addr) (cl : List (Str × Addr)) (fp : List Addr), PTs (X.blk s H scope (compEnvC scope cl C X.env) fp) ifs tt)
    (hi1 : ∀ (s : Shared) (H : Hp) (C : Addr) (cl : List (Str × Addr)) (fp : List Addr), PI (X.blk s H scope (compEnvC scope cl C X.env) fp) tg1 iter1 wi1)
    (hg1 : ∀ (s : Shared) (H : Hp) (C : Addr) (cl : List (Str × Addr)) (fp : List Addr), PG (X.blk s H scope (compEnvC scope cl C X.env) fp) tg1 g1) (ht1 : ∀ (s : Shared) (H : Hp) (C : Addr) (cl : List (Str × Addr)) (fp : List Addr), PTs (X.blk s H scope (compEnvC scope cl C X.env) fp) ifs1 tt1)
    (hi2 : ∀ (s : Shared) (H : Hp) (C : Addr) (cl : List (Str × Addr)) (fp : List Addr), PI (X.blk s H scope (compEnvC scope cl C X.env) fp) tg2 iter2 wi2)
    (hg2 : ∀ (s : Shared) (H : Hp) (C : Addr) (cl : List (Str × Addr)) (fp : List Addr), PG (X.blk s H scope (compEnvC scope cl C X.env) fp) tg2 g2) (ht2 : ∀ (s : Shared) (H : Hp) (C : Addr) (cl : List (Str × Addr)) (fp : List Addr), PTs (X.blk s H scope (compEnvC scope cl C X.env) fp) ifs2 tt2)
    (he : ∀ (s : Shared) (H : Hp) (C : Addr) (cl : List (Str × Addr)) (fp : List Addr), PE (X.blk s H scope (compEnvC scope cl C X.env) fp) elt te) (hs : ∀ x, foldedSetIterable iter X.env x = pure x := by intro _; rfl) (hs1 : ∀ env x, foldedSetIterable iter1 env x = pure x := by intro _ _; rfl) (hs2 : ∀ env x, foldedSetIterable iter2 env x = pure x := by intro _ _; rfl) :
    PE X (.ListComp elt [⟨tg, iter, ifs, 0⟩, ⟨tg1, iter1, ifs1, 0⟩, ⟨tg2, iter2, ifs2, 0⟩] scope pos) (tLc3 wi g tt wi1 g1 tt1 wi2 g2 tt2 te (own.map (·.2)) vs1 vs2) := by
  refine ⟨fun pins s σ H Q I h => ?_⟩
  rw [eval_ListComp]
  refine lc3_core hc hN I hi ok hv hv2 hg ht he hs hi1 hg1 ht1 hi2 hg2 ht2 hs1 hs2 h fun D C s' m H' I' q hn f => ⟨m, hn, fun h'' sb => ?_⟩
  obtain ⟨f0, f1, f2, f3, f4, f5⟩ := f
  exact ⟨.ref D, H', I'.turned (t' := s'.toks) (fun b o hb e => (sb.2 b hb).trans e) f0 f1 f3 f4 f5, rfl, q⟩
end
end L2
set_option Elab.async false
set_option linter.all false
set_option maxRecDepth 100000
set_option maxHeartbeats 4000000
/-! what a value stands for, told beside things of the def's own that change -/
namespace RP
open PySem PySem.Spec PyProof.Rows L2 Evl Gen
structure Rp (α : Type) where
  p : α → V → Hp → Prop
  m : ∀ {a : α} {v : V} {H H' : Hp}, Ex H H' → p a v H → p a v H'
/-- all but the own things -/
def Rm (ps : List Addr) (H : Hp) : Hp := fun b => if b ∈ ps then none else H b
def Own (ps : List Addr) (H : Hp) : Prop := ∀ p ∈ ps, ∃ o, H p = some o ∧ ∀ xs, o ≠ .tup xs
section
variable {ps : List Addr} {H H' H1 : Hp} {p q : Addr} {o u : HO}
theorem Rm_ex : Ex (Rm ps H) H := fun b o h => by
  unfold Rm at h
  split at h
  · cases h
  · exact h
theorem Rm_mono (e : Ex H H') : Ex (Rm ps H) (Rm ps H') := fun b o h => by
  unfold Rm at h ⊢
  split at h
  · cases h
  · rename_i hb
    rw [if_neg hb]
    exact e b o h
theorem Rm_get (h : H p = some o) (n : p ∉ ps) : Rm ps H p = some o := by
  unfold Rm
  rw [if_neg n]
  exact h
theorem Rm_none (h : H p = none) : Rm ps H p = none := by
  unfold Rm
  split
  · rfl
  · exact h
theorem Rm_own (h : p ∈ ps) : Rm ps H p = none := by
  unfold Rm
  rw [if_pos h]
theorem Own.ex (h : Own ps H) (e : Ex H H') : Own ps H' := fun p hp => let ⟨o, ho, hn⟩ := h p hp; ⟨o, e _ _ ho, hn⟩
theorem Own.nin (h : Own ps H) (hp : H p = none) : p ∉ ps := fun m => by
  obtain ⟨o, ho, _⟩ := h p m
  rw [hp] at ho
  cases ho
/-- a store to an own thing -/
theorem Rm_upd (h : p ∈ ps) : Rm ps (upd H p o) = Rm ps H := by
  funext b
  unfold Rm
  split
  · rfl
  · rename_i hb
    rw [upd_ne (fun z => hb (by rw [z]; exact h))]
theorem Own.upd (h : Own ps H) (hn : ∀ xs, o ≠ .tup xs := by intro _ z; cases z) : Own ps (upd H p o) := fun q hq => by
  by_cases z : q = p
  · subst z
    exact ⟨o, upd_same, hn⟩
  · obtain ⟨u, hu, h2⟩ := h q hq
    exact ⟨u, by rw [upd_ne z]; exact hu, h2⟩
/-- tuples are never own things -/
theorem Own.tup (h : Own ps H) {xs : List V} (hp : H p = some (.tup xs)) : p ∉ ps := fun m => by
  obtain ⟨o, ho, hn⟩ := h p m
  rw [hp] at ho
  cases ho
  exact hn _ rfl
/-- one thing more is the def's own -/
theorem Rm_push (h : Rm ps H p = none) : Ex (Rm ps H) (Rm (p :: ps) H) := fun b o hb => by
  have n : b ≠ p := fun z => by rw [z, h] at hb; cases hb
  have hb' := hb
  unfold Rm at hb ⊢
  split at hb
  · cases hb
  · rename_i m
    rw [if_neg (fun z => (List.mem_cons.mp z).elim n m)]
    exact hb
theorem Rm_pop : Ex (Rm (p :: ps) H) (Rm ps H) := fun b o hb => by
  unfold Rm at hb ⊢
  split at hb
  · cases hb
  · rename_i m
    rw [if_neg (fun z => m (List.mem_cons_of_mem _ z))]
    exact hb
theorem Own.push (h : Own ps H) (hp : H p = some o) (hn : ∀ xs, o ≠ .tup xs := by intro _ z; cases z) : Own (p :: ps) H := fun q hq => by
  rcases List.mem_cons.mp hq with rfl | hq
  · exact ⟨o, hp, hn⟩
  · exact h q hq
theorem Own.pop (h : Own (p :: ps) H) : Own ps H := fun q hq => h q (List.mem_cons_of_mem _ hq)
theorem Rm_nil : Rm [] H = H := by
  funext b
  unfold Rm
  rw [if_neg (List.not_mem_nil)]
end
/-! ### what values stand for -/
def All2 {α : Type} (R : α → V → Prop) : List α → List V → Prop
  | [], [] => True
  | a :: as, v :: vs => R a v ∧ All2 R as vs
  | _, _ => False
section
variable {α β : Type} {R S : α → V → Prop}
theorem All2.imp (h : ∀ a v, R a v → S a v) : ∀ {as : List α} {vs : List V}, All2 R as vs → All2 S as vs
  | [], [], _ => trivial
  | _ :: _, _ :: _, q => ⟨h _ _ q.1, All2.imp h q.2⟩
  | [], _ :: _, q => q.elim
  | _ :: _, [], q => q.elim
theorem All2.len : ∀ {as : List α} {vs : List V}, All2 R as vs → as.length = vs.length
  | [], [], _ => rfl
  | _ :: _, _ :: _, q => congrArg Nat.succ (All2.len q.2)
  | [], _ :: _, q => q.elim
  | _ :: _, [], q => q.elim
theorem All2.get : ∀ {as : List α} {vs : List V} {i : Nat} {a : α}, All2 R as vs → as[i]? = some a → ∃ v, vs[i]? = some v ∧ R a v
  | _ :: _, v :: _, 0, _, q, h => by cases h; exact ⟨v, rfl, q.1⟩
  | _ :: as, _ :: vs, i + 1, _, q, h => All2.get (as := as) (vs := vs) (i := i) q.2 h
  | [], _ :: _, _, _, q, _ => q.elim
  | _ :: _, [], _, _, q, _ => q.elim
  | [], [], _, _, _, h => by cases h
theorem All2.getv : ∀ {as : List α} {vs : List V} {i : Nat} {v : V}, All2 R as vs → vs[i]? = some v → ∃ a, as[i]? = some a ∧ R a v
  | a :: _, _ :: _, 0, _, q, h => by cases h; exact ⟨a, rfl, q.1⟩
  | _ :: as, _ :: vs, i + 1, _, q, h => All2.getv (as := as) (vs := vs) (i := i) q.2 h
  | [], _ :: _, _, _, q, _ => q.elim
  | _ :: _, [], _, _, q, _ => q.elim
  | [], [], _, _, _, h => by cases h
theorem All2.app {bs : List α} {ws : List V} : ∀ {as : List α} {vs : List V}, All2 R as vs → All2 R bs ws → All2 R (as ++ bs) (vs ++ ws)
  | [], [], _, h => h
  | _ :: _, _ :: _, q, h => ⟨q.1, All2.app q.2 h⟩
  | [], _ :: _, q, _ => q.elim
  | _ :: _, [], q, _ => q.elim
theorem All2.one {a : α} {v : V} (h : R a v) : All2 R [a] [v] := ⟨h, trivial⟩
theorem All2.drop : ∀ {n : Nat} {as : List α} {vs : List V}, All2 R as vs → All2 R (as.drop n) (vs.drop n)
  | 0, _, _, q => q
  | n + 1, [], [], _ => trivial
  | n + 1, _ :: as, _ :: vs, q => All2.drop (n := n) (as := as) (vs := vs) q.2
  | _ + 1, [], _ :: _, q => q.elim
  | _ + 1, _ :: _, [], q => q.elim
theorem All2.take : ∀ {n : Nat} {as : List α} {vs : List V}, All2 R as vs → All2 R (as.take n) (vs.take n)
  | 0, _, _, _ => trivial
  | n + 1, [], [], _ => trivial
  | n + 1, _ :: as, _ :: vs, q => ⟨q.1, All2.take (n := n) (as := as) (vs := vs) q.2⟩
  | _ + 1, [], _ :: _, q => q.elim
  | _ + 1, _ :: _, [], q => q.elim
theorem All2.rev : ∀ {as : List α} {vs : List V}, All2 R as vs → All2 R as.reverse vs.reverse
  | [], [], _ => trivial
  | _ :: _, _ :: _, q => by
    rw [List.reverse_cons, List.reverse_cons]
    exact All2.app (All2.rev q.2) (.one q.1)
  | [], _ :: _, q => q.elim
  | _ :: _, [], q => q.elim
theorem All2.eraseIdx : ∀ {n : Nat} {as : List α} {vs : List V}, All2 R as vs → All2 R (as.eraseIdx n) (vs.eraseIdx n)
  | _, [], [], _ => trivial
  | 0, _ :: _, _ :: _, q => q.2
  | n + 1, _ :: as, _ :: vs, q => ⟨q.1, All2.eraseIdx (n := n) (as := as) (vs := vs) q.2⟩
  | _, [], _ :: _, q => q.elim
  | _, _ :: _, [], q => q.elim
theorem All2.map {f : α → V} : ∀ {as : List α}, (∀ a ∈ as, R a (f a)) → All2 R as (as.map f)
  | [], _ => trivial
  | a :: as, h => ⟨h a (List.mem_cons_self ..), All2.map fun b hb => h b (List.mem_cons_of_mem _ hb)⟩
theorem All2.eq {f : α → V} : ∀ {as : List α} {vs : List V}, All2 (fun a v => v = f a) as vs → vs = as.map f
  | [], [], _ => rfl
  | a :: as, v :: vs, q => by rw [List.map_cons, q.1, All2.eq q.2]
  | [], _ :: _, q => q.elim
  | _ :: _, [], q => q.elim
end
def rI : Rp Int := ⟨fun i v _ => v = .int i, fun _ h => h⟩
def rB : Rp Bool := ⟨fun b v _ => v = .bl b, fun _ h => h⟩
def rS : Rp Str := ⟨fun s v _ => v = .str s, fun _ h => h⟩
def rU : Rp Unit := ⟨fun _ v _ => v = .non, fun _ h => h⟩
def rN : Rp Nat := ⟨fun n v _ => v = .int (n : Int), fun _ h => h⟩
/-- a list -/
def rL {α : Type} (R : Rp α) : Rp (List α) := ⟨fun as v H => ∃ a vs, v = .ref a ∧ H a = some (.lst vs) ∧ All2 (fun x y => R.p x y H) as vs,
  fun e ⟨a, vs, h1, h2, h3⟩ => ⟨a, vs, h1, e _ _ h2, h3.imp fun _ _ q => R.m e q⟩⟩
/-- a list or a tuple -/
def rQ {α : Type} (K : PySem.W.Frag) (R : Rp α) : Rp (List α) := ⟨fun as v H => ∃ a vs, v = .ref a ∧ Sq K H a vs ∧ All2 (fun x y => R.p x y H) as vs,
  fun e ⟨a, vs, h1, h2, h3⟩ => ⟨a, vs, h1, ex_s e h2, h3.imp fun _ _ q => R.m e q⟩⟩
/-- a tuple of two -/
def rP {α β : Type} (R : Rp α) (S : Rp β) : Rp (α × β) := ⟨fun x v H => ∃ a y z, v = .ref a ∧ H a = some (.tup [y, z]) ∧ R.p x.1 y H ∧ S.p x.2 z H,
  fun e ⟨a, y, z, h1, h2, h3, h4⟩ => ⟨a, y, z, h1, e _ _ h2, R.m e h3, S.m e h4⟩⟩
abbrev rE : Rp (Str × Str) := rP rS rS
theorem rL_q {α : Type} {K : PySem.W.Frag} {R : Rp α} {as : List α} {v : V} {H : Hp} (h : (rL R).p as v H) : (rQ K R).p as v H := let ⟨a, vs, h1, h2, h3⟩ := h; ⟨a, vs, h1, .inl (sq_of h2), h3⟩
/-! ### what evaluates to what -/
def EvR {α : Type} (R : Rp α) (ps : List Addr) (te : TE) (σ : L2.St) (H : Hp) (a : α) : Prop := ∀ H1, Ex H H1 → Own ps H1 → ∀ Q : VK, (∀ v H2, Ex H1 H2 → R.p a v (Rm ps H2) → Q v H2) → te σ H1 Q
def EtR (ps : List Addr) (tt : TT) (σ : L2.St) (H : Hp) (b : Bool) : Prop := ∀ H1, Ex H H1 → Own ps H1 → ∀ Q : Bool → Hp → Prop, (∀ H2, Ex H1 H2 → Q b H2) → tt σ H1 Q
/-- arguments, all told alike; two; three -/
def EaR {α : Type} (R : Rp α) (ps : List Addr) (ta : TA) (σ : L2.St) (H : Hp) (as : List α) : Prop := ∀ H1, Ex H H1 → Own ps H1 → ∀ Q : List V → Hp → Prop, (∀ vs H2, Ex H1 H2 → All2 (fun x y => R.p x y (Rm ps H2)) as vs → Q vs H2) → ta σ H1 Q
section
variable {α β γ : Type} {R : Rp α} {S : Rp β} {T : Rp γ} {K : PySem.W.Frag} {ps : List Addr} {σ : L2.St} {H H' : Hp} {ta tb tc te tl : TE} {tr : TA} {t u : TT} {v w : V} {a : α} {b : β} {c : γ}
theorem EvR.mono (e : Ex H H') (h : EvR R ps te σ H a) : EvR R ps te σ H' a := fun H1 e1 => h H1 (e.trans e1)
theorem EtR.mono {x : Bool} (e : Ex H H') (h : EtR ps t σ H x) : EtR ps t σ H' x := fun H1 e1 => h H1 (e.trans e1)
theorem er_of (h : Ev te σ H v) (r : R.p a v (Rm ps H)) : EvR R ps te σ H a := fun H1 e o Q q => h H1 e Q fun H2 e2 => q v H2 e2 (R.m (Rm_mono (e.trans e2)) r)
theorem er_var {i : Nat} (h : σ[i]? = some (some v)) (r : R.p a v (Rm ps H)) : EvR R ps (tVar i) σ H a := er_of (ev_var h) r
theorem er_I {i : Int} (h : Ev te σ H (.int i)) : EvR rI ps te σ H i := er_of h rfl
theorem er_S {s : Str} (h : Ev te σ H (.str s)) : EvR rS ps te σ H s := er_of h rfl
theorem er_B {x : Bool} (h : Ev te σ H (.bl x)) : EvR rB ps te σ H x := er_of h rfl
/-- a value that hangs on nothing -/
theorem ev_of (o : Own ps H) (h : EvR R ps te σ H a) (r : ∀ w H1, R.p a w H1 → w = v) : Ev te σ H v := fun H1 e Q q => h H1 e (o.ex e) Q fun w H2 e2 hw => by
  rw [r w _ hw]
  exact q H2 e2
theorem ev_I {i : Int} (o : Own ps H) (h : EvR rI ps te σ H i) : Ev te σ H (.int i) := ev_of o h fun _ _ z => z
theorem ev_S {s : Str} (o : Own ps H) (h : EvR rS ps te σ H s) : Ev te σ H (.str s) := ev_of o h fun _ _ z => z
theorem ev_B {x : Bool} (o : Own ps H) (h : EvR rB ps te σ H x) : Ev te σ H (.bl x) := ev_of o h fun _ _ z => z
theorem et_of {x : Bool} (h : EvT t σ H x) : EtR ps t σ H x := fun H1 e _ => h H1 e
theorem evt_of {x : Bool} (o : Own ps H) (h : EtR ps t σ H x) : EvT t σ H x := fun H1 e => h H1 e (o.ex e)
theorem er_is {a' : α} (h : EvR R ps te σ H a) (e : a = a') : EvR R ps te σ H a' := e ▸ h
theorem er_imp {S : Rp α} (h : EvR R ps te σ H a) (k : ∀ v H1, R.p a v H1 → S.p a v H1) : EvR S ps te σ H a := fun H1 e o Q q => h H1 e o Q fun v H2 e2 r => q v H2 e2 (k _ _ r)
theorem er_impG {S : Rp β} (h : EvR R ps te σ H a) (k : ∀ v H1, R.p a v H1 → S.p b v H1) : EvR S ps te σ H b := fun H1 e o Q q => h H1 e o Q fun v H2 e2 r => q v H2 e2 (k _ _ r)
theorem et_B' {x : Bool} (h : EvR rB ps te σ H x) : EtR ps (tB te) σ H x := fun H1 e o Q q => h H1 e o _ fun v H2 e2 r => ⟨x, r, q H2 e2⟩
theorem et_test' {x : Bool} (h : EvR rB ps te σ H x) : EtR ps (tTest te) σ H x := fun H1 e o Q q => h H1 e o _ fun v H2 e2 r => ⟨x, r, q H2 e2⟩
theorem et_not' {x : Bool} (h : EtR ps t σ H x) : EtR ps (tNot t) σ H (!x) := fun H1 e o Q q => h H1 e o _ fun H2 e2 => q H2 e2
theorem et_or' {x y : Bool} (h1 : EtR ps t σ H x) (h2 : x = false → EtR ps u σ H y) : EtR ps (tOr t u) σ H (x || y) := fun H1 e o Q q => h1 H1 e o _ fun H2 e2 => by
  cases x with
  | true =>
    show Q true H2
    exact q H2 e2
  | false =>
    show u σ H2 Q
    exact h2 rfl H2 (e.trans e2) (o.ex e2) Q fun H3 e3 => q H3 (e2.trans e3)
theorem et_and' {x y : Bool} (h1 : EtR ps t σ H x) (h2 : x = true → EtR ps u σ H y) : EtR ps (tAnd t u) σ H (x && y) := fun H1 e o Q q => h1 H1 e o _ fun H2 e2 => by
  cases x with
  | true =>
    show u σ H2 Q
    exact h2 rfl H2 (e.trans e2) (o.ex e2) Q fun H3 e3 => q H3 (e2.trans e3)
  | false =>
    show Q false H2
    exact q H2 e2
theorem et_is' {x y : Bool} (h : EtR ps t σ H x) (e : x = y) : EtR ps t σ H y := e ▸ h
theorem er_notV {x : Bool} (h : EvR rB ps ta σ H x) : EvR rB ps (tNotV ta) σ H (!x) := fun H1 e o Q q => h H1 e o _ fun v H2 e2 r => ⟨x, r, q _ H2 e2 rfl⟩
theorem er_andV {x y : Bool} (h1 : EvR rB ps ta σ H x) (h2 : x = true → EvR rB ps tb σ H y) : EvR rB ps (tAndV ta tb) σ H (x && y) := fun H1 e o Q q => h1 H1 e o _ fun v H2 e2 r => ⟨x, r, by
  cases x with
  | true =>
    show tb σ H2 Q
    exact h2 rfl H2 (e.trans e2) (o.ex e2) Q fun v H3 e3 r3 => q v H3 (e2.trans e3) r3
  | false =>
    show Q (.bl false) H2
    exact q _ H2 e2 rfl⟩
theorem er_orV {x y : Bool} (h1 : EvR rB ps ta σ H x) (h2 : x = false → EvR rB ps tb σ H y) : EvR rB ps (tOrV ta tb) σ H (x || y) := fun H1 e o Q q => h1 H1 e o _ fun v H2 e2 r => ⟨x, r, by
  cases x with
  | true =>
    show Q (.bl true) H2
    exact q _ H2 e2 rfl
  | false =>
    show tb σ H2 Q
    exact h2 rfl H2 (e.trans e2) (o.ex e2) Q fun v H3 e3 r3 => q v H3 (e2.trans e3) r3⟩
theorem er_ifexp {x : Bool} (h : EtR ps t σ H x) (h1 : x = true → EvR R ps ta σ H a) (h2 : x = false → EvR R ps tb σ H a) : EvR R ps (tIf t ta tb) σ H a := fun H1 e o Q q => h H1 e o _ fun H2 e2 => by
  cases x with
  | true =>
    show ta σ H2 Q
    exact h1 rfl H2 (e.trans e2) (o.ex e2) Q fun v H3 e3 r3 => q v H3 (e2.trans e3) r3
  | false =>
    show tb σ H2 Q
    exact h2 rfl H2 (e.trans e2) (o.ex e2) Q fun v H3 e3 r3 => q v H3 (e2.trans e3) r3
theorem eas_nil : EaR R ps tNil σ H [] := fun H1 _ _ Q q => q [] H1 (Ex.refl _) trivial
theorem eas_cons {as : List α} (h : EvR R ps te σ H a) (hr : EaR R ps tr σ H as) : EaR R ps (tCons te tr) σ H (a :: as) := fun H1 e o Q q =>
  h H1 e o _ fun v H2 e2 r => hr H2 (e.trans e2) (o.ex e2) _ fun vs H3 e3 rs => q (v :: vs) H3 (e2.trans e3) ⟨R.m (Rm_mono e3) r, rs⟩
/-- a display -/
theorem er_lst {as : List α} {tr : TA} (h : EaR R ps tr σ H as) (hl : as.length ≤ 100000) : EvR (rL R) ps (tLst tr) σ H as := fun H1 e o Q q =>
  h H1 e o _ fun vs H2 e2 rs => ⟨sz_of (by rw [← rs.len]; exact hl), fun p hp => q _ _ (e2.trans (Ex.new hp)) ⟨p, vs, rfl, Rm_get upd_same ((o.ex e2).nin hp), rs.imp fun _ _ r => R.m (Rm_mono (Ex.new hp)) r⟩⟩
theorem er_tup (ha : EvR R ps ta σ H a) (hb : EvR S ps tb σ H b) : EvR (rP R S) ps (tTup (tCons ta (tCons tb tNil))) σ H (a, b) := fun H1 e o Q q =>
  ha H1 e o _ fun v H2 e2 r => hb H2 (e.trans e2) (o.ex e2) _ fun w H3 e3 s => ⟨sz_of (by show 2 ≤ 100000; decide), fun p hp => q _ _ ((e2.trans e3).trans (Ex.new hp))
    ⟨p, v, w, rfl, Rm_get upd_same ((o.ex (e2.trans e3)).nin hp), R.m (Rm_mono (e3.trans (Ex.new hp))) r, S.m (Rm_mono (Ex.new hp)) s⟩⟩
/-- a call by values -/
theorem er_cb {r : List V → Hp → VK → Prop} {as : List α} (h : EaR R ps tr σ H as) (hr : ∀ vs H1, Ex H H1 → Own ps H1 → All2 (fun x y => R.p x y (Rm ps H1)) as vs → ∀ Q : VK, (∀ v H2, Ex H1 H2 → S.p b v (Rm ps H2) → Q v H2) → r vs H1 Q) : EvR S ps (tCB r tr) σ H b := fun H1 e o Q q =>
  h H1 e o _ fun vs H2 e2 rs => hr vs H2 (e.trans e2) (o.ex e2) rs Q fun v H3 e3 s => q v H3 (e2.trans e3) s
theorem er_cb1 {r : List V → Hp → VK → Prop} (h : EvR R ps ta σ H a) (hr : ∀ v H1, Ex H H1 → Own ps H1 → R.p a v (Rm ps H1) → ∀ Q : VK, (∀ w H2, Ex H1 H2 → S.p b w (Rm ps H2) → Q w H2) → r [v] H1 Q) : EvR S ps (tCB r (tCons ta tNil)) σ H b := fun H1 e o Q q =>
  h H1 e o _ fun v H2 e2 rv => hr v H2 (e.trans e2) (o.ex e2) rv Q fun w H3 e3 s => q w H3 (e2.trans e3) s
theorem er_op {r : R2} (ha : EvR R ps ta σ H a) (hb : EvR S ps tb σ H b) (hr : ∀ v w H1, Ex H H1 → Own ps H1 → R.p a v (Rm ps H1) → S.p b w (Rm ps H1) → ∀ Q : VK, (∀ z H2, Ex H1 H2 → T.p c z (Rm ps H2) → Q z H2) → r v w H1 Q) : EvR T ps (tOp r ta tb) σ H c := fun H1 e o Q q =>
  ha H1 e o _ fun v H2 e2 rv => hb H2 (e.trans e2) (o.ex e2) _ fun w H3 e3 sw => hr v w H3 ((e.trans e2).trans e3) (o.ex (e2.trans e3)) (R.m (Rm_mono e3) rv) sw Q fun z H4 e4 tz => q z H4 ((e2.trans e3).trans e4) tz
theorem er_un {r : V → Hp → VK → Prop} (ha : EvR R ps ta σ H a) (hr : ∀ v H1, Ex H H1 → Own ps H1 → R.p a v (Rm ps H1) → ∀ Q : VK, (∀ z H2, Ex H1 H2 → T.p c z (Rm ps H2) → Q z H2) → r v H1 Q) : EvR T ps (tUn r ta) σ H c := fun H1 e o Q q =>
  ha H1 e o _ fun v H2 e2 rv => hr v H2 (e.trans e2) (o.ex e2) rv Q fun z H3 e3 tz => q z H3 (e2.trans e3) tz
/-- promises: of one thing, of two, of three -/
def Sp1 (R : Rp α) (T : Rp γ) (f : α → γ) (C : α → Prop) : Sp := fun vs H Q _ => ∃ ps v a, vs = [v] ∧ Own ps H ∧ R.p a v (Rm ps H) ∧ C a ∧ ∀ w H', Ex H H' → T.p (f a) w (Rm ps H') → Q w H'
def Sp2 (R : Rp α) (S : Rp β) (T : Rp γ) (f : α → β → γ) (C : α → β → Prop) : Sp := fun vs H Q _ => ∃ ps v w a b, vs = [v, w] ∧ Own ps H ∧ R.p a v (Rm ps H) ∧ S.p b w (Rm ps H) ∧ C a b ∧ ∀ z H', Ex H H' → T.p (f a b) z (Rm ps H') → Q z H'
def Sp3 {δ : Type} (R : Rp α) (S : Rp β) (U : Rp δ) (T : Rp γ) (f : α → β → δ → γ) (C : α → β → δ → Prop) : Sp := fun vs H Q _ => ∃ ps v w z a b d, vs = [v, w, z] ∧ Own ps H ∧ R.p a v (Rm ps H) ∧ S.p b w (Rm ps H) ∧ U.p d z (Rm ps H) ∧ C a b d ∧ ∀ r H', Ex H H' → T.p (f a b d) r (Rm ps H') → Q r H'
theorem er_call1 {f : α → γ} {C : α → Prop} {E : XK} (h : EvR R ps ta σ H a) (hc : C a) : EvR T ps (tCall (Sp1 R T f C) [] E (tCons ta tNil)) σ H (f a) := fun H1 e o Q q =>
  h H1 e o _ fun v H2 e2 r => ⟨ps, v, a, rfl, o.ex e2, r, hc, fun w H3 e3 s => q w H3 (e2.trans e3) s⟩
theorem er_call2 {f : α → β → γ} {C : α → β → Prop} {E : XK} (h : EvR R ps ta σ H a) (h2 : EvR S ps tb σ H b) (hc : C a b) : EvR T ps (tCall (Sp2 R S T f C) [] E (tCons ta (tCons tb tNil))) σ H (f a b) := fun H1 e o Q q =>
  h H1 e o _ fun v H2 e2 r => h2 H2 (e.trans e2) (o.ex e2) _ fun w H3 e3 s => ⟨ps, v, w, a, b, rfl, o.ex (e2.trans e3), R.m (Rm_mono e3) r, s, hc, fun z H4 e4 t => q z H4 ((e2.trans e3).trans e4) t⟩
theorem er_call3 {δ : Type} {U : Rp δ} {d : δ} {f : α → β → δ → γ} {C : α → β → δ → Prop} {E : XK} (h : EvR R ps ta σ H a) (h2 : EvR S ps tb σ H b) (h3 : EvR U ps tc σ H d) (hc : C a b d) : EvR T ps (tCall (Sp3 R S U T f C) [] E (tCons ta (tCons tb (tCons tc tNil)))) σ H (f a b d) := fun H1 e o Q q =>
  h H1 e o _ fun v H2 e2 r => h2 H2 (e.trans e2) (o.ex e2) _ fun w H3 e3 s => h3 H3 ((e.trans e2).trans e3) (o.ex (e2.trans e3)) _ fun z H4 e4 u => ⟨ps, v, w, z, a, b, d, rfl, o.ex ((e2.trans e3).trans e4), R.m (Rm_mono (e3.trans e4)) r, S.m (Rm_mono e4) s, u, hc, fun y H5 e5 t => q y H5 (((e2.trans e3).trans e4).trans e5) t⟩
/-! ### statements -/
variable {D : Ends} {tu tw tz : TS} {g : TG}
theorem s_retR (o : Own ps H) (h : EvR R ps te σ H a) (k : ∀ v H1, Ex H H1 → R.p a v (Rm ps H1) → D.rt v H1) : tRet te D σ H := h H (Ex.refl H) o _ k
theorem q_asgR' {i : Nat} (o : Own ps H) (h : EvR R ps te σ H a) (k : ∀ v H1, Ex H H1 → R.p a v (Rm ps H1) → tz D (σ.set i (some v)) H1) : tSeq (tAsg te (gName i)) tz D σ H := h H (Ex.refl H) o _ k
theorem s_asgR' {i : Nat} (o : Own ps H) (h : EvR R ps te σ H a) (k : ∀ v H1, Ex H H1 → R.p a v (Rm ps H1) → D.nx (σ.set i (some v)) H1) : tAsg te (gName i) D σ H := h H (Ex.refl H) o _ k
theorem q_dropR (o : Own ps H) (h : EvR R ps te σ H a) (k : ∀ H1, Ex H H1 → tz D σ H1) : tSeq (tDrop te) tz D σ H := h H (Ex.refl H) o _ fun _ H1 e _ => k H1 e
theorem q_parR {i j : Nat} (o : Own ps H) (h1 : EvR R ps ta σ H a) (h2 : EvR S ps tb σ H b) (k : ∀ v w H1, Ex H H1 → R.p a v (Rm ps H1) → S.p b w (Rm ps H1) → tz D ((σ.set i (some v)).set j (some w)) H1) : tSeq (tPar i j (tCons ta (tCons tb tNil))) tz D σ H :=
  h1 H (Ex.refl H) o _ fun v H1 e1 r => h2 H1 e1 (o.ex e1) _ fun w H2 e2 s => ⟨v, w, rfl, k v w H2 (e1.trans e2) (R.m (Rm_mono e2) r) s⟩
end
end RP
set_option Elab.async false
set_option linter.all false
set_option maxRecDepth 100000
set_option maxHeartbeats 4000000
/-! comprehensions and walks, told by what the items stand for -/
namespace RP
open PySem PySem.Spec PyProof.Rows L2 Evl Gen
section
variable {α β γ : Type} {R : Rp α} {S : Rp β} {T : Rp γ} {K : PySem.W.Frag} {ps : List Addr} {σ : L2.St} {H H' : Hp} {ta tb tc te tl : TE} {tr : TA} {tt : TT} {v w : V} {a : α} {b : β} {c : γ}
/-- what a turn's store binds: P of the item, the slots and the heap -/
def Bd (R : Rp α) (ps : List Addr) (g : TG) (vs : List Nat) (σ : L2.St) (P : α → L2.St → Hp → Prop) : Prop := ∀ x v H1, Own ps H1 → R.p x v (Rm ps H1) → ∀ Q : L2.St → Hp → Prop, (∀ σ2, wipe σ2 vs = wipe σ vs → P x σ2 H1 → Q σ2 H1) → g v (wipe σ vs) H1 Q
theorem bd_name {j : Nat} {vs : List Nat} (hw : ∀ x, wipe ((wipe σ vs).set j (some x)) vs = wipe σ vs) : Bd R ps (gName j) vs σ (fun x σ2 H1 => ∃ v, σ2 = (wipe σ vs).set j (some v) ∧ R.p x v (Rm ps H1)) := fun x v H1 _ r Q q => q _ (hw v) ⟨v, rfl, r⟩
theorem bd_two {i j : Nat} {vs : List Nat} (hw : ∀ x y, wipe (((wipe σ vs).set i (some x)).set j (some y)) vs = wipe σ vs) : Bd (rP R S) ps (gTup K 2 (gCons (gName i) (gCons (gName j) gNil))) vs σ (fun x σ2 H1 => ∃ v w, σ2 = ((wipe σ vs).set i (some v)).set j (some w) ∧ R.p x.1 v (Rm ps H1) ∧ S.p x.2 w (Rm ps H1)) := fun x v H1 _ r Q q => by
  obtain ⟨a, y, z, rfl, h2, h3, h4⟩ := r
  exact ⟨a, _, rfl, st_of (Rm_ex _ _ h2), rfl, _, _, rfl, _, _, rfl, rfl, q _ (hw y z) ⟨y, z, rfl, h3, h4⟩⟩
/-- what stands at the new list's place after some turns -/
def Lw (R : Rp β) (ps : List Addr) (H1 : Hp) (Dl : Addr) (bs : List β) (H' : Hp) : Prop := Ex H1 H' ∧ ∃ vs, H' Dl = some (.lst vs) ∧ All2 (fun x y => R.p x y (Rm (Dl :: ps) H')) bs vs
theorem lw_zero {H1 : Hp} {Dl : Addr} (h : H1 Dl = none) : Lw S ps H1 Dl [] (upd H1 Dl (.lst [])) := ⟨Ex.new h, [], upd_same, trivial⟩
theorem lw_ex {H1 H2 H3 : Hp} {Dl : Addr} {bs : List β} (p : Lw S ps H1 Dl bs H2) (e : Ex H2 H3) : Lw S ps H1 Dl bs H3 := let ⟨h1, vs, h2, h3⟩ := p; ⟨h1.trans e, vs, e _ _ h2, h3.imp fun _ _ r => S.m (Rm_mono e) r⟩
/-- the item's turn, in the frame with the new list beside -/
theorem lw_turn {H1 H2 : Hp} {Dl : Addr} {bs : List β} {σ2 : L2.St} {k : Nat} (o : Own ps H1) (hD : H1 Dl = none) (p : Lw S ps H1 Dl bs H2) (hz : bs.length < 50000) (h : EvR S (Dl :: ps) te σ2 H2 b) :
    te σ2 H2 fun y H4 => ∃ acc, H4 Dl = some (.lst acc) ∧ acc.length < sizeLine ∧ Lw S ps H1 Dl (bs ++ [b]) (upd H4 Dl (.lst (acc ++ [y]))) := by
  obtain ⟨p1, vs, p2, p3⟩ := p
  refine h H2 (Ex.refl _) ((o.ex p1).push p2) _ fun y H4 e4 r => ⟨vs, e4 _ _ p2, sz_lt (by rw [← p3.len]; omega), Ex.mut (p1.trans e4) hD, vs ++ [y], upd_same, ?_⟩
  have er : Rm (Dl :: ps) (upd H4 Dl (.lst (vs ++ [y]))) = Rm (Dl :: ps) H4 := Rm_upd (List.mem_cons_self ..)
  rw [er]
  exact (p3.imp fun _ _ q => S.m (Rm_mono e4) q).app (.one r)
theorem lw_end {H1 H2 : Hp} {Dl : Addr} {bs : List β} (o : Own ps H1) (hD : H1 Dl = none) (p : Lw S ps H1 Dl bs H2) : (rL S).p bs (.ref Dl) (Rm ps H2) := let ⟨_, vs, h2, h3⟩ := p; ⟨Dl, vs, rfl, Rm_get h2 (o.nin hD), h3.imp fun _ _ q => S.m Rm_pop q⟩
/-- a turn with its test -/
theorem lw_test {H0 H1 H2 : Hp} {Dl : Addr} {bs : List β} {σ2 : L2.St} {q : Bool} {nb : List β} (o : Own ps H1) (hD : H1 Dl = none) (p : Lw S ps H1 Dl bs H2) (hz : bs.length < 50000)
    (ht : EtR (Dl :: ps) tt σ2 H2 q) (he : q = true → nb = bs ++ [b] ∧ EvR S (Dl :: ps) te σ2 H2 b) (hn : q = false → nb = bs) :
    tt σ2 H2 fun x H3 => if x = true then te σ2 H3 fun y H4 => ∃ acc, H4 Dl = some (.lst acc) ∧ acc.length < sizeLine ∧ Lw S ps H1 Dl nb (upd H4 Dl (.lst (acc ++ [y]))) else Lw S ps H1 Dl nb H3 := by
  obtain ⟨vs, p2, p3⟩ := p.2
  refine ht H2 (Ex.refl _) ((o.ex p.1).push p2) _ fun H3 e3 => ?_
  cases q with
  | true =>
    rw [if_pos rfl, (he rfl).1]
    exact lw_turn (k := 0) o hD (lw_ex p e3) hz ((he rfl).2.mono e3)
  | false =>
    rw [if_neg Bool.false_ne_true, hn rfl]
    exact lw_ex p e3
/-- a walked thing whose items stand for xs -/
def Wk (R : Rp α) (ps : List Addr) (wi : TI) (σ : L2.St) (H : Hp) (xs : List α) : Prop := ∀ H0, Ex H H0 → Own ps H0 → ∀ Rk : It → Hp → Prop,
  (∀ J n G Y H1, Ex H0 H1 → n = xs.length → Walk J n G Y → (∀ H2, Ex (Rm ps H1) H2 → G H2) →
    (∀ i H2 u H3 qs, i < n → Own qs H2 → Ex (Rm ps H1) (Rm qs H2) → Y i H2 u H3 → Ex H2 H3 ∧ ∃ x, xs[i]? = some x ∧ R.p x u (Rm qs H3)) → Rk J H1) → wi σ H0 Rk
theorem wk_list {xs : List α} (h : EvR (rL R) ps tl σ H xs) : Wk R ps (iList K tl) σ H xs := fun H0 e o Rk k => h H0 e o _ fun v H1 e1 r => by
  obtain ⟨a, us, rfl, ha, hu⟩ := r
  exact ⟨a, rfl, ⟨us, sq_of (Rm_ex _ _ ha)⟩, k _ us.length _ _ H1 e1 hu.len.symm walk_list (fun H2 e2 => sq_of (e2 _ _ ha)) fun i H2 u H3 qs hi oq ex y => by
    obtain ⟨rfl, hy⟩ := y
    obtain ⟨x, hx, rx⟩ := hu.getv hy
    exact ⟨Ex.refl _, x, hx, R.m ex rx⟩⟩
theorem wk_seq {xs : List α} (h : EvR (rQ K R) ps tl σ H xs) : Wk R ps (iSeq K tl) σ H xs := fun H0 e o Rk k => h H0 e o _ fun v H1 e1 r => by
  obtain ⟨a, us, rfl, ha, hu⟩ := r
  have item : ∀ i H2 u H3 qs, i < us.length → Own qs H2 → Ex (Rm ps H1) (Rm qs H2) → YAt us i H2 u H3 → Ex H2 H3 ∧ ∃ x, xs[i]? = some x ∧ R.p x u (Rm qs H3) := fun i H2 u H3 qs hi oq ex y => by
    obtain ⟨rfl, hy⟩ := y
    obtain ⟨x, hx, rx⟩ := hu.getv hy
    exact ⟨Ex.refl _, x, hx, R.m ex rx⟩
  rcases ha with h1 | h1
  · exact ⟨a, us, rfl, .inl ⟨ex_l Rm_ex h1, k _ us.length _ _ H1 e1 hu.len.symm walk_list (fun H2 e2 => ex_l e2 h1) item⟩⟩
  · exact ⟨a, us, rfl, .inr ⟨ex_t Rm_ex h1, k _ us.length _ _ H1 e1 hu.len.symm walk_tup (fun H2 e2 => ex_t e2 h1) item⟩⟩
theorem wk_range {n : Nat} (h : EvR rI ps ta σ H (n : Int)) (hn : n ≤ 100000) : Wk rN ps (iRng1 (tCons ta tNil)) σ H (List.range n) := fun H0 e o Rk k => h H0 e o _ fun v H1 e1 r => by
  have rv : v = .int (n : Int) := r
  subst rv
  refine ⟨(n : Int), rfl, by omega, by omega, k _ n _ _ H1 e1 (by simp) (walk_range (lo := 0) (n := n)) (fun _ _ => trivial) fun i H2 u H3 qs hi oq ex y => ?_⟩
  obtain ⟨rfl, rfl⟩ := y
  exact ⟨Ex.refl _, i, by simp [hi], by show V.int (0 + (i : Int)) = _; rw [Int.zero_add]⟩
theorem wk_range2 {m n : Nat} (h1 : EvR rI ps ta σ H (m : Int)) (h2 : EvR rI ps tb σ H (n : Int)) (hm : m ≤ 100000) (hn : n ≤ 100000) : Wk rN ps (iRng2 (tCons ta (tCons tb tNil))) σ H ((List.range (n - m)).map (m + ·)) := fun H0 e o Rk k => h1 H0 e o _ fun v H1 e1 r => h2 H1 (e.trans e1) (o.ex e1) _ fun w H2 e2 r2 => by
  have rv : v = .int (m : Int) := r
  have rw' : w = .int (n : Int) := r2
  subst rv rw'
  refine ⟨(m : Int), (n : Int), rfl, ⟨by omega, by omega, by omega, by omega⟩, ?_⟩
  have hn' : ((n : Int) - (m : Int)).toNat = n - m := by omega
  rw [hn']
  refine k _ (n - m) _ _ H2 (e1.trans e2) (by simp) (walk_range (lo := (m : Int)) (n := n - m)) (fun _ _ => trivial) fun i H3 u H4 qs hi oq ex y => ?_
  obtain ⟨rfl, rfl⟩ := y
  exact ⟨Ex.refl _, m + i, by simp [hi], by show V.int ((m : Int) + (i : Int)) = V.int ((m + i : Nat) : Int); rw [Int.natCast_add]⟩
theorem wk_zip {xs : List α} {ys : List β} (h1 : EvR (rL R) ps ta σ H xs) (h2 : EvR (rL S) ps tb σ H ys) : Wk (rP R S) ps (iZip K (tCons ta (tCons tb tNil))) σ H (xs.zip ys) := fun H0 e o Rk k => h1 H0 e o _ fun v H1 e1 r => h2 H1 (e.trans e1) (o.ex e1) _ fun w H2 e2 r2 => by
  obtain ⟨a, us, rfl, ha, hu⟩ := r
  obtain ⟨b, ws, rfl, hb, hw⟩ := r2
  have ha1 := Rm_mono e2 _ _ ha
  refine ⟨a, b, us, ws, rfl, sq_of (Rm_ex _ _ ha1), sq_of (Rm_ex _ _ hb), k _ (min us.length ws.length) _ _ H2 (e1.trans e2) (by rw [List.length_zip, hu.len, hw.len]) (walk_zip rfl) (fun H3 e3 => ⟨sq_of (e3 _ _ ha1), sq_of (e3 _ _ hb)⟩) fun i H3 u H4 qs hi oq ex y => ?_⟩
  obtain ⟨Tt, x, y, rfl, hT, rfl, hx, hy⟩ := y
  obtain ⟨x', hx', rx⟩ := hu.getv hx
  obtain ⟨y', hy', ry⟩ := hw.getv hy
  have eT : Ex H3 (upd H3 Tt (.tup [x, y])) := Ex.new hT
  refine ⟨eT, (x', y'), ?_, Tt, x, y, rfl, Rm_get upd_same (oq.nin hT), R.m (((Rm_mono e2).trans ex).trans (Rm_mono eT)) rx, S.m (ex.trans (Rm_mono eT)) ry⟩
  rw [List.getElem?_zip_eq_some]
  exact ⟨hx', hy'⟩
theorem wk_enum {xs : List α} (h : EvR (rQ K R) ps ta σ H xs) : Wk (rP rN R) ps (iEnumS K (tCons ta tNil)) σ H ((List.range xs.length).zip xs) := fun H0 e o Rk k => h H0 e o _ fun v H1 e1 r => by
  obtain ⟨a, us, rfl, ha, hu⟩ := r
  have item : ∀ i H2 u H3 qs, i < us.length → Own qs H2 → Ex (Rm ps H1) (Rm qs H2) → YPair (fun i => some (.int (i : Nat))) (fun i => us[i]?) i H2 u H3 → Ex H2 H3 ∧ ∃ x, ((List.range xs.length).zip xs)[i]? = some x ∧ (rP rN R).p x u (Rm qs H3) := fun i H2 u H3 qs hi oq ex y => by
    obtain ⟨Tt, x, y, rfl, hT, rfl, hx, hy⟩ := y
    cases hx
    obtain ⟨y', hy', ry⟩ := hu.getv hy
    have eT : Ex H2 (upd H2 Tt (.tup [.int (i : Nat), y])) := Ex.new hT
    refine ⟨eT, (i, y'), ?_, Tt, _, y, rfl, Rm_get upd_same (oq.nin hT), rfl, R.m (ex.trans (Rm_mono eT)) ry⟩
    rw [List.getElem?_zip_eq_some]
    exact ⟨by simp [(List.getElem?_eq_some_iff.mp hy').1], hy'⟩
  rcases ha with h1 | h1
  · exact ⟨a, us, rfl, .inl ⟨ex_l Rm_ex h1, k _ us.length _ _ H1 e1 (by simp [hu.len]) walk_enum (fun H2 e2 => ex_l e2 h1) item⟩⟩
  · exact ⟨a, us, rfl, .inr ⟨ex_t Rm_ex h1, k _ us.length _ _ H1 e1 (by simp [hu.len]) walk_enumT (fun H2 e2 => ex_t e2 h1) item⟩⟩
/-- [e for .. in xs if c] -/
theorem er_lcG {wi : TI} {xs : List α} {g : TG} {vs : List Nat} {P : α → L2.St → Hp → Prop} (f : α → β) (q : α → Bool) (h : Wk R ps wi σ H xs) (hz : xs.length ≤ 40000) (hb : ∀ qs, Bd R qs g vs σ (fun x σ2 H1 => P x σ2 (Rm qs H1)))
    (ht : ∀ x ∈ xs, ∀ qs σ2 H1, Ex H H1 → Own qs H1 → Ex (Rm ps H) (Rm qs H1) → P x σ2 (Rm qs H1) → EtR qs tt σ2 H1 (q x))
    (he : ∀ x ∈ xs, q x = true → ∀ qs σ2 H1, Ex H H1 → Own qs H1 → Ex (Rm ps H) (Rm qs H1) → P x σ2 (Rm qs H1) → EvR S qs te σ2 H1 (f x)) :
    EvR (rL S) ps (tLc wi g tt te vs) σ H ((xs.filter q).map f) := fun H0 e o Q k => h H0 e o _ fun J n G Y H1 e1 hn wk hG hY Dl hD => by
  have o1 := o.ex e1
  refine lc_it wk (fun i H2 => Lw S ps H1 Dl (((xs.take i).filter q).map f) H2) (lw_zero hD) (fun i H2 _ p => hG H2 (Rm_ex.trans p.1)) (fun i u H2 H2' hi p y => ?_) (fun H2 p => ?_)
  · obtain ⟨vs', p2, p3⟩ := p.2
    have o2 : Own (Dl :: ps) H2 := (o1.ex p.1).push p2
    have ex2 : Ex (Rm ps H1) (Rm (Dl :: ps) H2) := fun b ob hb => by
      have n : b ≠ Dl := fun z => by rw [z, Rm_none hD] at hb; cases hb
      have hb1 := Rm_ex _ _ hb
      refine Rm_get (p.1 _ _ hb1) (fun m => (List.mem_cons.mp m).elim n fun m => ?_)
      rw [Rm_own m] at hb
      cases hb
    obtain ⟨e3, x, hx, rx⟩ := hY i H2 u H2' (Dl :: ps) hi o2 ex2 y
    have hm : x ∈ xs := List.mem_of_getElem? hx
    have p' := lw_ex p e3
    have o2' := o2.ex e3
    refine hb (Dl :: ps) x u H2' o2' rx _ fun σ2 hw hP => ⟨hw, ?_⟩
    have g0 : Ex H H2' := (e.trans e1).trans p'.1
    have g1 : Ex (Rm ps H) (Rm (Dl :: ps) H2') := ((Rm_mono (e.trans e1)).trans ex2).trans (Rm_mono e3)
    have hlen : (((xs.take i).filter q).map f).length < 50000 := by
      rw [List.length_map]
      have h1 := List.length_filter_le q (xs.take i)
      have h2 : (xs.take i).length ≤ xs.length := by rw [List.length_take]; exact Nat.min_le_right _ _
      omega
    refine lw_test (H0 := H1) (b := f x) o1 hD p' hlen (ht x hm _ σ2 H2' g0 o2' g1 hP) (fun hq => ⟨?_, he x hm hq _ σ2 H2' g0 o2' g1 hP⟩) (fun hq => ?_)
    · rw [take_snoc hx, List.filter_append, List.map_append, List.filter_cons, if_pos hq] <;> rfl
    · rw [take_snoc hx, List.filter_append, List.map_append, List.filter_cons, if_neg (by rw [hq]; decide)]
      show _ ++ [] = _
      rw [List.append_nil]
  · rw [hn, List.take_length] at p
    exact k _ _ (e1.trans p.1) (lw_end o1 hD p)
theorem et_yes : EtR ps tYes σ H true := fun H1 _ _ Q q => q H1 (Ex.refl _)
theorem er_lc1 {wi : TI} {xs : List α} {j : Nat} {vs : List Nat} (f : α → β) (h : Wk R ps wi σ H xs) (hz : xs.length ≤ 40000) (hw : ∀ x, wipe ((wipe σ vs).set j (some x)) vs = wipe σ vs)
    (he : ∀ x ∈ xs, ∀ qs v H1, Ex H H1 → Own qs H1 → Ex (Rm ps H) (Rm qs H1) → R.p x v (Rm qs H1) → EvR S qs te ((wipe σ vs).set j (some v)) H1 (f x)) : EvR (rL S) ps (tLc wi (gName j) tYes te vs) σ H (xs.map f) := by
  have g := er_lcG (S := S) (te := te) (tt := tYes) (P := fun x σ2 G => ∃ v, σ2 = (wipe σ vs).set j (some v) ∧ R.p x v G) f (fun _ => true) h hz (fun qs => bd_name hw) (fun x _ qs σ2 H1 _ _ _ _ => et_yes)
    (fun x hx _ qs σ2 H1 e o ex ⟨v, e2, r⟩ => by rw [e2]; exact he x hx qs v H1 e o ex r)
  rwa [List.filter_eq_self.mpr (fun _ _ => rfl)] at g
theorem er_lc1F {wi : TI} {xs : List α} {j : Nat} {vs : List Nat} (f : α → β) (q : α → Bool) (h : Wk R ps wi σ H xs) (hz : xs.length ≤ 40000) (hw : ∀ x, wipe ((wipe σ vs).set j (some x)) vs = wipe σ vs)
    (ht : ∀ x ∈ xs, ∀ qs v H1, Ex H H1 → Own qs H1 → Ex (Rm ps H) (Rm qs H1) → R.p x v (Rm qs H1) → EtR qs tt ((wipe σ vs).set j (some v)) H1 (q x))
    (he : ∀ x ∈ xs, q x = true → ∀ qs v H1, Ex H H1 → Own qs H1 → Ex (Rm ps H) (Rm qs H1) → R.p x v (Rm qs H1) → EvR S qs te ((wipe σ vs).set j (some v)) H1 (f x)) : EvR (rL S) ps (tLc wi (gName j) tt te vs) σ H ((xs.filter q).map f) :=
  er_lcG (P := fun x σ2 G => ∃ v, σ2 = (wipe σ vs).set j (some v) ∧ R.p x v G) f q h hz (fun qs => bd_name hw) (fun x hx qs σ2 H1 e o ex ⟨v, e2, r⟩ => by rw [e2]; exact ht x hx qs v H1 e o ex r)
    (fun x hx hq qs σ2 H1 e o ex ⟨v, e2, r⟩ => by rw [e2]; exact he x hx hq qs v H1 e o ex r)
theorem er_lc2 {wi : TI} {xs : List (α × β)} {i j : Nat} {vs : List Nat} (f : α × β → γ) (h : Wk (rP R S) ps wi σ H xs) (hz : xs.length ≤ 40000) (hw : ∀ x y, wipe (((wipe σ vs).set i (some x)).set j (some y)) vs = wipe σ vs)
    (he : ∀ x ∈ xs, ∀ qs v w H1, Ex H H1 → Own qs H1 → Ex (Rm ps H) (Rm qs H1) → R.p x.1 v (Rm qs H1) → S.p x.2 w (Rm qs H1) → EvR T qs te (((wipe σ vs).set i (some v)).set j (some w)) H1 (f x)) : EvR (rL T) ps (tLc wi (gTup K 2 (gCons (gName i) (gCons (gName j) gNil))) tYes te vs) σ H (xs.map f) := by
  have g := er_lcG (S := T) (te := te) (tt := tYes) (P := fun x σ2 G => ∃ v w, σ2 = ((wipe σ vs).set i (some v)).set j (some w) ∧ R.p x.1 v G ∧ S.p x.2 w G) f (fun _ => true) h hz (fun qs => bd_two (K := K) hw) (fun x _ qs σ2 H1 _ _ _ _ => et_yes)
    (fun x hx _ qs σ2 H1 e o ex ⟨v, w, e2, r, s⟩ => by rw [e2]; exact he x hx qs v w H1 e o ex r s)
  rwa [List.filter_eq_self.mpr (fun _ _ => rfl)] at g
theorem er_lc2F {wi : TI} {xs : List (α × β)} {i j : Nat} {vs : List Nat} (f : α × β → γ) (q : α × β → Bool) (h : Wk (rP R S) ps wi σ H xs) (hz : xs.length ≤ 40000) (hw : ∀ x y, wipe (((wipe σ vs).set i (some x)).set j (some y)) vs = wipe σ vs)
    (ht : ∀ x ∈ xs, ∀ qs v w H1, Ex H H1 → Own qs H1 → Ex (Rm ps H) (Rm qs H1) → R.p x.1 v (Rm qs H1) → S.p x.2 w (Rm qs H1) → EtR qs tt (((wipe σ vs).set i (some v)).set j (some w)) H1 (q x))
    (he : ∀ x ∈ xs, q x = true → ∀ qs v w H1, Ex H H1 → Own qs H1 → Ex (Rm ps H) (Rm qs H1) → R.p x.1 v (Rm qs H1) → S.p x.2 w (Rm qs H1) → EvR T qs te (((wipe σ vs).set i (some v)).set j (some w)) H1 (f x)) : EvR (rL T) ps (tLc wi (gTup K 2 (gCons (gName i) (gCons (gName j) gNil))) tt te vs) σ H ((xs.filter q).map f) :=
  er_lcG (P := fun x σ2 G => ∃ v w, σ2 = ((wipe σ vs).set i (some v)).set j (some w) ∧ R.p x.1 v G ∧ S.p x.2 w G) f q h hz (fun qs => bd_two (K := K) hw) (fun x hx qs σ2 H1 e o ex ⟨v, w, e2, r, s⟩ => by rw [e2]; exact ht x hx qs v w H1 e o ex r s)
    (fun x hx hq qs σ2 H1 e o ex ⟨v, w, e2, r, s⟩ => by rw [e2]; exact he x hx hq qs v w H1 e o ex r s)
/-! ### for -/
variable {D : Ends} {tu tz : TS} {g : TG}
/-- the frame: what is not the def's own stands -/
def Fr (ps : List Addr) (H H' : Hp) : Prop := Own ps H' ∧ Ex (Rm ps H) (Rm ps H')
theorem Fr.refl (o : Own ps H) : Fr ps H H := ⟨o, Ex.refl _⟩
theorem Fr.trans {H2 : Hp} (a : Fr ps H H') (b : Fr ps H' H2) : Fr ps H H2 := ⟨b.1, a.2.trans b.2⟩
theorem Fr.of (o : Own ps H) (e : Ex H H') : Fr ps H H' := ⟨o.ex e, Rm_mono e⟩
theorem Fr.ex {H2 : Hp} (a : Fr ps H H') (e : Ex H' H2) : Fr ps H H2 := a.trans (Fr.of a.1 e)
theorem Fr.upd {p : Addr} {ob : HO} (a : Fr ps H H') (h : p ∈ ps) (hn : ∀ xs, ob ≠ .tup xs := by intro _ z; cases z) : Fr ps H (upd H' p ob) := ⟨a.1.upd hn, by rw [Rm_upd h]; exact a.2⟩
theorem Fr.r (f : Fr ps H H') (r : R.p a v (Rm ps H)) : R.p a v (Rm ps H') := R.m f.2 r
/-- for .. in xs: W i is a word of the slots and the heap after i turns; what is not own stands -/
theorem s_forW {wi : TI} {xs : List α} (o : Own ps H) (h : Wk R ps wi σ H xs) (W : Nat → L2.St → Hp → Prop) (h0 : ∀ H1, Ex H H1 → W 0 σ H1) (hW : ∀ i σ' H' H'', Ex H' H'' → W i σ' H' → W i σ' H'')
    (hs : ∀ H1, Ex H H1 → ∀ i x u σ' H', xs[i]? = some x → Fr ps H1 H' → Fr ps H H' → W i σ' H' → R.p x u (Rm ps H') → g u σ' H' fun σ2 H2 => tu { D with nx := fun σ3 H3 => Fr ps H1 H3 ∧ W (i + 1) σ3 H3, ct := fun σ3 H3 => Fr ps H1 H3 ∧ W (i + 1) σ3 H3, bk := D.nx } σ2 H2)
    (hd : ∀ σ' H', Fr ps H H' → W xs.length σ' H' → D.nx σ' H') : tFor wi g tu D σ H :=
  h H (Ex.refl _) o _ fun J n G Y H1 e1 hn wk hG hY => by
    have f1 := Fr.of o e1
    refine for_it wk (fun i σ' H' => Fr ps H1 H' ∧ W i σ' H') ⟨Fr.refl f1.1, h0 H1 e1⟩ (fun i σ' H' _ p => hG H' (p.1.2.trans Rm_ex)) (fun i u σ' H2 H3 hi p y => ?_) (fun σ' H' p => hd σ' H' (f1.trans p.1) (hn ▸ p.2))
    obtain ⟨e3, x, hx, rx⟩ := hY i H2 u H3 ps hi p.1.1 p.1.2 y
    have f3 := p.1.ex e3
    exact hs H1 e1 i x u σ' H3 hx f3 (f1.trans f3) (hW i σ' H2 H3 e3 p.2) rx
theorem q_forW {wi : TI} {xs : List α} (o : Own ps H) (h : Wk R ps wi σ H xs) (W : Nat → L2.St → Hp → Prop) (h0 : ∀ H1, Ex H H1 → W 0 σ H1) (hW : ∀ i σ' H' H'', Ex H' H'' → W i σ' H' → W i σ' H'')
    (hs : ∀ H1, Ex H H1 → ∀ i x u σ' H', xs[i]? = some x → Fr ps H1 H' → Fr ps H H' → W i σ' H' → R.p x u (Rm ps H') → g u σ' H' fun σ2 H2 => tu { D with nx := fun σ3 H3 => Fr ps H1 H3 ∧ W (i + 1) σ3 H3, ct := fun σ3 H3 => Fr ps H1 H3 ∧ W (i + 1) σ3 H3, bk := tz D } σ2 H2)
    (hd : ∀ σ' H', Fr ps H H' → W xs.length σ' H' → tz D σ' H') : tSeq (tFor wi g tu) tz D σ H := s_forW (D := { D with nx := tz D }) o h W h0 hW hs hd
/-- an own list: what stands in it -/
def Ls (R : Rp α) (ps : List Addr) (H : Hp) (p : Addr) (as : List α) : Prop := p ∈ ps ∧ ∃ vs, H p = some (.lst vs) ∧ All2 (fun x y => R.p x y (Rm ps H)) as vs
theorem Ls.ex {p : Addr} {as : List α} (h : Ls R ps H p as) (e : Ex H H') : Ls R ps H' p as := let ⟨m, vs, h1, h2⟩ := h; ⟨m, vs, e _ _ h1, h2.imp fun _ _ r => R.m (Rm_mono e) r⟩
/-- another own thing is stored into -/
theorem Ls.upd {p q : Addr} {as : List α} {ob : HO} (h : Ls R ps H p as) (n : q ≠ p) (m : q ∈ ps) : Ls R ps (L2.upd H q ob) p as := let ⟨m1, vs, h1, h2⟩ := h; ⟨m1, vs, by rw [upd_ne n.symm]; exact h1, by rw [Rm_upd m]; exact h2⟩
/-- given back -/
theorem Ls.rep {p : Addr} {as : List α} (h : Ls R (p :: ps) H p as) (n : p ∉ ps) : (rL R).p as (.ref p) (Rm ps H) := let ⟨_, vs, h1, h2⟩ := h; ⟨p, vs, rfl, Rm_get h1 n, h2.imp fun _ _ r => R.m Rm_pop r⟩
/-- x = [] -/
theorem q_new {i : Nat} (o : Own ps H) (k : ∀ p H1, Ex H H1 → p ∉ ps → H p = none → Own (p :: ps) H1 → Ex (Rm ps H) (Rm (p :: ps) H1) → Ls R (p :: ps) H1 p [] → tz D (σ.set i (some (.ref p))) H1) : tSeq (tAsg (tLst tNil) (gName i)) tz D σ H :=
  ⟨sz_of (Nat.zero_le _), fun p hp => k p _ (Ex.new hp) (o.nin hp) hp ((o.ex (Ex.new hp)).push upd_same) (fun b ob h => by
    have n : b ≠ p := fun z => by rw [z, Rm_none hp] at h; cases h
    exact Rm_get (by rw [upd_ne n]; exact Rm_ex _ _ h) (fun m => (List.mem_cons.mp m).elim n fun m => by rw [Rm_own m] at h; cases h)) ⟨List.mem_cons_self .., [], upd_same, trivial⟩⟩
end
end RP
set_option Elab.async false
set_option linter.all false
set_option maxRecDepth 100000
set_option maxHeartbeats 4000000
/-! stores to own lists, equality by data, texts shown, numbers -/
namespace RP
open PySem PySem.Spec PyProof.Rows L2 Evl Gen
section
variable {α β γ : Type} {R : Rp α} {S : Rp β} {T : Rp γ} {K : PySem.W.Frag} {ps : List Addr} {σ : L2.St} {H H' : Hp} {ta tb tc te tl : TE} {tr : TA} {tt : TT} {v w : V} {a : α} {b : β} {c : γ} {D : Ends} {tu tz : TS} {p : Addr}
/-- all but what stands at p stands -/
def Oth (p : Addr) (H H' : Hp) : Prop := ∀ q u, q ≠ p → H q = some u → H' q = some u
theorem Oth.ex (e : Ex H H') : Oth p H H' := fun q u _ h => e q u h
theorem Oth.upd {ob : HO} (e : Ex H H') : Oth p H (L2.upd H' p ob) := fun q u n h => by rw [upd_ne n]; exact e q u h
theorem Ls.oth {q : Addr} {as : List α} (h : Ls R ps H q as) (n : q ≠ p) (o : Oth p H H') (f : Fr ps H H') : Ls R ps H' q as := let ⟨m, vs, h1, h2⟩ := h; ⟨m, vs, o _ _ n h1, h2.imp fun _ _ r => R.m f.2 r⟩
theorem s_appR {as : List α} (o : Own ps H) (l : Ls R ps H p as) (ha : Ev ta σ H (.ref p)) (h : EvR R ps te σ H a) (hz : as.length < 100000)
    (k : ∀ H1, Fr ps H H1 → Ls R ps H1 p (as ++ [a]) → Oth p H H1 → D.nx σ H1) : tDrop (tBM K "list" rAppend ta (tCons te tNil)) D σ H := ha H (Ex.refl H) _ fun H1 e1 => by
  obtain ⟨m, vs, h1, h2⟩ := l
  refine ⟨Or.inl ⟨rfl, vs, sq_of (e1 p _ h1)⟩, h H1 e1 (o.ex e1) _ fun v H2 e2 r => ⟨p, vs, v, rfl, rfl, e2 p _ (e1 p _ h1), sz_lt (by rw [← h2.len]; exact hz), ?_⟩⟩
  have e := e1.trans e2
  refine k _ ((Fr.of o e).upd m) ⟨m, vs ++ [v], upd_same, ?_⟩ (Oth.upd e)
  rw [Rm_upd m]
  exact (h2.imp fun _ _ q => R.m (Rm_mono e) q).app (.one r)
theorem q_appR {as : List α} (o : Own ps H) (l : Ls R ps H p as) (ha : Ev ta σ H (.ref p)) (h : EvR R ps te σ H a) (hz : as.length < 100000)
    (k : ∀ H1, Fr ps H H1 → Ls R ps H1 p (as ++ [a]) → Oth p H H1 → tz D σ H1) : tSeq (tDrop (tBM K "list" rAppend ta (tCons te tNil))) tz D σ H := s_appR (D := { D with nx := tz D }) o l ha h hz k
theorem s_extR {as bs : List α} (o : Own ps H) (l : Ls R ps H p as) (ha : Ev ta σ H (.ref p)) (h : EvR (rL R) ps te σ H bs) (hz : as.length + bs.length ≤ 100000)
    (k : ∀ H1, Fr ps H H1 → Ls R ps H1 p (as ++ bs) → Oth p H H1 → D.nx σ H1) : tDrop (tBM K "list" rExtend ta (tCons te tNil)) D σ H := ha H (Ex.refl H) _ fun H1 e1 => by
  obtain ⟨m, vs, h1, h2⟩ := l
  refine ⟨Or.inl ⟨rfl, vs, sq_of (e1 p _ h1)⟩, h H1 e1 (o.ex e1) _ fun v H2 e2 r => ?_⟩
  obtain ⟨b, us, rfl, hb, hu⟩ := r
  refine ⟨p, b, vs, us, rfl, rfl, e2 p _ (e1 p _ h1), Rm_ex _ _ hb, sz_of (by rw [← h2.len, ← hu.len]; exact hz), ?_⟩
  have e := e1.trans e2
  refine k _ ((Fr.of o e).upd m) ⟨m, vs ++ us, upd_same, ?_⟩ (Oth.upd e)
  rw [Rm_upd m]
  exact (h2.imp fun _ _ q => R.m (Rm_mono e) q).app hu
theorem q_extR {as bs : List α} (o : Own ps H) (l : Ls R ps H p as) (ha : Ev ta σ H (.ref p)) (h : EvR (rL R) ps te σ H bs) (hz : as.length + bs.length ≤ 100000)
    (k : ∀ H1, Fr ps H H1 → Ls R ps H1 p (as ++ bs) → Oth p H H1 → tz D σ H1) : tSeq (tDrop (tBM K "list" rExtend ta (tCons te tNil))) tz D σ H := s_extR (D := { D with nx := tz D }) o l ha h hz k
/-- an own list read as a list -/
theorem Ls.sq {as : List α} (h : Ls R ps H p as) : ∃ vs, SqL K H p vs ∧ vs.length = as.length := let ⟨_, vs, h1, h2⟩ := h; ⟨vs, sq_of h1, h2.len.symm⟩
/-! ### lists by values -/
theorem er_len {as : List α} (h : EvR (rQ K R) ps te σ H as) {r : List V → Hp → VK → Prop} (hr : ∀ a vs H1 (Q : VK), Sq K H1 a vs → Q (.int (vs.length : Int)) H1 → r [.ref a] H1 Q) : EvR rI ps (tCB r (tCons te tNil)) σ H (as.length : Int) :=
  er_cb1 h fun v H1 e o rv Q q => by
    obtain ⟨a, vs, rfl, h1, h2⟩ := rv
    exact hr a vs H1 Q (ex_s Rm_ex h1) (q _ H1 (Ex.refl _) (congrArg V.int (congrArg Int.ofNat h2.len.symm)))
theorem er_list {as : List α} (h : EvR (rQ K R) ps te σ H as) : EvR (rL R) ps (tCB (rListS K) (tCons te tNil)) σ H as := er_cb1 h fun v H1 e o rv Q q => by
  obtain ⟨a, vs, rfl, h1, h2⟩ := rv
  exact ⟨a, vs, rfl, ex_s Rm_ex h1, fun l hl => q _ _ (Ex.new hl) ⟨l, vs, rfl, Rm_get upd_same (o.nin hl), h2.imp fun _ _ r => R.m (Rm_mono (Ex.new hl)) r⟩⟩
theorem er_cat {as bs : List α} (h1 : EvR (rL R) ps ta σ H as) (h2 : EvR (rL R) ps tb σ H bs) (hz : as.length + bs.length ≤ 100000) : EvR (rL R) ps (tOp rCat ta tb) σ H (as ++ bs) := er_op h1 h2 fun v w H1 e o rv rw' Q q => by
  obtain ⟨a, vs, rfl, ha, hu⟩ := rv
  obtain ⟨b, ws, rfl, hb, hw⟩ := rw'
  exact ⟨a, b, vs, ws, rfl, rfl, Rm_ex _ _ ha, Rm_ex _ _ hb, sz_of (by rw [← hu.len, ← hw.len]; exact hz), fun l hl => q _ _ (Ex.new hl) ⟨l, vs ++ ws, rfl, Rm_get upd_same (o.nin hl), (hu.app hw).imp fun _ _ r => R.m (Rm_mono (Ex.new hl)) r⟩⟩
theorem er_ix {as : List α} {i : Nat} (h : EvR (rL R) ps ta σ H as) (h2 : EvR rI ps tb σ H (i : Int)) (ha : as[i]? = some a) : EvR R ps (tOp (rIxL K) ta tb) σ H a := er_op h h2 fun v w H1 e o rv rw' Q q => by
  obtain ⟨b, vs, rfl, h1, hu⟩ := rv
  obtain rfl : w = .int (i : Int) := rw'
  obtain ⟨u, hu1, hu2⟩ := hu.get ha
  have hl := (List.getElem?_eq_some_iff.mp hu1).1
  refine ⟨b, vs, (i : Int), u, rfl, rfl, sq_of (Rm_ex _ _ h1), ?_, q u H1 (Ex.refl _) hu2⟩
  unfold atI
  rw [ixN_nat hl]
  exact hu1
theorem er_fst {x : α × β} (h : EvR (rP R S) ps ta σ H x) (h2 : EvR rI ps tb σ H 0) : EvR R ps (tOp (rIxT K) ta tb) σ H x.1 := er_op h h2 fun v w H1 e o rv rw' Q q => by
  obtain ⟨b, y, z, rfl, h1, hy, hz⟩ := rv
  obtain rfl : w = .int 0 := rw'
  exact ⟨b, [y, z], 0, y, rfl, rfl, st_of (Rm_ex _ _ h1), rfl, q y H1 (Ex.refl _) hy⟩
theorem er_snd {x : α × β} (h : EvR (rP R S) ps ta σ H x) (h2 : EvR rI ps tb σ H 1) : EvR S ps (tOp (rIxT K) ta tb) σ H x.2 := er_op h h2 fun v w H1 e o rv rw' Q q => by
  obtain ⟨b, y, z, rfl, h1, hy, hz⟩ := rv
  obtain rfl : w = .int 1 := rw'
  exact ⟨b, [y, z], 1, z, rfl, rfl, st_of (Rm_ex _ _ h1), rfl, q z H1 (Ex.refl _) hz⟩
/-- xs[lo:hi], cut -/
theorem er_sl {lo hi : Option Int} {tlo thi : TO} {as : List α} (h : EvR (rL R) ps ta σ H as) (h1 : EvO tlo σ H lo) (h2 : EvO thi σ H hi) : EvR (rL R) ps (tSl (rSlL K) ta tlo thi) σ H ((as.drop (HT.sIx as.length 0 lo)).take (HT.sIx as.length as.length hi - HT.sIx as.length 0 lo)) := fun H0 e o Q q =>
  h H0 e o _ fun v H2 e2 r => by
    obtain ⟨b, vs, rfl, hb, hu⟩ := r
    refine h1 H2 (e.trans e2) _ fun H3 e3 => h2 H3 ((e.trans e2).trans e3) _ fun H4 e4 => ⟨b, vs, rfl, sq_of ((e3.trans e4) _ _ (Rm_ex _ _ hb)), fun l hl => ?_⟩
    have e34 := (e3.trans e4).trans (Ex.new (o := .lst (cutV vs lo hi)) hl)
    refine q _ _ (e2.trans e34) ⟨l, _, rfl, Rm_get upd_same (((o.ex e2).ex (e3.trans e4)).nin hl), ?_⟩
    unfold cutV
    rw [hu.len]
    exact ((hu.imp fun _ _ r => R.m (Rm_mono e34) r).drop).take
theorem er_rev {as : List α} (h : EvR (rL R) ps ta σ H as) : EvR (rL R) ps (tRevL K ta) σ H as.reverse := fun H0 e o Q q => h H0 e o _ fun v H2 e2 r => by
  obtain ⟨b, vs, rfl, hb, hu⟩ := r
  refine ⟨b, vs, rfl, sq_of (Rm_ex _ _ hb), fun l hl => q _ _ (e2.trans (Ex.new hl)) ⟨l, _, rfl, Rm_get upd_same ((o.ex e2).nin hl), (hu.imp fun _ _ r => R.m (Rm_mono (Ex.new hl)) r).rev⟩⟩
theorem er_sum {ns : List Int} (h : EvR (rL rI) ps te σ H ns) : EvR rI ps (tCB (rSum K) (tCons te tNil)) σ H ns.sum := er_cb1 h fun v H1 e o rv Q q => by
  obtain ⟨b, vs, rfl, hb, hu⟩ := rv
  have e1 : vs = ns.map V.int := (hu.imp fun _ _ z => z).eq
  subst e1
  exact ⟨b, ns, rfl, sq_of (Rm_ex _ _ hb), q _ H1 (Ex.refl _) rfl⟩
theorem rLI_nat {ns : List Nat} {v : V} {H : Hp} (h : (rL rN).p ns v H) : (rL rI).p (ns.map fun n : Nat => (n : Int)) v H := by
  obtain ⟨a, vs, h1, h2, h3⟩ := h
  refine ⟨a, vs, h1, h2, ?_⟩
  have e1 : vs = ns.map (fun n : Nat => V.int (n : Int)) := (h3.imp fun _ _ z => z).eq
  subst e1
  clear h2 h3
  induction ns with
  | nil => trivial
  | cons n r ih => exact ⟨rfl, ih⟩
theorem er_all {bs : List Bool} (h : EvR (rL rB) ps te σ H bs) : EvR rB ps (tCB (rAll K) (tCons te tNil)) σ H (bs.all id) := er_cb1 h fun v H1 e o rv Q q => by
  obtain ⟨b, vs, rfl, hb, hu⟩ := rv
  have e1 : vs = bs.map V.bl := (hu.imp fun _ _ z => z).eq
  subst e1
  exact ⟨b, bs, rfl, sq_of (Rm_ex _ _ hb), q _ H1 (Ex.refl _) rfl⟩
/-! ### equality by data -/
structure Dt (K : PySem.W.Frag) (R : Rp α) (d : α → PyData) (ok : α → Prop) (n : Nat) : Prop where
  of : ∀ {a v H}, R.p a v H → Dp K H v (d a)
  lay : ∀ {a}, ok a → (d a).canLay0 = true
  dep : ∀ a, (d a).depth ≤ n
  inj : ∀ {a b}, ok a → ok b → (PyData.eqv (d a) (d b) = true ↔ a = b)
def okS (x : Str) : Prop := PyData.strOk x = true
theorem dtS : Dt K rS PyData.str okS 0 := ⟨fun h => by cases h; exact .str _, fun h => h, fun _ => Nat.le_refl _, fun _ _ => by simp [PyData.eqv]⟩
theorem dtL {d : α → PyData} {ok : α → Prop} {n : Nat} (D : Dt K R d ok n) : Dt K (rL R) (fun as => .list (as.map d)) (fun as => ∀ a ∈ as, ok a) (n + 1) := by
  refine ⟨fun {as v H} h => ?_, fun {as} h => ?_, fun as => ?_, fun {as bs} h1 h2 => ?_⟩
  · obtain ⟨a, vs, rfl, h1, h2⟩ := h
    refine .lst (sq_of h1) ?_
    clear h1
    induction as generalizing vs with
    | nil => cases vs with
      | nil => exact .nil
      | cons _ _ => exact h2.elim
    | cons x r ih => cases vs with
      | nil => exact h2.elim
      | cons y s => exact .cons (D.of h2.1) (ih s h2.2)
  · show PyData.canLayAll0 (as.map d) = true
    induction as with
    | nil => rfl
    | cons x r ih =>
      show (PyData.canLay0 (d x) && PyData.canLayAll0 (r.map d)) = true
      rw [D.lay (h x (List.mem_cons_self ..)), ih fun a ha => h a (List.mem_cons_of_mem _ ha)]
      rfl
  · show PyData.depthAll (as.map d) + 1 ≤ n + 1
    have : PyData.depthAll (as.map d) ≤ n := by
      induction as with
      | nil => exact Nat.zero_le _
      | cons x r ih => exact Nat.max_le.mpr ⟨D.dep x, ih⟩
    omega
  · show PyData.eqvAll (as.map d) (bs.map d) = true ↔ as = bs
    induction as generalizing bs with
    | nil => cases bs with
      | nil => exact ⟨fun _ => rfl, fun _ => rfl⟩
      | cons y s => exact ⟨(fun z => nomatch z), (fun z => nomatch z)⟩
    | cons x r ih => cases bs with
      | nil => exact ⟨(fun z => nomatch z), (fun z => nomatch z)⟩
      | cons y s =>
        show (PyData.eqv (d x) (d y) && PyData.eqvAll (r.map d) (s.map d)) = true ↔ _
        rw [Bool.and_eq_true, D.inj (h1 x (List.mem_cons_self ..)) (h2 y (List.mem_cons_self ..)), ih (fun a ha => h1 a (List.mem_cons_of_mem _ ha)) (fun a ha => h2 a (List.mem_cons_of_mem _ ha)), List.cons.injEq]
theorem dtP {d : α → PyData} {ok : α → Prop} {n : Nat} {d' : β → PyData} {ok' : β → Prop} {m : Nat} (D : Dt K R d ok n) (E : Dt K S d' ok' m) : Dt K (rP R S) (fun x => .tuple [d x.1, d' x.2]) (fun x => ok x.1 ∧ ok' x.2) (max n m + 1) := by
  refine ⟨fun {x v H} h => ?_, fun {x} h => ?_, fun x => ?_, fun {x y} h1 h2 => ?_⟩
  · obtain ⟨a, y, z, rfl, h1, h2, h3⟩ := h
    exact .tup (st_of h1) (.cons (D.of h2) (.cons (E.of h3) .nil))
  · show (PyData.canLay0 (d x.1) && (PyData.canLay0 (d' x.2) && true)) = true
    rw [D.lay h.1, E.lay h.2]
    rfl
  · show max (PyData.depth (d x.1)) (max (PyData.depth (d' x.2)) 0) + 1 ≤ _
    have h1 := D.dep x.1
    have h2 := E.dep x.2
    omega
  · show (PyData.eqv (d x.1) (d y.1) && (PyData.eqv (d' x.2) (d' y.2) && true)) = true ↔ _
    rw [Bool.and_true, Bool.and_eq_true, D.inj h1.1 h2.1, E.inj h1.2 h2.2]
    exact ⟨fun h => Prod.ext h.1 h.2, fun h => by rw [h]; exact ⟨rfl, rfl⟩⟩
theorem dt_shaped {d : α → PyData} {ok : α → Prop} {n : Nat} (D : Dt K R d ok n) (hn : n ≤ 60) (h : ok a) : SeqAt.shaped (d a) = true := by
  unfold SeqAt.shaped
  rw [D.lay h, Bool.true_and]
  exact decide_eq_true (Nat.le_trans (D.dep a) (by omega))
theorem eqv_dec [DecidableEq α] {d : α → PyData} {ok : α → Prop} {n : Nat} {x y : α} (D : Dt K R d ok n) (h1 : ok x) (h2 : ok y) : PyData.eqv (d x) (d y) = decide (x = y) := by
  have h := D.inj h1 h2
  by_cases e : x = y
  · rw [decide_eq_true e]
    exact h.mpr e
  · rw [decide_eq_false e]
    cases hh : PyData.eqv (d x) (d y) with
    | false => rfl
    | true => exact absurd (h.mp hh) e
theorem er_eqD [DecidableEq α] {d : α → PyData} {ok : α → Prop} {n : Nat} {x y : α} (D : Dt K R d ok n) (hn : n ≤ 60) (h1 : EvR R ps ta σ H x) (h2 : EvR R ps tb σ H y) (o1 : ok x) (o2 : ok y) : EvR rB ps (tOp (rEqD K) ta tb) σ H (decide (x = y)) := er_op h1 h2 fun v w H1 e o rv rw' Q q =>
  ⟨d x, d y, dp_ex Rm_ex (D.of rv), dp_ex Rm_ex (D.of rw'), dt_shaped D hn o1, dt_shaped D hn o2, by rw [eqv_dec D o1 o2]; exact q _ H1 (Ex.refl _) rfl⟩
theorem er_neD [DecidableEq α] {d : α → PyData} {ok : α → Prop} {n : Nat} {x y : α} (D : Dt K R d ok n) (hn : n ≤ 60) (h1 : EvR R ps ta σ H x) (h2 : EvR R ps tb σ H y) (o1 : ok x) (o2 : ok y) : EvR rB ps (tOp (rNeD K) ta tb) σ H (!decide (x = y)) := er_op h1 h2 fun v w H1 e o rv rw' Q q =>
  ⟨d x, d y, dp_ex Rm_ex (D.of rv), dp_ex Rm_ex (D.of rw'), dt_shaped D hn o1, dt_shaped D hn o2, by rw [eqv_dec D o1 o2]; exact q _ H1 (Ex.refl _) rfl⟩
/-! ### flat values: numbers, texts -/
theorem er_op0 {r : R2} {x y z : V} (o : Own ps H) (ha : Ev ta σ H x) (hb : Ev tb σ H y) (hr : RV r x y H z) (k : R.p a z (Rm ps H)) : EvR R ps (tOp r ta tb) σ H a := er_of (ev_op ha hb hr) k
theorem isN_strOk {x : Str} (h : isN (.str x) = true) : okS x := by
  unfold isN at h
  simp only [Bool.and_eq_true] at h
  unfold okS PyData.strOk
  rw [Array.all_eq_true']
  intro c hc
  have h2 := h.2
  rw [List.all_eq_true] at h2
  have h3 := h2 _ (List.mem_map.mpr ⟨c, by simpa using hc, rfl⟩)
  have h4 : c ∈ sgn.cps.toList := of_decide_eq_true h3
  have h5 : ∀ d ∈ sgn.cps.toList, d < 0x110000 := by decide +kernel
  exact decide_eq_true (h5 c h4)
end
end RP
set_option Elab.async false
set_option linter.all false
set_option maxRecDepth 100000
set_option maxHeartbeats 4000000
/-! sorted, flat lists, max, own objects told -/
namespace RP
open PySem PySem.Spec PyProof.Rows L2 Evl Gen
section
variable {α β γ : Type} {R : Rp α} {S : Rp β} {T : Rp γ} {K : PySem.W.Frag} {ps : List Addr} {σ : L2.St} {H H' : Hp} {ta tb tc te tl : TE} {tr : TA} {tt : TT} {v w : V} {a : α} {b : β} {c : γ} {D : Ends} {tu tz : TS} {p : Addr}
theorem All2.maps {Q : α → V → Prop} {g : V → α} : ∀ {vs : List V}, (∀ v ∈ vs, Q (g v) v) → All2 Q (vs.map g) vs
  | [], _ => trivial
  | v :: vs, h => ⟨h v (List.mem_cons_self ..), All2.maps fun u hu => h u (List.mem_cons_of_mem _ hu)⟩
theorem strs_eq {xs : List Str} {vs : List V} {H : Hp} (h : All2 (fun x y => rS.p x y H) xs vs) : vs = xs.map V.str := (h.imp fun _ _ z => z).eq
theorem strs_all (H : Hp) : ∀ xs : List Str, All2 (fun x y => rS.p x y H) xs (xs.map V.str)
  | [] => trivial
  | _ :: r => ⟨rfl, strs_all H r⟩
theorem rLS_of {xs : List Str} {p : Addr} {H : Hp} (h : H p = some (.lst (xs.map V.str))) : (rL rS).p xs (.ref p) H := ⟨p, _, rfl, h, strs_all H xs⟩
theorem rLS_at {xs : List Str} {v : V} {H : Hp} (h : (rL rS).p xs v H) : ∃ p, v = .ref p ∧ H p = some (.lst (xs.map V.str)) := let ⟨a, vs, h1, h2, h3⟩ := h; ⟨a, h1, by rw [← strs_eq h3]; exact h2⟩
theorem er_sortedS {xs : List Str} (h : EvR (rL rS) ps te σ H xs) (hz : xs.length < 64) : EvR (rL rS) ps (tCB (rSortedS K) (tCons te tNil)) σ H (srtS xs) := er_cb1 h fun v H1 e o rv Q q => by
  obtain ⟨p, rfl, hp⟩ := rLS_at rv
  exact (el_sortedS (te := tC (.ref p)) (σ := σ) (H := H1) ev_c (sq_of (Rm_ex _ _ hp)) hz) H1 (Ex.refl _) Q fun l H2 hl e2 h2 => q _ H2 e2 (rLS_of (Rm_get h2 (o.nin hl)))
theorem pairOf_rE {G H1 : Hp} {e : Str × Str} {x : V} (g : Ex G H1) (hr : rE.p e x G) : pairOf H1 x = e := by
  obtain ⟨t, y, z, rfl, ht, hy, hz⟩ := hr
  obtain rfl : y = .str e.1 := hy
  obtain rfl : z = .str e.2 := hz
  rw [pairOf_ref (g _ _ ht)]
theorem pairs_map {G H1 : Hp} (g : Ex G H1) : ∀ {es : List (Str × Str)} {rows : List V}, All2 (fun x y => rE.p x y G) es rows → rows.map (pairOf H1) = es
  | [], [], _ => rfl
  | e :: s, x :: r, h => by rw [List.map_cons, pairOf_rE g h.1, pairs_map g h.2]
  | [], _ :: _, h => h.elim
  | _ :: _, [], h => h.elim
theorem er_sortedT {es : List (Str × Str)} (h : EvR (rL rE) ps te σ H es) : EvR (rL rE) ps (tCB (rSortedT2 K) (tCons te tNil)) σ H (srtT es) := er_cb1 h fun v H1 e o rv Q q => by
  obtain ⟨p, rows, rfl, hp, hu⟩ := rv
  have item : ∀ x ∈ rows, ∃ e ∈ es, rE.p e x (Rm ps H1) := fun x hx => by
    obtain ⟨i, hi⟩ := List.mem_iff_getElem?.mp hx
    obtain ⟨e, he, hr⟩ := hu.getv hi
    exact ⟨e, List.mem_of_getElem? he, hr⟩
  have pr : ∀ {e : Str × Str} {x : V}, rE.p e x (Rm ps H1) → pairOf H1 x = e := fun {e x} hr => pairOf_rE Rm_ex hr
  have hm : rows.map (pairOf H1) = es := pairs_map Rm_ex hu
  refine ⟨p, rows, pairOf H1, rfl, sq_of (Rm_ex _ _ hp), fun x hx => ?_, fun ys l hs hy hn => ?_⟩
  · obtain ⟨e, he, hr⟩ := item x hx
    have hpe := pr hr
    obtain ⟨t, y, z, rfl, ht, hy, hz⟩ := hr
    obtain rfl : y = .str e.1 := hy
    obtain rfl : z = .str e.2 := hz
    exact ⟨t, rfl, by rw [hpe]; exact Rm_ex _ _ ht⟩
  · have hys : ys.map (pairOf H1) = srtT es := by
      refine srtT_of ?_ ?_
      · rw [← hm]
        exact hy.map _
      · refine List.pairwise_map.mpr (List.Pairwise.imp (fun {x y} h => ?_) hs)
        have h' : XS.ltT (pairOf H1 y) (pairOf H1 x) = false := h
        rw [h']
        rfl
    refine q _ _ (Ex.new hn) ⟨l, ys, rfl, Rm_get upd_same (o.nin hn), ?_⟩
    rw [← hys]
    refine All2.maps fun x hx => ?_
    obtain ⟨e, he, hr⟩ := item x (hy.mem_iff.mp hx)
    rw [pr hr]
    exact rE.m (Rm_mono (Ex.new hn)) hr
theorem lvL_of {ls : List (List Str)} {v : V} {H : Hp} (h : (rL (rL rS)).p ls v H) : ∃ p, v = .ref p ∧ LvL K H p ls := by
  obtain ⟨p, rows, rfl, hp, hu⟩ := h
  refine ⟨p, rfl, rows, sq_of hp, hu.len.symm, fun i ws hi => ?_⟩
  obtain ⟨u, h1, h2⟩ := hu.get hi
  obtain ⟨q, rfl, h3⟩ := rLS_at h2
  exact ⟨q, h1, sq_of h3⟩
theorem er_flat {i j : Nat} {vs vs1 : List Nat} {ls : List (List Str)} (h : EvR (rL (rL rS)) ps tl σ H ls) (hz : many ls ≤ 1000) (hij : j ≠ i) (hw : ∀ x, wipe ((wipe σ vs).set i (some x)) vs = wipe σ vs)
    (hi : ∀ x, ((wipe σ vs).set i (some x))[i]? = some (some x)) (hw1 : ∀ x y, wipe ((wipe ((wipe σ vs).set i (some x)) vs1).set j (some y)) vs1 = wipe ((wipe σ vs).set i (some x)) vs1)
    (hj : ∀ x y, ((wipe ((wipe σ vs).set i (some x)) vs1).set j (some y))[j]? = some (some y)) :
    EvR (rL rS) ps (tLc2 (iList K tl) (gName i) tYes (iList K (tVar i)) (gName j) tYes (tVar j) vs vs1) σ H ls.flatten := fun H0 e o Q q => h H0 e o _ fun v H1 e1 rv => by
  obtain ⟨p, rfl, hp⟩ := lvL_of (K := K) rv
  have hp' : LvL K H1 p ls := hp.ex Rm_ex
  exact (el_flat (tl := tC (.ref p)) (σ := σ) (H := H1) ev_c hp' hz hij hw hi hw1 hj) H1 (Ex.refl _) Q fun l H2 hl e2 h2 => q _ H2 (e1.trans e2) (rLS_of (Rm_get h2 ((o.ex e1).nin hl)))
theorem er_max {ns : List Int} (h : EvR (rL rI) ps te σ H ns) (hn : 0 < ns.length) : EvR rI ps (tCB (rMax K) (tCons te tNil)) σ H (mx ns) := er_cb1 h fun v H1 e o rv Q q => by
  obtain ⟨p, vs, rfl, hp, hu⟩ := rv
  have e1 : vs = ns.map V.int := (hu.imp fun _ _ z => z).eq
  subst e1
  exact ⟨p, ns, rfl, sq_of (Rm_ex _ _ hp), hn, fun m h1 h2 => by rw [mx_of h1 h2]; exact q _ H1 (Ex.refl _) rfl⟩
end
end RP
set_option Elab.async false
set_option linter.all false
set_option maxRecDepth 100000
set_option maxHeartbeats 4000000
/-! own dicts, displays with a star, tests of texts in lists -/
namespace RP
open PySem PySem.Spec PyProof.Rows L2 Evl Gen
section
variable {α β γ : Type} {R : Rp α} {S : Rp β} {T : Rp γ} {K : PySem.W.Frag} {ps : List Addr} {σ : L2.St} {H H' : Hp} {ta tb tc td te tl ty tv : TE} {tr : TA} {tt : TT} {v w : V} {a : α} {b : β} {c : γ} {D : Ends} {tu tz : TS} {p : Addr}
/-- put in behind, if not there -/
def add1 [DecidableEq α] (l : List α) (e : α) : List α := if e ∈ l then l else l ++ [e]
def adds [DecidableEq α] (l es : List α) : List α := es.foldl add1 l
theorem adds_nil [DecidableEq α] {l : List α} : adds l [] = l := rfl
theorem adds_snoc [DecidableEq α] {l es : List α} {e : α} : adds l (es ++ [e]) = add1 (adds l es) e := by unfold adds; rw [List.foldl_append]; rfl
theorem adds_app [DecidableEq α] {l es fs : List α} : adds l (es ++ fs) = adds (adds l es) fs := by unfold adds; rw [List.foldl_append]
theorem mem_add1 [DecidableEq α] {l : List α} {e x : α} : x ∈ add1 l e ↔ x ∈ l ∨ x = e := by
  unfold add1
  split
  · rename_i h
    exact ⟨fun m => .inl m, fun m => m.elim id fun z => by rw [z]; exact h⟩
  · rw [List.mem_append, List.mem_singleton]
theorem mem_adds [DecidableEq α] {es l : List α} {x : α} : x ∈ adds l es ↔ x ∈ l ∨ x ∈ es := by
  induction es generalizing l with
  | nil => exact ⟨fun m => .inl m, fun m => m.elim id fun z => nomatch z⟩
  | cons e r ih =>
    show x ∈ adds (add1 l e) r ↔ _
    rw [ih, mem_add1, List.mem_cons, or_assoc]
theorem nd_add1 [DecidableEq α] {l : List α} {e : α} (h : l.Nodup) : (add1 l e).Nodup := by
  unfold add1
  split
  · exact h
  · rename_i n
    exact List.nodup_append.mpr ⟨h, List.nodup_cons.mpr ⟨List.not_mem_nil, List.nodup_nil⟩, fun x hx y hy z => n (by rw [List.mem_singleton] at hy; rw [← hy, ← z]; exact hx)⟩
theorem nd_adds [DecidableEq α] {es l : List α} (h : l.Nodup) : (adds l es).Nodup := by
  induction es generalizing l with
  | nil => exact h
  | cons e r ih => exact ih (nd_add1 h)
theorem len_add1 [DecidableEq α] {l : List α} {e : α} : (add1 l e).length ≤ l.length + 1 := by
  unfold add1
  split
  · omega
  · rw [List.length_append]; exact Nat.le_refl _
theorem len_adds [DecidableEq α] {es l : List α} : (adds l es).length ≤ l.length + es.length := by
  induction es generalizing l with
  | nil => exact Nat.le_refl _
  | cons e r ih =>
    have h1 := ih (l := add1 l e)
    have h2 := len_add1 (l := l) (e := e)
    show (adds (add1 l e) r).length ≤ _
    rw [List.length_cons]
    omega
theorem adds_new [DecidableEq α] {es l : List α} (h : (l ++ es).Nodup) : adds l es = l ++ es := by
  induction es generalizing l with
  | nil => exact (List.append_nil l).symm
  | cons e r ih =>
    have hn : e ∉ l := fun m => (List.nodup_append.mp h).2.2 e m e (List.mem_cons_self ..) rfl
    have e1 : add1 l e = l ++ [e] := by unfold add1; rw [if_neg hn]
    show adds (add1 l e) r = _
    rw [e1, ih (by rw [List.append_assoc]; exact h), List.append_assoc]
    rfl
theorem keys_put {κ : Type} [DecidableEq κ] (kvs : List (κ × V)) (k : κ) (v : V) : (putK kvs k v).map Prod.fst = add1 (kvs.map Prod.fst) k := by
  have hh : (kvs.any fun kv => decide (kv.1 = k)) = decide (k ∈ kvs.map Prod.fst) := by
    rw [Bool.eq_iff_iff, List.any_eq_true, decide_eq_true_eq, List.mem_map]
    exact ⟨fun ⟨x, h1, h2⟩ => ⟨x, h1, of_decide_eq_true h2⟩, fun ⟨x, h1, h2⟩ => ⟨x, h1, decide_eq_true h2⟩⟩
  unfold putK add1
  rw [hh]
  by_cases h : k ∈ kvs.map Prod.fst
  · rw [if_pos (decide_eq_true h), if_pos h, List.map_map]
    refine List.map_congr_left fun x _ => ?_
    show (if x.1 = k then (x.1, v) else x).1 = x.1
    split <;> rfl
  · rw [if_neg (by rw [decide_eq_false h]; decide), if_neg h, List.map_append]
    rfl
theorem add1_map [DecidableEq α] [DecidableEq β] {f : α → β} (hf : ∀ x y, f x = f y → x = y) {l : List α} {e : α} : add1 (l.map f) (f e) = (add1 l e).map f := by
  unfold add1
  by_cases h : e ∈ l
  · rw [if_pos h, if_pos (List.mem_map.mpr ⟨e, h, rfl⟩)]
  · rw [if_neg h, if_neg fun m => h (by obtain ⟨x, h1, h2⟩ := List.mem_map.mp m; rw [← hf x e h2]; exact h1), List.map_append]
    rfl
/-- keys: pairs of texts -/
def lk2 (e : Str × Str) : List L2.Key := [.inr e.1, .inr e.2]
theorem lk2_inj (e f : Str × Str) (h : lk2 e = lk2 f) : e = f := by
  unfold lk2 at h
  injection h with h1 h2
  injection h2 with h2 _
  injection h1 with h1
  injection h2 with h2
  exact Prod.ext h1 h2
/-- an own dict: its keys -/
def DT (ps : List Addr) (H : Hp) (p : Addr) (es : List (Str × Str)) : Prop := p ∈ ps ∧ ∃ kvs, H p = some (.dT kvs) ∧ kvs.map Prod.fst = es.map lk2
def DK (ps : List Addr) (H : Hp) (p : Addr) (ns : List Str) : Prop := p ∈ ps ∧ ∃ kvs, H p = some (.dK kvs) ∧ kvs.map Prod.fst = ns.map Sum.inr
theorem DT.ex {es : List (Str × Str)} (h : DT ps H p es) (e : Ex H H') : DT ps H' p es := let ⟨m, kvs, h1, h2⟩ := h; ⟨m, kvs, e _ _ h1, h2⟩
theorem DK.ex {ns : List Str} (h : DK ps H p ns) (e : Ex H H') : DK ps H' p ns := let ⟨m, kvs, h1, h2⟩ := h; ⟨m, kvs, e _ _ h1, h2⟩
theorem DK.oth {q : Addr} {ns : List Str} (h : DK ps H q ns) (n : q ≠ p) (o : Oth p H H') : DK ps H' q ns := let ⟨m, kvs, h1, h2⟩ := h; ⟨m, kvs, o _ _ n h1, h2⟩
theorem new_own (o : Own ps H) {ob : HO} (hp : H p = none) (hn : ∀ xs, ob ≠ .tup xs := by intro _ z; cases z) : Own (p :: ps) (upd H p ob) ∧ Ex (Rm ps H) (Rm (p :: ps) (upd H p ob)) :=
  ⟨(o.ex (Ex.new hp)).push upd_same hn, fun b ob h => by
    have n : b ≠ p := fun z => by rw [z, Rm_none hp] at h; cases h
    exact Rm_get (by rw [upd_ne n]; exact Rm_ex _ _ h) (fun m => (List.mem_cons.mp m).elim n fun m => by rw [Rm_own m] at h; cases h)⟩
theorem q_newDT {i : Nat} (o : Own ps H) (k : ∀ p H1, Ex H H1 → p ∉ ps → H p = none → Own (p :: ps) H1 → Ex (Rm ps H) (Rm (p :: ps) H1) → DT (p :: ps) H1 p [] → tz D (σ.set i (some (.ref p))) H1) : tSeq (tAsg tDNewT (gName i)) tz D σ H :=
  fun p hp => k p _ (Ex.new hp) (o.nin hp) hp (new_own o hp).1 (new_own o hp).2 ⟨List.mem_cons_self .., [], upd_same, rfl⟩
theorem q_newDK {i : Nat} (o : Own ps H) (k : ∀ p H1, Ex H H1 → p ∉ ps → H p = none → Own (p :: ps) H1 → Ex (Rm ps H) (Rm (p :: ps) H1) → DK (p :: ps) H1 p [] → tz D (σ.set i (some (.ref p))) H1) : tSeq (tAsg tDNewK (gName i)) tz D σ H :=
  fun p hp => k p _ (Ex.new hp) (o.nin hp) hp (new_own o hp).1 (new_own o hp).2 ⟨List.mem_cons_self .., [], upd_same, rfl⟩
theorem s_putT {es : List (Str × Str)} {e : Str × Str} (o : Own ps H) (l : DT ps H p es) (hd : Ev td σ H (.ref p)) (hy : EvR rE ps ty σ H e) (hv : Ev tv σ H v) (hz : es.length < 100000)
    (k : ∀ H1, Fr ps H H1 → DT ps H1 p (add1 es e) → Oth p H H1 → D.nx σ H1) : sDPut td ty tv D σ H := hv H (Ex.refl H) _ fun H1 e1 => hd H1 e1 _ fun H2 e2 => hy H2 (e1.trans e2) (o.ex (e1.trans e2)) _ fun y H3 e3 r => by
  obtain ⟨m, kvs, h1, h2⟩ := l
  obtain ⟨b, y1, y2, rfl, hb, rfl, rfl⟩ := r
  have e13 := (e1.trans e2).trans e3
  have hl : kvs.length = es.length := by rw [← List.length_map Prod.fst, h2, List.length_map]
  refine ⟨p, _, rfl, DPut.t (k := lk2 e) (e13 _ _ h1) (Rm_ex _ _ hb) (sz_lt (by omega)), k _ ((Fr.of o e13).upd m) ⟨m, _, upd_same, ?_⟩ (Oth.upd e13)⟩
  rw [keys_put, h2, add1_map lk2_inj]
theorem s_putK {ns : List Str} {x : Str} (o : Own ps H) (l : DK ps H p ns) (hd : Ev td σ H (.ref p)) (hy : EvR rS ps ty σ H x) (hv : Ev tv σ H v) (hz : ns.length < 100000)
    (k : ∀ H1, Fr ps H H1 → DK ps H1 p (add1 ns x) → Oth p H H1 → D.nx σ H1) : sDPut td ty tv D σ H := hv H (Ex.refl H) _ fun H1 e1 => hd H1 e1 _ fun H2 e2 => hy H2 (e1.trans e2) (o.ex (e1.trans e2)) _ fun y H3 e3 r => by
  obtain ⟨m, kvs, h1, h2⟩ := l
  obtain rfl : y = .str x := r
  have e13 := (e1.trans e2).trans e3
  have hl : kvs.length = ns.length := by rw [← List.length_map Prod.fst, h2, List.length_map]
  refine ⟨p, _, rfl, DPut.k (k := .inr x) (e13 _ _ h1) (sz_lt (by omega)), k _ ((Fr.of o e13).upd m) ⟨m, _, upd_same, ?_⟩ (Oth.upd e13)⟩
  rw [keys_put, h2, add1_map (f := (Sum.inr : Str → L2.Key)) (fun x y z => Sum.inr.inj z)]
theorem q_putK {ns : List Str} {x : Str} (o : Own ps H) (l : DK ps H p ns) (hd : Ev td σ H (.ref p)) (hy : EvR rS ps ty σ H x) (hv : Ev tv σ H v) (hz : ns.length < 100000)
    (k : ∀ H1, Fr ps H H1 → DK ps H1 p (add1 ns x) → Oth p H H1 → tz D σ H1) : tSeq (sDPut td ty tv) tz D σ H := s_putK (D := { D with nx := tz D }) o l hd hy hv hz k
/-- is a text among the keys -/
theorem val_some {kvs : List (L2.Key × V)} {ns : List Str} (h : kvs.map Prod.fst = ns.map Sum.inr) (x : Str) : (valV kvs (.inr x)).isSome = decide (x ∈ ns) := by
  rw [← valV_any, Bool.eq_iff_iff, List.any_eq_true, decide_eq_true_eq]
  have hm : (Sum.inr x : L2.Key) ∈ kvs.map Prod.fst ↔ x ∈ ns := by
    rw [h, List.mem_map]
    exact ⟨fun ⟨y, h1, h2⟩ => by rw [← Sum.inr.inj h2]; exact h1, fun m => ⟨x, m, rfl⟩⟩
  rw [← hm, List.mem_map]
  exact ⟨fun ⟨y, h1, h2⟩ => ⟨y, h1, of_decide_eq_true h2⟩, fun ⟨y, h1, h2⟩ => ⟨y, h1, decide_eq_true h2⟩⟩
theorem er_inDK {ns : List Str} {x : Str} (o : Own ps H) (l : DK ps H p ns) (hy : EvR rS ps ty σ H x) (hd : Ev td σ H (.ref p)) : EvR rB ps (tDIn ty td) σ H (decide (x ∈ ns)) := fun H1 e o1 Q q =>
  hy H1 e o1 _ fun y H2 e2 r => hd H2 (e.trans e2) _ fun H3 e3 => by
    obtain ⟨m, kvs, h1, h2⟩ := l
    obtain rfl : y = .str x := r
    refine ⟨p, _, rfl, DGet.k (k := .inr x) (((e.trans e2).trans e3) _ _ h1), ?_⟩
    rw [val_some h2]
    exact q _ H3 (e2.trans e3) rfl
theorem er_notinDK {ns : List Str} {x : Str} (o : Own ps H) (l : DK ps H p ns) (hy : EvR rS ps ty σ H x) (hd : Ev td σ H (.ref p)) : EvR rB ps (tDNotIn ty td) σ H (!decide (x ∈ ns)) := fun H1 e o1 Q q =>
  hy H1 e o1 _ fun y H2 e2 r => hd H2 (e.trans e2) _ fun H3 e3 => by
    obtain ⟨m, kvs, h1, h2⟩ := l
    obtain rfl : y = .str x := r
    refine ⟨p, _, rfl, DGet.k (k := .inr x) (((e.trans e2).trans e3) _ _ h1), ?_⟩
    rw [val_some h2]
    exact q _ H3 (e2.trans e3) rfl
/-- a dict by texts: its keys -/
def rD : Rp (List Str) := ⟨fun ns v H => ∃ p kvs, v = .ref p ∧ H p = some (.dK kvs) ∧ kvs.map Prod.fst = ns.map Sum.inr, fun e ⟨p, kvs, h1, h2, h3⟩ => ⟨p, kvs, h1, e _ _ h2, h3⟩⟩
theorem DK.rep {ns : List Str} (h : DK (p :: ps) H p ns) (n : p ∉ ps) : rD.p ns (.ref p) (Rm ps H) := let ⟨_, kvs, h1, h2⟩ := h; ⟨p, kvs, rfl, Rm_get h1 n, h2⟩
theorem er_inD {ns : List Str} {x : Str} (hy : EvR rS ps ty σ H x) (hd : EvR rD ps td σ H ns) : EvR rB ps (tDIn ty td) σ H (decide (x ∈ ns)) := fun H1 e o1 Q q =>
  hy H1 e o1 _ fun y H2 e2 r => hd H2 (e.trans e2) (o1.ex e2) _ fun w H3 e3 rw' => by
    obtain ⟨p, kvs, rfl, h1, h2⟩ := rw'
    obtain rfl : y = .str x := r
    refine ⟨p, _, rfl, DGet.k (k := .inr x) (Rm_ex _ _ h1), ?_⟩
    rw [val_some h2]
    exact q _ H3 (e2.trans e3) rfl
/-- a text in a list of texts -/
theorem er_inL {ns : List Str} {x : Str} {r : R2} (hr : ∀ (q : Addr) (ns : List Str) (x : Str) (H1 : Hp) (Q : VK), SqL K H1 q (List.map V.str ns) → Q (.bl (decide (x ∈ ns))) H1 → r (.str x) (.ref q) H1 Q) (hy : EvR rS ps ty σ H x) (hd : EvR (rL rS) ps td σ H ns) : EvR rB ps (tOp r ty td) σ H (decide (x ∈ ns)) := er_op hy hd fun v w H1 e o rv rw' Q q => by
  obtain rfl : v = .str x := rv
  obtain ⟨p, rfl, h1⟩ := rLS_at rw'
  exact hr p ns x H1 Q (sq_of (Rm_ex _ _ h1)) (q _ H1 (Ex.refl _) rfl)
/-- list(d), d an own dict by pairs -/
theorem keys_all {H1 : Hp} (o : Own ps H1) : ∀ {es : List (Str × Str)} {kvs : List (List L2.Key × V)} {bs : List Addr}, kvs.map Prod.fst = es.map lk2 → IsKeys H1 kvs bs → All2 (fun x y => rE.p x y (Rm ps H1)) es (bs.map V.ref)
  | [], [], [], _, _ => trivial
  | e :: es, kv :: kvs, b :: bs, h, k => by
    cases k with
    | cons h1 h2 =>
      rw [List.map_cons, List.map_cons] at h
      injection h with ha hb
      rw [ha] at h1
      exact ⟨⟨b, .str e.1, .str e.2, rfl, Rm_get h1 (o.tup h1), rfl, rfl⟩, keys_all o hb h2⟩
  | [], _ :: _, _, h, _ => nomatch h
  | _ :: _, [], _, h, _ => nomatch h
  | [], [], _ :: _, _, k => nomatch k
  | _ :: _, _ :: _, [], _, k => nomatch k
theorem er_listDT {es : List (Str × Str)} {r : List V → Hp → VK → Prop} (l : DT ps H p es) (hd : Ev td σ H (.ref p)) (hr : ∀ (kvs : List (List L2.Key × V)) (H1 : Hp) (Q : VK), H1 p = some (.dT kvs) → (∀ (l : Addr) (bs : List Addr), H1 l = none → IsKeys H1 kvs bs → Q (.ref l) (upd H1 l (.lst (bs.map V.ref)))) → r [.ref p] H1 Q) : EvR (rL rE) ps (tCB r (tCons td tNil)) σ H es := fun H0 e o Q q => hd H0 e _ fun H1 e1 => by
  obtain ⟨m, kvs, h1, h2⟩ := l
  refine hr kvs H1 Q ((e.trans e1) _ _ h1) fun l bs hl hk => q _ _ (e1.trans (Ex.new hl)) ⟨l, _, rfl, Rm_get upd_same ((o.ex e1).nin hl), ?_⟩
  exact (keys_all (o.ex e1) h2 hk).imp fun _ _ r => rE.m (Rm_mono (Ex.new hl)) r
/-- [*xs, ..] -/
theorem eas_star {as bs : List α} (h : EvR (rL R) ps te σ H as) (hr : EaR R ps tr σ H bs) : EaR R ps (StX.tStar K te tr) σ H (as ++ bs) := fun H1 e o Q q => h H1 e o _ fun v H2 e2 r => by
  obtain ⟨p, vs, rfl, h1, h2⟩ := r
  refine ⟨p, vs, rfl, .inr (sq_of (Rm_ex _ _ h1)), hr H2 (e.trans e2) (o.ex e2) _ fun ws H3 e3 rs => q _ H3 (e2.trans e3) ((h2.imp fun _ _ r => R.m (Rm_mono e3) r).app rs)⟩
/-- for x in d: own[x] = True -/
theorem q_mark {i j k : Nat} {ns es : List Str} {d : Addr} (o : Own ps H) (hi : σ[i]? = some (some (.ref d))) (hk : σ[k]? = some (some (.ref p))) (hj : j < σ.length) (nk : k ≠ j) (hd : rD.p ns (.ref d) (Rm ps H)) (l : DK ps H p es) (hz : es.length + ns.length < 50000)
    (kk : ∀ x H1, Fr ps H H1 → DK ps H1 p (adds es ns) → Oth p H H1 → tz D (σ.set j x) H1) : tSeq (tLock (tFor (iKeys (tVar i)) (gName j) (sDPut (tVar k) (tVar j) (tC (.bl true))))) tz D σ H := by
  obtain ⟨d', kvs, e0, hd1, hd2⟩ := hd
  cases e0
  have dn : d ∉ ps := fun m => by rw [Rm_own m] at hd1; cases hd1
  have hH : H d = some (.dK kvs) := Rm_ex _ _ hd1
  have dp : d ≠ p := fun z => dn (z ▸ l.1)
  have hlen : kvs.length = ns.length := by rw [← List.length_map Prod.fst, hd2, List.length_map]
  refine ⟨d, .dK kvs, hH, trivial, fun od => ?_⟩
  refine ⟨.ref d, hi, d, od, rfl, .inl ⟨kvs, upd_same, ?_⟩⟩
  obtain ⟨m, kvp, hp1, hp2⟩ := l
  have item : ∀ {i : Nat} {kk : L2.Key} {vv : V}, kvs[i]? = some (kk, vv) → ∃ x, ns[i]? = some x ∧ kk = .inr x := fun {i kk vv} h => by
    have h1 : (kvs.map Prod.fst)[i]? = some kk := by rw [List.getElem?_map, h]; rfl
    rw [hd2, List.getElem?_map] at h1
    cases hx : ns[i]? with
    | none => rw [hx] at h1; cases h1
    | some x => rw [hx] at h1; exact ⟨x, rfl, (Option.some.inj h1).symm⟩
  refine for_it (walk_keys (d := d) (o := od) (kvs := kvs)) (fun i σ' H' => (∃ x, σ' = σ.set j x) ∧ H' d = some (.frz od (.dK kvs)) ∧ (∃ kvq, H' p = some (.dK kvq) ∧ kvq.map Prod.fst = (adds es (ns.take i)).map Sum.inr) ∧ ∀ b u, b ≠ d → b ≠ p → H b = some u → H' b = some u)
    ⟨⟨σ[j], (List.set_getElem_self hj).symm⟩, upd_same, ⟨kvp, by rw [upd_ne dp.symm]; exact hp1, by rw [List.take_zero]; exact hp2⟩, fun b u n1 _ h => by rw [upd_ne n1]; exact h⟩ (fun i σ' H' _ p => p.2.1) (fun i x σ' H1 H2 hil pv y => ?_) (fun σ' H' pv => ?_)
  · obtain ⟨⟨x0, rfl⟩, h1, ⟨kvq, h2, h3⟩, h4⟩ := pv
    obtain ⟨rfl, kk, vv, hkv, rfl⟩ := y
    obtain ⟨x, hx, rfl⟩ := item hkv
    have hl : kvq.length < 100000 := by
      rw [← List.length_map Prod.fst, h3, List.length_map]
      have h5 := len_adds (l := es) (es := ns.take i)
      have h6 : (ns.take i).length ≤ ns.length := by rw [List.length_take]; exact Nat.min_le_right _ _
      omega
    refine ⟨.ref p, by rw [List.getElem?_set_ne (fun z => nk z.symm), List.getElem?_set_ne (fun z => nk z.symm)]; exact hk, .str x, by rw [List.getElem?_set_self (by rw [List.length_set]; exact hj)]; rfl, p, _, rfl, DPut.k (k := .inr x) h2 (sz_lt hl), ?_⟩
    refine ⟨⟨_, by rw [List.set_set]⟩, by rw [upd_ne dp]; exact h1, ⟨_, upd_same, ?_⟩, fun b u n1 n2 h => by rw [upd_ne n2]; exact h4 b u n1 n2 h⟩
    rw [keys_put, h3, add1_map (f := (Sum.inr : Str → L2.Key)) (fun x y z => Sum.inr.inj z), take_snoc hx, adds_snoc]
  · obtain ⟨⟨x0, rfl⟩, h1, ⟨kvq, h2, h3⟩, h4⟩ := pv
    rw [hlen, List.take_length] at h3
    refine ⟨h1, kk x0 _ ⟨fun q hq => ?_, fun b u hb => ?_⟩ ⟨m, kvq, by rw [upd_ne dp.symm]; exact h2, h3⟩ fun q u n h => ?_⟩
    · by_cases e : q = p
      · subst e
        exact ⟨_, by rw [upd_ne dp.symm]; exact h2, fun xs z => by cases z⟩
      · obtain ⟨ob, ho, hn⟩ := o q hq
        have nd : q ≠ d := fun z => dn (z ▸ hq)
        exact ⟨ob, by rw [upd_ne nd]; exact h4 q ob nd e ho, hn⟩
    · have hbn : b ∉ ps := fun mm => by rw [Rm_own mm] at hb; cases hb
      have hb' := Rm_ex _ _ hb
      refine Rm_get ?_ hbn
      by_cases e : b = d
      · subst e
        rw [upd_same, ← hb', hH]
      · rw [upd_ne e]
        exact h4 b u e (fun z => hbn (z ▸ m)) hb'
    · by_cases e : q = d
      · subst e
        rw [upd_same, ← h, hH]
      · rw [upd_ne e]
        exact h4 q u e n h
end
end RP
set_option Elab.async false
set_option linter.all false
set_option maxRecDepth 100000
set_option maxHeartbeats 4000000
/-! the head's facts with own errors among them -/
namespace He
open PySem PySem.Spec PyProof.Rows L2
open PySem.XV (ErrBase refsB)
def tV : List Value := [.type "ValueError", .type "Exception", .type "BaseException", .type "object"]
def tL : List Value := [.type "LookupError", .type "Exception", .type "BaseException", .type "object"]
def tR : List Value := [.type "RuntimeError", .type "Exception", .type "BaseException", .type "object"]
def tA : List Value := [.type "ArithmeticError", .type "Exception", .type "BaseException", .type "object"]
def baseB (n : String) (bm : List Value) : Bool := (n == "ValueError.__new__" && refsB tV bm) || (n == "LookupError.__new__" && refsB tL bm) || (n == "RuntimeError.__new__" && refsB tR bm) || (n == "ArithmeticError.__new__" && refsB tA bm)
theorem baseB_ok {n : String} {bm : List Value} (h : baseB n bm = true) : ∃ B initId tail, ErrBase B n initId tail ∧ refsB tail bm = true := by
  unfold baseB at h
  simp only [Bool.or_eq_true, Bool.and_eq_true, beq_iff_eq] at h
  rcases h with ((⟨rfl, h⟩ | ⟨rfl, h⟩) | ⟨rfl, h⟩) | ⟨rfl, h⟩
  · exact ⟨_, _, _, PySem.XV.base_value, h⟩
  · exact ⟨_, _, _, PySem.XV.base_lookup, h⟩
  · exact ⟨_, _, _, PySem.XV.base_runtime, h⟩
  · exact ⟨_, _, _, PySem.XV.base_arith, h⟩
def clsB (K : PySem.W.Frag) (C : Addr) : Bool := match K.lookup C with
  | some ⟨.type t, _, .cls cd, sl⟩ => (match cd.mro, sl.toList with
    | .ref C' :: bm, [_, _, _, _, some (.builtin n), _] => t == "type" && (C' == C && (!cd.hasDel && (cd.hasDict && baseB n bm)))
    | _, _ => false)
  | _ => false
theorem clsB_ok {K : PySem.W.Frag} {C : Addr} (h : clsB K C = true) : ∃ nm q N bs bm sn sub ab col dd k0 k1 k2 k3 k5 B newId initId tail, ErrBase B newId initId tail ∧ K.lookup C = some (excClassObj nm q C N bs bm true sn sub ab col dd k0 k1 k2 k3 k5 newId) ∧ refsB tail bm = true := by
  unfold clsB at h
  split at h
  · rename_i t dd cd sl ho
    split at h
    · rename_i C' bm k0 k1 k2 k3 n k5 hm hs
      obtain ⟨h1, h⟩ := ba h
      obtain ⟨h2, h⟩ := ba h
      obtain ⟨h3, h⟩ := ba h
      obtain ⟨h4, h5⟩ := ba h
      obtain ⟨B, initId, tail, EB, hr⟩ := baseB_ok h5
      have e1 : t = "type" := beq_iff_eq.mp h1
      have e2 : C' = C := beq_iff_eq.mp h2
      subst e1 e2
      obtain ⟨nm, bs, mro, ns, qn, hd, sn, sub, ab, col, del⟩ := cd
      dsimp only at hm h3 h4
      have e3 : del = false := by simpa using h3
      subst hm e3 h4
      have hsl : sl = #[k0, k1, k2, k3, some (.builtin n), k5] := by
        obtain ⟨l⟩ := sl
        simp only at hs
        rw [hs]
      subst hsl
      exact ⟨_, _, _, _, _, _, _, _, _, _, _, _, _, _, _, _, _, _, _, EB, ho, hr⟩
    · cases h
  · cases h
def exB (K : PySem.W.Frag) (x : Str) : Bool :=
  eqO (PySem.W.nsIn K mainGlobals x) (some (some (.ref (ga K x)))) && (clsB K (ga K x) && (eqO (PySem.W.findIn K (.ref (ga K x)) "__setattr__") (some (some (.builtin "object.__setattr__"))) &&
  (eqO (PySem.W.findIn K (.ref (ga K x)) "__getattribute__") (some (some (.builtin "BaseException.__getattribute__"))) && (eqO (PySem.W.findIn K (.ref (ga K x)) "__getattr__") (some none) &&
  (decide (PySem.W.subIn K (.ref (ga K x)) (.type "BaseException") = some true) && (decide (PySem.W.typeIn K (.ref (ga K x)) = some (.type "type")) && (PySem.W.keepIn K (.ref (ga K x)) &&
  (eqO (PySem.W.specialIn K (.ref (ga K x)) "__call__") (some (some (.builtin "type.__call__"))) && (decide (PySem.W.instIn K (.ref (ga K x)) (.type "type") = some true) && (PySem.W.hasDictIn K (ga K x) &&
  (eqO (PySem.W.findIn K (.ref (ga K x)) "__class__") (some (some (.builtin "object.__class__"))) && (decide (PySem.W.mroIn K (ga K x) (.type "object") = some true) &&
  (eqO (PySem.W.specialIn K (.builtin "object.__class__") "__get__") (some (some (.builtin "getset_descriptor.__get__"))) && decide (PySem.W.takesIn K (.builtin "object.__class__") = some true))))))))))))))
section
variable {K : PySem.W.Frag} {h : Heap} {mg : Str → Option Value} {x f g : Str}
theorem exB_ok (c : exB K x = true) : (Fa.glo x).ok K = true ∧ ExC K (ga K x) := by
  obtain ⟨c0, c⟩ := ba c
  obtain ⟨c1, c⟩ := ba c
  obtain ⟨c2, c⟩ := ba c
  obtain ⟨c3, c⟩ := ba c
  obtain ⟨c4, c⟩ := ba c
  obtain ⟨c5, c⟩ := ba c
  obtain ⟨c6, c⟩ := ba c
  obtain ⟨c7, c⟩ := ba c
  obtain ⟨c8, c⟩ := ba c
  obtain ⟨c9, c⟩ := ba c
  obtain ⟨d0, c⟩ := ba c
  obtain ⟨d1, c⟩ := ba c
  obtain ⟨d2, c⟩ := ba c
  obtain ⟨d3, d4⟩ := ba c
  exact ⟨c0, clsB_ok c1, eqO_ok c2, eqO_ok c3, eqO_ok c4, of_decide_eq_true c5, of_decide_eq_true c6, c7, eqO_ok c8, of_decide_eq_true c9, d0, eqO_ok d1, of_decide_eq_true d2, eqO_ok d3, of_decide_eq_true d4⟩
def inB (K : PySem.W.Frag) (x : Str) : Bool := eqO (PySem.W.findIn K (.ref (ga K x)) "__init__") (some (some (.ref (ma K (ga K x) "__init__")))) && decide (PySem.W.typeIn K (.ref (ma K (ga K x) "__init__")) = some (.type "function"))
def er1B (K : PySem.W.Frag) (x f : Str) : Bool := exB K x && (eqO (PySem.W.findIn K (.ref (ga K x)) f) (some none) && inB K x)
def er2B (K : PySem.W.Frag) (x f g : Str) : Bool := exB K x && (eqO (PySem.W.findIn K (.ref (ga K x)) f) (some none) && (eqO (PySem.W.findIn K (.ref (ga K x)) g) (some none) && inB K x))
/-- no __init__, over RuntimeError -/
def erRB (K : PySem.W.Frag) (x : Str) : Bool := exB K x && PySem.W.excIn K (ga K x) [.type "RuntimeError", .type "Exception", .type "BaseException", .type "object"] "RuntimeError.__new__"
end
/-! ### the Hook -/
abbrev AlX : Type := Bool × AlD
def obsX (ex : PySem.W.Frag → Bool) (fa : List Fa) (fn : List DefD) (K : PySem.W.Frag) : AlX := (ex K, obsD fa fn K)
def SaysX (ex : PySem.W.Frag → Bool) (fa : List Fa) (fn : List DefD) (K : PySem.W.Frag) : Prop := obsX ex fa fn K = (true, valD fn)
def obsXG (ex : PySem.W.Frag → Bool) (n : Nat) (fa : List Fa) (fn : List DefD) (g : Addr → Option Obj) : AlX := obsX ex fa fn (frG g (asD g n))
def hookX (ex : PySem.W.Frag → Bool) (n : Nat) (fa : List Fa) (fn : List DefD) : PySem.W.Hook where
  α := AlX
  obs := fun s => obsXG ex n fa fn s.heap.get?
  val := fun _ => (true, valD fn)
  says := fun _ h => ∃ K : PySem.W.Frag, K.In h ∧ SaysX ex fa fn K
  of := fun _ _ e => ⟨_, frG_in, e⟩
  keeps := fun _ _ _ ⟨K, hK, c⟩ k => ⟨K, PySem.W.Frag.In.keeps hK k, c⟩
theorem obsXG_eq {ex : PySem.W.Frag → Bool} {n : Nat} {fa : List Fa} {fn : List DefD} {g : Addr → Option Obj} {s : Shared} (h : ∀ a, g a = s.heap.get? a) : obsXG ex n fa fn g = (hookX ex n fa fn).obs s := by
  have e : g = s.heap.get? := funext h
  rw [e] <;> rfl
theorem SaysX.ex {ex : PySem.W.Frag → Bool} {fa : List Fa} {fn : List DefD} {K : PySem.W.Frag} (c : SaysX ex fa fn K) : ex K = true := congrArg (fun z : AlX => z.1) c
theorem SaysX.d {ex : PySem.W.Frag → Bool} {fa : List Fa} {fn : List DefD} {K : PySem.W.Frag} (c : SaysX ex fa fn K) : SaysD fa fn K := congrArg (fun z : AlX => z.2) c
end He
namespace L2
open PySem PySem.Spec PyProof.Rows
theorem FunD.toFun {K : PySem.W.Frag} {x qual : Str} {st : Stmt} {f : Addr} {fd : FuncData} {kws : List (Str × V)} (F : FunD K x qual (defArgs st) (defBody st) (defScope st) [] kws f fd) : Fun K x qual st f fd := by
  obtain ⟨oc, od, dV, kV, doc, pm, an, cdv, ct, osl, rfl, lk, hcd, hD, hK⟩ := F.ex
  rcases hD with ⟨_, rfl⟩ | ⟨e, _⟩
  · exact ⟨⟨oc, od, kV, doc, pm, an, cdv, ct, osl, rfl, lk, hcd⟩, F.kp⟩
  · exact absurd rfl e
/-- the law's end over facts, the law's def one that asks no repr above it -/
theorem law_callG {P : Program} {w : World} {K : PySem.W.Frag} {mg mb : Str → Option Value} {k : Nat} {fa a : Addr} {fd : FuncData} {x : Str} {sp : Sp} {s₁ : Shared} {vs : List Value} {ns : List Int}
    (KX : K.In s₁.heap) (hns : s₁.heap.Ns mainGlobals mg) (hb : s₁.heap.Ns builtinsNs mb) (hbb : ∀ x : Str, x ≠ "__name__" → mb x = bootBuiltins x) (hlim : s₁.heap.NoLimit) (hg : s₁.gens = #[])
    (ha : s₁.heap.get? a = some { cls := .type "list", data := .seq vs.toArray }) (hi : IntsAre vs ns) (hl : ns.length ≤ sizeLine) (hr : Room k callerA)
    (F : ∀ base : Heap, K.In base → base.Ns mainGlobals mg → FnOkG P w K mg base CX0 k fa fd [x] sp) (hbind : ∀ (s : Shared) (u : Value), BindsTo s fd ⟨[u], []⟩ [(x, u)])
    (hsp : ∀ H : Hp, Only H → SqL K H a (ns.map V.int) → sp [.ref a] H (fun v _ => v = .bl true) fun _ _ _ => False) :
    codeAny (model P w) callerA (.call (.ref fa) ⟨[.ref a], []⟩) (fun r s' => r = .ok (.ret (.bool true)) ∧ OldK s₁.heap s'.heap ∧ s'.os = s₁.os ∧ AllBare s'.gens) s₁ := by
  have rv := vals_ints hi
  have lenV := hi.length
  have core : ∀ H : Hp, Only H → SqL K H a (ns.map V.int) → HOk P w H s₁.heap → (∀ b, H b ≠ none → b = a) → (H a ≠ none → K.lookup a = none) →
      codeAny (model P w) callerA (.call (.ref fa) ⟨[.ref a], []⟩) (fun r s' => r = .ok (.ret (.bool true)) ∧ OldK s₁.heap s'.heap ∧ s'.os = s₁.os ∧ AllBare s'.gens) s₁ := by
    intro H hO hS hok hA hK
    have base_of : ∀ {b : Addr} {o : Obj}, s₁.heap.get? b = some o → H b = none → (hidT s₁.heap H).get? b = some o := fun e n => hidT_get e n
    have noA : ∀ {b : Addr} {o : Obj} {es : Array DictEntry} {ep : Nat}, s₁.heap.get? b = some o → o.data = .dict es ep → H b = none := fun {b o es ep} e d => by
      cases q : H b with
      | none => rfl
      | some u =>
        have e' : b = a := hA b (by rw [q]; simp)
        subst e'
        rw [ha] at e; cases e
        have d' : Data.seq vs.toArray _ = Data.dict es ep := d
        cases d'
    have nsK : ∀ {b : Addr} {m : Str → Option Value}, s₁.heap.Ns b m → (hidT s₁.heap H).Ns b m := fun {b m} ⟨o, es, ep, e, d, r⟩ => ⟨o, es, ep, base_of e (noA e d), d, r⟩
    have hKb : K.In (hidT s₁.heap H) := fun b o e => base_of (KX b o e) (by
      cases q : H b with
      | none => rfl
      | some u =>
        have e' : b = a := hA b (by rw [q]; simp)
        subst e'
        rw [hK (by rw [q]; simp)] at e; cases e)
    have hM : Mod K mg (hidT s₁.heap H) := ⟨hKb, nsK hns, ⟨mb, nsK hb, hbb⟩, let ⟨mc, h1, h2⟩ := hlim; ⟨mc, nsK h1, h2⟩⟩
    have e0 : Env0 P w K mg (hidT s₁.heap H) callerA [] s₁ H := ⟨rfl, hM, fun b o e => of_hidT e, Nat.le_of_eq (hidT_size _ _), trivial, fun b hb => absurd (show b ∈ ([] : List Addr) from hb) (by simp), hok, .of_eq hg⟩
    refine codeAny_mono ((F _ hKb (nsK hns)).run callerA [] s₁ H ⟨[.ref a], []⟩ [.ref a] [.ref a] _ _ rfl hr e0 (hbind s₁ (.ref a)) (.cons rfl .nil) (hsp H hO hS)) fun r s' h => ?_
    cases r with
    | error e => exact False.elim h
    | ok fl =>
      cases fl with
      | next => exact False.elim h
      | brk => exact False.elim h
      | cont => exact False.elim h
      | ret u =>
        obtain ⟨v, H', os, bare, un, hok', r', q⟩ := h
        have q' : v = .bl true := q
        subst q'
        obtain rfl : u = Value.bool true := r'
        refine ⟨rfl, OldK.of_keep fun b o e => ?_, os, bare⟩
        cases q : H b with
        | none => exact un.keep b o e q (by intro z; exact absurd (show b ∈ ([] : List Addr) from z) (by simp)) (by simp)
        | some u =>
          rcases hO b with z | ⟨ob, xs, z⟩
          · rw [q] at z; cases z
          · have z2 := un.frzs b ob _ z
            obtain ⟨e1, _⟩ := hok b _ z
            obtain ⟨e2, _⟩ := hok' b _ z2
            rw [e] at e1; cases e1
            exact e2
  cases hk : K.lookup a with
  | some o =>
    have e := KX a o hk
    rw [ha] at e
    cases e
    refine core (fun _ => none) (fun _ => .inl rfl) (.inr ⟨_, vs.toArray, _, hk, rfl, rfl, rfl, by rw [List.size_toArray, lenV]; exact hl, by simpa using rv⟩) (fun b u z => by have z' : (none : Option HO) = some u := z; cases z') (fun b z => absurd rfl z) fun z => absurd rfl z
  | none =>
    refine core (fun b => if b = a then some (.frz { cls := .type "list", data := .seq vs.toArray } (.lst (ns.map V.int))) else none) (fun b => ?_) (.inl (.inr ⟨{ cls := .type "list", data := .seq vs.toArray }, if_pos rfl⟩)) (fun b u z => ?_) (fun b z => ?_) fun _ => hk
    · by_cases hb : b = a
      · exact .inr ⟨_, _, if_pos hb⟩
      · exact .inl (if_neg hb)
    · by_cases hb : b = a
      · have z' := (if_pos hb).symm.trans z
        cases z'
        subst hb
        exact ⟨ha, by rw [List.length_map]; exact hl, vs, _, rv, ha⟩
      · have z' := (if_neg hb).symm.trans z
        cases z'
    · by_cases hb : b = a
      · exact hb
      · exact absurd (if_neg hb) z
theorem walk_ofG {l : PySem.W.OpenLaw} {n k : Nat} {q : Program} {loose : List Str} {XP : (Str → Option Value) → Heap → Prop} {YP : World → Heap → Prop} {d : DefRec} {x : Str}
    (hn : l.most = some n) (hn2 : n ≤ sizeLine) (hdf : d.params.defaults = []) (hr : Room k callerA)
    (F : ∀ (w : World) (mg : Str → Option Value) (fa : Addr) (h : Heap), YP w h → h.Ns mainGlobals mg → mg d.name = some (.ref fa) →
      ∃ (K : PySem.W.Frag) (fd : FuncData) (sp : Sp), K.In h ∧ (∀ (s : Shared) (u : Value), BindsTo s fd ⟨[u], []⟩ [(x, u)]) ∧
        (∀ (H : Hp) (a : Addr) (ns : List Int), ns.length ≤ n → Only H → SqL K H a (ns.map V.int) → sp [.ref a] H (fun v _ => v = .bl true) fun _ _ _ => False) ∧
        ∀ base : Heap, K.In base → base.Ns mainGlobals mg → FnOkG l.prog w K mg base CX0 k fa fd [x] sp) :
    PySem.W.WalkO q loose XP YP l.row.toRowW d [] (fun f vs => PySem.call f vs) := by
  refine Att.attach_call hn hdf fun w s₀ s₁ mg mb fa o pm cd doc a vs ns G Y ho hd hcd hmg hobj hints hlen hg => ?_
  obtain ⟨K, fd, sp, KX, hb, hsp, hF⟩ := F w mg fa _ Y G.T.g hmg
  exact law_callG KX G.T.g G.T.b G.T.builtins G.T.nolimit hg hobj hints (Nat.le_trans hlen hn2) hr hF hb (fun H hO hS => hsp H a ns hlen hO hS)
end L2
set_option Elab.async false
set_option linter.all false
set_option maxRecDepth 100000
set_option maxHeartbeats 4000000
/-! Y1's hook, with the interpreter's own table beside (constants read on the class itself) -/
namespace He
open PySem
def obsXS (ex : PySem.W.Frag → Bool) (n : Nat) (fa : List Fa) (fn : List DefD) (g : Addr → Option Obj) : AlX := obsX ex fa fn (frG g (He5.asA g n))
def hookXS (ex : PySem.W.Frag → Bool) (n : Nat) (fa : List Fa) (fn : List DefD) : PySem.W.Hook where
  α := AlX
  obs := fun s => obsXS ex n fa fn s.heap.get?
  val := fun _ => (true, valD fn)
  says := fun _ h => ∃ K : PySem.W.Frag, K.In h ∧ SaysX ex fa fn K
  of := fun _ _ e => ⟨_, frG_in, e⟩
  keeps := fun _ _ _ ⟨K, hK, c⟩ k => ⟨K, PySem.W.Frag.In.keeps hK k, c⟩
theorem obsXS_eq {ex : PySem.W.Frag → Bool} {n : Nat} {fa : List Fa} {fn : List DefD} {g : Addr → Option Obj} {s : Shared} (h : ∀ a, g a = s.heap.get? a) : obsXS ex n fa fn g = (hookXS ex n fa fn).obs s := by
  have e : g = s.heap.get? := funext h
  rw [e] <;> rfl
end He
set_option Elab.async false
set_option linter.all false
set_option maxRecDepth 100000
set_option maxHeartbeats 0
namespace K12
open PySem PySem.Spec PyProof.Rows L2
def topS (i : Nat) : Stmt := PySem.Challenge.pw_uplines_k12_sheets_told.main.body.getD i (.Pass ⟨0, 0, 0, 0⟩)
abbrev iniS (i : Nat) : Stmt := inClass (topS i) 0
abbrev shS (j : Nat) : Stmt := inClass (topS 35) j
def dF (i : Nat) (x : Str) : He.DefD := ⟨(x, none), x, x, defArgs (topS i), defBody (topS i), defScope (topS i), [], []⟩
def dI (i : Nat) (x q : Str) : He.DefD := ⟨(x, some "__init__"), "__init__", q, defArgs (iniS i), defBody (iniS i), defScope (iniS i), [], []⟩
def dM (j : Nat) (m q : Str) : He.DefD := ⟨("Sheet", some m), m, q, defArgs (shS j), defBody (shS j), defScope (shS j), [], []⟩
def dS (j : Nat) : He.DefD := ⟨("Sheet", some "__init__"), "__init__", "Sheet.__init__", defArgs (shS j), defBody (shS j), defScope (shS j), [.adr (He.dflAt ("Sheet", some "__init__") 0)], []⟩
def fn1 : List He.DefD := [dF 4 "is_integer", dF 5 "is_name", dF 6 "is_list", dF 23 "check_levels", dF 24 "places_of", dF 25 "is_node", dF 26 "fits_as_line", dF 27 "check_lines", dF 28 "check_limit", dF 29 "check_apart", dF 30 "ends_by_node", dF 37 "_law_pot", dF 38 "_law_draw", dF 39 "_law_pick", dF 40 "_law_some", dF 41 "_law_pool", dF 42 "_law_plan", dF 43 "_law_all_lines", dF 44 "_law_sheet", dF 45 "_law_mixed", dF 46 "_law_twin", dF 47 "_law_pairs", dF 48 "_law_nodes_right", dF 49 "_law_lines_right", dF 50 "_law_in_right", dF 51 "_law_small", dF 52 "_law_changed", dF 53 "_law_moved_nodes", dF 54 "_law_unlike_right", dF 55 "_law_right", dF 56 "law"]
def fn2 : List He.DefD := [dI 9 "InvalidLevel" "InvalidLevel.__init__", dI 10 "InvalidLine" "InvalidLine.__init__", dI 11 "InvalidSheet" "InvalidSheet.__init__", dI 12 "InvalidLevels" "InvalidLevels.__init__", dI 13 "InvalidLines" "InvalidLines.__init__", dI 15 "UnknownNode" "UnknownNode.__init__", dI 16 "UnknownLine" "UnknownLine.__init__", dI 18 "NameTaken" "NameTaken.__init__", dI 19 "OtherLevels" "OtherLevels.__init__", dI 21 "TooMany" "TooMany.__init__"]
def fn3 : List He.DefD := [dS 3, dM 5 "levels" "Sheet.levels", dM 6 "level" "Sheet.level", dM 7 "lines" "Sheet.lines", dM 8 "gap" "Sheet.gap", dM 9 "level_of" "Sheet.level_of", dM 10 "above" "Sheet.above", dM 11 "below" "Sheet.below", dM 12 "pairs" "Sheet.pairs", dM 14 "is_small" "Sheet.is_small", dM 15 "__len__" "Sheet.__len__", dM 16 "__contains__" "Sheet.__contains__", dM 17 "__iter__" "Sheet.__iter__", dM 18 "__eq__" "Sheet.__eq__", dM 19 "__repr__" "Sheet.__repr__", dM 20 "__add__" "Sheet.__add__", dM 21 "__radd__" "Sheet.__radd__", dM 22 "__sub__" "Sheet.__sub__", dM 23 "__invert__" "Sheet.__invert__", dM 24 "__or__" "Sheet.__or__", dM 25 "__rshift__" "Sheet.__rshift__", dM 31 "_is_level" "Sheet._is_level", dM 32 "_is_line" "Sheet._is_line", dM 33 "_with_lines" "Sheet._with_lines"]
def fn : List He.DefD := fn1 ++ (fn2 ++ fn3)
def fa : List He.Fa := [.int "LONGEST_NAME" 6, .str "SIGNS" "abcdefghijklmnopqrstuvwxyz0123456789", .glo "is_integer", .glo "is_name", .glo "is_list", .glo "check_levels", .glo "places_of", .glo "is_node", .glo "fits_as_line", .glo "check_lines", .glo "check_limit", .glo "check_apart", .glo "ends_by_node", .glo "_law_pot", .glo "_law_draw", .glo "_law_pick", .glo "_law_some", .glo "_law_pool", .glo "_law_plan", .glo "_law_all_lines", .glo "_law_sheet", .glo "_law_mixed", .glo "_law_twin", .glo "_law_pairs", .glo "_law_nodes_right", .glo "_law_lines_right", .glo "_law_in_right", .glo "_law_small", .glo "_law_changed", .glo "_law_moved_nodes", .glo "_law_unlike_right", .glo "_law_right", .glo "law", .glo "Sheet", .free "isinstance", .free "int", .free "bool", .free "str", .free "list", .free "tuple", .free "set", .free "len", .free "all", .free "any", .free "repr", .free "range", .free "max", .free "min", .free "abs", .free "divmod", .free "enumerate", .free "sorted", .free "zip", .free "iter", .cls "Sheet", .mkr "Sheet", .noat "Sheet" "_levels", .noat "Sheet" "_lines", .noat "Sheet" "_nodes", .noat "Sheet" "_places", .noat "Sheet" "_ups", .noat "Sheet" "_downs", .meth "Sheet" "levels", .meth "Sheet" "level", .meth "Sheet" "lines", .meth "Sheet" "gap", .meth "Sheet" "level_of", .meth "Sheet" "above", .meth "Sheet" "below", .meth "Sheet" "pairs", .meth "Sheet" "is_small", .meth "Sheet" "__len__", .meth "Sheet" "__contains__", .meth "Sheet" "__iter__", .meth "Sheet" "__eq__", .meth "Sheet" "__repr__", .meth "Sheet" "__add__", .meth "Sheet" "__radd__", .meth "Sheet" "__sub__", .meth "Sheet" "__invert__", .meth "Sheet" "__or__", .meth "Sheet" "__rshift__", .meth "Sheet" "_is_level", .meth "Sheet" "_is_line", .meth "Sheet" "_with_lines", .int "SMALL_LEVELS" 6, .int "SMALL_NODES" 5, .int "SMALL_LINES" 12]
def ones : List (Str × Str) := [("InvalidLevel", "value"), ("InvalidLine", "value"), ("InvalidSheet", "value"), ("InvalidLevels", "position"), ("InvalidLines", "position"), ("UnknownNode", "value"), ("UnknownLine", "value"), ("NameTaken", "value")]
def twos : List (Str × Str × Str) := [("OtherLevels", "one", "other"), ("TooMany", "what", "limit")]
def cons : List (Str × Int) := [("MOST_LEVELS", 12), ("MOST_NODES", 18), ("MOST_LINES", 200)]
def conB (K : PySem.W.Frag) (x : Str) (i : Int) : Bool := match PySem.W.findIn K (.ref (He.ga K "Sheet")) x with
  | some (some (.int j t)) => decide (j = i) && He.eqO (PySem.W.specialIn K (.int j t) "__get__") (some none) && !PySem.W.copiedNames.contains x
  | _ => false
def emptB (K : PySem.W.Frag) : Bool := match K.lookup (He.dflAt ("Sheet", some "__init__") 0 K) with
  | some ⟨.type c, _, .seq its _, _⟩ => c == "tuple" && its.size == 0
  | _ => false
def reflB (K : PySem.W.Frag) (op : Operator) : Bool := (match PySem.W.findIn K (.ref (He.ga K "Sheet")) (dunderR op.info.2) with
  | some none => true
  | some (some (.ref _)) => true
  | _ => false) && ((PySem.W.findIn K (.type "tuple") (PySem.dunder op.info.2)).isSome && (PySem.W.findIn K (.type "tuple") (dunderR op.info.2)).isSome)
def ops : List Operator := [.Add, .Sub, .BitOr, .RShift]
def rdB (K : PySem.W.Frag) : Bool := PySem.W.readsIn K (He.ga K "Sheet") (.type "type") && decide (PySem.W.specialIn K (.ref (He.ga K "Sheet")) "__getattribute__" = some (some (.builtin "type.__getattribute__")))
def cvB (K : PySem.W.Frag) (x : Str) (i : Int) : Bool := match PySem.W.findCls K (.ref (He.ga K "Sheet")) (.type "type") x with
  | some (.val (.int j _)) => decide (j = i)
  | _ => false
def ex0 (K : PySem.W.Frag) : Bool := (ones.all fun q => He.er1B K q.1 q.2) && ((twos.all fun q => He.er2B K q.1 q.2.1 q.2.2) && ((cons.all fun q => conB K q.1 q.2) && (emptB K && (PySem.W.selfFirst K (He.ga K "Sheet") && ((ops.all fun op => reflB K op) &&
  (decide (PySem.W.subIn K (.type "tuple") (.ref (He.ga K "Sheet")) = some false) && decide (PySem.W.kitOne K (.ref (He.ga K "Sheet")) (.ref (He.ga K "Sheet")) = some true)))))))
def neB (K : PySem.W.Frag) : Bool := decide (PySem.W.findIn K (.ref (He.ga K "Sheet")) "__ne__" = some (some (.builtin "object.__ne__"))) && decide (PySem.W.subIn K (.ref (He.ga K "Sheet")) (.type "object") = some true) &&
  (decide (PySem.W.findIn K (.ref (He.ga K "Sheet")) "__class__" = some (some (.builtin "object.__class__"))) && (decide (PySem.W.specialIn K (.builtin "object.__class__") "__get__" = some (some (.builtin "getset_descriptor.__get__"))) &&
  (decide (PySem.W.takesIn K (.builtin "object.__class__") = some true) && decide (PySem.W.mroIn K (He.ga K "Sheet") (.type "object") = some true))))
def kitN : List String := ["NoneType", "bool", "int", "str", "list", "tuple", "dict"]
def kinB (K : PySem.W.Frag) : Bool := kitN.all fun T => decide (PySem.W.kitOne K (.type T) (.ref (He.ga K "Sheet")) = some false)
def ex (K : PySem.W.Frag) : Bool := (ex0 K && (rdB K && (neB K && cons.all fun q => cvB K q.1 q.2))) && kinB K
def lo1 : List PySem.Str := ["_wall", "SIGNS", "LONGEST_NAME", "is_integer", "is_name", "is_list", "SheetError", "InvalidLevel", "InvalidLine", "InvalidSheet", "InvalidLevels", "InvalidLines", "MissingError", "UnknownNode", "UnknownLine", "StateError", "NameTaken", "OtherLevels", "LimitError", "TooMany", "check_levels", "places_of", "is_node", "fits_as_line", "check_lines"]
def lo2 : List PySem.Str := ["check_limit", "check_apart", "ends_by_node", "SMALL_LEVELS", "SMALL_NODES", "SMALL_LINES", "Sheet", "_law_pot", "_law_draw", "_law_pick", "_law_some", "_law_pool", "_law_plan", "_law_all_lines", "_law_sheet", "_law_mixed", "_law_twin", "_law_pairs", "_law_nodes_right", "_law_lines_right", "_law_in_right", "_law_small", "_law_changed", "_law_moved_nodes", "_law_unlike_right", "_law_right"]
def loose : List PySem.Str := lo1 ++ lo2
abbrev R : PySem.W.OpenRow := PySem.W.OpenLaw.row PySem.Challenge.rw_uplines_k12_sheets_told
abbrev hk : PySem.W.Hook := He.hookXS ex 6 fa fn
def ob (s : PySem.W.SharedT) : He.AlX := He.obsXS ex 6 fa fn (HandSHeadRun.getT s)
theorem ob_eq (s : PySem.W.SharedT) : ob s = hk.obs s.abs := He.obsXS_eq (HandSHeadRun.getT_eq s)
open HandSHeadRun PySem.W in
noncomputable abbrev ed (w : World) (os : OsState) := endF (stepQ (denQ tabQ) R.prog w) 12000 R.prog w os
abbrev vw : Program := PySem.W.view R.prog [56]
def oK (s : PySem.W.SharedT) : PySem.W.Frag := He.frG (HandSHeadRun.getT s) (He5.asA (HandSHeadRun.getT s) 6)
end K12
set_option Elab.async false
set_option linter.all false
set_option maxRecDepth 100000
set_option maxHeartbeats 0
namespace K12
open PySem PySem.Spec PyProof.Rows L2
open HandSHeadRun PySem.W in
theorem run1 (w : World) (os : OsState) : (ed w os).map (fun s => looksF R.prog (boot_heap w.params) s.abs) = some true := by
  kernel_rfl
end K12
set_option Elab.async false
set_option linter.all false
set_option maxRecDepth 100000
set_option maxHeartbeats 0
namespace K12
open PySem PySem.Spec PyProof.Rows L2
open HandSHeadRun PySem.W in
theorem run2 (w : World) (os : OsState) : (ed w os).map (fun s => seenQ vw loose (importedModules R.prog.main.body) (fun s => xlAt vw [] s && recOk R.toRowW.records s) s.abs) = some (openGood vw loose) := by
  kernel_rfl
end K12
set_option Elab.async false
set_option linter.all false
set_option maxRecDepth 100000
set_option maxHeartbeats 0
namespace K12
open PySem PySem.Spec PyProof.Rows L2
theorem run3 (w : World) (os : OsState) : (ed w os).map (fun s => ex (oK s)) = some true := by
  kernel_rfl
end K12
set_option Elab.async false
set_option linter.all false
set_option maxRecDepth 100000
set_option maxHeartbeats 0
namespace K12
open PySem PySem.Spec PyProof.Rows L2
theorem run4 (w : World) (os : OsState) : (ed w os).map (fun s => fa.all fun f => f.ok (oK s)) = some true := by
  kernel_rfl
end K12
set_option Elab.async false
set_option linter.all false
set_option maxRecDepth 100000
set_option maxHeartbeats 0
namespace K12
open PySem PySem.Spec PyProof.Rows L2
theorem run5a (w : World) (os : OsState) : (ed w os).map (fun s => (fn.take 35).all fun d => d.ok (oK s)) = some true := by
  kernel_rfl
end K12
set_option Elab.async false
set_option linter.all false
set_option maxRecDepth 100000
set_option maxHeartbeats 0
namespace K12
open PySem PySem.Spec PyProof.Rows L2
theorem run5b (w : World) (os : OsState) : (ed w os).map (fun s => (fn.drop 35).all fun d => d.ok (oK s)) = some true := by
  kernel_rfl
end K12
set_option Elab.async false
set_option linter.all false
set_option maxRecDepth 100000
set_option maxHeartbeats 0
namespace K12
open PySem PySem.Spec PyProof.Rows L2
theorem run6 (w : World) (os : OsState) : (ed w os).map (fun s => fn.map fun d => He.fnW (oK s) d.at_) = some (fn.map He.DefD.val) := by
  kernel_rfl
end K12
set_option Elab.async false
set_option linter.all false
set_option maxRecDepth 100000
set_option maxHeartbeats 0
namespace K12
open PySem PySem.Spec PyProof.Rows L2
theorem map_two {α β γ : Type} {o : Option α} {f : α → β} {g : α → γ} {b : β} {c : γ} (h1 : o.map f = some b) (h2 : o.map g = some c) : o.map (fun s => (f s, g s)) = some (b, c) := by
  cases o with
  | none => cases h1
  | some s =>
    have e1 := Option.some.inj h1
    have e2 := Option.some.inj h2
    show some (f s, g s) = _
    rw [e1, e2]
theorem map_and {α : Type} {o : Option α} {f g : α → Bool} (h1 : o.map f = some true) (h2 : o.map g = some true) : o.map (fun s => f s && g s) = some true := by
  cases o with
  | none => cases h1
  | some s =>
    have e1 := Option.some.inj h1
    have e2 := Option.some.inj h2
    show some (f s && g s) = _
    rw [e1, e2]
    rfl
theorem run5 (w : World) (os : OsState) : (ed w os).map (fun s => fn.all fun d => d.ok (oK s)) = some true := by
  have h1 := run5a w os
  have h2 := run5b w os
  generalize ed w os = o at h1 h2 ⊢
  cases o with
  | none => cases h1
  | some s =>
    have e1 : (fn.take 35).all (fun d => d.ok (oK s)) = true := Option.some.inj h1
    have e2 : (fn.drop 35).all (fun d => d.ok (oK s)) = true := Option.some.inj h2
    show some (fn.all fun d => d.ok (oK s)) = _
    rw [← List.take_append_drop 35 fn, List.all_append, e1, e2]
    rfl
theorem run (w : World) : HandSHeadRun.RunEq R (PySem.W.view R.prog [56]) hk ob 12000 loose w := fun os =>
  map_two (run1 w os) (map_two (run2 w os) (map_two (run3 w os) (map_two (map_and (run4 w os) (run5 w os)) (run6 w os))))
end K12
set_option Elab.async false
set_option linter.all false
set_option maxRecDepth 100000
set_option maxHeartbeats 4000000
namespace K12
open PySem PySem.Spec PyProof.Rows L2 Evl
abbrev shC (K : PySem.W.Frag) : Addr := He.ga K "Sheet"
structure Tx (K : PySem.W.Frag) (mg : Str → Option Value) (fd : Nat → FuncData) : Prop where
  gl : ∀ (i : Nat) (x : Str), fa[i]? = some (He.Fa.glo x) → mg x = some (.ref (He.ga K x))
  fr : ∀ (i : Nat) (x : Str), fa[i]? = some (He.Fa.free x) → mg x = none
  df : ∀ (i j : Nat) (x : Str), fn[i]? = some (dF j x) → Fun K x x (topS j) (He.ga K x) (fd i)
  dm : ∀ (i j : Nat) (m q : Str), fn[i]? = some (dM j m q) → Fun K m q (shS j) (He.ma K (shC K) m) (fd i)
  ds : ∀ (i j : Nat), fn[i]? = some (dS j) → FunD K "__init__" "Sheet.__init__" (defArgs (shS j)) (defBody (shS j)) (defScope (shS j)) [.ref (He.dflAt ("Sheet", some "__init__") 0 K)] [] (He.ma K (shC K) "__init__") (fd i)
  long : ∃ t, mg "LONGEST_NAME" = some (.int 6 t)
  signs : ∃ t, mg "SIGNS" = some (.str "abcdefghijklmnopqrstuvwxyz0123456789" t)
  cls : Cls K (shC K)
  mkr : Mk K (shC K) (He.ma K (shC K) "__init__")
  noat : ∀ (i : Nat) (f : Str), fa[i]? = some (He.Fa.noat "Sheet" f) → NoAttr K (shC K) f
  meth : ∀ (i : Nat) (m : Str), fa[i]? = some (He.Fa.meth "Sheet" m) → Meth K (shC K) m (He.ma K (shC K) m)
  con : ∀ (i : Nat) (q : Str × Int), cons[i]? = some q → ∃ u, Con K (shC K) q.1 (.int q.2) u
  emp : ∀ H, SqT K H (He.dflAt ("Sheet", some "__init__") 0 K) []
  self : PySem.W.selfFirst K (shC K) = true
  op2 : ∀ op, op ∈ ops → Meth K (shC K) (PySem.dunder op.info.2) (He.ma K (shC K) (PySem.dunder op.info.2)) → Op2 K (shC K) (He.ma K (shC K) (PySem.dunder op.info.2)) op
  kit : PySem.W.kitOne K (.ref (shC K)) (.ref (shC K)) = some true
  cread : ClX.CRead K (shC K) (.type "type")
  cval : ∀ (i : Nat) (q : Str × Int), cons[i]? = some q → ∃ u, ClX.CVal K (shC K) (.type "type") q.1 (.int q.2) u
  nef : PySem.W.findIn K (.ref (shC K)) "__ne__" = some (some (.builtin "object.__ne__"))
  subO : PySem.W.subIn K (.ref (shC K)) (.type "object") = some true
  cl1 : PySem.W.findIn K (.ref (shC K)) "__class__" = some (some (.builtin "object.__class__"))
  cl2 : PySem.W.specialIn K (.builtin "object.__class__") "__get__" = some (some (.builtin "getset_descriptor.__get__"))
  cl3 : PySem.W.takesIn K (.builtin "object.__class__") = some true
  cl4 : PySem.W.mroIn K (shC K) (.type "object") = some true
  sml : ∃ t, mg "SMALL_LEVELS" = some (.int 6 t)
  smn : ∃ t, mg "SMALL_NODES" = some (.int 5 t)
  smi : ∃ t, mg "SMALL_LINES" = some (.int 12 t)
  kin : ∀ T ∈ kitN, PySem.W.kitOne K (.type T) (.ref (shC K)) = some false
theorem con_ok {K : PySem.W.Frag} {x : Str} {i : Int} (h : conB K x i = true) : ∃ u, Con K (shC K) x (.int i) u := by
  unfold conB at h
  split at h
  · rename_i j t e
    simp only [Bool.and_eq_true, decide_eq_true_eq, Bool.not_eq_true'] at h
    obtain ⟨⟨h1, h2⟩, h3⟩ := h
    subst h1
    exact ⟨.int j t, e, ⟨t, rfl⟩, He.eqO_ok h2, h3⟩
  · cases h
theorem emp_ok {K : PySem.W.Frag} (h : emptB K = true) (H : Hp) : SqT K H (He.dflAt ("Sheet", some "__init__") 0 K) [] := by
  unfold emptB at h
  split at h
  · rename_i c dd its n sl e
    simp only [Bool.and_eq_true, beq_iff_eq] at h
    obtain ⟨h1, h2⟩ := h
    have e2 : its = #[] := Array.size_eq_zero_iff.mp h2
    subst e2
    exact .inr ⟨_, #[], n, e, congrArg Value.type h1, rfl, by rw [sizeLine_eq]; decide, .nil⟩
  · cases h
theorem cread_ok {K : PySem.W.Frag} (h : rdB K = true) : ClX.CRead K (shC K) (.type "type") := by
  obtain ⟨h1, h2⟩ := He.ba h
  exact ⟨h1, of_decide_eq_true h2⟩
theorem cv_ok {K : PySem.W.Frag} {x : Str} {i : Int} (h : cvB K x i = true) : ∃ u, ClX.CVal K (shC K) (.type "type") x (.int i) u := by
  unfold cvB at h
  split at h
  · rename_i j t e
    have h1 := of_decide_eq_true h
    subst h1
    exact ⟨.int j t, e, ⟨t, rfl⟩⟩
  · cases h
theorem op2_ok {K : PySem.W.Frag} {op : Operator} (h : reflB K op = true) (self : PySem.W.selfFirst K (shC K) = true) (sub : PySem.W.subIn K (.type "tuple") (.ref (shC K)) = some false) {f : Addr} (hm : Meth K (shC K) (PySem.dunder op.info.2) f) : Op2 K (shC K) f op := by
  unfold reflB at h
  obtain ⟨h1, h⟩ := He.ba h
  obtain ⟨h2, h3⟩ := He.ba h
  obtain ⟨t1, e1⟩ := Option.isSome_iff_exists.mp h2
  obtain ⟨t2, e2⟩ := Option.isSome_iff_exists.mp h3
  refine ⟨self, hm, ?_, ⟨t1, t2, e1, e2⟩, sub⟩
  split at h1
  · rename_i e
    exact ⟨none, e, .inl rfl⟩
  · rename_i g e
    exact ⟨some (.ref g), e, .inr ⟨g, rfl⟩⟩
  · cases h1
theorem Tx.of {K : PySem.W.Frag} {h : Heap} {mg : Str → Option Value} (X : K.In h) (G : h.Ns mainGlobals mg) (c : He.SaysX ex fa fn K) : ∃ fd, Tx K mg fd := by
  have hd : ∀ i : Nat, ∃ fd : FuncData, ∀ d : He.DefD, fn[i]? = some d → FunD K d.name d.qual d.params d.body d.scope (d.dvs K) (d.kws K) (He.fAd K d.at_) fd := fun i => by
    cases e : fn[i]? with
    | none => exact ⟨(Classical.choose (c.d.def_ 0 rfl)), fun d z => nomatch z⟩
    | some d =>
      obtain ⟨fd, F⟩ := c.d.def_ i e
      exact ⟨fd, fun d' z => by cases z; exact F⟩
  obtain ⟨fd, hF⟩ := Classical.axiomOfChoice hd
  have hex := c.ex
  unfold ex at hex
  obtain ⟨hex, kin⟩ := He.ba hex
  obtain ⟨hex, y⟩ := He.ba hex
  obtain ⟨y1, y⟩ := He.ba y
  obtain ⟨y3, y2⟩ := He.ba y
  obtain ⟨y3, y6⟩ := He.ba y3
  obtain ⟨y4, y5⟩ := He.ba y3
  obtain ⟨z1, y6⟩ := He.ba y6
  obtain ⟨z2, y6⟩ := He.ba y6
  obtain ⟨z3, z4⟩ := He.ba y6
  unfold ex0 at hex
  obtain ⟨x1, hex⟩ := He.ba hex
  obtain ⟨x2, hex⟩ := He.ba hex
  obtain ⟨x3, hex⟩ := He.ba hex
  obtain ⟨x4, hex⟩ := He.ba hex
  obtain ⟨x5, hex⟩ := He.ba hex
  obtain ⟨x6, hex⟩ := He.ba hex
  obtain ⟨x7, x8⟩ := He.ba hex
  refine ⟨fd, ?_, ?_, ?_, ?_, ?_, He.int_ok X G (c.d.fact 0 rfl), He.str_ok X G (c.d.fact 1 rfl), He.cls_ok (c.d.fact 54 rfl), He.mkr_ok (c.d.fact 55 rfl), ?_, ?_, ?_, emp_ok x4, x5, ?_, of_decide_eq_true x8, cread_ok y1, ?_, of_decide_eq_true y4, of_decide_eq_true y5, of_decide_eq_true z1, of_decide_eq_true z2, of_decide_eq_true z3, of_decide_eq_true z4, He.int_ok X G (c.d.fact 85 rfl), He.int_ok X G (c.d.fact 86 rfl), He.int_ok X G (c.d.fact 87 rfl), fun T hT => of_decide_eq_true (List.all_eq_true.mp kin T hT)⟩
  · exact fun i x h => He.glo_ok X G (c.d.fact i h)
  · exact fun i x h => He.free_ok X G (c.d.fact i h)
  · exact fun i j x h => FunD.toFun (st := topS j) (hF i _ h)
  · exact fun i j m q h => FunD.toFun (st := shS j) (hF i _ h)
  · exact fun i j h => hF i _ h
  · exact fun i f h => He.noat_ok (c.d.fact i h)
  · exact fun i m h => He.meth_ok (c.d.fact i h)
  · exact fun i q h => con_ok (List.all_eq_true.mp x3 q (List.mem_of_getElem? h))
  · exact fun op h hm => op2_ok (List.all_eq_true.mp x6 op h) x5 (of_decide_eq_true x7) hm
  · exact fun i q h => cv_ok (List.all_eq_true.mp y2 q (List.mem_of_getElem? h))
end K12
set_option Elab.async false
set_option linter.all false
set_option maxRecDepth 100000
set_option maxHeartbeats 4000000
namespace K12
open PySem PySem.Spec PyProof.Rows L2 Evl Gen
section
variable {P : Program} {w : World} {K : PySem.W.Frag} {mg : Str → Option Value} {base : Heap} {fd : Nat → FuncData}
theorem sc_is_integer : FnScope ["value"] ["value"] (defScope (topS 4)) := ⟨rfl, rfl, rfl, by decide +kernel, rfl, by decide +kernel, by decide +kernel⟩
theorem ok_is_integer (T : Tx K mg fd) : FnOk P w K mg base CX0 1 (He.ga K "is_integer") (fd 0) ["value"] (spV1 isI) := by
  refine (T.df 0 4 "is_integer" rfl).ok sc_is_integer (fun vs H Q E h => ?len) (fun cdv A outer s H vs Q E hr h => ?body)
  case body =>
    refine ⟨_, (pss_one (ps_ret (pe_and (pe_callB call_isi (by rfl) (T.fr 34 "isinstance" rfl) (by decide +kernel) (pa_cons (pv 0) (pa_cons (pe_bltn (v := V.ty "int") (by rfl) (T.fr 35 "int" rfl) (by decide +kernel) rfl) pa_nil))) (pe_one (pe_not (pe_callB call_isi (by rfl) (T.fr 34 "isinstance" rfl) (by decide +kernel) (pa_cons (pv 0) (pa_cons (pe_bltn (v := V.ty "bool") (by rfl) (T.fr 36 "bool" rfl) (by decide +kernel) rfl) pa_nil)))))))), ?_⟩
    obtain ⟨v, t, rfl, k, hz, q⟩ := h
    refine s_ret (v := .bl (isI v)) ?_ fun H1 e => q.go e
    exact ev_andV (ev_isi (ev_var rfl) k k.int_ ev_c) fun _ => ev_notV (ev_isi (ev_var rfl) k k.bool_ ev_c)
  case len =>
    obtain ⟨v, t, rfl, _⟩ := h
    rfl
theorem sc_is_name : FnScope ["value", "sign"] ["value"] (defScope (topS 5)) := ⟨rfl, rfl, rfl, by decide +kernel, rfl, by decide +kernel, by decide +kernel⟩
theorem ok_is_name (T : Tx K mg fd) : FnOk P w K mg base CX0 1 (He.ga K "is_name") (fd 1) ["value"] (spV1 isN) := by
  obtain ⟨tL, hL⟩ := T.long
  obtain ⟨tS, hS⟩ := T.signs
  refine (T.df 1 5 "is_name" rfl).ok sc_is_name (fun vs H Q E h => ?len) (fun cdv A outer s H vs Q E hr h => ?body)
  case body =>
    refine ⟨_, (pss_cons (ps_if (PW.pt (pw_or (pt_not (pt_val (pe_callB call_isi (by rfl) (T.fr 34 "isinstance" rfl) (by decide +kernel) (pa_cons (pv 0) (pa_cons (pe_bltn (v := V.ty "str") (by rfl) (T.fr 37 "str" rfl) (by decide +kernel) rfl) pa_nil))))) (pw_or1 (pt_not (pt_chain op_le op_le pe_int (pe_callB call_len (by rfl) (T.fr 41 "len" rfl) (by decide +kernel) (pa_cons (pv 0) pa_nil)) (pe_glob (v := V.int 6) (by rfl) hL ⟨_, rfl⟩)))))) (pss_one (ps_ret pe_bl)) pss_nil) (pss_one (ps_ret (pe_callB (cr_all rfl) (by rfl) (T.fr 42 "all" rfl) (by decide +kernel) (pa_cons (pe_lc (own := [("sign", 1)]) (g := gName 1) rfl sc_is_name.nd (pi_str (pv 0)) (blkOk_by (N := ["value", "sign"]) (sc := (defScope (topS 5))) (own := [("sign", 1)]) (by decide +kernel)) (fun _ _ _ _ _ => (pg_name (i := 1) sc_is_name.nd rfl (Or.inl rfl))) (fun _ _ _ _ _ => pts_nil) (fun _ _ _ _ _ => (pe_cmpR op_in_sign (pv 1) (pe_glob (v := V.str sgn) (by rfl) hS ⟨_, rfl⟩) rfl))) pa_nil))))), ?_⟩
    obtain ⟨v, t, rfl, k, hz, q⟩ := h
    cases hk : kS v with
    | false =>
      refine q_when (b := true) ?_ (fun _ H1 e => s_ret ev_c fun H2 e2 => ?_) (fun z => nomatch z)
      · refine et_is (a := (!kS v) || false) (et_or (b := false) (et_not (et_B (ev_isi (ev_var rfl) k k.str_ ev_c))) (fun h => ?_)) (by rw [hk]; rfl)
        rw [hk] at h
        cases h
      · have g := q H2 (e.trans e2)
        rw [isN_no hk] at g
        exact g
    | true =>
      obtain ⟨x, rfl⟩ := kS_str hk
      have hzx := hz x rfl
      refine q_when (b := !(decide (1 ≤ (x.length : Int)) && decide ((x.length : Int) ≤ 6))) ?_ (fun hb H1 e => s_ret ev_c fun H2 e2 => ?_) (fun hb H1 e => ?_)
      · refine et_or (a := false) (b := !(decide (1 ≤ (x.length : Int)) && decide ((x.length : Int) ≤ 6))) (et_not (a := true) (et_B (ev_isi (ev_var rfl) k k.str_ ev_c))) (fun _ => et_not ?_)
        exact et_chain ev_c (ev_lenX (ev_var rfl) fun H1 _ Q q => ⟨_, _, rfl, ⟨z_in hzx, rfl⟩, q⟩) ev_c rv_I0 rv_I0
      · have g := q H2 (e.trans e2)
        have e0 : isN (.str x) = false := isN_out (by cases hc : (decide (1 ≤ (x.length : Int)) && decide ((x.length : Int) ≤ 6)) with
          | true => rw [hc] at hb; cases hb
          | false => rfl)
        rw [e0] at g
        exact g
      · refine s_ret (v := .bl (isN (.str x))) ?_ fun H2 e2 => q.go (e.trans e2)
        have e0 : isN (.str x) = (x.cps.toList.map fun c => decide (c ∈ sgn.cps.toList)).all id := isN_in (by cases hc : (decide (1 ≤ (x.length : Int)) && decide ((x.length : Int) ≤ 6)) with
          | true => rfl
          | false => rw [hc] at hb; cases hb)
        rw [e0]
        exact ev_all (el_lcS _ (ev_var rfl) (Nat.le_trans hzx (by decide)) (fun _ => rfl) fun c H1 _ => ev_op (ev_var rfl) ev_c fun H2 _ Q q => ⟨c, sgn, rfl, rfl, q H2 (Ex.refl _)⟩)

  case len =>
    obtain ⟨v, t, rfl, _⟩ := h
    rfl
/-- of these kinds: a list, a tuple, neither -/
def kL (t : String) : Bool := t == "list" || t == "tuple"
def spIsList (K : PySem.W.Frag) : Sp := fun vs H Q _ => ∃ (a : Addr) (xs : List V), vs = [.ref a] ∧ Sq K H a xs ∧ RetV (.bl true) H Q
theorem kit_any1 : PySem.W.kitAny K (.type "list") [.type "list", .type "tuple"] = some true :=
  kitAny_cons (b := true) (kit_ty (by decide +kernel)) (fun h => nomatch h) (fun _ => rfl)
theorem kit_any2 : PySem.W.kitAny K (.type "tuple") [.type "list", .type "tuple"] = some true :=
  kitAny_cons (b := false) (kit_ty (by decide +kernel)) (fun _ => kitAny_cons (b := true) (kit_ty (by decide +kernel)) (fun h => nomatch h) (fun _ => rfl)) (fun h => nomatch h)
theorem sc_is_list : FnScope ["value"] ["value"] (defScope (topS 6)) := ⟨rfl, rfl, rfl, by decide +kernel, rfl, by decide +kernel, by decide +kernel⟩
theorem ok_is_list (T : Tx K mg fd) : FnOk P w K mg base CX0 1 (He.ga K "is_list") (fd 2) ["value"] (spIsList K) := by
  refine (T.df 2 6 "is_list" rfl).ok sc_is_list (fun vs H Q E h => ?len) (fun cdv A outer s H vs Q E hr h => ?body)
  case body =>
    refine ⟨_, (pss_one (ps_ret (pe_callB call_isiT (by rfl) (T.fr 34 "isinstance" rfl) (by decide +kernel) (pa_cons (pv 0) (pa_cons (pe_tup (pa_cons (pe_bltn (v := V.ty "list") (by rfl) (T.fr 38 "list" rfl) (by decide +kernel) rfl) (pa_cons (pe_bltn (v := V.ty "tuple") (by rfl) (T.fr 39 "tuple" rfl) (by decide +kernel) rfl) pa_nil))) pa_nil))))), ?_⟩
    obtain ⟨a, xs, rfl, hx, q⟩ := h
    refine ⟨_, rfl, ?_⟩
    refine ⟨by show 2 ≤ sizeLine; decide, fun p hp => ?_⟩
    have e1 := Ex.new (o := HO.tup [.ty "list", .ty "tuple"]) hp
    rcases hx with hx | hx
    · exact ⟨.ref a, p, [.ty "list", .ty "tuple"], .type "list", [.type "list", .type "tuple"], true, rfl, upd_same, .cons (.ty _) (.cons (.ty _) .nil), sqL_ty (ex_l e1 hx), kit_any1, q _ e1⟩
    · exact ⟨.ref a, p, [.ty "list", .ty "tuple"], .type "tuple", [.type "list", .type "tuple"], true, rfl, upd_same, .cons (.ty _) (.cons (.ty _) .nil), sqT_ty (ex_t e1 hx), kit_any2, q _ e1⟩
  case len =>
    obtain ⟨a, xs, rfl, _⟩ := h
    rfl
end
end K12
set_option Elab.async false
set_option linter.all false
set_option maxRecDepth 100000
set_option maxHeartbeats 4000000
namespace K12
open PySem PySem.Spec PyProof.Rows L2 Evl Gen
section
variable {P : Program} {w : World} {K : PySem.W.Frag} {mg : Str → Option Value} {base : Heap} {fd : Nat → FuncData}
theorem sc_law_pot : FnScope ["_law_script", "_law_k", "_law_taken"] ["_law_script", "_law_k"] (defScope (topS 37)) := ⟨rfl, rfl, rfl, by decide +kernel, rfl, by decide +kernel, by decide +kernel⟩
theorem ok_law_pot (T : Tx K mg fd) : FnOk P w K mg base CX0 1 (He.ga K "_law_pot") (fd 11) ["_law_script", "_law_k"] (spPot K) := by
  refine (T.df 11 37 "_law_pot" rfl).ok sc_law_pot (fun vs H Q E h => ?len) (fun cdv A outer s H vs Q E hr h => ?body)
  case body =>
    refine ⟨_, (pss_cons (ps_set (i := 2) sc_law_pot.nd rfl (Or.inl rfl) (pe_op op_add (pe_op op_mulW pe_int (pv 1)) pe_int)) (pss_cons (ps_if (pt_cmpR op_lt (pv 1) (pe_callB call_len (by rfl) (T.fr 41 "len" rfl) (by decide +kernel) (pa_cons (pv 0) pa_nil)) (nomark _)) (pss_one (ps_set (i := 2) sc_law_pot.nd rfl (Or.inl rfl) (pe_callB call_abs (by rfl) (T.fr 48 "abs" rfl) (by decide +kernel) (pa_cons (pe_ix ix_list (pv 0) (pv 1) (fun _ _ => rfl)) pa_nil)))) pss_nil) (pss_one (ps_ret (pe_lst (pa_cons (pe_callB (call_max2 rfl) (by rfl) (T.fr 46 "max" rfl) (by decide +kernel) (pa_cons pe_int (pa_cons (pe_op op_sub (pv 2) (pe_op op_pow pe_int pe_int)) pa_nil))) (pa_cons (pe_op op_add (pe_op op_mod (pe_op op_mulW (pe_callTy call_int1 (by rfl) (T.fr 35 "int" rfl) (by decide +kernel) (pa_cons (pe_op op_add (pe_op op_mod (pe_callTy call_int1 (by rfl) (T.fr 35 "int" rfl) (by decide +kernel) (pa_cons (pv 2) pa_nil)) pe_int) pe_int) pa_nil)) (pe_op op_pow (pe_op op_add (pe_op op_mulW pe_int (pv 1)) pe_int) pe_int)) pe_int) pe_int) pa_nil))))))), ?_⟩
    obtain ⟨a, ns, j, rfl, hS, hl, hj, q⟩ := h
    refine q_asg (v := .int (23 * (j : Int) + 17)) (ev_op (ev_op ev_c (ev_var rfl) (rv_I (wide_mul (a := 10) (b := 10) (by decide) (by omega) (by decide) (by decide) (by decide)))) ev_c rv_I0) fun H1 e1 => ?_
    have ev0 : ∃ tk : Int, 0 ≤ tk ∧ (decide ((j : Int) < (ns.length : Int)) = true → ∃ i, ns[j]? = some i ∧ tk = if i < 0 then -i else i) ∧ (decide ((j : Int) < (ns.length : Int)) = false → tk = 23 * (j : Int) + 17) := by
      by_cases hlt : (j : Int) < (ns.length : Int)
      · have hlt' : j < ns.length := by omega
        refine ⟨if ns[j] < 0 then -ns[j] else ns[j], by split <;> omega, fun _ => ⟨ns[j], by simp [hlt'], rfl⟩, fun z => ?_⟩
        rw [decide_eq_true hlt] at z
        cases z
      · exact ⟨23 * (j : Int) + 17, by omega, fun z => absurd (of_decide_eq_true z) hlt, fun _ => rfl⟩
    obtain ⟨tk, tk0, tk1, tk2⟩ := ev0
    refine q_ifAsg (v := .int tk) (b := decide ((j : Int) < (ns.length : Int))) (et_test (ev_op (ev_var rfl) (ev_lenX (ev_var rfl) fun H2 e2 Q q => ⟨_, _, rfl, .inl ⟨_, ex_l (e1.trans e2) hS, by rw [List.length_map]⟩, q⟩) rv_I0)) (fun hb => ?_) (fun hb => ?_) (fun H2 e2 => ?_)
    · obtain ⟨i, hi, et⟩ := tk1 hb
      rw [et]
      exact ev_absI (ev_op (ev_var rfl) (ev_var rfl) (rv_ixL (ex_l e1 hS) (atI_nat (by rw [List.getElem?_map, hi] <;> rfl))))
    · rw [tk2 hb]
      rfl
    · have m1 := Int.emod_nonneg tk (show (2147483497 : Int) ≠ 0 by decide)
      have m2 := Int.emod_lt_of_pos tk (show (0 : Int) < 2147483497 by decide)
      have mb : ((2 * (j : Int) + 5) ^ (3 : Int).toNat).natAbs < 2 ^ 40 := by
        have : j = 0 ∨ j = 1 ∨ j = 2 ∨ j = 3 := by omega
        rcases this with rfl | rfl | rfl | rfl <;> decide
      refine s_retL (el_lst (ea_cons (ev_maxI ev_c (ev_op (ev_var rfl) (ev_op ev_c ev_c (rv_I ⟨by decide, by decide, by decide⟩)) rv_I0)) (ea_cons (ev_op (ev_op (ev_op (ev_int1 (ev_op (ev_op (ev_int1 (ev_var rfl)) ev_c (rv_I (by decide))) ev_c rv_I0)) (ev_op (ev_op (ev_op ev_c (ev_var rfl) (rv_I (wide_mul (a := 10) (b := 10) (by decide) (by omega) (by decide) (by decide) (by decide)))) ev_c rv_I0) ev_c (rv_I ⟨by decide, by decide, by omega⟩)) (rv_I (wide_mul (a := 40) (b := 40) (by omega) mb (by decide) (by decide) (by decide)))) ev_c (rv_I (by decide))) ev_c rv_I0) ea_nil)) (by show 2 ≤ 100000; decide)) fun p H3 hp e3 h3 => ?_
      refine q p H3 (fresh_back (e1.trans e2) hp) ((e1.trans e2).trans e3) ⟨_, _, h3, ?_, ?_, ?_⟩
      · split <;> omega
      · have := Int.emod_nonneg ((tk % 2147483497 + 31) * (2 * (j : Int) + 5) ^ (3 : Int).toNat) (show (2147483543 : Int) ≠ 0 by decide)
        omega
      · have := Int.emod_lt_of_pos ((tk % 2147483497 + 31) * (2 * (j : Int) + 5) ^ (3 : Int).toNat) (show (0 : Int) < 2147483543 by decide)
        omega
  case len =>
    obtain ⟨a, ns, j, rfl, _⟩ := h
    rfl
theorem sc_law_draw : FnScope ["_law_pot_here", "_law_many", "_law_digit"] ["_law_pot_here", "_law_many"] (defScope (topS 38)) := ⟨rfl, rfl, rfl, by decide +kernel, rfl, by decide +kernel, by decide +kernel⟩
theorem ok_law_draw (T : Tx K mg fd) : FnOk P w K mg base CX0 1 (He.ga K "_law_draw") (fd 12) ["_law_pot_here", "_law_many"] spDraw := by
  refine (T.df 12 38 "_law_draw" rfl).ok sc_law_draw (fun vs H Q E h => ?len) (fun cdv A outer s H vs Q E hr h => ?body)
  case body =>
    refine ⟨_, (pss_cons (ps_if (pt_cmpR op_gt (pe_ix ix_list (pv 0) pe_int (fun _ _ => rfl)) pe_int (nomark _)) (pss_cons (ps_asg (pe_callB call_divmod (by rfl) (T.fr 49 "divmod" rfl) (by decide +kernel) (pa_cons (pe_ix ix_list (pv 0) pe_int (fun _ _ => rfl)) (pa_cons (pv 1) pa_nil))) (pg_tup rfl (pgs_cons (pg_sub (pv 0) pe_int set_list) (pgs_cons (pg_name (i := 2) sc_law_draw.nd rfl (Or.inl rfl)) pgs_nil)))) (pss_one (ps_ret (pv 2)))) pss_nil) (pss_cons (ps_asg (pe_op op_mod (pe_callTy call_int1 (by rfl) (T.fr 35 "int" rfl) (by decide +kernel) (pa_cons (pe_op op_add (pe_op op_mulW (pe_ix ix_list (pv 0) pe_int (fun _ _ => rfl)) pe_int) pe_int) pa_nil)) pe_int) (pg_sub (pv 0) pe_int set_list)) (pss_one (ps_ret (pe_op op_mod (pe_callTy call_int1 (by rfl) (T.fr 35 "int" rfl) (by decide +kernel) (pa_cons (pe_op op_fdiv (pe_op op_mod (pe_callTy call_int1 (by rfl) (T.fr 35 "int" rfl) (by decide +kernel) (pa_cons (pe_op op_mulW (pe_ix ix_list (pv 0) pe_int (fun _ _ => rfl)) (pe_ix ix_list (pv 0) pe_int (fun _ _ => rfl))) pa_nil)) pe_int) pe_int) pa_nil)) (pv 1)))))), ?_⟩
    obtain ⟨p, m, rfl, ⟨x, y, hp, x0, y0, y1⟩, m0, m1, q⟩ := h
    refine q_when (b := decide ((0 : Int) < x)) (et_test (ev_op (ev_op (ev_var rfl) ev_c (rv_ixL (sq_of hp) (atI_nat (j := 0) rfl))) ev_c rv_I0)) (fun hb H1 e1 => ?_) (fun hb H1 e1 => ?_)
    · have hp1 := e1 p _ hp
      refine ⟨_, rfl, p, [.int x, .int y], 0, .int x, rfl, rfl, sq_of hp1, atI_nat (j := 0) rfl, _, rfl, x, m, rfl, ⟨m0, by omega⟩, fun t ht => ?_⟩
      have hpt : p ≠ t := (ne_pot hp1 ht).symm
      refine ⟨t, [.int (x / m), .int (x % m)], rfl, st_of upd_same, rfl, _, _, rfl, _, rfl, p, [.int x, .int y], 0, 0, rfl, rfl, by rw [upd_ne hpt]; exact hp1, rfl, _, _, rfl, rfl, ?_⟩
      refine s_ret (v := .int (x % m)) (ev_var rfl) fun H2 e2 => ?_
      refine q (x % m) H2 ?_ ?_ (Int.emod_nonneg _ (by omega)) (Int.emod_lt_of_pos _ m0)
      · exact (((rem_mono e1).trans (rem_mono (Ex.new ht))).trans rem_upd).trans (rem_mono e2)
      · exact ⟨x / m, y, e2 p _ upd_same, Int.ediv_nonneg x0 (by omega), y0, y1⟩
    · have hp1 := e1 p _ hp
      have c1 := Int.emod_nonneg (y * 40009 + 15013) (show (2147483629 : Int) ≠ 0 by decide)
      have c2 := Int.emod_lt_of_pos (y * 40009 + 15013) (show (0 : Int) < 2147483629 by decide)
      refine q_setL (j := 1) hp1 (ev_op (ev_int1 (ev_op (ev_op (ev_op (ev_var rfl) ev_c (rv_ixL (sq_of hp1) (atI_nat (j := 1) rfl))) ev_c (rv_I (wide_mul (a := 40) (b := 40) (by omega) (by decide) (by decide) (by decide) (by decide)))) ev_c rv_I0)) ev_c (rv_I (by decide))) (ev_var rfl) ev_c (by show 1 < 2; decide) fun H2 e2 => ?_
      have hp2 : (upd H2 p (.lst [.int x, .int ((y * 40009 + 15013) % 2147483629)])) p = some (.lst [.int x, .int ((y * 40009 + 15013) % 2147483629)]) := upd_same
      refine s_ret (ev_op (ev_int1 (ev_op (ev_op (ev_int1 (ev_op (ev_op (ev_var rfl) ev_c (rv_ixL (sq_of hp2) (atI_nat (j := 1) rfl))) (ev_op (ev_var rfl) ev_c (rv_ixL (sq_of hp2) (atI_nat (j := 1) rfl))) (rv_I (wide_mul (a := 40) (b := 40) (by omega) (by omega) (by decide) (by decide) (by decide))))) ev_c (rv_I (by decide))) ev_c (rv_I ⟨by decide, by decide⟩))) (ev_var rfl) (rv_I m0)) fun H3 e3 => ?_
      refine q _ H3 ?_ ⟨x, _, e3 p _ hp2, x0, c1, by omega⟩ (Int.emod_nonneg _ (by omega)) (Int.emod_lt_of_pos _ m0)
      exact ((rem_mono (e1.trans e2)).trans rem_upd).trans (rem_mono e3)
  case len =>
    obtain ⟨p, m, rfl, _⟩ := h
    rfl
theorem sc_law_pick : FnScope ["_law_pot_here", "_law_some_here"] ["_law_pot_here", "_law_some_here"] (defScope (topS 39)) := ⟨rfl, rfl, rfl, by decide +kernel, rfl, by decide +kernel, by decide +kernel⟩
theorem ok_law_pick (T : Tx K mg fd) : FnOk P w K mg base CX0 2 (He.ga K "_law_pick") (fd 13) ["_law_pot_here", "_law_some_here"] (spPick K) := by
  refine (T.df 13 39 "_law_pick" rfl).ok sc_law_pick (fun vs H Q E h => ?len) (fun cdv A outer s H vs Q E hr h => ?body)
  case body =>
    refine ⟨_, (pss_one (ps_ret (pe_ix ix_list (pv 1) (pe_call (ok_law_draw T) (hr.mono (by decide)) (by rfl) (T.gl 14 "_law_draw" rfl) (T.df 12 38 "_law_draw" rfl).kp ((T.df 12 38 "_law_draw" rfl).binds (ps := ["_law_pot_here", "_law_many"]) fun _ _ _ _ _ _ us hl => match us, hl with | [_, _], _ => rfl) .nil pass0 (pa_cons (pv 0) (pa_cons (pe_callB call_len (by rfl) (T.fr 41 "len" rfl) (by decide +kernel) (pa_cons (pv 1) pa_nil)) pa_nil))) (fun _ _ => rfl)))), ?_⟩
    obtain ⟨p, a, xs, rfl, hp, hs, l0, l1, q⟩ := h
    have hs' : SqL K H a xs := sq_of (rem_ex a _ hs)
    refine ⟨_, rfl, _, rfl, _, rfl, _, _, rfl, .inl ⟨_, hs', rfl⟩, p, _, rfl, hp, by omega, by omega, fun d H' e hp' d0 d1 => ?_⟩
    obtain ⟨j, rfl⟩ := Int.eq_ofNat_of_zero_le d0
    have hj : j < xs.length := by omega
    exact ⟨a, xs, (j : Int), xs[j], rfl, rfl, sq_of (rem_ex a _ (e a _ hs)), atI_nat (by simp [hj]), q _ _ (List.getElem_mem hj) e hp'⟩
  case len =>
    obtain ⟨p, a, xs, rfl, _⟩ := h
    rfl
end
end K12
set_option Elab.async false
set_option linter.all false
set_option maxRecDepth 100000
set_option maxHeartbeats 4000000
namespace K12
open PySem PySem.Spec PyProof.Rows L2 Evl Gen
section
variable {P : Program} {w : World} {K : PySem.W.Frag} {mg : Str → Option Value} {base : Heap} {fd : Nat → FuncData}
theorem rem_of {p : Addr} {H H' : Hp} (e : Ex (rem p H) H') : Ex (rem p H) (rem p H') := fun b o h => by
  have n : b ≠ p := by
    intro z
    subst z
    unfold rem at h
    rw [if_pos rfl] at h
    cases h
  exact rem_at (e b o h) n
theorem cons_erase : ∀ {zs : List V} {j : Nat} (hj : j < zs.length), (zs[j] :: zs.eraseIdx j).Perm zs
  | x :: r, 0, _ => List.Perm.refl _
  | x :: r, j + 1, h => (List.Perm.swap x (r[j]'(Nat.lt_of_succ_lt_succ h)) (r.eraseIdx j)).trans ((cons_erase (zs := r) (j := j) (Nat.lt_of_succ_lt_succ h)).cons x)
theorem rem_p {p : Addr} {H : Hp} : rem p H p = none := by
  unfold rem
  rw [if_pos rfl]
theorem rem_none {p q : Addr} {H : Hp} (h : H q = none) : rem p H q = none := by
  unfold rem
  split
  · rfl
  · exact h
def spSome (K : PySem.W.Frag) : Sp := fun vs H Q _ => ∃ (p a : Addr) (xs : List V) (m : Nat), vs = [.ref p, .ref a, .int (m : Int)] ∧ Pot H p ∧ SqL K (rem p H) a xs ∧ m ≤ xs.length ∧ xs.length ≤ 1000 ∧
  ∀ ys zs q H', (ys ++ zs).Perm xs → ys.length = m → Ex (rem p H) (rem p H') → Pot H' p → rem p H q = none → rem p H' q = some (.lst ys) → Q (.ref q) H'
theorem sc_law_some : FnScope ["_law_pot_here", "_law_pool_here", "_law_many", "_law_rest", "_law_found", "_law_turn"] ["_law_pot_here", "_law_pool_here", "_law_many"] (defScope (topS 40)) := ⟨rfl, rfl, rfl, by decide +kernel, rfl, by decide +kernel, by decide +kernel⟩
theorem ok_law_some (T : Tx K mg fd) : FnOk P w K mg base CX0 3 (He.ga K "_law_some") (fd 14) ["_law_pot_here", "_law_pool_here", "_law_many"] (spSome K) := by
  refine (T.df 14 40 "_law_some" rfl).ok sc_law_some (fun vs H Q E h => ?len) (fun cdv A outer s H vs Q E hr h => ?body)
  case body =>
    refine ⟨_, (pss_cons (ps_par (i := 3) (j := 4) (by rfl) sc_law_some.nd rfl rfl (by decide) rfl rfl (pa_cons (pe_callTy call_list_of (by rfl) (T.fr 38 "list" rfl) (by decide +kernel) (pa_cons (pv 1) pa_nil)) (pa_cons (pe_lst pa_nil) pa_nil)) (by rfl)) (pss_cons (ps_for PassesOwn.never rfl (pi_range1 (by rfl) (T.fr 45 "range" rfl) (pa_cons (pv 2) pa_nil)) (pg_name (i := 5) sc_law_some.nd rfl (Or.inl rfl)) (pss_one (ps_expr (pe_bm PySem.F.plainAttrs_list PySem.F.slot_list_append PySem.F.type_list_append mt_append (pv 4) (pa_cons (pe_bm PySem.F.plainAttrs_list PySem.F.slot_list_pop PySem.F.type_list_pop mt_popAt (pv 3) (pa_cons (pe_call (ok_law_draw T) (hr.mono (by decide)) (by rfl) (T.gl 14 "_law_draw" rfl) (T.df 12 38 "_law_draw" rfl).kp ((T.df 12 38 "_law_draw" rfl).binds (ps := ["_law_pot_here", "_law_many"]) fun _ _ _ _ _ _ us hl => match us, hl with | [_, _], _ => rfl) .nil pass0 (pa_cons (pv 0) (pa_cons (pe_callB call_len (by rfl) (T.fr 41 "len" rfl) (by decide +kernel) (pa_cons (pv 3) pa_nil)) pa_nil))) pa_nil)) pa_nil))))) (pss_one (ps_ret (pv 4))))), ?_⟩
    obtain ⟨p, a, xs, m, rfl, hp, hs, hm, hz, q⟩ := h
    have hax : SqL K H a xs := ex_l rem_ex hs
    refine ⟨V.ref a, rfl, a, xs, rfl, .inl hax, fun l hl => ?_⟩
    have e1 : Ex H (upd H l (.lst xs)) := Ex.new hl
    refine (el_lst ea_nil (by decide)) _ (Ex.refl _) _ fun f H2 hf e2 hf2 => ⟨_, _, rfl, ?_⟩
    obtain ⟨px, py, hpp, hp1, hp2, hp3⟩ := hp
    have nlp : l ≠ p := ne_pot hpp hl
    have nfp : f ≠ p := ne_pot (e1 _ _ hpp) hf
    have nfl : f ≠ l := fun z => by rw [z, upd_same] at hf; cases hf
    have hf0 : H f = none := fresh_back e1 hf
    have g2 : Ex (rem p H) H2 := (rem_ex.trans e1).trans e2
    dsimp only
    refine q_forR1 (n := (m : Int)) (ea_cons (ev_var rfl) ea_nil) ⟨by omega, by omega⟩ (fun i σ' H' => (∃ o5, σ' = [some (.ref p), some (.ref a), some (.int (m : Int)), some (.ref l), some (.ref f), o5]) ∧ Ex (rem p H) H' ∧ Pot H' p ∧ ∃ ys zs, (ys ++ zs).Perm xs ∧ ys.length = i ∧ H' f = some (.lst ys) ∧ H' l = some (.lst zs))
      (fun H3 e3 => ⟨⟨none, rfl⟩, g2.trans e3, ⟨px, py, e3 _ _ (e2 _ _ (e1 _ _ hpp)), hp1, hp2, hp3⟩, [], xs, List.Perm.refl _, rfl, e3 _ _ hf2, e3 _ _ (e2 _ _ upd_same)⟩) (fun i σ' H' hi pp => ?turn) (fun σ' H' pp => ?fin)
    case fin =>
      obtain ⟨⟨o5, rfl⟩, g, hP, ys, zs, h1, h2, h3, h4⟩ := pp
      refine s_ret (ev_var rfl) fun H3 e3 => q ys zs f H3 h1 (by rw [h2]; simp) (rem_of (g.trans e3)) ?_ (rem_none hf0) (rem_at (e3 _ _ h3) nfp)
      obtain ⟨x', y', a1, a2⟩ := hP
      exact ⟨x', y', e3 _ _ a1, a2⟩
    case turn =>
      obtain ⟨⟨o5, rfl⟩, g, hP, ys, zs, h1, h2, h3, h4⟩ := pp
      have hlen : ys.length + zs.length = xs.length := by rw [← List.length_append]; exact h1.length_eq
      have hzl : 0 < zs.length := by omega
      refine ⟨V.ref f, rfl, Or.inl ⟨rfl, ys, sq_of h3⟩, V.ref l, rfl, Or.inl ⟨rfl, zs, sq_of h4⟩, V.ref p, rfl, V.ref l, rfl, _, zs.length, rfl, .inl ⟨_, sq_of h4, rfl⟩, p, (zs.length : Int), rfl, hP, by omega, by omega, fun d H3 e3 hP3 d0 d1 => ?_⟩
      obtain ⟨j, rfl⟩ := Int.eq_ofNat_of_zero_le d0
      have hj : j < zs.length := by omega
      have l3 : H3 l = some (.lst zs) := rem_ex _ _ (e3 _ _ (rem_at h4 nlp))
      have f3 : H3 f = some (.lst ys) := rem_ex _ _ (e3 _ _ (rem_at h3 nfp))
      have g3 : Ex (rem p H) H3 := (rem_of g).trans (e3.trans rem_ex)
      have hix : seqIndex? (j : Int) zs.length = some j := by
        unfold seqIndex?
        simp [hj]
        omega
      have gl0 : rem p H l = none := rem_none hl
      have gf0 : rem p H f = none := rem_none hf0
      refine ⟨l, zs, (j : Int), j, zs[j], rfl, rfl, l3, by omega, by omega, hix, List.getElem?_eq_getElem hj, ?_⟩
      refine ⟨f, ys, zs[j], rfl, rfl, by rw [upd_ne nfl]; exact f3, sz_lt (by omega), ⟨_, rfl⟩, Ex.mut (Ex.mut g3 gl0) gf0, ?_, ys ++ [zs[j]], zs.eraseIdx j, ?_, by rw [List.length_append, h2]; rfl, upd_same, by rw [upd_ne nfl.symm, upd_same]⟩
      · obtain ⟨x', y', a1, a2⟩ := hP3
        exact ⟨x', y', by rw [upd_ne nfp.symm, upd_ne nlp.symm]; exact a1, a2⟩
      · rw [List.append_assoc]
        exact ((cons_erase hj).append_left ys).trans h1
  case len =>
    obtain ⟨p, a, xs, m, rfl, _⟩ := h
    rfl
end
end K12
set_option Elab.async false
set_option linter.all false
set_option maxRecDepth 100000
set_option maxHeartbeats 4000000
namespace K12
open PySem PySem.Spec PyProof.Rows L2 Evl Gen
section
variable {P : Program} {w : World} {K : PySem.W.Frag} {mg : Str → Option Value} {base : Heap} {fd : Nat → FuncData}
def spNode : Sp := fun vs H Q _ => ∃ (x : Str) (d : Addr) (kvs : List (Key × V)), vs = [.str x, .ref d] ∧ H d = some (.dK kvs) ∧ RetV (.bl (valV kvs (.inr x)).isSome) H Q
theorem node_sp {H : Hp} {x : Str} {d : Addr} {kvs : List (Key × V)} (h : H d = some (.dK kvs)) : SpV spNode [.str x, .ref d] H (.bl (valV kvs (.inr x)).isSome) := fun H1 e Q q E => ⟨x, d, kvs, rfl, e _ _ h, q⟩
theorem sc_is_node : FnScope ["value", "places"] ["value", "places"] (defScope (topS 25)) := ⟨rfl, rfl, rfl, by decide +kernel, rfl, by decide +kernel, by decide +kernel⟩
theorem ok_is_node (T : Tx K mg fd) : FnOk P w K mg base CX0 1 (He.ga K "is_node") (fd 5) ["value", "places"] spNode := by
  refine (T.df 5 25 "is_node" rfl).ok sc_is_node (fun vs H Q E h => ?len) (fun cdv A outer s H vs Q E hr h => ?body)
  case body =>
    refine ⟨_, (pss_one (ps_ret (pe_and (pe_callB call_isi (by rfl) (T.fr 34 "isinstance" rfl) (by decide +kernel) (pa_cons (pv 0) (pa_cons (pe_bltn (v := V.ty "str") (by rfl) (T.fr 37 "str" rfl) (by decide +kernel) rfl) pa_nil))) (pe_one (pe_cmp (pc_din (u1 hr.units) (pv 0) (pv 1))))))), ?_⟩
    obtain ⟨x, d, kvs, rfl, hd, q⟩ := h
    refine s_ret (v := .bl (valV kvs (.inr x)).isSome) ?_ fun H1 e => q.go e
    exact ev_andV (a := true) (ev_isi (ev_var rfl) (.str x) (Ky.str (H := H) x).str_ ev_c) fun _ => ev_din (ev_var rfl) (ev_var rfl) hd
  case len =>
    obtain ⟨x, d, kvs, rfl, _⟩ := h
    rfl
def spFits : Sp := fun vs H Q _ => ∃ (a : Addr) (x y : Str) (d : Addr) (kvs : List (Key × V)), vs = [.ref a, .ref d] ∧ H a = some (.tup [.str x, .str y]) ∧ H d = some (.dK kvs) ∧ (∀ z v, valV kvs (.inr z) = some v → ∃ i : Int, v = .int i) ∧ RetV (.bl (fitB kvs x y)) H Q
theorem sc_fits_as_line : FnScope ["value", "places", "low", "high"] ["value", "places"] (defScope (topS 26)) := ⟨rfl, rfl, rfl, by decide +kernel, rfl, by decide +kernel, by decide +kernel⟩
theorem ok_fits_as_line (T : Tx K mg fd) : FnOk P w K mg base CX0 2 (He.ga K "fits_as_line") (fd 6) ["value", "places"] spFits := by
  refine (T.df 6 26 "fits_as_line" rfl).ok sc_fits_as_line (fun vs H Q E h => ?len) (fun cdv A outer s H vs Q E hr h => ?body)
  case body =>
    refine ⟨_, (pss_cons (ps_if (PW.pt (pw_or (pt_not (pt_val (pe_callB call_isi (by rfl) (T.fr 34 "isinstance" rfl) (by decide +kernel) (pa_cons (pv 0) (pa_cons (pe_bltn (v := V.ty "tuple") (by rfl) (T.fr 39 "tuple" rfl) (by decide +kernel) rfl) pa_nil))))) (pw_or1 (pt_cmpR op_ne (pe_callB call_len (by rfl) (T.fr 41 "len" rfl) (by decide +kernel) (pa_cons (pv 0) pa_nil)) pe_int (nomark _))))) (pss_one (ps_ret pe_bl)) pss_nil) (pss_cons (ps_asg (pv 0) (pg_tup rfl (pgs_cons (pg_name (i := 2) sc_fits_as_line.nd rfl (Or.inl rfl)) (pgs_cons (pg_name (i := 3) sc_fits_as_line.nd rfl (Or.inl rfl)) pgs_nil)))) (pss_cons (ps_if (PW.pt (pw_or (pt_not (pt_val (pe_call (ok_is_node T) (hr.mono (by decide)) (by rfl) (T.gl 7 "is_node" rfl) (T.df 5 25 "is_node" rfl).kp ((T.df 5 25 "is_node" rfl).binds (ps := ["value", "places"]) fun _ _ _ _ _ _ us hl => match us, hl with | [_, _], _ => rfl) .nil pass0 (pa_cons (pv 2) (pa_cons (pv 1) pa_nil))))) (pw_or1 (pt_not (pt_val (pe_call (ok_is_node T) (hr.mono (by decide)) (by rfl) (T.gl 7 "is_node" rfl) (T.df 5 25 "is_node" rfl).kp ((T.df 5 25 "is_node" rfl).binds (ps := ["value", "places"]) fun _ _ _ _ _ _ us hl => match us, hl with | [_, _], _ => rfl) .nil pass0 (pa_cons (pv 3) (pa_cons (pv 1) pa_nil)))))))) (pss_one (ps_ret pe_bl)) pss_nil) (pss_one (ps_ret (pe_cmpR op_eq (pe_dget (u1 hr.units) (pv 1) (pv 3) (fun _ _ => rfl)) (pe_op op_add (pe_dget (u1 hr.units) (pv 1) (pv 2) (fun _ _ => rfl)) pe_int) (nomark _))))))), ?_⟩
    obtain ⟨a, x, y, d, kvs, rfl, ha, hd, hk, q⟩ := h
    refine q_when (b := false) ?_ (fun z => nomatch z) fun _ H1 e1 => ?_
    · refine et_is (a := (!true) || !(decide ((2 : Int) = 2))) (et_or (et_not (a := true) (et_B (ev_isi (ev_var rfl) (.tup ha) (by show kitB _ _ = some true; decide +kernel) ev_c))) fun _ => ?_) rfl
      refine et_test (ev_op (ev_lenX (n := 2) (ev_var rfl) fun H1 e Q q => ⟨_, 2, rfl, Or.inr ⟨_, st_of (e _ _ ha), rfl⟩, q⟩) ev_c (rv_val fun H1 e Q q => ?_))
      exact ⟨rfl, q⟩
    refine ⟨V.ref a, rfl, a, _, rfl, st_of (e1 _ _ ha), rfl, _, _, rfl, _, _, rfl, rfl, ?_⟩
    have e2 := Ex.refl H1
    have hd2 := (e1.trans e2) _ _ hd
    dsimp only
    cases hx : valV kvs (.inr x) with
    | none =>
      have e0 : fitB kvs x y = false := by unfold fitB; rw [hx]
      refine q_when (b := true) ?_ (fun _ H3 e3 => s_ret ev_c fun H4 e4 => ?_) (fun z => nomatch z)
      · refine et_is (a := true || false) (et_or (et_not (a := false) (et_B ?_)) fun z => nomatch z) rfl
        exact ev_is (ev_call0 (ea_cons (ev_var rfl) (ea_cons (ev_var rfl) ea_nil)) (node_sp hd2)) (by rw [hx]; rfl)
      · rw [← e0]; exact q.go (((e1.trans e2).trans e3).trans e4)
    | some vx =>
    cases hy : valV kvs (.inr y) with
    | none =>
      have e0 : fitB kvs x y = false := by unfold fitB; rw [hx, hy]; split <;> first | rfl | (rename_i z; cases z)
      refine q_when (b := true) ?_ (fun _ H3 e3 => s_ret ev_c fun H4 e4 => ?_) (fun z => nomatch z)
      · refine et_is (a := false || true) (et_or (et_not (a := true) (et_B ?_)) fun _ => et_not (a := false) (et_B ?_)) rfl
        · exact ev_is (ev_call0 (ea_cons (ev_var rfl) (ea_cons (ev_var rfl) ea_nil)) (node_sp hd2)) (by rw [hx]; rfl)
        · exact ev_is (ev_call0 (ea_cons (ev_var rfl) (ea_cons (ev_var rfl) ea_nil)) (node_sp hd2)) (by rw [hy]; rfl)
      · rw [← e0]; exact q.go (((e1.trans e2).trans e3).trans e4)
    | some vy =>
    obtain ⟨i, rfl⟩ := hk _ _ hx
    obtain ⟨j, rfl⟩ := hk _ _ hy
    have e0 : fitB kvs x y = decide (j = i + 1) := by unfold fitB; rw [hx, hy]
    refine q_when (b := false) ?_ (fun z => nomatch z) fun _ H3 e3 => s_ret (v := .bl (fitB kvs x y)) ?_ fun H4 e4 => q.go (((e1.trans e2).trans e3).trans e4)
    · refine et_is (a := false || false) (et_or (et_not (a := true) (et_B ?_)) fun _ => et_not (a := true) (et_B ?_)) rfl
      · exact ev_is (ev_call0 (ea_cons (ev_var rfl) (ea_cons (ev_var rfl) ea_nil)) (node_sp hd2)) (by rw [hx]; rfl)
      · exact ev_is (ev_call0 (ea_cons (ev_var rfl) (ea_cons (ev_var rfl) ea_nil)) (node_sp hd2)) (by rw [hy]; rfl)
    · rw [e0]
      refine ev_is (ev_op (ev_dget (ev_var rfl) (ev_var rfl) (e3 _ _ hd2) hy) (ev_op (ev_dget (ev_var rfl) (ev_var rfl) (e3 _ _ hd2) hx) ev_c rv_I0) (rv_eq rfl)) ?_
      show V.bl (decide (V.int j = V.int (i + 1))) = _
      exact congrArg V.bl (by simp)
  case len =>
    obtain ⟨a, x, y, d, kvs, rfl, _⟩ := h
    rfl
def spPlaces (K : PySem.W.Frag) : Sp := fun vs H Q _ => ∃ (a : Addr) (ls : List (List Str)), vs = [.ref a] ∧ LvAt K H a ls ∧ many ls ≤ 1000 ∧ ∀ p H2, H p = none → Ex H H2 → H2 p = some (.dK (plTo 0 ls [])) → Q (.ref p) H2
theorem sc_places_of : FnScope ["levels", "places", "number", "names", "name"] ["levels"] (defScope (topS 24)) := ⟨rfl, rfl, rfl, by decide +kernel, rfl, by decide +kernel, by decide +kernel⟩
theorem ok_places_of (T : Tx K mg fd) : FnOk P w K mg base CX0 1 (He.ga K "places_of") (fd 4) ["levels"] (spPlaces K) := by
  refine (T.df 4 24 "places_of" rfl).ok sc_places_of (fun vs H Q E h => ?len) (fun cdv A outer s H vs Q E hr h => ?body)
  case body =>
    refine ⟨_, (pss_cons (ps_set (i := 1) sc_places_of.nd rfl (Or.inl rfl) pe_dnewK) (pss_cons (ps_for PassesOwn.never rfl (pi_enumS (by rfl) (T.fr 50 "enumerate" rfl) (pa_cons (pv 0) pa_nil)) (pg_tup rfl (pgs_cons (pg_name (i := 2) sc_places_of.nd rfl (Or.inl rfl)) (pgs_cons (pg_name (i := 3) sc_places_of.nd rfl (Or.inl rfl)) pgs_nil))) (pss_one (ps_for PassesOwn.never rfl (pi_seq (pv 3)) (pg_name (i := 4) sc_places_of.nd rfl (Or.inl rfl)) (pss_one (ps_dput (u1 hr.units) (pv 1) (pv 4) (pv 2) rfl))))) (pss_one (ps_ret (pv 1))))), ?_⟩
    obtain ⟨a, ls, rfl, ⟨rows, hR, hl, hi⟩, hm, q⟩ := h
    refine q_dnew fun p hp => ?_
    refine q_forE (H0 := H) (ea_cons (ev_var rfl) ea_nil) (Ex.new hp) hR (fun i σ' H' => (∃ o2 o3 o4, σ' = [some (.ref a), some (.ref p), o2, o3, o4]) ∧ Ex H H' ∧ H' p = some (.dK (plTo 0 (ls.take i) []))) (fun H1 e1 => ⟨⟨none, none, none, rfl⟩, (Ex.new hp).trans e1, e1 _ _ upd_same⟩) (fun i σ' H' p => p.2.1) (fun i x σ' H' H2 hx pp e2 => ?turn) (fun σ' H' pp => ?fin)
    case fin =>
      obtain ⟨⟨o2, o3, o4, rfl⟩, e1, h1⟩ := pp
      rw [hl, List.take_length] at h1
      exact s_ret (ev_var rfl) fun H3 e3 => q p H3 hp (e1.trans e3) (e3 _ _ h1)
    case turn =>
      obtain ⟨⟨o2, o3, o4, rfl⟩, e1, h1⟩ := pp
      have hil : i < ls.length := by rw [← hl]; exact (List.getElem?_eq_some_iff.mp hx).1
      have hws : ls[i]? = some ls[i] := List.getElem?_eq_getElem hil
      obtain ⟨r, hr', hs⟩ := hi i _ hws
      rw [hr'] at hx
      cases hx
      have hmt := many_take hws
      refine s_forS (H0 := H) (ev_var rfl) (e1.trans e2) hs (fun j σ' H' => (∃ o4, σ' = [some (.ref a), some (.ref p), some (.int (i : Int)), some (.ref r), o4]) ∧ Ex H H' ∧ H' p = some (.dK (plRow i (ls[i].take j) (plTo 0 (ls.take i) [])))) (fun H3 e3 => ⟨⟨o4, rfl⟩, (e1.trans e2).trans e3, e3 _ _ (e2 _ _ h1)⟩) (fun j σ' H' p => p.2.1) (fun j y σ' H' hy pp => ?turn2) (fun σ' H' pp => ?fin2)
      case fin2 =>
        obtain ⟨⟨o4, rfl⟩, e3, h3⟩ := pp
        refine ⟨⟨_, _, _, rfl⟩, e3, ?_⟩
        rw [take_snoc hws, plTo_snoc, h3, List.length_map, List.take_length, List.length_take, Nat.min_eq_left (Nat.le_of_lt hil), Nat.zero_add]
      case turn2 =>
        obtain ⟨⟨o4, rfl⟩, e3, h3⟩ := pp
        obtain ⟨u, hu, rfl⟩ : ∃ u, ls[i][j]? = some u ∧ V.str u = y := by simpa using hy
        refine s_dput (ev_var rfl) (ev_var rfl) (ev_var rfl) h3 ?_ fun H4 e4 => ⟨⟨_, rfl⟩, Ex.mut (e3.trans e4) hp, ?_⟩
        · have l1 : (plRow i (ls[i].take j) (plTo 0 (ls.take i) [])).length ≤ _ := plRow_len
          have l2 : (plTo 0 (ls.take i) []).length ≤ _ := plTo_len
          have l3 : (ls[i].take j).length ≤ ls[i].length := by rw [List.length_take]; exact Nat.min_le_right _ _
          have l4 : ([] : List (Key × V)).length = 0 := rfl
          omega
        · rw [upd_same, take_snoc hu]
          unfold plRow
          rw [List.foldl_append]
          rfl
  case len =>
    obtain ⟨a, ls, rfl, _⟩ := h
    rfl
end
end K12
set_option Elab.async false
set_option linter.all false
set_option maxRecDepth 100000
set_option maxHeartbeats 4000000
namespace K12
open PySem PySem.Spec PyProof.Rows L2 Evl Gen
section
variable {P : Program} {w : World} {K : PySem.W.Frag} {mg : Str → Option Value} {base : Heap} {fd : Nat → FuncData}
theorem islist_sp {H : Hp} {a : Addr} {xs : List V} (h : Sq K H a xs) : SpV (spIsList K) [.ref a] H (.bl true) := fun H1 e Q q E => ⟨a, xs, rfl, ex_s e h, q⟩
theorem lenS {H : Hp} {σ : L2.St} {te : TE} {a : Addr} {xs : List V} (he : Ev te σ H (.ref a)) (h : Sq K H a xs) : Ev (tCB (fun ys H Q => ∃ x n, ys = [x] ∧ LenV K x H n ∧ Q (.int (n : Nat)) H) (tCons te tNil)) σ H (.int (xs.length : Int)) :=
  ev_lenX he fun H1 e Q q => ⟨_, xs.length, rfl, by rcases ex_s e h with h | h <;> first | exact Or.inl ⟨_, h, rfl⟩ | exact Or.inr ⟨_, h, rfl⟩, q⟩
theorem isN_ok {x : Str} (h : isN (.str x) = true) : x.cps.size ≤ 100 := by
  have h1 : (decide (1 ≤ (x.length : Int)) && decide ((x.length : Int) ≤ 6)) = true := by
    cases hc : (decide (1 ≤ (x.length : Int)) && decide ((x.length : Int) ≤ 6)) with
    | true => rfl
    | false => rw [isN_out hc] at h; cases h
  simp only [Bool.and_eq_true, decide_eq_true_eq] at h1
  have : x.length = x.cps.size := rfl
  omega
/-- levels that are good: names, once each -/
structure LvOk (ls : List (List Str)) : Prop where
  some : ls ≠ []
  names : ∀ ws ∈ ls, ∀ x ∈ ws, isN (.str x) = true
  once : ls.flatten.Nodup
  few : many ls ≤ 60
def spLevels (K : PySem.W.Frag) : Sp := fun vs H Q _ => ∃ (a : Addr) (ls : List (List Str)), vs = [.ref a] ∧ LvAt K H a ls ∧ LvOk ls ∧ RetV .non H Q
theorem many_flat : ∀ {ls : List (List Str)}, ls.flatten.length = many ls
  | [] => rfl
  | l :: r => by rw [List.flatten_cons, List.length_append, many_flat]; rfl
theorem flat_take {ls : List (List Str)} {i : Nat} {ws : List Str} (h : ls[i]? = some ws) : (ls.take (i + 1)).flatten = (ls.take i).flatten ++ ws := by
  rw [take_snoc h, List.flatten_append]
  simp
/-- a name that comes next stands not ahead -/
theorem next_new {ls : List (List Str)} {i j : Nat} {ws : List Str} {x : Str} (h : ls.flatten.Nodup) (hi : ls[i]? = some ws) (hj : ws[j]? = some x) : x ∉ (ls.take i).flatten ++ ws.take j := by
  have e1 : ls.flatten = (ls.take (i + 1)).flatten ++ (ls.drop (i + 1)).flatten := by rw [← List.flatten_append, List.take_append_drop]
  rw [e1, flat_take hi] at h
  have h2 := (List.nodup_append.mp h).1
  have e2 : ws = ws.take j ++ x :: ws.drop (j + 1) := by
    obtain ⟨hl, he⟩ := List.getElem?_eq_some_iff.mp hj
    have := List.take_append_drop j ws
    rw [List.drop_eq_getElem_cons hl, he] at this
    exact this.symm
  rw [e2, ← List.append_assoc] at h2
  intro m
  exact (List.nodup_append.mp h2).2.2 x m x (List.mem_cons_self ..) rfl
def inK (L : List Str) (k : Key) : Bool := match k with
  | .inr x => decide (x ∈ L)
  | .inl _ => false
theorem sc_check_levels : FnScope ["levels", "ahead", "position", "names", "name"] ["levels"] (defScope (topS 23)) := ⟨rfl, rfl, rfl, by decide +kernel, rfl, by decide +kernel, by decide +kernel⟩
theorem ok_check_levels (T : Tx K mg fd) : FnOk P w K mg base CX0 3 (He.ga K "check_levels") (fd 3) ["levels"] (spLevels K) := by
  refine (T.df 3 23 "check_levels" rfl).ok sc_check_levels (fun vs H Q E h => ?len) (fun cdv A outer s H vs Q E hr h => ?body)
  case body =>
    refine ⟨_, (pss_cons (ps_if (PW.pt (pw_or (pt_not (pt_val (pe_call (ok_is_list T) (hr.mono (by decide)) (by rfl) (T.gl 4 "is_list" rfl) (T.df 2 6 "is_list" rfl).kp ((T.df 2 6 "is_list" rfl).binds (ps := ["value"]) fun _ _ _ _ _ _ us hl => match us, hl with | [_], _ => rfl) .nil pass0 (pa_cons (pv 0) pa_nil)))) (pw_or1 (pt_cmpR op_eq (pe_callB call_len (by rfl) (T.fr 41 "len" rfl) (by decide +kernel) (pa_cons (pv 0) pa_nil)) pe_int (nomark _))))) (pss_one ps_never) pss_nil) (pss_cons (ps_set (i := 1) sc_check_levels.nd rfl (Or.inl rfl) (pe_callTy0 cr_set0K (by rfl) (T.fr 40 "set" rfl) (by decide +kernel))) (pss_one (ps_for PassesOwn.never rfl (pi_enumS (by rfl) (T.fr 50 "enumerate" rfl) (pa_cons (pv 0) pa_nil)) (pg_tup rfl (pgs_cons (pg_name (i := 2) sc_check_levels.nd rfl (Or.inl rfl)) (pgs_cons (pg_name (i := 3) sc_check_levels.nd rfl (Or.inl rfl)) pgs_nil))) (pss_cons (ps_if (pt_not (pt_val (pe_call (ok_is_list T) (hr.mono (by decide)) (by rfl) (T.gl 4 "is_list" rfl) (T.df 2 6 "is_list" rfl).kp ((T.df 2 6 "is_list" rfl).binds (ps := ["value"]) fun _ _ _ _ _ _ us hl => match us, hl with | [_], _ => rfl) .nil pass0 (pa_cons (pv 3) pa_nil)))) (pss_one ps_never) pss_nil) (pss_one (ps_for PassesOwn.never rfl (pi_seq (pv 3)) (pg_name (i := 4) sc_check_levels.nd rfl (Or.inl rfl)) (pss_cons (ps_if (PW.pt (pw_or (pt_not (pt_val (pe_call (ok_is_name T) (hr.mono (by decide)) (by rfl) (T.gl 3 "is_name" rfl) (T.df 1 5 "is_name" rfl).kp ((T.df 1 5 "is_name" rfl).binds (ps := ["value"]) fun _ _ _ _ _ _ us hl => match us, hl with | [_], _ => rfl) .nil pass0 (pa_cons (pv 4) pa_nil)))) (pw_or1 (pt_cmpR or_sinK (pv 4) (pv 1) rfl)))) (pss_one ps_never) pss_nil) (pss_one (ps_expr (pe_saddK (pv 1) (pa_cons (pv 4) pa_nil)))))))))))), ?_⟩
    obtain ⟨a, ls, rfl, ⟨rows, hR, hl, hi⟩, ok, q⟩ := h
    have hn : rows.length ≠ 0 := by
      rw [hl]
      intro z
      exact ok.some (List.length_eq_zero_iff.mp z)
    refine q_when (b := false) ?_ (fun z => nomatch z) fun _ H1 e1 => ?_
    · refine et_is (a := (!true) || decide ((rows.length : Int) = 0)) (et_or (et_not (a := true) (et_B (ev_call0 (ea_cons (ev_var rfl) ea_nil) (islist_sp hR)))) fun _ => et_test ?_) (by simpa using hn)
      exact ev_is (ev_op (lenS (ev_var rfl) hR) ev_c (rv_eq rfl)) (congrArg V.bl (by simp))
    refine q_setK fun p hp => ?_
    have hp0 := fresh_back e1 hp
    have e2 := e1.trans (Ex.new (o := SetK P w p (fun _ => false) 0) hp)
    refine s_forE (H0 := H) (ea_cons (ev_var rfl) ea_nil) e2 hR (fun i σ' H' => (∃ o2 o3 o4, σ' = [some (.ref a), some (.ref p), o2, o3, o4]) ∧ Ex H H' ∧ ∃ n, n ≤ many (ls.take i) ∧ H' p = some (SetK P w p (inK (ls.take i).flatten) n)) (fun H2 e3 => ⟨⟨none, none, none, rfl⟩, e2.trans e3, 0, Nat.zero_le _, ?zero⟩) (fun i σ' H' p => p.2.1) (fun i x σ' H' H2 hx pp e3 => ?turn) (fun σ' H' pp => ?fin)
    case zero =>
      have e0 : inK (ls.take 0).flatten = fun _ => false := by
        funext k
        cases k <;> rfl
      rw [e0]
      exact e3 _ _ upd_same
    case fin =>
      obtain ⟨⟨o2, o3, o4, rfl⟩, e3, _⟩ := pp
      exact q _ e3
    case turn =>
      obtain ⟨⟨o2, o3, o4, rfl⟩, e4, n, hnn, h1⟩ := pp
      have hil : i < ls.length := by rw [← hl]; exact (List.getElem?_eq_some_iff.mp hx).1
      have hws : ls[i]? = some ls[i] := List.getElem?_eq_getElem hil
      obtain ⟨r, hr', hs⟩ := hi i _ hws
      rw [hr'] at hx
      cases hx
      have hmt := many_take hws
      have e5 := e4.trans e3
      refine q_when (b := false) ?_ (fun z => nomatch z) fun _ H3 e6 => ?_
      · exact et_not (a := true) (et_B (ev_call0 (ea_cons (ev_var rfl) ea_nil) (islist_sp (ex_s e5 hs))))
      refine s_forS (H0 := H) (ev_var rfl) (e5.trans e6) hs (fun j σ' H' => (∃ o4, σ' = [some (.ref a), some (.ref p), some (.int (i : Int)), some (.ref r), o4]) ∧ Ex H H' ∧ ∃ n, n ≤ many (ls.take i) + j ∧ H' p = some (SetK P w p (inK ((ls.take i).flatten ++ ls[i].take j)) n)) (fun H4 e7 => ⟨⟨o4, rfl⟩, (e5.trans e6).trans e7, n, hnn, ?zero2⟩) (fun j σ' H' p => p.2.1) (fun j y σ' H' hy pp => ?turn2) (fun σ' H' pp => ?fin2)
      case zero2 =>
        rw [List.take_zero, List.append_nil]
        exact e7 _ _ (e6 _ _ (e3 _ _ h1))
      case fin2 =>
        obtain ⟨⟨o4, rfl⟩, e7, m, hm, h7⟩ := pp
        refine ⟨⟨_, _, _, rfl⟩, e7, m, ?_, ?_⟩
        · have : many (ls.take (i + 1)) = many (ls.take i) + ls[i].length := by
            rw [take_snoc hws]
            unfold many
            rw [List.map_append, List.sum_append]
            simp
          rw [List.length_map] at hm
          omega
        · rw [flat_take hws, h7, List.length_map, List.take_length]
      case turn2 =>
        obtain ⟨⟨o4, rfl⟩, e7, m, hm, h7⟩ := pp
        obtain ⟨u, hu, rfl⟩ : ∃ u, ls[i][j]? = some u ∧ V.str u = y := by simpa using hy
        have hjl : j < ls[i].length := (List.getElem?_eq_some_iff.mp hu).1
        have hN : isN (.str u) = true := ok.names _ (List.mem_of_getElem? hws) u (List.mem_of_getElem? hu)
        have hnew := next_new ok.once hws hu
        have hin : inK ((ls.take i).flatten ++ ls[i].take j) (.inr u) = false := decide_eq_false hnew
        refine q_when (b := false) ?_ (fun z => nomatch z) fun _ H5 e8 => ?_
        · refine et_is (a := (!true) || false) (et_or (et_not (a := true) (et_B (ev_is (ev_call0 (ea_cons (ev_var (v := .str u) rfl) ea_nil) (spV (f := isN) (.str u) fun x z => by cases z; exact isN_ok hN)) (congrArg V.bl hN)))) fun _ => et_test ?_) rfl
          exact ev_is (ev_sinK (ev_var rfl) (ev_var rfl) h7) (congrArg V.bl hin)
        refine s_saddK (ev_var rfl) (ev_var rfl) (e8 _ _ h7) ?_ hin fun H6 e9 => ⟨⟨_, rfl⟩, Ex.mut ((e7.trans e8).trans e9) hp0, m + 1, by omega, ?_⟩
        · have := ok.few
          omega
        · rw [upd_same]
          have e0 : inK ((ls.take i).flatten ++ ls[i].take (j + 1)) = fun k => inK ((ls.take i).flatten ++ ls[i].take j) k || decide (k = .inr u) := by
            funext k
            rw [take_snoc hu, ← List.append_assoc]
            cases k with
            | inl z => rfl
            | inr z =>
              show decide (z ∈ _ ++ [u]) = (decide (z ∈ _) || decide (Sum.inr z = Sum.inr u))
              simp [Bool.or_assoc]
          rw [e0]
          rfl
  case len =>
    obtain ⟨a, ls, rfl, _⟩ := h
    rfl
def spLimit : Sp := fun vs H Q _ => ∃ (x : Str) (m l : Int), vs = [.str x, .int m, .int l] ∧ m ≤ l ∧ RetV .non H Q
theorem sc_check_limit : FnScope ["what", "many", "limit"] ["what", "many", "limit"] (defScope (topS 28)) := ⟨rfl, rfl, rfl, by decide +kernel, rfl, by decide +kernel, by decide +kernel⟩
theorem ok_check_limit (T : Tx K mg fd) : FnOk P w K mg base CX0 1 (He.ga K "check_limit") (fd 8) ["what", "many", "limit"] spLimit := by
  refine (T.df 8 28 "check_limit" rfl).ok sc_check_limit (fun vs H Q E h => ?len) (fun cdv A outer s H vs Q E hr h => ?body)
  case body =>
    refine ⟨_, (pss_one (ps_if (pt_cmpR op_gt (pv 1) (pv 2) (nomark _)) (pss_one ps_never) pss_nil)), ?_⟩
    obtain ⟨x, m, l, rfl, hm, q⟩ := h
    refine s_when (b := false) ?_ (fun z => nomatch z) fun _ H1 e1 => q _ e1
    exact et_test (ev_is (ev_op (ev_var rfl) (ev_var rfl) rv_I0) (congrArg V.bl (by simpa using hm)))
  case len =>
    obtain ⟨x, m, l, rfl, _⟩ := h
    rfl
end
end K12
set_option Elab.async false
set_option linter.all false
set_option maxRecDepth 100000
set_option maxHeartbeats 4000000
namespace K12
open PySem PySem.Spec PyProof.Rows L2 Evl Gen
section
variable {P : Program} {w : World} {K : PySem.W.Frag} {mg : Str → Option Value} {base : Heap} {fd : Nat → FuncData}
/-- lines: rows of pairs of texts -/
def LnAt (K : PySem.W.Frag) (H : Hp) (a : Addr) (es : List (Str × Str)) : Prop :=
  ∃ rows, Sq K H a rows ∧ rows.length = es.length ∧ ∀ (i : Nat) (e : Str × Str), es[i]? = some e → ∃ p, rows[i]? = some (.ref p) ∧ H p = some (.tup [.str e.1, .str e.2])
theorem LnAt.ex {H H' : Hp} {a : Addr} {es : List (Str × Str)} (h : LnAt K H a es) (e : Ex H H') : LnAt K H' a es :=
  let ⟨rows, h1, h2, h3⟩ := h
  ⟨rows, ex_s e h1, h2, fun i ws hi => let ⟨p, h4, h5⟩ := h3 i ws hi; ⟨p, h4, e _ _ h5⟩⟩
def lk (e : Str × Str) : List Key := [.inr e.1, .inr e.2]
theorem lk_inj {e f : Str × Str} (h : lk e = lk f) : e = f := by
  unfold lk at h
  injection h with h1 h2
  injection h2 with h2 _
  injection h1 with h1
  injection h2 with h2
  exact Prod.ext h1 h2
/-- places: ints alone -/
def Ints (kvs : List (Key × V)) : Prop := ∀ z v, valV kvs (.inr z) = some v → ∃ i : Int, v = .int i
theorem fits_sp {H : Hp} {a d : Addr} {x y : Str} {kvs : List (Key × V)} (ha : H a = some (.tup [.str x, .str y])) (hd : H d = some (.dK kvs)) (hk : Ints kvs) : SpV spFits [.ref a, .ref d] H (.bl (fitB kvs x y)) :=
  fun H1 e Q q E => ⟨a, x, y, d, kvs, rfl, e _ _ ha, e _ _ hd, hk, q⟩
def spLines (K : PySem.W.Frag) : Sp := fun vs H Q _ => ∃ (a d : Addr) (es : List (Str × Str)) (kvs : List (Key × V)), vs = [.ref a, .ref d] ∧ LnAt K H a es ∧ H d = some (.dK kvs) ∧ Ints kvs ∧ (∀ e ∈ es, fitB kvs e.1 e.2 = true) ∧ es.Nodup ∧ es.length ≤ 60 ∧ RetV .non H Q
theorem next_line {es : List (Str × Str)} {i : Nat} {e : Str × Str} (h : es.Nodup) (hi : es[i]? = some e) : e ∉ es.take i := by
  have e2 : es = es.take i ++ e :: es.drop (i + 1) := by
    obtain ⟨hl, he⟩ := List.getElem?_eq_some_iff.mp hi
    have := List.take_append_drop i es
    rw [List.drop_eq_getElem_cons hl, he] at this
    exact this.symm
  rw [e2] at h
  intro m
  exact (List.nodup_append.mp h).2.2 e m e (List.mem_cons_self ..) rfl
theorem sc_check_lines : FnScope ["lines", "places", "ahead", "position", "line"] ["lines", "places"] (defScope (topS 27)) := ⟨rfl, rfl, rfl, by decide +kernel, rfl, by decide +kernel, by decide +kernel⟩
theorem ok_check_lines (T : Tx K mg fd) : FnOk P w K mg base CX0 4 (He.ga K "check_lines") (fd 7) ["lines", "places"] (spLines K) := by
  refine (T.df 7 27 "check_lines" rfl).ok sc_check_lines (fun vs H Q E h => ?len) (fun cdv A outer s H vs Q E hr h => ?body)
  case body =>
    refine ⟨_, (pss_cons (ps_if (pt_not (pt_val (pe_call (ok_is_list T) (hr.mono (by decide)) (by rfl) (T.gl 4 "is_list" rfl) (T.df 2 6 "is_list" rfl).kp ((T.df 2 6 "is_list" rfl).binds (ps := ["value"]) fun _ _ _ _ _ _ us hl => match us, hl with | [_], _ => rfl) .nil pass0 (pa_cons (pv 0) pa_nil)))) (pss_one ps_never) pss_nil) (pss_cons (ps_set (i := 2) sc_check_lines.nd rfl (Or.inl rfl) (pe_callTy0 XT.cr_set0T (by rfl) (T.fr 40 "set" rfl) (by decide +kernel))) (pss_one (ps_for PassesOwn.never rfl (pi_enumS (by rfl) (T.fr 50 "enumerate" rfl) (pa_cons (pv 0) pa_nil)) (pg_tup rfl (pgs_cons (pg_name (i := 3) sc_check_lines.nd rfl (Or.inl rfl)) (pgs_cons (pg_name (i := 4) sc_check_lines.nd rfl (Or.inl rfl)) pgs_nil))) (pss_cons (ps_if (PW.pt (pw_or (pt_not (pt_val (pe_call (ok_fits_as_line T) (hr.mono (by decide)) (by rfl) (T.gl 8 "fits_as_line" rfl) (T.df 6 26 "fits_as_line" rfl).kp ((T.df 6 26 "fits_as_line" rfl).binds (ps := ["value", "places"]) fun _ _ _ _ _ _ us hl => match us, hl with | [_, _], _ => rfl) .nil pass0 (pa_cons (pv 4) (pa_cons (pv 1) pa_nil))))) (pw_or1 (pt_cmpR (XT.or_sinT (u1 hr.units)) (pv 4) (pv 2) rfl)))) (pss_one ps_never) pss_nil) (pss_one (ps_expr (XT.pe_saddT (u1 hr.units) (pv 2) (pa_cons (pv 4) pa_nil))))))))), ?_⟩
    obtain ⟨a, d, es, kvs, rfl, ⟨rows, hR, hl, hi⟩, hd, hk, hf, ho, hz, q⟩ := h
    refine q_when (b := false) ?_ (fun z => nomatch z) fun _ H1 e1 => ?_
    · exact et_not (a := true) (et_B (ev_call0 (ea_cons (ev_var rfl) ea_nil) (islist_sp hR)))
    refine q_setT fun p hp => ?_
    have hp0 := fresh_back e1 hp
    have e2 := e1.trans (Ex.new (o := XT.TSO P w p []) hp)
    refine s_forE (H0 := H) (ea_cons (ev_var rfl) ea_nil) e2 hR (fun i σ' H' => (∃ o3 o4, σ' = [some (.ref a), some (.ref d), some (.ref p), o3, o4]) ∧ Ex H H' ∧ ∃ L, L.length = i ∧ (∀ k, k ∈ L.map Prod.snd → ∃ e ∈ es.take i, k = lk e) ∧ (∀ e ∈ L, SqT K H e.1 (e.2.map kV)) ∧ H' p = some (XT.TSO P w p L))
      (fun H2 e3 => ⟨⟨none, none, rfl⟩, e2.trans e3, [], rfl, (fun k z => by cases z), (fun e z => by cases z), e3 _ _ upd_same⟩) (fun i σ' H' p => p.2.1) (fun i x σ' H' H2 hx pp e3 => ?turn) (fun σ' H' pp => ?fin)
    case fin =>
      obtain ⟨⟨o3, o4, rfl⟩, e3, _⟩ := pp
      exact q _ e3
    case turn =>
      obtain ⟨⟨o3, o4, rfl⟩, e4, L, hLn, hLk, hLs, h1⟩ := pp
      have hil : i < es.length := by rw [← hl]; exact (List.getElem?_eq_some_iff.mp hx).1
      have hes : es[i]? = some es[i] := List.getElem?_eq_getElem hil
      obtain ⟨r, hr', hs⟩ := hi i _ hes
      rw [hr'] at hx
      cases hx
      have e5 := e4.trans e3
      have hnew : lk es[i] ∉ L.map Prod.snd := fun m => by
        obtain ⟨e, he, ee⟩ := hLk _ m
        rw [← lk_inj ee] at he
        exact next_line ho hes he
      have hmem : XT.memB (lk es[i]) L = false := by
        cases hc : XT.memB (lk es[i]) L with
        | false => rfl
        | true => exact absurd (XT.memB_iff.mp hc) hnew
      have hb : ∀ {H3 : Hp}, Ex H2 H3 → SqT K H3 r ((lk es[i]).map kV) := fun e6 => st_of ((e5.trans e6) _ _ hs)
      refine q_when (b := false) ?_ (fun z => nomatch z) fun _ H3 e6 => ?_
      · refine et_is (a := (!true) || false) (et_or (et_not (a := true) (et_B (ev_is (ev_call0 (ea_cons (ev_var (v := .ref r) rfl) (ea_cons (ev_var (v := .ref d) rfl) ea_nil)) (fits_sp (e5 _ _ hs) (e5 _ _ hd) hk)) (congrArg V.bl (hf _ (List.mem_of_getElem? hes)))))) fun _ => et_test ?_) rfl
        exact ev_is (ev_sinT (ev_var rfl) (ev_var rfl) (e3 _ _ h1) (fun e he => ex_t e5 (hLs e he)) (hb (Ex.refl _))) (congrArg V.bl hmem)
      refine s_saddT (ev_var rfl) (ev_var rfl) ((e3.trans e6) _ _ h1) (fun e he => ex_t (e5.trans e6) (hLs e he)) (hb e6) (by omega) hnew fun H4 L' e7 hp' => ?_
      have e8 : Ex H (upd H4 p (XT.TSO P w p L')) := Ex.mut ((e5.trans e6).trans e7) hp0
      refine ⟨⟨_, _, rfl⟩, e8, L', ?_, ?_, ?_, upd_same⟩
      · rw [hp'.length_eq, List.length_cons, hLn]
      · intro k hk'
        obtain ⟨e, he, rfl⟩ := List.mem_map.mp hk'
        rw [take_snoc hes]
        rcases List.mem_cons.mp (hp'.mem_iff.mp he) with rfl | hm
        · exact ⟨_, List.mem_append_right _ (List.mem_singleton.mpr rfl), rfl⟩
        · obtain ⟨f, hf', ef⟩ := hLk _ (List.mem_map.mpr ⟨e, hm, rfl⟩)
          exact ⟨f, List.mem_append_left _ hf', ef⟩
      · intro e he
        rcases List.mem_cons.mp (hp'.mem_iff.mp he) with rfl | hm
        · exact st_of hs
        · exact hLs e hm
  case len =>
    obtain ⟨a, d, es, kvs, rfl, _⟩ := h
    rfl
end
end K12
set_option Elab.async false
set_option linter.all false
set_option maxRecDepth 100000
set_option maxHeartbeats 4000000
namespace K12
open PySem PySem.Spec PyProof.Rows L2 Evl Gen
section
variable {P : Program} {w : World} {K : PySem.W.Frag} {mg : Str → Option Value} {base : Heap} {fd : Nat → FuncData}
theorem s_dputL {σ : L2.St} {H : Hp} {td ty tv : TE} {d : Addr} {kvs : List (Key × V)} {x : Str} {xs : List V} {D : Ends} (hd : Ev td σ H (.ref d)) (hy : Ev ty σ H (.str x)) (hv : EvL tv σ H xs) (h : H d = some (.dK kvs)) (hz : kvs.length < 100000)
    (k : ∀ q H1, H q = none → Ex H H1 → H1 q = some (.lst xs) → D.nx σ (upd H1 d (.dK (putK kvs (.inr x) (.ref q))))) : sDPut td ty tv D σ H :=
  hv H (Ex.refl H) _ fun q H1 hq e1 h1 => hd H1 e1 _ fun H2 e2 => hy H2 (e1.trans e2) _ fun H3 e3 => ⟨d, _, rfl, DPut.k (k := .inr x) (((e1.trans e2).trans e3) _ _ h) (sz_lt hz), k q H3 hq ((e1.trans e2).trans e3) ((e2.trans e3) _ _ h1)⟩
/-- the dict of the nodes, each with its own list -/
def refs (f : Str → Addr) (ns : List Str) : List (Key × V) := ns.map fun n => (.inr n, .ref (f n))
theorem refs_in {f : Str → Addr} {n : Str} : ∀ {ns : List Str}, n ∈ ns → valV (refs f ns) (.inr n) = some (.ref (f n))
  | m :: r, h => by
    by_cases e : m = n
    · subst e
      exact valV_pos rfl
    · rcases List.mem_cons.mp h with z | z
      · exact absurd z.symm e
      · exact (valV_neg (p := ((.inr m : Key), V.ref (f m))) (fun z => e (by cases z; rfl))).trans (refs_in z)
theorem refs_out {f : Str → Addr} {n : Str} : ∀ {ns : List Str}, n ∉ ns → valV (refs f ns) (.inr n) = none
  | [], _ => rfl
  | m :: r, h => (valV_neg (p := ((.inr m : Key), V.ref (f m))) (fun z => h (by cases z; exact List.mem_cons_self ..))).trans (refs_out fun z => h (List.mem_cons_of_mem _ z))
theorem refs_same {f g : Str → Addr} {ns : List Str} (h : ∀ n ∈ ns, f n = g n) : refs f ns = refs g ns := List.map_congr_left fun n hn => by rw [h n hn]
/-- the ends that are told of n -/
def endsOf (es : List (Str × Str)) (n : Str) : List V := (es.filter fun e => decide (e.1 = n)).map fun e => V.str e.2
theorem endsOf_snoc {es : List (Str × Str)} {e : Str × Str} {n : Str} : endsOf (es ++ [e]) n = if e.1 = n then endsOf es n ++ [.str e.2] else endsOf es n := by
  unfold endsOf
  rw [List.filter_append, List.map_append]
  by_cases h : e.1 = n
  · rw [if_pos h]
    simp [h]
  · rw [if_neg h]
    simp [h]
theorem endsOf_len {es : List (Str × Str)} {n : Str} : (endsOf es n).length ≤ es.length := by
  unfold endsOf
  rw [List.length_map]
  exact List.length_filter_le _ _
/-- a dict of nodes, each with the list of its ends -/
def EndsAt (H : Hp) (p : Addr) (ns : List Str) (es : List (Str × Str)) : Prop := ∃ f : Str → Addr, H p = some (.dK (refs f ns)) ∧ ∀ n ∈ ns, H (f n) = some (.lst (endsOf es n))
theorem EndsAt.ex {H H' : Hp} {p : Addr} {ns : List Str} {es : List (Str × Str)} (h : EndsAt H p ns es) (e : Ex H H') : EndsAt H' p ns es := let ⟨f, h1, h2⟩ := h; ⟨f, e _ _ h1, fun n hn => e _ _ (h2 n hn)⟩
/-- the same, the lists being new -/
def EndsNew (H H' : Hp) (p : Addr) (ns : List Str) (es : List (Str × Str)) : Prop := ∃ f : Str → Addr, H' p = some (.dK (refs f ns)) ∧ ∀ n ∈ ns, H (f n) = none ∧ H' (f n) = some (.lst (endsOf es n))
def spEnds (K : PySem.W.Frag) : Sp := fun vs H Q _ => ∃ (a b : Addr) (ns : List Str) (es : List (Str × Str)), vs = [.ref a, .ref b] ∧ Sq K H a (ns.map V.str) ∧ LnAt K H b es ∧ ns.Nodup ∧ ns.length ≤ 1000 ∧ es.length ≤ 1000 ∧ (∀ e ∈ es, e.1 ∈ ns) ∧
  ∀ p H2, H p = none → Ex H H2 → EndsNew H H2 p ns es → Q (.ref p) H2
theorem next_node {ns : List Str} {i : Nat} {x : Str} (h : ns.Nodup) (hi : ns[i]? = some x) : x ∉ ns.take i := by
  have e2 : ns = ns.take i ++ x :: ns.drop (i + 1) := by
    obtain ⟨hl, he⟩ := List.getElem?_eq_some_iff.mp hi
    have := List.take_append_drop i ns
    rw [List.drop_eq_getElem_cons hl, he] at this
    exact this.symm
  rw [e2] at h
  intro m
  exact (List.nodup_append.mp h).2.2 x m x (List.mem_cons_self ..) rfl
theorem sc_ends_by_node : FnScope ["nodes", "lines", "ends", "node", "start", "end"] ["nodes", "lines"] (defScope (topS 30)) := ⟨rfl, rfl, rfl, by decide +kernel, rfl, by decide +kernel, by decide +kernel⟩
theorem ok_ends_by_node (T : Tx K mg fd) : FnOk P w K mg base CX0 1 (He.ga K "ends_by_node") (fd 10) ["nodes", "lines"] (spEnds K) := by
  refine (T.df 10 30 "ends_by_node" rfl).ok sc_ends_by_node (fun vs H Q E h => ?len) (fun cdv A outer s H vs Q E hr h => ?body)
  case body =>
    refine ⟨_, (pss_cons (ps_set (i := 2) sc_ends_by_node.nd rfl (Or.inl rfl) pe_dnewK) (pss_cons (ps_for PassesOwn.never rfl (pi_seq (pv 0)) (pg_name (i := 3) sc_ends_by_node.nd rfl (Or.inl rfl)) (pss_one (ps_dput (u1 hr.units) (pv 2) (pv 3) (pe_lst pa_nil) rfl))) (pss_cons (ps_for PassesOwn.never rfl (pi_seq (pv 1)) (pg_tup rfl (pgs_cons (pg_name (i := 4) sc_ends_by_node.nd rfl (Or.inl rfl)) (pgs_cons (pg_name (i := 5) sc_ends_by_node.nd rfl (Or.inl rfl)) pgs_nil))) (pss_one (ps_expr (pe_bm PySem.F.plainAttrs_list PySem.F.slot_list_append PySem.F.type_list_append mt_append (pe_dget (u1 hr.units) (pv 2) (pv 4) (fun _ _ => rfl)) (pa_cons (pv 5) pa_nil))))) (pss_one (ps_ret (pv 2)))))), ?_⟩
    obtain ⟨a, b, ns, es, rfl, ha, ⟨rows, hR, hl, hi⟩, ho, hz, hze, hin, q⟩ := h
    refine q_dnew fun p hp => ?_
    have e1 : Ex H (upd H p (.dK [])) := Ex.new hp
    refine q_forS (H0 := H) (ev_var rfl) e1 ha (fun i σ' H' => (∃ o3, σ' = [some (.ref a), some (.ref b), some (.ref p), o3, none, none]) ∧ Ex H H' ∧ ∃ f : Str → Addr, H' p = some (.dK (refs f (ns.take i))) ∧ (∀ n ∈ ns.take i, H (f n) = none ∧ f n ≠ p ∧ H' (f n) = some (.lst [])) ∧ ∀ m ∈ ns.take i, ∀ n ∈ ns.take i, f m = f n → m = n)
      (fun H2 e2 => ⟨⟨none, rfl⟩, e1.trans e2, (fun _ => 0), e2 _ _ upd_same, (fun n z => by cases z), (fun n z => by cases z)⟩) (fun i σ' H' p => p.2.1) (fun i y σ' H' hy pp => ?turn) (fun σ' H' pp => ?next)
    case turn =>
      obtain ⟨⟨o3, rfl⟩, e2, f, h1, h2, h3⟩ := pp
      obtain ⟨u, hu, rfl⟩ : ∃ u, ns[i]? = some u ∧ V.str u = y := by simpa using hy
      have hnew := next_node ho hu
      refine s_dputL (ev_var rfl) (ev_var rfl) (el_lst ea_nil (by decide)) h1 ?_ fun r H3 hr' e3 h4 => ?_
      · show ((ns.take i).map _).length < 100000
        rw [List.length_map, List.length_take]
        have := Nat.min_le_right i ns.length
        omega
      have hrp : r ≠ p := fun z => by rw [z, h1] at hr'; cases hr'
      have hr0 : H r = none := fresh_back e2 hr'
      have hfr : ∀ n ∈ ns.take i, f n ≠ r := fun n hn z => by
        have := (h2 n hn).2.2
        rw [z, hr'] at this
        cases this
      refine ⟨⟨_, rfl⟩, Ex.mut (e2.trans e3) hp, (fun m => if m = u then r else f m), ?_, ?_, ?_⟩
      · rw [upd_same, putK_new _ (refs_out hnew), take_snoc hu]
        have e5 : refs (fun m => if m = u then r else f m) (ns.take i) = refs f (ns.take i) := refs_same fun n hn => if_neg fun (z : n = u) => hnew (z ▸ hn)
        have e6 : refs (fun m => if m = u then r else f m) (ns.take i ++ [u]) = refs (fun m => if m = u then r else f m) (ns.take i) ++ [(.inr u, .ref r)] := by
          unfold refs
          rw [List.map_append]
          simp
        rw [e6, e5]
      · intro n hn
        rw [take_snoc hu] at hn
        rcases List.mem_append.mp hn with z | z
        · have ne : n ≠ u := fun zz => hnew (zz ▸ z)
          obtain ⟨g1, g2, g3⟩ := h2 n z
          show H (if n = u then r else f n) = none ∧ (if n = u then r else f n) ≠ p ∧ upd H3 p _ (if n = u then r else f n) = _
          rw [if_neg ne]
          exact ⟨g1, g2, by rw [upd_ne g2]; exact e3 _ _ g3⟩
        · have e7 := List.mem_singleton.mp z
          show H (if n = u then r else f n) = none ∧ (if n = u then r else f n) ≠ p ∧ upd H3 p _ (if n = u then r else f n) = _
          rw [if_pos e7]
          exact ⟨hr0, hrp, by rw [upd_ne hrp]; exact h4⟩
      · intro m hm n hn
        rw [take_snoc hu] at hm hn
        show (if m = u then r else f m) = (if n = u then r else f n) → m = n
        by_cases c1 : m = u
        · by_cases c2 : n = u
          · exact fun _ => c1.trans c2.symm
          · rw [if_pos c1, if_neg c2]
            have hn2 : n ∈ ns.take i := (List.mem_append.mp hn).resolve_right fun z => c2 (List.mem_singleton.mp z)
            exact fun z => absurd z.symm (hfr n hn2)
        · have hm2 : m ∈ ns.take i := (List.mem_append.mp hm).resolve_right fun z => c1 (List.mem_singleton.mp z)
          by_cases c2 : n = u
          · rw [if_neg c1, if_pos c2]
            exact fun z => absurd z (hfr m hm2)
          · rw [if_neg c1, if_neg c2]
            have hn2 : n ∈ ns.take i := (List.mem_append.mp hn).resolve_right fun z => c2 (List.mem_singleton.mp z)
            exact h3 m hm2 n hn2
    case next =>
      obtain ⟨⟨o3, rfl⟩, e2, f, h1, h2, h3⟩ := pp
      rw [List.length_map, List.take_length] at h1 h2 h3
      refine q_forS (H0 := H) (ev_var rfl) e2 hR (fun i σ' H' => (∃ o4 o5, σ' = [some (.ref a), some (.ref b), some (.ref p), o3, o4, o5]) ∧ Ex H H' ∧ H' p = some (.dK (refs f ns)) ∧ ∀ n ∈ ns, H' (f n) = some (.lst (endsOf (es.take i) n)))
        (fun H3 e3 => ⟨⟨none, none, rfl⟩, e2.trans e3, e3 _ _ h1, fun n hn => e3 _ _ (h2 n hn).2.2⟩) (fun i σ' H' p => p.2.1) (fun i y σ' H' hy pp => ?turn2) (fun σ' H' pp => ?fin)
      case fin =>
        obtain ⟨⟨o4, o5, rfl⟩, e3, h4, h5⟩ := pp
        rw [hl, List.take_length] at h5
        exact s_ret (ev_var rfl) fun H4 e4 => q p H4 hp (e3.trans e4) ⟨f, e4 _ _ h4, fun n hn => ⟨(h2 n hn).1, e4 _ _ (h5 n hn)⟩⟩
      case turn2 =>
        obtain ⟨⟨o4, o5, rfl⟩, e3, h4, h5⟩ := pp
        have hil : i < es.length := by rw [← hl]; exact (List.getElem?_eq_some_iff.mp hy).1
        have hes : es[i]? = some es[i] := List.getElem?_eq_getElem hil
        obtain ⟨r, hr', hs⟩ := hi i _ hes
        rw [hr'] at hy
        cases hy
        have hn : es[i].1 ∈ ns := hin _ (List.mem_of_getElem? hes)
        refine ⟨r, _, rfl, st_of (e3 _ _ hs), rfl, _, _, rfl, _, _, rfl, rfl, ?_⟩
        refine s_app (h5 _ hn) (ev_dget (ev_var rfl) (ev_var rfl) h4 (refs_in hn)) (ev_var rfl) ?_ fun H4 e4 => ⟨⟨_, _, rfl⟩, Ex.mut (e3.trans e4) (h2 _ hn).1, ?_, fun n hn2 => ?_⟩
        · have l1 : (endsOf (es.take i) es[i].1).length ≤ _ := endsOf_len
          rw [List.length_take] at l1
          have := Nat.min_le_right i es.length
          omega
        · rw [upd_ne (h2 _ hn).2.1.symm]
          exact e4 _ _ h4
        · rw [take_snoc hes, endsOf_snoc]
          by_cases c : es[i].1 = n
          · subst c
            rw [upd_same, if_pos rfl]
          · rw [upd_ne (fun z => c (h3 _ hn2 _ hn z).symm), if_neg c]
            exact e4 _ _ (h5 n hn2)
  case len =>
    obtain ⟨a, b, ns, es, rfl, _⟩ := h
    rfl
end
end K12
set_option Elab.async false
set_option linter.all false
set_option maxRecDepth 100000
set_option maxHeartbeats 4000000
/-! what is new since a heap -/
namespace RP
open PySem PySem.Spec PyProof.Rows L2 Evl Gen
section
variable {α β γ : Type} {R : Rp α} {S : Rp β} {T : Rp γ} {K : PySem.W.Frag} {ps : List Addr} {σ : L2.St} {G G' H H' H1 : Hp} {ta tb tc te tl : TE} {tr : TA} {tt : TT} {v w : V} {a : α} {b : β} {c : γ} {p : Addr} {o : HO}
def Nw (G H : Hp) : Hp := fun b => if (G b).isSome = true then none else H b
theorem Nw_ex : Ex (Nw G H) H := fun b o h => by
  unfold Nw at h
  split at h
  · cases h
  · exact h
theorem Nw_none (h : Nw G H p = some o) : G p = none := by
  unfold Nw at h
  split at h
  · cases h
  · rename_i n
    cases e : G p with
    | none => rfl
    | some u => rw [e] at n; exact absurd rfl n
theorem Nw_get (h : H p = some o) (n : G p = none) : Nw G H p = some o := by
  unfold Nw
  rw [if_neg (by rw [n]; decide)]
  exact h
theorem Nw_mono (e : Ex H H') : Ex (Nw G H) (Nw G H') := fun b o h => Nw_get (e _ _ (Nw_ex _ _ h)) (Nw_none h)
theorem Nw_base (e : Ex G' G) : Ex (Nw G H) (Nw G' H) := fun b o h => Nw_get (Nw_ex _ _ h) (by
  cases z : G' b with
  | none => rfl
  | some u => have := e _ _ z; rw [Nw_none h] at this; cases this)
theorem Nw_rm (o : Own ps G) : Ex (Nw G H) (Rm ps H) := fun b u h => Rm_get (Nw_ex _ _ h) fun m => by
  obtain ⟨ob, ho, _⟩ := o b m
  rw [Nw_none h] at ho
  cases ho
theorem Nw_rm2 : Ex (Nw G (Rm ps H)) (Rm ps (Nw G H)) := fun b u h => Rm_get (Nw_get (Rm_ex _ _ (Nw_ex _ _ h)) (Nw_none h)) fun m => by
  have := Nw_ex _ _ h
  rw [Rm_own m] at this
  cases this
theorem none_of (e : Ex G H) (h : H p = none) : G p = none := by
  cases z : G p with
  | none => rfl
  | some u => have := e _ _ z; rw [h] at this; cases this
def rW (G : Hp) (R : Rp α) : Rp α := ⟨fun a v H => R.p a v (Nw G H), fun e h => R.m (Nw_mono e) h⟩
theorem rW_r (h : (rW G R).p a v H) : R.p a v H := R.m Nw_ex h
/-- a new list -/
def rLN (G : Hp) (R : Rp α) : Rp (List α) := ⟨fun as v H => ∃ a vs, v = .ref a ∧ G a = none ∧ H a = some (.lst vs) ∧ All2 (fun x y => R.p x y H) as vs,
  fun e ⟨a, vs, h1, h0, h2, h3⟩ => ⟨a, vs, h1, h0, e _ _ h2, h3.imp fun _ _ q => R.m e q⟩⟩
theorem rLN_L {as : List α} (h : (rLN G R).p as v H) : (rL R).p as v H := let ⟨a, vs, h1, _, h2, h3⟩ := h; ⟨a, vs, h1, h2, h3⟩
theorem rLN_W {as : List α} (h : (rLN G (rW G R)).p as v H) : (rW G (rL R)).p as v H := let ⟨a, vs, h1, h0, h2, h3⟩ := h; ⟨a, vs, h1, Nw_get h2 h0, h3⟩
theorem rW_S {s : Str} (h : rS.p s v H) : (rW G rS).p s v H := h
theorem rLN_imp {as : List α} {R' : Rp α} (h : (rLN G R).p as v H) (k : ∀ x y, R.p x y H → R'.p x y H) : (rLN G R').p as v H := let ⟨a, vs, h1, h0, h2, h3⟩ := h; ⟨a, vs, h1, h0, h2, h3.imp fun _ _ q => k _ _ q⟩
theorem rL_imp {as : List α} {R' : Rp α} (h : (rL R).p as v H) (k : ∀ x y, R.p x y H → R'.p x y H) : (rL R').p as v H := let ⟨a, vs, h1, h2, h3⟩ := h; ⟨a, vs, h1, h2, h3.imp fun _ _ q => k _ _ q⟩
theorem er_NL {as : List α} (h : EvR (rLN G R) ps te σ H as) : EvR (rL R) ps te σ H as := er_imp h fun _ _ r => rLN_L r
theorem er_NW {as : List α} (h : EvR (rLN G (rW G R)) ps te σ H as) : EvR (rW G (rL R)) ps te σ H as := er_imp h fun _ _ r => rLN_W r
theorem er_WN (h : EvR (rW G R) ps te σ H a) : EvR R ps te σ H a := er_imp h fun _ _ r => rW_r r
theorem er_listN {as : List α} (e0 : Ex G H) (h : EvR (rQ K R) ps te σ H as) : EvR (rLN G R) ps (tCB (rListS K) (tCons te tNil)) σ H as := er_cb1 h fun v H1 e o rv Q q => by
  obtain ⟨a, vs, rfl, h1, h2⟩ := rv
  exact ⟨a, vs, rfl, ex_s Rm_ex h1, fun l hl => q _ _ (Ex.new hl) ⟨l, vs, rfl, none_of (e0.trans e) hl, Rm_get upd_same (o.nin hl), h2.imp fun _ _ r => R.m (Rm_mono (Ex.new hl)) r⟩⟩
theorem lw_endN {H1 H2 : Hp} {Dl : Addr} {bs : List β} (o : Own ps H1) (hD : H1 Dl = none) (e0 : Ex G H1) (p : Lw S ps H1 Dl bs H2) : (rLN G S).p bs (.ref Dl) (Rm ps H2) := let ⟨_, vs, h2, h3⟩ := p; ⟨Dl, vs, rfl, none_of e0 hD, Rm_get h2 (o.nin hD), h3.imp fun _ _ q => S.m Rm_pop q⟩
theorem er_lcGN {wi : TI} {xs : List α} {g : TG} {vs : List Nat} {P : α → L2.St → Hp → Prop} (f : α → β) (q : α → Bool) (e0 : Ex G H) (h : Wk R ps wi σ H xs) (hz : xs.length ≤ 40000) (hb : ∀ qs, Bd R qs g vs σ (fun x σ2 H1 => P x σ2 (Rm qs H1)))
    (ht : ∀ x ∈ xs, ∀ qs σ2 H1, Ex H H1 → Own qs H1 → Ex (Rm ps H) (Rm qs H1) → P x σ2 (Rm qs H1) → EtR qs tt σ2 H1 (q x))
    (he : ∀ x ∈ xs, q x = true → ∀ qs σ2 H1, Ex H H1 → Own qs H1 → Ex (Rm ps H) (Rm qs H1) → P x σ2 (Rm qs H1) → EvR S qs te σ2 H1 (f x)) :
    EvR (rLN G S) ps (tLc wi g tt te vs) σ H ((xs.filter q).map f) := fun H0 e o Q k => h H0 e o _ fun J n G' Y H1 e1 hn wk hG hY Dl hD => by
  have o1 := o.ex e1
  refine lc_it wk (fun i H2 => Lw S ps H1 Dl (((xs.take i).filter q).map f) H2) (lw_zero hD) (fun i H2 _ p => hG H2 (Rm_ex.trans p.1)) (fun i u H2 H2' hi p y => ?_) (fun H2 p => ?_)
  · obtain ⟨vs', p2, p3⟩ := p.2
    have o2 : Own (Dl :: ps) H2 := (o1.ex p.1).push p2
    have ex2 : Ex (Rm ps H1) (Rm (Dl :: ps) H2) := fun b ob hb => by
      have n : b ≠ Dl := fun z => by rw [z, Rm_none hD] at hb; cases hb
      have hb1 := Rm_ex _ _ hb
      refine Rm_get (p.1 _ _ hb1) (fun m => (List.mem_cons.mp m).elim n fun m => ?_)
      rw [Rm_own m] at hb
      cases hb
    obtain ⟨e3, x, hx, rx⟩ := hY i H2 u H2' (Dl :: ps) hi o2 ex2 y
    have hm : x ∈ xs := List.mem_of_getElem? hx
    have p' := lw_ex p e3
    have o2' := o2.ex e3
    refine hb (Dl :: ps) x u H2' o2' rx _ fun σ2 hw hP => ⟨hw, ?_⟩
    have g0 : Ex H H2' := (e.trans e1).trans p'.1
    have g1 : Ex (Rm ps H) (Rm (Dl :: ps) H2') := ((Rm_mono (e.trans e1)).trans ex2).trans (Rm_mono e3)
    have hlen : (((xs.take i).filter q).map f).length < 50000 := by
      rw [List.length_map]
      have h1 := List.length_filter_le q (xs.take i)
      have h2 : (xs.take i).length ≤ xs.length := by rw [List.length_take]; exact Nat.min_le_right _ _
      omega
    refine lw_test (H0 := H1) (b := f x) o1 hD p' hlen (ht x hm _ σ2 H2' g0 o2' g1 hP) (fun hq => ⟨?_, he x hm hq _ σ2 H2' g0 o2' g1 hP⟩) (fun hq => ?_)
    · rw [take_snoc hx, List.filter_append, List.map_append, List.filter_cons, if_pos hq] <;> rfl
    · rw [take_snoc hx, List.filter_append, List.map_append, List.filter_cons, if_neg (by rw [hq]; decide)]
      show _ ++ [] = _
      rw [List.append_nil]
  · rw [hn, List.take_length] at p
    exact k _ _ (e1.trans p.1) (lw_endN o1 hD (e0.trans (e.trans e1)) p)
theorem er_lc1N {wi : TI} {xs : List α} {j : Nat} {vs : List Nat} (f : α → β) (e0 : Ex G H) (h : Wk R ps wi σ H xs) (hz : xs.length ≤ 40000) (hw : ∀ x, wipe ((wipe σ vs).set j (some x)) vs = wipe σ vs)
    (he : ∀ x ∈ xs, ∀ qs v H1, Ex H H1 → Own qs H1 → Ex (Rm ps H) (Rm qs H1) → R.p x v (Rm qs H1) → EvR S qs te ((wipe σ vs).set j (some v)) H1 (f x)) : EvR (rLN G S) ps (tLc wi (gName j) tYes te vs) σ H (xs.map f) := by
  have g := er_lcGN (S := S) (te := te) (tt := tYes) (P := fun x σ2 G => ∃ v, σ2 = (wipe σ vs).set j (some v) ∧ R.p x v G) f (fun _ => true) e0 h hz (fun qs => bd_name hw) (fun x _ qs σ2 H1 _ _ _ _ => et_yes)
    (fun x hx _ qs σ2 H1 e o ex ⟨v, e2, r⟩ => by rw [e2]; exact he x hx qs v H1 e o ex r)
  rwa [List.filter_eq_self.mpr (fun _ _ => rfl)] at g
theorem er_lc1FN {wi : TI} {xs : List α} {j : Nat} {vs : List Nat} (f : α → β) (q : α → Bool) (e0 : Ex G H) (h : Wk R ps wi σ H xs) (hz : xs.length ≤ 40000) (hw : ∀ x, wipe ((wipe σ vs).set j (some x)) vs = wipe σ vs)
    (ht : ∀ x ∈ xs, ∀ qs v H1, Ex H H1 → Own qs H1 → Ex (Rm ps H) (Rm qs H1) → R.p x v (Rm qs H1) → EtR qs tt ((wipe σ vs).set j (some v)) H1 (q x))
    (he : ∀ x ∈ xs, q x = true → ∀ qs v H1, Ex H H1 → Own qs H1 → Ex (Rm ps H) (Rm qs H1) → R.p x v (Rm qs H1) → EvR S qs te ((wipe σ vs).set j (some v)) H1 (f x)) : EvR (rLN G S) ps (tLc wi (gName j) tt te vs) σ H ((xs.filter q).map f) :=
  er_lcGN (P := fun x σ2 G => ∃ v, σ2 = (wipe σ vs).set j (some v) ∧ R.p x v G) f q e0 h hz (fun qs => bd_name hw) (fun x hx qs σ2 H1 e o ex ⟨v, e2, r⟩ => by rw [e2]; exact ht x hx qs v H1 e o ex r)
    (fun x hx hq qs σ2 H1 e o ex ⟨v, e2, r⟩ => by rw [e2]; exact he x hx hq qs v H1 e o ex r)
theorem er_lc2N {wi : TI} {xs : List (α × β)} {i j : Nat} {vs : List Nat} (f : α × β → γ) (e0 : Ex G H) (h : Wk (rP R S) ps wi σ H xs) (hz : xs.length ≤ 40000) (hw : ∀ x y, wipe (((wipe σ vs).set i (some x)).set j (some y)) vs = wipe σ vs)
    (he : ∀ x ∈ xs, ∀ qs v w H1, Ex H H1 → Own qs H1 → Ex (Rm ps H) (Rm qs H1) → R.p x.1 v (Rm qs H1) → S.p x.2 w (Rm qs H1) → EvR T qs te (((wipe σ vs).set i (some v)).set j (some w)) H1 (f x)) : EvR (rLN G T) ps (tLc wi (gTup K 2 (gCons (gName i) (gCons (gName j) gNil))) tYes te vs) σ H (xs.map f) := by
  have g := er_lcGN (S := T) (te := te) (tt := tYes) (P := fun x σ2 G => ∃ v w, σ2 = ((wipe σ vs).set i (some v)).set j (some w) ∧ R.p x.1 v G ∧ S.p x.2 w G) f (fun _ => true) e0 h hz (fun qs => bd_two (K := K) hw) (fun x _ qs σ2 H1 _ _ _ _ => et_yes)
    (fun x hx _ qs σ2 H1 e o ex ⟨v, w, e2, r, s⟩ => by rw [e2]; exact he x hx qs v w H1 e o ex r s)
  rwa [List.filter_eq_self.mpr (fun _ _ => rfl)] at g
/-- a new tuple -/
theorem er_tupN (e0 : Ex G H) (ha : EvR (rW G R) ps ta σ H a) (hb : EvR (rW G S) ps tb σ H b) : EvR (rW G (rP R S)) ps (tTup (tCons ta (tCons tb tNil))) σ H (a, b) := fun H1 e o Q q =>
  ha H1 e o _ fun v H2 e2 r => hb H2 (e.trans e2) (o.ex e2) _ fun w H3 e3 s => ⟨sz_of (by show 2 ≤ 100000; decide), fun p hp => q _ _ ((e2.trans e3).trans (Ex.new hp))
    ⟨p, v, w, rfl, Nw_get (Rm_get upd_same ((o.ex (e2.trans e3)).nin hp)) (none_of (((e0.trans e).trans e2).trans e3) hp), R.m (Nw_mono (Rm_mono (e3.trans (Ex.new hp)))) r, S.m (Nw_mono (Rm_mono (Ex.new hp))) s⟩⟩
theorem rLS_N {p : Addr} {xs : List Str} (h : H p = some (.lst (xs.map V.str))) (n : G p = none) : (rLN G rS).p xs (.ref p) H := ⟨p, _, rfl, n, h, strs_all _ _⟩
theorem er_sortedSN {xs : List Str} (e0 : Ex G H) (h : EvR (rL rS) ps te σ H xs) (hz : xs.length < 64) : EvR (rLN G rS) ps (tCB (rSortedS K) (tCons te tNil)) σ H (srtS xs) := er_cb1 h fun v H1 e o rv Q q => by
  obtain ⟨p, rfl, hp⟩ := rLS_at rv
  exact (el_sortedS (te := tC (.ref p)) (σ := σ) (H := H1) ev_c (sq_of (Rm_ex _ _ hp)) hz) H1 (Ex.refl _) Q fun l H2 hl e2 h2 => q _ H2 e2 (rLS_N (Rm_get h2 (o.nin hl)) (none_of (e0.trans e) hl))
theorem er_flatN {i j : Nat} {vs vs1 : List Nat} {ls : List (List Str)} (e0 : Ex G H) (h : EvR (rL (rL rS)) ps tl σ H ls) (hz : many ls ≤ 1000) (hij : j ≠ i) (hw : ∀ x, wipe ((wipe σ vs).set i (some x)) vs = wipe σ vs)
    (hi : ∀ x, ((wipe σ vs).set i (some x))[i]? = some (some x)) (hw1 : ∀ x y, wipe ((wipe ((wipe σ vs).set i (some x)) vs1).set j (some y)) vs1 = wipe ((wipe σ vs).set i (some x)) vs1)
    (hj : ∀ x y, ((wipe ((wipe σ vs).set i (some x)) vs1).set j (some y))[j]? = some (some y)) :
    EvR (rLN G rS) ps (tLc2 (iList K tl) (gName i) tYes (iList K (tVar i)) (gName j) tYes (tVar j) vs vs1) σ H ls.flatten := fun H0 e o Q q => h H0 e o _ fun v H1 e1 rv => by
  obtain ⟨p, rfl, hp⟩ := lvL_of (K := K) rv
  have hp' : LvL K H1 p ls := hp.ex Rm_ex
  exact (el_flat (tl := tC (.ref p)) (σ := σ) (H := H1) ev_c hp' hz hij hw hi hw1 hj) H1 (Ex.refl _) Q fun l H2 hl e2 h2 => q _ H2 (e1.trans e2) (rLS_N (Rm_get h2 ((o.ex e1).nin hl)) (none_of ((e0.trans e).trans e1) hl))
theorem er_sortedTG {S : Rp (Str × Str)} (hS : ∀ e v H, S.p e v H → rE.p e v H) {es : List (Str × Str)} (e0 : Ex G H) (h : EvR (rL S) ps te σ H es) : EvR (rLN G S) ps (tCB (rSortedT2 K) (tCons te tNil)) σ H (srtT es) := er_cb1 h fun v H1 e o rv Q q => by
  obtain ⟨p, rows, rfl, hp, hu⟩ := rv
  have hu1 : All2 (fun x y => rE.p x y (Rm ps H1)) es rows := hu.imp fun _ _ r => hS _ _ _ r
  have item : ∀ x ∈ rows, ∃ e ∈ es, S.p e x (Rm ps H1) := fun x hx => by
    obtain ⟨i, hi⟩ := List.mem_iff_getElem?.mp hx
    obtain ⟨e, he, hr⟩ := hu.getv hi
    exact ⟨e, List.mem_of_getElem? he, hr⟩
  have pr : ∀ {e : Str × Str} {x : V}, rE.p e x (Rm ps H1) → pairOf H1 x = e := fun {e x} hr => pairOf_rE Rm_ex hr
  have hm : rows.map (pairOf H1) = es := pairs_map Rm_ex hu1
  refine ⟨p, rows, pairOf H1, rfl, sq_of (Rm_ex _ _ hp), fun x hx => ?_, fun ys l hs hy hn => ?_⟩
  · obtain ⟨e, he, hr⟩ := item x hx
    have hr := hS _ _ _ hr
    have hpe := pr hr
    obtain ⟨t, y, z, rfl, ht, hy, hz⟩ := hr
    obtain rfl : y = .str e.1 := hy
    obtain rfl : z = .str e.2 := hz
    exact ⟨t, rfl, by rw [hpe]; exact Rm_ex _ _ ht⟩
  · have hys : ys.map (pairOf H1) = srtT es := by
      refine srtT_of ?_ ?_
      · rw [← hm]
        exact hy.map _
      · refine List.pairwise_map.mpr (List.Pairwise.imp (fun {x y} h => ?_) hs)
        have h' : XS.ltT (pairOf H1 y) (pairOf H1 x) = false := h
        rw [h']
        rfl
    refine q _ _ (Ex.new hn) ⟨l, ys, rfl, none_of (e0.trans e) hn, Rm_get upd_same (o.nin hn), ?_⟩
    rw [← hys]
    refine All2.maps fun x hx => ?_
    obtain ⟨e, he, hr⟩ := item x (hy.mem_iff.mp hx)
    rw [pr (hS _ _ _ hr)]
    exact S.m (Rm_mono (Ex.new hn)) hr
theorem er_sortedTN {es : List (Str × Str)} (e0 : Ex G H) (h : EvR (rL (rW G rE)) ps te σ H es) : EvR (rLN G (rW G rE)) ps (tCB (rSortedT2 K) (tCons te tNil)) σ H (srtT es) := er_sortedTG (fun _ _ _ r => rW_r r) e0 h
theorem er_sortedTL {es : List (Str × Str)} (e0 : Ex G H) (h : EvR (rL rE) ps te σ H es) : EvR (rLN G rE) ps (tCB (rSortedT2 K) (tCons te tNil)) σ H (srtT es) := er_sortedTG (fun _ _ _ r => r) e0 h
/-- new things beside more own things -/
theorem Rm_grow {qs : List Addr} (e : Ex H H') (h : ∀ q ∈ qs, H q = none) : Ex (Rm ps H) (Rm (qs ++ ps) H') := fun b u hb => Rm_get (e _ _ (Rm_ex _ _ hb)) fun m => by
  rcases List.mem_append.mp m with m | m
  · have := Rm_ex _ _ hb
    rw [h b m] at this
    cases this
  · rw [Rm_own m] at hb
    cases hb
end
end RP
set_option Elab.async false
set_option linter.all false
set_option maxRecDepth 100000
set_option maxHeartbeats 4000000
/-! sorted of a tuple of texts -/
namespace XTS
open PySem PySem.Spec PyProof.Rows
section
variable {prog : Program} {w : World} {A : Around} {E : Value → Shared → Prop} {s : Shared}
theorem collect_tup {l : Addr} {vs : List Value} {Q : List Value → Shared → Prop} (hl : ∃ o, s.heap.get? l = some o ∧ o.cls = .type "tuple" ∧ ∃ n, o.data = .seq vs.toArray n)
    (h : Q vs { s with heap := (s.heap.push (seqObj "list" #[] 0)).update s.heap.objs.size (Obj.mapSeq (· ++ vs.toArray)) }) (hsz : vs.length ≤ sizeLine) :
    wpAny (model prog w) A (collect (.ref l)) Q E s := by
  obtain ⟨o, ho, hc, n, hd⟩ := id hl
  unfold collect
  refine wpAny_bind (wpAny_runValue (codeAny_builtin entry_proto_collect' ?_))
  show wpAny _ _ (do again (.builtin "list.__iadd__" ⟨[← newList [], .ref l], []⟩)) _ _ s
  refine wpAny_bind (wpAny_newList (wpAny_pure ⟨Code.quiet_builtin _ (by decide +kernel), codeAny_builtin entry_list_iadd' ?_⟩))
  show wpAny _ _ (Builtin.List.listExtendWith (.ref s.heap.objs.size) (.ref l) (.ref s.heap.objs.size)) _ _ { s with heap := s.heap.push (seqObj "list" #[] 0) }
  unfold Builtin.List.listExtendWith
  have ho' : (s.heap.push (seqObj "list" #[] 0)).get? l = some o := Heap.get?_push_of_some _ ho
  refine wpAny_bind (wpAny_typeOf (T := "tuple") ⟨o, ho', hc⟩ ?_)
  have ht : (Value.type "tuple" == Value.type "tuple") = true := by rfl
  rw [if_pos (by rw [ht]; simp)]
  refine wpAny_bind (listItems_at ho' hd ?_)
  refine wpAny_bind (listItems_at (xs := #[]) (n := 0) (Heap.get?_push_size _ rfl) rfl ?_)
  rw [if_neg (by simp)]
  refine wpAny_bind (listUpdate_at (xs := #[]) (n := 0) (Heap.get?_push_size _ rfl) rfl ?_ (Nat.zero_le _) (by show (#[] ++ vs.toArray).size ≤ sizeLine + 1; simp only [Array.size_append, List.size_toArray, List.length_nil]; omega))
  refine wpAny_pure ?_
  show wpAny (model prog w) A (do
      let o ← load s.heap.objs.size
      match o.data with
      | .seq xs _ => pure xs.toList
      | _ => unsupported "internal:collect") Q E { s with heap := (s.heap.push (seqObj "list" #[] 0)).update s.heap.objs.size (Obj.mapSeq (· ++ vs.toArray)) }
  refine wpAny_bind (wpAny_load (get?_update_seq (Heap.get?_push_size _ rfl) _) ?_)
  show wpAny _ _ (pure ((#[] : Array Value) ++ vs.toArray).toList) Q E _
  rw [show ((#[] : Array Value) ++ vs.toArray).toList = vs by simp]
  exact wpAny_pure h
theorem sortedKT {κ : KeyKind} (hO : κ.OneLt) {l : Addr} {vs : List Value} {Q : Value → Shared → Prop} (hl : ∃ o, s.heap.get? l = some o ∧ o.cls = .type "tuple" ∧ ∃ n, o.data = .seq vs.toArray n) (h0 : KeysOf κ (pairsOf vs)) (hkk : ∀ v₁ v₂ rest, vs = v₁ :: v₂ :: rest → keyKind' (v₁ :: v₂ :: rest).toArray = pure oneType') (h64 : vs.length < 64)
    (h : ∀ st' : SortSt, (arrOf st').Perm (pairsOf vs) → SortedToK κ (arrOf st') (pairsOf vs).size → Q (.ref (s.heap.objs.size + 1)) { s with heap := sortedAll s.heap vs ((arrOf st').map (·.2)) }) :
    wpAny (model prog w) A (call (.builtin "sorted") [.ref l]) Q E s := by
  refine Calls.call_function_entry kind_sorted plain_sorted entry_sorted (args_sorted1 _) ?_
  unfold Builtin.«sorted»
  refine wpAny_bind (m := checkCount "sorted" 1 1 _) (wpAny_pure ?_)
  refine wpAny_bind (collect_tup hl ?_ (L2.small64 h64))
  refine wpAny_bind (wpAny_newList ?_)
  have hsz : ((s.heap.push (seqObj "list" #[] 0)).update s.heap.objs.size (Obj.mapSeq (· ++ vs.toArray))).objs.size = s.heap.objs.size + 1 := by
    rw [Heap.size_update, size_push']
  have hoL : (((s.heap.push (seqObj "list" #[] 0)).update s.heap.objs.size (Obj.mapSeq (· ++ vs.toArray))).push (seqObj "list" vs.toArray 0)).get? (s.heap.objs.size + 1) = some (seqObj "list" vs.toArray 0) := by
    rw [← hsz]; exact Heap.get?_push_size _ rfl
  show wpAny _ _ _ _ _ { s with heap := ((s.heap.push (seqObj "list" #[] 0)).update s.heap.objs.size (Obj.mapSeq (· ++ vs.toArray))).push (seqObj "list" vs.toArray 0) }
  rw [hsz]
  refine wpAny_bind (wpAny_holding (wpAny_call_entry slot_list_sort ⟨_, hoL, rfl⟩ entry_list_sort (list_sort_treeK hO hoL h0 hkk h64 fun st' a1 a2 => ⟨_, rfl, ?_⟩) (args_list_sort _)))
  exact wpAny_pure ⟨_, rfl, h st' a1 a2⟩
theorem sorted_strsT {l : Addr} {vs : List Value} {ss : List Str} {Q : Value → Shared → Prop} (hl : ∃ o, s.heap.get? l = some o ∧ o.cls = .type "tuple" ∧ ∃ n, o.data = .seq vs.toArray n) (hS : StrsAre vs ss) (h64 : vs.length < 64)
    (h : ∀ (out : Array Value) (ss' : List Str), StrsAre out.toList ss' → ss'.Perm ss → sortedS ss' = true → Q (.ref (s.heap.objs.size + 1)) { s with heap := sortedAll s.heap vs out }) :
    wpAny (model prog w) A (call (.builtin "sorted") [.ref l]) Q E s := by
  refine sortedKT strKind_oneLt hl hS.keysOf (fun v₁ v₂ rest e => keyKind_strs (by rw [← e]; exact hS)) h64 fun st' hp hs => ?_
  obtain ⟨ss', h1, h2, h3⟩ := sorted_out_str hS hp hs
  exact h _ ss' h1 h2 h3
end
end XTS
namespace L2
open PySem PySem.Spec PyProof.Rows
/-- sorted of a list or a tuple of texts -/
def rSortedQ (K : PySem.W.Frag) : List V → Hp → VK → Prop := fun vs H Q => ∃ (a : Addr) (xs : List Str), vs = [V.ref a] ∧ (SqL K H a (xs.map V.str) ∨ SqT K H a (xs.map V.str)) ∧ xs.length < 64 ∧
  ∀ (ys : List Str) (p : Addr), ys.Perm xs → sortedS ys = true → H p = none → Q (.ref p) (upd H p (.lst (ys.map V.str)))
theorem cr_sortedQ {X : Cx} : CallR X (.builtin "sorted") (rSortedQ X.K) := by
  intro pins s σ H vs us Q I r h
  obtain ⟨a, xs, rfl, hs, h64, q⟩ := h
  rcases hs with hs | hs
  · exact cr_sortedS pins s σ H _ us Q I r ⟨a, xs, rfl, hs, h64, q⟩
  · obtain ⟨its, rv, ⟨o, ho, hc, n, hd⟩, _⟩ := I.tuple hs
    rw [Vals.ref1 r]
    have hlen0 := rv.length
    rw [List.length_map] at hlen0
    refine XTS.sorted_strsT ⟨o, ho, hc, n, hd⟩ rv.strs (by rw [← hlen0]; exact h64) fun out ys h1 h2 h3 => ?_
    obtain ⟨ep, he'⟩ := PyProof.Rows.sortedAll_at s.heap its out
    have hlen : (ys.map V.str).length ≤ sizeLine := by rw [List.length_map, h2.length_eq]; exact small64 h64
    exact ⟨.ref _, upd H (s.heap.objs.size + 1) (.lst (ys.map V.str)), I.laid (t' := s.toks) (fun _ _ => PyProof.Rows.sortedAll_old) (Nat.le_succ _) ⟨hlen, out.toList, ep, vals_of_strs h1, he'⟩, rfl, q ys _ h2 h3 (I.hok.fresh (Nat.le_succ _))⟩
end L2
set_option Elab.async false
set_option linter.all false
set_option maxRecDepth 100000
set_option maxHeartbeats 4000000
namespace K12
open PySem PySem.Spec PyProof.Rows L2 Evl Gen RP
section
variable {P : Program} {w : World} {K : PySem.W.Frag} {mg : Str → Option Value} {base : Heap} {fd : Nat → FuncData}
theorem ev_fld {H : Hp} {σ : L2.St} {i : Nat} {x dx C : Addr} {f : Str} {fs : List (Str × V)} {v : V} (hs : σ[i]? = some (some (.ref x))) (h : H x = some (.ins C dx fs)) (c : Cls K C) (n : NoAttr K C f) (l : fs.lookup f = some v) : Ev (tFld K (tVar i) f) σ H v :=
  fun H1 e Q q => ⟨.ref x, hs, x, C, dx, fs, v, rfl, e _ _ h, c, n, l, q H1 (Ex.refl _)⟩
def shF (p1 p2 p3 p4 p5 p6 : Addr) : List (Str × V) := [("_levels", .ref p1), ("_lines", .ref p2), ("_nodes", .ref p3), ("_places", .ref p4), ("_ups", .ref p5), ("_downs", .ref p6)]
def swp (e : Str × Str) : Str × Str := (e.2, e.1)
/-- a sheet of these levels and lines -/
def ShAt (C : Addr) (s : List (List Str) × List (Str × Str)) (x : Addr) (H : Hp) : Prop :=
  ∃ dx p1 p2 p3 p4 p5 p6 kvs, H x = some (.ins C dx (shF p1 p2 p3 p4 p5 p6)) ∧ (rL (rL rS)).p s.1 (.ref p1) H ∧ (rL rE).p s.2 (.ref p2) H ∧ (rL rS).p s.1.flatten (.ref p3) H ∧ H p4 = some (.dK kvs) ∧ PlOk kvs s.1 ∧ EndsAt H p5 s.1.flatten s.2 ∧ EndsAt H p6 s.1.flatten (s.2.map swp)
def rSh (C : Addr) : Rp (List (List Str) × List (Str × Str)) := ⟨fun s v H => ∃ x, v = .ref x ∧ ShAt C s x H, fun e ⟨x, h, dx, p1, p2, p3, p4, p5, p6, kvs, h1, h2, h3, h4, h5, h6, h7, h8⟩ =>
  ⟨x, h, dx, p1, p2, p3, p4, p5, p6, kvs, e _ _ h1, (rL (rL rS)).m e h2, (rL rE).m e h3, (rL rS).m e h4, e _ _ h5, h6, h7.ex e, h8.ex e⟩⟩
theorem levels_sp {H : Hp} {a : Addr} {ls : List (List Str)} (h : LvAt K H a ls) (ok : LvOk ls) : SpV (spLevels K) [.ref a] H .non := fun H1 e Q q E => ⟨a, ls, rfl, h.ex e, ok, q⟩
theorem lines_sp {H : Hp} {a d : Addr} {es : List (Str × Str)} {kvs : List (Key × V)} (h : LnAt K H a es) (hd : H d = some (.dK kvs)) (hk : Ints kvs) (hf : ∀ e ∈ es, fitB kvs e.1 e.2 = true) (ho : es.Nodup) (hz : es.length ≤ 60) : SpV (spLines K) [.ref a, .ref d] H .non :=
  fun H1 e Q q E => ⟨a, d, es, kvs, rfl, h.ex e, e _ _ hd, hk, hf, ho, hz, q⟩
theorem limit_sp {H : Hp} {x : Str} {m l : Int} (h : m ≤ l) : SpV spLimit [.str x, .int m, .int l] H .non := fun H1 e Q q E => ⟨x, m, l, rfl, h, q⟩
theorem ints_of {kvs : List (Key × V)} {ls : List (List Str)} (h : PlOk kvs ls) : Ints kvs := fun z v hv => by
  by_cases m : z ∈ ls.flatten
  · obtain ⟨l, h1, h2⟩ := List.mem_flatten.mp m
    obtain ⟨i, hi⟩ := List.mem_iff_getElem?.mp h1
    rw [h.in_ i l z hi h2] at hv
    cases hv
    exact ⟨_, rfl⟩
  · rw [h.out z m] at hv
    cases hv
theorem fit_in {kvs : List (Key × V)} {ls : List (List Str)} (h : PlOk kvs ls) {x y : Str} (hf : fitB kvs x y = true) : x ∈ ls.flatten ∧ y ∈ ls.flatten := by
  unfold fitB at hf
  constructor
  · refine Classical.byContradiction fun m => ?_
    rw [h.out x m] at hf
    cases hf
  · refine Classical.byContradiction fun m => ?_
    rw [h.out y m] at hf
    split at hf
    · rename_i h2; cases h2
    · cases hf
theorem len_row {ls : List (List Str)} {ws : List Str} (h : ws ∈ ls) : ws.length ≤ many ls := by
  obtain ⟨i, hi⟩ := List.mem_iff_getElem?.mp h
  have := many_take hi
  omega
theorem lvAt_of {ls : List (List Str)} {v : V} {H : Hp} (h : (rQ K (rQ K rS)).p ls v H) : ∃ a, v = .ref a ∧ LvAt K H a ls := by
  obtain ⟨p, rows, rfl, hp, hu⟩ := h
  refine ⟨p, rfl, rows, hp, hu.len.symm, fun i ws hi => ?_⟩
  obtain ⟨u, h1, q, vs, rfl, h3, h4⟩ := hu.get hi
  have hst : vs = ws.map V.str := strs_eq h4
  subst hst
  exact ⟨q, h1, h3⟩
theorem er_sortedQN {ps : List Addr} {σ : L2.St} {G H : Hp} {te : TE} {xs : List Str} (e0 : Ex G H) (h : EvR (rQ K rS) ps te σ H xs) (hz : xs.length < 64) : EvR (rLN G rS) ps (tCB (rSortedQ K) (tCons te tNil)) σ H (srtS xs) := er_cb1 h fun v H1 e o rv Q q => by
  obtain ⟨a, vs, rfl, hs, hall⟩ := rv
  have hst : vs = xs.map V.str := strs_eq hall
  subst hst
  refine ⟨a, xs, rfl, ex_s Rm_ex hs, hz, fun ys p hp hs2 hn => ?_⟩
  have e3 := srtS_of hp (sorted_pw hs2)
  subst e3
  exact q _ _ (Ex.new hn) (rLS_N (Rm_get upd_same (o.nin hn)) (none_of (e0.trans e) hn))
theorem lnAt_of {es : List (Str × Str)} {v : V} {H : Hp} (h : (rQ K rE).p es v H) : ∃ a, v = .ref a ∧ LnAt K H a es := by
  obtain ⟨p, rows, rfl, hp, hu⟩ := h
  refine ⟨p, rfl, rows, hp, hu.len.symm, fun i e hi => ?_⟩
  obtain ⟨u, h1, t, y, z, rfl, ht, hy, hz⟩ := hu.get hi
  obtain rfl : y = .str e.1 := hy
  obtain rfl : z = .str e.2 := hz
  exact ⟨t, h1, ht⟩
def rEn (ns : List Str) : Rp (List (Str × Str)) := ⟨fun es v H => ∃ p, v = .ref p ∧ EndsAt H p ns es, fun e ⟨p, h1, h2⟩ => ⟨p, h1, h2.ex e⟩⟩
theorem er_ends {σ : L2.St} {H : Hp} {ps : List Addr} {ta tb : TE} {ns : List Str} {es : List (Str × Str)} {E : XK} (h1 : EvR (rL rS) ps ta σ H ns) (h2 : EvR (rL rE) ps tb σ H es) (hn : ns.Nodup) (hz : ns.length ≤ 1000) (he : es.length ≤ 1000) (hi : ∀ e ∈ es, e.1 ∈ ns) :
    EvR (rEn ns) ps (tCall (spEnds K) [] E (tCons ta (tCons tb tNil))) σ H es := fun H0 e o Q q => h1 H0 e o _ fun v H1 e1 r1 => h2 H1 (e.trans e1) (o.ex e1) _ fun w H2 e2 r2 => by
  obtain ⟨a, rfl, ha⟩ := rLS_at r1
  obtain ⟨b, rfl, hb⟩ := lnAt_of (K := K) (rL_q r2)
  have o2 := o.ex (e1.trans e2)
  refine ⟨a, b, ns, es, rfl, .inl (sq_of (e2 _ _ (Rm_ex _ _ ha))), hb.ex Rm_ex, hn, hz, he, hi, fun p H3 hp e3 ⟨f, h3, h4⟩ => q _ H3 ((e1.trans e2).trans e3) ⟨p, rfl, f, Rm_get h3 (o2.nin hp), fun n hm => Rm_get (h4 n hm).2 (o2.nin (h4 n hm).1)⟩⟩
theorem er_endsN {σ : L2.St} {H G : Hp} {ps : List Addr} {ta tb : TE} {ns : List Str} {es : List (Str × Str)} {E : XK} (e0 : Ex G H) (h1 : EvR (rL rS) ps ta σ H ns) (h2 : EvR (rL rE) ps tb σ H es) (hn : ns.Nodup) (hz : ns.length ≤ 1000) (he : es.length ≤ 1000) (hi : ∀ e ∈ es, e.1 ∈ ns) :
    EvR (rW G (rEn ns)) ps (tCall (spEnds K) [] E (tCons ta (tCons tb tNil))) σ H es := fun H0 e o Q q => h1 H0 e o _ fun v H1 e1 r1 => h2 H1 (e.trans e1) (o.ex e1) _ fun w H2 e2 r2 => by
  obtain ⟨a, rfl, ha⟩ := rLS_at r1
  obtain ⟨b, rfl, hb⟩ := lnAt_of (K := K) (rL_q r2)
  have o2 := o.ex (e1.trans e2)
  have e02 := ((e0.trans e).trans e1).trans e2
  refine ⟨a, b, ns, es, rfl, .inl (sq_of (e2 _ _ (Rm_ex _ _ ha))), hb.ex Rm_ex, hn, hz, he, hi, fun p H3 hp e3 ⟨f, h3, h4⟩ => q _ H3 ((e1.trans e2).trans e3) ⟨p, rfl, f, Nw_get (Rm_get h3 (o2.nin hp)) (none_of e02 hp), fun n hm => Nw_get (Rm_get (h4 n hm).2 (o2.nin (h4 n hm).1)) (none_of e02 (h4 n hm).1)⟩⟩
theorem len_rd {a : Addr} {vs : List V} {H : Hp} {Q : VK} (h : Sq K H a vs) (q : Q (.int (vs.length : Int)) H) : rLen K [.ref a] H Q := ⟨_, vs.length, rfl, by rcases h with h | h <;> first | exact Or.inl ⟨_, h, rfl⟩ | exact Or.inr ⟨_, h, rfl⟩, q⟩
def lenI (l : List Str) : Int := (l.length : Int)
/-- what a sheet may be made of -/
structure InOk (ls : List (List Str)) (es : List (Str × Str)) : Prop where
  lv : LvOk ls
  w18 : ∀ l ∈ ls, l.length ≤ 18
  h12 : ls.length ≤ 12
  fit : ∀ e ∈ es, fitB (plTo 0 ls []) e.1 e.2 = true
  nd : es.Nodup
  z : es.length ≤ 60
/-- self.f = e -/
theorem q_fldR {α : Type} {R : Rp α} {σ : L2.St} {H : Hp} {ps : List Addr} {x dx C : Addr} {tv : TE} {D : Ends} {tz : TS} {f : Str} {fs : List (Str × V)} {a : α} (o : Own (x :: ps) H) (hx : σ[0]? = some (some (.ref x))) (h1 : H x = some (.ins C dx fs)) (c : Cls K C) (n : NoAttr K C f) (hl : fs.length < 1000)
    (h : EvR R (x :: ps) tv σ H a) (k : ∀ v H2, Fr (x :: ps) H H2 → Ex (Rm [x] H) (Rm [x] H2) → R.p a v (Rm (x :: ps) H2) → H2 x = some (.ins C dx (putF f v fs)) → tz D σ H2) : tSeq (sFld K (tVar 0) tv f) tz D σ H :=
  h H (Ex.refl _) o _ fun v H1 e1 r => ⟨.ref x, hx, x, C, dx, fs, rfl, e1 _ _ h1, c, n, hl, k v _ ((Fr.of o e1).upd (List.mem_cons_self ..)) (by rw [Rm_upd (List.mem_cons_self ..)]; exact Rm_mono e1) (by rw [Rm_upd (List.mem_cons_self ..)]; exact r) upd_same⟩
theorem s_fldR {α : Type} {R : Rp α} {σ : L2.St} {H : Hp} {ps : List Addr} {x dx C : Addr} {tv : TE} {D : Ends} {f : Str} {fs : List (Str × V)} {a : α} (o : Own (x :: ps) H) (hx : σ[0]? = some (some (.ref x))) (h1 : H x = some (.ins C dx fs)) (c : Cls K C) (n : NoAttr K C f) (hl : fs.length < 1000)
    (h : EvR R (x :: ps) tv σ H a) (k : ∀ v H2, Fr (x :: ps) H H2 → Ex (Rm [x] H) (Rm [x] H2) → R.p a v (Rm (x :: ps) H2) → H2 x = some (.ins C dx (putF f v fs)) → D.nx σ H2) : sFld K (tVar 0) tv f D σ H :=
  h H (Ex.refl _) o _ fun v H1 e1 r => ⟨.ref x, hx, x, C, dx, fs, rfl, e1 _ _ h1, c, n, hl, k v _ ((Fr.of o e1).upd (List.mem_cons_self ..)) (by rw [Rm_upd (List.mem_cons_self ..)]; exact Rm_mono e1) (by rw [Rm_upd (List.mem_cons_self ..)]; exact r) upd_same⟩
/-- a sheet, all of whose parts are new since G -/
def ShN (C : Addr) (s : List (List Str) × List (Str × Str)) (x : Addr) (G H : Hp) : Prop :=
  ∃ dx p1 p2 p3 p4 p5 p6 kvs, H x = some (.ins C dx (shF p1 p2 p3 p4 p5 p6)) ∧ (rL (rL rS)).p s.1 (.ref p1) (Nw G H) ∧ (rL rE).p s.2 (.ref p2) (Nw G H) ∧ (rL rS).p s.1.flatten (.ref p3) (Nw G H) ∧ Nw G H p4 = some (.dK kvs) ∧ PlOk kvs s.1 ∧ EndsAt (Nw G H) p5 s.1.flatten s.2 ∧ EndsAt (Nw G H) p6 s.1.flatten (s.2.map swp)
def spInit (K : PySem.W.Frag) : Sp := fun vs H Q _ => ∃ (ps : List Addr) (x dx : Addr) (va vb : V) (ls : List (List Str)) (es : List (Str × Str)), vs = [.ref x, va, vb] ∧ H x = some (.ins (shC K) dx []) ∧ Own (x :: ps) H ∧ x ∉ ps ∧ (rQ K (rQ K rS)).p ls va (Rm (x :: ps) H) ∧ (rQ K rE).p es vb (Rm (x :: ps) H) ∧ InOk ls es ∧
  ∀ H2, Ex (Rm [x] H) (Rm [x] H2) → Own (x :: ps) H2 → ShN (shC K) (ls.map srtS, srtT es) x (Rm [x] H) H2 → Q .non H2
theorem sc_sh_init : FnScope ["self", "levels", "lines", "places", "names", "low", "high", "node"] ["self", "levels", "lines"] (defScope (shS 3)) := ⟨rfl, rfl, rfl, by decide +kernel, rfl, by decide +kernel, by decide +kernel⟩
theorem ok_sh_init (T : Tx K mg fd) : FnOk P w K mg base CX0 5 (He.ma K (shC K) "__init__") (fd 41) ["self", "levels", "lines"] (spInit K) := by
  refine (T.ds 41 3 rfl).ok sc_sh_init (fun vs H Q E h => ?len) (fun cdv A outer s H vs Q E hr h => ?body)
  case body =>
    refine ⟨_, (pss_cons (ps_expr (pe_call (ok_check_levels T) (hr.mono (by decide)) (by rfl) (T.gl 5 "check_levels" rfl) (T.df 3 23 "check_levels" rfl).kp ((T.df 3 23 "check_levels" rfl).binds (ps := ["levels"]) fun _ _ _ _ _ _ us hl => match us, hl with | [_], _ => rfl) .nil pass0 (pa_cons (pv 1) pa_nil))) (pss_cons (ps_set (i := 3) sc_sh_init.nd rfl (Or.inl rfl) (pe_call (ok_places_of T) (hr.mono (by decide)) (by rfl) (T.gl 6 "places_of" rfl) (T.df 4 24 "places_of" rfl).kp ((T.df 4 24 "places_of" rfl).binds (ps := ["levels"]) fun _ _ _ _ _ _ us hl => match us, hl with | [_], _ => rfl) .nil pass0 (pa_cons (pv 1) pa_nil))) (pss_cons (ps_expr (pe_call (ok_check_lines T) (hr.mono (by decide)) (by rfl) (T.gl 9 "check_lines" rfl) (T.df 7 27 "check_lines" rfl).kp ((T.df 7 27 "check_lines" rfl).binds (ps := ["lines", "places"]) fun _ _ _ _ _ _ us hl => match us, hl with | [_, _], _ => rfl) .nil pass0 (pa_cons (pv 2) (pa_cons (pv 3) pa_nil)))) (pss_cons (ps_expr (pe_call (ok_check_limit T) (hr.mono (by decide)) (by rfl) (T.gl 10 "check_limit" rfl) (T.df 8 28 "check_limit" rfl).kp ((T.df 8 28 "check_limit" rfl).binds (ps := ["what", "many", "limit"]) fun _ _ _ _ _ _ us hl => match us, hl with | [_, _, _], _ => rfl) .nil pass0 (pa_cons pe_str (pa_cons (pe_callB call_len (by rfl) (T.fr 41 "len" rfl) (by decide +kernel) (pa_cons (pv 1) pa_nil)) (pa_cons (ClX.pe_cval (pe_glob (v := V.ref (He.ga K "Sheet")) (by rfl) (T.gl 33 "Sheet" rfl) rfl)) pa_nil))))) (pss_cons (ps_expr (pe_call (ok_check_limit T) (hr.mono (by decide)) (by rfl) (T.gl 10 "check_limit" rfl) (T.df 8 28 "check_limit" rfl).kp ((T.df 8 28 "check_limit" rfl).binds (ps := ["what", "many", "limit"]) fun _ _ _ _ _ _ us hl => match us, hl with | [_, _, _], _ => rfl) .nil pass0 (pa_cons pe_str (pa_cons (pe_callB (cr_max rfl) (by rfl) (T.fr 46 "max" rfl) (by decide +kernel) (pa_cons (pe_lc (own := [("names", 4)]) (g := gName 4) rfl sc_sh_init.nd (pi_seq (pv 1)) (blkOk_by (N := ["self", "levels", "lines", "places", "names", "low", "high", "node"]) (sc := (defScope (shS 3))) (own := [("names", 4)]) (by decide +kernel)) (fun _ _ _ _ _ => (pg_name (i := 4) sc_sh_init.nd rfl (Or.inl rfl))) (fun _ _ _ _ _ => pts_nil) (fun _ _ _ _ _ => (pe_callB (r := rLen K) call_len (by rfl) (T.fr 41 "len" rfl) (by decide +kernel) (pa_cons (pv 4) pa_nil)))) pa_nil)) (pa_cons (ClX.pe_cval (pe_glob (v := V.ref (He.ga K "Sheet")) (by rfl) (T.gl 33 "Sheet" rfl) rfl)) pa_nil))))) (pss_cons (ps_expr (pe_call (ok_check_limit T) (hr.mono (by decide)) (by rfl) (T.gl 10 "check_limit" rfl) (T.df 8 28 "check_limit" rfl).kp ((T.df 8 28 "check_limit" rfl).binds (ps := ["what", "many", "limit"]) fun _ _ _ _ _ _ us hl => match us, hl with | [_, _, _], _ => rfl) .nil pass0 (pa_cons pe_str (pa_cons (pe_callB call_len (by rfl) (T.fr 41 "len" rfl) (by decide +kernel) (pa_cons (pv 2) pa_nil)) (pa_cons (ClX.pe_cval (pe_glob (v := V.ref (He.ga K "Sheet")) (by rfl) (T.gl 33 "Sheet" rfl) rfl)) pa_nil))))) (pss_cons (ps_fld (pv 0) (pe_lc (own := [("names", 4)]) (g := gName 4) rfl sc_sh_init.nd (pi_seq (pv 1)) (blkOk_by (N := ["self", "levels", "lines", "places", "names", "low", "high", "node"]) (sc := (defScope (shS 3))) (own := [("names", 4)]) (by decide +kernel)) (fun _ _ _ _ _ => (pg_name (i := 4) sc_sh_init.nd rfl (Or.inl rfl))) (fun _ _ _ _ _ => pts_nil) (fun _ _ _ _ _ => (pe_callB (r := rSortedQ K) cr_sortedQ (by rfl) (T.fr 51 "sorted" rfl) (by decide +kernel) (pa_cons (pv 4) pa_nil)))) rfl) (pss_cons (ps_fld (pv 0) (pe_callB cr_sortedT2 (by rfl) (T.fr 51 "sorted" rfl) (by decide +kernel) (pa_cons (pe_lc (own := [("low", 5), ("high", 6)]) (g := gTup K 2 (gCons (gName 5) (gCons (gName 6) gNil))) rfl sc_sh_init.nd (pi_seq (pv 2)) (blkOk_by (N := ["self", "levels", "lines", "places", "names", "low", "high", "node"]) (sc := (defScope (shS 3))) (own := [("low", 5), ("high", 6)]) (by decide +kernel)) (fun _ _ _ _ _ => (pg_tup rfl (pgs_cons (pg_name (i := 5) sc_sh_init.nd rfl (Or.inl rfl)) (pgs_cons (pg_name (i := 6) sc_sh_init.nd rfl (Or.inl rfl)) pgs_nil)))) (fun _ _ _ _ _ => pts_nil) (fun _ _ _ _ _ => (pe_tup (pa_cons (pv 5) (pa_cons (pv 6) pa_nil))))) pa_nil)) rfl) (pss_cons (ps_fld (pv 0) (pe_lc2 (own := [("names", 4), ("node", 7)]) (vs1 := [7]) (wi1 := iList K (tVar 4)) (g := gName 4) (g1 := gName 7) rfl sc_sh_init.nd (pi_list (pe_fld (pv 0) rfl)) (blkOk_by (N := ["self", "levels", "lines", "places", "names", "low", "high", "node"]) (sc := (defScope (shS 3))) (own := [("names", 4), ("node", 7)]) (by decide +kernel)) (by decide) (fun _ _ _ _ _ => (pg_name (i := 4) sc_sh_init.nd rfl (Or.inl rfl))) (fun _ _ _ _ _ => pts_nil) (fun _ _ _ _ _ => (pi_list (pv 4))) (fun _ _ _ _ _ => (pg_name (i := 7) sc_sh_init.nd rfl (Or.inl rfl))) (fun _ _ _ _ _ => pts_nil) (fun _ _ _ _ _ => (pv 7))) rfl) (pss_cons (ps_fld (pv 0) (pv 3) rfl) (pss_cons (ps_fld (pv 0) (pe_call (ok_ends_by_node T) (hr.mono (by decide)) (by rfl) (T.gl 12 "ends_by_node" rfl) (T.df 10 30 "ends_by_node" rfl).kp ((T.df 10 30 "ends_by_node" rfl).binds (ps := ["nodes", "lines"]) fun _ _ _ _ _ _ us hl => match us, hl with | [_, _], _ => rfl) .nil pass0 (pa_cons (pe_fld (pv 0) rfl) (pa_cons (pe_fld (pv 0) rfl) pa_nil))) rfl) (pss_one (ps_fld (pv 0) (pe_call (ok_ends_by_node T) (hr.mono (by decide)) (by rfl) (T.gl 12 "ends_by_node" rfl) (T.df 10 30 "ends_by_node" rfl).kp ((T.df 10 30 "ends_by_node" rfl).binds (ps := ["nodes", "lines"]) fun _ _ _ _ _ _ us hl => match us, hl with | [_, _], _ => rfl) .nil pass0 (pa_cons (pe_fld (pv 0) rfl) (pa_cons (pe_lc (own := [("low", 5), ("high", 6)]) (g := gTup K 2 (gCons (gName 5) (gCons (gName 6) gNil))) rfl sc_sh_init.nd (pi_list (pe_fld (pv 0) rfl)) (blkOk_by (N := ["self", "levels", "lines", "places", "names", "low", "high", "node"]) (sc := (defScope (shS 3))) (own := [("low", 5), ("high", 6)]) (by decide +kernel)) (fun _ _ _ _ _ => (pg_tup rfl (pgs_cons (pg_name (i := 5) sc_sh_init.nd rfl (Or.inl rfl)) (pgs_cons (pg_name (i := 6) sc_sh_init.nd rfl (Or.inl rfl)) pgs_nil)))) (fun _ _ _ _ _ => pts_nil) (fun _ _ _ _ _ => (pe_tup (pa_cons (pv 6) (pa_cons (pv 5) pa_nil))))) pa_nil))) rfl))))))))))))), ?_⟩
    obtain ⟨ps, x, dx, va, vb, ls, es, rfl, hx, o0, nx, rL0, rE0, ok, q⟩ := h
    obtain ⟨hok, hw18, hl12, hf, hnd, hz⟩ := ok
    have hpl := plOk hok.once
    have hm := hok.few
    obtain ⟨u0, c0⟩ := T.cval 0 _ rfl
    obtain ⟨u1', c1⟩ := T.cval 1 _ rfl
    obtain ⟨u2, c2⟩ := T.cval 2 _ rfl
    obtain ⟨a, rfl, hLv⟩ := lvAt_of rL0
    obtain ⟨b, rfl, hLn⟩ := lnAt_of rE0
    have hLv0 := hLv.ex Rm_ex
    have hLn0 := hLn.ex Rm_ex
    refine q_drop (ev_call0 (ea_cons (ev_var rfl) ea_nil) (levels_sp hLv0 hok)) fun H1 e1 => ?_
    refine q_asgC (ea_cons (ev_var rfl) ea_nil) fun H2 e2 => ⟨a, ls, rfl, hLv0.ex (e1.trans e2), by omega, fun p4 H3 hp4 e3 h4 => ?_⟩
    have hp40 : (Rm [x] H) p4 = none := none_of (Rm_ex.trans (e1.trans e2)) hp4
    have e13 := (e1.trans e2).trans e3
    refine q_drop (ev_call0 (ea_cons (ev_var (v := .ref b) rfl) (ea_cons (ev_var (v := .ref p4) rfl) ea_nil)) (lines_sp (hLn0.ex e13) h4 (ints_of hpl) hf hnd hz)) fun H4 e4 => ?_
    have e14 := e13.trans e4
    obtain ⟨rows, hR, hRl, hRi⟩ := hLv0
    refine q_drop (ev_call0 (ea_cons ev_c (ea_cons (lenS (ev_var rfl) (ex_s e14 hR)) (ea_cons (ev_cval T.cread c0) ea_nil))) (limit_sp (by rw [hRl]; omega))) fun H5 e5 => ?_
    have e15 := e14.trans e5
    have o5 := o0.ex e15
    refine q_drop (ev_call0 (ea_cons ev_c (ea_cons (ev_I o5 (er_max (ns := ls.map lenI) (er_lc1 (R := rQ K rS) (S := rI) lenI (wk_seq (er_var rfl ((rQ K (rQ K rS)).m (Rm_mono e15) rL0))) (by omega) (fun _ => rfl) fun l hl qs v H1 _ _ _ r => er_len (R := rS) (er_var (i := 4) rfl r) fun a vs H1 Q h q => len_rd h q) ?pos)) (ea_cons (ev_cval T.cread c1) ea_nil))) (limit_sp ?most)) fun H6 e6 => ?_
    case pos =>
      rw [List.length_map]
      exact List.length_pos_iff.mpr hok.some
    case most =>
      refine mx_le (by decide) fun y hy => ?_
      obtain ⟨l, hl, rfl⟩ := List.mem_map.mp hy
      have := hw18 l hl
      show (l.length : Int) ≤ 18
      omega
    have e16 := e15.trans e6
    obtain ⟨rowsE, hRE, hREl, hREi⟩ := hLn0
    refine q_drop (ev_call0 (ea_cons ev_c (ea_cons (lenS (ev_var rfl) (ex_s e16 hRE)) (ea_cons (ev_cval T.cread c2) ea_nil))) (limit_sp (by rw [hREl]; show (es.length : Int) ≤ 200; omega))) fun H7 e7 => ?_
    have e17 := e16.trans e7
    have o7 := o0.ex e17
    have f7 := Fr.of o0 e17
    have h47 := Rm_get (ps := x :: ps) (e7 _ _ (e6 _ _ (e5 _ _ (e4 _ _ h4)))) ((o0.ex (e1.trans e2)).nin hp4)
    have e07 : Ex (Rm [x] H) H7 := Rm_ex.trans e17
    refine q_fldR (R := rW (Rm [x] H) (rL (rL rS))) (a := ls.map srtS) o7 rfl (e17 _ _ hx) T.cls (T.noat 56 "_levels" rfl) (by decide) (er_NW (er_lc1N (R := rQ K rS) (S := rW (Rm [x] H) (rL rS)) srtS e07 (wk_seq (er_var rfl (f7.r rL0))) (by omega) (fun _ => rfl) fun l hl qs v H1 eq _ _ r => er_NW (er_sortedQN (e07.trans eq) (er_var rfl r) (by have := hw18 l hl; omega)))) fun v1 H8 f8 m8 r1 x8 => ?_
    have f18 := f7.trans f8
    have e08 : Ex (Rm [x] H) H8 := ((Rm_mono e17).trans m8).trans Rm_ex
    refine q_fldR (R := rW (Rm [x] H) (rL rE)) (a := srtT es) f8.1 rfl x8 T.cls (T.noat 57 "_lines" rfl) (by show 1 < 1000; decide) (er_NW (er_sortedTN e08 (er_is (er_lc2 (R := rS) (S := rS) (T := rW (Rm [x] H) rE) id (wk_seq (er_var rfl (f18.r rE0))) (by omega) (fun _ _ => rfl) fun e he qs v w H1 eq _ _ r s => er_tupN (e08.trans eq) (er_var rfl r) (er_var rfl s)) (List.map_id _)))) fun v2 H9 f9 m9 r2 x9 => ?_
    have hms : many (ls.map srtS) = many ls := by rw [← many_flat, ← many_flat]; exact flat_perm.length_eq
    have r19 := f9.r r1
    have e09 : Ex (Rm [x] H) H9 := (((Rm_mono e17).trans m8).trans m9).trans Rm_ex
    refine q_fldR (R := rW (Rm [x] H) (rL rS)) (a := (ls.map srtS).flatten) f9.1 rfl x9 T.cls (T.noat 58 "_nodes" rfl) (by show 2 < 1000; decide) (er_NW (er_flatN e09 (er_of (ev_fld rfl x9 T.cls (T.noat 56 "_levels" rfl) rfl) (rW_r r19)) (by omega) (by decide) (fun _ => rfl) (fun _ => rfl) (fun _ _ => rfl) (fun _ _ => rfl))) fun v3 H10 f10 m10 r3 x10 => ?_
    have h410 := (f8.trans (f9.trans f10)).2 _ _ h47
    refine q_fldR (R := ⟨fun (_ : Unit) v H => v = .ref p4, fun _ h => h⟩) (a := ()) f10.1 rfl x10 T.cls (T.noat 59 "_places" rfl) (by show 3 < 1000; decide) (er_of (ev_var (i := 3) (v := .ref p4) rfl) rfl) fun v4 H11 f11 m11 r4 x11 => ?_
    obtain rfl : v4 = .ref p4 := r4
    have hns : (ls.map srtS).flatten.Nodup := flat_perm.nodup_iff.mpr hok.once
    have hnl : (ls.map srtS).flatten.length ≤ 1000 := by rw [many_flat]; omega
    have hel : (srtT es).length = es.length := (srtT_perm es).length_eq
    have hin : ∀ e ∈ srtT es, e.1 ∈ (ls.map srtS).flatten ∧ e.2 ∈ (ls.map srtS).flatten := fun e he =>
      have h := fit_in hpl (hf e ((srtT_perm es).mem_iff.mp he))
      ⟨mem_flat.mp h.1, mem_flat.mp h.2⟩
    have r211 := (f10.trans f11).r r2
    have r311 := f11.r r3
    have e011 : Ex (Rm [x] H) H11 := (((((Rm_mono e17).trans m8).trans m9).trans m10).trans m11).trans Rm_ex
    refine q_fldR (R := rW (Rm [x] H) (rEn (ls.map srtS).flatten)) (a := srtT es) f11.1 rfl x11 T.cls (T.noat 60 "_ups" rfl) (by show 4 < 1000; decide) (er_endsN e011 (er_of (ev_fld rfl x11 T.cls (T.noat 58 "_nodes" rfl) rfl) (rW_r r311)) (er_of (ev_fld rfl x11 T.cls (T.noat 57 "_lines" rfl) rfl) (rW_r r211)) hns hnl (by omega) (fun e he => (hin e he).1)) fun v5 H12 f12 m12 r5 x12 => ?_
    have r212 := f12.r r211
    have r312 := f12.r r311
    have e012 : Ex (Rm [x] H) H12 := ((((((Rm_mono e17).trans m8).trans m9).trans m10).trans m11).trans m12).trans Rm_ex
    refine s_fldR (R := rW (Rm [x] H) (rEn (ls.map srtS).flatten)) (a := (srtT es).map swp) f12.1 rfl x12 T.cls (T.noat 61 "_downs" rfl) (by show 5 < 1000; decide) (er_endsN e012 (er_of (ev_fld rfl x12 T.cls (T.noat 58 "_nodes" rfl) rfl) (rW_r r312)) (er_lc2 (R := rS) (S := rS) (T := rE) swp (wk_list (er_of (ev_fld rfl x12 T.cls (T.noat 57 "_lines" rfl) rfl) (rW_r r212))) (by omega) (fun _ _ => rfl) fun e he qs v w H1 _ _ _ r s => er_tup (er_var rfl s) (er_var rfl r)) hns hnl (by rw [List.length_map]; omega) ?ends) fun v6 H13 f13 m13 r6 x13 => ?_
    case ends =>
      intro e he
      obtain ⟨e', h1, rfl⟩ := List.mem_map.mp he
      exact (hin e' h1).2
    obtain ⟨p5, rfl, r5⟩ := r5
    obtain ⟨p6, rfl, r6⟩ := r6
    have q1 := (f10.trans (f11.trans (f12.trans f13))).r r19
    have q2 := f13.r r212
    have q3 := f13.r r312
    obtain ⟨p1, w1, rfl, _, _⟩ := id (show (rL (rL rS)).p _ _ _ from q1)
    obtain ⟨p2, w2, rfl, _, _⟩ := id (show (rL rE).p _ _ _ from q2)
    obtain ⟨p3, w3, rfl, _, _⟩ := id (show (rL rS).p _ _ _ from q3)
    have nn : Ex (Nw (Rm [x] H) (Rm (x :: ps) H13)) (Nw (Rm [x] H) H13) := Nw_mono Rm_ex
    refine q H13 ((Rm_mono e17).trans (m8.trans (m9.trans (m10.trans (m11.trans (m12.trans m13)))))) f13.1 ⟨dx, p1, p2, p3, p4, p5, p6, plTo 0 ls [], x13, (rL (rL rS)).m nn q1, (rL rE).m nn q2, (rL rS).m nn q3, Nw_get (Rm_ex _ _ ((f11.trans (f12.trans f13)).2 _ _ h410)) hp40, hpl.srt, (r5.ex (Nw_mono f13.2)).ex nn, r6.ex nn⟩
  case len =>
    obtain ⟨ps, x, dx, va, vb, ls, es, rfl, _⟩ := h
    rfl
end
end K12
set_option Elab.async false
set_option linter.all false
set_option maxRecDepth 100000
set_option maxHeartbeats 4000000
/-! methods and classes called by keywords alone; xs[::k] -/
namespace L2
open PySem PySem.Spec PyProof.Rows
theorem Vals.same_len {vs : List V} {us : List Value} (r : Vals vs us) : vs.length = us.length := r.length
theorem vals_app {vs zs : List V} {us ws : List Value} (r : Vals vs us) (q : Vals zs ws) : Vals (vs ++ zs) (us ++ ws) := r.append q
section
variable {K : PySem.W.Frag} {x qual : Str} {st : Stmt} {f : Addr} {fd : FuncData} {ps ks : List Str} {n : Nat}
theorem Fun.kbn (F : Fun K x qual st f fd) (h : ∀ (kV doc pm : Value) (an : Option Addr) (cdv ct : Value) (us ws : List Value), us.length = n → ws.length = ks.length →
    bindArgs (PySem.W.fnOf x qual (defArgs st) (defBody st) (defScope st) .none kV doc pm an cdv ct) ⟨us, ks.zip ws⟩ = pure (ps.zip (us ++ ws))) : KBn K fd ps n ks (fun us ws => us ++ ws) (fun vs zs => vs ++ zs) := by
  obtain ⟨oc, od, kV, doc, pm, an, cdv, ct, osl, rfl, lk, hcd⟩ := F.ex
  exact ⟨fun s us ws X l1 l2 => .of_eq (h kV doc pm an cdv ct us ws l1 l2), fun r q => vals_app r q⟩
end
def tMethK (C : Addr) (m : Str) (n : Nat) (sp : Sp) (gV : List V → List V → List V) (E : XK) (ta : TE) (tk : TA) : TE := fun σ H Q => ta σ H fun x H1 => ∃ a dx fs, x = .ref a ∧ H1 a = some (.ins C dx fs) ∧ fs.lookup m = none ∧
  tk σ H1 fun zs H2 => zs.length = n ∧ sp (gV [x] zs) H2 Q E
/-- C(k = v, ..), nothing by position -/
def tMakeK (C : Addr) (n : Nat) (sp : Sp) (gV : List V → List V → List V) (E : XK) (tk : TA) : TE := fun σ H Q => tk σ H fun zs H2 => zs.length = n ∧
  ∀ x dx, H2 x = none → H2 dx = none → dx ≠ x → sp (gV [.ref x] zs) (upd (upd H2 dx (.own x)) x (.ins C dx [])) (fun v H3 => v = .non ∧ Q (.ref x) H3) E
section
variable {X : Cx} {CX : CXT} {k : Nat} {f C : Addr} {fd : FuncData} {ps ks : List Str} {sp : Sp} {E : XK} {x m : Str} {p pos apos : Pos} {e o : Expr} {es : List Expr} {kws : List Keyword} {te ta : TE} {t tk : TA} {g : List Value → List Value → List Value} {gV : List V → List V → List V}
/-- o.m(k = v, ..) -/
theorem pe_methK {pl : Sem Bool} (he : PE X o ta) (c : Cls X.K C) (hm : Meth X.K C m f) (F : FnOk X.prog X.w X.K X.mg X.base CX k f fd ps sp) (hr : Room k X.A) (hb : KBn X.K fd ps 1 ks g gV) (hx : Passes CX X E)
    (hkw : PK X kws tk) (hall : (backToKw pos (keywordEach kws X.env)).all (·.1.isSome) = true := by rfl) (hks : (backToKw pos (keywordEach kws X.env)).filterMap (·.1) = ks := by rfl)
    (hpl : ((backTo pos (starEach [] X.env)).any (·.1) || (backToKw pos (keywordEach kws X.env)).any (·.1.isNone)) = false := by rfl)
    (ht : eval (.Call (.Attribute o m apos) [] kws pos) X.env = (do
      let ov ← eval o X.env
      standAt apos.atName
      let (f, first) ← holding [ov] (getMethod ov m pl)
      callWith pos f first (backTo pos (starEach [] X.env)) (backToKw pos (keywordEach kws X.env))) := by rfl) :
    PE X (.Call (.Attribute o m apos) [] kws pos) (tMethK C m ks.length sp gV E ta tk) := by
  refine ⟨fun pins s σ H Q I h => ?_⟩
  refine PySem.W.methodCall_KW (pl := pl) (thn (he.run pins s σ H _ I h) fun u s1 ⟨x, H1, I1, rx, a, dx, fs, ex, ea, l, q⟩ => ?_) ht
  subst ex
  obtain rfl : u = Value.ref a := rx
  refine getmeth_ok I1 ea c hm l ?_
  refine PySem.W.callWith_KW0 (first := [.ref a]) (h₀ := X.base) I.ok.mod.kin hm.kp hall (thn (hkw.run pos pins s1 σ H1 _ I1 q) fun ws s2 ⟨zs, H2, I2, rz, l2, q2⟩ => ⟨I2.kIn, ?_⟩) hpl
  rw [hks]
  exact run_fnN (us := [.ref a]) (vs := [.ref a]) F hr hb hx I2 (.cons rfl .nil) rz rfl l2 q2
theorem pe_makeK (M : Mk X.K C f) (F : FnOk X.prog X.w X.K X.mg X.base CX k f fd ps sp) (hr : Room (k + 1) X.A) (hg : Gl X x) (hm : X.mg x = some (.ref C)) (hb : KBn X.K fd ps 1 ks g gV) (hx : Passes CX X E)
    (hkw : PK X kws tk) (hall : (backToKw pos (keywordEach kws X.env)).all (·.1.isSome) = true := by rfl) (hks : (backToKw pos (keywordEach kws X.env)).filterMap (·.1) = ks := by rfl)
    (hdb : (x == ("__debug__" : Str)) = false := by decide)
    (hpl : ((backTo pos (starEach [] X.env)).any (·.1) || (backToKw pos (keywordEach kws X.env)).any (·.1.isNone)) = false := by rfl) :
    PE X (.Call (.Name x p) [] kws pos) (tMakeK C ks.length sp gV E tk) := by
  refine ⟨fun pins s σ H Q I h => ?_⟩
  refine wpAny_Call_Name_kw (ld_glob I hg hm ?_ hdb)
  refine PySem.W.callWith_KW0 (h₀ := X.base) I.ok.mod.kin M.kp hall (thn (hkw.run pos pins s σ H _ I h) fun ws s2 ⟨zs, H2, I2, rz, l2, q2⟩ => ⟨I2.kIn, ?_⟩) hpl
  rw [hks]
  exact run_makeN (n := 0) (us := []) (vs := []) M F hr hb hx I2 .nil rz rfl l2 q2
end
/-! ### xs[::k] -/
def stepV {α : Type} (xs : List α) (k : Nat) : List α := (sliceRange 0 xs.length k).filterMap (xs[·]?)
theorem vals_at {vs : List V} {us : List Value} (r : Vals vs us) (i : Nat) : (vs[i]? = none ∧ us[i]? = none) ∨ ∃ v u, vs[i]? = some v ∧ us[i]? = some u ∧ RelV v u := by
  induction r generalizing i with
  | nil => exact .inl ⟨rfl, rfl⟩
  | cons h t ih => cases i with
    | zero => exact .inr ⟨_, _, rfl, rfl, h⟩
    | succ i => exact ih i
theorem vals_step {vs : List V} {us : List Value} (r : Vals vs us) : ∀ is : List Nat, Vals (is.filterMap (vs[·]?)) (is.filterMap (us[·]?))
  | [] => .nil
  | i :: is => by
    rcases vals_at r i with ⟨h1, h2⟩ | ⟨v, u, h1, h2, h3⟩
    · rw [List.filterMap_cons_none h1, List.filterMap_cons_none h2]
      exact vals_step r is
    · rw [List.filterMap_cons_some h1, List.filterMap_cons_some h2]
      exact .cons h3 (vals_step r is)
theorem step_len {α : Type} {xs : List α} {k : Nat} (hk : 0 < k) : (stepV xs k).length ≤ xs.length := by
  refine Nat.le_trans (List.length_filterMap_le _ _) ?_
  exact sliceRange_length_le 0 xs.length k xs.length (fun _ => ⟨Int.le_refl _, Int.le_refl _⟩) (fun h => absurd (by omega : (k : Int) > 0) h)
def tStepL (K : PySem.W.Frag) (te ts : TE) : TE := fun σ H Q => te σ H fun x H1 => tPart ts σ H1 fun o H2 => ∃ (a : Addr) (xs : List V) (k : Nat), x = .ref a ∧ o = some (k : Int) ∧ 0 < k ∧ SqL K H2 a xs ∧ ∀ p, H2 p = none → Q (.ref p) (upd H2 p (.lst (stepV xs k)))
theorem pick_step {its : List Value} {k : Nat} (hk : 0 < k) : slicePick its.toArray none none (some (k : Int)) = (stepV its k).toArray := by
  unfold slicePick stepV
  have e : sliceBounds none none (some (k : Int)) its.toArray.size = (0, ((its.toArray.size : Nat) : Int), (k : Int)) := by
    unfold sliceBounds
    have h : ((some (k : Int)).getD 1 : Int) > 0 := by show (k : Int) > 0; omega
    simp only [h, if_true]
    rfl
  rw [e]
  simp
theorem pe_stepL {X : Cx} {e es : Expr} {te ts : TE} {p3 pos : Pos} (he : PE X e te) (hs : PE X es ts) : PE X (.Subscript e (.Slice none none (some es) p3) pos) (tStepL X.K te ts) := by
  refine ⟨fun pins s σ H Q I h => ?_⟩
  refine Subscript_ (thn (he.run pins s σ H _ I h) fun v s1 ⟨x, H1, I1, r1, q1⟩ => ?_)
  refine wpAny_Slice (thn (po_none.run pins s1 σ H1 (fun o H2 => o = none ∧ H2 = H1) I1 ⟨rfl, rfl⟩) fun vl s2 ⟨l, H2, I2, pl, el, e2⟩ => ?_)
  subst el e2
  refine thn (po_none.run pins s2 σ H2 (fun o H3 => o = none ∧ H3 = H2) I2 ⟨rfl, rfl⟩) fun vu s3 ⟨u, H3, I3, pu, eu, e3⟩ => ?_
  subst eu e3
  refine thn ((po_some hs).run pins s3 σ H3 _ I3 q1) fun vs s4 ⟨o, H4, I4, ps, a, xs, k, ex, eo, hk, hx, q⟩ => ?_
  subst ex eo
  cases r1
  have I5 : Inv X pins σ H4 { s4 with heap := s4.heap.push { cls := .type "slice", data := .fields #[vl, vu, vs] } } := I4.kept (t' := s4.toks) fun b ob q => Heap.get?_push_of_some _ q
  obtain ⟨its, r, ht, hz⟩ := I5.list hx
  have hlen := r.length
  show wpAny (model X.prog X.w) X.A (subscriptTail e (.Slice none none (some es) p3) (.ref a) (.ref s4.heap.objs.size)) (EP X pins σ Q) X.xe { s4 with heap := s4.heap.push { cls := .type "slice", data := .fields #[vl, vu, vs] } }
  refine tail_any (ops := [.ref a, .ref s4.heap.objs.size]) ht.isList.typeIs (PySem.slot_list_getitem.lookup) ?_ (by with_unfolding_all rfl)
  refine wpAny_getItem_list_slice ht.isList (Heap.IsSliceOf.new _ vl vu vs) pl pu ps (by intro z; injection z with z; omega) ?_ (by rw [List.size_toArray]; omega)
  rw [pick_step hk]
  have hl2 : its.length = xs.length := hlen.symm
  have hv : Vals (stepV xs k) (stepV its k) := by
    unfold stepV
    rw [hl2]
    exact vals_step r _
  refine ⟨.ref _, _, I5.laid (t' := s4.toks) (o := .lst (stepV xs k)) (fun b ob q => Heap.get?_push_of_some _ q) (Nat.le_refl _) ?_, rfl, q _ (I5.hok.fresh (Nat.le_refl _))⟩
  exact ⟨Nat.le_trans (step_len hk) hz, _, 0, hv, Heap.get?_push_size _ rfl⟩
end L2
set_option Elab.async false
set_option linter.all false
set_option maxRecDepth 100000
set_option maxHeartbeats 4000000
namespace K12
open PySem PySem.Spec PyProof.Rows L2 Evl Gen RP
abbrev Sht := List (List Str) × List (Str × Str)
/-- a line from a level to the next one -/
def Fit (ls : List (List Str)) (e : Str × Str) : Prop := ∃ i a b, ls[i]? = some a ∧ ls[i + 1]? = some b ∧ e.1 ∈ a ∧ e.2 ∈ b
theorem Fit.in1 {ls : List (List Str)} {e : Str × Str} (h : Fit ls e) : e.1 ∈ ls.flatten := let ⟨i, a, b, h1, _, h3, _⟩ := h; List.mem_flatten.mpr ⟨a, List.mem_of_getElem? h1, h3⟩
theorem Fit.in2 {ls : List (List Str)} {e : Str × Str} (h : Fit ls e) : e.2 ∈ ls.flatten := let ⟨i, a, b, _, h2, _, h4⟩ := h; List.mem_flatten.mpr ⟨b, List.mem_of_getElem? h2, h4⟩
theorem fitB_of {kvs : List (Key × V)} {ls : List (List Str)} (p : PlOk kvs ls) {e : Str × Str} (h : Fit ls e) : fitB kvs e.1 e.2 = true := by
  obtain ⟨i, a, b, h1, h2, h3, h4⟩ := h
  unfold fitB
  rw [p.in_ i a e.1 h1 h3, p.in_ (i + 1) b e.2 h2 h4]
  exact decide_eq_true (by omega)
theorem place_of {kvs : List (Key × V)} {ls : List (List Str)} (p : PlOk kvs ls) {z : Str} (h : z ∈ ls.flatten) : ∃ (i : Nat) (a : List Str), ls[i]? = some a ∧ z ∈ a ∧ valV kvs (.inr z) = some (.int (i : Int)) := by
  obtain ⟨l, h1, h2⟩ := List.mem_flatten.mp h
  obtain ⟨i, hi⟩ := List.mem_iff_getElem?.mp h1
  exact ⟨i, l, hi, h2, p.in_ i l z hi h2⟩
theorem place_isSome {kvs : List (Key × V)} {ls : List (List Str)} (p : PlOk kvs ls) (z : Str) : (valV kvs (.inr z)).isSome = decide (z ∈ ls.flatten) := by
  by_cases h : z ∈ ls.flatten
  · obtain ⟨i, a, h1, h2, h3⟩ := place_of p h
    rw [h3, decide_eq_true h]
    rfl
  · rw [p.out z h, decide_eq_false h]
    rfl
/-- the levels of nodes are apart -/
theorem apart {ls : List (List Str)} (h : ls.flatten.Nodup) {i j : Nat} {a b : List Str} {z : Str} (hi : ls[i]? = some a) (hj : ls[j]? = some b) (ha : z ∈ a) (hb : z ∈ b) : i = j := by
  have p := plOk h
  have h1 := p.in_ i a z hi ha
  have h2 := p.in_ j b z hj hb
  rw [h1] at h2
  have h3 := Option.some.inj h2
  injection h3 with h4
  omega
theorem fit_iff {kvs : List (Key × V)} {ls : List (List Str)} (p : PlOk kvs ls) {e : Str × Str} : fitB kvs e.1 e.2 = true ↔ Fit ls e := by
  refine ⟨fun h => ?_, fitB_of p⟩
  have hi := fit_in p h
  obtain ⟨i, a, h1, h2, h3⟩ := place_of p hi.1
  obtain ⟨j, b, h4, h5, h6⟩ := place_of p hi.2
  unfold fitB at h
  rw [h3, h6] at h
  have h7 := of_decide_eq_true h
  have h8 : j = i + 1 := by omega
  subst h8
  exact ⟨i, a, b, h1, h4, h2, h5⟩
/-- what a sheet is -/
structure Sok (s : Sht) : Prop where
  lv : LvOk s.1
  w18 : ∀ l ∈ s.1, l.length ≤ 18
  h12 : s.1.length ≤ 12
  fit : ∀ e ∈ s.2, Fit s.1 e
  nd : s.2.Nodup
  z : s.2.length ≤ 60
  srt : s.1.map srtS = s.1
  srtE : srtT s.2 = s.2
/-- what it may be made of -/
structure Mk' (ls : List (List Str)) (es : List (Str × Str)) : Prop where
  lv : LvOk ls
  w18 : ∀ l ∈ ls, l.length ≤ 18
  h12 : ls.length ≤ 12
  fit : ∀ e ∈ es, Fit ls e
  nd : es.Nodup
  z : es.length ≤ 60
theorem Mk'.inok {ls : List (List Str)} {es : List (Str × Str)} (h : Mk' ls es) : InOk ls es := ⟨h.lv, h.w18, h.h12, fun e he => fitB_of (plOk h.lv.once) (h.fit e he), h.nd, h.z⟩
def mkS (ls : List (List Str)) (es : List (Str × Str)) : Sht := (ls.map srtS, srtT es)
theorem srtS_idem (xs : List Str) : srtS (srtS xs) = srtS xs := srtS_eq (srtS_perm xs)
theorem srtT_idem (xs : List (Str × Str)) : srtT (srtT xs) = srtT xs := srtT_eq (srtT_perm xs)
theorem map_srt_idem (ls : List (List Str)) : (ls.map srtS).map srtS = ls.map srtS := by
  rw [List.map_map]
  exact List.map_congr_left fun l _ => srtS_idem l
theorem Fit.srt {ls : List (List Str)} {e : Str × Str} (h : Fit ls e) : Fit (ls.map srtS) e := let ⟨i, a, b, h1, h2, h3, h4⟩ := h
  ⟨i, srtS a, srtS b, by rw [List.getElem?_map, h1]; rfl, by rw [List.getElem?_map, h2]; rfl, (srtS_perm a).mem_iff.mpr h3, (srtS_perm b).mem_iff.mpr h4⟩
theorem Mk'.sok {ls : List (List Str)} {es : List (Str × Str)} (h : Mk' ls es) : Sok (mkS ls es) where
  lv := ⟨fun z => h.lv.some (List.map_eq_nil_iff.mp z), fun ws hw x hx => by
    obtain ⟨l, hl, rfl⟩ := List.mem_map.mp hw
    exact h.lv.names l hl x ((srtS_perm l).mem_iff.mp hx), flat_perm.nodup_iff.mpr h.lv.once, by
    have : many (ls.map srtS) = many ls := by rw [← many_flat, ← many_flat]; exact flat_perm.length_eq
    show many (ls.map srtS) ≤ 60
    rw [this]
    exact h.lv.few⟩
  w18 := fun l hl => by
    obtain ⟨m, hm, rfl⟩ := List.mem_map.mp hl
    rw [(srtS_perm m).length_eq]
    exact h.w18 m hm
  h12 := by show (ls.map srtS).length ≤ 12; rw [List.length_map]; exact h.h12
  fit := fun e he => (h.fit e ((srtT_perm es).mem_iff.mp he)).srt
  nd := (srtT_perm es).nodup_iff.mpr h.nd
  z := by show (srtT es).length ≤ 60; rw [(srtT_perm es).length_eq]; exact h.z
  srt := map_srt_idem ls
  srtE := srtT_idem es
theorem Sok.mk' {s : Sht} (h : Sok s) : Mk' s.1 s.2 := ⟨h.lv, h.w18, h.h12, h.fit, h.nd, h.z⟩
theorem Sok.self {s : Sht} (h : Sok s) : mkS s.1 s.2 = s := Prod.ext h.srt h.srtE
section
variable {P : Program} {w : World} {K : PySem.W.Frag} {mg : Str → Option Value} {base : Heap} {fd : Nat → FuncData} {α β γ δ : Type} {R : Rp α} {S : Rp β} {U : Rp δ} {T : Rp γ} {ps : List Addr} {σ : L2.St} {H : Hp} {ta tb tc : TE} {a : α} {b : β} {d : δ} {s : Sht} {C : Addr} {v : V} {i : Nat} {E : XK} {m : Str}
/-- the same rules, the written part named (within a comprehension) -/
theorem pe_fldK {X : Cx} {K : PySem.W.Frag} {e : Expr} {f : Str} {pos : Pos} {ta : TE} (hK : X.K = K) (he : PE X e ta) (hb : attributeBase e f X.env (eval e X.env) = eval e X.env) : PE X (.Attribute e f pos) (tFld K ta f) := hK ▸ pe_fld he hb
abbrev rS_ (K : PySem.W.Frag) : Rp Sht := rSh (shC K)
theorem sh_levels (hs : σ[i]? = some (some v)) (r : (rSh C).p s v (Rm ps H)) (c : Cls K C) (n : NoAttr K C "_levels") : EvR (rL (rL rS)) ps (tFld K (tVar i) "_levels") σ H s.1 := by
  obtain ⟨x, rfl, dx, p1, p2, p3, p4, p5, p6, kvs, h1, h2, h3, h4, h5, h6, h7, h8⟩ := r
  exact er_of (v := .ref p1) (ev_fld hs (Rm_ex _ _ h1) c n rfl) h2
theorem sh_lines (hs : σ[i]? = some (some v)) (r : (rSh C).p s v (Rm ps H)) (c : Cls K C) (n : NoAttr K C "_lines") : EvR (rL rE) ps (tFld K (tVar i) "_lines") σ H s.2 := by
  obtain ⟨x, rfl, dx, p1, p2, p3, p4, p5, p6, kvs, h1, h2, h3, h4, h5, h6, h7, h8⟩ := r
  exact er_of (v := .ref p2) (ev_fld hs (Rm_ex _ _ h1) c n rfl) h3
theorem sh_nodes (hs : σ[i]? = some (some v)) (r : (rSh C).p s v (Rm ps H)) (c : Cls K C) (n : NoAttr K C "_nodes") : EvR (rL rS) ps (tFld K (tVar i) "_nodes") σ H s.1.flatten := by
  obtain ⟨x, rfl, dx, p1, p2, p3, p4, p5, p6, kvs, h1, h2, h3, h4, h5, h6, h7, h8⟩ := r
  exact er_of (v := .ref p3) (ev_fld hs (Rm_ex _ _ h1) c n rfl) h4
/-- places, told -/
def rPl : Rp (List (List Str)) := ⟨fun ls v H => ∃ p kvs, v = .ref p ∧ H p = some (.dK kvs) ∧ PlOk kvs ls, fun e ⟨p, kvs, h1, h2, h3⟩ => ⟨p, kvs, h1, e _ _ h2, h3⟩⟩
theorem sh_places (hs : σ[i]? = some (some v)) (r : (rSh C).p s v (Rm ps H)) (c : Cls K C) (n : NoAttr K C "_places") : EvR rPl ps (tFld K (tVar i) "_places") σ H s.1 := by
  obtain ⟨x, rfl, dx, p1, p2, p3, p4, p5, p6, kvs, h1, h2, h3, h4, h5, h6, h7, h8⟩ := r
  exact er_of (v := .ref p4) (ev_fld hs (Rm_ex _ _ h1) c n rfl) ⟨p4, kvs, rfl, h5, h6⟩
theorem sh_ups (hs : σ[i]? = some (some v)) (r : (rSh C).p s v (Rm ps H)) (c : Cls K C) (n : NoAttr K C "_ups") : EvR (rEn s.1.flatten) ps (tFld K (tVar i) "_ups") σ H s.2 := by
  obtain ⟨x, rfl, dx, p1, p2, p3, p4, p5, p6, kvs, h1, h2, h3, h4, h5, h6, h7, h8⟩ := r
  exact er_of (v := .ref p5) (ev_fld hs (Rm_ex _ _ h1) c n rfl) ⟨p5, rfl, h7⟩
theorem sh_downs (hs : σ[i]? = some (some v)) (r : (rSh C).p s v (Rm ps H)) (c : Cls K C) (n : NoAttr K C "_downs") : EvR (rEn s.1.flatten) ps (tFld K (tVar i) "_downs") σ H (s.2.map swp) := by
  obtain ⟨x, rfl, dx, p1, p2, p3, p4, p5, p6, kvs, h1, h2, h3, h4, h5, h6, h7, h8⟩ := r
  exact er_of (v := .ref p6) (ev_fld hs (Rm_ex _ _ h1) c n rfl) ⟨p6, rfl, h8⟩
/-- no attribute of an object hides a method -/
def noHide (m : Str) : Bool := (shF 0 0 0 0 0 0).lookup m == none
theorem shF_lookup {p1 p2 p3 p4 p5 p6 : Addr} (h : ("_levels" : Str) ≠ m ∧ ("_lines" : Str) ≠ m ∧ ("_nodes" : Str) ≠ m ∧ ("_places" : Str) ≠ m ∧ ("_ups" : Str) ≠ m ∧ ("_downs" : Str) ≠ m) : (shF p1 p2 p3 p4 p5 p6).lookup m = none := by
  obtain ⟨h1, h2, h3, h4, h5, h6⟩ := h
  unfold shF
  simp [List.lookup, beq_eq_false_iff_ne.mpr h1.symm, beq_eq_false_iff_ne.mpr h2.symm, beq_eq_false_iff_ne.mpr h3.symm, beq_eq_false_iff_ne.mpr h4.symm, beq_eq_false_iff_ne.mpr h5.symm, beq_eq_false_iff_ne.mpr h6.symm]
abbrev NH (m : Str) : Prop := ("_levels" : Str) ≠ m ∧ ("_lines" : Str) ≠ m ∧ ("_nodes" : Str) ≠ m ∧ ("_places" : Str) ≠ m ∧ ("_ups" : Str) ≠ m ∧ ("_downs" : Str) ≠ m
theorem er_meth0 {f : Sht → γ} {Cd : Sht → Prop} (h : EvR (rSh C) ps ta σ H s) (hm : NH m) (hc : Cd s) : EvR T ps (tMeth C m (Sp1 (rSh C) T f Cd) [] E ta tNil) σ H (f s) := fun H1 e o Q q => h H1 e o _ fun v H2 e2 r => by
  have r' := r
  obtain ⟨x, rfl, dx, p1, p2, p3, p4, p5, p6, kvs, h1, _⟩ := r'
  exact ⟨x, dx, _, rfl, Rm_ex _ _ h1, shF_lookup hm, ps, _, s, rfl, o.ex e2, r, hc, fun w H3 e3 t => q w H3 (e2.trans e3) t⟩
theorem er_meth1 {f : Sht → α → γ} {Cd : Sht → α → Prop} (h : EvR (rSh C) ps ta σ H s) (h2 : EvR R ps tb σ H a) (hm : NH m) (hc : Cd s a) : EvR T ps (tMeth C m (Sp2 (rSh C) R T f Cd) [] E ta (tCons tb tNil)) σ H (f s a) := fun H1 e o Q q => h H1 e o _ fun v H2 e2 r => by
  have r' := r
  obtain ⟨x, rfl, dx, p1, p2, p3, p4, p5, p6, kvs, h1, _⟩ := r'
  exact ⟨x, dx, _, rfl, Rm_ex _ _ h1, shF_lookup hm, h2 H2 (e.trans e2) (o.ex e2) _ fun w H3 e3 r2 => ⟨ps, _, w, s, a, rfl, o.ex (e2.trans e3), (rSh C).m (Rm_mono e3) r, r2, hc, fun z H4 e4 t => q z H4 ((e2.trans e3).trans e4) t⟩⟩
theorem er_meth2 {f : Sht → α → β → γ} {Cd : Sht → α → β → Prop} (h : EvR (rSh C) ps ta σ H s) (h2 : EvR R ps tb σ H a) (h3 : EvR S ps tc σ H b) (hm : NH m) (hc : Cd s a b) : EvR T ps (tMeth C m (Sp3 (rSh C) R S T f Cd) [] E ta (tCons tb (tCons tc tNil))) σ H (f s a b) := fun H1 e o Q q => h H1 e o _ fun v H2 e2 r => by
  have r' := r
  obtain ⟨x, rfl, dx, p1, p2, p3, p4, p5, p6, kvs, h1, _⟩ := r'
  exact ⟨x, dx, _, rfl, Rm_ex _ _ h1, shF_lookup hm, h2 H2 (e.trans e2) (o.ex e2) _ fun w H3 e3 r2 => h3 H3 ((e.trans e2).trans e3) (o.ex (e2.trans e3)) _ fun z H4 e4 r3 =>
    ⟨ps, _, w, z, s, a, b, rfl, o.ex ((e2.trans e3).trans e4), (rSh C).m (Rm_mono (e3.trans e4)) r, R.m (Rm_mono e4) r2, r3, hc, fun y H5 e5 t => q y H5 (((e2.trans e3).trans e4).trans e5) t⟩⟩
/-- Sheet(levels, lines) -/
theorem make_end {H1 G : Hp} {va vb : V} {ls : List (List Str)} {es : List (Str × Str)} {Q : VK} (e0 : Ex G H1) (o : Own ps H1) (r1 : (rQ K (rQ K rS)).p ls va (Rm ps H1)) (r2 : (rQ K rE).p es vb (Rm ps H1)) (ok : Mk' ls es) (q : ∀ v H2, Ex H1 H2 → (rW G (rS_ K)).p (mkS ls es) v (Rm ps H2) → Q v H2) {x dx : Addr} (nx : H1 x = none) (nd : H1 dx = none) (ne : dx ≠ x) :
    spInit K [.ref x, va, vb] (upd (upd H1 dx (.own x)) x (.ins (shC K) dx [])) (fun v H2 => v = .non ∧ Q (.ref x) H2) E := by
  have e1 : Ex H1 (upd (upd H1 dx (.own x)) x (.ins (shC K) dx [])) := (Ex.new nd).trans (Ex.new (by rw [upd_ne ne.symm]; exact nx))
  have o1 := o.ex e1
  have nx' := o.nin nx
  have e2 : Ex (Rm ps H1) (Rm (x :: ps) (upd (upd H1 dx (.own x)) x (.ins (shC K) dx []))) := fun b ob hb => by
    have n : b ≠ x := fun z => by rw [z, Rm_none nx] at hb; cases hb
    exact Rm_get (e1 _ _ (Rm_ex _ _ hb)) (fun m => (List.mem_cons.mp m).elim n fun m => by rw [Rm_own m] at hb; cases hb)
  have e3 : Ex H1 (Rm [x] (upd (upd H1 dx (.own x)) x (.ins (shC K) dx []))) := fun b ob hb => Rm_get (e1 _ _ hb) fun m => by
    rw [List.mem_singleton.mp m, nx] at hb
    cases hb
  refine ⟨ps, x, dx, va, vb, ls, es, rfl, upd_same, o1.push upd_same, nx', (rQ K (rQ K rS)).m e2 r1, (rQ K rE).m e2 r2, ok.inok, fun H2 m2 o2 sh => ⟨rfl, q _ H2 (fun b ob hb => ?_) ⟨x, rfl, ?_⟩⟩⟩
  · have n : b ≠ x := fun z => by rw [z, nx] at hb; cases hb
    exact Rm_ex _ _ (m2 _ _ (Rm_get (e1 _ _ hb) (fun m => n (List.mem_singleton.mp m))))
  · obtain ⟨dx', p1, p2, p3, p4, p5, p6, kvs, h1, h2, h3, h4, h5, h6, h7, h8⟩ := sh
    have nn : Ex (Nw (Rm [x] (upd (upd H1 dx (.own x)) x (.ins (shC K) dx []))) H2) (Nw G (Rm ps H2)) := fun b u hb => by
      have hb1 := none_of e3 (Nw_none hb)
      exact Nw_get (Rm_get (Nw_ex _ _ hb) (o.nin hb1)) (none_of e0 hb1)
    exact ⟨dx', p1, p2, p3, p4, p5, p6, kvs, Nw_get (Rm_get h1 nx') (none_of e0 nx), (rL (rL rS)).m nn h2, (rL rE).m nn h3, (rL rS).m nn h4, nn _ _ h5, h6, h7.ex nn, h8.ex nn⟩
theorem rQ_imp {α : Type} {R R' : Rp α} {as : List α} {v : V} {H : Hp} (h : (rQ K R).p as v H) (k : ∀ x y, R.p x y H → R'.p x y H) : (rQ K R').p as v H := let ⟨a, vs, h1, h2, h3⟩ := h; ⟨a, vs, h1, h2, h3.imp fun _ _ q => k _ _ q⟩
theorem rLL_q {ls : List (List Str)} {v : V} {H : Hp} (h : (rL (rL rS)).p ls v H) : (rQ K (rQ K rS)).p ls v H := rQ_imp (rL_q h) fun _ _ r => rL_q r
theorem er_makeN {G : Hp} {ls : List (List Str)} {es : List (Str × Str)} (e0 : Ex G H) (h1 : EvR (rQ K (rQ K rS)) ps ta σ H ls) (h2 : EvR (rQ K rE) ps tb σ H es) (ok : Mk' ls es) : EvR (rW G (rS_ K)) ps (tMake (shC K) (spInit K) [] E (tCons ta (tCons tb tNil))) σ H (mkS ls es) := fun H0 e o Q q =>
  h1 H0 e o _ fun v H1 e1 r1 => h2 H1 (e.trans e1) (o.ex e1) _ fun w H2 e2 r2 x dx nx nd ne => make_end (((e0.trans e).trans e1).trans e2) (o.ex (e1.trans e2)) ((rQ K (rQ K rS)).m (Rm_mono e2) r1) r2 ok (fun z H3 e3 t => q z H3 ((e1.trans e2).trans e3) t) nx nd ne
theorem er_makeK {G : Hp} {ls : List (List Str)} {es : List (Str × Str)} (e0 : Ex G H) (h1 : EvR (rQ K (rQ K rS)) ps ta σ H ls) (h2 : EvR (rQ K rE) ps tb σ H es) (ok : Mk' ls es) : EvR (rW G (rS_ K)) ps (tMakeK (shC K) 2 (spInit K) (fun vs zs => vs ++ zs) E (tCons ta (tCons tb tNil))) σ H (mkS ls es) := fun H0 e o Q q =>
  h1 H0 e o _ fun v H1 e1 r1 => h2 H1 (e.trans e1) (o.ex e1) _ fun w H2 e2 r2 => ⟨rfl, fun x dx nx nd ne => make_end (((e0.trans e).trans e1).trans e2) (o.ex (e1.trans e2)) ((rQ K (rQ K rS)).m (Rm_mono e2) r1) r2 ok (fun z H3 e3 t => q z H3 ((e1.trans e2).trans e3) t) nx nd ne⟩
def H00 : Hp := fun _ => none
theorem ex00 {H : Hp} : Ex H00 H := fun _ _ z => nomatch z
theorem er_makeQ {ls : List (List Str)} {es : List (Str × Str)} (h1 : EvR (rQ K (rQ K rS)) ps ta σ H ls) (h2 : EvR (rQ K rE) ps tb σ H es) (ok : Mk' ls es) : EvR (rS_ K) ps (tMake (shC K) (spInit K) [] E (tCons ta (tCons tb tNil))) σ H (mkS ls es) := er_WN (er_makeN ex00 h1 h2 ok)
theorem er_make {ls : List (List Str)} {es : List (Str × Str)} (h1 : EvR (rL (rL rS)) ps ta σ H ls) (h2 : EvR (rL rE) ps tb σ H es) (ok : Mk' ls es) : EvR (rS_ K) ps (tMake (shC K) (spInit K) [] E (tCons ta (tCons tb tNil))) σ H (mkS ls es) :=
  er_makeQ (er_imp h1 fun _ _ r => rLL_q r) (er_imp h2 fun _ _ r => rL_q r) ok
theorem er_make1 {ls : List (List Str)} {dv : Addr} (hd : ∀ H, SqT K H dv []) (h1 : EvR (rL (rL rS)) ps ta σ H ls) (ok : Mk' ls []) : EvR (rS_ K) ps (tMake (shC K) (spInit K) [.ref dv] E (tCons ta tNil)) σ H (mkS ls []) := fun H0 e o Q q =>
  h1 H0 e o _ fun v H1 e1 r1 x dx nx nd ne => make_end (es := []) ex00 (o.ex e1) (rLL_q r1) ⟨dv, [], rfl, .inr (hd _), trivial⟩ ok (fun z H3 e3 t => q z H3 (e1.trans e3) (rW_r t)) nx nd ne
/-- promises that tell what is new since the call -/
def Sp1H (R : Rp α) (T : Hp → Rp γ) (f : α → γ) (C : α → Prop) : Sp := fun vs H Q _ => ∃ ps v a, vs = [v] ∧ Own ps H ∧ R.p a v (Rm ps H) ∧ C a ∧ ∀ w H', Ex H H' → (T H).p (f a) w (Rm ps H') → Q w H'
def Sp2H (R : Rp α) (S : Rp β) (T : Hp → Rp γ) (f : α → β → γ) (C : α → β → Prop) : Sp := fun vs H Q _ => ∃ ps v w a b, vs = [v, w] ∧ Own ps H ∧ R.p a v (Rm ps H) ∧ S.p b w (Rm ps H) ∧ C a b ∧ ∀ z H', Ex H H' → (T H).p (f a b) z (Rm ps H') → Q z H'
def Back (T : Hp → Rp γ) : Prop := ∀ G G' a v H, Ex G G' → (T G').p a v H → (T G).p a v H
theorem back_L : Back (fun G => rLN G R) := fun G G' as v H e ⟨a, vs, h1, h0, h2, h3⟩ => ⟨a, vs, h1, none_of e h0, h2, h3⟩
theorem back_LL : Back (fun G => rLN G (rLN G R)) := fun G G' as v H e ⟨a, vs, h1, h0, h2, h3⟩ => ⟨a, vs, h1, none_of e h0, h2, h3.imp fun x y q => back_L G G' x y H e q⟩
theorem er_meth0H {TH : Hp → Rp γ} {f : Sht → γ} {Cd : Sht → Prop} {G : Hp} (bk : Back TH) (e0 : Ex G H) (h : EvR (rSh C) ps ta σ H s) (hm : NH m) (hc : Cd s) : EvR (TH G) ps (tMeth C m (Sp1H (rSh C) TH f Cd) [] E ta tNil) σ H (f s) := fun H1 e o Q q => h H1 e o _ fun v H2 e2 r => by
  have r' := r
  obtain ⟨x, rfl, dx, p1, p2, p3, p4, p5, p6, kvs, h1, _⟩ := r'
  exact ⟨x, dx, _, rfl, Rm_ex _ _ h1, shF_lookup hm, ps, _, s, rfl, o.ex e2, r, hc, fun w H3 e3 t => q w H3 (e2.trans e3) (bk _ _ _ _ _ ((e0.trans e).trans e2) t)⟩
theorem er_meth1H {TH : Hp → Rp γ} {f : Sht → α → γ} {Cd : Sht → α → Prop} {G : Hp} (bk : Back TH) (e0 : Ex G H) (h : EvR (rSh C) ps ta σ H s) (h2 : EvR R ps tb σ H a) (hm : NH m) (hc : Cd s a) : EvR (TH G) ps (tMeth C m (Sp2H (rSh C) R TH f Cd) [] E ta (tCons tb tNil)) σ H (f s a) := fun H1 e o Q q => h H1 e o _ fun v H2 e2 r => by
  have r' := r
  obtain ⟨x, rfl, dx, p1, p2, p3, p4, p5, p6, kvs, h1, _⟩ := r'
  exact ⟨x, dx, _, rfl, Rm_ex _ _ h1, shF_lookup hm, h2 H2 (e.trans e2) (o.ex e2) _ fun w H3 e3 r2 => ⟨ps, _, w, s, a, rfl, o.ex (e2.trans e3), (rSh C).m (Rm_mono e3) r, r2, hc, fun z H4 e4 t => q z H4 ((e2.trans e3).trans e4) (bk _ _ _ _ _ (((e0.trans e).trans e2).trans e3) t)⟩⟩
/-- o.m(k = v) -/
theorem er_methK {TH : Hp → Rp γ} {f : Sht → α → γ} {Cd : Sht → α → Prop} {G : Hp} (bk : Back TH) (e0 : Ex G H) (h : EvR (rSh C) ps ta σ H s) (h2 : EvR R ps tb σ H a) (hm : NH m) (hc : Cd s a) : EvR (TH G) ps (tMethK C m 1 (Sp2H (rSh C) R TH f Cd) (fun vs zs => vs ++ zs) E ta (tCons tb tNil)) σ H (f s a) := fun H1 e o Q q => h H1 e o _ fun v H2 e2 r => by
  have r' := r
  obtain ⟨x, rfl, dx, p1, p2, p3, p4, p5, p6, kvs, h1, _⟩ := r'
  exact ⟨x, dx, _, rfl, Rm_ex _ _ h1, shF_lookup hm, h2 H2 (e.trans e2) (o.ex e2) _ fun w H3 e3 r2 => ⟨rfl, ps, _, w, s, a, rfl, o.ex (e2.trans e3), (rSh C).m (Rm_mono e3) r, r2, hc, fun z H4 e4 t => q z H4 ((e2.trans e3).trans e4) (bk _ _ _ _ _ (((e0.trans e).trans e2).trans e3) t)⟩⟩
end
end K12
set_option Elab.async false
set_option linter.all false
set_option maxRecDepth 100000
set_option maxHeartbeats 4000000
namespace K12
open PySem PySem.Spec PyProof.Rows L2 Evl Gen RP
section
variable {P : Program} {w : World} {K : PySem.W.Frag} {mg : Str → Option Value} {base : Heap} {fd : Nat → FuncData}
theorem er_lenL {α : Type} {R : Rp α} {ps : List Addr} {σ : L2.St} {H : Hp} {te : TE} {as : List α} (h : EvR (rQ K R) ps te σ H as) : EvR rI ps (tCB (fun xs H Q => ∃ x n, xs = [x] ∧ LenV K x H n ∧ Q (.int n) H) (tCons te tNil)) σ H (as.length : Int) := er_len (r := rLen K) h fun a vs H1 Q h q => len_rd h q
theorem er_toQ {α : Type} {R : Rp α} {ps : List Addr} {σ : L2.St} {H : Hp} {te : TE} {as : List α} (h : EvR (rL R) ps te σ H as) : EvR (rQ K R) ps te σ H as := er_imp h fun _ _ q => rL_q q
theorem er_N {ps : List Addr} {σ : L2.St} {H : Hp} {te : TE} {n : Nat} (h : EvR rN ps te σ H n) : EvR rI ps te σ H (n : Int) := er_impG h fun _ _ q => q
theorem er_toN {ps : List Addr} {σ : L2.St} {H : Hp} {te : TE} {n : Nat} (h : EvR rI ps te σ H (n : Int)) : EvR rN ps te σ H n := er_impG h fun _ _ q => q
theorem sc_sh_levels : FnScope ["self", "names"] ["self"] (defScope (shS 5)) := ⟨rfl, rfl, rfl, by decide +kernel, rfl, by decide +kernel, by decide +kernel⟩
theorem ok_sh_levels (T : Tx K mg fd) : FnOk P w K mg base CX0 1 (He.ma K (shC K) "levels") (fd 42) ["self"] (Sp1H (rS_ K) (fun G => rLN G (rLN G rS)) (fun s => s.1) Sok) := by
  refine (T.dm 42 5 "levels" "Sheet.levels" rfl).ok sc_sh_levels (fun vs H Q E h => ?len) (fun cdv A outer s H vs Q E hr h => ?body)
  case body =>
    refine ⟨_, (pss_one (ps_ret (pe_lc (own := [("names", 1)]) (g := gName 1) rfl sc_sh_levels.nd (pi_list (pe_fld (pv 0) rfl)) (blkOk_by (N := ["self", "names"]) (sc := (defScope (shS 5))) (own := [("names", 1)]) (by decide +kernel)) (fun _ _ _ _ _ => (pg_name (i := 1) sc_sh_levels.nd rfl (Or.inl rfl))) (fun _ _ _ _ _ => pts_nil) (fun _ _ _ _ _ => (pe_callTy (r := rListS K) call_list_of (by rfl) (T.fr 38 "list" rfl) (by decide +kernel) (pa_cons (pv 1) pa_nil)))))), ?_⟩
    obtain ⟨ps, v, s, rfl, o, r, ok, q⟩ := h
    refine s_retR o (er_is (er_lc1N (G := H) (R := rL rS) (S := rLN H rS) id (Ex.refl H) (wk_list (sh_levels (i := 0) rfl r T.cls (T.noat 56 "_levels" rfl))) (Nat.le_trans ok.h12 (by decide)) (fun _ => rfl) fun l hl qs v H1 eq _ _ r => er_listN eq (er_toQ (er_var rfl r))) (List.map_id _)) q
  case len =>
    obtain ⟨ps, v, s, rfl, _⟩ := h
    rfl
theorem sc_sh_lines : FnScope ["self"] ["self"] (defScope (shS 7)) := ⟨rfl, rfl, rfl, by decide +kernel, rfl, by decide +kernel, by decide +kernel⟩
theorem ok_sh_lines (T : Tx K mg fd) : FnOk P w K mg base CX0 1 (He.ma K (shC K) "lines") (fd 44) ["self"] (Sp1H (rS_ K) (fun G => rLN G rE) (fun s => s.2) Sok) := by
  refine (T.dm 44 7 "lines" "Sheet.lines" rfl).ok sc_sh_lines (fun vs H Q E h => ?len) (fun cdv A outer s H vs Q E hr h => ?body)
  case body =>
    refine ⟨_, (pss_one (ps_ret (pe_callTy (r := rListS K) call_list_of (by rfl) (T.fr 38 "list" rfl) (by decide +kernel) (pa_cons (pe_fld (pv 0) rfl) pa_nil)))), ?_⟩
    obtain ⟨ps, v, s, rfl, o, r, ok, q⟩ := h
    exact s_retR o (er_listN (Ex.refl H) (er_toQ (sh_lines (i := 0) rfl r T.cls (T.noat 57 "_lines" rfl)))) q
  case len =>
    obtain ⟨ps, v, s, rfl, _⟩ := h
    rfl
theorem sc_sh_len : FnScope ["self"] ["self"] (defScope (shS 15)) := ⟨rfl, rfl, rfl, by decide +kernel, rfl, by decide +kernel, by decide +kernel⟩
theorem ok_sh_len (T : Tx K mg fd) : FnOk P w K mg base CX0 1 (He.ma K (shC K) "__len__") (fd 51) ["self"] (Sp1 (rS_ K) rI (fun s => (s.1.length : Int)) Sok) := by
  refine (T.dm 51 15 "__len__" "Sheet.__len__" rfl).ok sc_sh_len (fun vs H Q E h => ?len) (fun cdv A outer s H vs Q E hr h => ?body)
  case body =>
    refine ⟨_, (pss_one (ps_ret (pe_callB call_len (by rfl) (T.fr 41 "len" rfl) (by decide +kernel) (pa_cons (pe_fld (pv 0) rfl) pa_nil)))), ?_⟩
    obtain ⟨ps, v, s, rfl, o, r, ok, q⟩ := h
    exact s_retR o (er_lenL (er_toQ (sh_levels (i := 0) rfl r T.cls (T.noat 56 "_levels" rfl)))) q
  case len =>
    obtain ⟨ps, v, s, rfl, _⟩ := h
    rfl
theorem er_lenO {ps : List Addr} {σ : L2.St} {H : Hp} {te : TE} {s : Sht} {E : XK} (h : EvR (rS_ K) ps te σ H s) (ok : Sok s) : EvR rI ps (tCB (rOwnLen (shC K) (Sp1 (rS_ K) rI (fun s => (s.1.length : Int)) Sok) [] E) (tCons te tNil)) σ H (s.1.length : Int) := er_cb1 h fun v H1 e o r Q q => by
  have r' := r
  obtain ⟨x, rfl, dx, p1, p2, p3, p4, p5, p6, kvs, h1, _⟩ := r'
  have h12 := ok.h12
  exact ⟨x, dx, _, rfl, Rm_ex _ _ h1, ps, _, s, rfl, o, r, ok, fun w H2 e2 t => ⟨(s.1.length : Int), t, by omega, by omega, q _ H2 e2 rfl⟩⟩
theorem ev_chain {σ : L2.St} {H : Hp} {ta tb tc : TE} {x y z : V} {r r' : R2} {a b : Bool} (h1 : Ev ta σ H x) (h2 : Ev tb σ H y) (h3 : Ev tc σ H z) (r1 : RV r x y H (.bl a)) (r2 : RV r' y z H (.bl b)) : Ev (tChain r r' ta tb tc) σ H (.bl (a && b)) := fun H1 e Q q =>
  h1 H1 e _ fun H2 e2 => h2 H2 (e.trans e2) _ fun H3 e3 => r1 H3 ((e.trans e2).trans e3) _ fun H4 e4 => ⟨a, rfl, by
    cases a with
    | true =>
      rw [if_pos rfl]
      exact h3 H4 (((e.trans e2).trans e3).trans e4) _ fun H5 e5 => r2 H5 ((((e.trans e2).trans e3).trans e4).trans e5) Q fun H6 e6 => q H6 ((((e2.trans e3).trans e4).trans e5).trans e6)
    | false =>
      rw [if_neg (by decide)]
      exact q H4 ((e2.trans e3).trans e4)⟩
theorem kint {H : Hp} {i : Int} : SpV (spV1 isI) [.int i] H (.bl true) := spV (Ky.int i) fun x z => nomatch z
theorem q_whenR {ps : List Addr} {σ : L2.St} {H : Hp} {D : Ends} {t : TT} {tu tz : TS} {b : Bool} (o : Own ps H) (h : EtR ps t σ H b) (h1 : b = true → ∀ H1, Ex H H1 → tu { D with nx := tz D } σ H1) (h2 : b = false → ∀ H1, Ex H H1 → tz D σ H1) : tSeq (tIfS t tu tNext) tz D σ H := q_when (evt_of o h) h1 h2
def isLv (s : Sht) (i : Int) : Bool := decide (0 ≤ i) && decide (i < (s.1.length : Int))
theorem sc_sh_is_level : FnScope ["self", "value"] ["self", "value"] (defScope (shS 31)) := ⟨rfl, rfl, rfl, by decide +kernel, rfl, by decide +kernel, by decide +kernel⟩
theorem ok_sh_is_level (T : Tx K mg fd) : FnOk P w K mg base CX0 3 (He.ma K (shC K) "_is_level") (fd 62) ["self", "value"] (Sp2 (rS_ K) rI rB isLv (fun s _ => Sok s)) := by
  refine (T.dm 62 31 "_is_level" "Sheet._is_level" rfl).ok sc_sh_is_level (fun vs H Q E h => ?len) (fun cdv A outer s H vs Q E hr h => ?body)
  case body =>
    refine ⟨_, (pss_one (ps_ret (pe_and (pe_call (ok_is_integer T) (hr.mono (by decide)) (by rfl) (T.gl 2 "is_integer" rfl) (T.df 0 4 "is_integer" rfl).kp ((T.df 0 4 "is_integer" rfl).binds (ps := ["value"]) fun _ _ _ _ _ _ us hl => match us, hl with | [_], _ => rfl) .nil pass0 (pa_cons (pv 1) pa_nil)) (pe_one (pe_chain op_le op_lt pe_int (pv 1) (pe_callB (call_ownLen (ok_sh_len T) (hr.mono (by decide)) (T.meth 71 "__len__" rfl) ((T.dm 51 15 "__len__" "Sheet.__len__" rfl).binds (ps := ["self"]) fun _ _ _ _ _ _ us hl => match us, hl with | [_], _ => rfl) .nil pass0) (by rfl) (T.fr 41 "len" rfl) (by decide +kernel) (pa_cons (pv 0) pa_nil))))))), ?_⟩
    obtain ⟨ps, v, w, s, a, rfl, o, r, ra, ok, q⟩ := h
    obtain rfl : w = .int a := ra
    exact s_retR o (er_B (ev_andV (a := true) (ev_call0 (ea_cons (ev_var rfl) ea_nil) kint) fun _ => ev_chain ev_c (ev_var rfl) (ev_I o (er_lenO (er_var rfl r) ok)) rv_I0 rv_I0)) q
  case len =>
    obtain ⟨ps, v, w, s, a, rfl, _⟩ := h
    rfl
theorem isLv_nat {s : Sht} {n : Nat} (h : n < s.1.length) : isLv s (n : Int) = true := by
  unfold isLv
  rw [decide_eq_true (by omega : (0 : Int) ≤ (n : Int)), decide_eq_true (by omega : (n : Int) < (s.1.length : Int))]
  rfl
/-- the check of a level's number -/
theorem et_isLv {ps : List Addr} {σ : L2.St} {H : Hp} {ta tb : TE} {s : Sht} {E : XK} {i : Int} (h : EvR (rS_ K) ps ta σ H s) (h2 : EvR rI ps tb σ H i) (ok : Sok s) : EvR rB ps (tMeth (shC K) "_is_level" (Sp2 (rS_ K) rI rB isLv (fun s _ => Sok s)) [] E ta (tCons tb tNil)) σ H (isLv s i) := er_meth1 h h2 (by decide +kernel) ok
def lvAt (s : Sht) (n : Nat) : List Str := s.1[n]?.getD []
theorem lvAt_get {s : Sht} {n : Nat} (h : n < s.1.length) : s.1[n]? = some (lvAt s n) := by
  unfold lvAt
  rw [List.getElem?_eq_getElem h]
  rfl
theorem sc_sh_level : FnScope ["self", "number"] ["self", "number"] (defScope (shS 6)) := ⟨rfl, rfl, rfl, by decide +kernel, rfl, by decide +kernel, by decide +kernel⟩
theorem ok_sh_level (T : Tx K mg fd) : FnOk P w K mg base CX0 4 (He.ma K (shC K) "level") (fd 43) ["self", "number"] (Sp2H (rS_ K) rN (fun G => rLN G rS) lvAt (fun s n => Sok s ∧ n < s.1.length)) := by
  refine (T.dm 43 6 "level" "Sheet.level" rfl).ok sc_sh_level (fun vs H Q E h => ?len) (fun cdv A outer s H vs Q E hr h => ?body)
  case body =>
    refine ⟨_, (pss_cons (ps_if (pt_not (pt_val (pe_meth (pv 0) T.cls (T.meth 82 "_is_level" rfl) (ok_sh_is_level T) (hr.mono (by decide)) ((T.dm 62 31 "_is_level" "Sheet._is_level" rfl).binds (ps := ["self", "value"]) fun _ _ _ _ _ _ us hl => match us, hl with | [_, _], _ => rfl) .nil pass0 (pa_cons (pv 1) pa_nil)))) (pss_one ps_never) pss_nil) (pss_one (ps_ret (pe_callTy (r := rListS K) call_list_of (by rfl) (T.fr 38 "list" rfl) (by decide +kernel) (pa_cons (pe_ix ix_list (pe_fld (pv 0) rfl) (pv 1) (fun _ _ => rfl)) pa_nil))))), ?_⟩
    obtain ⟨ps, v, w, s, a, rfl, o, r, ra, ok, q⟩ := h
    obtain rfl : w = .int (a : Int) := ra
    obtain ⟨ok, ha⟩ := ok
    refine q_whenR o (b := false) (et_is' (et_not' (et_B' (et_isLv (er_var rfl r) (er_var rfl rfl) ok))) (by rw [isLv_nat ha]; rfl)) (fun z => nomatch z) fun _ H1 e1 => ?_
    have r := (rS_ K).m (Rm_mono e1) r
    exact s_retR (o.ex e1) (er_listN e1 (er_toQ (er_ix (sh_levels (i := 0) rfl r T.cls (T.noat 56 "_levels" rfl)) (er_var rfl rfl) (lvAt_get ha)))) fun v H2 e2 t => q v H2 (e1.trans e2) t
  case len =>
    obtain ⟨ps, v, w, s, a, rfl, _⟩ := h
    rfl
def gapOf (s : Sht) (n : Nat) : List (Str × Str) := s.2.filter fun e => decide (e.1 ∈ lvAt s n)
theorem er_place {ps : List Addr} {σ : L2.St} {H : Hp} {td ty : TE} {ls : List (List Str)} {z : Str} {i : Nat} {a : List Str} (h : EvR rPl ps td σ H ls) (h2 : EvR rS ps ty σ H z) (hi : ls[i]? = some a) (hz : z ∈ a) : EvR rN ps (tDGet td ty) σ H i := fun H1 e o Q q =>
  h H1 e o _ fun v H2 e2 r => h2 H2 (e.trans e2) (o.ex e2) _ fun w H3 e3 r2 => by
    obtain ⟨p, kvs, rfl, h3, h4⟩ := r
    obtain rfl : w = .str z := r2
    have hg := DGet.k (k := .inr z) (e3 _ _ (Rm_ex _ _ h3))
    rw [h4.in_ i a z hi hz] at hg
    exact ⟨p, _, rfl, hg, q _ H3 (e2.trans e3) rfl⟩
/-- is_node(z, places) -/
theorem er_isnode {ps : List Addr} {σ : L2.St} {H : Hp} {ta td : TE} {ls : List (List Str)} {z : Str} {E : XK} (h2 : EvR rS ps ta σ H z) (h : EvR rPl ps td σ H ls) : EvR rB ps (tCall spNode [] E (tCons ta (tCons td tNil))) σ H (decide (z ∈ ls.flatten)) := fun H1 e o Q q =>
  h2 H1 e o _ fun w H2 e2 r2 => h H2 (e.trans e2) (o.ex e2) _ fun v H3 e3 r => by
    obtain ⟨p, kvs, rfl, h3, h4⟩ := r
    obtain rfl : w = .str z := r2
    refine ⟨z, p, kvs, rfl, Rm_ex _ _ h3, fun H4 e4 => ?_⟩
    rw [place_isSome h4]
    exact q _ H4 ((e2.trans e3).trans e4) rfl
theorem er_endsget {ps : List Addr} {σ : L2.St} {H : Hp} {td ty : TE} {ns : List Str} {es : List (Str × Str)} {z : Str} (h : EvR (rEn ns) ps td σ H es) (h2 : EvR rS ps ty σ H z) (hz : z ∈ ns) : EvR (rL rS) ps (tDGet td ty) σ H ((es.filter fun e => decide (e.1 = z)).map fun e => e.2) := fun H1 e o Q q =>
  h H1 e o _ fun v H2 e2 r => h2 H2 (e.trans e2) (o.ex e2) _ fun w H3 e3 r2 => by
    obtain ⟨p, rfl, f, h3, h4⟩ := r
    obtain rfl : w = .str z := r2
    have hg := DGet.k (k := .inr z) (e3 _ _ (Rm_ex _ _ h3))
    rw [refs_in hz] at hg
    refine ⟨p, _, rfl, hg, q _ H3 (e2.trans e3) (rLS_of ?_)⟩
    rw [List.map_map]
    exact Rm_mono e3 _ _ (h4 z hz)
theorem sc_sh_gap : FnScope ["self", "number", "line"] ["self", "number"] (defScope (shS 8)) := ⟨rfl, rfl, rfl, by decide +kernel, rfl, by decide +kernel, by decide +kernel⟩
theorem ok_sh_gap (T : Tx K mg fd) : FnOk P w K mg base CX0 4 (He.ma K (shC K) "gap") (fd 45) ["self", "number"] (Sp2H (rS_ K) rN (fun G => rLN G rE) gapOf (fun s n => Sok s ∧ n + 1 < s.1.length)) := by
  refine (T.dm 45 8 "gap" "Sheet.gap" rfl).ok sc_sh_gap (fun vs H Q E h => ?len) (fun cdv A outer s H vs Q E hr h => ?body)
  case body =>
    refine ⟨_, (pss_cons (ps_if (PW.pt (pw_or (pt_not (pt_val (pe_meth (pv 0) T.cls (T.meth 82 "_is_level" rfl) (ok_sh_is_level T) (hr.mono (by decide)) ((T.dm 62 31 "_is_level" "Sheet._is_level" rfl).binds (ps := ["self", "value"]) fun _ _ _ _ _ _ us hl => match us, hl with | [_, _], _ => rfl) .nil pass0 (pa_cons (pv 1) pa_nil)))) (pw_or1 (pt_cmpR op_eq (pv 1) (pe_op op_sub (pe_callB (call_ownLen (ok_sh_len T) (hr.mono (by decide)) (T.meth 71 "__len__" rfl) ((T.dm 51 15 "__len__" "Sheet.__len__" rfl).binds (ps := ["self"]) fun _ _ _ _ _ _ us hl => match us, hl with | [_], _ => rfl) .nil pass0) (by rfl) (T.fr 41 "len" rfl) (by decide +kernel) (pa_cons (pv 0) pa_nil)) pe_int) (nomark _))))) (pss_one ps_never) pss_nil) (pss_one (ps_ret (pe_lc (own := [("line", 2)]) (g := gName 2) rfl sc_sh_gap.nd (pi_list (pe_fld (pv 0) rfl)) (blkOk_by (N := ["self", "number", "line"]) (sc := (defScope (shS 8))) (own := [("line", 2)]) (by decide +kernel)) (fun _ _ _ _ _ => (pg_name (i := 2) sc_sh_gap.nd rfl (Or.inl rfl))) (fun _ _ _ _ _ => (pts_one (pt_cmpR op_eq (pe_dget (u1 hr.units) (pe_fldK (K := K) rfl (pv 0) rfl) (pe_ix (r := rIxT K) ix_tup (pv 2) pe_int (fun _ _ => rfl)) (fun _ _ => rfl)) (pv 1) (nomark _)))) (fun _ _ _ _ _ => (pv 2)))))), ?_⟩
    obtain ⟨ps, v, w, s, a, rfl, o, r, ra, ok, q⟩ := h
    obtain rfl : w = .int (a : Int) := ra
    obtain ⟨ok, ha⟩ := ok
    refine q_whenR o (b := false) (et_is' (et_or' (et_not' (et_B' (et_isLv (er_var rfl r) (er_var rfl rfl) ok))) fun _ => et_test' (er_B (ev_op (ev_var rfl) (ev_op (ev_I o (er_lenO (er_var rfl r) ok)) ev_c rv_I0) (rv_eq rfl)))) ?_) (fun z => nomatch z) fun _ H1 e1 => ?_
    · rw [isLv_nat (by omega)]
      refine decide_eq_false fun z => ?_
      injection z with z
      omega
    have r := (rS_ K).m (Rm_mono e1) r
    refine s_retR (o.ex e1) (er_is (er_lc1FN (G := H) (R := rE) (S := rE) id (fun e => decide (e.1 ∈ lvAt s a)) e1 (wk_list (sh_lines (i := 0) rfl r T.cls (T.noat 57 "_lines" rfl))) (Nat.le_trans ok.z (by decide)) (fun _ => rfl) (fun e he qs v H2 e2 o2 x2 r2 => ?_) fun e he _ qs v H2 _ _ _ r2 => er_var rfl r2) (List.map_id _)) fun v H2 e2 t => q v H2 (e1.trans e2) t
    have r := (rS_ K).m x2 r
    obtain ⟨i, b, c, h1, h2, h3, h4⟩ := ok.fit e he
    refine et_is' (et_test' (er_B (ev_op (ev_I o2 (er_N (er_place (sh_places (i := 0) rfl r T.cls (T.noat 59 "_places" rfl)) (er_fst (er_var (i := 2) rfl r2) (er_I ev_c)) h1 h3))) (ev_var rfl) (rv_eq rfl)))) ?_
    by_cases hi : i = a
    · subst hi
      have h5 := lvAt_get (show i < s.1.length by omega)
      rw [h1] at h5
      rw [← Option.some.inj h5, decide_eq_true h3]
      exact decide_eq_true rfl
    · rw [decide_eq_false fun z => hi (by injection z with z; omega), decide_eq_false fun z => hi (apart ok.lv.once h1 (lvAt_get (by omega)) h3 z)]
  case len =>
    obtain ⟨ps, v, w, s, a, rfl, _⟩ := h
    rfl
/-- the level of a node -/
def lvlOf (s : Sht) (z : Str) : Nat := s.1.findIdx fun l => decide (z ∈ l)
theorem lvlOf_get {s : Sht} {z : Str} (h : z ∈ s.1.flatten) : ∃ a, s.1[lvlOf s z]? = some a ∧ z ∈ a := by
  obtain ⟨l, h1, h2⟩ := List.mem_flatten.mp h
  have h3 : lvlOf s z < s.1.length := List.findIdx_lt_length_of_exists ⟨l, h1, decide_eq_true h2⟩
  refine ⟨s.1[lvlOf s z], List.getElem?_eq_getElem h3, ?_⟩
  have := List.findIdx_getElem (xs := s.1) (p := fun l => decide (z ∈ l)) (w := h3)
  exact of_decide_eq_true this
def inSh (s : Sht) (z : Str) : Bool := decide (z ∈ s.1.flatten)
def abOf (s : Sht) (z : Str) : List Str := (s.2.filter fun e => decide (e.1 = z)).map fun e => e.2
def beOf (s : Sht) (z : Str) : List Str := (s.2.filter fun e => decide (e.2 = z)).map fun e => e.1
theorem be_swp {s : Sht} {z : Str} : (((s.2.map swp).filter fun e => decide (e.1 = z)).map fun e => e.2) = beOf s z := by
  unfold beOf
  rw [List.filter_map, List.map_map]
  rfl
theorem sc_sh_level_of : FnScope ["self", "node"] ["self", "node"] (defScope (shS 9)) := ⟨rfl, rfl, rfl, by decide +kernel, rfl, by decide +kernel, by decide +kernel⟩
theorem ok_sh_level_of (T : Tx K mg fd) : FnOk P w K mg base CX0 2 (He.ma K (shC K) "level_of") (fd 46) ["self", "node"] (Sp2H (rS_ K) rS (fun _ => rN) lvlOf (fun s z => Sok s ∧ z ∈ s.1.flatten)) := by
  refine (T.dm 46 9 "level_of" "Sheet.level_of" rfl).ok sc_sh_level_of (fun vs H Q E h => ?len) (fun cdv A outer s H vs Q E hr h => ?body)
  case body =>
    refine ⟨_, (pss_cons (ps_if (pt_not (pt_val (pe_call (ok_is_node T) (hr.mono (by decide)) (by rfl) (T.gl 7 "is_node" rfl) (T.df 5 25 "is_node" rfl).kp ((T.df 5 25 "is_node" rfl).binds (ps := ["value", "places"]) fun _ _ _ _ _ _ us hl => match us, hl with | [_, _], _ => rfl) .nil pass0 (pa_cons (pv 1) (pa_cons (pe_fld (pv 0) rfl) pa_nil))))) (pss_one ps_never) pss_nil) (pss_one (ps_ret (pe_dget (u1 hr.units) (pe_fld (pv 0) rfl) (pv 1) (fun _ _ => rfl))))), ?_⟩
    obtain ⟨ps, v, w, s, a, rfl, o, r, ra, ok, q⟩ := h
    obtain rfl : w = .str a := ra
    obtain ⟨ok, ha⟩ := ok
    refine q_whenR o (b := false) (et_is' (et_not' (et_B' (er_isnode (er_var rfl rfl) (sh_places (i := 0) rfl r T.cls (T.noat 59 "_places" rfl))))) (by rw [decide_eq_true ha]; rfl)) (fun z => nomatch z) fun _ H1 e1 => ?_
    have r := (rS_ K).m (Rm_mono e1) r
    obtain ⟨b, h1, h2⟩ := lvlOf_get ha
    exact s_retR (o.ex e1) (er_place (sh_places (i := 0) rfl r T.cls (T.noat 59 "_places" rfl)) (er_var rfl rfl) h1 h2) fun v H2 e2 t => q v H2 (e1.trans e2) t
  case len =>
    obtain ⟨ps, v, w, s, a, rfl, _⟩ := h
    rfl
theorem sc_sh_above : FnScope ["self", "node"] ["self", "node"] (defScope (shS 10)) := ⟨rfl, rfl, rfl, by decide +kernel, rfl, by decide +kernel, by decide +kernel⟩
theorem ok_sh_above (T : Tx K mg fd) : FnOk P w K mg base CX0 2 (He.ma K (shC K) "above") (fd 47) ["self", "node"] (Sp2H (rS_ K) rS (fun G => rLN G rS) abOf (fun s z => Sok s ∧ z ∈ s.1.flatten)) := by
  refine (T.dm 47 10 "above" "Sheet.above" rfl).ok sc_sh_above (fun vs H Q E h => ?len) (fun cdv A outer s H vs Q E hr h => ?body)
  case body =>
    refine ⟨_, (pss_cons (ps_if (pt_not (pt_val (pe_call (ok_is_node T) (hr.mono (by decide)) (by rfl) (T.gl 7 "is_node" rfl) (T.df 5 25 "is_node" rfl).kp ((T.df 5 25 "is_node" rfl).binds (ps := ["value", "places"]) fun _ _ _ _ _ _ us hl => match us, hl with | [_, _], _ => rfl) .nil pass0 (pa_cons (pv 1) (pa_cons (pe_fld (pv 0) rfl) pa_nil))))) (pss_one ps_never) pss_nil) (pss_one (ps_ret (pe_callTy (r := rListS K) call_list_of (by rfl) (T.fr 38 "list" rfl) (by decide +kernel) (pa_cons (pe_dget (u1 hr.units) (pe_fld (pv 0) rfl) (pv 1) (fun _ _ => rfl)) pa_nil))))), ?_⟩
    obtain ⟨ps, v, w, s, a, rfl, o, r, ra, ok, q⟩ := h
    obtain rfl : w = .str a := ra
    obtain ⟨ok, ha⟩ := ok
    refine q_whenR o (b := false) (et_is' (et_not' (et_B' (er_isnode (er_var rfl rfl) (sh_places (i := 0) rfl r T.cls (T.noat 59 "_places" rfl))))) (by rw [decide_eq_true ha]; rfl)) (fun z => nomatch z) fun _ H1 e1 => ?_
    have r := (rS_ K).m (Rm_mono e1) r
    exact s_retR (o.ex e1) (er_listN e1 (er_toQ (er_endsget (sh_ups (i := 0) rfl r T.cls (T.noat 60 "_ups" rfl)) (er_var rfl rfl) ha))) fun v H2 e2 t => q v H2 (e1.trans e2) t
  case len =>
    obtain ⟨ps, v, w, s, a, rfl, _⟩ := h
    rfl
theorem sc_sh_below : FnScope ["self", "node"] ["self", "node"] (defScope (shS 11)) := ⟨rfl, rfl, rfl, by decide +kernel, rfl, by decide +kernel, by decide +kernel⟩
theorem ok_sh_below (T : Tx K mg fd) : FnOk P w K mg base CX0 2 (He.ma K (shC K) "below") (fd 48) ["self", "node"] (Sp2H (rS_ K) rS (fun G => rLN G rS) beOf (fun s z => Sok s ∧ z ∈ s.1.flatten)) := by
  refine (T.dm 48 11 "below" "Sheet.below" rfl).ok sc_sh_below (fun vs H Q E h => ?len) (fun cdv A outer s H vs Q E hr h => ?body)
  case body =>
    refine ⟨_, (pss_cons (ps_if (pt_not (pt_val (pe_call (ok_is_node T) (hr.mono (by decide)) (by rfl) (T.gl 7 "is_node" rfl) (T.df 5 25 "is_node" rfl).kp ((T.df 5 25 "is_node" rfl).binds (ps := ["value", "places"]) fun _ _ _ _ _ _ us hl => match us, hl with | [_, _], _ => rfl) .nil pass0 (pa_cons (pv 1) (pa_cons (pe_fld (pv 0) rfl) pa_nil))))) (pss_one ps_never) pss_nil) (pss_one (ps_ret (pe_callTy (r := rListS K) call_list_of (by rfl) (T.fr 38 "list" rfl) (by decide +kernel) (pa_cons (pe_dget (u1 hr.units) (pe_fld (pv 0) rfl) (pv 1) (fun _ _ => rfl)) pa_nil))))), ?_⟩
    obtain ⟨ps, v, w, s, a, rfl, o, r, ra, ok, q⟩ := h
    obtain rfl : w = .str a := ra
    obtain ⟨ok, ha⟩ := ok
    refine q_whenR o (b := false) (et_is' (et_not' (et_B' (er_isnode (er_var rfl rfl) (sh_places (i := 0) rfl r T.cls (T.noat 59 "_places" rfl))))) (by rw [decide_eq_true ha]; rfl)) (fun z => nomatch z) fun _ H1 e1 => ?_
    have r := (rS_ K).m (Rm_mono e1) r
    exact s_retR (o.ex e1) (er_is (er_listN e1 (er_toQ (er_endsget (sh_downs (i := 0) rfl r T.cls (T.noat 61 "_downs" rfl)) (er_var rfl rfl) ha))) be_swp) fun v H2 e2 t => q v H2 (e1.trans e2) t
  case len =>
    obtain ⟨ps, v, w, s, a, rfl, _⟩ := h
    rfl
end
end K12
set_option Elab.async false
set_option linter.all false
set_option maxRecDepth 100000
set_option maxHeartbeats 4000000
/-! data of any kind, as what values stand for -/
namespace RP
open PySem PySem.Spec PyProof.Rows L2 Evl Gen
mutual
inductive Dv (H : Hp) : V → PyData → Prop
  | non : Dv H .non .none
  | bl (b : Bool) : Dv H (.bl b) (.bool b)
  | int (i : Int) : Dv H (.int i) (.int i)
  | str (x : Str) : Dv H (.str x) (.str x)
  | lst {a : Addr} {xs : List V} {ds : List PyData} : H a = some (.lst xs) → DvAll H xs ds → Dv H (.ref a) (.list ds)
  | tup {a : Addr} {xs : List V} {ds : List PyData} : H a = some (.tup xs) → DvAll H xs ds → Dv H (.ref a) (.tuple ds)
  | dic {a : Addr} : H a = some (.dK []) → Dv H (.ref a) (.dict [])
inductive DvAll (H : Hp) : List V → List PyData → Prop
  | nil : DvAll H [] []
  | cons {v : V} {vs : List V} {d : PyData} {ds : List PyData} : Dv H v d → DvAll H vs ds → DvAll H (v :: vs) (d :: ds)
end
mutual
theorem Dv.ex {H H' : Hp} (e : Ex H H') : ∀ {v : V} {d : PyData}, Dv H v d → Dv H' v d
  | _, _, .non => .non
  | _, _, .bl b => .bl b
  | _, _, .int i => .int i
  | _, _, .str x => .str x
  | _, _, .lst h1 h2 => .lst (e _ _ h1) (DvAll.ex e h2)
  | _, _, .tup h1 h2 => .tup (e _ _ h1) (DvAll.ex e h2)
  | _, _, .dic h1 => .dic (e _ _ h1)
theorem DvAll.ex {H H' : Hp} (e : Ex H H') : ∀ {vs : List V} {ds : List PyData}, DvAll H vs ds → DvAll H' vs ds
  | _, _, .nil => .nil
  | _, _, .cons h1 h2 => .cons (Dv.ex e h1) (DvAll.ex e h2)
end
mutual
theorem Dv.dq {K : PySem.W.Frag} {H : Hp} : ∀ {v : V} {d : PyData}, Dv H v d → Dq K H v d
  | _, _, .non => .non
  | _, _, .bl b => .bl b
  | _, _, .int i => .int i
  | _, _, .str x => .str x
  | _, _, .lst h1 h2 => .lst (sq_of h1) (DvAll.dq h2)
  | _, _, .tup h1 h2 => .tup (st_of h1) (DvAll.dq h2)
  | _, _, .dic h1 => .dic h1 rfl .nil
theorem DvAll.dq {K : PySem.W.Frag} {H : Hp} : ∀ {vs : List V} {ds : List PyData}, DvAll H vs ds → DqAll K H vs ds
  | _, _, .nil => .nil
  | _, _, .cons h1 h2 => .cons (Dv.dq h1) (DvAll.dq h2)
end
theorem Dv.ky {H : Hp} {v : V} {d : PyData} (h : Dv H v d) : ∃ t, Ky H v t := by
  cases h with
  | non => exact ⟨_, .non⟩
  | bl b => exact ⟨_, .bl b⟩
  | int i => exact ⟨_, .int i⟩
  | str x => exact ⟨_, .str x⟩
  | lst h _ => exact ⟨_, .lst h⟩
  | tup h _ => exact ⟨_, .tup h⟩
  | dic h => exact ⟨_, .dic h⟩
theorem DvAll.of {H : Hp} {ds : List PyData} {vs : List V} (h : All2 (fun d v => Dv H v d) ds vs) : DvAll H vs ds := by
  induction ds generalizing vs with
  | nil => cases vs with
    | nil => exact .nil
    | cons _ _ => exact h.elim
  | cons d r ih => cases vs with
    | nil => exact h.elim
    | cons v s => exact .cons h.1 (ih h.2)
theorem DvAll.all {H : Hp} {ds : List PyData} {vs : List V} (h : DvAll H vs ds) : All2 (fun d v => Dv H v d) ds vs := by
  induction ds generalizing vs with
  | nil => cases h; trivial
  | cons d r ih => cases h with | cons h1 h2 => exact ⟨h1, ih h2⟩
def rDv : Rp PyData := ⟨fun d v H => Dv H v d, fun e h => h.ex e⟩
/-- a rep that is data -/
structure As {α : Type} (R : Rp α) (f : α → PyData) : Prop where
  to : ∀ {a v H}, R.p a v H → Dv H v (f a)
section
variable {α β : Type} {R : Rp α} {S : Rp β} {f : α → PyData} {g : β → PyData} {K : PySem.W.Frag} {ps : List Addr} {σ : L2.St} {H : Hp} {te : TE} {a : α} {d : PyData} {n : Nat}
theorem asS : As rS PyData.str := ⟨fun h => by cases h; exact .str _⟩
theorem asN : As rN (fun n : Nat => PyData.int (n : Int)) := ⟨fun h => by cases h; exact .int _⟩
theorem asI : As rI PyData.int := ⟨fun h => by cases h; exact .int _⟩
theorem asB : As rB PyData.bool := ⟨fun h => by cases h; exact .bl _⟩
theorem asD : As rDv id := ⟨fun h => h⟩
theorem all_as (h : As R f) : ∀ {as : List α} {vs : List V} {H : Hp}, All2 (fun x y => R.p x y H) as vs → DvAll H vs (as.map f)
  | [], [], _, _ => .nil
  | _ :: _, _ :: _, _, q => .cons (h.to q.1) (all_as h q.2)
  | [], _ :: _, _, q => q.elim
  | _ :: _, [], _, q => q.elim
theorem asL (h : As R f) : As (rL R) (fun as => PyData.list (as.map f)) := ⟨fun ⟨a, vs, h1, h2, h3⟩ => by subst h1; exact .lst h2 (all_as h h3)⟩
theorem asP (h : As R f) (k : As S g) : As (rP R S) (fun x => PyData.tuple [f x.1, g x.2]) := ⟨fun ⟨a, y, z, h1, h2, h3, h4⟩ => by subst h1; exact .tup h2 (.cons (h.to h3) (.cons (k.to h4) .nil))⟩
theorem asE : As rE (fun e => PyData.tuple [.str e.1, .str e.2]) := asP asS asS
theorem er_dv (h : EvR R ps te σ H a) (k : As R f) : EvR rDv ps te σ H (f a) := er_impG h fun _ _ r => k.to r
theorem er_dvL {as : List α} (h : EvR (rL R) ps te σ H as) (k : As R f) : EvR (rL rDv) ps te σ H (as.map f) := er_impG h fun v H1 ⟨a, vs, h1, h2, h3⟩ => ⟨a, vs, h1, h2, (all_as k h3).all⟩
/-- [e, ..], told as data -/
theorem er_lstD {ds : List PyData} {tr : TA} (h : EaR rDv ps tr σ H ds) (hl : ds.length ≤ 100000) : EvR rDv ps (tLst tr) σ H (.list ds) := er_impG (er_lst h hl) fun v H1 ⟨a, vs, h1, h2, h3⟩ => by subst h1; exact .lst h2 (.of h3)
/-- repr of data -/
theorem er_reprD (h : EvR rDv ps te σ H d) (h1 : d.showable = true) (h2 : d.depth ≤ 40) (h3 : d.shown.length ≤ sizeLine) : EvR rS ps (tCB (rRepr K) (tCons te tNil)) σ H d.shown := er_cb1 h fun v H1 e o r Q q =>
  ⟨v, d, rfl, dq_ex Rm_ex (Dv.dq r), h1, h2, h3, q _ H1 (Ex.refl _) rfl⟩
end
end RP
set_option Elab.async false
set_option linter.all false
set_option maxRecDepth 100000
set_option maxHeartbeats 4000000
/-! x == v, x of a class with an own __eq__, v of a built-in kind -/
namespace L2
open PySem PySem.Spec PyProof.Rows Gen Evl RP
section
variable {X : Cx} {CX : CXT} {k : Nat} {f C : Addr} {fd : FuncData} {ps : List Str} {sp : Sp} {E : XK}
theorem sub_non {K : PySem.W.Frag} : PySem.W.subIn K (.type "NoneType") (.ref C) = some false := by with_unfolding_all rfl
theorem sub_bool {K : PySem.W.Frag} : PySem.W.subIn K (.type "bool") (.ref C) = some false := by with_unfolding_all rfl
theorem sub_int {K : PySem.W.Frag} : PySem.W.subIn K (.type "int") (.ref C) = some false := by with_unfolding_all rfl
theorem sub_str {K : PySem.W.Frag} : PySem.W.subIn K (.type "str") (.ref C) = some false := by with_unfolding_all rfl
theorem sub_list {K : PySem.W.Frag} : PySem.W.subIn K (.type "list") (.ref C) = some false := by with_unfolding_all rfl
theorem sub_tuple {K : PySem.W.Frag} : PySem.W.subIn K (.type "tuple") (.ref C) = some false := by with_unfolding_all rfl
theorem sub_dict {K : PySem.W.Frag} : PySem.W.subIn K (.type "dict") (.ref C) = some false := by with_unfolding_all rfl
theorem kyNotFirst {K : PySem.W.Frag} {H : Hp} {v : V} {t : String} (h : Ky H v t) : PySem.W.notFirst K C (.type t) = true := by
  unfold PySem.W.notFirst
  rw [Bool.or_eq_true]
  refine .inr ?_
  cases h with
  | non => rw [sub_non]; rfl
  | bl _ => rw [sub_bool]; rfl
  | int _ => rw [sub_int]; rfl
  | str _ => rw [sub_str]; rfl
  | lst _ => rw [sub_list]; rfl
  | tup _ => rw [sub_tuple]; rfl
  | dic _ => rw [sub_dict]; rfl
theorem kyLooks {pins : List (Addr × Obj)} {σ : L2.St} {H : Hp} {s : Shared} {v : V} {u : Value} {t : String} (I : Inv X pins σ H s) (r : RelV v u) (h : Ky H v t) : PySem.W.Looks (model X.prog X.w) s.heap (typeOf u) (.type t) := by
  cases h with
  | non => cases r; exact .of_pure rfl
  | bl _ => cases r; exact .of_pure rfl
  | int _ => obtain ⟨t, rfl⟩ := r; exact .of_pure rfl
  | str _ => obtain ⟨t, rfl⟩ := r; exact .of_pure rfl
  | @lst a xs h =>
    cases r
    obtain ⟨its, rv, ⟨o, n, ho, hc, _⟩, _⟩ := I.list (sq_of h)
    have z : PySem.W.Looks (model X.prog X.w) s.heap (typeOf (.ref a)) o.cls := (PySem.W.Looks.ld ho).andThen .now
    rw [hc] at z
    exact z
  | @tup a xs h => cases r; exact tup_ty I (st_of h)
  | @dic a kvs h =>
    cases r
    obtain ⟨_, hsys, vs, rkv, o, es, ep, ho, hx, _⟩ := (show ObjOk X.prog X.w H s.heap a (.dK kvs) from I.hok a _ h)
    have z : PySem.W.Looks (model X.prog X.w) s.heap (typeOf (.ref a)) o.cls := (PySem.W.Looks.ld ho).andThen .now
    rw [hx.1] at z
    exact z
def rOwnEqX (C : Addr) (sp : Sp) (E : XK) : R2 := fun x y H Q => ∃ a dx fs t, x = .ref a ∧ H a = some (.ins C dx fs) ∧ Ky H y t ∧ sp [x, y] H (fun v H' => ∃ c, v = .bl c ∧ Q (.bl c) H') E
theorem op_ownEqX (F : FnOk X.prog X.w X.K X.mg X.base CX k f fd ps sp) (hr : Room k X.A) (hm : Meth X.K C "__eq__" f) (hb : Binds X.K fd ps []) (hx : Passes CX X E) : OpR X (compareOp .Eq) (rOwnEqX C sp E) := by
  intro pins s σ H x y v u Q I rx ry h
  obtain ⟨a, dx, fs, t, rfl, ea, ky, q⟩ := h
  cases rx
  obtain ⟨oa, Ja⟩ := inst_of I ea
  obtain ⟨_, fr⟩ := I.fr
  refine PySem.W.cmp_K (op := .Eq) (tb := .type t) hr.units0 fr I.ok.mod.kin Ja (kyLooks I ry ky) (kyNotFirst ky) hm.at_ hm.fn ?_
  refine wpAny_mono (run_fn (us := [.ref a, u]) (vs := [.ref a, y]) F hr hb .nil hx I (.cons rfl (.cons ry .nil)) q) (fun w' s' z => ?_) fun _ _ z => z
  obtain ⟨v', H', I', r, c, rfl, q'⟩ := z
  cases r
  exact ⟨.bl c, H', I', rfl, q'⟩
end
end L2
set_option Elab.async false
set_option linter.all false
set_option maxRecDepth 100000
set_option maxHeartbeats 4000000
namespace K12
open PySem PySem.Spec PyProof.Rows L2 Evl Gen RP
section
variable {P : Program} {w : World} {K : PySem.W.Frag} {mg : Str → Option Value} {base : Heap} {fd : Nat → FuncData}
theorem bi3 (T : Tx K mg fd) : Binds K (fd 41) ["self", "levels", "lines"] [] := by
  obtain ⟨ds, r, b⟩ := (T.ds 41 3 rfl).binds1 (ps := ["self", "levels", "lines"]) 3 1 (by simp) rfl (fun Tt kV doc pm an cdv ct us its h1 h2 => match us, its, h1, h2 with | [_, _, _], [_], _, _ => ⟨_, rfl, rfl⟩)
  cases r
  exact b
theorem bi2 (T : Tx K mg fd) : ∃ ds, Vals [V.ref (He.dflAt ("Sheet", some "__init__") 0 K)] ds ∧ Binds K (fd 41) ["self", "levels", "lines"] ds :=
  (T.ds 41 3 rfl).binds1 (ps := ["self", "levels", "lines"]) 2 0 (by simp) rfl (fun Tt kV doc pm an cdv ct us its h1 h2 => match us, its, h1, h2 with | [_, _], [_], _, _ => ⟨_, rfl, rfl⟩)
theorem inV_str {ns : List Str} {x : Str} : inV (.str x) (ns.map V.str) = decide (x ∈ ns) := by
  unfold inV
  rw [Bool.eq_iff_iff, List.any_eq_true, decide_eq_true_eq]
  constructor
  · rintro ⟨v, hv, h⟩
    obtain ⟨y, hy, rfl⟩ := List.mem_map.mp hv
    have : y = x := by
      have h2 : decide (y = x) = true := h
      exact of_decide_eq_true h2
    rw [← this]
    exact hy
  · intro h
    exact ⟨.str x, List.mem_map.mpr ⟨x, h, rfl⟩, decide_eq_true rfl⟩
theorem flat_strs : ∀ ns : List Str, (ns.map V.str).all flatV = true
  | [] => rfl
  | _ :: r => flat_strs r
theorem s_whenR {ps : List Addr} {σ : L2.St} {H : Hp} {D : Ends} {t : TT} {tu : TS} {b : Bool} (o : Own ps H) (h : EtR ps t σ H b) (h1 : b = true → ∀ H1, Ex H H1 → tu D σ H1) (h2 : b = false → ∀ H1, Ex H H1 → D.nx σ H1) : tIfS t tu tNext D σ H := s_when (evt_of o h) h1 h2
theorem er_islist {α : Type} {R : Rp α} {ps : List Addr} {σ : L2.St} {H : Hp} {ta : TE} {as : List α} {E : XK} (h : EvR (rQ K R) ps ta σ H as) : EvR rB ps (tCall (spIsList K) [] E (tCons ta tNil)) σ H true := fun H1 e o Q q => h H1 e o _ fun v H2 e2 r => by
  obtain ⟨a, vs, rfl, h1, _⟩ := r
  exact ⟨a, vs, rfl, ex_s Rm_ex h1, fun H3 e3 => q _ H3 (e2.trans e3) rfl⟩
theorem Oth.back {H H' H2 : Hp} {p : Addr} (e : Ex H H') (o : Oth p H' H2) (hp : H p = none) : Ex H H2 := fun b u h => o b u (fun z => by rw [z, hp] at h; cases h) (e b u h)
/-! ### any data asked: is it a node, does it fit as a line -/
def nodeD (d : PyData) (ls : List (List Str)) : Bool := match d with
  | .str z => decide (z ∈ ls.flatten)
  | _ => false
open Classical in
noncomputable def fitD (d : PyData) (ls : List (List Str)) : Bool := match d with
  | .tuple [.str x, .str y] => decide (Fit ls (x, y))
  | _ => false
def lineD (s : Sht) (d : PyData) : Bool := match d with
  | .tuple [.str x, .str y] => decide ((x, y) ∈ s.2)
  | _ => false
def inD (s : Sht) (d : PyData) : Bool := nodeD d s.1 || lineD s d
theorem er_inPl {ps : List Addr} {σ : L2.St} {H : Hp} {ty td : TE} {ls : List (List Str)} {z : Str} (h2 : EvR rS ps ty σ H z) (h : EvR rPl ps td σ H ls) : EvR rB ps (tDIn ty td) σ H (decide (z ∈ ls.flatten)) := fun H1 e o1 Q q =>
  h2 H1 e o1 _ fun y H2 e2 r => h H2 (e.trans e2) (o1.ex e2) _ fun w H3 e3 rw' => by
    obtain ⟨p, kvs, rfl, h1, hk⟩ := rw'
    obtain rfl : y = .str z := r
    refine ⟨p, _, rfl, DGet.k (k := .inr z) (Rm_ex _ _ h1), ?_⟩
    rw [place_isSome hk]
    exact q _ H3 (e2.trans e3) rfl
theorem node_str {d : PyData} {ls : List (List Str)} (h : nodeD d ls = true) : ∃ z, d = .str z ∧ z ∈ ls.flatten := by
  cases d with
  | str z => exact ⟨z, rfl, of_decide_eq_true h⟩
  | _ => cases h
open Classical in
theorem fitD_two {ds : List PyData} {ls : List (List Str)} (h : fitD (.tuple ds) ls = true) : ∃ x y, ds = [.str x, .str y] ∧ Fit ls (x, y) := by
  unfold fitD at h
  split at h
  · rename_i x y e
    cases e
    exact ⟨x, y, rfl, of_decide_eq_true h⟩
  · cases h
theorem fitD_no {d : PyData} {ls : List (List Str)} (h : ∀ ds, d ≠ .tuple ds) : fitD d ls = false := by
  unfold fitD
  split
  · exact absurd rfl (h _)
  · rfl
open Classical in
theorem fitD_at {x y : Str} {ls : List (List Str)} {b : Bool} (h : b = true ↔ Fit ls (x, y)) : fitD (.tuple [.str x, .str y]) ls = b := by
  unfold fitD
  rw [Bool.eq_iff_iff]
  exact ⟨fun z => h.mpr (of_decide_eq_true z), fun z => decide_eq_true (h.mp z)⟩
theorem sc_is_node_d : FnScope ["value", "places"] ["value", "places"] (defScope (topS 25)) := ⟨rfl, rfl, rfl, by decide +kernel, rfl, by decide +kernel, by decide +kernel⟩
theorem ok_is_node_d (T : Tx K mg fd) : FnOk P w K mg base CX0 1 (He.ga K "is_node") (fd 5) ["value", "places"] (Sp2 rDv rPl rB nodeD (fun _ _ => True)) := by
  refine (T.df 5 25 "is_node" rfl).ok sc_is_node_d (fun vs H Q E h => ?len) (fun cdv A outer s H vs Q E hr h => ?body)
  case body =>
    refine ⟨_, (pss_one (ps_ret (pe_and (pe_callB call_isi (by rfl) (T.fr 34 "isinstance" rfl) (by decide +kernel) (pa_cons (pv 0) (pa_cons (pe_bltn (v := V.ty "str") (by rfl) (T.fr 37 "str" rfl) (by decide +kernel) rfl) pa_nil))) (pe_one (pe_cmp (pc_din (u1 hr.units) (pv 0) (pv 1))))))), ?_⟩
    obtain ⟨ps, v, w, d, ls, rfl, o, r, ra, _, q⟩ := h
    have r0 : Dv (Rm ps H) v d := r
    obtain ⟨t, ky⟩ := r0.ky
    have go : kS v = false → nodeD d ls = false → tRet (tAndV (tCB (rIsi K) (tCons (tVar 0) (tCons (tC (.ty "str")) tNil))) (tDIn (tVar 0) (tVar 1))) { nx := fun _ H' => Q .non H', rt := Q } (start ["value", "places"] [v, w]) H := fun h1 h2 => by
      refine s_retR o (er_is (er_andV (x := false) (y := false) (er_B (ev_isi (ev_var rfl) (ky.ex Rm_ex) (by rw [← h1]; exact ky.str_) ev_c)) fun z => nomatch z) h2.symm) q
    cases r0 with
    | str x => exact s_retR o (er_is (er_andV (x := true) (er_B (ev_isi (ev_var rfl) (.str x) (Ky.str (H := H) x).str_ ev_c)) fun _ => er_inPl (er_var (i := 0) (v := .str x) rfl rfl) (er_var rfl ra)) (Bool.true_and _)) q
    | non => exact go rfl rfl
    | bl _ => exact go rfl rfl
    | int _ => exact go rfl rfl
    | lst _ _ => exact go rfl rfl
    | tup _ _ => exact go rfl rfl
    | dic _ => exact go rfl rfl
  case len =>
    obtain ⟨ps, v, w, d, ls, rfl, _⟩ := h
    rfl
theorem sc_fits_as_line_d : FnScope ["value", "places", "low", "high"] ["value", "places"] (defScope (topS 26)) := ⟨rfl, rfl, rfl, by decide +kernel, rfl, by decide +kernel, by decide +kernel⟩
theorem ok_fits_as_line_d (T : Tx K mg fd) : FnOk P w K mg base CX0 2 (He.ga K "fits_as_line") (fd 6) ["value", "places"] (Sp2 rDv rPl rB fitD (fun _ _ => True)) := by
  refine (T.df 6 26 "fits_as_line" rfl).ok sc_fits_as_line_d (fun vs H Q E h => ?len) (fun cdv A outer s H vs Q E hr h => ?body)
  case body =>
    refine ⟨_, (pss_cons (ps_if (PW.pt (pw_or (pt_not (pt_val (pe_callB call_isi (by rfl) (T.fr 34 "isinstance" rfl) (by decide +kernel) (pa_cons (pv 0) (pa_cons (pe_bltn (v := V.ty "tuple") (by rfl) (T.fr 39 "tuple" rfl) (by decide +kernel) rfl) pa_nil))))) (pw_or1 (pt_cmpR op_ne (pe_callB call_len (by rfl) (T.fr 41 "len" rfl) (by decide +kernel) (pa_cons (pv 0) pa_nil)) pe_int (nomark _))))) (pss_one (ps_ret pe_bl)) pss_nil) (pss_cons (ps_asg (pv 0) (pg_tup rfl (pgs_cons (pg_name (i := 2) sc_fits_as_line_d.nd rfl (Or.inl rfl)) (pgs_cons (pg_name (i := 3) sc_fits_as_line_d.nd rfl (Or.inl rfl)) pgs_nil)))) (pss_cons (ps_if (PW.pt (pw_or (pt_not (pt_val (pe_call (ok_is_node_d T) (hr.mono (by decide)) (by rfl) (T.gl 7 "is_node" rfl) (T.df 5 25 "is_node" rfl).kp ((T.df 5 25 "is_node" rfl).binds (ps := ["value", "places"]) fun _ _ _ _ _ _ us hl => match us, hl with | [_, _], _ => rfl) .nil pass0 (pa_cons (pv 2) (pa_cons (pv 1) pa_nil))))) (pw_or1 (pt_not (pt_val (pe_call (ok_is_node_d T) (hr.mono (by decide)) (by rfl) (T.gl 7 "is_node" rfl) (T.df 5 25 "is_node" rfl).kp ((T.df 5 25 "is_node" rfl).binds (ps := ["value", "places"]) fun _ _ _ _ _ _ us hl => match us, hl with | [_, _], _ => rfl) .nil pass0 (pa_cons (pv 3) (pa_cons (pv 1) pa_nil)))))))) (pss_one (ps_ret pe_bl)) pss_nil) (pss_one (ps_ret (pe_cmpR op_eq (pe_dget (u1 hr.units) (pv 1) (pv 3) (fun _ _ => rfl)) (pe_op op_add (pe_dget (u1 hr.units) (pv 1) (pv 2) (fun _ _ => rfl)) pe_int) (nomark _))))))), ?_⟩
    obtain ⟨ps, v, w, d, ls, rfl, o, r, ra, _, q⟩ := h
    have r0 : Dv (Rm ps H) v d := r
    cases r0 with
    | non => refine q_whenR o (b := true) (et_is' (et_or' (x := true) (y := false) (et_not' (x := false) (et_B' (er_B (ev_isi (ev_var rfl) .non (by show kitB _ _ = some false; decide +kernel) ev_c)))) fun z => nomatch z) rfl) (fun _ H1 e1 => s_retR (o.ex e1) (er_B ev_c) fun v H2 e2 t => q v H2 (e1.trans e2) (by have t' : v = .bl false := t; rw [t']; show V.bl false = V.bl _; rw [fitD_no (fun ds z => by cases z)])) (fun z => nomatch z)
    | bl b => refine q_whenR o (b := true) (et_is' (et_or' (x := true) (y := false) (et_not' (x := false) (et_B' (er_B (ev_isi (ev_var rfl) (.bl b) (by show kitB _ _ = some false; decide +kernel) ev_c)))) fun z => nomatch z) rfl) (fun _ H1 e1 => s_retR (o.ex e1) (er_B ev_c) fun v H2 e2 t => q v H2 (e1.trans e2) (by have t' : v = .bl false := t; rw [t']; show V.bl false = V.bl _; rw [fitD_no (fun ds z => by cases z)])) (fun z => nomatch z)
    | int b => refine q_whenR o (b := true) (et_is' (et_or' (x := true) (y := false) (et_not' (x := false) (et_B' (er_B (ev_isi (ev_var rfl) (.int b) (by show kitB _ _ = some false; decide +kernel) ev_c)))) fun z => nomatch z) rfl) (fun _ H1 e1 => s_retR (o.ex e1) (er_B ev_c) fun v H2 e2 t => q v H2 (e1.trans e2) (by have t' : v = .bl false := t; rw [t']; show V.bl false = V.bl _; rw [fitD_no (fun ds z => by cases z)])) (fun z => nomatch z)
    | str b => refine q_whenR o (b := true) (et_is' (et_or' (x := true) (y := false) (et_not' (x := false) (et_B' (er_B (ev_isi (ev_var rfl) (.str b) (by show kitB _ _ = some false; decide +kernel) ev_c)))) fun z => nomatch z) rfl) (fun _ H1 e1 => s_retR (o.ex e1) (er_B ev_c) fun v H2 e2 t => q v H2 (e1.trans e2) (by have t' : v = .bl false := t; rw [t']; show V.bl false = V.bl _; rw [fitD_no (fun ds z => by cases z)])) (fun z => nomatch z)
    | lst h1 h2 => refine q_whenR o (b := true) (et_is' (et_or' (x := true) (y := false) (et_not' (x := false) (et_B' (er_B (ev_isi (ev_var rfl) (.lst (Rm_ex _ _ h1)) (by show kitB _ _ = some false; decide +kernel) ev_c)))) fun z => nomatch z) rfl) (fun _ H1 e1 => s_retR (o.ex e1) (er_B ev_c) fun v H2 e2 t => q v H2 (e1.trans e2) (by have t' : v = .bl false := t; rw [t']; show V.bl false = V.bl _; rw [fitD_no (fun ds z => by cases z)])) (fun z => nomatch z)
    | dic h1 => refine q_whenR o (b := true) (et_is' (et_or' (x := true) (y := false) (et_not' (x := false) (et_B' (er_B (ev_isi (ev_var rfl) (.dic (Rm_ex _ _ h1)) (by show kitB _ _ = some false; decide +kernel) ev_c)))) fun z => nomatch z) rfl) (fun _ H1 e1 => s_retR (o.ex e1) (er_B ev_c) fun v H2 e2 t => q v H2 (e1.trans e2) (by have t' : v = .bl false := t; rw [t']; show V.bl false = V.bl _; rw [fitD_no (fun ds z => by cases z)])) (fun z => nomatch z)
    | @tup a xs ds h1 h2 =>
    have ha := Rm_ex _ _ h1
    have hall := h2.all
    have hq : (rQ K rDv).p ds (.ref a) (Rm ps H) := ⟨a, xs, rfl, .inr (st_of h1), hall⟩
    refine q_whenR o (b := !decide (ds.length = 2)) (et_is' (et_or' (x := false) (et_not' (x := true) (et_B' (er_B (ev_isi (ev_var rfl) (.tup ha) (by show kitB _ _ = some true; decide +kernel) ev_c)))) fun _ => et_test' (er_B (ev_op (ev_I o (er_lenL (er_var (i := 0) rfl hq))) ev_c (rv_ne rfl)))) ?_) (fun hb H1 e1 => s_retR (o.ex e1) (er_B ev_c) fun v H2 e2 t => q v H2 (e1.trans e2) ?_) fun hb H1 e1 => ?_
    · rw [Bool.false_or]
      congr 1
      exact decide_eq_decide.mpr ⟨fun z => by injection z with z; omega, fun z => by rw [z]; rfl⟩
    · have t' : v = .bl false := t
      rw [t']
      show V.bl false = V.bl _
      congr 1
      refine (Bool.eq_false_iff.mpr fun z => ?_).symm
      obtain ⟨x, y, e, _⟩ := fitD_two z
      rw [e] at hb
      cases hb
    have h2l : ds.length = 2 := of_decide_eq_true (by rw [Bool.not_eq_false'] at hb; exact hb)
    match ds, xs, h2l, hall, h1, ha, hq, hb, q with
    | [d1, d2], [v1, v2], _, hall, h1, ha, _, _, q =>
    obtain ⟨r1, r2, _⟩ := hall
    refine ⟨V.ref a, rfl, a, _, rfl, st_of (e1 _ _ ha), rfl, _, _, rfl, _, _, rfl, rfl, ?_⟩
    dsimp only
    have o1 := o.ex e1
    have ra1 := rPl.m (Rm_mono e1) ra
    have r1' : rDv.p d1 v1 (Rm ps H1) := rDv.m (Rm_mono e1) r1
    have r2' : rDv.p d2 v2 (Rm ps H1) := rDv.m (Rm_mono e1) r2
    refine q_whenR o1 (b := !nodeD d1 ls || !nodeD d2 ls) (et_or' (et_not' (et_B' (er_call2 (er_var (i := 2) rfl r1') (er_var (i := 1) rfl ra1) trivial))) fun _ => et_not' (et_B' (er_call2 (er_var (i := 3) rfl r2') (er_var (i := 1) rfl ra1) trivial))) (fun hb H2 e2 => s_retR (o1.ex e2) (er_B ev_c) fun v H3 e3 t => q v H3 ((e1.trans e2).trans e3) ?_) fun hb H2 e2 => ?_
    · have t' : v = .bl false := t
      rw [t']
      show V.bl false = V.bl _
      congr 1
      refine (Bool.eq_false_iff.mpr fun z => ?_).symm
      obtain ⟨x, y, e, hf⟩ := fitD_two z
      injection e with e1 e2
      injection e2 with e2 _
      subst e1 e2
      have i1 : nodeD (.str x) ls = true := decide_eq_true hf.in1
      have i2 : nodeD (.str y) ls = true := decide_eq_true hf.in2
      rw [i1, i2] at hb
      cases hb
    rw [Bool.or_eq_false_iff, Bool.not_eq_false', Bool.not_eq_false'] at hb
    obtain ⟨x, rfl, hx⟩ := node_str hb.1
    obtain ⟨y, rfl, hy⟩ := node_str hb.2
    obtain rfl : v1 = .str x := by cases r1'; rfl
    obtain rfl : v2 = .str y := by cases r2'; rfl
    have o2 := o1.ex e2
    have ra2 := rPl.m (Rm_mono e2) ra1
    obtain ⟨p, kvs, rfl, hp, hk⟩ := id ra2
    obtain ⟨i, a1, g1, g2, g3⟩ := place_of hk hx
    obtain ⟨j, b1, g4, g5, g6⟩ := place_of hk hy
    refine s_retR o2 (er_is (er_B (ev_op (ev_I o2 (er_N (er_place (er_var (i := 1) rfl ra2) (er_var (i := 3) (v := .str y) rfl rfl) g4 g5))) (ev_op (ev_I o2 (er_N (er_place (er_var (i := 1) rfl ra2) (er_var (i := 2) (v := .str x) rfl rfl) g1 g2))) ev_c rv_I0) (rv_eq rfl))) (fitD_at ?_).symm) fun v H3 e3 t => q v H3 ((e1.trans e2).trans e3) t
    rw [← fit_iff hk (e := (x, y))]
    unfold fitB
    rw [g3, g6]
    rw [decide_eq_true_eq, decide_eq_true_eq]
    exact ⟨fun z => by injection z, fun z => by rw [z]⟩
  case len =>
    obtain ⟨ps, v, w, d, ls, rfl, _⟩ := h
    rfl
theorem sc_sh_is_line : FnScope ["self", "value"] ["self", "value"] (defScope (shS 32)) := ⟨rfl, rfl, rfl, by decide +kernel, rfl, by decide +kernel, by decide +kernel⟩
theorem ok_sh_is_line (T : Tx K mg fd) : FnOk P w K mg base CX0 3 (He.ma K (shC K) "_is_line") (fd 63) ["self", "value"] (Sp2 (rS_ K) rDv rB lineD (fun s _ => Sok s)) := by
  refine (T.dm 63 32 "_is_line" "Sheet._is_line" rfl).ok sc_sh_is_line (fun vs H Q E h => ?len) (fun cdv A outer s H vs Q E hr h => ?body)
  case body =>
    refine ⟨_, (pss_one (ps_ret (pe_and (pe_call (ok_fits_as_line_d T) (hr.mono (by decide)) (by rfl) (T.gl 8 "fits_as_line" rfl) (T.df 6 26 "fits_as_line" rfl).kp ((T.df 6 26 "fits_as_line" rfl).binds (ps := ["value", "places"]) fun _ _ _ _ _ _ us hl => match us, hl with | [_, _], _ => rfl) .nil pass0 (pa_cons (pv 1) (pa_cons (pe_fld (pv 0) rfl) pa_nil))) (pe_one (pe_cmpR op_in_seq (pe_ix (r := rIxT K) ix_tup (pv 1) pe_int (fun _ _ => rfl)) (pe_dget (u1 hr.units) (pe_fld (pv 0) rfl) (pe_ix (r := rIxT K) ix_tup (pv 1) pe_int (fun _ _ => rfl)) (fun _ _ => rfl)) rfl))))), ?_⟩
    obtain ⟨ps, v, w, s, d, rfl, o, r, ra, ok, q⟩ := h
    refine s_retR o (er_is (er_andV (x := fitD d s.1) (y := lineD s d) (er_call2 (er_var rfl ra) (sh_places (i := 0) rfl r T.cls (T.noat 59 "_places" rfl)) trivial) fun hf => ?_) ?_) q
    · cases ra with
      | @tup a xs ds h1 h2 =>
        obtain ⟨x, y, rfl, hft⟩ := fitD_two hf
        cases h2 with | cons g1 g2 =>
        cases g1 with | str =>
        cases g2 with | cons g3 g4 =>
        cases g3 with | str =>
        cases g4 with | nil =>
        have re : rE.p (x, y) (.ref a) (Rm ps H) := ⟨a, _, _, rfl, h1, rfl, rfl⟩
        refine er_is (er_inL (fun q ns x H1 Q h k => ⟨q, _, rfl, .inl h, rfl, flat_strs ns, by
          rw [if_neg Bool.false_ne_true, inV_str]
          exact k⟩) (er_snd (er_var rfl re) (er_I ev_c)) (er_endsget (sh_ups (i := 0) rfl r T.cls (T.noat 60 "_ups" rfl)) (er_fst (er_var rfl re) (er_I ev_c)) hft.in1)) ?_
        refine decide_eq_decide.mpr ⟨fun h => ?_, fun h => List.mem_map.mpr ⟨(x, y), List.mem_filter.mpr ⟨h, decide_eq_true rfl⟩, rfl⟩⟩
        obtain ⟨f, h1, h2⟩ := List.mem_map.mp h
        rw [List.mem_filter, decide_eq_true_eq] at h1
        rw [← show f = (x, y) from Prod.ext h1.2 h2]
        exact h1.1
      | _ => rw [fitD_no (fun ds z => by cases z)] at hf; cases hf
    · cases hl : lineD s d with
      | false => exact Bool.and_false _
      | true =>
        unfold lineD at hl
        split at hl
        · rename_i x y
          rw [fitD_at (b := true) ⟨fun _ => ok.fit _ (of_decide_eq_true hl), fun _ => rfl⟩]
          rfl
        · cases hl
  case len =>
    obtain ⟨ps, v, w, s, d, rfl, _⟩ := h
    rfl
theorem sc_sh_contains : FnScope ["self", "x"] ["self", "x"] (defScope (shS 16)) := ⟨rfl, rfl, rfl, by decide +kernel, rfl, by decide +kernel, by decide +kernel⟩
theorem ok_sh_contains (T : Tx K mg fd) : FnOk P w K mg base CX0 4 (He.ma K (shC K) "__contains__") (fd 52) ["self", "x"] (Sp2 (rS_ K) rDv rB inD (fun s _ => Sok s)) := by
  refine (T.dm 52 16 "__contains__" "Sheet.__contains__" rfl).ok sc_sh_contains (fun vs H Q E h => ?len) (fun cdv A outer s H vs Q E hr h => ?body)
  case body =>
    refine ⟨_, (pss_one (ps_ret (pe_or (pe_call (ok_is_node_d T) (hr.mono (by decide)) (by rfl) (T.gl 7 "is_node" rfl) (T.df 5 25 "is_node" rfl).kp ((T.df 5 25 "is_node" rfl).binds (ps := ["value", "places"]) fun _ _ _ _ _ _ us hl => match us, hl with | [_, _], _ => rfl) .nil pass0 (pa_cons (pv 1) (pa_cons (pe_fld (pv 0) rfl) pa_nil))) (pe_one (pe_meth (pv 0) T.cls (T.meth 83 "_is_line" rfl) (ok_sh_is_line T) (hr.mono (by decide)) ((T.dm 63 32 "_is_line" "Sheet._is_line" rfl).binds (ps := ["self", "value"]) fun _ _ _ _ _ _ us hl => match us, hl with | [_, _], _ => rfl) .nil pass0 (pa_cons (pv 1) pa_nil)))))), ?_⟩
    obtain ⟨ps, v, w, s, d, rfl, o, r, ra, ok, q⟩ := h
    exact s_retR o (er_orV (er_call2 (er_var rfl ra) (sh_places (i := 0) rfl r T.cls (T.noat 59 "_places" rfl)) trivial) fun _ => er_meth1 (er_var rfl r) (er_var rfl ra) (by decide +kernel) ok) q
  case len =>
    obtain ⟨ps, v, w, s, d, rfl, _⟩ := h
    rfl
theorem er_inO {ps : List Addr} {σ : L2.St} {H : Hp} {ty tx : TE} {s : Sht} {d : PyData} {E : XK} (h2 : EvR rDv ps ty σ H d) (h : EvR (rS_ K) ps tx σ H s) (ok : Sok s) : EvR rB ps (tOp (rOwnIn (shC K) (Sp2 (rS_ K) rDv rB inD (fun s _ => Sok s)) [] E false) ty tx) σ H (inD s d) := er_op h2 h fun v w H1 e1 o rv rw' Q q => by
  have rw2 := rw'
  obtain ⟨x, rfl, dx, p1, p2, p3, p4, p5, p6, kvs, h1, _⟩ := rw2
  refine ⟨x, dx, _, rfl, Rm_ex _ _ h1, ps, _, _, s, d, rfl, o, rw', rv, ok, fun y H2 e2 r => ⟨inD s d, r, ?_⟩⟩
  exact q _ H2 e2 rfl
end
end K12
set_option Elab.async false
set_option linter.all false
set_option maxRecDepth 100000
set_option maxHeartbeats 4000000
namespace K12
open PySem PySem.Spec PyProof.Rows L2 Evl Gen RP ItX
section
variable {P : Program} {w : World} {K : PySem.W.Frag} {mg : Str → Option Value} {base : Heap} {fd : Nat → FuncData}
theorem er_isSh (T : Tx K mg fd) {ps : List Addr} {σ : L2.St} {H : Hp} {ta : TE} {s : Sht} (h : EvR (rS_ K) ps ta σ H s) : EvR rB ps (tCB (rIsi K) (tCons ta (tCons (tC (.ref (shC K))) tNil))) σ H true := fun H1 e o Q q => h H1 e o _ fun v H2 e2 r => by
  have r' := r
  obtain ⟨x, rfl, dx, p1, p2, p3, p4, p5, p6, kvs, h1, _⟩ := r'
  exact ⟨.ref x, .ref (shC K), .ref (shC K), .ref (shC K), true, rfl, .own _, .base (.ins (Rm_ex _ _ h1) T.cls T.cl1 T.cl2 T.cl3 T.cl4), T.kit, q _ H2 e2 rfl⟩
theorem er_isShD (T : Tx K mg fd) {ps : List Addr} {σ : L2.St} {H : Hp} {ta : TE} {d : PyData} (h : EvR rDv ps ta σ H d) : EvR rB ps (tCB (rIsi K) (tCons ta (tCons (tC (.ref (shC K))) tNil))) σ H false := fun H1 e o Q q => h H1 e o _ fun v H2 e2 r => by
  have r0 : Dv (Rm ps H2) v d := r
  have go : ∀ t : String, Ky H2 v t → t ∈ kitN → rIsi K [v, .ref (shC K)] H2 Q := fun t ky ht => ⟨v, .ref (shC K), .type t, .ref (shC K), false, rfl, .own _, ky.ty, T.kin t ht, q _ H2 e2 rfl⟩
  cases r0 with
  | non => exact go _ .non (by decide)
  | bl b => exact go _ (.bl b) (by decide)
  | int b => exact go _ (.int b) (by decide)
  | str b => exact go _ (.str b) (by decide)
  | lst h1 _ => exact go _ (.lst (Rm_ex _ _ h1)) (by decide)
  | tup h1 _ => exact go _ (.tup (Rm_ex _ _ h1)) (by decide)
  | dic h1 => exact go _ (.dic (Rm_ex _ _ h1)) (by decide)
/-! ### equality -/
theorem sok_names {s : Sht} (ok : Sok s) : ∀ l ∈ s.1, ∀ z ∈ l, okS z := fun l hl z hz => isN_strOk (ok.lv.names l hl z hz)
theorem sok_lines {s : Sht} (ok : Sok s) : ∀ e ∈ s.2, okS e.1 ∧ okS e.2 := fun e he => by
  obtain ⟨i, a, b, h1, h2, h3, h4⟩ := ok.fit e he
  exact ⟨sok_names ok a (List.mem_of_getElem? h1) _ h3, sok_names ok b (List.mem_of_getElem? h2) _ h4⟩
theorem sc_sh_eq : FnScope ["self", "other"] ["self", "other"] (defScope (shS 18)) := ⟨rfl, rfl, rfl, by decide +kernel, rfl, by decide +kernel, by decide +kernel⟩
theorem ok_sh_eq (T : Tx K mg fd) : FnOk P w K mg base CX0 1 (He.ma K (shC K) "__eq__") (fd 54) ["self", "other"] (Sp2 (rS_ K) (rS_ K) rB (fun s t => decide (s = t)) (fun s t => Sok s ∧ Sok t)) := by
  refine (T.dm 54 18 "__eq__" "Sheet.__eq__" rfl).ok sc_sh_eq (fun vs H Q E h => ?len) (fun cdv A outer s H vs Q E hr h => ?body)
  case body =>
    refine ⟨_, (pss_one (ps_ret (pe_and (pe_callB call_isi (by rfl) (T.fr 34 "isinstance" rfl) (by decide +kernel) (pa_cons (pv 1) (pa_cons (pe_glob (v := V.ref (He.ga K "Sheet")) (by rfl) (T.gl 33 "Sheet" rfl) rfl) pa_nil))) (pe_and (pe_cmpR (op_eqD hr.units) (pe_fld (pv 0) rfl) (pe_fld (pv 1) rfl) (nomark _)) (pe_one (pe_cmpR (op_eqD hr.units) (pe_fld (pv 0) rfl) (pe_fld (pv 1) rfl) (nomark _))))))), ?_⟩
    obtain ⟨ps, v, w, s, a, rfl, o, r, ra, ok, q⟩ := h
    obtain ⟨ok, ok2⟩ := ok
    refine s_retR o (er_is (er_andV (er_isSh T (er_var rfl ra)) fun _ => er_andV (er_eqD (dtL (dtL dtS)) (by decide) (sh_levels (i := 0) rfl r T.cls (T.noat 56 "_levels" rfl)) (sh_levels (i := 1) rfl ra T.cls (T.noat 56 "_levels" rfl)) (sok_names ok) (sok_names ok2)) fun _ => er_eqD (dtL (dtP dtS dtS)) (by decide) (sh_lines (i := 0) rfl r T.cls (T.noat 57 "_lines" rfl)) (sh_lines (i := 1) rfl ra T.cls (T.noat 57 "_lines" rfl)) (sok_lines ok) (sok_lines ok2)) ?_) q
    rw [Bool.true_and, ← Bool.decide_and]
    exact decide_eq_decide.mpr ⟨fun h => Prod.ext h.1 h.2, fun h => by rw [h]; exact ⟨rfl, rfl⟩⟩
  case len =>
    obtain ⟨ps, v, w, s, a, rfl, _⟩ := h
    rfl
theorem er_eqO {ps : List Addr} {σ : L2.St} {H : Hp} {ta tb : TE} {s t : Sht} {E : XK} {neg : Bool} (h : EvR (rS_ K) ps ta σ H s) (h2 : EvR (rS_ K) ps tb σ H t) (ok : Sok s) (ok2 : Sok t) : EvR rB ps (tOp (rOwnEq (shC K) (Sp2 (rS_ K) (rS_ K) rB (fun s t => decide (s = t)) (fun s t => Sok s ∧ Sok t)) E neg) ta tb) σ H (if neg then !decide (s = t) else decide (s = t)) := er_op h h2 fun v w H1 e1 o rv rw' Q q => by
  have rv2 := rv
  obtain ⟨x, rfl, dx, p1, p2, p3, p4, p5, p6, kvs, h1, _⟩ := rv2
  have rw2 := rw'
  obtain ⟨y, rfl, dy, q1, q2, q3, q4, q5, q6, kvt, h3, _⟩ := rw2
  refine ⟨x, y, dx, dy, _, _, rfl, rfl, Rm_ex _ _ h1, Rm_ex _ _ h3, ps, _, _, s, t, rfl, o, rv, rw', ⟨ok, ok2⟩, fun z H2 e2 r => ⟨decide (s = t), r, ?_⟩⟩
  exact q _ H2 e2 rfl
theorem sc_sh_eq_d : FnScope ["self", "other"] ["self", "other"] (defScope (shS 18)) := ⟨rfl, rfl, rfl, by decide +kernel, rfl, by decide +kernel, by decide +kernel⟩
theorem ok_sh_eq_d (T : Tx K mg fd) : FnOk P w K mg base CX0 1 (He.ma K (shC K) "__eq__") (fd 54) ["self", "other"] (Sp2 (rS_ K) rDv rB (fun _ _ => false) (fun s _ => Sok s)) := by
  refine (T.dm 54 18 "__eq__" "Sheet.__eq__" rfl).ok sc_sh_eq_d (fun vs H Q E h => ?len) (fun cdv A outer s H vs Q E hr h => ?body)
  case body =>
    refine ⟨_, (pss_one (ps_ret (pe_and (pe_callB call_isi (by rfl) (T.fr 34 "isinstance" rfl) (by decide +kernel) (pa_cons (pv 1) (pa_cons (pe_glob (v := V.ref (He.ga K "Sheet")) (by rfl) (T.gl 33 "Sheet" rfl) rfl) pa_nil))) (pe_and (pe_cmpR (op_eqD hr.units) (pe_fld (pv 0) rfl) (pe_fld (pv 1) rfl) (nomark _)) (pe_one (pe_cmpR (op_eqD hr.units) (pe_fld (pv 0) rfl) (pe_fld (pv 1) rfl) (nomark _))))))), ?_⟩
    obtain ⟨ps, v, w, s, d, rfl, o, r, ra, ok, q⟩ := h
    exact s_retR o (er_is (er_andV (x := false) (y := false) (er_isShD T (er_var rfl ra)) fun z => nomatch z) rfl) q
  case len =>
    obtain ⟨ps, v, w, s, d, rfl, _⟩ := h
    rfl
theorem er_eqD_ {ps : List Addr} {σ : L2.St} {H : Hp} {ta tb : TE} {s : Sht} {d : PyData} {E : XK} (h : EvR (rS_ K) ps ta σ H s) (h2 : EvR rDv ps tb σ H d) (ok : Sok s) : EvR rB ps (tOp (rOwnEqX (shC K) (Sp2 (rS_ K) rDv rB (fun _ _ => false) (fun s _ => Sok s)) E) ta tb) σ H false := er_op h h2 fun v w H1 e1 o rv rw' Q q => by
  have rv2 := rv
  obtain ⟨x, rfl, dx, p1, p2, p3, p4, p5, p6, kvs, h1, _⟩ := rv2
  have r0 : Dv (Rm ps H1) w d := rw'
  obtain ⟨t, ky⟩ := r0.ky
  refine ⟨x, dx, _, t, rfl, Rm_ex _ _ h1, ky.ex Rm_ex, ps, _, _, s, d, rfl, o, rv, rw', ok, fun z H2 e2 r => ⟨false, r, ?_⟩⟩
  exact q _ H2 e2 rfl
def spIter (K : PySem.W.Frag) : Nat → Sp := fun n vs H Q _ => ∃ ps v s, vs = [v] ∧ Own ps H ∧ (rS_ K).p s v (Rm ps H) ∧ ∀ it l H2, Ex H H2 → H2 it = none → n ≤ it → (rL rS).p s.1.flatten (.ref l) (Rm ps H2) → Q (.ref it) (upd H2 it (ItO l it 0))
theorem sc_sh_iter : FnScope ["self"] ["self"] (defScope (shS 17)) := ⟨rfl, rfl, rfl, by decide +kernel, rfl, by decide +kernel, by decide +kernel⟩
theorem ok_sh_iter (T : Tx K mg fd) : FnS P w K mg base CX0 1 (He.ma K (shC K) "__iter__") (fd 53) ["self"] (spIter K) := by
  refine (T.dm 53 17 "__iter__" "Sheet.__iter__" rfl).okS sc_sh_iter (fun cdv A outer s H vs Q E hr h => ?_)
  refine ⟨_, (pss_one (ps_ret (pe_callB call_iterN (by rfl) (T.fr 53 "iter" rfl) (by decide +kernel) (pa_cons (pe_fld (pv 0) rfl) pa_nil)))), ?_⟩
  obtain ⟨ps, v, t, rfl, o, r, q⟩ := h
  refine (sh_nodes (i := 0) rfl r T.cls (T.noat 58 "_nodes" rfl)) H (Ex.refl H) o _ fun u H2 e2 r2 => ?_
  have r3 := r2
  obtain ⟨l, us, rfl, hl, hu⟩ := r3
  exact ⟨l, us, rfl, sq_of (Rm_ex _ _ hl), fun it hn hle => q it l H2 e2 hn hle r2⟩
theorem drop_upd {H : Hp} {a : Addr} {u : HO} (h : H a = none) : dropH (upd H a u) a = H := by
  funext b
  unfold dropH
  by_cases e : b = a
  · rw [if_pos e, e, h]
  · rw [if_neg e, upd_ne e]
theorem wk_own {ps : List Addr} {σ : L2.St} {H : Hp} {te : TE} {s : Sht} {E : XK} (h : EvR (rS_ K) ps te σ H s) : Wk rS ps (iOwn (shC K) (spIter K) E K te) σ H s.1.flatten := fun H0 e o Rk k => h H0 e o _ fun v H1 e1 r => by
  have r' := r
  obtain ⟨x, rfl, dx, p1, p2, p3, p4, p5, p6, kvs, h1, _⟩ := r'
  refine ⟨x, dx, _, rfl, Rm_ex _ _ h1, fun n => ⟨ps, _, s, rfl, o.ex e1, r, fun it l H2 e2 hn hle hr => ⟨it, l, rfl, hle, upd_same, ?_⟩⟩⟩
  obtain ⟨l', us, e0, ha, hu⟩ := hr
  cases e0
  rw [drop_upd hn]
  refine k _ us.length _ _ H2 (e1.trans e2) hu.len.symm walk_list (fun H3 e3 => sq_of (e3 _ _ ha)) fun i H3 u H4 qs hi oq ex y => ?_
  obtain ⟨rfl, hy⟩ := y
  obtain ⟨z, hz, rz⟩ := hu.getv hy
  exact ⟨Ex.refl _, z, hz, rS.m ex rz⟩
theorem er_listON {ps : List Addr} {σ : L2.St} {G H : Hp} {te : TE} {s : Sht} {E F' : XK} (e00 : Ex G H) (h : EvR (rS_ K) ps te σ H s) (ok : Sok s) : EvR (rLN G rS) ps (tCB (rListOwn K (shC K) (spIter K) (Sp1 (rS_ K) rI (fun s => (s.1.length : Int)) Sok) E F') (tCons te tNil)) σ H s.1.flatten := er_cb1 h fun v H1 e o r Q q => by
  have r' := r
  obtain ⟨x, rfl, dx, p1, p2, p3, p4, p5, p6, kvs, h1, _⟩ := r'
  have hx := Rm_ex _ _ h1
  refine ⟨x, dx, _, rfl, hx, fun q' hq n => ?_⟩
  have no := new_own (ob := .lst []) o hq
  have r2 := (rS_ K).m no.2 r
  refine ⟨q' :: ps, _, s, rfl, no.1, r2, fun it l H2 e2 hn hle hr => ⟨it, l, rfl, hle, upd_same, ?_, ?_⟩⟩
  · rw [drop_upd hn]
    exact ⟨dx, _, e2 _ _ (Ex.new hq _ _ hx)⟩
  · rw [drop_upd hn]
    have e3 : Ex H1 H2 := (Ex.new hq).trans e2
    refine ⟨q' :: ps, _, s, rfl, no.1.ex e2, (rS_ K).m (Rm_mono e2) r2, ok, fun w H3 e4 t => ?_⟩
    obtain ⟨l', us, e0, ha, hu⟩ := hr
    cases e0
    have hlq : q' ≠ l := fun z => by rw [← z, Rm_own (List.mem_cons_self ..)] at ha; cases ha
    have hf := ok.lv.few
    rw [← many_flat] at hf
    have h12 := ok.h12
    refine ⟨s.1.length, us, t, by rw [sizeLine_eq]; omega, e4 _ _ (e2 _ _ upd_same), hlq, sq_of (e4 _ _ (Rm_ex _ _ ha)), by rw [← hu.len, sizeLine_eq]; omega, ?_⟩
    refine q _ _ (Ex.mut (e3.trans e4) hq) ⟨q', us, rfl, none_of (e00.trans e) hq, Rm_get upd_same (o.nin hq), hu.imp fun _ _ z => z⟩
theorem er_listO {ps : List Addr} {σ : L2.St} {H : Hp} {te : TE} {s : Sht} {E F' : XK} (h : EvR (rS_ K) ps te σ H s) (ok : Sok s) : EvR (rL rS) ps (tCB (rListOwn K (shC K) (spIter K) (Sp1 (rS_ K) rI (fun s => (s.1.length : Int)) Sok) E F') (tCons te tNil)) σ H s.1.flatten := er_NL (er_listON ex00 h ok)
/-! ### pairs -/
theorem inner_it {J : It} {n : Nat} {G : Hp → Prop} {Y : Nat → Hp → V → Hp → Prop} (w : Walk J n G Y) {B : V → Hp → (Hp → Prop) → Prop} {H : Hp} {Nx : Hp → Prop} (Pv : Nat → Hp → Prop) (h0 : Pv 0 H) (hG : ∀ i H, i ≤ n → Pv i H → G H)
    (hs : ∀ i x H H', i < n → Pv i H → Y i H x H' → B x H' (Pv (i + 1))) (hd : ∀ H, Pv n H → Nx H) :
    ∃ W : Nat → Nat → Hp → Prop, (∃ m, W 0 m H) ∧ ∀ i m H, W i m H → (J.stop i H ∧ Nx H) ∨ (J.go i H ∧ ∃ N1 : Hp → Prop, (∀ H', N1 H' → ∃ m', m' < m ∧ W (i + 1) m' H') ∧ ∀ x H', J.yld i H x H' → B x H' N1) := by
  refine ⟨fun i m H => m = n - i ∧ i ≤ n ∧ Pv i H, ⟨n, by simp, Nat.zero_le _, h0⟩, ?_⟩
  rintro i m H ⟨rfl, hi, p⟩
  have q := hG i H hi p
  by_cases hlt : i < n
  · exact .inr ⟨w.goes i H hlt q, Pv (i + 1), fun H' p' => ⟨n - (i + 1), by omega, rfl, hlt, p'⟩, fun x H' y => hs i x H H' hlt p (w.yields i H x H' hlt q y)⟩
  · have e : i = n := by omega
    subst e
    exact .inl ⟨w.stops H q, hd H p⟩
def prow (l : List Str) (x : Str) : List (Str × Str) := (l.filter fun y => !decide (x = y)).map fun y => (x, y)
def prs (l : List Str) : List (Str × Str) := l.flatMap (prow l)
theorem flatMap_len {α β : Type} {l : List α} {f : α → List β} {c : Nat} (h : ∀ x ∈ l, (f x).length ≤ c) : (l.flatMap f).length ≤ l.length * c := by
  induction l with
  | nil => exact Nat.zero_le _
  | cons x r ih =>
    rw [List.flatMap_cons, List.length_append, List.length_cons, Nat.add_mul, Nat.one_mul]
    have h1 := h x (List.mem_cons_self ..)
    have h2 := ih fun y hy => h y (List.mem_cons_of_mem _ hy)
    omega
theorem prow_len {l m : List Str} {x : Str} : ((m.filter fun y => !decide (x = y)).map fun y => (x, y)).length ≤ m.length := by rw [List.length_map]; exact List.length_filter_le _ _
theorem er_pairs {ps : List Addr} {σ : L2.St} {H : Hp} {tl : TE} {v : V} {ls : List (List Str)} (hσ : σ = [some v, none, none, none]) (h : EvR (rL (rL rS)) ps tl σ H ls) (h12 : ls.length ≤ 12) (hw : ∀ l ∈ ls, l.length ≤ 18) :
    EvR (rL rE) ps (tLc3 (iList K tl) (gName 1) tYes (iList K (tVar 1)) (gName 2) tYes (iList K (tVar 1)) (gName 3) (tTest (tOp rNe (tVar 2) (tVar 3))) (tTup (tCons (tVar 2) (tCons (tVar 3) tNil))) [1, 2, 3] [2, 3] [3]) σ H (ls.flatMap prs) := fun H0 e o Q q => h H0 e o _ fun u H1 e1 r => by
  subst hσ
  obtain ⟨a, us, rfl, ha, hu⟩ := r
  have o1 := o.ex e1
  refine ⟨a, rfl, ⟨us, sq_of (Rm_ex _ _ ha)⟩, fun Dl hD => ?_⟩
  have hG : ∀ {bs : List (Str × Str)} {H2 : Hp}, Lw rE ps H1 Dl bs H2 → SqL K H2 a us := fun p => sq_of (p.1 _ _ (Rm_ex _ _ ha))
  have ln : us.length = ls.length := hu.len.symm
  have b1 : ∀ k, ((ls.take k).flatMap prs).length ≤ 12 * 324 := fun k => by
    refine Nat.le_trans (flatMap_len (c := 324) fun l hl => ?_) (Nat.mul_le_mul_right _ (by rw [List.length_take]; omega))
    have hl18 := hw l (List.mem_of_mem_take hl)
    refine Nat.le_trans (flatMap_len (c := 18) fun x _ => Nat.le_trans (prow_len (l := l)) hl18) ?_
    exact Nat.mul_le_mul_right 18 hl18
  refine inner_it (walk_list (K := K) (a := a) (xs := us)) (B := fun x H' Nx => (gName 1) x (wipe [some v, none, none, none] [1, 2, 3]) H' fun σ2 H2 => wipe σ2 [1, 2, 3] = wipe [some v, none, none, none] [1, 2, 3] ∧ tYes σ2 H2 fun b H3 => _) (fun k H2 => Lw rE ps H1 Dl ((ls.take k).flatMap prs) H2) (lw_zero hD) (fun _ _ _ p => hG p) (fun k u H2 H2' hk p y => ?_) (fun H2 p => ?_)
  · obtain ⟨rfl, hy⟩ := y
    obtain ⟨l, hl, rl⟩ := hu.getv hy
    have hlm := hw l (List.mem_of_getElem? hl)
    obtain ⟨c, ws, rfl, hc, hws⟩ := rl
    have hst : ws = l.map V.str := strs_eq hws
    subst hst
    refine ⟨rfl, ?_⟩
    show ∃ v_1, _ ∧ _
    refine ⟨.ref c, rfl, c, rfl, ⟨_, sq_of (p.1 _ _ (Rm_ex _ _ hc))⟩, ?_⟩
    have hG2 : ∀ {bs : List (Str × Str)} {H2 : Hp}, Lw rE ps H1 Dl bs H2 → SqL K H2 c (l.map V.str) := fun p => sq_of (p.1 _ _ (Rm_ex _ _ hc))
    have b2 : ∀ j, ((l.take j).flatMap (prow l)).length ≤ 324 := fun j => by
      have h1 := flatMap_len (l := l.take j) (f := prow l) (c := 18) fun x _ => Nat.le_trans (prow_len (l := l)) hlm
      have h2 : (l.take j).length ≤ 18 := by rw [List.length_take]; omega
      omega
    refine inner_it (walk_list (K := K) (a := c) (xs := l.map V.str)) (fun j H3 => Lw rE ps H1 Dl ((ls.take k).flatMap prs ++ (l.take j).flatMap (prow l)) H3) ?_ (fun _ _ _ p => hG2 p) (fun j x H3 H3' hj p3 y => ?_) (fun H3 p3 => ?_)
    · rw [List.take_zero, List.flatMap_nil, List.append_nil]
      exact p
    · obtain ⟨rfl, hy⟩ := y
      rw [List.getElem?_map] at hy
      cases hxx : l[j]? with
      | none => rw [hxx] at hy; cases hy
      | some x' =>
      rw [hxx] at hy
      cases hy
      refine ⟨rfl, ?_⟩
      show ∃ v_1, _ ∧ _
      refine ⟨.ref c, rfl, c, rfl, ⟨_, hG2 p3⟩, ?_⟩
      refine inner_it (walk_list (K := K) (a := c) (xs := l.map V.str)) (fun i H4 => Lw rE ps H1 Dl (((ls.take k).flatMap prs ++ (l.take j).flatMap (prow l)) ++ ((l.take i).filter fun y => !decide (x' = y)).map fun y => (x', y)) H4) ?_ (fun _ _ _ p => hG2 p) (fun i x H4 H4' hi p4 y => ?_) (fun H4 p4 => ?_)
      · rw [List.take_zero, List.filter_nil, List.map_nil, List.append_nil]
        exact p3
      · obtain ⟨rfl, hy⟩ := y
        rw [List.getElem?_map] at hy
        cases hyy : l[i]? with
        | none => rw [hyy] at hy; cases hy
        | some y' =>
        rw [hyy] at hy
        cases hy
        refine ⟨rfl, ?_⟩
        have hlen : (((ls.take k).flatMap prs ++ (l.take j).flatMap (prow l)) ++ ((l.take i).filter fun y => !decide (x' = y)).map fun y => (x', y)).length < 50000 := by
          rw [List.length_append, List.length_append]
          have h1 := b1 k
          have h2 := b2 j
          have h3 := prow_len (l := l) (m := l.take i) (x := x')
          rw [List.length_take] at h3
          omega
        refine lw_test (H0 := H1) (b := (x', y')) (q := !decide (x' = y')) o1 hD p4 hlen ?_ (fun hq => ⟨?_, er_tup (er_var (v := .str x') rfl rfl) (er_var (v := .str y') rfl rfl)⟩) fun hq => ?_
        · refine et_is' (et_test' (er_B (ev_op (ev_var rfl) (ev_var rfl) (rv_ne rfl)))) ?_
          congr 1
          exact decide_eq_decide.mpr ⟨fun y => by injection y, fun y => by rw [y]⟩
        · rw [take_snoc hyy, List.filter_append, List.map_append, List.filter_cons, if_pos hq, ← List.append_assoc]
          rfl
        · rw [take_snoc hyy, List.filter_append, List.map_append, List.filter_cons, if_neg (by rw [hq]; decide)]
          rw [List.filter_nil, List.map_nil, List.append_nil]
      · rw [List.length_map, List.take_length] at p4
        rw [take_snoc hxx, List.flatMap_append, List.flatMap_cons, List.flatMap_nil, List.append_nil, ← List.append_assoc]
        exact p4
    · rw [List.length_map, List.take_length] at p3
      show Lw rE ps H1 Dl ((ls.take (k + 1)).flatMap prs) H3
      rw [take_snoc hl, List.flatMap_append, List.flatMap_cons, List.flatMap_nil, List.append_nil]
      exact p3
  · rw [ln, List.take_length] at p
    exact q _ _ (e1.trans p.1) (lw_end o1 hD p)
def pairsOf (s : Sht) : List (Str × Str) := srtT (s.1.flatMap prs)
theorem sc_sh_pairs : FnScope ["self", "names", "one", "other"] ["self"] (defScope (shS 12)) := ⟨rfl, rfl, rfl, by decide +kernel, rfl, by decide +kernel, by decide +kernel⟩
theorem ok_sh_pairs (T : Tx K mg fd) : FnOk P w K mg base CX0 1 (He.ma K (shC K) "pairs") (fd 49) ["self"] (Sp1H (rS_ K) (fun G => rLN G rE) pairsOf Sok) := by
  refine (T.dm 49 12 "pairs" "Sheet.pairs" rfl).ok sc_sh_pairs (fun vs H Q E h => ?len) (fun cdv A outer s H vs Q E hr h => ?body)
  case body =>
    refine ⟨_, (pss_one (ps_ret (pe_callB cr_sortedT2 (by rfl) (T.fr 51 "sorted" rfl) (by decide +kernel) (pa_cons (pe_lc3 (own := [("names", 1), ("one", 2), ("other", 3)]) (vs1 := [2, 3]) (vs2 := [3]) (wi1 := iList K (tVar 1)) (wi2 := iList K (tVar 1)) (g := gName 1) (g1 := gName 2) (g2 := gName 3) rfl sc_sh_pairs.nd (pi_list (pe_fld (pv 0) rfl)) (blkOk_by (N := ["self", "names", "one", "other"]) (sc := (defScope (shS 12))) (own := [("names", 1), ("one", 2), ("other", 3)]) (by decide +kernel)) (by decide) (by decide) (fun _ _ _ _ _ => (pg_name (i := 1) sc_sh_pairs.nd rfl (Or.inl rfl))) (fun _ _ _ _ _ => pts_nil) (fun _ _ _ _ _ => pi_list (pv 1)) (fun _ _ _ _ _ => (pg_name (i := 2) sc_sh_pairs.nd rfl (Or.inl rfl))) (fun _ _ _ _ _ => pts_nil) (fun _ _ _ _ _ => pi_list (pv 1)) (fun _ _ _ _ _ => (pg_name (i := 3) sc_sh_pairs.nd rfl (Or.inl rfl))) (fun _ _ _ _ _ => (pts_one (pt_cmpR op_ne (pv 2) (pv 3) (nomark _)))) (fun _ _ _ _ _ => (pe_tup (pa_cons (pv 2) (pa_cons (pv 3) pa_nil))))) pa_nil)))), ?_⟩
    obtain ⟨ps, v, s, rfl, o, r, ok, q⟩ := h
    exact s_retR o (er_sortedTL (Ex.refl H) (er_pairs (K := K) rfl (sh_levels (i := 0) rfl r T.cls (T.noat 56 "_levels" rfl)) ok.h12 ok.w18)) q
  case len =>
    obtain ⟨ps, v, s, rfl, _⟩ := h
    rfl
/-! ### repr -/
structure Sd (d : PyData) (n : Nat) : Prop where
  sh : d.showable = true
  lv : d.leavesShort 40 = true
  bk : d.bulk ≤ n
theorem Sd.all {ds : List PyData} {n : Nat} (h : ∀ d ∈ ds, Sd d n) : PyData.showableAll ds = true ∧ PyData.leavesShortAll 40 ds = true ∧ PyData.bulkAll ds ≤ (n + 1) * ds.length := by
  induction ds with
  | nil => exact ⟨rfl, rfl, Nat.zero_le _⟩
  | cons d r ih =>
    obtain ⟨h1, h2, h3⟩ := ih fun e he => h e (List.mem_cons_of_mem _ he)
    have hd := h d (List.mem_cons_self ..)
    refine ⟨?_, ?_, ?_⟩
    · show (PyData.showable d && PyData.showableAll r) = true
      rw [hd.sh, h1]; rfl
    · show (PyData.leavesShort 40 d && PyData.leavesShortAll 40 r) = true
      rw [hd.lv, h2]; rfl
    · show PyData.bulk d + 1 + PyData.bulkAll r ≤ _
      have := hd.bk
      rw [List.length_cons, Nat.mul_add, Nat.mul_one]
      omega
theorem Sd.list {ds : List PyData} {n m : Nat} (h : ∀ d ∈ ds, Sd d n) (hm : (n + 1) * ds.length ≤ m) : Sd (.list ds) m := let ⟨h1, h2, h3⟩ := Sd.all h; ⟨h1, h2, Nat.le_trans h3 hm⟩
theorem Sd.tup {ds : List PyData} {n m : Nat} (h : ∀ d ∈ ds, Sd d n) (hm : (n + 1) * ds.length ≤ m) : Sd (.tuple ds) m := let ⟨h1, h2, h3⟩ := Sd.all h; ⟨h1, h2, Nat.le_trans h3 hm⟩
theorem Sd.str {x : Str} (h : x.cps.size ≤ 100) (h2 : okS x) : Sd (.str x) 100 := ⟨rfl, by
  show (x.cps.toList.all fun c => decide (c < 16 ^ 8)) = true
  rw [List.all_eq_true]
  intro c hc
  unfold okS PyData.strOk at h2
  rw [Array.all_eq_true'] at h2
  have h3 := of_decide_eq_true (h2 c (by simpa using hc))
  have : (0x110000 : Nat) < 16 ^ 8 := by decide
  exact decide_eq_true (Nat.lt_trans h3 this), h⟩
theorem Sd.len {d : PyData} {n : Nat} (h : Sd d n) (hn : n ≤ 30000) : d.shown.length ≤ 2000000 := by
  have h1 := PyData.shown_le_bulk 40 (by decide) d h.lv
  have h2 : (40 + 2) * d.bulk ≤ 42 * 30000 := Nat.mul_le_mul (by decide) (Nat.le_trans h.bk hn)
  omega
def lvD (s : Sht) : List PyData := s.1.map fun l => .list (l.map PyData.str)
def lnD (s : Sht) : List PyData := s.2.map fun e => .tuple [.str e.1, .str e.2]
theorem lvD_sd {s : Sht} (ok : Sok s) : Sd (.list (lvD s)) 30000 := by
  refine Sd.list (n := 1818) (fun d hd => ?_) (by unfold lvD; rw [List.length_map]; have := ok.h12; omega)
  obtain ⟨l, hl, rfl⟩ := List.mem_map.mp hd
  refine Sd.list (n := 100) (fun d hd => ?_) (by rw [List.length_map]; have := ok.w18 l hl; omega)
  obtain ⟨z, hz, rfl⟩ := List.mem_map.mp hd
  exact Sd.str (isN_ok (ok.lv.names l hl z hz)) (sok_names ok l hl z hz)
theorem lnD_sd {s : Sht} (ok : Sok s) : Sd (.list (lnD s)) 30000 := by
  refine Sd.list (n := 202) (fun d hd => ?_) (by unfold lnD; rw [List.length_map]; have := ok.z; omega)
  obtain ⟨e, he, rfl⟩ := List.mem_map.mp hd
  obtain ⟨i, a, b, h1, h2, h3, h4⟩ := ok.fit e he
  refine Sd.tup (n := 100) (fun d hd => ?_) (by show 101 * 2 ≤ 202; decide)
  rcases List.mem_cons.mp hd with rfl | hd
  · exact Sd.str (isN_ok (ok.lv.names a (List.mem_of_getElem? h1) _ h3)) (sok_lines ok e he).1
  · rw [List.mem_singleton.mp hd]
    exact Sd.str (isN_ok (ok.lv.names b (List.mem_of_getElem? h2) _ h4)) (sok_lines ok e he).2
theorem depth_all {ds : List PyData} {n : Nat} (h : ∀ d ∈ ds, d.depth ≤ n) : PyData.depthAll ds ≤ n := by
  induction ds with
  | nil => exact Nat.zero_le _
  | cons d r ih => exact Nat.max_le.mpr ⟨h d (List.mem_cons_self ..), ih fun e he => h e (List.mem_cons_of_mem _ he)⟩
theorem lvD_dep (s : Sht) : (PyData.list (lvD s)).depth ≤ 40 := by
  show PyData.depthAll (lvD s) + 1 ≤ 40
  have := depth_all (ds := lvD s) (n := 1) fun d hd => by
    obtain ⟨l, hl, rfl⟩ := List.mem_map.mp hd
    show PyData.depthAll (l.map PyData.str) + 1 ≤ 1
    have := depth_all (ds := l.map PyData.str) (n := 0) fun d hd => by
      obtain ⟨z, _, rfl⟩ := List.mem_map.mp hd
      exact Nat.le_refl _
    omega
  omega
theorem lnD_dep (s : Sht) : (PyData.list (lnD s)).depth ≤ 40 := by
  show PyData.depthAll (lnD s) + 1 ≤ 40
  have := depth_all (ds := lnD s) (n := 1) fun d hd => by
    obtain ⟨e, _, rfl⟩ := List.mem_map.mp hd
    exact Nat.le_refl _
  omega
theorem dq_strs {H : Hp} : ∀ {l : List Str} {vs : List V}, All2 (fun x y => rS.p x y H) l vs → DqAll K H vs (l.map PyData.str)
  | [], [], _ => .nil
  | x :: l, v :: vs, h => by
    obtain ⟨h1, h2⟩ := h
    obtain rfl : v = .str x := h1
    exact .cons (.str x) (dq_strs h2)
  | [], _ :: _, h => h.elim
  | _ :: _, [], h => h.elim
theorem dq_lv {H : Hp} : ∀ {ls : List (List Str)} {vs : List V}, All2 (fun x y => (rL rS).p x y H) ls vs → DqAll K H vs (ls.map fun l => PyData.list (l.map PyData.str))
  | [], [], _ => .nil
  | x :: l, v :: vs, h => by
    obtain ⟨⟨a, us, rfl, ha, hu⟩, h2⟩ := h
    exact .cons (.lst (sq_of ha) (dq_strs hu)) (dq_lv h2)
  | [], _ :: _, h => h.elim
  | _ :: _, [], h => h.elim
theorem dq_ln {H : Hp} : ∀ {es : List (Str × Str)} {vs : List V}, All2 (fun x y => rE.p x y H) es vs → DqAll K H vs (es.map fun e => PyData.tuple [.str e.1, .str e.2])
  | [], [], _ => .nil
  | x :: l, v :: vs, h => by
    obtain ⟨⟨a, y, z, rfl, ha, hy, hz⟩, h2⟩ := h
    obtain rfl : y = .str x.1 := hy
    obtain rfl : z = .str x.2 := hz
    exact .cons (.tup (st_of ha) (.cons (.str _) (.cons (.str _) .nil))) (dq_ln h2)
  | [], _ :: _, h => h.elim
  | _ :: _, [], h => h.elim
theorem dqall_ex {H H' : Hp} (e : Ex H H') {vs : List V} {ds : List PyData} (h : DqAll K H vs ds) : DqAll K H' vs ds := by
  induction ds generalizing vs with
  | nil => cases h; exact .nil
  | cons d r ih => cases h with | cons h1 h2 => exact .cons (dq_ex e h1) (ih h2)
def reprT (s : Sht) : Str := ((((Str.empty ++ "Sheet(") ++ (PyData.list (lvD s)).shown) ++ ", ") ++ (PyData.list (lnD s)).shown) ++ ")"
theorem sc_sh_repr : FnScope ["self"] ["self"] (defScope (shS 19)) := ⟨rfl, rfl, rfl, by decide +kernel, rfl, by decide +kernel, by decide +kernel⟩
theorem ok_sh_repr (T : Tx K mg fd) : FnOkG P w K mg base CX0 1 (He.ma K (shC K) "__repr__") (fd 55) ["self"] (Sp1 (rS_ K) rS reprT Sok) := by
  refine (T.dm 55 19 "__repr__" "Sheet.__repr__" rfl).okG sc_sh_repr (fun vs H Q E h => ?len) (fun cdv A outer s H vs Q E hG hr h => ?body)
  case body =>
    refine ⟨_, (pss_one (ps_ret (pe_joined (.cons pe_str (.cons (pe_fmtRD hG hr.units (pe_fld (pv 0) rfl)) (.cons pe_str (.cons (pe_fmtRD hG hr.units (pe_fld (pv 0) rfl)) (.cons pe_str .nil)))))))), ?_⟩
    obtain ⟨ps, v, s, rfl, o, r, ok, q⟩ := h
    have hl := (lvD_sd ok).len (Nat.le_refl _)
    have hn := (lnD_sd ok).len (Nat.le_refl _)
    have l1 : (Str.empty ++ ("Sheet(" : Str)).length = 6 := rfl
    have l2 : ((", " : Str)).length = 2 := rfl
    have l3 : ((")" : Str)).length = 1 := rfl
    refine ⟨_, rfl, by rw [sizeLine_eq, l1]; decide, ?_⟩
    show tFmtRD _ _ _ _ _
    refine (sh_levels (i := 0) rfl r T.cls (T.noat 56 "_levels" rfl)) H (Ex.refl H) o _ fun v1 H1 e1 r1 => ?_
    obtain ⟨a, ys, rfl, ha, hy⟩ := r1
    refine ⟨a, ys, _, rfl, sq_of (Rm_ex _ _ ha), dqall_ex Rm_ex (dq_lv hy), (lvD_sd ok).sh, lvD_dep s, by rw [sizeLine_eq]; exact Nat.le_trans hl (by decide), _, rfl, by rw [sizeLine_eq, Str.length_append, l1]; exact Nat.le_trans (Nat.add_le_add_left hl 6) (by decide), ?_⟩
    refine ⟨_, rfl, by rw [sizeLine_eq, Str.length_append, Str.length_append, l1, l2]; exact Nat.le_trans (Nat.add_le_add_right (Nat.add_le_add_left hl 6) 2) (by decide), ?_⟩
    have r := (rS_ K).m (Rm_mono e1) r
    show tFmtRD _ _ _ _ _
    refine (sh_lines (i := 0) rfl r T.cls (T.noat 57 "_lines" rfl)) H1 (Ex.refl H1) (o.ex e1) _ fun v2 H2 e2 r2 => ?_
    obtain ⟨b, zs, rfl, hb, hz⟩ := r2
    have hlen4 : ((((Str.empty ++ ("Sheet(" : Str)) ++ (PyData.list (lvD s)).shown) ++ (", " : Str)) ++ (PyData.list (lnD s)).shown).length ≤ 5000000 := by
      rw [Str.length_append, Str.length_append, Str.length_append, l1, l2]
      omega
    refine ⟨b, zs, _, rfl, sq_of (Rm_ex _ _ hb), dqall_ex Rm_ex (dq_ln hz), (lnD_sd ok).sh, lnD_dep s, by rw [sizeLine_eq]; exact Nat.le_trans hn (by decide), _, rfl, by rw [sizeLine_eq]; exact Nat.le_trans hlen4 (by decide), ?_⟩
    refine ⟨_, rfl, by rw [sizeLine_eq, Str.length_append, l3]; exact Nat.le_trans (Nat.add_le_add_right hlen4 1) (by decide), ?_⟩
    exact q _ H2 (e1.trans e2) rfl
  case len =>
    obtain ⟨ps, v, s, rfl, _⟩ := h
    rfl
end
end K12
set_option Elab.async false
set_option linter.all false
set_option maxRecDepth 100000
set_option maxHeartbeats 4000000
namespace K12
open PySem PySem.Spec PyProof.Rows L2 Evl Gen RP
section
variable {P : Program} {w : World} {K : PySem.W.Frag} {mg : Str → Option Value} {base : Heap} {fd : Nat → FuncData}
def smallS (s : Sht) : Bool := if (decide ((6 : Int) < (s.1.length : Int)) || decide ((5 : Int) < mx (s.1.map lenI))) = true then false else (List.range (s.1.length - 1)).all fun n => decide ((gapOf s n).length ≤ 12)
theorem er_gap {ps : List Addr} {σ : L2.St} {H : Hp} {ta tb : TE} {s : Sht} {n : Nat} {E : XK} (h : EvR (rS_ K) ps ta σ H s) (h2 : EvR rN ps tb σ H n) (ok : Sok s) (hn : n + 1 < s.1.length) : EvR (rL rE) ps (tMeth (shC K) "gap" (Sp2H (rS_ K) rN (fun G => rLN G rE) gapOf (fun s n => Sok s ∧ n + 1 < s.1.length)) [] E ta (tCons tb tNil)) σ H (gapOf s n) := er_NL (er_meth1H (TH := fun G => rLN G rE) back_L ex00 h h2 (by decide +kernel) ⟨ok, hn⟩)
theorem sc_sh_is_small : FnScope ["self", "names", "number"] ["self"] (defScope (shS 14)) := ⟨rfl, rfl, rfl, by decide +kernel, rfl, by decide +kernel, by decide +kernel⟩
theorem ok_sh_is_small (T : Tx K mg fd) : FnOk P w K mg base CX0 5 (He.ma K (shC K) "is_small") (fd 50) ["self"] (Sp1 (rS_ K) rB smallS Sok) := by
  obtain ⟨tSL, hSL⟩ := T.sml
  obtain ⟨tSN, hSN⟩ := T.smn
  obtain ⟨tSI, hSI⟩ := T.smi
  refine (T.dm 50 14 "is_small" "Sheet.is_small" rfl).ok sc_sh_is_small (fun vs H Q E h => ?len) (fun cdv A outer s H vs Q E hr h => ?body)
  case body =>
    refine ⟨_, (pss_cons (ps_if (PW.pt (pw_or (pt_cmpR op_gt (pe_callB (call_ownLen (ok_sh_len T) (hr.mono (by decide)) (T.meth 71 "__len__" rfl) ((T.dm 51 15 "__len__" "Sheet.__len__" rfl).binds (ps := ["self"]) fun _ _ _ _ _ _ us hl => match us, hl with | [_], _ => rfl) .nil pass0) (by rfl) (T.fr 41 "len" rfl) (by decide +kernel) (pa_cons (pv 0) pa_nil)) (pe_glob (v := V.int 6) (by rfl) hSL ⟨_, rfl⟩) (nomark _)) (pw_or1 (pt_cmpR op_gt (pe_callB (cr_max rfl) (by rfl) (T.fr 46 "max" rfl) (by decide +kernel) (pa_cons (pe_lc (own := [("names", 1)]) (g := gName 1) rfl sc_sh_is_small.nd (pi_list (pe_fld (pv 0) rfl)) (blkOk_by (N := ["self", "names", "number"]) (sc := (defScope (shS 14))) (own := [("names", 1)]) (by decide +kernel)) (fun _ _ _ _ _ => (pg_name (i := 1) sc_sh_is_small.nd rfl (Or.inl rfl))) (fun _ _ _ _ _ => pts_nil) (fun _ _ _ _ _ => (pe_callB (r := rLen K) call_len (by rfl) (T.fr 41 "len" rfl) (by decide +kernel) (pa_cons (pv 1) pa_nil)))) pa_nil)) (pe_glob (v := V.int 5) (by rfl) hSN ⟨_, rfl⟩) (nomark _))))) (pss_one (ps_ret pe_bl)) pss_nil) (pss_one (ps_ret (pe_callB (cr_all rfl) (by rfl) (T.fr 42 "all" rfl) (by decide +kernel) (pa_cons (pe_lc (own := [("number", 2)]) (g := gName 2) rfl sc_sh_is_small.nd (pi_range1 (by rfl) (T.fr 45 "range" rfl) (pa_cons (pe_op op_sub (pe_callB (call_ownLen (ok_sh_len T) (hr.mono (by decide)) (T.meth 71 "__len__" rfl) ((T.dm 51 15 "__len__" "Sheet.__len__" rfl).binds (ps := ["self"]) fun _ _ _ _ _ _ us hl => match us, hl with | [_], _ => rfl) .nil pass0) (by rfl) (T.fr 41 "len" rfl) (by decide +kernel) (pa_cons (pv 0) pa_nil)) pe_int) pa_nil)) (blkOk_by (N := ["self", "names", "number"]) (sc := (defScope (shS 14))) (own := [("number", 2)]) (by decide +kernel)) (fun _ _ _ _ _ => (pg_name (i := 2) sc_sh_is_small.nd rfl (Or.inl rfl))) (fun _ _ _ _ _ => pts_nil) (fun _ _ _ _ _ => (pe_cmpR op_le (pe_callB (r := rLen K) call_len (by rfl) (T.fr 41 "len" rfl) (by decide +kernel) (pa_cons (pe_meth (sp := (Sp2H (rS_ K) rN (fun G => rLN G rE) gapOf (fun s n => Sok s ∧ n + 1 < s.1.length))) (pv 0) T.cls (T.meth 65 "gap" rfl) (ok_sh_gap T) (hr.mono (by decide)) ((T.dm 45 8 "gap" "Sheet.gap" rfl).binds (ps := ["self", "number"]) fun _ _ _ _ _ _ us hl => match us, hl with | [_, _], _ => rfl) .nil pass0 (pa_cons (pv 2) pa_nil)) pa_nil)) (pe_glob (v := V.int 12) (by rfl) hSI ⟨_, rfl⟩) (nomark _)))) pa_nil))))), ?_⟩
    obtain ⟨ps, v, s, rfl, o, r, ok, q⟩ := h
    have h12 := ok.h12
    have hp : 0 < s.1.length := List.length_pos_iff.mpr ok.lv.some
    refine q_whenR o (b := decide ((6 : Int) < (s.1.length : Int)) || decide ((5 : Int) < mx (s.1.map lenI))) (et_or' (et_test' (er_B (ev_op (ev_I o (er_lenO (er_var (i := 0) rfl r) ok)) ev_c rv_I0))) fun _ => et_test' (er_B (ev_op (ev_I o (er_max (ns := s.1.map lenI) (er_lc1 (R := rL rS) (S := rI) lenI (wk_list (sh_levels (i := 0) rfl r T.cls (T.noat 56 "_levels" rfl))) (by omega) (fun _ => rfl) fun l hl qs v H1 _ _ _ r => er_lenL (er_toQ (er_var (i := 1) rfl r))) (by rw [List.length_map]; exact hp))) ev_c rv_I0))) (fun hb H1 e1 => s_retR (o.ex e1) (er_B ev_c) fun v H2 e2 t => q v H2 (e1.trans e2) ?_) fun hb H1 e1 => ?_
    · have t' : v = .bl false := t
      rw [t']
      show V.bl false = V.bl _
      unfold smallS
      rw [if_pos hb]
    have r := (rS_ K).m (Rm_mono e1) r
    have o1 := o.ex e1
    refine s_retR o1 (er_is (er_all (er_lc1 (R := rN) (S := rB) (fun n => decide ((gapOf s n).length ≤ 12)) (wk_range (n := s.1.length - 1) (er_I (ev_is (ev_op (ev_I o1 (er_lenO (er_var (i := 0) rfl r) ok)) ev_c rv_I0) (congrArg V.int (by omega)))) (by omega)) (by rw [List.length_range]; omega) (fun _ => rfl) fun n hn qs v2 H2 e2 o2 x2 r2 => ?_)) ?_) fun v H2 e2 t => q v H2 (e1.trans e2) t
    · have hn' := List.mem_range.mp hn
      exact er_B (ev_is (ev_op (ev_I o2 (er_lenL (er_toQ (er_gap (er_var (i := 0) rfl ((rS_ K).m x2 r)) (er_var (i := 2) rfl r2) ok (by omega))))) ev_c rv_I0) (congrArg V.bl (decide_eq_decide.mpr (by omega))))
    · unfold smallS
      rw [if_neg (by rw [hb]; decide), List.all_map]
      rfl
  case len =>
    obtain ⟨ps, v, s, rfl, _⟩ := h
    rfl
end
end K12
set_option Elab.async false
set_option linter.all false
set_option maxRecDepth 100000
set_option maxHeartbeats 4000000
/-! what is drawn from the pot -/
namespace K12
open PySem PySem.Spec PyProof.Rows L2 Evl Gen RP
section
variable {α β γ : Type} {R : Rp α} {S : Rp β} {T : Rp γ} {K : PySem.W.Frag} {ps : List Addr} {p : Addr} {σ : L2.St} {H H' : Hp} {ta tb tc te : TE} {tr : TA} {tt t u : TT} {v w : V} {a : α} {C : α → Prop} {D : Ends} {tu tz : TS} {g : TG} {b x y : Bool} {i : Nat}
/-- all but the pot stands -/
def Pt (p : Addr) (H H' : Hp) : Prop := Ex (rem p H) (rem p H') ∧ Pot H' p
theorem pot_ex (h : Pot H p) (e : Ex H H') : Pot H' p := by
  obtain ⟨x', y', a1, a2⟩ := h
  exact ⟨x', y', e _ _ a1, a2⟩
theorem Pt.ex (h : Pot H p) (e : Ex H H') : Pt p H H' := ⟨rem_mono e, pot_ex h e⟩
theorem Pt.trans {H2 : Hp} (a : Pt p H H') (b : Pt p H' H2) : Pt p H H2 := ⟨a.1.trans b.1, b.2⟩
theorem Pt.own (h : Pt p H H') (o : Own ps H) : Own ps H' := fun q hq => by
  by_cases e : q = p
  · subst e
    obtain ⟨x', y', a1, a2⟩ := h.2
    exact ⟨_, a1, fun xs z => by cases z⟩
  · obtain ⟨ob, ho, hn⟩ := o q hq
    exact ⟨ob, rem_ex _ _ (h.1 _ _ (rem_at ho e)), hn⟩
theorem Pt.rm (h : Pt p H H') (m : p ∈ ps) : Ex (Rm ps H) (Rm ps H') := fun b u hb => by
  have hbn : b ∉ ps := fun mm => by rw [Rm_own mm] at hb; cases hb
  exact Rm_get (rem_ex _ _ (h.1 _ _ (rem_at (Rm_ex _ _ hb) fun z => hbn (z ▸ m)))) hbn
theorem Pt.fr (h : Pt p H H') (m : p ∈ ps) (o : Own ps H) : Fr ps H H' := ⟨h.own o, h.rm m⟩
def EvN (C : α → Prop) (R : Rp α) (ps : List Addr) (p : Addr) (te : TE) (σ : L2.St) (H : Hp) : Prop := ∀ H1, Ex H H1 → Own ps H1 → ∀ Q : VK, (∀ a v H2, Pt p H1 H2 → C a → R.p a v (Rm ps H2) → Q v H2) → te σ H1 Q
def EtN (b : Bool) (ps : List Addr) (p : Addr) (tt : TT) (σ : L2.St) (H : Hp) : Prop := ∀ H1, Ex H H1 → Own ps H1 → ∀ Q : Bool → Hp → Prop, (∀ H2, Pt p H1 H2 → Q b H2) → tt σ H1 Q
/-- a test that may come out either way -/
def EtQ (ps : List Addr) (p : Addr) (tt : TT) (σ : L2.St) (H : Hp) : Prop := ∀ H1, Ex H H1 → Own ps H1 → ∀ Q : Bool → Hp → Prop, (∀ b H2, Pt p H1 H2 → Q b H2) → tt σ H1 Q
theorem EtN.of (hp : Pot H p) (h : EtR ps t σ H b) : EtN b ps p t σ H := fun H1 e o Q q => h H1 e o Q fun H2 e2 => q H2 (Pt.ex (pot_ex hp e) e2)
theorem EvN.of (hp : Pot H p) (h : EvR R ps te σ H a) : EvN (fun z => z = a) R ps p te σ H := fun H1 e o Q q => h H1 e o Q fun v H2 e2 r => q a v H2 (Pt.ex (pot_ex hp e) e2) rfl r
theorem EvN.imp {C' : α → Prop} (h : EvN C R ps p te σ H) (k : ∀ a, C a → C' a) : EvN C' R ps p te σ H := fun H1 e o Q q => h H1 e o Q fun a v H2 f c r => q a v H2 f (k a c) r
theorem etn_or (m : p ∈ ps) (h1 : EtN x ps p t σ H) (h2 : x = false → ∀ H2, Pt p H H2 → EtN y ps p u σ H2) (hp : Pot H p) : EtN (x || y) ps p (tOr t u) σ H := fun H1 e o Q q => h1 H1 e o _ fun H2 f => by
  cases x with
  | true =>
    show Q true H2
    exact q H2 f
  | false =>
    show u σ H2 Q
    exact h2 rfl H2 ((Pt.ex hp e).trans f) H2 (Ex.refl _) (f.own o) Q fun H3 f3 => q H3 (f.trans f3)
theorem etn_not (h : EtN x ps p t σ H) : EtN (!x) ps p (tNot t) σ H := fun H1 e o Q q => h H1 e o _ fun H2 e2 => q H2 e2
theorem etn_B (h : EvN (fun z => z = b) rB ps p te σ H) : EtN b ps p (tB te) σ H := fun H1 e o Q q => h H1 e o _ fun z v H2 f c r => ⟨b, by rw [← c]; exact r, q H2 f⟩
theorem s_whenN (o : Own ps H) (h : EtN b ps p t σ H) (h1 : b = true → ∀ H1, Pt p H H1 → tu D σ H1) (h2 : b = false → ∀ H1, Pt p H H1 → D.nx σ H1) : tIfS t tu tNext D σ H := h H (Ex.refl H) o _ fun H1 f => by
  cases b with
  | true => exact h1 rfl H1 f
  | false => exact h2 rfl H1 f
theorem q_whenN (o : Own ps H) (h : EtN b ps p t σ H) (h1 : b = true → ∀ H1, Pt p H H1 → tu { D with nx := tz D } σ H1) (h2 : b = false → ∀ H1, Pt p H H1 → tz D σ H1) : tSeq (tIfS t tu tNext) tz D σ H := s_whenN (D := { D with nx := tz D }) o h h1 h2
theorem q_asgN (o : Own ps H) (h : EvN C R ps p te σ H) (k : ∀ a v H1, Pt p H H1 → C a → R.p a v (Rm ps H1) → tz D (σ.set i (some v)) H1) : tSeq (tAsg te (gName i)) tz D σ H := h H (Ex.refl H) o _ k
theorem s_asgN (o : Own ps H) (h : EvN C R ps p te σ H) (k : ∀ a v H1, Pt p H H1 → C a → R.p a v (Rm ps H1) → D.nx (σ.set i (some v)) H1) : tAsg te (gName i) D σ H := h H (Ex.refl H) o _ k
theorem s_retN (o : Own ps H) (h : EvN C R ps p te σ H) (k : ∀ a v H1, Pt p H H1 → C a → R.p a v (Rm ps H1) → D.rt v H1) : tRet te D σ H := h H (Ex.refl H) o _ k
/-- over a drawn list -/
theorem s_forN (o : Own ps H) (h : EvN C R ps p te σ H) (k : ∀ a v H1, Pt p H H1 → C a → R.p a v (Rm ps H1) → tFor (iList K (tC v)) g tu D σ H1) : tFor (iList K te) g tu D σ H := h H (Ex.refl H) o _ k
theorem q_forN (o : Own ps H) (h : EvN C R ps p te σ H) (k : ∀ a v H1, Pt p H H1 → C a → R.p a v (Rm ps H1) → tSeq (tFor (iList K (tC v)) g tu) tz D σ H1) : tSeq (tFor (iList K te) g tu) tz D σ H := h H (Ex.refl H) o _ k
theorem en_if (hp : Pot H p) (h : EtQ ps p t σ H) (h1 : ∀ H2, Pt p H H2 → EvR R ps ta σ H2 a) (h2 : ∀ H2, Pt p H H2 → EvR R ps tb σ H2 a) : EvN (fun z => z = a) R ps p (tIf t ta tb) σ H := fun H1 e o Q q => h H1 e o _ fun b H2 f => by
  have f2 := (Pt.ex hp e).trans f
  have go : ∀ {tx : TE}, EvR R ps tx σ H2 a → tx σ H2 Q := fun g => g H2 (Ex.refl _) (f.own o) Q fun v H3 e3 r => q a v H3 (f.trans (Pt.ex f.2 e3)) rfl r
  cases b with
  | true =>
    show ta σ H2 Q
    exact go (h1 H2 f2)
  | false =>
    show tb σ H2 Q
    exact go (h2 H2 f2)
/-! ### draws -/
theorem en_draw {m : Nat} {E : XK} (hp : Pot H p) (hi : σ[i]? = some (some (.ref p))) (h : EvR rI ps tb σ H (m : Int)) (h0 : 0 < m) (h1 : m ≤ 1000000000) : EvN (fun n => n < m) rN ps p (tCall spDraw [] E (tCons (tVar i) (tCons tb tNil))) σ H := fun H1 e o Q q =>
  ⟨_, hi, h H1 e o _ fun v H2 e2 r => by
    obtain rfl : v = .int (m : Int) := r
    refine ⟨p, m, rfl, pot_ex hp (e.trans e2), by omega, by omega, fun d H3 x hp3 d0 d1 => ?_⟩
    obtain ⟨n, rfl⟩ := Int.eq_ofNat_of_zero_le d0
    exact q n _ H3 ⟨(rem_mono e2).trans x, hp3⟩ (by omega) rfl⟩
theorem etq_draw {m : Nat} {j : Int} {E : XK} (hp : Pot H p) (hi : σ[i]? = some (some (.ref p))) (h : EvR rI ps tb σ H (m : Int)) (h0 : 0 < m) (h1 : m ≤ 1000000000) : EtQ ps p (tTest (tOp rEq (tCall spDraw [] E (tCons (tVar i) (tCons tb tNil))) (tC (.int j)))) σ H := fun H1 e o Q q =>
  en_draw (p := p) hp hi h h0 h1 H1 e o _ fun n v H2 f c r => by
    obtain rfl : v = .int (n : Int) := r
    exact ⟨rfl, _, rfl, q _ H2 f⟩
theorem all2_perm {P : α → V → Prop} : ∀ {xs ys : List V} {as : List α}, ys.Perm xs → All2 P as xs → ∃ bs, bs.Perm as ∧ All2 P bs ys := by
  intro xs ys as h
  induction h generalizing as with
  | nil => exact fun q => ⟨as, List.Perm.refl _, q⟩
  | cons x _ ih =>
    intro q
    cases as with
    | nil => exact q.elim
    | cons a r =>
      obtain ⟨bs, h1, h2⟩ := ih q.2
      exact ⟨a :: bs, h1.cons a, q.1, h2⟩
  | swap x y l =>
    intro q
    match as, q with
    | a :: b :: r, q => exact ⟨b :: a :: r, List.Perm.swap .., q.2.1, q.1, q.2.2⟩
  | trans _ _ ih1 ih2 =>
    intro q
    obtain ⟨bs, h1, h2⟩ := ih2 q
    obtain ⟨cs, h3, h4⟩ := ih1 h2
    exact ⟨cs, h3.trans h1, h4⟩
theorem all2_split {P : α → V → Prop} : ∀ {ys zs : List V} {as : List α}, All2 P as (ys ++ zs) → ∃ bs cs, as = bs ++ cs ∧ All2 P bs ys ∧ All2 P cs zs
  | [], zs, as, q => ⟨[], as, rfl, trivial, q⟩
  | y :: ys, zs, [], q => q.elim
  | y :: ys, zs, a :: as, q => by
    obtain ⟨bs, cs, h1, h2, h3⟩ := all2_split (ys := ys) (zs := zs) (as := as) q.2
    exact ⟨a :: bs, cs, by rw [h1]; rfl, ⟨q.1, h2⟩, h3⟩
theorem en_some {as : List α} {m : Nat} {E : XK} (mp : p ∈ ps) (hp : Pot H p) (hi : σ[i]? = some (some (.ref p))) (h : EvR (rL R) ps tb σ H as) (h2 : EvR rI ps tc σ H (m : Int)) (hm : m ≤ as.length) (hz : as.length ≤ 1000) :
    EvN (fun bs => ∃ cs, (bs ++ cs).Perm as ∧ bs.length = m) (rL R) ps p (tCall (spSome K) [] E (tCons (tVar i) (tCons tb (tCons tc tNil)))) σ H := fun H1 e o Q q =>
  ⟨_, hi, h H1 e o _ fun v H2 e2 r => h2 H2 (e.trans e2) (o.ex e2) _ fun w H3 e3 r3 => by
    obtain rfl : w = .int (m : Int) := r3
    obtain ⟨l, vs, rfl, hl, hv⟩ := (rL R).m (Rm_mono e3) r
    have nl : l ≠ p := fun z => by rw [z, Rm_own mp] at hl; cases hl
    have hp3 := pot_ex hp ((e.trans e2).trans e3)
    refine ⟨p, l, vs, m, rfl, hp3, sq_of (rem_at (Rm_ex _ _ hl) nl), by rw [← hv.len]; exact hm, by rw [← hv.len]; exact hz, fun ys zs q' H4 h5 h6 h7 h8 h9 h10 => ?_⟩
    have f : Pt p H3 H4 := ⟨h7, h8⟩
    obtain ⟨ds, h11, h12⟩ := all2_perm h5 hv
    obtain ⟨bs, cs, rfl, h13, h14⟩ := all2_split h12
    have o3 := o.ex (e2.trans e3)
    have nq : q' ∉ ps := fun mm => by
      by_cases ez : q' = p
      · rw [ez, rem_p] at h10; cases h10
      · obtain ⟨ob, ho, _⟩ := o3 q' mm
        rw [rem_at ho ez] at h9
        cases h9
    exact q bs _ H4 ((Pt.ex (pot_ex hp e) (e2.trans e3)).trans f) ⟨cs, h11, by rw [h13.len, h6]⟩ ⟨q', ys, rfl, Rm_get (rem_ex _ _ h10) nq, h13.imp fun _ _ r => R.m (f.rm mp) r⟩⟩
theorem en_pick {as : List α} {E : XK} (mp : p ∈ ps) (hp : Pot H p) (hi : σ[i]? = some (some (.ref p))) (h : EvR (rL R) ps tb σ H as) (h0 : 0 < as.length) (hz : as.length ≤ 1000) :
    EvN (fun a => a ∈ as) R ps p (tCall (spPick K) [] E (tCons (tVar i) (tCons tb tNil))) σ H := fun H1 e o Q q =>
  ⟨_, hi, h H1 e o _ fun v H2 e2 r => by
    obtain ⟨l, vs, rfl, hl, hv⟩ := r
    have nl : l ≠ p := fun z => by rw [z, Rm_own mp] at hl; cases hl
    refine ⟨p, l, vs, rfl, pot_ex hp (e.trans e2), rem_at (Rm_ex _ _ hl) nl, by rw [← hv.len]; exact h0, by rw [← hv.len]; exact hz, fun x H3 hx h7 h8 => ?_⟩
    have f : Pt p H2 H3 := ⟨h7, h8⟩
    obtain ⟨j, hj⟩ := List.mem_iff_getElem?.mp hx
    obtain ⟨a, ha, hr⟩ := hv.getv hj
    exact q a x H3 ((Pt.ex (pot_ex hp e) e2).trans f) (List.mem_of_getElem? ha) (R.m (f.rm mp) hr)⟩
/-- promises with the pot ahead -/
def SpD (R : Rp α) (C : α → Prop) : Sp := fun vs H Q _ => ∃ ps p v a, vs = [.ref p, v] ∧ p ∈ ps ∧ Own ps H ∧ Pot H p ∧ R.p a v (Rm ps H) ∧ C a ∧ ∀ H', Pt p H H' → Q (.bl true) H'
theorem en_callD {E : XK} (mp : p ∈ ps) (hp : Pot H p) (hi : σ[i]? = some (some (.ref p))) (h : EvR R ps tb σ H a) (hc : C a) : EvN (fun z => z = true) rB ps p (tCall (SpD R C) [] E (tCons (tVar i) (tCons tb tNil))) σ H := fun H1 e o Q q =>
  ⟨_, hi, h H1 e o _ fun v H2 e2 r => ⟨ps, p, v, a, rfl, mp, o.ex e2, pot_ex hp (e.trans e2), r, hc, fun H3 f => q true _ H3 ((Pt.ex (pot_ex hp e) e2).trans f) rfl rfl⟩⟩
theorem en_callDG {E : XK} (mp : p ∈ ps) (hp : Pot H p) (hi : σ[i]? = some (some (.ref p))) (h : EvR R ps tb σ H a) (hc : C a) : EvN (fun z => z = true) rB ps p (tCallG (SpD R C) E (tCons (tVar i) (tCons tb tNil))) σ H := fun H1 e o Q q =>
  ⟨_, hi, h H1 e o _ fun v H2 e2 r => ⟨ps, p, v, a, rfl, mp, o.ex e2, pot_ex hp (e.trans e2), r, hc, fun H3 f => q true _ H3 ((Pt.ex (pot_ex hp e) e2).trans f) rfl rfl⟩⟩
end
end K12
set_option Elab.async false
set_option linter.all false
set_option maxRecDepth 100000
set_option maxHeartbeats 4000000
namespace K12
open PySem PySem.Spec PyProof.Rows L2 Evl Gen RP ItX
section
variable {P : Program} {w : World} {K : PySem.W.Frag} {mg : Str → Option Value} {base : Heap} {fd : Nat → FuncData}
theorem er_lenLs {α : Type} {R : Rp α} {ps : List Addr} {σ : L2.St} {H : Hp} {ta : TE} {as : List α} {p : Addr} (l : Ls R ps H p as) (ha : Ev ta σ H (.ref p)) {r : List V → Hp → VK → Prop} (hr : ∀ a vs H1 (Q : VK), Sq K H1 a vs → Q (.int (vs.length : Int)) H1 → r [.ref a] H1 Q) : Ev (tCB r (tCons ta tNil)) σ H (.int (as.length : Int)) := fun H1 e Q q => ha H1 e _ fun H2 e2 => by
  obtain ⟨m, vs, h1, h2⟩ := l
  refine hr p vs H2 Q (.inl (sq_of ((e.trans e2) _ _ h1))) ?_
  rw [← h2.len]
  exact q H2 e2
theorem Ls.oth' {α : Type} {R : Rp α} {ps : List Addr} {H H' : Hp} {p q : Addr} {as : List α} (h : Ls R ps H q as) (n : q ≠ p) (o : Oth p H H') (f : Fr ps H H') : Ls R ps H' q as := h.oth n o f
/-! ### what hangs together -/
inductive Con (es : List (Str × Str)) : Str → Str → Prop
  | refl (a : Str) : Con es a a
  | step {a b c : Str} : Con es a b → ((b, c) ∈ es ∨ (c, b) ∈ es) → Con es a c
def poolL : List Str := [("a" : Str), ("b" : Str), ("c" : Str), ("0" : Str), ("1" : Str), ("10" : Str), ("2" : Str), ("zzzzzz" : Str), ("999999" : Str), ("x9" : Str), ("level" : Str), ("line" : Str), ("a1" : Str), ("ab" : Str), ("aa" : Str), ("node" : Str)] ++ (List.range 40).map fun i : Nat => ("n" : Str) ++ Str.ofString (toString (i : Int))
theorem pool_nd : poolL.Nodup := by decide +kernel
theorem pool_nm : ∀ z ∈ poolL, isN (.str z) = true := by decide +kernel
theorem pool_len : poolL.length = 56 := by unfold poolL; rw [List.length_append, List.length_map, List.length_range]; rfl
def spPool : Sp := fun vs H Q _ => ∃ ps, vs = [] ∧ Own ps H ∧ ∀ v H', Ex H H' → (rL rS).p poolL v (Rm ps H') → Q v H'
theorem er_pool {ps : List Addr} {σ : L2.St} {H : Hp} {E : XK} : EvR (rL rS) ps (tCall spPool [] E tNil) σ H poolL := fun H1 e o Q q => ⟨ps, rfl, o, q⟩
theorem sc_law_pool : FnScope ["_law_found", "_law_at"] [] (defScope (topS 41)) := ⟨rfl, rfl, rfl, by decide +kernel, rfl, by decide +kernel, by decide +kernel⟩
theorem ok_law_pool (T : Tx K mg fd) : FnOk P w K mg base CX0 1 (He.ga K "_law_pool") (fd 15) [] spPool := by
  refine (T.df 15 41 "_law_pool" rfl).ok sc_law_pool (fun vs H Q E h => ?len) (fun cdv A outer s H vs Q E hr h => ?body)
  case body =>
    refine ⟨_, (pss_cons (ps_set (i := 0) sc_law_pool.nd rfl (Or.inl rfl) (pe_lst (pa_cons pe_str (pa_cons pe_str (pa_cons pe_str (pa_cons pe_str (pa_cons pe_str (pa_cons pe_str (pa_cons pe_str (pa_cons pe_str (pa_cons pe_str (pa_cons pe_str (pa_cons pe_str (pa_cons pe_str (pa_cons pe_str (pa_cons pe_str (pa_cons pe_str (pa_cons pe_str pa_nil)))))))))))))))))) (pss_one (ps_ret (pe_op op_cat (pv 0) (pe_lc (own := [("_law_at", 1)]) (g := gName 1) rfl sc_law_pool.nd (pi_range1 (by rfl) (T.fr 45 "range" rfl) (pa_cons pe_int pa_nil)) (blkOk_by (N := ["_law_found", "_law_at"]) (sc := (defScope (topS 41))) (own := [("_law_at", 1)]) (by decide +kernel)) (fun _ _ _ _ _ => (pg_name (i := 1) sc_law_pool.nd rfl (Or.inl rfl))) (fun _ _ _ _ _ => pts_nil) (fun _ _ _ _ _ => (pe_op op_add_str pe_str (pe_callTy call_str_int (by rfl) (T.fr 37 "str" rfl) (by decide +kernel) (pa_cons (pv 1) pa_nil))))))))), ?_⟩
    obtain ⟨ps, rfl, o, q⟩ := h
    refine q_asgR' o (er_lst (R := rS) (eas_cons (er_S ev_c) (eas_cons (er_S ev_c) (eas_cons (er_S ev_c) (eas_cons (er_S ev_c) (eas_cons (er_S ev_c) (eas_cons (er_S ev_c) (eas_cons (er_S ev_c) (eas_cons (er_S ev_c) (eas_cons (er_S ev_c) (eas_cons (er_S ev_c) (eas_cons (er_S ev_c) (eas_cons (er_S ev_c) (eas_cons (er_S ev_c) (eas_cons (er_S ev_c) (eas_cons (er_S ev_c) (eas_cons (er_S ev_c) eas_nil)))))))))))))))) (by show 16 ≤ 100000; decide)) fun v H1 e1 r1 => ?_
    have o1 := o.ex e1
    refine s_retR o1 (er_cat (er_var (i := 0) rfl r1) (er_lc1 (R := rN) (S := rS) (fun i : Nat => ("n" : Str) ++ Str.ofString (toString (i : Int))) (wk_range (n := 40) (er_I ev_c) (by decide)) (by decide) (fun _ => rfl) fun i hi qs v H2 e2 o2 x2 r2 => ?_) (by rw [List.length_map, List.length_range]; decide)) fun v2 H2 e2 t2 => q v2 H2 (e1.trans e2) t2
    obtain rfl : v = .int (i : Int) := r2
    have hi40 := List.mem_range.mp hi
    refine fun H3 e3 o3 Q3 q3 => ?_
    refine ⟨.int (i : Int), rfl, (i : Int), rfl, ?_, _, _, rfl, rfl, ?_, q3 _ H3 (Ex.refl _) rfl⟩
    · have : ∀ j : Nat, j < 40 → (j : Int).natAbs.log2 < 1920 := by decide +kernel
      exact this i hi40
    · have : ∀ j : Nat, j < 40 → ("n" : Str).length + (Str.ofString (toString (j : Int))).length ≤ 100 := by decide +kernel
      exact Nat.le_trans (this i hi40) (by rw [sizeLine_eq]; decide)
  case len =>
    obtain ⟨ps, rfl, _⟩ := h
    rfl
def colL (x : List Str × List Str) (lo : Str) : List (Str × Str) := x.2.map fun hi => (lo, hi)
def rowL (x : List Str × List Str) : List (Str × Str) := x.1.flatMap (colL x)
def allL (rows : List (List Str)) : List (Str × Str) := (rows.zip (rows.drop 1)).flatMap rowL
def spAll : Sp := fun vs H Q _ => ∃ ps v rows, vs = [v] ∧ Own ps H ∧ (rL (rL rS)).p rows v (Rm ps H) ∧ rows.length ≤ 12 ∧ (∀ l ∈ rows, l.length ≤ 18) ∧ ∀ l H', H l = none → Ex H H' → (rL rE).p (allL rows) (.ref l) (Rm ps H') → Q (.ref l) H'
theorem sc_law_all_lines : FnScope ["_law_rows", "_law_found", "_law_below_row", "_law_row", "_law_low", "_law_high"] ["_law_rows"] (defScope (topS 43)) := ⟨rfl, rfl, rfl, by decide +kernel, rfl, by decide +kernel, by decide +kernel⟩
theorem ok_law_all_lines (T : Tx K mg fd) : FnOk P w K mg base CX0 1 (He.ga K "_law_all_lines") (fd 17) ["_law_rows"] spAll := by
  refine (T.df 17 43 "_law_all_lines" rfl).ok sc_law_all_lines (fun vs H Q E h => ?len) (fun cdv A outer s H vs Q E hr h => ?body)
  case body =>
    refine ⟨_, (pss_cons (ps_set (i := 1) sc_law_all_lines.nd rfl (Or.inl rfl) (pe_lst pa_nil)) (pss_cons (ps_for PassesOwn.never rfl (pi_zip (by rfl) (T.fr 52 "zip" rfl) (pa_cons (pv 0) (pa_cons (pe_slice sl_list (pv 0) (po_some pe_int) po_none) pa_nil))) (pg_tup rfl (pgs_cons (pg_name (i := 2) sc_law_all_lines.nd rfl (Or.inl rfl)) (pgs_cons (pg_name (i := 3) sc_law_all_lines.nd rfl (Or.inl rfl)) pgs_nil))) (pss_one (ps_for PassesOwn.never rfl (pi_list (pv 2)) (pg_name (i := 4) sc_law_all_lines.nd rfl (Or.inr rfl)) (pss_one (ps_expr (pe_bm PySem.F.plainAttrs_list PySem.F.slot_list_extend PySem.F.type_list_extend mt_extend (pv 1) (pa_cons (pe_lc (own := [("_law_high", 5)]) (g := gName 5) rfl sc_law_all_lines.nd (pi_list (pv 3)) (blkOk_by (N := ["_law_rows", "_law_found", "_law_below_row", "_law_row", "_law_low", "_law_high"]) (sc := (defScope (topS 43))) (own := [("_law_high", 5)]) (by decide +kernel)) (fun _ _ _ _ _ => (pg_name (i := 5) sc_law_all_lines.nd rfl (Or.inl rfl))) (fun _ _ _ _ _ => pts_nil) (fun _ _ _ _ _ => (pe_tup (pa_cons (pv 4) (pa_cons (pv 5) pa_nil))))) pa_nil))))))) (pss_one (ps_ret (pv 1))))), ?_⟩
    obtain ⟨ps, v, rows, rfl, o, r, h12, h18, q⟩ := h
    refine q_new (R := rE) o fun q' H1 e1 nq hq o1 x1 l1 => ?_
    have r1 := (rL (rL rS)).m x1 r
    have lz : ((rows.zip (rows.drop 1))).length ≤ 12 := by rw [List.length_zip]; exact Nat.le_trans (Nat.min_le_left _ _) h12
    have zrow : ∀ x ∈ rows.zip (rows.drop 1), x.1.length ≤ 18 ∧ x.2.length ≤ 18 := fun x hx => by
      have h := List.of_mem_zip hx
      exact ⟨h18 _ h.1, h18 _ (List.mem_of_mem_drop h.2)⟩
    have lenr : ∀ x ∈ rows.zip (rows.drop 1), (rowL x).length ≤ 324 := fun x hx => by
      have h := zrow x hx
      have h2 : (rowL x).length ≤ _ := flatMap_len (l := x.1) (f := colL x) (c := 18) fun lo _ => by unfold colL; rw [List.length_map]; exact h.2
      omega
    have lena : ∀ i, (((rows.zip (rows.drop 1)).take i).flatMap rowL).length ≤ 12 * 324 := fun i => by
      refine Nat.le_trans (flatMap_len (c := 324) fun x hx => lenr x (List.mem_of_mem_take hx)) (Nat.mul_le_mul_right _ (Nat.le_trans (by rw [List.length_take]; exact Nat.min_le_right _ _) lz))
    refine q_forW (xs := rows.zip (rows.drop 1)) o1 (wk_zip (er_var (i := 0) rfl r1) (er_is (er_sl (er_var (i := 0) rfl r1) (eo_some ev_c) eo_none) ?_)) (fun i σ' H' => (∃ o2 o3 o4, σ' = [some v, some (.ref q'), o2, o3, o4, none]) ∧ Ls rE (q' :: ps) H' q' (((rows.zip (rows.drop 1)).take i).flatMap rowL) ∧ Ex H H')
      (fun H2 e2 => ⟨⟨none, none, none, rfl⟩, by rw [List.take_zero]; exact l1.ex e2, e1.trans e2⟩) (fun _ _ _ _ e p => ⟨p.1, p.2.1.ex e, p.2.2.trans e⟩) (fun H2 e2 i x u σ' H3 hx f3 f13 pv ru => ?_) fun σ' H2 f2 pv => ?_
    · show ((rows.drop (HT.sIx rows.length 0 (some 1))).take (HT.sIx rows.length rows.length none - HT.sIx rows.length 0 (some 1))) = rows.drop 1
      have e1 : HT.sIx rows.length 0 (some 1) = min 1 rows.length := HT.sIx_nat _ 1 _
      have e2 : HT.sIx rows.length rows.length none = rows.length := rfl
      rw [e1, e2]
      by_cases h0 : rows = []
      · subst h0; rfl
      · have := List.length_pos_iff.mpr h0
        rw [Nat.min_eq_left this, List.take_of_length_le (by rw [List.length_drop]; omega)]
    · obtain ⟨⟨o2, o3, o4, rfl⟩, l3, eH⟩ := pv
      obtain ⟨a, y, z, rfl, ha, ry, rz⟩ := ru
      have hxm := List.mem_of_getElem? hx
      have hw := zrow x hxm
      refine ⟨a, _, rfl, st_of (Rm_ex _ _ ha), rfl, _, _, rfl, _, _, rfl, rfl, ?_⟩
      refine s_forW f13.1 (wk_list (er_var (i := 2) rfl ry)) (fun j σ' H' => (∃ o4, σ' = [some v, some (.ref q'), some y, some z, o4, none]) ∧ Ls rE (q' :: ps) H' q' ((((rows.zip (rows.drop 1)).take i).flatMap rowL) ++ (x.1.take j).flatMap (colL x)) ∧ Ex H H')
        (fun H4 e4 => ⟨⟨o4, rfl⟩, by rw [List.take_zero, List.flatMap_nil, List.append_nil]; exact l3.ex e4, eH.trans e4⟩) (fun _ _ _ _ e p => ⟨p.1, p.2.1.ex e, p.2.2.trans e⟩) (fun H4 e4 j lo u σ' H5 hlo f5 f35 pv ru => ?_) fun σ' H4 f4 pv => ?_
      · obtain ⟨⟨o5, rfl⟩, l5, eH5⟩ := pv
        obtain rfl : u = .str lo := ru
        have rz5 := (rL rS).m f35.2 rz
        have h1 := lena i
        have h2 := flatMap_len (l := x.1.take j) (f := colL x) (c := 18) fun lo _ => by unfold colL; rw [List.length_map]; exact hw.2
        have h3 : (x.1.take j).length ≤ 18 := by rw [List.length_take]; omega
        refine s_extR f35.1 l5 (ev_var (i := 1) rfl) (er_lc1 (R := rS) (S := rE) (fun hi => (lo, hi)) (wk_list (er_var (i := 3) rfl rz5)) (by omega) (fun _ => rfl) fun hi hhi qs v6 H6 e6 o6 x6 r6 => er_tup (er_var (v := .str lo) (i := 4) rfl rfl) (er_var (i := 5) rfl r6)) (by rw [List.length_append, List.length_map]; omega) fun H6 f6 l6 ot6 => ?_
        exact ⟨f5.trans f6, ⟨_, rfl⟩, by rw [take_snoc hlo, List.flatMap_append, List.flatMap_cons, List.flatMap_nil, List.append_nil, ← List.append_assoc]; exact l6, Oth.back eH5 ot6 hq⟩
      · obtain ⟨⟨o5, rfl⟩, l4, eH4⟩ := pv
        rw [List.take_length] at l4
        exact ⟨f3.trans f4, ⟨_, _, _, rfl⟩, by rw [take_snoc hx, List.flatMap_append, List.flatMap_cons, List.flatMap_nil, List.append_nil]; exact l4, eH4⟩
    · obtain ⟨⟨o2, o3, o4, rfl⟩, l2, eH⟩ := pv
      rw [List.take_length] at l2
      exact s_ret (ev_var rfl) fun H3 e3 => q q' H3 hq (eH.trans e3) ((l2.ex e3).rep nq)
  case len =>
    obtain ⟨ps, v, rows, rfl, _⟩ := h
    rfl
theorem sc_law_sheet : FnScope ["_law_plan_here", "_law_row"] ["_law_plan_here"] (defScope (topS 44)) := ⟨rfl, rfl, rfl, by decide +kernel, rfl, by decide +kernel, by decide +kernel⟩
theorem ok_law_sheet (T : Tx K mg fd) : FnOk P w K mg base CX0 7 (He.ga K "_law_sheet") (fd 18) ["_law_plan_here"] (Sp1 (rP (rL (rL rS)) (rL rE)) (rS_ K) (fun x => mkS x.1 x.2) (fun x => Mk' x.1 x.2)) := by
  refine (T.df 18 44 "_law_sheet" rfl).ok sc_law_sheet (fun vs H Q E h => ?len) (fun cdv A outer s H vs Q E hr h => ?body)
  case body =>
    refine ⟨_, (pss_one (ps_ret (pe_make T.mkr (ok_sh_init T) (hr.mono (by decide)) (by rfl) (T.gl 33 "Sheet" rfl) (bi3 T) .nil pass0 (pa_cons (pe_lc (own := [("_law_row", 1)]) (g := gName 1) rfl sc_law_sheet.nd (pi_list (pe_ix (r := rIxT K) ix_tup (pv 0) pe_int (fun _ _ => rfl))) (blkOk_by (N := ["_law_plan_here", "_law_row"]) (sc := (defScope (topS 44))) (own := [("_law_row", 1)]) (by decide +kernel)) (fun _ _ _ _ _ => (pg_name (i := 1) sc_law_sheet.nd rfl (Or.inl rfl))) (fun _ _ _ _ _ => pts_nil) (fun _ _ _ _ _ => (pe_callTy (r := rListS K) call_list_of (by rfl) (T.fr 38 "list" rfl) (by decide +kernel) (pa_cons (pv 1) pa_nil)))) (pa_cons (pe_callTy (r := rListS K) call_list_of (by rfl) (T.fr 38 "list" rfl) (by decide +kernel) (pa_cons (pe_ix (r := rIxT K) ix_tup (pv 0) pe_int (fun _ _ => rfl)) pa_nil)) pa_nil))))), ?_⟩
    obtain ⟨ps, v, x, rfl, o, r, ok, q⟩ := h
    have h12 := ok.h12
    exact s_retR o (er_make (er_is (er_lc1 (R := rL rS) (S := rL rS) id (wk_list (er_fst (er_var (i := 0) rfl r) (er_I ev_c))) (by omega) (fun _ => rfl) fun l hl qs v1 H1 e1 o1 x1 r1 => er_list (er_toQ (er_var (i := 1) rfl r1))) (List.map_id _)) (er_list (er_toQ (er_snd (er_var (i := 0) rfl r) (er_I ev_c)))) ok) q
  case len =>
    obtain ⟨ps, v, x, rfl, _⟩ := h
    rfl
end
end K12
set_option Elab.async false
set_option linter.all false
set_option maxRecDepth 100000
set_option maxHeartbeats 4000000
/-! a drawn plan: own lists that are popped from -/
namespace K12
open PySem PySem.Spec PyProof.Rows L2 Evl Gen RP
section
variable {α β γ : Type} {R : Rp α} {S : Rp β} {K : PySem.W.Frag} {ps qs : List Addr} {p l q : Addr} {σ : L2.St} {H H' H1 H2 : Hp} {ta tb tc te : TE} {D : Ends} {tu tz : TS} {g : TG} {C : Nat → Prop} {E : XK} {i j : Nat}
theorem Pt.back (f : Pt p H H1) (o : Oth l H1 H2) (hl : H l = none) (h : Pot H2 p) : Pt p H H2 := ⟨fun b u hb => by
  have hb1 := f.1 b u hb
  have n : b ≠ l := fun z => by
    have := rem_ex _ _ hb
    rw [z, hl] at this
    cases this
  have np : b ≠ p := fun z => by rw [z, rem_p] at hb; cases hb
  exact rem_at (o b u n (rem_ex _ _ hb1)) np, h⟩
theorem pot_oth (h : Pot H p) (o : Oth l H H') (n : p ≠ l) : Pot H' p := by
  obtain ⟨x', y', a1, a2⟩ := h
  exact ⟨x', y', o p _ n a1, a2⟩
theorem Rm_sub (h : ∀ x ∈ ps, x ∈ qs) : Ex (Rm qs H) (Rm ps H) := fun b u hb => by
  have n : b ∉ qs := fun m => by rw [Rm_own m] at hb; cases hb
  exact Rm_get (Rm_ex _ _ hb) fun m => n (h b m)
theorem _root_.RP.Ls.rep_of {as : List α} {a : Addr} (h : Ls R qs H a as) (hs : ∀ x ∈ ps, x ∈ qs) (n : a ∉ ps) : (rL R).p as (.ref a) (Rm ps H) := let ⟨_, vs, h1, h2⟩ := h; ⟨a, vs, rfl, Rm_get h1 n, h2.imp fun _ _ r => R.m (Rm_sub hs) r⟩
/-- beside one own thing more, laid new -/
theorem Rm_new (e : Ex H H') (hn : H l = none) : Ex (Rm ps H) (Rm (l :: ps) H') := fun b u hb => by
  have n : b ≠ l := fun z => by rw [z, Rm_none hn] at hb; cases hb
  have n2 : b ∉ ps := fun m => by rw [Rm_own m] at hb; cases hb
  exact Rm_get (e _ _ (Rm_ex _ _ hb)) fun m => (List.mem_cons.mp m).elim n n2
theorem _root_.RP.Ls.new {as : List α} {a : Addr} (h : Ls R ps H a as) (e : Ex H H') (hn : H l = none) : Ls R (l :: ps) H' a as := let ⟨m, vs, h1, h2⟩ := h; ⟨List.mem_cons_of_mem _ m, vs, e _ _ h1, h2.imp fun _ _ r => R.m (Rm_new e hn) r⟩
theorem rE_re {e : Str × Str} {v : V} (o : Own qs H) (h : rE.p e v (Rm ps H)) : rE.p e v (Rm qs H) := by
  obtain ⟨a, y, z, rfl, ha, h1, h2⟩ := h
  have := Rm_ex _ _ ha
  exact ⟨a, y, z, rfl, Rm_get this (o.tup this), h1, h2⟩
theorem _root_.RP.Ls.pt {as : List α} {a : Addr} (h : Ls R ps H a as) (f : Pt p H H') (m : p ∈ ps) (n : a ≠ p) : Ls R ps H' a as := let ⟨m1, vs, h1, h2⟩ := h; ⟨m1, vs, rem_ex _ _ (f.1 _ _ (rem_at h1 n)), h2.imp fun _ _ r => R.m (f.rm m) r⟩
/-- some(..): the list is new -/
theorem run_some {as : List α} {m : Nat} {Q : VK} (mp : p ∈ ps) (hp : Pot H p) (o : Own ps H) (hi : σ[i]? = some (some (.ref p))) (h : EvR (rL R) ps tb σ H as) (h2 : EvR rI ps tc σ H (m : Int)) (hm : m ≤ as.length) (hz : as.length ≤ 1000)
    (k : ∀ bs cs q' H1, (bs ++ cs).Perm as → bs.length = m → Pt p H H1 → H q' = none → q' ∉ ps → Own (q' :: ps) H1 → Ls R (q' :: ps) H1 q' bs → Q (.ref q') H1) :
    tCall (spSome K) [] E (tCons (tVar i) (tCons tb (tCons tc tNil))) σ H Q := ⟨_, hi, h H (Ex.refl _) o _ fun v H2 e2 r => h2 H2 e2 (o.ex e2) _ fun w H3 e3 r3 => by
    obtain rfl : w = .int (m : Int) := r3
    obtain ⟨l, vs, rfl, hl, hv⟩ := (rL R).m (Rm_mono e3) r
    have nl : l ≠ p := fun z => by rw [z, Rm_own mp] at hl; cases hl
    have hp3 := pot_ex hp (e2.trans e3)
    refine ⟨p, l, vs, m, rfl, hp3, sq_of (rem_at (Rm_ex _ _ hl) nl), by rw [← hv.len]; exact hm, by rw [← hv.len]; exact hz, fun ys zs q' H4 h5 h6 h7 h8 h9 h10 => ?_⟩
    have f : Pt p H3 H4 := ⟨h7, h8⟩
    obtain ⟨ds, h11, h12⟩ := all2_perm h5 hv
    obtain ⟨bs, cs, rfl, h13, h14⟩ := all2_split h12
    have o3 := o.ex (e2.trans e3)
    have ez : q' ≠ p := fun ez => by rw [ez, rem_p] at h10; cases h10
    have hq3 : H3 q' = none := by
      cases hh : H3 q' with
      | none => rfl
      | some u => rw [rem_at hh ez] at h9; cases h9
    have nq := o3.nin hq3
    have h4 := rem_ex _ _ h10
    refine k bs cs q' H4 h11 (by rw [h13.len, h6]) ((Pt.ex hp (e2.trans e3)).trans f) (fresh_back (e2.trans e3) hq3) nq ((f.own o3).push h4) ⟨List.mem_cons_self .., ys, h4, h13.imp fun _ _ r => R.m (fun b u hb => ?_) r⟩
    have n : b ≠ q' := fun z => by rw [z, Rm_none hq3] at hb; cases hb
    have := f.rm mp b u hb
    have n2 : b ∉ ps := fun m => by rw [Rm_own m] at this; cases this
    exact Rm_get (Rm_ex _ _ this) fun m => (List.mem_cons.mp m).elim n n2⟩
theorem s_forRN (o : Own ps H) (h : EvN C rN ps p te σ H) (k : ∀ n H1, Pt p H H1 → C n → tFor (iRng1 (tCons (tC (.int (n : Int))) tNil)) g tu D σ H1) : tFor (iRng1 (tCons te tNil)) g tu D σ H := h H (Ex.refl H) o _ fun n v H1 f c r => by
  obtain rfl : v = .int (n : Int) := r
  exact k n H1 f c
theorem q_forRN (o : Own ps H) (h : EvN C rN ps p te σ H) (k : ∀ n H1, Pt p H H1 → C n → tSeq (tFor (iRng1 (tCons (tC (.int (n : Int))) tNil)) g tu) tz D σ H1) : tSeq (tFor (iRng1 (tCons te tNil)) g tu) tz D σ H := h H (Ex.refl H) o _ fun n v H1 f c r => by
  obtain rfl : v = .int (n : Int) := r
  exact k n H1 f c
theorem lc_RN {tt : TT} {tx : TE} {vs : List Nat} {Q : VK} (o : Own ps H) (h : EvN C rN ps p te σ H) (k : ∀ n H1, Pt p H H1 → C n → tLc (iRng1 (tCons (tC (.int (n : Int))) tNil)) g tt tx vs σ H1 Q) : tLc (iRng1 (tCons te tNil)) g tt tx vs σ H Q := h H (Ex.refl H) o _ fun n v H1 f c r => by
  obtain rfl : v = .int (n : Int) := r
  exact k n H1 f c
theorem en_addC {x m : Nat} (h : EvN (fun n => n < m) rN ps p te σ H) : EvN (fun n => x ≤ n ∧ n < x + m) rN ps p (tOp (rI0 fun i j => V.int (i + j)) (tC (.int (x : Int))) te) σ H := fun H1 e o Q q => h H1 e o _ fun n v H2 f c r => by
    obtain rfl : v = .int (n : Int) := r
    exact ⟨_, _, rfl, rfl, q (x + n) _ H2 f ⟨by omega, by omega⟩ (by show V.int _ = V.int _; rw [Int.natCast_add])⟩
/-- own.append(e), e changing other own things -/
theorem s_appN (hi : σ[i]? = some (some (.ref q))) (hq : ∃ vs, H q = some (.lst vs)) (h : te σ H fun v H2 => rAppend (.ref q) [v] H2 fun _ H3 => D.nx σ H3) : tDrop (tBM K "list" rAppend (tVar i) (tCons te tNil)) D σ H := by
  obtain ⟨vs, h1⟩ := hq
  exact ⟨_, hi, Or.inl ⟨rfl, vs, sq_of h1⟩, h⟩
/-- [own.pop() for .. in range(n)] -/
theorem lc_pops {xs : List Str} {n : Nat} {Q : VK} (L : Ls rS ps H l xs) (hn : n ≤ xs.length) (hz : n ≤ 1000) (hw : ∀ x, wipe ((wipe σ [j]).set j (some x)) [j] = wipe σ [j]) (hi : ∀ x, ((wipe σ [j]).set j (some x))[i]? = some (some (.ref l)))
    (k : ∀ q H', H q = none → Oth l H H' → H' q = some (.lst (((xs.drop (xs.length - n)).reverse).map V.str)) → H' l = some (.lst ((xs.take (xs.length - n)).map V.str)) → Q (.ref q) H') :
    tLc (iRng1 (tCons (tC (.int (n : Int))) tNil)) (gName j) tYes (tBM0 K "list" rPop (tVar i)) [j] σ H Q := by
  obtain ⟨m, vs, hl, hv⟩ := L
  have hvs : vs = xs.map V.str := strs_eq hv
  subst hvs
  refine ⟨(n : Int), rfl, by omega, by omega, fun Dl hD => ?_⟩
  have nD : Dl ≠ l := fun z => by rw [z, hl] at hD; cases hD
  rw [show ((n : Int)).toNat = n from Int.toNat_natCast n]
  refine lc_it (walk_range (lo := 0) (n := n)) (fun t H2 => Oth l H H2 ∧ H2 Dl = some (.lst (((xs.drop (xs.length - t)).reverse).map V.str)) ∧ H2 l = some (.lst ((xs.take (xs.length - t)).map V.str)))
    ⟨fun b u nb hb => by rw [upd_ne (fun z => by rw [z, hD] at hb; cases hb)]; exact hb, by rw [upd_same, Nat.sub_zero, List.drop_length]; rfl, by rw [upd_ne nD.symm, Nat.sub_zero, List.take_length]; exact hl⟩
    (fun _ _ _ _ => trivial) (fun t x H2 H3 ht pv y => ?_) (fun H2 pv => ?_)
  · obtain ⟨rfl, rfl⟩ := y
    obtain ⟨h1, h2, h3⟩ := pv
    refine ⟨hw _, ?_⟩
    have hpos : xs.length - t - 1 < xs.length := by omega
    have hlast : ((xs.take (xs.length - t)).map V.str)[((xs.take (xs.length - t)).map V.str).length - 1]? = some (.str xs[xs.length - t - 1]) := by
      rw [List.length_map, List.length_take, Nat.min_eq_left (by omega), List.getElem?_map, List.getElem?_take_of_lt (by omega), List.getElem?_eq_getElem hpos]
      rfl
    refine ⟨_, hi _, Or.inl ⟨rfl, _, sq_of h3⟩, l, _, _, rfl, rfl, h3, hlast, ?_⟩
    refine ⟨_, by rw [upd_ne nD]; exact h2, sz_lt (by rw [List.length_map, List.length_reverse, List.length_drop]; omega), ?_, ?_, ?_⟩
    · intro b u nb hb
      rw [upd_ne (fun z => by rw [z, hD] at hb; cases hb), upd_ne nb]
      exact h1 b u nb hb
    · rw [upd_same, ← List.map_singleton (f := V.str), ← List.map_append]
      congr 2
      have e1 : xs.drop (xs.length - (t + 1)) = xs[xs.length - t - 1] :: xs.drop (xs.length - t) := by
        rw [show xs.length - (t + 1) = xs.length - t - 1 by omega, List.drop_eq_getElem_cons hpos, show xs.length - t - 1 + 1 = xs.length - t by omega]
      rw [e1, List.reverse_cons]
    · rw [upd_ne nD.symm, upd_same, ← List.map_dropLast]
      congr 3
      rw [List.dropLast_eq_take, List.length_take, Nat.min_eq_left (by omega), List.take_take]
      congr 1
      omega
  · exact k Dl H2 hD pv.1 pv.2.1 pv.2.2
theorem dtE : Dt K (rL rE) (fun es : List (Str × Str) => PyData.list (es.map fun x => PyData.tuple [PyData.str x.1, PyData.str x.2])) (fun as => ∀ a ∈ as, okS a.1 ∧ okS a.2) 2 := dtL (dtP dtS dtS)
theorem ok_nil : ∀ a ∈ ([] : List (Str × Str)), okS a.1 ∧ okS a.2 := fun _ h => (nomatch h)
theorem ev_neNil {es : List (Str × Str)} (L : Ls rE ps H l es) (hi : σ[i]? = some (some (.ref l))) (ok : ∀ e ∈ es, okS e.1 ∧ okS e.2) : Ev (tOp (rNeD K) (tVar i) (tLst tNil)) σ H (.bl (!decide (es = []))) := fun H1 e Q q => by
  obtain ⟨m, vs, hl, hv⟩ := L
  refine ⟨_, hi, sz_of (Nat.zero_le _), fun p hp => ?_⟩
  have e2 : Ex H (upd H1 p (.lst [])) := e.trans (Ex.new hp)
  have D := dtE (K := K)
  have r1 : (rL rE).p es (.ref l) (upd H1 p (.lst [])) := ⟨l, vs, rfl, e2 _ _ hl, hv.imp fun _ _ r => rE.m (Rm_ex.trans e2) r⟩
  have r2 : (rL rE).p [] (.ref p) (upd H1 p (.lst [])) := ⟨p, [], rfl, upd_same, trivial⟩
  have s1 := dt_shaped D (by decide) ok
  have s2 := dt_shaped (a := ([] : List (Str × Str))) D (by decide) ok_nil
  refine ⟨_, _, D.of r1, D.of r2, s1, s2, ?_⟩
  rw [eqv_dec D ok ok_nil]
  exact q _ (Ex.new hp)
end
theorem pe_bm0K {X : Cx} {K : PySem.W.Frag} {o : Expr} {to : TE} {name : Str} {apos cpos : Pos} {T id : String} {r : V → List V → Hp → VK → Prop} (hK : X.K = K) (pa : PlainAttrs T) (slot : Slot T name id) (hty : typeOf (.builtin id) = pure (.type "method_descriptor")) (hm : MtR X id r) (ho : PE X o to)
    (hbase : attributeBase o name X.env (eval o X.env) = eval o X.env := by rfl) (hline : (apos.endLine == cpos.line) = true := by rfl) : PE X (.Call (.Attribute o name apos) [] [] cpos) (tBM0 K T r to) := hK ▸ pe_bm0 pa slot hty hm ho hbase hline
theorem perm_erase {α : Type} : ∀ {xs : List α} {j : Nat} (hj : j < xs.length), ([xs[j]] ++ xs.eraseIdx j).Perm xs
  | a :: r, 0, _ => List.Perm.refl _
  | a :: r, j + 1, h => (List.Perm.swap a (r[j]'(Nat.lt_of_succ_lt_succ h)) _).trans ((perm_erase (xs := r) (j := j) (Nat.lt_of_succ_lt_succ h)).cons a)
/-! ### all lines of rows -/
theorem allL_cons {a b : List Str} {r : List (List Str)} : allL (a :: b :: r) = rowL (a, b) ++ allL (b :: r) := rfl
theorem mem_rowL {x : List Str × List Str} {e : Str × Str} : e ∈ rowL x ↔ e.1 ∈ x.1 ∧ e.2 ∈ x.2 := by
  unfold rowL colL
  rw [List.mem_flatMap]
  constructor
  · rintro ⟨lo, h1, h2⟩
    obtain ⟨hi, h3, rfl⟩ := List.mem_map.mp h2
    exact ⟨h1, h3⟩
  · rintro ⟨h1, h2⟩
    exact ⟨e.1, h1, List.mem_map.mpr ⟨e.2, h2, rfl⟩⟩
theorem allL_fit : ∀ {rows : List (List Str)} {e : Str × Str}, e ∈ allL rows → Fit rows e
  | [], e, h => nomatch h
  | [a], e, h => nomatch h
  | a :: b :: r, e, h => by
    rw [allL_cons, List.mem_append] at h
    rcases h with h | h
    · have := mem_rowL.mp h
      exact ⟨0, a, b, rfl, rfl, this.1, this.2⟩
    · obtain ⟨i, x, y, h1, h2, h3, h4⟩ := allL_fit h
      exact ⟨i + 1, x, y, h1, h2, h3, h4⟩
theorem rowL_nd {a b : List Str} (ha : a.Nodup) (hb : b.Nodup) : (rowL (a, b)).Nodup := by
  unfold rowL
  induction a with
  | nil => exact List.nodup_nil
  | cons x r ih =>
    have h := List.nodup_cons.mp ha
    rw [List.flatMap_cons]
    refine List.nodup_append.mpr ⟨?_, ih h.2, fun e h1 f h2 z => ?_⟩
    · exact List.Pairwise.map _ (fun y z hne e => hne (congrArg Prod.snd e)) hb
    · subst z
      obtain ⟨y, _, rfl⟩ := List.mem_map.mp h1
      have := mem_rowL (x := (r, b)).mp h2
      exact h.1 this.1
theorem allL_nd : ∀ {rows : List (List Str)}, rows.flatten.Nodup → (allL rows).Nodup
  | [], _ => List.nodup_nil
  | [a], _ => List.nodup_nil
  | a :: b :: r, h => by
    rw [List.flatten_cons] at h
    have h1 := List.nodup_append.mp h
    have h2 := h1.2.1
    rw [List.flatten_cons] at h2
    have h3 := List.nodup_append.mp h2
    rw [allL_cons]
    refine List.nodup_append.mpr ⟨rowL_nd h1.1 h3.1, allL_nd h1.2.1, fun e he f hf z => ?_⟩
    subst z
    exact h1.2.2 e.1 (mem_rowL.mp he).1 e.1 (allL_fit hf).in1 rfl
end K12
set_option Elab.async false
set_option linter.all false
set_option maxRecDepth 100000
set_option maxHeartbeats 4000000
namespace K12
open PySem PySem.Spec PyProof.Rows L2 Evl Gen RP ItX
section
variable {P : Program} {w : World} {K : PySem.W.Frag} {mg : Str → Option Value} {base : Heap} {fd : Nat → FuncData}
/-- how great a plan is, and what it is of -/
structure PB (tall wide many : Nat) (rows : List (List Str)) (es : List (Str × Str)) : Prop where
  h : rows.length ≤ tall
  w : ∀ r ∈ rows, r.length ≤ wide
  m : es.length ≤ many
  pool : ∀ z ∈ rows.flatten, z ∈ poolL
def spPlan : Sp := fun vs H Q _ => ∃ ps p, ∃ tall wide many : Nat, vs = [.ref p, .int (tall : Int), .int (wide : Int), .int (many : Int)] ∧ 1 ≤ tall ∧ tall ≤ 12 ∧ wide ≤ 18 ∧ tall * wide ≤ 56 ∧ many ≤ 60 ∧ p ∈ ps ∧ Own ps H ∧ Pot H p ∧ ∀ v rows es H', Pt p H H' → (rP (rL (rL rS)) (rL rE)).p (rows, es) v (Rm ps H') → Mk' rows es → PB tall wide many rows es → Q v H'
theorem plan_mk {rows : List (List Str)} {ls es : List (Str × Str)} {ns xs ys : List Str} (h0 : (ns ++ ys).Perm poolL) (h1 : (rows.flatten ++ xs).Perm ns) (hn : ns.length ≤ 60) (h5 : ∀ r ∈ rows, r.length ≤ 18) (hr : 1 ≤ rows.length) (h8 : rows.length ≤ 12) (h2 : (ls ++ es).Perm (allL rows)) (h16 : ls.length ≤ 60) : Mk' rows ls where
  lv := ⟨fun z => by rw [z] at hr; exact absurd hr (by decide), fun ws hw x hx => pool_nm x (h0.mem_iff.mp (List.mem_append_left _ (h1.mem_iff.mp (List.mem_append_left _ (List.mem_flatten.mpr ⟨ws, hw, hx⟩))))), (List.nodup_append.mp (h1.nodup_iff.mpr (List.nodup_append.mp (h0.nodup_iff.mpr pool_nd)).1)).1, by
    have := h1.length_eq
    rw [List.length_append] at this
    rw [← many_flat]
    omega⟩
  w18 := fun l hl => h5 l hl
  h12 := h8
  fit := fun e he => allL_fit (h2.mem_iff.mp (List.mem_append_left _ he))
  nd := by
    have h3 := (List.nodup_append.mp (h1.nodup_iff.mpr (List.nodup_append.mp (h0.nodup_iff.mpr pool_nd)).1)).1
    exact (List.nodup_append.mp (h2.nodup_iff.mpr (allL_nd h3))).1
  z := h16
theorem sc_law_plan : FnScope ["_law_pot_here", "_law_tall", "_law_wide", "_law_many", "_law_pool_here", "_law_rows", "_law_turn", "_law_node", "_law_every", "_law_lines_now"] ["_law_pot_here", "_law_tall", "_law_wide", "_law_many"] (defScope (topS 42)) := ⟨rfl, rfl, rfl, by decide +kernel, rfl, by decide +kernel, by decide +kernel⟩
theorem ok_law_plan (T : Tx K mg fd) : FnOk P w K mg base CX0 4 (He.ga K "_law_plan") (fd 16) ["_law_pot_here", "_law_tall", "_law_wide", "_law_many"] spPlan := by
  refine (T.df 16 42 "_law_plan" rfl).ok sc_law_plan (fun vs H Q E h => ?len) (fun cdv A outer s H vs Q E hr h => ?body)
  case body =>
    refine ⟨_, (pss_cons (ps_asg (pe_tup (pa_cons (pe_call (ok_law_some T) (hr.mono (by decide)) (by rfl) (T.gl 16 "_law_some" rfl) (T.df 14 40 "_law_some" rfl).kp ((T.df 14 40 "_law_some" rfl).binds (ps := ["_law_pot_here", "_law_pool_here", "_law_many"]) fun _ _ _ _ _ _ us hl => match us, hl with | [_, _, _], _ => rfl) .nil pass0 (pa_cons (pv 0) (pa_cons (pe_call0 (ok_law_pool T) (hr.mono (by decide)) (by rfl) (T.gl 17 "_law_pool" rfl) (T.df 15 41 "_law_pool" rfl).kp ((T.df 15 41 "_law_pool" rfl).binds (ps := []) fun _ _ _ _ _ _ us hl => match us, hl with | [], _ => rfl) .nil pass0) (pa_cons (pe_op op_mulW (pv 1) (pv 2)) pa_nil)))) (pa_cons (pe_lst pa_nil) pa_nil))) (pg_tup rfl (pgs_cons (pg_name (i := 4) sc_law_plan.nd rfl (Or.inr rfl)) (pgs_cons (pg_name (i := 5) sc_law_plan.nd rfl (Or.inl rfl)) pgs_nil)))) (pss_cons (ps_for PassesOwn.never rfl (pi_range1 (by rfl) (T.fr 45 "range" rfl) (pa_cons (pe_op op_add pe_int (pe_call (ok_law_draw T) (hr.mono (by decide)) (by rfl) (T.gl 14 "_law_draw" rfl) (T.df 12 38 "_law_draw" rfl).kp ((T.df 12 38 "_law_draw" rfl).binds (ps := ["_law_pot_here", "_law_many"]) fun _ _ _ _ _ _ us hl => match us, hl with | [_, _], _ => rfl) .nil pass0 (pa_cons (pv 0) (pa_cons (pv 1) pa_nil)))) pa_nil)) (pg_name (i := 6) sc_law_plan.nd rfl (Or.inl rfl)) (pss_one (ps_expr (pe_bm PySem.F.plainAttrs_list PySem.F.slot_list_append PySem.F.type_list_append mt_append (pv 5) (pa_cons (pe_lc (own := [("_law_node", 7)]) (g := gName 7) rfl sc_law_plan.nd (pi_range1 (by rfl) (T.fr 45 "range" rfl) (pa_cons (pe_call (ok_law_draw T) (hr.mono (by decide)) (by rfl) (T.gl 14 "_law_draw" rfl) (T.df 12 38 "_law_draw" rfl).kp ((T.df 12 38 "_law_draw" rfl).binds (ps := ["_law_pot_here", "_law_many"]) fun _ _ _ _ _ _ us hl => match us, hl with | [_, _], _ => rfl) .nil pass0 (pa_cons (pv 0) (pa_cons (pe_op op_add (pv 2) pe_int) pa_nil))) pa_nil)) (blkOk_by (N := ["_law_pot_here", "_law_tall", "_law_wide", "_law_many", "_law_pool_here", "_law_rows", "_law_turn", "_law_node", "_law_every", "_law_lines_now"]) (sc := (defScope (topS 42))) (own := [("_law_node", 7)]) (by decide +kernel)) (fun _ _ _ _ _ => (pg_name (i := 7) sc_law_plan.nd rfl (Or.inl rfl))) (fun _ _ _ _ _ => pts_nil) (fun _ _ _ _ _ => (pe_bm0K (K := K) rfl PySem.F.plainAttrs_list PySem.F.slot_list_pop PySem.F.type_list_pop mt_pop (pv 4)))) pa_nil))))) (pss_cons (ps_par (i := 8) (j := 9) (by rfl) sc_law_plan.nd rfl rfl (by decide) rfl rfl (pa_cons (pe_call (ok_law_all_lines T) (hr.mono (by decide)) (by rfl) (T.gl 19 "_law_all_lines" rfl) (T.df 17 43 "_law_all_lines" rfl).kp ((T.df 17 43 "_law_all_lines" rfl).binds (ps := ["_law_rows"]) fun _ _ _ _ _ _ us hl => match us, hl with | [_], _ => rfl) .nil pass0 (pa_cons (pv 5) pa_nil)) (pa_cons (pe_lst pa_nil) pa_nil)) (by rfl)) (pss_cons (ps_for PassesOwn.never rfl (pi_range1 (by rfl) (T.fr 45 "range" rfl) (pa_cons (pe_call (ok_law_draw T) (hr.mono (by decide)) (by rfl) (T.gl 14 "_law_draw" rfl) (T.df 12 38 "_law_draw" rfl).kp ((T.df 12 38 "_law_draw" rfl).binds (ps := ["_law_pot_here", "_law_many"]) fun _ _ _ _ _ _ us hl => match us, hl with | [_, _], _ => rfl) .nil pass0 (pa_cons (pv 0) (pa_cons (pe_op op_add (pv 3) pe_int) pa_nil))) pa_nil)) (pg_name (i := 6) sc_law_plan.nd rfl (Or.inl rfl)) (pss_one (ps_if (pt_cmpR (op_neD hr.units) (pv 8) (pe_lst pa_nil) (nomark _)) (pss_one (ps_expr (pe_bm PySem.F.plainAttrs_list PySem.F.slot_list_append PySem.F.type_list_append mt_append (pv 9) (pa_cons (pe_bm PySem.F.plainAttrs_list PySem.F.slot_list_pop PySem.F.type_list_pop mt_popAt (pv 8) (pa_cons (pe_call (ok_law_draw T) (hr.mono (by decide)) (by rfl) (T.gl 14 "_law_draw" rfl) (T.df 12 38 "_law_draw" rfl).kp ((T.df 12 38 "_law_draw" rfl).binds (ps := ["_law_pot_here", "_law_many"]) fun _ _ _ _ _ _ us hl => match us, hl with | [_, _], _ => rfl) .nil pass0 (pa_cons (pv 0) (pa_cons (pe_callB call_len (by rfl) (T.fr 41 "len" rfl) (by decide +kernel) (pa_cons (pv 8) pa_nil)) pa_nil))) pa_nil)) pa_nil)))) pss_nil))) (pss_one (ps_ret (pe_tup (pa_cons (pv 5) (pa_cons (pv 9) pa_nil))))))))), ?_⟩
    obtain ⟨ps, p, tall, wide, many, rfl, t1, t12, w18, tw, m60, mp, o, hp, q⟩ := h
    refine run_some (R := rS) (as := poolL) (m := tall * wide) mp hp o rfl er_pool (er_I (ev_is (ev_op (ev_var rfl) (ev_var rfl) (rv_I (wide_mul (a := 10) (b := 10) (by omega) (by omega) (by decide) (by decide) (by decide)))) (congrArg V.int (Int.natCast_mul tall wide).symm))) (by rw [pool_len]; exact tw) (by rw [pool_len]; decide) fun ns ys l H1 hns hn40 f1 hl nl o1 L1 => ?_
    refine ⟨sz_of (Nat.zero_le _), fun q' hq => ⟨sz_of (by show 2 ≤ 100000; decide), fun t ht => ?_⟩⟩
    have nlq : l ≠ q' := fun z => by obtain ⟨_, vs, h1, _⟩ := L1; rw [z, hq] at h1; cases h1
    have hq0 : H q' = none := by
      cases hh : H q' with
      | none => rfl
      | some u =>
        by_cases e : q' = p
        · obtain ⟨x', y', a1, _⟩ := f1.2
          rw [e, a1] at hq
          cases hq
        · have := rem_ex _ _ (f1.1 _ _ (rem_at hh e))
          rw [hq] at this
          cases this
    have npq : p ≠ q' := fun e => by obtain ⟨x', y', a1, _⟩ := f1.2; rw [← e, a1] at hq; cases hq
    have npl : p ≠ l := fun e => nl (e ▸ mp)
    have nq1 : q' ∉ l :: ps := o1.nin hq
    refine ⟨t, _, rfl, st_of upd_same, rfl, _, _, rfl, _, _, rfl, rfl, ?_⟩
    have e12 : Ex H1 (upd (upd H1 q' (.lst [])) t (.tup [.ref l, .ref q'])) := (Ex.new hq).trans (Ex.new ht)
    have hq2 : (upd (upd H1 q' (.lst [])) t (.tup [.ref l, .ref q'])) q' = some (.lst []) := Ex.new ht _ _ upd_same
    generalize (upd (upd H1 q' (.lst [])) t (.tup [.ref l, .ref q'])) = H2 at e12 hq2 ⊢
    have f2 : Pt p H H2 := f1.trans (Pt.ex f1.2 e12)
    have o2 : Own (q' :: l :: ps) H2 := (o1.ex e12).push hq2
    have L2 : Ls rS (q' :: l :: ps) H2 l ns := L1.new e12 hq
    have Q2 : Ls (rL rS) (q' :: l :: ps) H2 q' [] := ⟨List.mem_cons_self .., [], hq2, trivial⟩
    have mp2 : p ∈ q' :: l :: ps := List.mem_cons_of_mem _ (List.mem_cons_of_mem _ mp)
    refine q_forRN (ps := q' :: l :: ps) o2 (en_addC (p := p) (x := 1) (m := tall) (en_draw (i := 0) f2.2 rfl (er_I (ev_var rfl)) (by omega) (by omega))) fun n H3 f3 hn => ?_
    have f23 := f2.trans f3
    refine q_forW (f3.own o2) (wk_range (n := n) (er_I ev_c) (by omega)) (fun i σ' H' => (∃ o6, σ' = [some (.ref p), some (.int (tall : Int)), some (.int (wide : Int)), some (.int (many : Int)), some (.ref l), some (.ref q'), o6, none, none, none]) ∧ Pt p H H' ∧ ∃ xs rows, Ls rS (q' :: l :: ps) H' l xs ∧ Ls (rL rS) (q' :: l :: ps) H' q' rows ∧ (rows.flatten ++ xs).Perm ns ∧ rows.length = i ∧ tall * wide ≤ xs.length + wide * i ∧ ∀ r ∈ rows, r.length ≤ wide)
      (fun H4 e4 => ⟨⟨none, rfl⟩, f23.trans (Pt.ex f23.2 e4), ns, [], (L2.pt f3 mp2 npl.symm).ex e4, (Q2.pt f3 mp2 npq.symm).ex e4, List.Perm.refl _, rfl, by rw [hn40]; omega, fun r h => nomatch h⟩) (fun _ _ _ _ e pv => let ⟨h1, h2, xs, rows, h3, h4, h5⟩ := pv; ⟨h1, h2.trans (Pt.ex h2.2 e), xs, rows, h3.ex e, h4.ex e, h5⟩) (fun H4 e4 i x u σ' H5 hx f5 f35 pv ru => ?_) fun σ' H4 f4 pv => ?_
    · obtain ⟨⟨o6, rfl⟩, f05, xs, rows, l5, q5, hperm, hrl, hxl, h5⟩ := pv
      have hin : i < n := by
        have h1 := (List.getElem?_eq_some_iff.mp hx).1
        rwa [List.length_range] at h1
      obtain ⟨mq, vq, hvq, hall⟩ := q5
      refine s_appN (i := 5) rfl ⟨vq, hvq⟩ ?_
      refine lc_RN (ps := q' :: l :: ps) f35.1 (en_draw (i := 0) (m := wide + 1) f05.2 rfl (er_I (ev_is (ev_op (ev_var rfl) ev_c rv_I0) (congrArg V.int (by omega)))) (by omega) (by omega)) fun d H6 f6 hd => ?_
      have hm1 : wide * (i + 1) ≤ wide * tall := Nat.mul_le_mul_left wide (by omega)
      have hm2 : wide * tall = tall * wide := Nat.mul_comm ..
      have hm3 : wide * (i + 1) = wide * i + wide := Nat.mul_succ ..
      have hdx : d ≤ xs.length := by omega
      have l6 := l5.pt f6 mp2 npl.symm
      have q6 : Ls (rL rS) (q' :: l :: ps) H6 q' rows := RP.Ls.pt (R := rL rS) (as := rows) ⟨mq, vq, hvq, hall⟩ f6 mp2 npq.symm
      refine lc_pops (i := 4) (j := 7) (σ := [some (.ref p), some (.int (tall : Int)), some (.int (wide : Int)), some (.int (many : Int)), some (.ref l), some (.ref q'), some u, none, none, none]) (n := d) l6 hdx (by omega) (fun _ => rfl) (fun _ => rfl) fun w H7 hw ot7 hw7 hl7 => ?_
      obtain ⟨_, vq6, hq6, hall6⟩ := q6
      have nqw : q' ≠ w := fun z => by rw [z, hw] at hq6; cases hq6
      have hq7 := ot7 q' _ (fun z => nlq z.symm) hq6
      refine ⟨q', vq6, .ref w, rfl, rfl, hq7, sz_lt (by rw [← hall6.len]; omega), ?_⟩
      have lw : l ≠ w := fun z => by obtain ⟨_, _, h9, _⟩ := l6; rw [z, hw] at h9; cases h9
      have f06 := f05.trans f6
      have npw : p ≠ w := fun z => by obtain ⟨x', y', a1, _⟩ := f06.2; rw [z, hw] at a1; cases a1
      have p7 : Pot H7 p := pot_oth f06.2 ot7 npl
      have f07 : Pt p H H7 := Pt.back f06 ot7 hl p7
      have ot8 : Oth q' H7 (upd H7 q' (.lst (vq6 ++ [.ref w]))) := Oth.upd (Ex.refl _)
      have f08 : Pt p H (upd H7 q' (.lst (vq6 ++ [.ref w]))) := Pt.back f07 ot8 hq0 (pot_oth p7 ot8 npq)
      have hwq : w ∉ q' :: l :: ps := (f6.own f35.1).nin hw
      -- frames
      have fr6 : Fr (q' :: l :: ps) H5 H6 := f6.fr mp2 f35.1
      have o7 : Own (q' :: l :: ps) H7 := fun b hb => by
        by_cases e : b = l
        · subst e
          exact ⟨_, hl7, fun xs z => by cases z⟩
        · obtain ⟨ob, ho, hno⟩ := fr6.1 b hb
          exact ⟨ob, ot7 b _ e ho, hno⟩
      have x67 : Ex (Rm (q' :: l :: ps) H6) (Rm (q' :: l :: ps) H7) := fun b ub hb => by
        have hbn : b ∉ q' :: l :: ps := fun mm => by rw [Rm_own mm] at hb; cases hb
        exact Rm_get (ot7 b _ (fun z => hbn (by rw [z]; exact List.mem_cons_of_mem _ (List.mem_cons_self ..))) (Rm_ex _ _ hb)) hbn
      have fr7 : Fr (q' :: l :: ps) H6 H7 := ⟨o7, x67⟩
      have fr8 : Fr (q' :: l :: ps) H7 (upd H7 q' (.lst (vq6 ++ [.ref w]))) := (Fr.refl o7).upd mq
      refine ⟨f5.trans ((fr6.trans fr7).trans fr8), ⟨_, rfl⟩, f08, xs.take (xs.length - d), rows ++ [(xs.drop (xs.length - d)).reverse], ⟨l6.1, _, by rw [upd_ne nlq]; exact hl7, strs_all _ _⟩, ⟨mq, _, upd_same, ?_⟩, ?_, by rw [List.length_append, hrl]; rfl, by rw [List.length_take, Nat.min_eq_left (by omega)]; omega, fun r hr => ?_⟩
      · refine (hall6.imp fun _ _ r => (rL rS).m (x67.trans fr8.2) r).app (.one ⟨w, _, rfl, fr8.2 _ _ (Rm_get hw7 hwq), strs_all _ _⟩)
      · refine List.Perm.trans ?_ hperm
        rw [List.flatten_append, List.append_assoc]
        refine List.Perm.append_left _ ?_
        rw [List.flatten_cons, List.flatten_nil, List.append_nil]
        exact ((List.reverse_perm _).append_right _).trans (List.perm_append_comm.trans (by rw [List.take_append_drop]))
      · rcases List.mem_append.mp hr with hr | hr
        · exact h5 r hr
        · rw [List.mem_singleton.mp hr, List.length_reverse, List.length_drop]
          omega
    obtain ⟨⟨o6, rfl⟩, f04, xs, rows, l4, q4, hperm, hrl, hxl, h5⟩ := pv
    rw [List.length_range] at hrl
    have ob : Own ps H4 := fun b hb => f4.1 b (List.mem_cons_of_mem _ (List.mem_cons_of_mem _ hb))
    have sub2 : ∀ x ∈ ps, x ∈ q' :: l :: ps := fun x hx => List.mem_cons_of_mem _ (List.mem_cons_of_mem _ hx)
    have nq : q' ∉ ps := fun m => nq1 (List.mem_cons_of_mem _ m)
    have rows4 := q4.rep_of sub2 nq
    refine ⟨_, rfl, ps, _, rows, rfl, ob, rows4, by omega, fun r hr => Nat.le_trans (h5 r hr) w18, fun el H5 hel e5 re => ?_⟩
    refine ⟨sz_of (Nat.zero_le _), fun lq hlq => ⟨_, _, rfl, ?_⟩⟩
    have o4 := f4.1
    have nel : el ∉ q' :: l :: ps := o4.nin hel
    obtain ⟨el', vse, ee, hle, halle⟩ := re
    cases ee
    have hle5 := Rm_ex _ _ hle
    have e6 : Ex H5 (upd H5 lq (.lst [])) := Ex.new hlq
    have hlq6 : (upd H5 lq (.lst [])) lq = some (.lst []) := upd_same
    generalize (upd H5 lq (.lst [])) = H6 at e6 hlq6 ⊢
    have hle6 := e6 _ _ hle5
    have nle : lq ≠ el := fun z => by rw [z, hle5] at hlq; cases hlq
    have o5 : Own (el :: q' :: l :: ps) H5 := (o4.ex e5).push hle5
    have o6' : Own (lq :: el :: q' :: l :: ps) H6 := (o5.ex e6).push hlq6
    have nlq5 : lq ∉ el :: q' :: l :: ps := o5.nin hlq
    have f06 : Pt p H H6 := f04.trans (Pt.ex f04.2 (e5.trans e6))
    have mp6 : p ∈ lq :: el :: q' :: l :: ps := List.mem_cons_of_mem _ (List.mem_cons_of_mem _ mp2)
    have el0 : H4 el = none := hel
    have E6 : Ls rE (lq :: el :: q' :: l :: ps) H6 el (allL rows) := ⟨List.mem_cons_of_mem _ (List.mem_cons_self ..), vse, hle6, halle.imp fun _ _ r => rE_re o6' (rE.m (Rm_mono e6) r)⟩
    have Q6 : Ls (rL rS) (lq :: el :: q' :: l :: ps) H6 q' rows := (q4.new e5 hel).new e6 hlq
    have N6 : Ls rE (lq :: el :: q' :: l :: ps) H6 lq [] := ⟨List.mem_cons_self .., [], hlq6, trivial⟩
    have npel : p ≠ el := fun z => nel (z ▸ mp2)
    have nplq : p ≠ lq := fun z => nlq5 (z ▸ List.mem_cons_of_mem _ mp2)
    have nqel : q' ≠ el := fun z => nel (z ▸ List.mem_cons_self ..)
    have nqlq : q' ≠ lq := fun z => nlq5 (z ▸ List.mem_cons_of_mem _ (List.mem_cons_self ..))
    have back0 : ∀ {b : Addr} {G : Hp}, Pt p H G → G b = none → b ≠ p → H b = none := fun {b G} f hb n => by
      cases hh : H b with
      | none => rfl
      | some u =>
        have := rem_ex _ _ (f.1 _ _ (rem_at hh n))
        rw [hb] at this
        cases this
    have hel0 : H el = none := back0 f04 hel npel.symm
    have hlq0 : H lq = none := back0 (f04.trans (Pt.ex f04.2 e5)) hlq nplq.symm
    have okall : ∀ {es : List (Str × Str)} {ls : List (Str × Str)}, (ls ++ es).Perm (allL rows) → ∀ e ∈ es, okS e.1 ∧ okS e.2 := fun {es ls} hp2 e he => by
      have hf := allL_fit (hp2.mem_iff.mp (List.mem_append_right _ he))
      have nm : ∀ z ∈ rows.flatten, okS z := fun z hz => isN_strOk (pool_nm z (hns.mem_iff.mp (List.mem_append_left _ (hperm.mem_iff.mp (List.mem_append_left _ hz)))))
      exact ⟨nm _ hf.in1, nm _ hf.in2⟩
    have hall : (allL rows).length ≤ 12 * 324 := by
      have lz : ((rows.zip (rows.drop 1))).length ≤ 12 := by rw [List.length_zip]; exact Nat.le_trans (Nat.min_le_left _ _) (by omega)
      refine Nat.le_trans (flatMap_len (c := 324) fun x hx => ?_) (Nat.mul_le_mul_right _ lz)
      have h := List.of_mem_zip hx
      have a1 := h5 _ h.1
      have a2 := h5 _ (List.mem_of_mem_drop h.2)
      have h2 : (rowL x).length ≤ _ := flatMap_len (l := x.1) (f := colL x) (c := 18) fun lo _ => by unfold colL; rw [List.length_map]; omega
      omega
    refine q_forRN (ps := lq :: el :: q' :: l :: ps) o6' (en_draw (i := 0) (m := many + 1) f06.2 rfl (er_I (ev_is (ev_op (ev_var rfl) ev_c rv_I0) (congrArg V.int (by omega)))) (by omega) (by omega)) fun n2 H7 f7 hn2 => ?_
    have o7 := f7.own o6'
    refine q_forW o7 (wk_range (n := n2) (er_I ev_c) (by omega)) (fun i σ' H' => (∃ o6, σ' = [some (.ref p), some (.int (tall : Int)), some (.int (wide : Int)), some (.int (many : Int)), some (.ref l), some (.ref q'), o6, none, some (.ref el), some (.ref lq)]) ∧ Pt p H H' ∧ Ls (rL rS) (lq :: el :: q' :: l :: ps) H' q' rows ∧ ∃ es ls, Ls rE (lq :: el :: q' :: l :: ps) H' el es ∧ Ls rE (lq :: el :: q' :: l :: ps) H' lq ls ∧ (ls ++ es).Perm (allL rows) ∧ ls.length ≤ i)
      (fun H8 e8 => ⟨⟨_, rfl⟩, (f06.trans f7).trans (Pt.ex f7.2 e8), (Q6.pt f7 mp6 npq.symm).ex e8, allL rows, [], (E6.pt f7 mp6 npel.symm).ex e8, (N6.pt f7 mp6 nplq.symm).ex e8, List.Perm.refl _, Nat.le_refl _⟩) (fun _ _ _ _ e pv => let ⟨h1, h2, h3, es, ls, h4, h5, h6⟩ := pv; ⟨h1, h2.trans (Pt.ex h2.2 e), h3.ex e, es, ls, h4.ex e, h5.ex e, h6⟩) (fun H8 e8 i x u σ' H9 hx f9 f79 pv ru => ?_) fun σ' H8 f8 pv => ?_
    · obtain ⟨⟨o6, rfl⟩, f09, Q9, es, ls, E9, N9, hpe, hls⟩ := pv
      have hel9 : es.length ≤ 12 * 324 ∧ ls.length ≤ 12 * 324 := by
        have := hpe.length_eq
        rw [List.length_append] at this
        omega
      refine s_whenR f79.1 (b := !decide (es = [])) (et_test' (er_B (ev_neNil E9 rfl (okall hpe)))) (fun hb H10 e10 => ?_) fun hb H10 e10 => ?_
      · have hne : es ≠ [] := fun e => by rw [decide_eq_true e] at hb; exact Bool.noConfusion hb
        have f10 := f09.trans (Pt.ex f09.2 e10)
        have o10 := f79.1.ex e10
        have E10 := E9.ex e10
        have N10 := N9.ex e10
        have Q10 := Q9.ex e10
        obtain ⟨mn, vsn, hn10, halln⟩ := N10
        refine s_appN (i := 9) rfl ⟨vsn, hn10⟩ ?_
        obtain ⟨me, ves, he10, halle10⟩ := E10
        refine ⟨_, rfl, Or.inl ⟨rfl, _, sq_of he10⟩, ?_⟩
        refine (en_draw (ps := lq :: el :: q' :: l :: ps) (i := 0) (m := es.length) f10.2 rfl (er_I (er_lenLs (⟨me, ves, he10, halle10⟩ : Ls rE (lq :: el :: q' :: l :: ps) H10 el es) (ev_var rfl) fun a vs H1 Q h q => len_rd h q)) (List.length_pos_iff.mpr hne) (by omega)) H10 (Ex.refl _) o10 _ fun d vd H11 f11 hd rd => ?_
        obtain rfl : vd = .int (d : Int) := rd
        have E11 := RP.Ls.pt (R := rE) (as := es) ⟨me, ves, he10, halle10⟩ f11 mp6 npel.symm
        have N11 := RP.Ls.pt (R := rE) (as := ls) ⟨mn, vsn, hn10, halln⟩ f11 mp6 nplq.symm
        have Q11 := Q10.pt f11 mp6 npq.symm
        obtain ⟨_, ve11, he11, hall11⟩ := E11
        obtain ⟨_, vn11, hn11, halln11⟩ := N11
        have hed : es[d]? = some es[d] := List.getElem?_eq_getElem hd
        obtain ⟨y, hy, ry⟩ := hall11.get hed
        have hvl := hall11.len
        have hix : seqIndex? (d : Int) ve11.length = some d := by
          unfold seqIndex?
          simp [← hvl, hd]
          omega
        refine ⟨el, ve11, (d : Int), d, y, rfl, rfl, he11, by omega, by omega, hix, hy, ?_⟩
        have ot12 : Oth el H11 (upd H11 el (.lst (ve11.eraseIdx d))) := Oth.upd (Ex.refl _)
        have hn12 := ot12 lq _ nle hn11
        refine ⟨lq, vn11, y, rfl, rfl, hn12, sz_lt (by rw [← halln11.len]; omega), ?_⟩
        have ot13 : Oth lq (upd H11 el (.lst (ve11.eraseIdx d))) (upd (upd H11 el (.lst (ve11.eraseIdx d))) lq (.lst (vn11 ++ [y]))) := Oth.upd (Ex.refl _)
        have f011 := f10.trans f11
        have p12 := pot_oth f011.2 ot12 npel
        have f012 := Pt.back f011 ot12 hel0 p12
        have f013 := Pt.back f012 ot13 hlq0 (pot_oth p12 ot13 nplq)
        have fr11 : Fr (lq :: el :: q' :: l :: ps) H9 H11 := (Fr.of f79.1 e10).trans (f11.fr mp6 o10)
        have fr12 := (Fr.refl fr11.1).upd (p := el) (ob := .lst (ve11.eraseIdx d)) me
        have fr13 := (Fr.refl fr12.1).upd (p := lq) (ob := .lst (vn11 ++ [y])) mn
        have x13 := fr12.2.trans fr13.2
        refine ⟨f9.trans ((fr11.trans fr12).trans fr13), ⟨_, rfl⟩, f013, (Q11.oth nqel ot12 fr12).oth nqlq ot13 fr13, es.eraseIdx d, ls ++ [es[d]], ⟨me, _, by rw [upd_ne nle.symm]; exact upd_same, (hall11.imp fun _ _ r => rE.m x13 r).eraseIdx⟩, ⟨mn, _, upd_same, (halln11.imp fun _ _ r => rE.m x13 r).app (.one (rE.m x13 ry))⟩, ?_, by rw [List.length_append, List.length_singleton]; omega⟩
        rw [List.append_assoc]
        exact (List.Perm.append_left ls (perm_erase hd)).trans hpe
      · exact ⟨f9.ex e10, ⟨_, rfl⟩, f09.trans (Pt.ex f09.2 e10), Q9.ex e10, es, ls, E9.ex e10, N9.ex e10, hpe, by omega⟩
    obtain ⟨⟨o6, rfl⟩, f08, Q8, es, ls, E8, N8, hpe, hls⟩ := pv
    rw [List.length_range] at hls
    refine ⟨_, rfl, _, rfl, sz_of (by show 2 ≤ 100000; decide), fun tt htt => ?_⟩
    have sub6 : ∀ x ∈ ps, x ∈ lq :: el :: q' :: l :: ps := fun x hx => List.mem_cons_of_mem _ (List.mem_cons_of_mem _ (sub2 x hx))
    have e9 : Ex H8 (upd H8 tt (.tup [.ref q', .ref lq])) := Ex.new htt
    have o8 := f8.1
    have ntt : tt ∉ ps := fun m => (o8.nin htt) (sub6 tt m)
    have r1 := (Q8.ex e9).rep_of sub6 nq
    have r2 := (N8.ex e9).rep_of sub6 (fun m => nlq5 (List.mem_cons_of_mem _ (sub2 _ m)))
    exact q _ rows ls _ (f08.trans (Pt.ex f08.2 e9)) ⟨tt, _, _, rfl, Rm_get upd_same ntt, r1, r2⟩ (plan_mk hns hperm (by omega) (fun r hr => Nat.le_trans (h5 r hr) w18) (by omega) (by omega) hpe (by omega)) ⟨by omega, h5, by omega, fun z hz => hns.mem_iff.mp (List.mem_append_left _ (hperm.mem_iff.mp (List.mem_append_left _ hz)))⟩
  case len =>
    obtain ⟨ps, p, tall, wide, many, rfl, _⟩ := h
    rfl
end
end K12
set_option Elab.async false
set_option linter.all false
set_option maxRecDepth 100000
set_option maxHeartbeats 4000000
/-! tuple(xs), any(..), more of lists -/
namespace RP
open PySem PySem.Spec PyProof.Rows L2 Evl Gen
def Rel2 {α β : Type} (E : α → β → Prop) : List α → List β → Prop
  | [], [] => True
  | x :: xs, b :: bs => E x b ∧ Rel2 E xs bs
  | _, _ => False
theorem Rel2.snoc {α β : Type} {E : α → β → Prop} {x : α} {b : β} (h : E x b) : ∀ {xs : List α} {bs : List β}, Rel2 E xs bs → Rel2 E (xs ++ [x]) (bs ++ [b])
  | [], [], _ => ⟨h, trivial⟩
  | _ :: _, _ :: _, q => ⟨q.1, Rel2.snoc h q.2⟩
  | [], _ :: _, q => q.elim
  | _ :: _, [], q => q.elim
theorem Rel2.len {α β : Type} {E : α → β → Prop} : ∀ {xs : List α} {bs : List β}, Rel2 E xs bs → bs.length = xs.length
  | [], [], _ => rfl
  | _ :: _, _ :: _, q => congrArg Nat.succ (Rel2.len q.2)
  | [], _ :: _, q => q.elim
  | _ :: _, [], q => q.elim
theorem pe_tupleOfK {X : Cx} {K : PySem.W.Frag} {a : Expr} {p pos : Pos} {ta : TE} (hK : X.K = K) (ha : PE X a ta) (hg : Gl X "tuple") (hm : X.mg "tuple" = none) (na : starEach [a] X.env = (false, eval a X.env) :: starEach [] X.env := by rfl) : PE X (.Call (.Name "tuple" p) [a] [] pos) (tThen ta (kTup K)) := hK ▸ pe_tupleOf hg hm ha na
section
variable {α β γ : Type} {R : Rp α} {S : Rp β} {K : PySem.W.Frag} {ps : List Addr} {σ : L2.St} {H : Hp} {ta te : TE} {a : α}
theorem kTup_of {as : List α} {v : V} {Q : VK} (o : Own ps H) (r : (rL R).p as v (Rm ps H)) (q : ∀ w H1, Ex H H1 → (rQ K R).p as w (Rm ps H1) → Q w H1) : kTup K v H Q := by
  obtain ⟨p, vs, rfl, h1, h2⟩ := r
  exact .inl ⟨p, vs, rfl, sq_of (Rm_ex _ _ h1), fun t ht => q _ _ (Ex.new ht) ⟨t, vs, rfl, .inr (st_of (Rm_get upd_same (o.nin ht))), h2.imp fun _ _ r => R.m (Rm_mono (Ex.new ht)) r⟩⟩
theorem er_tupleOf {as : List α} (h : EvR (rL R) ps te σ H as) : EvR (rQ K R) ps (tThen te (kTup K)) σ H as := fun H1 e o Q q => h H1 e o _ fun v H2 e2 r => kTup_of (o.ex e2) r fun w H3 e3 r3 => q w H3 (e2.trans e3) r3
theorem er_any {bs : List Bool} (h : EvR (rL rB) ps te σ H bs) : EvR rB ps (tCB (rAny K) (tCons te tNil)) σ H (bs.any id) := er_cb1 h fun v H1 e o rv Q q => by
  obtain ⟨b, vs, rfl, hb, hu⟩ := rv
  have e1 : vs = bs.map V.bl := (hu.imp fun _ _ z => z).eq
  subst e1
  exact ⟨b, bs, rfl, sq_of (Rm_ex _ _ hb), q _ H1 (Ex.refl _) rfl⟩
end
end RP
set_option Elab.async false
set_option linter.all false
set_option maxRecDepth 100000
set_option maxHeartbeats 4000000
namespace K12
open PySem PySem.Spec PyProof.Rows L2 Evl Gen RP ItX
section
variable {P : Program} {w : World} {K : PySem.W.Frag} {mg : Str → Option Value} {base : Heap} {fd : Nat → FuncData}
/-- [e for x in xs], e drawing -/
theorem en_lc1 {α β : Type} {R : Rp α} {S : Rp β} {ps : List Addr} {p : Addr} {σ : L2.St} {H : Hp} {te : TE} {wi : TI} {xs : List α} {j : Nat} {vs : List Nat} (D : α → β → Prop) (mp : p ∈ ps) (hp : Pot H p) (h : Wk R ps wi σ H xs) (hz : xs.length ≤ 40000) (hw : ∀ x, wipe ((wipe σ vs).set j (some x)) vs = wipe σ vs)
    (he : ∀ x ∈ xs, ∀ qs v H1, Pt p H H1 → p ∈ qs → Own qs H1 → Ex (Rm ps H) (Rm qs H1) → R.p x v (Rm qs H1) → EvN (D x) S qs p te ((wipe σ vs).set j (some v)) H1) :
    EvN (fun bs => Rel2 D xs bs) (rL S) ps p (tLc wi (gName j) tYes te vs) σ H := fun H0 e o Q k => h H0 e o _ fun J n G Y H1 e1 hn wk hG hY Dl hD => by
  have o1 := o.ex e1
  have hp0 := pot_ex hp e
  have hp1 := pot_ex hp0 e1
  have nDp : Dl ≠ p := fun z => by obtain ⟨_, _, a1⟩ := hp1; rw [← z, hD] at a1; obtain ⟨a1, _⟩ := a1; cases a1
  have nD : Dl ∉ ps := o1.nin hD
  refine lc_it wk (fun i H2 => ∃ bs, Rel2 D (xs.take i) bs ∧ Pt p H1 H2 ∧ ∃ us, H2 Dl = some (.lst us) ∧ All2 (fun x y => S.p x y (Rm (Dl :: ps) H2)) bs us)
    ⟨[], by rw [List.take_zero]; trivial, Pt.ex hp1 (Ex.new hD), [], upd_same, trivial⟩ (fun i H2 _ pv => let ⟨bs, _, f, _⟩ := pv; hG H2 ((f.rm mp).trans Rm_ex)) (fun i u H2 H2' hi pv y => ?_) (fun H2 pv => ?_)
  · obtain ⟨bs, hr, f, us, hl, hall⟩ := pv
    have o2 : Own (Dl :: ps) H2 := (f.own o1).push hl
    have ex2 : Ex (Rm ps H1) (Rm (Dl :: ps) H2) := fun b ob hb => by
      have n : b ≠ Dl := fun z => by rw [z, Rm_none hD] at hb; cases hb
      have hb2 := f.rm mp _ _ hb
      refine Rm_get (Rm_ex _ _ hb2) (fun m => (List.mem_cons.mp m).elim n fun m => ?_)
      rw [Rm_own m] at hb
      cases hb
    obtain ⟨e3, x, hx, rx⟩ := hY i H2 u H2' (Dl :: ps) hi o2 ex2 y
    have hm : x ∈ xs := List.mem_of_getElem? hx
    have o2' := o2.ex e3
    have f3 : Pt p H1 H2' := f.trans (Pt.ex f.2 e3)
    have f03 : Pt p H H2' := ((Pt.ex hp e).trans (Pt.ex hp0 e1)).trans f3
    refine ⟨hw u, ?_⟩
    unfold tYes
    dsimp only
    rw [if_pos rfl]
    refine he x hm (Dl :: ps) u H2' f03 (List.mem_cons_of_mem _ mp) o2' (((Rm_mono (e.trans e1)).trans ex2).trans (Rm_mono e3)) rx H2' (Ex.refl _) o2' _ fun b y H4 f4 hE r4 => ?_
    have hl3 : H2' Dl = some (.lst us) := e3 _ _ hl
    have hl4 : H4 Dl = some (.lst us) := rem_ex _ _ (f4.1 _ _ (rem_at hl3 nDp))
    have hlen : bs.length ≤ 40000 := by
      rw [hr.len, List.length_take]
      omega
    have hs : Ex (Rm (Dl :: ps) H2) (Rm (Dl :: ps) H4) := (Rm_mono e3).trans (f4.rm (List.mem_cons_of_mem _ mp))
    refine ⟨us, hl4, sz_lt (by rw [← hall.len]; omega), bs ++ [b], by rw [take_snoc hx]; exact hr.snoc hE, Pt.back (f3.trans f4) (Oth.upd (Ex.refl _)) hD (pot_oth f4.2 (Oth.upd (Ex.refl _)) nDp.symm), us ++ [y], upd_same, ?_⟩
    rw [Rm_upd (List.mem_cons_self ..)]
    exact (hall.imp fun _ _ r => S.m hs r).app (.one r4)
  · obtain ⟨bs, hr, f, us, hl, hall⟩ := pv
    rw [hn, List.take_length] at hr
    exact k bs _ _ ((Pt.ex hp0 e1).trans f) hr ⟨Dl, us, rfl, Rm_get hl nD, hall.imp fun _ _ r => S.m Rm_pop r⟩
theorem en_tupleOf {α : Type} {R : Rp α} {ps : List Addr} {p : Addr} {σ : L2.St} {H : Hp} {te : TE} {C : List α → Prop} (h : EvN C (rL R) ps p te σ H) : EvN C (rQ K R) ps p (tThen te (kTup K)) σ H := fun H1 e o Q q => h H1 e o _ fun a v H2 f c r => kTup_of (f.own o) r fun w H3 e3 r3 => q a w H3 (f.trans (Pt.ex f.2 e3)) c r3
def spMixed {α : Type} (R : Rp α) : Sp := fun vs H Q _ => ∃ ps p v as, vs = [.ref p, v] ∧ p ∈ ps ∧ Own ps H ∧ Pot H p ∧ (rL R).p as v (Rm ps H) ∧ as.length ≤ 1000 ∧ ∀ bs w H', Pt p H H' → bs.Perm as → (rL R).p bs w (Rm ps H') → Q w H'
theorem sc_law_mixed : FnScope ["_law_pot_here", "_law_some_here"] ["_law_pot_here", "_law_some_here"] (defScope (topS 45)) := ⟨rfl, rfl, rfl, by decide +kernel, rfl, by decide +kernel, by decide +kernel⟩
theorem ok_law_mixed {α : Type} (R : Rp α) (T : Tx K mg fd) : FnOk P w K mg base CX0 4 (He.ga K "_law_mixed") (fd 19) ["_law_pot_here", "_law_some_here"] (spMixed R) := by
  refine (T.df 19 45 "_law_mixed" rfl).ok sc_law_mixed (fun vs H Q E h => ?len) (fun cdv A outer s H vs Q E hr h => ?body)
  case body =>
    refine ⟨_, (pss_one (ps_ret (pe_call (ok_law_some T) (hr.mono (by decide)) (by rfl) (T.gl 16 "_law_some" rfl) (T.df 14 40 "_law_some" rfl).kp ((T.df 14 40 "_law_some" rfl).binds (ps := ["_law_pot_here", "_law_pool_here", "_law_many"]) fun _ _ _ _ _ _ us hl => match us, hl with | [_, _, _], _ => rfl) .nil pass0 (pa_cons (pv 0) (pa_cons (pv 1) (pa_cons (pe_callB call_len (by rfl) (T.fr 41 "len" rfl) (by decide +kernel) (pa_cons (pv 1) pa_nil)) pa_nil)))))), ?_⟩
    obtain ⟨ps, p, v, as, rfl, mp, o, hp, r, hz, q⟩ := h
    refine s_retN o (en_some (m := as.length) mp hp rfl (er_var (i := 1) rfl r) (er_lenL (er_toQ (er_var (i := 1) rfl r))) (Nat.le_refl _) hz) fun a w H1 f c r1 => q a w H1 f ?_ r1
    obtain ⟨cs, h1, h2⟩ := c
    have h3 := h1.length_eq
    rw [List.length_append] at h3
    have h4 : cs = [] := List.length_eq_zero_iff.mp (by omega)
    rw [h4, List.append_nil] at h1
    exact h1
  case len =>
    obtain ⟨ps, p, v, as, rfl, _⟩ := h
    rfl
theorem en_mixed {α : Type} {R : Rp α} {ps : List Addr} {p : Addr} {σ : L2.St} {H : Hp} {tb : TE} {i : Nat} {as : List α} {E : XK} (mp : p ∈ ps) (hp : Pot H p) (hi : σ[i]? = some (some (.ref p))) (h : EvR (rL R) ps tb σ H as) (hz : as.length ≤ 1000) :
    EvN (fun bs => bs.Perm as) (rL R) ps p (tCall (spMixed R) [] E (tCons (tVar i) (tCons tb tNil))) σ H := fun H1 e o Q q =>
  ⟨_, hi, h H1 e o _ fun v H2 e2 r => ⟨ps, p, v, as, rfl, mp, o.ex e2, pot_ex hp (e.trans e2), r, hz, fun bs w H3 f hb rb => q bs w H3 ((Pt.ex (pot_ex hp e) e2).trans f) hb rb⟩⟩
theorem en_make {ps : List Addr} {p : Addr} {σ : L2.St} {H : Hp} {ta tb : TE} {E : XK} {C1 : List (List Str) → Prop} {C2 : List (Str × Str) → Prop} (mp : p ∈ ps) (hp : Pot H p) (h1 : EvN C1 (rQ K (rQ K rS)) ps p ta σ H) (h2 : ∀ H1, Pt p H H1 → EvN C2 (rL rE) ps p tb σ H1) (ok : ∀ ls es, C1 ls → C2 es → Mk' ls es) :
    EvN (fun s => ∃ ls es, C1 ls ∧ C2 es ∧ s = mkS ls es) (rS_ K) ps p (tMake (shC K) (spInit K) [] E (tCons ta (tCons tb tNil))) σ H := fun H0 e o Q q =>
  h1 H0 e o _ fun ls v H1 f1 c1 r1 => h2 H1 ((Pt.ex hp e).trans f1) H1 (Ex.refl _) (f1.own o) _ fun es w H2 f2 c2 r2 x dx nx nd ne => make_end ex00 (f2.own (f1.own o)) ((rQ K (rQ K rS)).m (f2.rm mp) r1) (rL_q r2) (ok ls es c1 c2) (fun z H3 e3 t => q (mkS ls es) z H3 ((f1.trans f2).trans (Pt.ex f2.2 e3)) ⟨ls, es, c1, c2, rfl⟩ (rW_r t)) nx nd ne
theorem perm_srt {rows ls : List (List Str)} (h : Rel2 (fun a b => b.Perm a) rows ls) : ls.map srtS = rows.map srtS := by
  induction rows generalizing ls with
  | nil => cases ls with
    | nil => rfl
    | cons _ _ => exact h.elim
  | cons a r ih => cases ls with
    | nil => exact h.elim
    | cons b s =>
      rw [List.map_cons, List.map_cons, ih h.2, srtS_eq h.1]
theorem perm_flat {rows ls : List (List Str)} (h : Rel2 (fun a b => b.Perm a) rows ls) : ls.flatten.Perm rows.flatten := by
  induction rows generalizing ls with
  | nil => cases ls with
    | nil => exact .refl _
    | cons _ _ => exact h.elim
  | cons a r ih => cases ls with
    | nil => exact h.elim
    | cons b s =>
      rw [List.flatten_cons, List.flatten_cons]
      exact h.1.append (ih h.2)
theorem perm_get {rows ls : List (List Str)} (h : Rel2 (fun a b => b.Perm a) rows ls) : ∀ {i : Nat} {a : List Str}, rows[i]? = some a → ∃ b, ls[i]? = some b ∧ b.Perm a := by
  induction rows generalizing ls with
  | nil => intro i a z; simp at z
  | cons a r ih => cases ls with
    | nil => exact h.elim
    | cons b s =>
      intro i c hc
      cases i with
      | zero => cases hc; exact ⟨b, rfl, h.1⟩
      | succ i => exact ih h.2 hc
theorem perm_mk {rows ls : List (List Str)} {lines es : List (Str × Str)} (ok : Mk' rows lines) (h : Rel2 (fun a b => b.Perm a) rows ls) (h2 : es.Perm lines) : Mk' ls es where
  lv := ⟨fun z => by rw [z] at h; cases rows with
    | nil => exact ok.lv.some rfl
    | cons _ _ => exact h.elim, fun ws hw x hx => by
      have m := (perm_flat h).mem_iff.mp (List.mem_flatten.mpr ⟨ws, hw, hx⟩)
      obtain ⟨l, hl, hx2⟩ := List.mem_flatten.mp m
      exact ok.lv.names l hl x hx2, (perm_flat h).nodup_iff.mpr ok.lv.once, by
      have := (perm_flat h).length_eq
      rw [many_flat, many_flat] at this
      rw [this]
      exact ok.lv.few⟩
  w18 := fun l hl => by
    obtain ⟨i, hi⟩ := List.mem_iff_getElem?.mp hl
    have hlen := h.len
    have hlt := (List.getElem?_eq_some_iff.mp hi).1
    obtain ⟨b, hb, hp⟩ := perm_get h (i := i) (a := rows[i]) (List.getElem?_eq_getElem (by omega))
    rw [hi] at hb
    cases hb
    rw [hp.length_eq]
    exact ok.w18 _ (List.getElem_mem _)
  h12 := by rw [h.len]; exact ok.h12
  fit := fun e he => by
    obtain ⟨i, a, b, g1, g2, g3, g4⟩ := ok.fit e (h2.mem_iff.mp he)
    obtain ⟨a', k1, k2⟩ := perm_get h g1
    obtain ⟨b', k3, k4⟩ := perm_get h g2
    exact ⟨i, a', b', k1, k3, k2.mem_iff.mpr g3, k4.mem_iff.mpr g4⟩
  nd := h2.nodup_iff.mpr ok.nd
  z := by rw [h2.length_eq]; exact ok.z
abbrev rPlan : Rp (List (List Str) × List (Str × Str)) := rP (rL (rL rS)) (rL rE)
def spTwin (K : PySem.W.Frag) : Sp := fun vs H Q _ => ∃ ps p v x, vs = [.ref p, v] ∧ p ∈ ps ∧ Own ps H ∧ Pot H p ∧ rPlan.p x v (Rm ps H) ∧ Mk' x.1 x.2 ∧ ∀ w H', Pt p H H' → (rS_ K).p (mkS x.1 x.2) w (Rm ps H') → Q w H'
theorem sc_law_twin : FnScope ["_law_pot_here", "_law_plan_there", "_law_row"] ["_law_pot_here", "_law_plan_there"] (defScope (topS 46)) := ⟨rfl, rfl, rfl, by decide +kernel, rfl, by decide +kernel, by decide +kernel⟩
theorem ok_law_twin (T : Tx K mg fd) : FnOk P w K mg base CX0 7 (He.ga K "_law_twin") (fd 20) ["_law_pot_here", "_law_plan_there"] (spTwin K) := by
  refine (T.df 20 46 "_law_twin" rfl).ok sc_law_twin (fun vs H Q E h => ?len) (fun cdv A outer s H vs Q E hr h => ?body)
  case body =>
    refine ⟨_, (pss_one (ps_ret (pe_make T.mkr (ok_sh_init T) (hr.mono (by decide)) (by rfl) (T.gl 33 "Sheet" rfl) (bi3 T) .nil pass0 (pa_cons (pe_tupleOfK (K := K) rfl (pe_lc (own := [("_law_row", 2)]) (g := gName 2) rfl sc_law_twin.nd (pi_list (pe_ix (r := rIxT K) ix_tup (pv 1) pe_int (fun _ _ => rfl))) (blkOk_by (N := ["_law_pot_here", "_law_plan_there", "_law_row"]) (sc := (defScope (topS 46))) (own := [("_law_row", 2)]) (by decide +kernel)) (fun _ _ _ _ _ => (pg_name (i := 2) sc_law_twin.nd rfl (Or.inl rfl))) (fun _ _ _ _ _ => pts_nil) (fun _ _ _ _ _ => (pe_tupleOfK (K := K) rfl (pe_call (ok_law_mixed rS T) (hr.mono (by decide)) (by rfl) (T.gl 21 "_law_mixed" rfl) (T.df 19 45 "_law_mixed" rfl).kp ((T.df 19 45 "_law_mixed" rfl).binds (ps := ["_law_pot_here", "_law_some_here"]) fun _ _ _ _ _ _ us hl => match us, hl with | [_, _], _ => rfl) .nil pass0 (pa_cons (pv 0) (pa_cons (pv 2) pa_nil))) (by rfl) (T.fr 39 "tuple" rfl)))) (by rfl) (T.fr 39 "tuple" rfl)) (pa_cons (pe_call (ok_law_mixed rE T) (hr.mono (by decide)) (by rfl) (T.gl 21 "_law_mixed" rfl) (T.df 19 45 "_law_mixed" rfl).kp ((T.df 19 45 "_law_mixed" rfl).binds (ps := ["_law_pot_here", "_law_some_here"]) fun _ _ _ _ _ _ us hl => match us, hl with | [_, _], _ => rfl) .nil pass0 (pa_cons (pv 0) (pa_cons (pe_ix (r := rIxT K) ix_tup (pv 1) pe_int (fun _ _ => rfl)) pa_nil))) pa_nil))))), ?_⟩
    obtain ⟨ps, p, v, x, rfl, mp, o, hp, r, ok, q⟩ := h
    have h12 := ok.h12
    refine s_retN o (en_make (C1 := fun ls => Rel2 (fun a b => b.Perm a) x.1 ls) (C2 := fun es => es.Perm x.2) mp hp (en_tupleOf ?_) (fun H1 f1 => ?_) fun ls es h1 h2 => perm_mk ok h1 h2) fun s w H1 f c r1 => ?_
    · refine en_lc1 (R := rL rS) (S := rQ K rS) (fun a b => b.Perm a) mp hp (wk_list (er_fst (er_var (i := 1) rfl r) (er_I ev_c))) (by omega) (fun _ => rfl) fun l hl qs v1 H1 f1 mq oq x1 r1 => ?_
      have hl18 := ok.w18 l hl
      exact en_tupleOf (en_mixed mq f1.2 rfl (er_var (i := 2) rfl r1) (by omega))
    · have hz := ok.z
      exact en_mixed mp f1.2 rfl (er_snd (er_var (i := 1) rfl (rPlan.m (f1.rm mp) r)) (er_I ev_c)) (by omega)
    · obtain ⟨ls, es, h1, h2, rfl⟩ := c
      refine q w H1 f ?_
      have e1 : mkS ls es = mkS x.1 x.2 := by unfold mkS; rw [perm_srt h1, srtT_eq h2]
      rw [← e1]
      exact r1
  case len =>
    obtain ⟨ps, p, v, x, rfl, _⟩ := h
    rfl
end
end K12
set_option Elab.async false
set_option linter.all false
set_option maxRecDepth 100000
set_option maxHeartbeats 4000000
namespace K12
open PySem PySem.Spec PyProof.Rows L2 Evl Gen RP ItX
/-! ### how long a shown thing is -/
structure Sz (n m : Nat) (d : PyData) : Prop where
  sh : d.showable = true
  lv : d.leavesShort 40 = true
  bk : d.bulk ≤ n
  dp : d.depth ≤ m
theorem Sz.len {n m : Nat} {d : PyData} (h : Sz n m d) (hn : n ≤ 300000) : d.shown.length ≤ sizeLine := by
  have h1 := PyData.shown_le_bulk 40 (by decide) d h.lv
  have h2 : (40 + 2) * d.bulk ≤ 42 * 300000 := Nat.mul_le_mul (by decide) (Nat.le_trans h.bk hn)
  rw [sizeLine_eq]
  omega
theorem Sz.mono {n m n' m' : Nat} {d : PyData} (h : Sz n m d) (h1 : n ≤ n') (h2 : m ≤ m') : Sz n' m' d := ⟨h.sh, h.lv, Nat.le_trans h.bk h1, Nat.le_trans h.dp h2⟩
theorem Sz.all {ds : List PyData} {n m : Nat} (h : ∀ d ∈ ds, Sz n m d) : PyData.showableAll ds = true ∧ PyData.leavesShortAll 40 ds = true ∧ PyData.bulkAll ds ≤ (n + 1) * ds.length ∧ PyData.depthAll ds ≤ m := by
  induction ds with
  | nil => exact ⟨rfl, rfl, Nat.zero_le _, Nat.zero_le _⟩
  | cons d r ih =>
    obtain ⟨h1, h2, h3, h4⟩ := ih fun e he => h e (List.mem_cons_of_mem _ he)
    have hd := h d (List.mem_cons_self ..)
    refine ⟨?_, ?_, ?_, ?_⟩
    · show (PyData.showable d && PyData.showableAll r) = true
      rw [hd.sh, h1]; rfl
    · show (PyData.leavesShort 40 d && PyData.leavesShortAll 40 r) = true
      rw [hd.lv, h2]; rfl
    · show PyData.bulk d + 1 + PyData.bulkAll r ≤ _
      have := hd.bk
      rw [List.length_cons, Nat.mul_add, Nat.mul_one]
      omega
    · exact Nat.max_le.mpr ⟨hd.dp, h4⟩
theorem Sz.list {ds : List PyData} {n m k : Nat} (h : ∀ d ∈ ds, Sz n m d) (hm : (n + 1) * ds.length ≤ k) : Sz k (m + 1) (.list ds) := let ⟨h1, h2, h3, h4⟩ := Sz.all h; ⟨h1, h2, Nat.le_trans h3 hm, Nat.succ_le_succ h4⟩
theorem Sz.tup {ds : List PyData} {n m k : Nat} (h : ∀ d ∈ ds, Sz n m d) (hm : (n + 1) * ds.length ≤ k) : Sz k (m + 1) (.tuple ds) := let ⟨h1, h2, h3, h4⟩ := Sz.all h; ⟨h1, h2, Nat.le_trans h3 hm, Nat.succ_le_succ h4⟩
theorem Sz.str {x : Str} (h : x.cps.size ≤ 100) (h2 : okS x) : Sz 100 0 (.str x) := ⟨(Sd.str h h2).sh, (Sd.str h h2).lv, (Sd.str h h2).bk, Nat.le_refl _⟩
theorem Sz.nat {n : Nat} (h : n ≤ 40) : Sz 100 0 (.int (n : Int)) := by
  have : ∀ n : Nat, n ≤ 40 → (PyData.int (n : Int)).showable = true ∧ (PyData.int (n : Int)).leavesShort 40 = true ∧ (PyData.int (n : Int)).bulk ≤ 100 ∧ (PyData.int (n : Int)).depth ≤ 0 := by decide +kernel
  obtain ⟨h1, h2, h3, h4⟩ := this n h
  exact ⟨h1, h2, h3, h4⟩
theorem Sz.bool (b : Bool) : Sz 100 0 (.bool b) := by cases b <;> exact ⟨rfl, rfl, by decide, Nat.le_refl _⟩
theorem lvlOf_eq {s : Sht} (ok : Sok s) {z : Str} {i : Nat} {a : List Str} (h1 : s.1[i]? = some a) (h2 : z ∈ a) : lvlOf s z = i := by
  obtain ⟨b, h3, h4⟩ := lvlOf_get (s := s) (List.mem_flatten.mpr ⟨a, List.mem_of_getElem? h1, h2⟩)
  exact apart ok.lv.once h3 h1 h4 h2
theorem mem_srtT {es : List (Str × Str)} {e : Str × Str} : e ∈ srtT es ↔ e ∈ es := (srtT_perm es).mem_iff
theorem mem_srtS {es : List Str} {e : Str} : e ∈ srtS es ↔ e ∈ es := (srtS_perm es).mem_iff
/-! ### a plan and its sheet -/
structure Pk (s : Sht) (x : List (List Str) × List (Str × Str)) : Prop where
  eq : s = mkS x.1 x.2
  mk' : Mk' x.1 x.2
  h6 : x.1.length ≤ 6
  w6 : ∀ r ∈ x.1, r.length ≤ 6
  pool : ∀ z ∈ x.1.flatten, z ∈ poolL
  m14 : x.2.length ≤ 14
theorem Pk.sok {s : Sht} {x : List (List Str) × List (Str × Str)} (h : Pk s x) : Sok s := by rw [h.eq]; exact h.mk'.sok
theorem Pk.lv {s : Sht} {x : List (List Str) × List (Str × Str)} (h : Pk s x) : s.1 = x.1.map srtS := by rw [h.eq]; rfl
theorem Pk.ln {s : Sht} {x : List (List Str) × List (Str × Str)} (h : Pk s x) : s.2 = srtT x.2 := by rw [h.eq]; rfl
theorem Pk.len {s : Sht} {x : List (List Str) × List (Str × Str)} (h : Pk s x) : s.1.length = x.1.length := by rw [h.lv, List.length_map]
theorem Pk.w {s : Sht} {x : List (List Str) × List (Str × Str)} (h : Pk s x) : ∀ l ∈ s.1, l.length ≤ 6 := fun l hl => by
  rw [h.lv] at hl
  obtain ⟨m, hm, rfl⟩ := List.mem_map.mp hl
  rw [(srtS_perm m).length_eq]
  exact h.w6 m hm
theorem Pk.m {s : Sht} {x : List (List Str) × List (Str × Str)} (h : Pk s x) : s.2.length ≤ 14 := by rw [h.ln, (srtT_perm _).length_eq]; exact h.m14
theorem Pk.row {s : Sht} {x : List (List Str) × List (Str × Str)} (h : Pk s x) {i : Nat} {r : List Str} (hi : s.1[i]? = some r) : ∃ q, x.1[i]? = some q ∧ r = srtS q := by
  rw [h.lv, List.getElem?_map] at hi
  obtain ⟨q, h1, h2⟩ := Option.map_eq_some_iff.mp hi
  exact ⟨q, h1, h2.symm⟩
theorem pw_filter {α : Type} {R : α → α → Prop} {p : α → Bool} {l : List α} (h : l.Pairwise R) : (l.filter p).Pairwise R := h.filter _
theorem ab_eq (ls : List (List Str)) (es : List (Str × Str)) (z : Str) : abOf (ls, srtT es) z = srtS ((es.filter fun e => decide (e.1 = z)).map fun e => e.2) := by
  refine srtS_of (((srtT_perm es).filter _).map _) ?_
  refine List.pairwise_map.mpr ?_
  have h := pw_filter (p := fun e : Str × Str => decide (e.1 = z)) (srtT_pw es)
  refine List.Pairwise.imp_of_mem (fun {a b} ha hb hab => ?_) h
  rw [List.mem_filter, decide_eq_true_eq] at ha hb
  rw [Bool.not_eq_true'] at hab ⊢
  rw [Bool.eq_false_iff] at hab ⊢
  exact fun hlt => hab (XS.ltT_iff.mpr (.inr ⟨by rw [ha.2, hb.2], hlt⟩))
theorem be_eq (ls : List (List Str)) (es : List (Str × Str)) (z : Str) : beOf (ls, srtT es) z = srtS ((es.filter fun e => decide (e.2 = z)).map fun e => e.1) := by
  refine srtS_of (((srtT_perm es).filter _).map _) ?_
  refine List.pairwise_map.mpr ?_
  have h := pw_filter (p := fun e : Str × Str => decide (e.2 = z)) (srtT_pw es)
  refine List.Pairwise.imp_of_mem (fun {a b} ha hb hab => ?_) h
  rw [Bool.not_eq_true'] at hab ⊢
  rw [Bool.eq_false_iff] at hab ⊢
  exact fun hlt => hab (XS.ltT_iff.mpr (.inl hlt))
theorem name_sz {s : Sht} (ok : Sok s) {z : Str} (h : z ∈ s.1.flatten) : Sz 100 0 (.str z) := by
  obtain ⟨l, h1, h2⟩ := List.mem_flatten.mp h
  exact Sz.str (isN_ok (ok.lv.names l h1 z h2)) (sok_names ok l h1 z h2)
abbrev dStrs (l : List Str) : PyData := .list (l.map PyData.str)
abbrev dLines (es : List (Str × Str)) : PyData := .list (es.map fun e => PyData.tuple [.str e.1, .str e.2])
theorem strs_sz {s : Sht} (ok : Sok s) {l : List Str} (h : ∀ z ∈ l, z ∈ s.1.flatten) {k : Nat} (hk : 101 * l.length ≤ k) : Sz k 1 (dStrs l) := by
  refine Sz.list (n := 100) (m := 0) (fun d hd => ?_) (by rw [List.length_map]; exact hk)
  obtain ⟨z, hz, rfl⟩ := List.mem_map.mp hd
  exact name_sz ok (h z hz)
theorem lines_sz {s : Sht} (ok : Sok s) {l : List (Str × Str)} (h : ∀ e ∈ l, e.1 ∈ s.1.flatten ∧ e.2 ∈ s.1.flatten) {k : Nat} (hk : 203 * l.length ≤ k) : Sz k 2 (dLines l) := by
  refine Sz.list (n := 202) (m := 1) (fun d hd => ?_) (by rw [List.length_map]; exact hk)
  obtain ⟨e, he, rfl⟩ := List.mem_map.mp hd
  refine Sz.tup (n := 100) (m := 0) (fun d hd => ?_) (by show 101 * 2 ≤ 202; decide)
  rcases List.mem_cons.mp hd with rfl | hd
  · exact name_sz ok (h e he).1
  · rw [List.mem_singleton.mp hd]
    exact name_sz ok (h e he).2
theorem level_sz {s : Sht} {x : List (List Str) × List (Str × Str)} (h : Pk s x) : Sz 3648 2 (.list (s.1.map fun l => dStrs l)) := by
  refine Sz.list (n := 606) (m := 1) (fun d hd => ?_) (by rw [List.length_map]; have h1 := h.len; have h2 := h.h6; omega)
  obtain ⟨l, hl, rfl⟩ := List.mem_map.mp hd
  have hw := h.w l hl
  exact strs_sz h.sok (fun z hz => List.mem_flatten.mpr ⟨l, hl, hz⟩) (by omega)
theorem prs_in {l : List Str} {e : Str × Str} (h : e ∈ prs l) : e.1 ∈ l ∧ e.2 ∈ l := by
  obtain ⟨x, hx, he⟩ := List.mem_flatMap.mp h
  obtain ⟨y, hy, rfl⟩ := List.mem_map.mp he
  exact ⟨hx, (List.mem_filter.mp hy).1⟩
theorem pairs_in {s : Sht} {e : Str × Str} (h : e ∈ pairsOf s) : e.1 ∈ s.1.flatten ∧ e.2 ∈ s.1.flatten := by
  obtain ⟨l, hl, he⟩ := List.mem_flatMap.mp (mem_srtT.mp h)
  have := prs_in he
  exact ⟨List.mem_flatten.mpr ⟨l, hl, this.1⟩, List.mem_flatten.mpr ⟨l, hl, this.2⟩⟩
theorem pairs_few {s : Sht} {x : List (List Str) × List (Str × Str)} (h : Pk s x) : (pairsOf s).length ≤ 216 := by
  unfold pairsOf
  rw [(srtT_perm _).length_eq]
  have h1 : (s.1.flatMap prs).length ≤ s.1.length * 36 := flatMap_len fun l hl => by
    have hw := h.w l hl
    have h2 : (prs l).length ≤ l.length * 6 := flatMap_len fun y _ => Nat.le_trans (prow_len (l := l) (m := l)) hw
    omega
  have h2 := h.len
  have h3 := h.h6
  omega
end K12
set_option Elab.async false
set_option linter.all false
set_option maxRecDepth 100000
set_option maxHeartbeats 4000000
namespace K12
open PySem PySem.Spec PyProof.Rows L2 Evl Gen RP ItX
section
variable {P : Program} {w : World} {K : PySem.W.Frag} {mg : Str → Option Value} {base : Heap} {fd : Nat → FuncData}
theorem er_levels {G H : Hp} {ps : List Addr} {σ : L2.St} {ta : TE} {s : Sht} {E : XK} (e0 : Ex G H) (h : EvR (rS_ K) ps ta σ H s) (ok : Sok s) : EvR (rLN G (rLN G rS)) ps (tMeth (shC K) "levels" (Sp1H (rS_ K) (fun G => rLN G (rLN G rS)) (fun s => s.1) Sok) [] E ta tNil) σ H s.1 := er_meth0H (TH := fun G => rLN G (rLN G rS)) (f := fun s => s.1) back_LL e0 h (by decide +kernel) ok
theorem er_levelsL {H : Hp} {ps : List Addr} {σ : L2.St} {ta : TE} {s : Sht} {E : XK} (h : EvR (rS_ K) ps ta σ H s) (ok : Sok s) : EvR (rL (rL rS)) ps (tMeth (shC K) "levels" (Sp1H (rS_ K) (fun G => rLN G (rLN G rS)) (fun s => s.1) Sok) [] E ta tNil) σ H s.1 := er_imp (er_levels ex00 h ok) fun _ _ r => rL_imp (rLN_L r) fun _ _ r => rLN_L r
theorem er_lines {G H : Hp} {ps : List Addr} {σ : L2.St} {ta : TE} {s : Sht} {E : XK} (e0 : Ex G H) (h : EvR (rS_ K) ps ta σ H s) (ok : Sok s) : EvR (rLN G rE) ps (tMeth (shC K) "lines" (Sp1H (rS_ K) (fun G => rLN G rE) (fun s => s.2) Sok) [] E ta tNil) σ H s.2 := er_meth0H (TH := fun G => rLN G rE) (f := fun s => s.2) back_L e0 h (by decide +kernel) ok
theorem er_pairsO {G H : Hp} {ps : List Addr} {σ : L2.St} {ta : TE} {s : Sht} {E : XK} (e0 : Ex G H) (h : EvR (rS_ K) ps ta σ H s) (ok : Sok s) : EvR (rLN G rE) ps (tMeth (shC K) "pairs" (Sp1H (rS_ K) (fun G => rLN G rE) pairsOf Sok) [] E ta tNil) σ H (pairsOf s) := er_meth0H (TH := fun G => rLN G rE) (f := pairsOf) back_L e0 h (by decide +kernel) ok
theorem er_level {G H : Hp} {ps : List Addr} {σ : L2.St} {ta tb : TE} {s : Sht} {n : Nat} {E : XK} (e0 : Ex G H) (h : EvR (rS_ K) ps ta σ H s) (h2 : EvR rN ps tb σ H n) (ok : Sok s) (hn : n < s.1.length) : EvR (rLN G rS) ps (tMeth (shC K) "level" (Sp2H (rS_ K) rN (fun G => rLN G rS) lvAt (fun s n => Sok s ∧ n < s.1.length)) [] E ta (tCons tb tNil)) σ H (lvAt s n) := er_meth1H (TH := fun G => rLN G rS) (f := lvAt) back_L e0 h h2 (by decide +kernel) ⟨ok, hn⟩
theorem er_levelK {G H : Hp} {ps : List Addr} {σ : L2.St} {ta tb : TE} {s : Sht} {n : Nat} {E : XK} (e0 : Ex G H) (h : EvR (rS_ K) ps ta σ H s) (h2 : EvR rN ps tb σ H n) (ok : Sok s) (hn : n < s.1.length) : EvR (rLN G rS) ps (tMethK (shC K) "level" 1 (Sp2H (rS_ K) rN (fun G => rLN G rS) lvAt (fun s n => Sok s ∧ n < s.1.length)) (fun vs zs => vs ++ zs) E ta (tCons tb tNil)) σ H (lvAt s n) := er_methK (TH := fun G => rLN G rS) (f := lvAt) back_L e0 h h2 (by decide +kernel) ⟨ok, hn⟩
theorem er_gapN {G H : Hp} {ps : List Addr} {σ : L2.St} {ta tb : TE} {s : Sht} {n : Nat} {E : XK} (e0 : Ex G H) (h : EvR (rS_ K) ps ta σ H s) (h2 : EvR rN ps tb σ H n) (ok : Sok s) (hn : n + 1 < s.1.length) : EvR (rLN G rE) ps (tMeth (shC K) "gap" (Sp2H (rS_ K) rN (fun G => rLN G rE) gapOf (fun s n => Sok s ∧ n + 1 < s.1.length)) [] E ta (tCons tb tNil)) σ H (gapOf s n) := er_meth1H (TH := fun G => rLN G rE) (f := gapOf) back_L e0 h h2 (by decide +kernel) ⟨ok, hn⟩
theorem er_gapK {G H : Hp} {ps : List Addr} {σ : L2.St} {ta tb : TE} {s : Sht} {n : Nat} {E : XK} (e0 : Ex G H) (h : EvR (rS_ K) ps ta σ H s) (h2 : EvR rN ps tb σ H n) (ok : Sok s) (hn : n + 1 < s.1.length) : EvR (rLN G rE) ps (tMethK (shC K) "gap" 1 (Sp2H (rS_ K) rN (fun G => rLN G rE) gapOf (fun s n => Sok s ∧ n + 1 < s.1.length)) (fun vs zs => vs ++ zs) E ta (tCons tb tNil)) σ H (gapOf s n) := er_methK (TH := fun G => rLN G rE) (f := gapOf) back_L e0 h h2 (by decide +kernel) ⟨ok, hn⟩
theorem er_above {G H : Hp} {ps : List Addr} {σ : L2.St} {ta tb : TE} {s : Sht} {z : Str} {E : XK} (e0 : Ex G H) (h : EvR (rS_ K) ps ta σ H s) (h2 : EvR rS ps tb σ H z) (ok : Sok s) (hz : z ∈ s.1.flatten) : EvR (rLN G rS) ps (tMeth (shC K) "above" (Sp2H (rS_ K) rS (fun G => rLN G rS) abOf (fun s z => Sok s ∧ z ∈ s.1.flatten)) [] E ta (tCons tb tNil)) σ H (abOf s z) := er_meth1H (TH := fun G => rLN G rS) (f := abOf) back_L e0 h h2 (by decide +kernel) ⟨ok, hz⟩
theorem er_aboveK {G H : Hp} {ps : List Addr} {σ : L2.St} {ta tb : TE} {s : Sht} {z : Str} {E : XK} (e0 : Ex G H) (h : EvR (rS_ K) ps ta σ H s) (h2 : EvR rS ps tb σ H z) (ok : Sok s) (hz : z ∈ s.1.flatten) : EvR (rLN G rS) ps (tMethK (shC K) "above" 1 (Sp2H (rS_ K) rS (fun G => rLN G rS) abOf (fun s z => Sok s ∧ z ∈ s.1.flatten)) (fun vs zs => vs ++ zs) E ta (tCons tb tNil)) σ H (abOf s z) := er_methK (TH := fun G => rLN G rS) (f := abOf) back_L e0 h h2 (by decide +kernel) ⟨ok, hz⟩
theorem er_below {G H : Hp} {ps : List Addr} {σ : L2.St} {ta tb : TE} {s : Sht} {z : Str} {E : XK} (e0 : Ex G H) (h : EvR (rS_ K) ps ta σ H s) (h2 : EvR rS ps tb σ H z) (ok : Sok s) (hz : z ∈ s.1.flatten) : EvR (rLN G rS) ps (tMeth (shC K) "below" (Sp2H (rS_ K) rS (fun G => rLN G rS) beOf (fun s z => Sok s ∧ z ∈ s.1.flatten)) [] E ta (tCons tb tNil)) σ H (beOf s z) := er_meth1H (TH := fun G => rLN G rS) (f := beOf) back_L e0 h h2 (by decide +kernel) ⟨ok, hz⟩
theorem er_belowK {G H : Hp} {ps : List Addr} {σ : L2.St} {ta tb : TE} {s : Sht} {z : Str} {E : XK} (e0 : Ex G H) (h : EvR (rS_ K) ps ta σ H s) (h2 : EvR rS ps tb σ H z) (ok : Sok s) (hz : z ∈ s.1.flatten) : EvR (rLN G rS) ps (tMethK (shC K) "below" 1 (Sp2H (rS_ K) rS (fun G => rLN G rS) beOf (fun s z => Sok s ∧ z ∈ s.1.flatten)) (fun vs zs => vs ++ zs) E ta (tCons tb tNil)) σ H (beOf s z) := er_methK (TH := fun G => rLN G rS) (f := beOf) back_L e0 h h2 (by decide +kernel) ⟨ok, hz⟩
theorem er_level_of {H : Hp} {ps : List Addr} {σ : L2.St} {ta tb : TE} {s : Sht} {z : Str} {E : XK} (h : EvR (rS_ K) ps ta σ H s) (h2 : EvR rS ps tb σ H z) (ok : Sok s) (hz : z ∈ s.1.flatten) : EvR rN ps (tMeth (shC K) "level_of" (Sp2H (rS_ K) rS (fun _ => rN) lvlOf (fun s z => Sok s ∧ z ∈ s.1.flatten)) [] E ta (tCons tb tNil)) σ H (lvlOf s z) := er_meth1H (TH := fun _ => rN) (f := lvlOf) (fun _ _ _ _ _ _ r => r) ex00 h h2 (by decide +kernel) ⟨ok, hz⟩
theorem er_level_ofK {H : Hp} {ps : List Addr} {σ : L2.St} {ta tb : TE} {s : Sht} {z : Str} {E : XK} (h : EvR (rS_ K) ps ta σ H s) (h2 : EvR rS ps tb σ H z) (ok : Sok s) (hz : z ∈ s.1.flatten) : EvR rN ps (tMethK (shC K) "level_of" 1 (Sp2H (rS_ K) rS (fun _ => rN) lvlOf (fun s z => Sok s ∧ z ∈ s.1.flatten)) (fun vs zs => vs ++ zs) E ta (tCons tb tNil)) σ H (lvlOf s z) := er_methK (TH := fun _ => rN) (f := lvlOf) (fun _ _ _ _ _ _ r => r) ex00 h h2 (by decide +kernel) ⟨ok, hz⟩
theorem sc_law_pairs : FnScope ["_law_rows", "_law_found", "_law_row", "_law_one", "_law_other"] ["_law_rows"] (defScope (topS 47)) := ⟨rfl, rfl, rfl, by decide +kernel, rfl, by decide +kernel, by decide +kernel⟩
theorem ok_law_pairs (T : Tx K mg fd) : FnOk P w K mg base CX0 1 (He.ga K "_law_pairs") (fd 21) ["_law_rows"] (Sp1 (rL (rL rS)) (rL rE) (fun rows => srtT (rows.flatMap prs)) (fun rows => rows.length ≤ 12 ∧ ∀ l ∈ rows, l.length ≤ 18)) := by
  refine (T.df 21 47 "_law_pairs" rfl).ok sc_law_pairs (fun vs H Q E h => ?len) (fun cdv A outer s H vs Q E hr h => ?body)
  case body =>
    refine ⟨_, (pss_cons (ps_set (i := 1) sc_law_pairs.nd rfl (Or.inl rfl) (pe_lst pa_nil)) (pss_cons (ps_for PassesOwn.never rfl (pi_list (pv 0)) (pg_name (i := 2) sc_law_pairs.nd rfl (Or.inl rfl)) (pss_one (ps_for PassesOwn.never rfl (pi_list (pv 2)) (pg_name (i := 3) sc_law_pairs.nd rfl (Or.inr rfl)) (pss_one (ps_expr (pe_bm PySem.F.plainAttrs_list PySem.F.slot_list_extend PySem.F.type_list_extend mt_extend (pv 1) (pa_cons (pe_lc (own := [("_law_other", 4)]) (g := gName 4) rfl sc_law_pairs.nd (pi_list (pv 2)) (blkOk_by (N := ["_law_rows", "_law_found", "_law_row", "_law_one", "_law_other"]) (sc := (defScope (topS 47))) (own := [("_law_other", 4)]) (by decide +kernel)) (fun _ _ _ _ _ => (pg_name (i := 4) sc_law_pairs.nd rfl (Or.inl rfl))) (fun _ _ _ _ _ => (pts_one (pt_cmpR op_ne (pv 4) (pv 3) (nomark _)))) (fun _ _ _ _ _ => (pe_tup (pa_cons (pv 3) (pa_cons (pv 4) pa_nil))))) pa_nil))))))) (pss_one (ps_ret (pe_callB cr_sortedT2 (by rfl) (T.fr 51 "sorted" rfl) (by decide +kernel) (pa_cons (pv 1) pa_nil)))))), ?_⟩
    obtain ⟨ps, v, rows, rfl, o, r, ⟨h12, h18⟩, q⟩ := h
    refine q_new (R := rE) o fun q' H1 e1 nq hq o1 x1 l1 => ?_
    have r1 := (rL (rL rS)).m x1 r
    have lenp : ∀ l ∈ rows, (prs l).length ≤ 324 := fun l hl => by
      have h := h18 l hl
      have h2 : (prs l).length ≤ l.length * 18 := flatMap_len fun y _ => Nat.le_trans (prow_len (l := l) (m := l)) h
      omega
    have lena : ∀ i, ((rows.take i).flatMap prs).length ≤ 12 * 324 := fun i => by
      refine Nat.le_trans (flatMap_len (c := 324) fun x hx => lenp x (List.mem_of_mem_take hx)) (Nat.mul_le_mul_right _ (Nat.le_trans (by rw [List.length_take]; exact Nat.min_le_right _ _) h12))
    refine q_forW (xs := rows) o1 (wk_list (er_var (i := 0) rfl r1)) (fun i σ' H' => (∃ o2 o3, σ' = [some v, some (.ref q'), o2, o3, none]) ∧ Ls rE (q' :: ps) H' q' ((rows.take i).flatMap prs) ∧ Ex H H')
      (fun H2 e2 => ⟨⟨none, none, rfl⟩, by rw [List.take_zero]; exact l1.ex e2, e1.trans e2⟩) (fun _ _ _ _ e p => ⟨p.1, p.2.1.ex e, p.2.2.trans e⟩) (fun H2 e2 i x u σ' H3 hx f3 f13 pv ru => ?_) fun σ' H2 f2 pv => ?_
    · obtain ⟨⟨o2, o3, rfl⟩, l3, eH⟩ := pv
      have hxm := List.mem_of_getElem? hx
      have hw := h18 x hxm
      refine s_forW f13.1 (wk_list (er_var (i := 2) rfl ru)) (fun j σ' H' => (∃ o3, σ' = [some v, some (.ref q'), some u, o3, none]) ∧ Ls rE (q' :: ps) H' q' (((rows.take i).flatMap prs) ++ (x.take j).flatMap (prow x)) ∧ Ex H H')
        (fun H4 e4 => ⟨⟨o3, rfl⟩, by rw [List.take_zero, List.flatMap_nil, List.append_nil]; exact l3.ex e4, eH.trans e4⟩) (fun _ _ _ _ e p => ⟨p.1, p.2.1.ex e, p.2.2.trans e⟩) (fun H4 e4 j lo u5 σ' H5 hlo f5 f35 pv ru5 => ?_) fun σ' H4 f4 pv => ?_
      · obtain ⟨⟨o5, rfl⟩, l5, eH5⟩ := pv
        obtain rfl : u5 = .str lo := ru5
        have rz5 := (rL rS).m f35.2 ru
        have h1 := lena i
        have h2 := flatMap_len (l := x.take j) (f := prow x) (c := 18) fun lo _ => Nat.le_trans (prow_len (l := x) (m := x)) hw
        have h3 : (x.take j).length ≤ 18 := by rw [List.length_take]; omega
        have h4 : (prow x lo).length ≤ x.length := prow_len (l := x) (m := x) (x := lo)
        refine s_extR (bs := prow x lo) f35.1 l5 (ev_var (i := 1) rfl) (er_lc1F (R := rS) (S := rE) (fun y => (lo, y)) (fun y => !decide (lo = y)) (wk_list (er_var (i := 2) rfl rz5)) (by omega) (fun _ => rfl) (fun y hy qs v6 H6 e6 o6 x6 r6 => ?_) fun y hy _ qs v6 H6 e6 o6 x6 r6 => er_tup (er_var (v := .str lo) (i := 3) rfl rfl) (er_var (i := 4) rfl r6)) (by rw [List.length_append]; omega) fun H6 f6 l6 ot6 => ?_
        · obtain rfl : v6 = .str y := r6
          refine et_is' (et_test' (er_B (ev_op (ev_var (i := 4) (v := .str y) rfl) (ev_var (i := 3) (v := .str lo) rfl) (rv_ne rfl)))) ?_
          congr 1
          exact decide_eq_decide.mpr ⟨fun z => by injection z with z; exact z.symm, fun z => by rw [z]⟩
        exact ⟨f5.trans f6, ⟨_, rfl⟩, by rw [take_snoc hlo, List.flatMap_append, List.flatMap_cons, List.flatMap_nil, List.append_nil, ← List.append_assoc]; exact l6, Oth.back eH5 ot6 hq⟩
      · obtain ⟨⟨o5, rfl⟩, l4, eH4⟩ := pv
        rw [List.take_length] at l4
        exact ⟨f3.trans f4, ⟨_, _, rfl⟩, by rw [take_snoc hx, List.flatMap_append, List.flatMap_cons, List.flatMap_nil, List.append_nil]; exact l4, eH4⟩
    · obtain ⟨⟨o2, o3, rfl⟩, l2, eH⟩ := pv
      rw [List.take_length] at l2
      exact s_retR (o.ex eH) (er_sortedT (er_var (i := 1) rfl (l2.rep nq))) fun w H3 e3 t => q w H3 (eH.trans e3) t
  case len =>
    obtain ⟨ps, v, rows, rfl, _⟩ := h
    rfl
def nodesD (s : Sht) : PyData := .list [.list (s.1.map fun l => dStrs l), .int (s.1.length : Int), dLines (pairsOf s)]
theorem nodesD_sz {s : Sht} {x : List (List Str) × List (Str × Str)} (h : Pk s x) : Sz 150000 4 (nodesD s) := by
  refine Sz.list (n := 43848) (m := 3) (fun d hd => ?_) (by show 43849 * 3 ≤ _; decide)
  have h1 := h.len
  have h2 := h.h6
  rcases List.mem_cons.mp hd with rfl | hd
  · exact (level_sz h).mono (by decide) (by decide)
  rcases List.mem_cons.mp hd with rfl | hd
  · exact (Sz.nat (by omega)).mono (by decide) (by decide)
  · rw [List.mem_singleton.mp hd]
    have h3 := pairs_few h
    exact (lines_sz h.sok (fun e he => pairs_in he) (k := 43848) (by omega)).mono (by decide) (by decide)
theorem er_dvLL {ps : List Addr} {σ : L2.St} {H : Hp} {te : TE} {ls : List (List Str)} (h : EvR (rL (rL rS)) ps te σ H ls) : EvR rDv ps te σ H (.list (ls.map fun l => dStrs l)) := er_dv (f := fun ls : List (List Str) => PyData.list (ls.map fun l => dStrs l)) h (asL (asL asS))
theorem er_dvS {ps : List Addr} {σ : L2.St} {H : Hp} {te : TE} {l : List Str} (h : EvR (rL rS) ps te σ H l) : EvR rDv ps te σ H (dStrs l) := er_dv (f := fun l : List Str => dStrs l) h (asL asS)
theorem er_dvE {ps : List Addr} {σ : L2.St} {H : Hp} {te : TE} {l : List (Str × Str)} (h : EvR (rL rE) ps te σ H l) : EvR rDv ps te σ H (dLines l) := er_dv (f := fun l : List (Str × Str) => dLines l) h (asL asE)
theorem er_dvN {ps : List Addr} {σ : L2.St} {H : Hp} {te : TE} {n : Nat} (h : EvR rN ps te σ H n) : EvR rDv ps te σ H (.int (n : Int)) := er_dv (f := fun n : Nat => PyData.int (n : Int)) h asN
theorem er_dvI {ps : List Addr} {σ : L2.St} {H : Hp} {te : TE} {n : Int} (h : EvR rI ps te σ H n) : EvR rDv ps te σ H (.int n) := er_dv (f := PyData.int) h asI
theorem et_reprs {ps : List Addr} {σ : L2.St} {H : Hp} {ta tb : TE} {d : PyData} {n m : Nat} (o : Own ps H) (h1 : EvR rDv ps ta σ H d) (h2 : EvR rDv ps tb σ H d) (z : Sz n m d) (hn : n ≤ 300000) (hm : m ≤ 40) : EtR ps (tTest (tOp rNe (tCB (rRepr K) (tCons ta tNil)) (tCB (rRepr K) (tCons tb tNil)))) σ H false :=
  et_is' (et_test' (er_B (ev_op (ev_S o (er_reprD h1 z.sh (Nat.le_trans z.dp hm) (z.len hn))) (ev_S o (er_reprD h2 z.sh (Nat.le_trans z.dp hm) (z.len hn))) (rv_ne rfl)))) (by rw [decide_eq_true rfl]; rfl)
theorem er_d2 {ps : List Addr} {σ : L2.St} {H : Hp} {ta tb : TE} {a b : PyData} (h1 : EvR rDv ps ta σ H a) (h2 : EvR rDv ps tb σ H b) : EvR rDv ps (tLst (tCons ta (tCons tb tNil))) σ H (.list [a, b]) := er_lstD (eas_cons h1 (eas_cons h2 eas_nil)) (by show 2 ≤ 100000; decide)
theorem er_d3 {ps : List Addr} {σ : L2.St} {H : Hp} {ta tb tc : TE} {a b c : PyData} (h1 : EvR rDv ps ta σ H a) (h2 : EvR rDv ps tb σ H b) (h3 : EvR rDv ps tc σ H c) : EvR rDv ps (tLst (tCons ta (tCons tb (tCons tc tNil)))) σ H (.list [a, b, c]) := er_lstD (eas_cons h1 (eas_cons h2 (eas_cons h3 eas_nil))) (by show 3 ≤ 100000; decide)
theorem two_sz {a b : PyData} {n m k : Nat} (h1 : Sz n m a) (h2 : Sz n m b) (hk : (n + 1) * 2 ≤ k) : Sz k (m + 1) (.list [a, b]) := Sz.list (n := n) (m := m) (fun d hd => by
  rcases List.mem_cons.mp hd with rfl | hd
  · exact h1
  · rw [List.mem_singleton.mp hd]; exact h2) hk
theorem three_sz {a b c : PyData} {n m k : Nat} (h1 : Sz n m a) (h2 : Sz n m b) (h3 : Sz n m c) (hk : (n + 1) * 3 ≤ k) : Sz k (m + 1) (.list [a, b, c]) := Sz.list (n := n) (m := m) (fun d hd => by
  rcases List.mem_cons.mp hd with rfl | hd
  · exact h1
  rcases List.mem_cons.mp hd with rfl | hd
  · exact h2
  · rw [List.mem_singleton.mp hd]; exact h3) hk
theorem ab_in {s : Sht} (ok : Sok s) {z y : Str} (h : y ∈ abOf s z) : y ∈ s.1.flatten := by
  obtain ⟨e, he, rfl⟩ := List.mem_map.mp h
  exact (ok.fit e (List.mem_filter.mp he).1).in2
theorem be_in {s : Sht} (ok : Sok s) {z y : Str} (h : y ∈ beOf s z) : y ∈ s.1.flatten := by
  obtain ⟨e, he, rfl⟩ := List.mem_map.mp h
  exact (ok.fit e (List.mem_filter.mp he).1).in1
theorem ab_len {s : Sht} {z : Str} : (abOf s z).length ≤ s.2.length := by unfold abOf; rw [List.length_map]; exact List.length_filter_le _ _
theorem be_len {s : Sht} {z : Str} : (beOf s z).length ≤ s.2.length := by unfold beOf; rw [List.length_map]; exact List.length_filter_le _ _
theorem sc_law_nodes_right : FnScope ["_law_tome", "_law_plan_there", "_law_rows", "_law_lines_now", "_law_row", "_law_at", "_law_name", "_law_up", "_law_low", "_law_high", "_law_down"] ["_law_tome", "_law_plan_there"] (defScope (topS 48)) := ⟨rfl, rfl, rfl, by decide +kernel, rfl, by decide +kernel, by decide +kernel⟩
theorem ok_law_nodes_right (T : Tx K mg fd) : FnOkG P w K mg base CX0 9 (He.ga K "_law_nodes_right") (fd 22) ["_law_tome", "_law_plan_there"] (Sp2 (rS_ K) rPlan rB (fun _ _ => true) Pk) := by
  refine (T.df 22 48 "_law_nodes_right" rfl).okG sc_law_nodes_right (fun vs H Q E h => ?len) (fun cdv A outer s H vs Q E hG hr h => ?body)
  case body =>
    refine ⟨_, (pss_cons (ps_par (i := 2) (j := 3) (by rfl) sc_law_nodes_right.nd rfl rfl (by decide) rfl rfl (pa_cons (pe_lc (own := [("_law_row", 4)]) (g := gName 4) rfl sc_law_nodes_right.nd (pi_list (pe_ix (r := rIxT K) ix_tup (pv 1) pe_int (fun _ _ => rfl))) (blkOk_by (N := ["_law_tome", "_law_plan_there", "_law_rows", "_law_lines_now", "_law_row", "_law_at", "_law_name", "_law_up", "_law_low", "_law_high", "_law_down"]) (sc := (defScope (topS 48))) (own := [("_law_row", 4)]) (by decide +kernel)) (fun _ _ _ _ _ => (pg_name (i := 4) sc_law_nodes_right.nd rfl (Or.inl rfl))) (fun _ _ _ _ _ => pts_nil) (fun _ _ _ _ _ => (pe_callB (r := rSortedS K) cr_sortedS (by rfl) (T.fr 51 "sorted" rfl) (by decide +kernel) (pa_cons (pv 4) pa_nil)))) (pa_cons (pe_ix (r := rIxT K) ix_tup (pv 1) pe_int (fun _ _ => rfl)) pa_nil)) (by rfl)) (pss_cons (ps_if (pt_cmpR op_ne (pe_callB (call_repr hG hr.units) (by rfl) (T.fr 44 "repr" rfl) (by decide +kernel) (pa_cons (pe_lst (pa_cons (pe_meth0 (pv 0) T.cls (T.meth 62 "levels" rfl) (ok_sh_levels T) (hr.mono (by decide)) ((T.dm 42 5 "levels" "Sheet.levels" rfl).binds (ps := ["self"]) fun _ _ _ _ _ _ us hl => match us, hl with | [_], _ => rfl) .nil pass0) (pa_cons (pe_callB (call_ownLen (ok_sh_len T) (hr.mono (by decide)) (T.meth 71 "__len__" rfl) ((T.dm 51 15 "__len__" "Sheet.__len__" rfl).binds (ps := ["self"]) fun _ _ _ _ _ _ us hl => match us, hl with | [_], _ => rfl) .nil pass0) (by rfl) (T.fr 41 "len" rfl) (by decide +kernel) (pa_cons (pv 0) pa_nil)) (pa_cons (pe_meth0 (pv 0) T.cls (T.meth 69 "pairs" rfl) (ok_sh_pairs T) (hr.mono (by decide)) ((T.dm 49 12 "pairs" "Sheet.pairs" rfl).binds (ps := ["self"]) fun _ _ _ _ _ _ us hl => match us, hl with | [_], _ => rfl) .nil pass0) pa_nil)))) pa_nil)) (pe_callB (call_repr hG hr.units) (by rfl) (T.fr 44 "repr" rfl) (by decide +kernel) (pa_cons (pe_lst (pa_cons (pv 2) (pa_cons (pe_callB call_len (by rfl) (T.fr 41 "len" rfl) (by decide +kernel) (pa_cons (pv 2) pa_nil)) (pa_cons (pe_call (ok_law_pairs T) (hr.mono (by decide)) (by rfl) (T.gl 23 "_law_pairs" rfl) (T.df 21 47 "_law_pairs" rfl).kp ((T.df 21 47 "_law_pairs" rfl).binds (ps := ["_law_rows"]) fun _ _ _ _ _ _ us hl => match us, hl with | [_], _ => rfl) .nil pass0 (pa_cons (pv 2) pa_nil)) pa_nil)))) pa_nil)) (nomark _)) (pss_one (ps_ret pe_bl)) pss_nil) (pss_cons (ps_for PassesOwn.never rfl (pi_enumS (by rfl) (T.fr 50 "enumerate" rfl) (pa_cons (pv 2) pa_nil)) (pg_tup rfl (pgs_cons (pg_name (i := 5) sc_law_nodes_right.nd rfl (Or.inl rfl)) (pgs_cons (pg_name (i := 4) sc_law_nodes_right.nd rfl (Or.inl rfl)) pgs_nil))) (pss_cons (ps_if (pt_cmpR op_ne (pe_callB (call_repr hG hr.units) (by rfl) (T.fr 44 "repr" rfl) (by decide +kernel) (pa_cons (pe_lst (pa_cons (pe_meth (pv 0) T.cls (T.meth 63 "level" rfl) (ok_sh_level T) (hr.mono (by decide)) ((T.dm 43 6 "level" "Sheet.level" rfl).binds (ps := ["self", "number"]) fun _ _ _ _ _ _ us hl => match us, hl with | [_, _], _ => rfl) .nil pass0 (pa_cons (pv 5) pa_nil)) (pa_cons (pe_methK (pv 0) T.cls (T.meth 63 "level" rfl) (ok_sh_level T) (hr.mono (by decide)) ((T.dm 43 6 "level" "Sheet.level" rfl).kbn (ps := ["self", "number"]) (ks := ["number"]) (n := 1) fun _ _ _ _ _ _ us ws h1 h2 => match us, ws, h1, h2 with | [_], [_], _, _ => rfl) pass0 (pk_cons (pv 5) pk_nil)) pa_nil))) pa_nil)) (pe_callB (call_repr hG hr.units) (by rfl) (T.fr 44 "repr" rfl) (by decide +kernel) (pa_cons (pe_lst (pa_cons (pv 4) (pa_cons (pv 4) pa_nil))) pa_nil)) (nomark _)) (pss_one (ps_ret pe_bl)) pss_nil) (pss_one (ps_for PassesOwn.never rfl (pi_list (pv 4)) (pg_name (i := 6) sc_law_nodes_right.nd rfl (Or.inr rfl)) (pss_cons (ps_set (i := 7) sc_law_nodes_right.nd rfl (Or.inl rfl) (pe_callB cr_sortedS (by rfl) (T.fr 51 "sorted" rfl) (by decide +kernel) (pa_cons (pe_lc (own := [("_law_low", 8), ("_law_high", 9)]) (g := gTup K 2 (gCons (gName 8) (gCons (gName 9) gNil))) rfl sc_law_nodes_right.nd (pi_list (pv 3)) (blkOk_by (N := ["_law_tome", "_law_plan_there", "_law_rows", "_law_lines_now", "_law_row", "_law_at", "_law_name", "_law_up", "_law_low", "_law_high", "_law_down"]) (sc := (defScope (topS 48))) (own := [("_law_low", 8), ("_law_high", 9)]) (by decide +kernel)) (fun _ _ _ _ _ => (pg_tup rfl (pgs_cons (pg_name (i := 8) sc_law_nodes_right.nd rfl (Or.inl rfl)) (pgs_cons (pg_name (i := 9) sc_law_nodes_right.nd rfl (Or.inl rfl)) pgs_nil)))) (fun _ _ _ _ _ => (pts_one (pt_cmpR op_eq (pv 8) (pv 6) (nomark _)))) (fun _ _ _ _ _ => (pv 9))) pa_nil))) (pss_cons (ps_set (i := 10) sc_law_nodes_right.nd rfl (Or.inl rfl) (pe_callB cr_sortedS (by rfl) (T.fr 51 "sorted" rfl) (by decide +kernel) (pa_cons (pe_lc (own := [("_law_low", 8), ("_law_high", 9)]) (g := gTup K 2 (gCons (gName 8) (gCons (gName 9) gNil))) rfl sc_law_nodes_right.nd (pi_list (pv 3)) (blkOk_by (N := ["_law_tome", "_law_plan_there", "_law_rows", "_law_lines_now", "_law_row", "_law_at", "_law_name", "_law_up", "_law_low", "_law_high", "_law_down"]) (sc := (defScope (topS 48))) (own := [("_law_low", 8), ("_law_high", 9)]) (by decide +kernel)) (fun _ _ _ _ _ => (pg_tup rfl (pgs_cons (pg_name (i := 8) sc_law_nodes_right.nd rfl (Or.inl rfl)) (pgs_cons (pg_name (i := 9) sc_law_nodes_right.nd rfl (Or.inl rfl)) pgs_nil)))) (fun _ _ _ _ _ => (pts_one (pt_cmpR op_eq (pv 9) (pv 6) (nomark _)))) (fun _ _ _ _ _ => (pv 8))) pa_nil))) (pss_cons (ps_if (pt_cmpR op_ne (pe_callB (call_repr hG hr.units) (by rfl) (T.fr 44 "repr" rfl) (by decide +kernel) (pa_cons (pe_lst (pa_cons (pe_meth (pv 0) T.cls (T.meth 66 "level_of" rfl) (ok_sh_level_of T) (hr.mono (by decide)) ((T.dm 46 9 "level_of" "Sheet.level_of" rfl).binds (ps := ["self", "node"]) fun _ _ _ _ _ _ us hl => match us, hl with | [_, _], _ => rfl) .nil pass0 (pa_cons (pv 6) pa_nil)) (pa_cons (pe_meth (pv 0) T.cls (T.meth 67 "above" rfl) (ok_sh_above T) (hr.mono (by decide)) ((T.dm 47 10 "above" "Sheet.above" rfl).binds (ps := ["self", "node"]) fun _ _ _ _ _ _ us hl => match us, hl with | [_, _], _ => rfl) .nil pass0 (pa_cons (pv 6) pa_nil)) (pa_cons (pe_meth (pv 0) T.cls (T.meth 68 "below" rfl) (ok_sh_below T) (hr.mono (by decide)) ((T.dm 48 11 "below" "Sheet.below" rfl).binds (ps := ["self", "node"]) fun _ _ _ _ _ _ us hl => match us, hl with | [_, _], _ => rfl) .nil pass0 (pa_cons (pv 6) pa_nil)) pa_nil)))) pa_nil)) (pe_callB (call_repr hG hr.units) (by rfl) (T.fr 44 "repr" rfl) (by decide +kernel) (pa_cons (pe_lst (pa_cons (pv 5) (pa_cons (pv 7) (pa_cons (pv 10) pa_nil)))) pa_nil)) (nomark _)) (pss_one (ps_ret pe_bl)) pss_nil) (pss_one (ps_if (pt_cmpR op_ne (pe_callB (call_repr hG hr.units) (by rfl) (T.fr 44 "repr" rfl) (by decide +kernel) (pa_cons (pe_lst (pa_cons (pe_methK (pv 0) T.cls (T.meth 66 "level_of" rfl) (ok_sh_level_of T) (hr.mono (by decide)) ((T.dm 46 9 "level_of" "Sheet.level_of" rfl).kbn (ps := ["self", "node"]) (ks := ["node"]) (n := 1) fun _ _ _ _ _ _ us ws h1 h2 => match us, ws, h1, h2 with | [_], [_], _, _ => rfl) pass0 (pk_cons (pv 6) pk_nil)) (pa_cons (pe_methK (pv 0) T.cls (T.meth 67 "above" rfl) (ok_sh_above T) (hr.mono (by decide)) ((T.dm 47 10 "above" "Sheet.above" rfl).kbn (ps := ["self", "node"]) (ks := ["node"]) (n := 1) fun _ _ _ _ _ _ us ws h1 h2 => match us, ws, h1, h2 with | [_], [_], _, _ => rfl) pass0 (pk_cons (pv 6) pk_nil)) (pa_cons (pe_methK (pv 0) T.cls (T.meth 68 "below" rfl) (ok_sh_below T) (hr.mono (by decide)) ((T.dm 48 11 "below" "Sheet.below" rfl).kbn (ps := ["self", "node"]) (ks := ["node"]) (n := 1) fun _ _ _ _ _ _ us ws h1 h2 => match us, ws, h1, h2 with | [_], [_], _, _ => rfl) pass0 (pk_cons (pv 6) pk_nil)) pa_nil)))) pa_nil)) (pe_callB (call_repr hG hr.units) (by rfl) (T.fr 44 "repr" rfl) (by decide +kernel) (pa_cons (pe_lst (pa_cons (pv 5) (pa_cons (pv 7) (pa_cons (pv 10) pa_nil)))) pa_nil)) (nomark _)) (pss_one (ps_ret pe_bl)) pss_nil))))))))) (pss_one (ps_ret pe_bl))))), ?_⟩
    obtain ⟨ps, v, w, s, x, rfl, o, r, ra, pk, q⟩ := h
    have ok := pk.sok
    have hmk := pk.mk'
    have h12 := hmk.h12
    have hm14 := pk.m
    refine q_parR o (er_is (er_lc1 (R := rL rS) (S := rL rS) srtS (wk_list (er_fst (er_var (i := 1) rfl ra) (er_I ev_c))) (by omega) (fun _ => rfl) fun l hl qs v1 H1 _ _ _ r1 => er_sortedS (er_var (i := 4) rfl r1) (by have := hmk.w18 l hl; omega)) pk.lv.symm) (er_snd (er_var (i := 1) rfl ra) (er_I ev_c)) fun vr vl H1 e1 rr rl => ?_
    have r := (rS_ K).m (Rm_mono e1) r
    have o1 := o.ex e1
    have hl12 : s.1.length ≤ 12 := ok.h12
    refine q_whenR o1 (b := false) (et_reprs (d := nodesD s) (n := 150000) (m := 4) o1 (er_d3 (er_dvLL (er_levelsL (er_var (i := 0) rfl r) ok)) (er_dvI (er_lenO (er_var (i := 0) rfl r) ok)) (er_dvE (er_NL (er_pairsO ex00 (er_var (i := 0) rfl r) ok)))) (er_d3 (er_dvLL (er_var (i := 2) rfl rr)) (er_dvI (er_lenL (er_toQ (er_var (i := 2) rfl rr)))) (er_dvE (er_call1 (er_var (i := 2) rfl rr) ⟨hl12, ok.w18⟩))) (nodesD_sz pk) (by decide) (by decide)) (fun z => nomatch z) fun _ H2 e2 => ?_
    have r := (rS_ K).m (Rm_mono e2) r
    have rr := (rL (rL rS)).m (Rm_mono e2) rr
    have rl := (rL rE).m (Rm_mono e2) rl
    have o2 := o1.ex e2
    have e02 := e1.trans e2
    refine q_forW o2 (wk_enum (er_toQ (er_var (i := 2) rfl rr))) (fun _ σ' H' => (∃ o4 o5 o6 o7 o8 o9 o10, σ' = [some v, some w, some vr, some vl, o4, o5, o6, o7, o8, o9, o10]) ∧ Ex H H') (fun H3 e3 => ⟨⟨_, _, _, _, _, _, _, rfl⟩, e02.trans e3⟩) (fun _ _ _ _ e p => ⟨p.1, p.2.trans e⟩) (fun H3 e3 i y u σ' H4 hy f4 f24 pv ru => ?_) fun σ' H3 f3 pv => ?_
    · obtain ⟨⟨o4, o5, o6, o7, o8, o9, o10, rfl⟩, e04⟩ := pv
      obtain ⟨a, y1, y2, rfl, g2, g3, g4⟩ := ru
      obtain ⟨hy1, hy2⟩ := List.getElem?_zip_eq_some.mp hy
      have hyi : y.1 = i := by
        have hlt := (List.getElem?_eq_some_iff.mp hy1).1
        rw [List.length_range] at hlt
        rw [List.getElem?_range hlt] at hy1
        exact (Option.some.inj hy1).symm
      obtain ⟨y, row⟩ := y
      dsimp only at hyi hy1 hy2 g3 g4
      subst hyi
      have hil : y < s.1.length := (List.getElem?_eq_some_iff.mp hy2).1
      have hrow : lvAt s y = row := by
        have h1 := lvAt_get hil
        rw [hy2] at h1
        exact (Option.some.inj h1).symm
      have hrm := List.mem_of_getElem? hy2
      have hrin : ∀ z ∈ row, z ∈ s.1.flatten := fun z hz => List.mem_flatten.mpr ⟨row, hrm, hz⟩
      have hrl := pk.w row hrm
      refine ⟨a, _, rfl, st_of (Rm_ex _ _ g2), rfl, _, _, rfl, _, _, rfl, rfl, ?_⟩
      dsimp only
      have r := (rS_ K).m f24.2 r
      have rl := (rL rE).m f24.2 rl
      have o4' := f24.1
      refine q_whenR o4' (b := false) (et_reprs (d := .list [dStrs row, dStrs row]) (n := 10000) (m := 2) o4' (er_d2 (er_dvS (er_is (er_NL (er_level ex00 (er_var (i := 0) rfl r) (er_var (i := 5) rfl g3) ok hil)) hrow)) (er_dvS (er_is (er_NL (er_levelK ex00 (er_var (i := 0) rfl r) (er_var (i := 5) rfl g3) ok hil)) hrow))) (er_d2 (er_dvS (er_var (i := 4) rfl g4)) (er_dvS (er_var (i := 4) rfl g4))) (two_sz (strs_sz ok hrin (k := 606) (by omega)) (strs_sz ok hrin (k := 606) (by omega)) (by decide)) (by decide) (by decide)) (fun z => nomatch z) fun _ H5 e5 => ?_
      have f5 := f4.ex e5
      have f25 := f24.ex e5
      have e05 := e04.trans e5
      have r := (rS_ K).m (Rm_mono e5) r
      have rl := (rL rE).m (Rm_mono e5) rl
      have g3 := rN.m (Rm_mono e5) g3
      have g4 := (rL rS).m (Rm_mono e5) g4
      refine s_forW f5.1 (wk_list (er_var (i := 4) rfl g4)) (fun _ σ' H' => (∃ o6 o7 o8 o9 o10, σ' = [some v, some w, some vr, some vl, some y2, some y1, o6, o7, o8, o9, o10]) ∧ Ex H H') (fun H6 e6 => ⟨⟨_, _, _, _, _, rfl⟩, e05.trans e6⟩) (fun _ _ _ _ e p => ⟨p.1, p.2.trans e⟩) (fun H6 e6 j z u σ' H7 hz f7 f57 pv ru => ?_) fun σ' H6 f6 pv => ⟨f5.trans f6, ⟨let ⟨o6, o7, o8, o9, o10, h⟩ := pv.1; ⟨_, _, o6, o7, o8, o9, o10, h⟩, pv.2⟩⟩
      obtain ⟨⟨o6, o7, o8, o9, o10, rfl⟩, e07⟩ := pv
      obtain rfl : u = .str z := ru
      have r := (rS_ K).m f57.2 r
      have rl := (rL rE).m f57.2 rl
      have g3 := rN.m f57.2 g3
      have o7' := f57.1
      have hzm := hrin z (List.mem_of_getElem? hz)
      have hzl : lvlOf s z = y := lvlOf_eq ok hy2 (List.mem_of_getElem? hz)
      have hab : srtS ((x.2.filter fun e => decide (e.1 = z)).map fun e => e.2) = abOf s z := by rw [← ab_eq s.1, ← pk.ln]
      have hbe : srtS ((x.2.filter fun e => decide (e.2 = z)).map fun e => e.1) = beOf s z := by rw [← be_eq s.1, ← pk.ln]
      have hfl : ∀ p : Str × Str → Bool, (x.2.filter p).length < 64 := fun p => by
        have := List.length_filter_le p x.2
        have := pk.m14
        omega
      refine q_asgR' o7' (er_is (er_sortedS (er_lc2F (R := rS) (S := rS) (T := rS) (fun e => e.2) (fun e => decide (e.1 = z)) (wk_list (er_var (i := 3) rfl rl)) (by have := pk.m14; omega) (fun _ _ => rfl) (fun e he qs v8 w8 H8 e8 o8 x8 r8 s8 => ?_) fun e he _ qs v8 w8 H8 e8 o8 x8 r8 s8 => er_var rfl s8) (by rw [List.length_map]; exact hfl _)) hab) fun vu H8 e8 ru => ?_
      · obtain rfl : v8 = .str e.1 := r8
        exact et_is' (et_test' (er_B (ev_op (ev_var (v := .str e.1) rfl) (ev_var (v := .str z) rfl) (rv_eq rfl)))) (decide_eq_decide.mpr ⟨fun z => by injection z, fun z => by rw [z]⟩)
      have r := (rS_ K).m (Rm_mono e8) r
      have rl := (rL rE).m (Rm_mono e8) rl
      have g3 := rN.m (Rm_mono e8) g3
      have o8' := o7'.ex e8
      refine q_asgR' o8' (er_is (er_sortedS (er_lc2F (R := rS) (S := rS) (T := rS) (fun e => e.1) (fun e => decide (e.2 = z)) (wk_list (er_var (i := 3) rfl rl)) (by have := pk.m14; omega) (fun _ _ => rfl) (fun e he qs v9 w9 H9 e9 o9 x9 r9 s9 => ?_) fun e he _ qs v9 w9 H9 e9 o9 x9 r9 s9 => er_var rfl r9) (by rw [List.length_map]; exact hfl _)) hbe) fun vd H9 e9 rd => ?_
      · obtain rfl : w9 = .str e.2 := s9
        exact et_is' (et_test' (er_B (ev_op (ev_var (v := .str e.2) rfl) (ev_var (v := .str z) rfl) (rv_eq rfl)))) (decide_eq_decide.mpr ⟨fun z => by injection z, fun z => by rw [z]⟩)
      have r := (rS_ K).m (Rm_mono e9) r
      have ru := (rL rS).m (Rm_mono e9) ru
      have g3 := rN.m (Rm_mono e9) g3
      have o9' := o8'.ex e9
      have hy40 : y ≤ 40 := by omega
      have sz : Sz 20000 2 (.list [.int (y : Int), dStrs (abOf s z), dStrs (beOf s z)]) := by
        have h1 := ab_len (s := s) (z := z)
        have h2 := be_len (s := s) (z := z)
        exact three_sz ((Sz.nat hy40).mono (by decide) (by decide)) (strs_sz ok (fun _ h => ab_in ok h) (k := 1414) (by omega)) (strs_sz ok (fun _ h => be_in ok h) (k := 1414) (by omega)) (by decide)
      refine q_whenR o9' (b := false) (et_reprs (n := 20000) (m := 2) o9' (er_d3 (er_dvN (er_is (er_level_of (er_var (i := 0) rfl r) (er_var (i := 6) (v := .str z) rfl rfl) ok hzm) hzl)) (er_dvS (er_NL (er_above ex00 (er_var (i := 0) rfl r) (er_var (i := 6) (v := .str z) rfl rfl) ok hzm))) (er_dvS (er_NL (er_below ex00 (er_var (i := 0) rfl r) (er_var (i := 6) (v := .str z) rfl rfl) ok hzm)))) (er_d3 (er_dvN (er_var (i := 5) rfl g3)) (er_dvS (er_var (i := 7) rfl ru)) (er_dvS (er_var (i := 10) rfl rd))) sz (by decide) (by decide)) (fun z => nomatch z) fun _ H10 e10 => ?_
      have r := (rS_ K).m (Rm_mono e10) r
      have ru := (rL rS).m (Rm_mono e10) ru
      have rd := (rL rS).m (Rm_mono e10) rd
      have g3 := rN.m (Rm_mono e10) g3
      have o10' := o9'.ex e10
      refine s_whenR o10' (b := false) (et_reprs (n := 20000) (m := 2) o10' (er_d3 (er_dvN (er_is (er_level_ofK (er_var (i := 0) rfl r) (er_var (i := 6) (v := .str z) rfl rfl) ok hzm) hzl)) (er_dvS (er_NL (er_aboveK ex00 (er_var (i := 0) rfl r) (er_var (i := 6) (v := .str z) rfl rfl) ok hzm))) (er_dvS (er_NL (er_belowK ex00 (er_var (i := 0) rfl r) (er_var (i := 6) (v := .str z) rfl rfl) ok hzm)))) (er_d3 (er_dvN (er_var (i := 5) rfl g3)) (er_dvS (er_var (i := 7) rfl ru)) (er_dvS (er_var (i := 10) rfl rd))) sz (by decide) (by decide)) (fun z => nomatch z) fun _ H11 e11 => ?_
      have e711 := ((e8.trans e9).trans e10).trans e11
      exact ⟨f7.ex e711, ⟨_, _, _, _, _, rfl⟩, e07.trans e711⟩
    · exact s_retR (o.ex pv.2) (er_B ev_c) fun v4 H4 e4 t => q v4 H4 (pv.2.trans e4) t
  case len =>
    obtain ⟨ps, v, w, s, x, rfl, _⟩ := h
    rfl
end
end K12
set_option Elab.async false
set_option linter.all false
set_option maxRecDepth 100000
set_option maxHeartbeats 4000000
namespace K12
open PySem PySem.Spec PyProof.Rows L2 Evl Gen RP ItX
section
variable {P : Program} {w : World} {K : PySem.W.Frag} {mg : Str → Option Value} {base : Heap} {fd : Nat → FuncData}
theorem er_reprO {ps : List Addr} {σ : L2.St} {H : Hp} {te : TE} {s : Sht} {E : XK} (h : EvR (rS_ K) ps te σ H s) (ok : Sok s) : EvR rS ps (tCB (rOwnRepr (shC K) (Sp1 (rS_ K) rS reprT Sok) [] E) (tCons te tNil)) σ H (reprT s) := er_cb1 h fun v H1 e o r Q q => by
  have r2 := r
  obtain ⟨x, rfl, dx, p1, p2, p3, p4, p5, p6, kvs, h1, _⟩ := r2
  exact ⟨x, dx, _, rfl, Rm_ex _ _ h1, ps, _, s, rfl, o, r, ok, fun w H2 e2 t => ⟨reprT s, t, q _ H2 e2 rfl⟩⟩
theorem q_asgT {α : Type} {R : Rp α} {ps : List Addr} {σ : L2.St} {H : Hp} {te : TE} {a : α} {g : TG} {tz : TS} {D : Ends} (o : Own ps H) (h : EvR R ps te σ H a) (k : ∀ v H1, Ex H H1 → R.p a v (Rm ps H1) → g v σ H1 fun σ2 H2 => tz D σ2 H2) : tSeq (tAsg te g) tz D σ H := h H (Ex.refl H) o _ k
theorem er_nat {ps : List Addr} {σ : L2.St} {H : Hp} {te : TE} {i : Int} {n : Nat} (h : Ev te σ H (.int i)) (e : i = (n : Int)) : EvR rN ps te σ H n := er_of (by rw [← e]; exact h) rfl
theorem in_seqK {X : Cx} (hK : X.K = K) : OpR X (compareOp .In) (rIn K false) := hK ▸ op_in_seq
theorem et_inL {ps : List Addr} {σ : L2.St} {H : Hp} {ty td : TE} {ns : List Str} {x : Str} (hy : EvR rS ps ty σ H x) (hd : EvR (rL rS) ps td σ H ns) : EtR ps (tTest (tOp (rIn K false) ty td)) σ H (decide (x ∈ ns)) :=
  et_test' (er_inL (fun q ns x H1 Q h k => ⟨q, _, rfl, .inl h, rfl, flat_strs ns, by
    rw [if_neg Bool.false_ne_true, inV_str]
    exact k⟩) hy hd)
theorem er_addS {ps : List Addr} {σ : L2.St} {H : Hp} {ta tb : TE} {a b : Str} (h1 : EvR rS ps ta σ H a) (h2 : EvR rS ps tb σ H b) (hz : a.length + b.length ≤ sizeLine) : EvR rS ps (tOp (fun x y H Q => ∃ i j, x = .str i ∧ y = .str j ∧ i.length + j.length ≤ sizeLine ∧ Q (.str (i ++ j)) H) ta tb) σ H (a ++ b) := er_op h1 h2 fun v w H1 e o rv rw' Q q => by
  obtain rfl : v = .str a := rv
  obtain rfl : w = .str b := rw'
  exact ⟨a, b, rfl, rfl, hz, q _ H1 (Ex.refl _) rfl⟩
theorem gap_due {s : Sht} {x : List (List Str) × List (Str × Str)} (pk : Pk s x) {i : Nat} {row : List Str} (h : x.1[i]? = some row) : (s.2.filter fun e => decide (e.1 ∈ row)) = gapOf s i := by
  unfold gapOf
  have h1 : lvAt s i = srtS row := by
    unfold lvAt
    rw [pk.lv, List.getElem?_map, h]
    rfl
  rw [h1]
  congr 1
  funext e
  exact decide_eq_decide.mpr mem_srtS.symm
theorem gap_in {s : Sht} (ok : Sok s) {n : Nat} {e : Str × Str} (h : e ∈ gapOf s n) : e.1 ∈ s.1.flatten ∧ e.2 ∈ s.1.flatten := let f := ok.fit e (List.mem_filter.mp h).1; ⟨f.in1, f.in2⟩
theorem gap_len {s : Sht} {n : Nat} : (gapOf s n).length ≤ s.2.length := List.length_filter_le _ _
theorem sc_law_lines_right : FnScope ["_law_tome", "_law_plan_there", "_law_rows", "_law_lines_now", "_law_at", "_law_due", "_law_one", "_law_shown", "_law_row"] ["_law_tome", "_law_plan_there"] (defScope (topS 49)) := ⟨rfl, rfl, rfl, by decide +kernel, rfl, by decide +kernel, by decide +kernel⟩
theorem ok_law_lines_right (T : Tx K mg fd) : FnOkG P w K mg base CX0 9 (He.ga K "_law_lines_right") (fd 23) ["_law_tome", "_law_plan_there"] (Sp2 (rS_ K) rPlan rB (fun _ _ => true) Pk) := by
  refine (T.df 23 49 "_law_lines_right" rfl).okG sc_law_lines_right (fun vs H Q E h => ?len) (fun cdv A outer s H vs Q E hG hr h => ?body)
  case body =>
    refine ⟨_, (pss_cons (ps_asg (pe_tup (pa_cons (pe_ix (r := rIxT K) ix_tup (pv 1) pe_int (fun _ _ => rfl)) (pa_cons (pe_callB cr_sortedT2 (by rfl) (T.fr 51 "sorted" rfl) (by decide +kernel) (pa_cons (pe_ix (r := rIxT K) ix_tup (pv 1) pe_int (fun _ _ => rfl)) pa_nil)) pa_nil))) (pg_tup rfl (pgs_cons (pg_name (i := 2) sc_law_lines_right.nd rfl (Or.inr rfl)) (pgs_cons (pg_name (i := 3) sc_law_lines_right.nd rfl (Or.inl rfl)) pgs_nil)))) (pss_cons (ps_if (pt_cmpR op_ne (pe_callB (call_repr hG hr.units) (by rfl) (T.fr 44 "repr" rfl) (by decide +kernel) (pa_cons (pe_meth0 (pv 0) T.cls (T.meth 64 "lines" rfl) (ok_sh_lines T) (hr.mono (by decide)) ((T.dm 44 7 "lines" "Sheet.lines" rfl).binds (ps := ["self"]) fun _ _ _ _ _ _ us hl => match us, hl with | [_], _ => rfl) .nil pass0) pa_nil)) (pe_callB (call_repr hG hr.units) (by rfl) (T.fr 44 "repr" rfl) (by decide +kernel) (pa_cons (pv 3) pa_nil)) (nomark _)) (pss_one (ps_ret pe_bl)) pss_nil) (pss_cons (ps_for PassesOwn.never rfl (pi_range1 (by rfl) (T.fr 45 "range" rfl) (pa_cons (pe_op op_sub (pe_callB call_len (by rfl) (T.fr 41 "len" rfl) (by decide +kernel) (pa_cons (pv 2) pa_nil)) pe_int) pa_nil)) (pg_name (i := 4) sc_law_lines_right.nd rfl (Or.inr rfl)) (pss_cons (ps_setLc (i := 5) (own := [("_law_one", 6)]) (g := gName 6) rfl sc_law_lines_right.nd rfl rfl (sw_true rfl rfl rfl (by decide +kernel)) (pi_list (pv 3)) (blkOk_by (N := ["_law_tome", "_law_plan_there", "_law_rows", "_law_lines_now", "_law_at", "_law_due", "_law_one", "_law_shown", "_law_row"]) (sc := (defScope (topS 49))) (own := [("_law_one", 6)]) (by decide +kernel)) (fun _ _ _ _ _ => (pg_name (i := 6) sc_law_lines_right.nd rfl (Or.inl rfl))) (fun _ _ _ _ _ => (pts_one (pt_cmpR (in_seqK (K := K) rfl) (pe_ix (r := rIxT K) ix_tup (pv 6) pe_int (fun _ _ => rfl)) (pe_ix (r := rIxL K) ix_list (pv 2) (pv 4) (fun _ _ => rfl)) rfl))) (fun _ _ _ _ _ => (pv 6))) (pss_one (ps_if (pt_cmpR op_ne (pe_callB (call_repr hG hr.units) (by rfl) (T.fr 44 "repr" rfl) (by decide +kernel) (pa_cons (pe_lst (pa_cons (pe_meth (pv 0) T.cls (T.meth 65 "gap" rfl) (ok_sh_gap T) (hr.mono (by decide)) ((T.dm 45 8 "gap" "Sheet.gap" rfl).binds (ps := ["self", "number"]) fun _ _ _ _ _ _ us hl => match us, hl with | [_, _], _ => rfl) .nil pass0 (pa_cons (pv 4) pa_nil)) (pa_cons (pe_methK (pv 0) T.cls (T.meth 65 "gap" rfl) (ok_sh_gap T) (hr.mono (by decide)) ((T.dm 45 8 "gap" "Sheet.gap" rfl).kbn (ps := ["self", "number"]) (ks := ["number"]) (n := 1) fun _ _ _ _ _ _ us ws h1 h2 => match us, ws, h1, h2 with | [_], [_], _, _ => rfl) pass0 (pk_cons (pv 4) pk_nil)) pa_nil))) pa_nil)) (pe_callB (call_repr hG hr.units) (by rfl) (T.fr 44 "repr" rfl) (by decide +kernel) (pa_cons (pe_lst (pa_cons (pv 5) (pa_cons (pv 5) pa_nil))) pa_nil)) (nomark _)) (pss_one (ps_ret pe_bl)) pss_nil)))) (pss_cons (ps_set (i := 7) sc_law_lines_right.nd rfl (Or.inl rfl) (pe_op op_add_str (pe_op op_add_str (pe_callB (call_repr hG hr.units) (by rfl) (T.fr 44 "repr" rfl) (by decide +kernel) (pa_cons (pe_lc (own := [("_law_row", 8)]) (g := gName 8) rfl sc_law_lines_right.nd (pi_list (pv 2)) (blkOk_by (N := ["_law_tome", "_law_plan_there", "_law_rows", "_law_lines_now", "_law_at", "_law_due", "_law_one", "_law_shown", "_law_row"]) (sc := (defScope (topS 49))) (own := [("_law_row", 8)]) (by decide +kernel)) (fun _ _ _ _ _ => (pg_name (i := 8) sc_law_lines_right.nd rfl (Or.inl rfl))) (fun _ _ _ _ _ => pts_nil) (fun _ _ _ _ _ => (pe_callB (r := rSortedS K) cr_sortedS (by rfl) (T.fr 51 "sorted" rfl) (by decide +kernel) (pa_cons (pv 8) pa_nil)))) pa_nil)) pe_str) (pe_callB (call_repr hG hr.units) (by rfl) (T.fr 44 "repr" rfl) (by decide +kernel) (pa_cons (pv 3) pa_nil)))) (pss_one (ps_ret (pe_cmpR op_eq (pe_callB (call_ownReprG (ok_sh_repr T) hG (hr.mono (by decide)) (T.meth 75 "__repr__" rfl) ((T.dm 55 19 "__repr__" "Sheet.__repr__" rfl).binds (ps := ["self"]) fun _ _ _ _ _ _ us hl => match us, hl with | [_], _ => rfl) pass0) (by rfl) (T.fr 44 "repr" rfl) (by decide +kernel) (pa_cons (pv 0) pa_nil)) (pe_op op_add_str (pe_op op_add_str pe_str (pv 7)) pe_str) (nomark _)))))))), ?_⟩
    obtain ⟨ps, v, w, s, x, rfl, o, r, ra, pk, q⟩ := h
    have ok := pk.sok
    have hmk := pk.mk'
    have h12 := hmk.h12
    have h6 := pk.h6
    have hlen := pk.len
    have hm14 := pk.m
    have hp0 : 0 < x.1.length := List.length_pos_iff.mpr hmk.lv.some
    refine q_asgT o (er_tup (er_fst (er_var (i := 1) rfl ra) (er_I ev_c)) (er_is (er_sortedT (er_snd (er_var (i := 1) rfl ra) (er_I ev_c))) pk.ln.symm)) fun v1 H1 e1 rt => ?_
    obtain ⟨a, vr, vl, rfl, h2, rr, rl⟩ := rt
    refine ⟨a, _, rfl, st_of (Rm_ex _ _ h2), rfl, _, _, rfl, _, _, rfl, rfl, ?_⟩
    dsimp only at rr rl ⊢
    have r := (rS_ K).m (Rm_mono e1) r
    have o1 := o.ex e1
    have szl : Sz 10000 2 (dLines s.2) := lines_sz ok (fun e he => ⟨(ok.fit e he).in1, (ok.fit e he).in2⟩) (by omega)
    refine q_whenR o1 (b := false) (et_reprs (n := 10000) (m := 2) o1 (er_dvE (er_NL (er_lines ex00 (er_var (i := 0) rfl r) ok))) (er_dvE (er_var (i := 3) rfl rl)) szl (by decide) (by decide)) (fun z => nomatch z) fun _ H2 e2 => ?_
    have r := (rS_ K).m (Rm_mono e2) r
    have rr := (rL (rL rS)).m (Rm_mono e2) rr
    have rl := (rL rE).m (Rm_mono e2) rl
    have o2 := o1.ex e2
    have e02 := e1.trans e2
    refine q_forW o2 (wk_range (n := x.1.length - 1) (er_I (ev_is (ev_op (ev_I o2 (er_lenL (er_toQ (er_var (i := 2) rfl rr)))) ev_c rv_I0) (congrArg V.int (by omega)))) (by omega)) (fun _ σ' H' => (∃ o4 o5 o6 o7 o8, σ' = [some v, some w, some vr, some vl, o4, o5, o6, o7, o8]) ∧ Ex H H') (fun H3 e3 => ⟨⟨_, _, _, _, _, rfl⟩, e02.trans e3⟩) (fun _ _ _ _ e p => ⟨p.1, p.2.trans e⟩) (fun H3 e3 i y u σ' H4 hy f4 f24 pv ru => ?_) fun σ' H3 f3 pv => ?_
    · obtain ⟨⟨o4, o5, o6, o7, o8, rfl⟩, e04⟩ := pv
      obtain rfl : u = .int (y : Int) := ru
      have hyl : y < x.1.length - 1 := by
        have := List.mem_of_getElem? hy
        rwa [List.mem_range] at this
      have hrow : x.1[y]? = some x.1[y] := List.getElem?_eq_getElem (by omega)
      have r := (rS_ K).m f24.2 r
      have rr := (rL (rL rS)).m f24.2 rr
      have rl := (rL rE).m f24.2 rl
      have o4' := f24.1
      refine q_asgR' o4' (er_is (a' := gapOf s y) (er_lc1F (R := rE) (S := rE) id (fun e => decide (e.1 ∈ x.1[y])) (wk_list (er_var (i := 3) rfl rl)) (by omega) (fun _ => rfl) (fun e he qs v5 H5 e5 o5 x5 r5 => et_inL (er_fst (er_var rfl r5) (er_I ev_c)) (er_ix (er_var (i := 2) rfl ((rL (rL rS)).m x5 rr)) (er_I (ev_var (i := 4) rfl)) hrow)) fun e he _ qs v5 H5 e5 o5 x5 r5 => er_var rfl r5) (by rw [List.map_id]; exact gap_due pk hrow)) fun vd H5 e5 rd => ?_
      have r := (rS_ K).m (Rm_mono e5) r
      have o5' := o4'.ex e5
      have hgl := gap_len (s := s) (n := y)
      have szg : Sz 10000 2 (dLines (gapOf s y)) := lines_sz ok (fun e he => gap_in ok he) (by omega)
      refine s_whenR o5' (b := false) (et_reprs (n := 30000) (m := 3) o5' (er_d2 (er_dvE (er_NL (er_gapN ex00 (er_var (i := 0) rfl r) (er_nat (ev_var (i := 4) rfl) rfl) ok (by omega)))) (er_dvE (er_NL (er_gapK ex00 (er_var (i := 0) rfl r) (er_nat (ev_var (i := 4) rfl) rfl) ok (by omega))))) (er_d2 (er_dvE (er_var (i := 5) rfl rd)) (er_dvE (er_var (i := 5) rfl rd))) (two_sz szg szg (by decide)) (by decide) (by decide)) (fun z => nomatch z) fun _ H6 e6 => ?_
      exact ⟨f4.ex (e5.trans e6), ⟨_, _, _, _, _, rfl⟩, e04.trans (e5.trans e6)⟩
    · obtain ⟨⟨o4, o5, o6, o7, o8, rfl⟩, e03⟩ := pv
      have r := (rS_ K).m f3.2 r
      have rr := (rL (rL rS)).m f3.2 rr
      have rl := (rL rE).m f3.2 rl
      have o3 := f3.1
      have z1 := (level_sz pk).len (by decide)
      have z2 := szl.len (by decide)
      have b1 : (PyData.list (s.1.map fun l => dStrs l)).shown.length ≤ 2000000 := by
        have h1 := PyData.shown_le_bulk 40 (by decide) _ (level_sz pk).lv
        have h2 := (level_sz pk).bk
        omega
      have b2 : (dLines s.2).shown.length ≤ 2000000 := by
        have h1 := PyData.shown_le_bulk 40 (by decide) _ szl.lv
        have h2 := szl.bk
        omega
      have lc : ((", " : Str)).length = 2 := rfl
      have ls : (("Sheet(" : Str)).length = 6 := rfl
      have lp : ((")" : Str)).length = 1 := rfl
      refine q_asgR' o3 (er_addS (a := (PyData.list (s.1.map fun l => dStrs l)).shown ++ ", ") (b := (dLines s.2).shown) (er_addS (er_reprD (d := PyData.list (s.1.map fun l => dStrs l)) (er_dvLL (er_is (er_lc1 (R := rL rS) (S := rL rS) srtS (wk_list (er_var (i := 2) rfl rr)) (by omega) (fun _ => rfl) fun l hl qs v1 H1 _ _ _ r1 => er_sortedS (er_var (i := 8) rfl r1) (by have := hmk.w18 l hl; omega)) pk.lv.symm)) (level_sz pk).sh (Nat.le_trans (level_sz pk).dp (by decide)) z1) (er_S ev_c) (by rw [sizeLine_eq, lc]; omega)) (er_reprD (er_dvE (er_var (i := 3) rfl rl)) szl.sh (Nat.le_trans szl.dp (by decide)) z2) (by rw [sizeLine_eq, Str.length_append, lc]; omega)) fun vs H4 e4 rs => ?_
      have r := (rS_ K).m (Rm_mono e4) r
      have o4' := o3.ex e4
      refine s_retR o4' (er_B (ev_is (ev_op (ev_S o4' (er_reprO (er_var (i := 0) rfl r) ok)) (ev_S o4' (er_addS (er_addS (er_S ev_c) (er_var (i := 7) rfl rs) (by rw [sizeLine_eq, Str.length_append, Str.length_append, lc, ls]; omega)) (er_S ev_c) (by rw [sizeLine_eq, Str.length_append, Str.length_append, Str.length_append, lc, ls, lp]; omega))) (rv_eq rfl)) (congrArg V.bl (decide_eq_true (congrArg V.str ?_))))) fun v5 H5 e5 t => q v5 H5 (e03.trans (e4.trans e5)) t
      unfold reprT
      rw [Str.empty_append]
      simp only [Str.append_assoc]
      rfl
  case len =>
    obtain ⟨ps, v, w, s, x, rfl, _⟩ := h
    rfl
end
end K12
set_option Elab.async false
set_option linter.all false
set_option maxRecDepth 100000
set_option maxHeartbeats 4000000
namespace K12
open PySem PySem.Spec PyProof.Rows L2 Evl Gen RP ItX
section
variable {P : Program} {w : World} {K : PySem.W.Frag} {mg : Str → Option Value} {base : Heap} {fd : Nat → FuncData}
theorem mx_iff {ns : List Int} {b : Int} (h : ns ≠ []) : mx ns ≤ b ↔ ∀ y ∈ ns, y ≤ b := by
  unfold mx
  cases e : ns.max? with
  | none => rw [List.max?_eq_none_iff] at e; exact absurd e h
  | some m =>
    obtain ⟨h1, h2⟩ := List.max?_eq_some_iff.mp e
    show m ≤ b ↔ _
    exact ⟨fun z y hy => Int.le_trans (h2 y hy) z, fun z => z m h1⟩
def sizeOf (es : List (Str × Str)) (row : List Str) : Int := ((es.filter fun e => decide (e.1 ∈ row)).length : Int)
def lawSmall (x : List (List Str) × List (Str × Str)) : Bool := decide ((x.1.length : Int) ≤ 6) && (decide (mx (x.1.map lenI) ≤ 5) && decide (mx (x.1.map (sizeOf x.2)) ≤ 12))
theorem size_gap {s : Sht} {x : List (List Str) × List (Str × Str)} (pk : Pk s x) {i : Nat} {row : List Str} (h : x.1[i]? = some row) : sizeOf x.2 row = ((gapOf s i).length : Int) := by
  rw [← gap_due pk h]
  unfold sizeOf
  rw [pk.ln]
  exact congrArg Int.ofNat ((srtT_perm x.2).filter _).length_eq.symm
theorem size_top {s : Sht} {x : List (List Str) × List (Str × Str)} (pk : Pk s x) {i : Nat} {row : List Str} (h : x.1[i]? = some row) (hi : i + 1 = x.1.length) : sizeOf x.2 row = 0 := by
  unfold sizeOf
  have : (x.2.filter fun e => decide (e.1 ∈ row)) = [] := by
    rw [List.filter_eq_nil_iff]
    intro e he hm
    obtain ⟨j, a, b, g1, g2, g3, g4⟩ := pk.mk'.fit e he
    have h1 := apart pk.mk'.lv.once g1 h g3 (of_decide_eq_true hm)
    have h2 := (List.getElem?_eq_some_iff.mp g2).1
    omega
  rw [this]
  rfl
theorem small_eq {s : Sht} {x : List (List Str) × List (Str × Str)} (pk : Pk s x) : smallS s = lawSmall x := by
  have hne : x.1 ≠ [] := pk.mk'.lv.some
  have hl : s.1.map lenI = x.1.map lenI := by
    rw [pk.lv, List.map_map]
    refine List.map_congr_left fun l _ => ?_
    show ((srtS l).length : Int) = l.length
    rw [(srtS_perm l).length_eq]
  have hlen := pk.len
  unfold smallS lawSmall
  rw [hl, hlen]
  by_cases h1 : (x.1.length : Int) ≤ 6
  · rw [decide_eq_true h1, Bool.true_and, decide_eq_false (by omega : ¬ (6 : Int) < (x.1.length : Int)), Bool.false_or]
    by_cases h2 : mx (x.1.map lenI) ≤ 5
    · rw [decide_eq_true h2, Bool.true_and, decide_eq_false (by omega : ¬ (5 : Int) < mx (x.1.map lenI)), if_neg (by decide), Bool.eq_iff_iff, decide_eq_true_eq, mx_iff (by intro z; exact hne (List.map_eq_nil_iff.mp z)), List.all_eq_true]
      constructor
      · intro h y hy
        obtain ⟨row, hr, rfl⟩ := List.mem_map.mp hy
        obtain ⟨i, hi⟩ := List.mem_iff_getElem?.mp hr
        have hlt := (List.getElem?_eq_some_iff.mp hi).1
        by_cases hc : i + 1 = x.1.length
        · rw [size_top pk hi hc]
          decide
        · rw [size_gap pk hi]
          have := of_decide_eq_true (h i (List.mem_range.mpr (by omega)))
          omega
      · intro h n hn
        have hlt := List.mem_range.mp hn
        have hi : x.1[n]? = some x.1[n] := List.getElem?_eq_getElem (by omega)
        have := h _ (List.mem_map.mpr ⟨x.1[n], List.getElem_mem _, rfl⟩)
        rw [size_gap pk hi] at this
        exact decide_eq_true (by omega)
    · rw [decide_eq_false h2, Bool.false_and, decide_eq_true (by omega : (5 : Int) < mx (x.1.map lenI)), if_pos rfl]
  · rw [decide_eq_false h1, Bool.false_and, decide_eq_true (by omega : (6 : Int) < (x.1.length : Int)), Bool.true_or, if_pos rfl]
theorem sc_law_small : FnScope ["_law_plan_there", "_law_rows", "_law_sizes", "_law_one", "_law_row"] ["_law_plan_there"] (defScope (topS 51)) := ⟨rfl, rfl, rfl, by decide +kernel, rfl, by decide +kernel, by decide +kernel⟩
theorem ok_law_small (T : Tx K mg fd) : FnOk P w K mg base CX0 1 (He.ga K "_law_small") (fd 25) ["_law_plan_there"] (Sp1 rPlan rB lawSmall (fun x => Mk' x.1 x.2)) := by
  refine (T.df 25 51 "_law_small" rfl).ok sc_law_small (fun vs H Q E h => ?len) (fun cdv A outer s H vs Q E hr h => ?body)
  case body =>
    refine ⟨_, (pss_cons (ps_set (i := 1) sc_law_small.nd rfl (Or.inl rfl) (pe_ix (r := rIxT K) ix_tup (pv 0) pe_int (fun _ _ => rfl))) (pss_cons (ps_setLc (i := 2) (own := [("_law_row", 4)]) (g := gName 4) rfl sc_law_small.nd rfl rfl (sw_true rfl rfl rfl (by decide +kernel)) (pi_list (pv 1)) (blkOk_by (N := ["_law_plan_there", "_law_rows", "_law_sizes", "_law_one", "_law_row"]) (sc := (defScope (topS 51))) (own := [("_law_row", 4)]) (by decide +kernel)) (fun _ _ _ _ _ => (pg_name (i := 4) sc_law_small.nd rfl (Or.inr rfl))) (fun _ _ _ _ _ => pts_nil) (fun _ _ _ _ _ => (pe_callB (r := rLen K) call_len (by rfl) (T.fr 41 "len" rfl) (by decide +kernel) (pa_cons (pe_lc (own := [("_law_one", 3)]) (wi := iList K (tOp (rIxT K) (tVar 0) (tC (.int 1)))) (g := gName 3) rfl sc_law_small.nd (pi_list (pe_ix (r := rIxT K) ix_tup (pv 0) pe_int (fun _ _ => rfl))) (blkOk_by (N := ["_law_plan_there", "_law_rows", "_law_sizes", "_law_one", "_law_row"]) (sc := { kind := .function, names := [(".0", .local), ("_law_row", .cell), ("len", .globalImplicit), ("_law_plan_there", .cell)], isGenerator := false, isCoroutine := false }) (own := [("_law_one", 3)]) (by decide +kernel)) (fun _ _ _ _ _ => (pg_name (i := 3) sc_law_small.nd rfl (Or.inl rfl))) (fun _ _ _ _ _ => (pts_one (pt_cmpR (in_seqK (K := K) rfl) (pe_ix (r := rIxT K) ix_tup (pv 3) pe_int (fun _ _ => rfl)) (pv 4) rfl))) (fun _ _ _ _ _ => (pv 3))) pa_nil)))) (pss_one (ps_ret (pe_and (pe_cmpR op_le (pe_callB call_len (by rfl) (T.fr 41 "len" rfl) (by decide +kernel) (pa_cons (pv 1) pa_nil)) pe_int (nomark _)) (pe_and (pe_cmpR op_le (pe_callB (cr_max rfl) (by rfl) (T.fr 46 "max" rfl) (by decide +kernel) (pa_cons (pe_lc (own := [("_law_row", 4)]) (g := gName 4) rfl sc_law_small.nd (pi_list (pv 1)) (blkOk_by (N := ["_law_plan_there", "_law_rows", "_law_sizes", "_law_one", "_law_row"]) (sc := (defScope (topS 51))) (own := [("_law_row", 4)]) (by decide +kernel)) (fun _ _ _ _ _ => (pg_name (i := 4) sc_law_small.nd rfl (Or.inl rfl))) (fun _ _ _ _ _ => pts_nil) (fun _ _ _ _ _ => (pe_callB (r := rLen K) call_len (by rfl) (T.fr 41 "len" rfl) (by decide +kernel) (pa_cons (pv 4) pa_nil)))) pa_nil)) pe_int (nomark _)) (pe_one (pe_cmpR op_le (pe_callB (cr_max rfl) (by rfl) (T.fr 46 "max" rfl) (by decide +kernel) (pa_cons (pv 2) pa_nil)) pe_int (nomark _))))))))), ?_⟩
    obtain ⟨ps, v, x, rfl, o, r, ok, q⟩ := h
    have h12 := ok.h12
    have hz := ok.z
    have hp0 : 0 < x.1.length := List.length_pos_iff.mpr ok.lv.some
    refine q_asgR' o (er_fst (er_var (i := 0) rfl r) (er_I ev_c)) fun vr H1 e1 rr => ?_
    have r := rPlan.m (Rm_mono e1) r
    have o1 := o.ex e1
    refine q_asgR' o1 (er_lc1 (R := rL rS) (S := rI) (sizeOf x.2) (wk_list (er_var (i := 1) rfl rr)) (by omega) (fun _ => rfl) fun row hrow qs v2 H2 e2 o2 x2 r2 => ?_) fun vz H2 e2 rz => ?_
    · refine er_is (er_lenL (er_toQ (er_is (a' := x.2.filter fun e => decide (e.1 ∈ row)) (er_lc1F (R := rE) (S := rE) id (fun e => decide (e.1 ∈ row)) (wk_list (er_snd (er_var (i := 0) rfl (rPlan.m x2 r)) (er_I ev_c))) (by omega) (fun _ => rfl) (fun e he qs v5 H5 e5 o5 x5 r5 => et_inL (er_fst (er_var rfl r5) (er_I ev_c)) (er_var (i := 4) rfl ((rL rS).m x5 r2))) fun e he _ qs v5 H5 e5 o5 x5 r5 => er_var rfl r5) (List.map_id _)))) rfl
    have rr := (rL (rL rS)).m (Rm_mono e2) rr
    have o2 := o1.ex e2
    refine s_retR o2 (er_andV (er_B (ev_op (ev_I o2 (er_lenL (er_toQ (er_var (i := 1) rfl rr)))) ev_c rv_I0)) fun _ => er_andV (er_B (ev_op (ev_I o2 (er_max (ns := x.1.map lenI) (er_lc1 (R := rL rS) (S := rI) lenI (wk_list (er_var (i := 1) rfl rr)) (by omega) (fun _ => rfl) fun l hl qs v4 H4 _ _ _ r4 => er_lenL (er_toQ (er_var (i := 4) rfl r4))) (by rw [List.length_map]; exact hp0))) ev_c rv_I0)) fun _ => er_B (ev_op (ev_I o2 (er_max (ns := x.1.map (sizeOf x.2)) (er_var (i := 2) rfl rz) (by rw [List.length_map]; exact hp0))) ev_c rv_I0)) fun v5 H5 e5 t => q v5 H5 ((e1.trans e2).trans e5) t
  case len =>
    obtain ⟨ps, v, x, rfl, _⟩ := h
    rfl
end
end K12
set_option Elab.async false
set_option linter.all false
set_option maxRecDepth 100000
set_option maxHeartbeats 4000000
namespace K12
open PySem PySem.Spec PyProof.Rows L2 Evl Gen RP ItX
section
variable {P : Program} {w : World} {K : PySem.W.Frag} {mg : Str → Option Value} {base : Heap} {fd : Nat → FuncData}
/-- a new list of whatever -/
def MutL (G : Hp) (n : Nat) (H : Hp) (u : V) : Prop := ∃ a vs, u = .ref a ∧ G a = none ∧ H a = some (.lst vs) ∧ vs.length ≤ n
def rMut (G : Hp) : Rp Unit := ⟨fun _ v H => MutL G 5000 H v, fun e ⟨a, vs, h1, h2, h3, h4⟩ => ⟨a, vs, h1, h2, e _ _ h3, h4⟩⟩
theorem er_mut {α : Type} {R : Rp α} {ps : List Addr} {σ : L2.St} {G H : Hp} {te : TE} {as : List α} (h : EvR (rLN G R) ps te σ H as) (hz : as.length ≤ 5000) : EvR (rMut G) ps te σ H () := er_impG h fun v H1 ⟨a, vs, h1, h0, h2, h3⟩ => ⟨a, vs, h1, h0, h2, by rw [← h3.len]; exact hz⟩
theorem tForMut {te : TE} {σ : L2.St} {H : Hp} {j : Nat} {tu : TS} {D : Ends}
    (hte : ∀ Q : VK, (∀ l us H1, Ex H H1 → H1 l = some (.lst us) → us.length ≤ 1000 → (∀ u ∈ us, MutL H 5000 H1 u ∧ u ≠ .ref l) → Q (.ref l) H1) → te σ H Q) (hj : j < σ.length)
    (hb : ∀ σ' H' a vs, σ'[j]? = some (some (.ref a)) → H' a = some (.lst vs) → vs.length ≤ 7000 → ∀ D' : Ends, (∀ H'', Oth a H' H'' → (∃ vs', H'' a = some (.lst vs') ∧ vs'.length ≤ vs.length + 1) → D'.nx σ' H'') → tu D' σ' H')
    (k : ∀ x H1, Ex H H1 → D.nx (σ.set j x) H1) : tFor (iList K te) (gName j) tu D σ H := by
  refine hte _ fun l us H1 e1 hl hz hu => ?_
  refine ⟨l, rfl, ⟨us, sq_of hl⟩, ?_⟩
  refine for_it (walk_list (K := K) (a := l) (xs := us)) (fun i σ' H' => (∃ x, σ' = σ.set j x) ∧ Ex H H' ∧ H' l = some (.lst us) ∧ ∀ u ∈ us, MutL H (5000 + i) H' u ∧ u ≠ .ref l) ⟨⟨σ[j], (List.set_getElem_self hj).symm⟩, e1, hl, hu⟩ (fun i σ' H' _ p => sq_of p.2.2.1) (fun i x σ' H1 H2 hi pv y => ?_) (fun σ' H' pv => ?_)
  · obtain ⟨⟨x0, rfl⟩, eH, hl', hu'⟩ := pv
    obtain ⟨rfl, hy⟩ := y
    obtain ⟨⟨a, vs, rfl, g0, ha, hn⟩, hne⟩ := hu' _ (List.mem_of_getElem? hy)
    refine hb _ _ a vs (by rw [List.getElem?_set_self (by rw [List.length_set]; exact hj)]) ha (by omega) _ fun H'' ot ⟨vs', h1, h2⟩ => ⟨⟨_, by rw [List.set_set]⟩, Oth.back eH ot g0, ot l _ (fun z => hne (by rw [z])) hl', fun u hu => ?_⟩
    obtain ⟨⟨a', vs2, rfl, g0', ha', hn'⟩, hne'⟩ := hu' u hu
    refine ⟨?_, hne'⟩
    by_cases e : a' = a
    · subst e
      exact ⟨a', vs', rfl, g0', h1, by omega⟩
    · exact ⟨a', vs2, rfl, g0', ot a' _ e ha', by omega⟩
  · obtain ⟨⟨x0, rfl⟩, eH, _⟩ := pv
    exact k x0 H' eH
theorem q_forMut {te : TE} {σ : L2.St} {H : Hp} {j : Nat} {tu tz : TS} {D : Ends}
    (hte : ∀ Q : VK, (∀ l us H1, Ex H H1 → H1 l = some (.lst us) → us.length ≤ 1000 → (∀ u ∈ us, MutL H 5000 H1 u ∧ u ≠ .ref l) → Q (.ref l) H1) → te σ H Q) (hj : j < σ.length)
    (hb : ∀ σ' H' a vs, σ'[j]? = some (some (.ref a)) → H' a = some (.lst vs) → vs.length ≤ 7000 → ∀ D' : Ends, (∀ H'', Oth a H' H'' → (∃ vs', H'' a = some (.lst vs') ∧ vs'.length ≤ vs.length + 1) → D'.nx σ' H'') → tu D' σ' H')
    (k : ∀ x H1, Ex H H1 → tz D (σ.set j x) H1) : tSeq (tFor (iList K te) (gName j) tu) tz D σ H := tForMut (D := { D with nx := tz D }) hte hj hb k
/-- e(..).append(c), what e tells being new -/
theorem s_appNew {α : Type} {R : Rp α} {ps : List Addr} {σ : L2.St} {H : Hp} {te : TE} {as : List α} {v : V} {D : Ends} (o : Own ps H) (h : EvR (rLN H R) ps te σ H as) (hz : as.length < 50000) (k : ∀ H1, Ex H H1 → D.nx σ H1) : tDrop (tBM K "list" rAppend te (tCons (tC v) tNil)) D σ H := h H (Ex.refl H) o _ fun w H1 e1 r => by
  obtain ⟨a, vs, rfl, h0, h2, h3⟩ := r
  have hm := Rm_ex _ _ h2
  exact ⟨.inl ⟨rfl, vs, sq_of hm⟩, a, vs, v, rfl, rfl, hm, sz_lt (by rw [← h3.len]; omega), k _ (Ex.mut e1 h0)⟩
theorem q_appNew {α : Type} {R : Rp α} {ps : List Addr} {σ : L2.St} {H : Hp} {te : TE} {as : List α} {v : V} {D : Ends} {tz : TS} (o : Own ps H) (h : EvR (rLN H R) ps te σ H as) (hz : as.length < 50000) (k : ∀ H1, Ex H H1 → tz D σ H1) : tSeq (tDrop (tBM K "list" rAppend te (tCons (tC v) tNil))) tz D σ H := s_appNew (D := { D with nx := tz D }) o h hz k
theorem s_clrNew {α : Type} {R : Rp α} {ps : List Addr} {σ : L2.St} {H : Hp} {te : TE} {as : List α} {D : Ends} (o : Own ps H) (h : EvR (rLN H R) ps te σ H as) (k : ∀ H1, Ex H H1 → D.nx σ H1) : tDrop (tBM0 K "list" rClear te) D σ H := h H (Ex.refl H) o _ fun w H1 e1 r => by
  obtain ⟨a, vs, rfl, h0, h2, h3⟩ := r
  have hm := Rm_ex _ _ h2
  exact ⟨.inl ⟨rfl, vs, sq_of hm⟩, a, vs, rfl, rfl, hm, k _ (Ex.mut e1 h0)⟩
theorem sc_law_changed : FnScope ["_law_tome", "_law_told", "_law_row", "_law_name"] ["_law_tome"] (defScope (topS 52)) := ⟨rfl, rfl, rfl, by decide +kernel, rfl, by decide +kernel, by decide +kernel⟩
theorem ok_law_changed (T : Tx K mg fd) : FnOk P w K mg base CX0 9 (He.ga K "_law_changed") (fd 26) ["_law_tome"] (Sp1 (rS_ K) rU (fun _ => ()) Sok) := by
  refine (T.df 26 52 "_law_changed" rfl).ok sc_law_changed (fun vs H Q E h => ?len) (fun cdv A outer s H vs Q E hr h => ?body)
  case body =>
    refine ⟨_, (pss_cons (ps_for PassesOwn.never rfl (pi_list (pe_lst (pa_cons (pe_meth0 (pv 0) T.cls (T.meth 62 "levels" rfl) (ok_sh_levels T) (hr.mono (by decide)) ((T.dm 42 5 "levels" "Sheet.levels" rfl).binds (ps := ["self"]) fun _ _ _ _ _ _ us hl => match us, hl with | [_], _ => rfl) .nil pass0) (pa_cons (pe_meth0 (pv 0) T.cls (T.meth 64 "lines" rfl) (ok_sh_lines T) (hr.mono (by decide)) ((T.dm 44 7 "lines" "Sheet.lines" rfl).binds (ps := ["self"]) fun _ _ _ _ _ _ us hl => match us, hl with | [_], _ => rfl) .nil pass0) (pa_cons (pe_meth0 (pv 0) T.cls (T.meth 69 "pairs" rfl) (ok_sh_pairs T) (hr.mono (by decide)) ((T.dm 49 12 "pairs" "Sheet.pairs" rfl).binds (ps := ["self"]) fun _ _ _ _ _ _ us hl => match us, hl with | [_], _ => rfl) .nil pass0) (pa_cons (pe_meth (pv 0) T.cls (T.meth 63 "level" rfl) (ok_sh_level T) (hr.mono (by decide)) ((T.dm 43 6 "level" "Sheet.level" rfl).binds (ps := ["self", "number"]) fun _ _ _ _ _ _ us hl => match us, hl with | [_, _], _ => rfl) .nil pass0 (pa_cons pe_int pa_nil)) (pa_cons (pe_callTy (call_listOwnL (F' := L2.E0) (ok_sh_iter T) rfl (ok_sh_len T) (hr.mono (by decide)) (T.meth 73 "__iter__" rfl) ((T.dm 53 17 "__iter__" "Sheet.__iter__" rfl).binds (ps := ["self"]) fun _ _ _ _ _ _ us hl => match us, hl with | [_], _ => rfl) pass0 (T.meth 71 "__len__" rfl) ((T.dm 51 15 "__len__" "Sheet.__len__" rfl).binds (ps := ["self"]) fun _ _ _ _ _ _ us hl => match us, hl with | [_], _ => rfl) hr.hd) (by rfl) (T.fr 38 "list" rfl) (by decide +kernel) (pa_cons (pv 0) pa_nil)) pa_nil))))))) (pg_name (i := 1) sc_law_changed.nd rfl (Or.inl rfl)) (pss_cons (ps_expr (pe_bm PySem.F.plainAttrs_list PySem.F.slot_list_append PySem.F.type_list_append mt_append (pv 1) (pa_cons pe_str pa_nil))) (pss_one (ps_expr (pe_bm0 PySem.F.plainAttrs_list PySem.F.slot_list_reverse PySem.F.type_list_reverse mt_reverse (pv 1)))))) (pss_cons (ps_for PassesOwn.never rfl (pi_list (pe_meth0 (pv 0) T.cls (T.meth 62 "levels" rfl) (ok_sh_levels T) (hr.mono (by decide)) ((T.dm 42 5 "levels" "Sheet.levels" rfl).binds (ps := ["self"]) fun _ _ _ _ _ _ us hl => match us, hl with | [_], _ => rfl) .nil pass0)) (pg_name (i := 2) sc_law_changed.nd rfl (Or.inl rfl)) (pss_one (ps_expr (pe_bm PySem.F.plainAttrs_list PySem.F.slot_list_append PySem.F.type_list_append mt_append (pv 2) (pa_cons pe_str pa_nil))))) (pss_cons (ps_for PassesOwn.never rfl (pi_list (pe_slice sl_list (pe_callTy (call_listOwnL (F' := L2.E0) (ok_sh_iter T) rfl (ok_sh_len T) (hr.mono (by decide)) (T.meth 73 "__iter__" rfl) ((T.dm 53 17 "__iter__" "Sheet.__iter__" rfl).binds (ps := ["self"]) fun _ _ _ _ _ _ us hl => match us, hl with | [_], _ => rfl) pass0 (T.meth 71 "__len__" rfl) ((T.dm 51 15 "__len__" "Sheet.__len__" rfl).binds (ps := ["self"]) fun _ _ _ _ _ _ us hl => match us, hl with | [_], _ => rfl) hr.hd) (by rfl) (T.fr 38 "list" rfl) (by decide +kernel) (pa_cons (pv 0) pa_nil)) po_none (po_some pe_int))) (pg_name (i := 3) sc_law_changed.nd rfl (Or.inl rfl)) (pss_cons (ps_expr (pe_bm PySem.F.plainAttrs_list PySem.F.slot_list_append PySem.F.type_list_append mt_append (pe_meth (pv 0) T.cls (T.meth 67 "above" rfl) (ok_sh_above T) (hr.mono (by decide)) ((T.dm 47 10 "above" "Sheet.above" rfl).binds (ps := ["self", "node"]) fun _ _ _ _ _ _ us hl => match us, hl with | [_, _], _ => rfl) .nil pass0 (pa_cons (pv 3) pa_nil)) (pa_cons pe_str pa_nil))) (pss_one (ps_expr (pe_bm PySem.F.plainAttrs_list PySem.F.slot_list_append PySem.F.type_list_append mt_append (pe_meth (pv 0) T.cls (T.meth 68 "below" rfl) (ok_sh_below T) (hr.mono (by decide)) ((T.dm 48 11 "below" "Sheet.below" rfl).binds (ps := ["self", "node"]) fun _ _ _ _ _ _ us hl => match us, hl with | [_, _], _ => rfl) .nil pass0 (pa_cons (pv 3) pa_nil)) (pa_cons pe_str pa_nil)))))) (pss_one (ps_if (pt_cmpR op_gt (pe_callB (call_ownLen (ok_sh_len T) (hr.mono (by decide)) (T.meth 71 "__len__" rfl) ((T.dm 51 15 "__len__" "Sheet.__len__" rfl).binds (ps := ["self"]) fun _ _ _ _ _ _ us hl => match us, hl with | [_], _ => rfl) .nil pass0) (by rfl) (T.fr 41 "len" rfl) (by decide +kernel) (pa_cons (pv 0) pa_nil)) pe_int (nomark _)) (pss_one (ps_expr (pe_bm0 PySem.F.plainAttrs_list PySem.F.slot_list_clear PySem.F.type_list_clear mt_clear (pe_meth (pv 0) T.cls (T.meth 65 "gap" rfl) (ok_sh_gap T) (hr.mono (by decide)) ((T.dm 45 8 "gap" "Sheet.gap" rfl).binds (ps := ["self", "number"]) fun _ _ _ _ _ _ us hl => match us, hl with | [_, _], _ => rfl) .nil pass0 (pa_cons pe_int pa_nil))))) pss_nil))))), ?_⟩
    obtain ⟨ps, v, s, rfl, o, r, ok, q⟩ := h
    have r0 := r
    have h12 := ok.h12
    have hz := ok.z
    have hp0 : 0 < s.1.length := List.length_pos_iff.mpr ok.lv.some
    have hfl : s.1.flatten.length ≤ 60 := by rw [many_flat]; exact ok.lv.few
    have hpl : (pairsOf s).length ≤ 5000 := by
      unfold pairsOf
      rw [(srtT_perm _).length_eq]
      have h1 : (s.1.flatMap prs).length ≤ s.1.length * 324 := flatMap_len fun l hl => by
        have hw := ok.w18 l hl
        have h2 : (prs l).length ≤ l.length * 18 := flatMap_len fun y _ => Nat.le_trans (prow_len (l := l) (m := l)) hw
        omega
      omega
    have hl0 : (lvAt s 0).length ≤ 18 := by
      have := lvAt_get hp0
      exact ok.w18 _ (List.mem_of_getElem? this)
    refine q_forMut (fun Q k => ?_) (by show 1 < 4; decide) (fun σ' H' a vs hs ha hn D' kk => ?_) fun x1 H1 e1 => ?_
    · refine (eas_cons (er_mut (er_levels (Ex.refl H) (er_var (i := 0) rfl r) ok) (by omega)) (eas_cons (er_mut (er_lines (Ex.refl H) (er_var (i := 0) rfl r) ok) (by omega)) (eas_cons (er_mut (er_pairsO (Ex.refl H) (er_var (i := 0) rfl r) ok) hpl) (eas_cons (er_mut (er_level (Ex.refl H) (er_var (i := 0) rfl r) (er_nat (n := 0) ev_c rfl) ok hp0) (by omega)) (eas_cons (er_mut (er_listON (Ex.refl H) (er_var (i := 0) rfl r) ok) (by omega)) eas_nil))))) H (Ex.refl H) o _ fun vs H2 e2 rs => ⟨sz_of (by rw [← rs.len]; show 5 ≤ 100000; decide), fun p hp => ?_⟩
      refine k p vs _ (e2.trans (Ex.new hp)) upd_same (by rw [← rs.len]; show 5 ≤ 1000; decide) fun u hu => ?_
      obtain ⟨i, hi⟩ := List.mem_iff_getElem?.mp hu
      obtain ⟨_, _, a, ws, rfl, g1, g2, g3⟩ := rs.getv hi
      have ha := Rm_ex _ _ g2
      exact ⟨⟨a, ws, rfl, g1, Ex.new hp _ _ ha, g3⟩, fun z => by injection z with z; rw [z, hp] at ha; cases ha⟩
    · refine ⟨_, hs, .inl ⟨rfl, vs, sq_of ha⟩, a, vs, _, rfl, rfl, ha, sz_lt (by omega), ?_⟩
      refine ⟨_, hs, .inl ⟨rfl, _, sq_of upd_same⟩, a, _, rfl, rfl, upd_same, ?_⟩
      refine kk _ (fun b u n h => by rw [upd_ne n, upd_ne n]; exact h) ⟨_, upd_same, ?_⟩
      rw [List.length_reverse, List.length_append]
      exact Nat.le_refl _
    have r := (rS_ K).m (Rm_mono e1) r
    have o1 := o.ex e1
    refine q_forMut (fun Q k => ?_) (by show 2 < 4; decide) (fun σ' H' a vs hs ha hn D' kk => ?_) fun x2 H2 e2 => ?_
    · refine (er_levels (Ex.refl H1) (er_var (i := 0) rfl r) ok) H1 (Ex.refl H1) o1 _ fun vv H2 e2 rr => ?_
      obtain ⟨l, us, rfl, g0, g1, g2⟩ := rr
      have hl := Rm_ex _ _ g1
      refine k l us _ e2 hl (by rw [← g2.len]; omega) fun u hu => ?_
      obtain ⟨i, hi⟩ := List.mem_iff_getElem?.mp hu
      obtain ⟨row, hrow, a, ws, rfl, g3, g4, g5⟩ := g2.getv hi
      have ha := Rm_ex _ _ g4
      have hr18 := ok.w18 row (List.mem_of_getElem? hrow)
      refine ⟨⟨a, ws, rfl, g3, ha, by rw [← g5.len]; omega⟩, fun z => ?_⟩
      injection z with z
      rw [z, hl] at ha
      have e5 : us = ws := by injection ha with ha; injection ha
      have e6 : ws = row.map V.str := strs_eq g5
      rw [e5, e6] at hu
      obtain ⟨_, _, z⟩ := List.mem_map.mp hu
      cases z
    · refine ⟨_, hs, .inl ⟨rfl, vs, sq_of ha⟩, a, vs, _, rfl, rfl, ha, sz_lt (by omega), ?_⟩
      refine kk _ (fun b u n h => by rw [upd_ne n]; exact h) ⟨_, upd_same, ?_⟩
      rw [List.length_append]
      exact Nat.le_refl _
    have r := (rS_ K).m (Rm_mono e2) r
    have o2 := o1.ex e2
    have e02 := e1.trans e2
    have hsub : ∀ z ∈ (s.1.flatten.drop (HT.sIx s.1.flatten.length 0 none)).take (HT.sIx s.1.flatten.length s.1.flatten.length (some 3) - HT.sIx s.1.flatten.length 0 none), z ∈ s.1.flatten := fun z hz => List.mem_of_mem_drop (List.mem_of_mem_take hz)
    refine q_forW o2 (wk_list (er_sl (er_listO (er_var (i := 0) rfl r) ok) eo_none (eo_some ev_c))) (fun _ σ' H' => (∃ o3, σ' = [some v, x1, x2, o3]) ∧ Ex H H') (fun H3 e3 => ⟨⟨none, rfl⟩, e02.trans e3⟩) (fun _ _ _ _ e p => ⟨p.1, p.2.trans e⟩) (fun H3 e3 i z u σ' H4 hz4 f4 f24 pv ru => ?_) fun σ' H3 f3 pv => ?_
    · obtain ⟨⟨o3, rfl⟩, e04⟩ := pv
      obtain rfl : u = .str z := ru
      have hzm := hsub z (List.mem_of_getElem? hz4)
      have r := (rS_ K).m f24.2 r
      have hab := ab_len (s := s) (z := z)
      have hbe := be_len (s := s) (z := z)
      refine q_appNew f24.1 (er_above (Ex.refl H4) (er_var (i := 0) rfl r) (er_var (i := 3) (v := .str z) rfl rfl) ok hzm) (by omega) fun H5 e5 => ?_
      have r := (rS_ K).m (Rm_mono e5) r
      exact s_appNew (f24.1.ex e5) (er_below (Ex.refl H5) (er_var (i := 0) rfl r) (er_var (i := 3) (v := .str z) rfl rfl) ok hzm) (by omega) fun H6 e6 => ⟨f4.ex (e5.trans e6), ⟨_, rfl⟩, e04.trans (e5.trans e6)⟩
    · obtain ⟨⟨o3, rfl⟩, e03⟩ := pv
      have r := (rS_ K).m (Rm_mono e03) (show (rS_ K).p s v (Rm ps H) from r0)
      refine s_whenR (o.ex e03) (b := decide ((1 : Int) < (s.1.length : Int))) (et_test' (er_B (ev_op (ev_I (o.ex e03) (er_lenO (er_var (i := 0) rfl r) ok)) ev_c rv_I0))) (fun hb H4 e4 => ?_) fun _ H4 e4 => q _ H4 (e03.trans e4) rfl
      have r := (rS_ K).m (Rm_mono e4) r
      have hb := of_decide_eq_true hb
      exact s_clrNew ((o.ex e03).ex e4) (er_gapN (Ex.refl H4) (er_var (i := 0) rfl r) (er_nat (n := 0) ev_c rfl) ok (by omega)) fun H5 e5 => q _ H5 ((e03.trans e4).trans e5) rfl
  case len =>
    obtain ⟨ps, v, s, rfl, _⟩ := h
    rfl
end
end K12
set_option Elab.async false
set_option linter.all false
set_option maxRecDepth 100000
set_option maxHeartbeats 4000000
/-! xs[::k], x not in xs by data, tuples and dicts as data, a for that breaks at once -/
namespace RP
open PySem PySem.Spec PyProof.Rows L2 Evl Gen
section
variable {α β γ : Type} {R : Rp α} {S : Rp β} {K : PySem.W.Frag} {ps : List Addr} {σ : L2.St} {H : Hp} {ta tb te tl ts : TE} {tr : TA} {a : α}
theorem all2_step {P : α → V → Prop} {as : List α} {vs : List V} (h : All2 P as vs) : ∀ is : List Nat, All2 P (is.filterMap (as[·]?)) (is.filterMap (vs[·]?))
  | [] => trivial
  | i :: is => by
    cases e : as[i]? with
    | none =>
      have e2 : vs[i]? = none := by
        rw [List.getElem?_eq_none_iff] at e ⊢
        rw [← h.len]
        exact e
      rw [List.filterMap_cons_none e, List.filterMap_cons_none e2]
      exact all2_step h is
    | some a =>
      obtain ⟨v, hv, hp⟩ := h.get e
      rw [List.filterMap_cons_some e, List.filterMap_cons_some hv]
      exact ⟨hp, all2_step h is⟩
theorem er_stepL {as : List α} {k : Nat} (h : EvR (rL R) ps te σ H as) (h2 : EvR rI ps ts σ H (k : Int)) (hk : 0 < k) : EvR (rL R) ps (tStepL K te ts) σ H (stepV as k) := fun H0 e o Q q => h H0 e o _ fun v H1 e1 r => h2 H1 (e.trans e1) (o.ex e1) _ fun w H2 e2 r2 => by
  obtain ⟨p, vs, rfl, hp, hall⟩ := (rL R).m (Rm_mono e2) r
  obtain rfl : w = .int (k : Int) := r2
  refine ⟨(k : Int), rfl, p, vs, k, rfl, rfl, hk, sq_of (Rm_ex _ _ hp), fun l hl => q _ _ ((e1.trans e2).trans (Ex.new hl)) ⟨l, _, rfl, Rm_get upd_same ((o.ex (e1.trans e2)).nin hl), ?_⟩⟩
  have hlen := hall.len
  unfold stepV
  rw [← hlen]
  exact (all2_step hall _).imp fun _ _ r => R.m (Rm_mono (Ex.new hl)) r
theorem er_notInD [DecidableEq α] {d : α → PyData} {ok : α → Prop} {n : Nat} {x : α} {xs : List α} (D : Dt K R d ok n) (hn : n ≤ 50) (h1 : EvR R ps ta σ H x) (h2 : EvR (rL R) ps tb σ H xs) (o1 : ok x) (o2 : ∀ a ∈ xs, ok a) : EvR rB ps (tOp (rNotInD K) ta tb) σ H (!decide (x ∈ xs)) := er_op h1 h2 fun v w H1 e o rv rw' Q q => by
  have D2 := dtL D
  have s1 : SeqAt.shaped (d x) = true := dt_shaped D (by omega) o1
  have s2 : SeqAt.shaped (.list (xs.map d)) = true := dt_shaped (d := fun as : List α => PyData.list (as.map d)) (ok := fun as => ∀ a ∈ as, ok a) (n := n + 1) D2 (by omega) o2
  refine ⟨d x, xs.map d, dp_ex Rm_ex (D.of rv), dp_ex Rm_ex (D2.of rw'), s1, s2, ?_⟩
  have e1 : ((xs.map d).any fun z => PyData.eqv z (d x)) = decide (x ∈ xs) := by
    rw [Bool.eq_iff_iff, List.any_eq_true, decide_eq_true_eq]
    constructor
    · rintro ⟨z, hz, hq⟩
      obtain ⟨y, hy, rfl⟩ := List.mem_map.mp hz
      rw [← (D.inj (o2 y hy) o1).mp hq]
      exact hy
    · intro hx
      exact ⟨d x, List.mem_map.mpr ⟨x, hx, rfl⟩, (D.inj o1 o1).mpr rfl⟩
  rw [e1]
  exact q _ H1 (Ex.refl _) rfl
theorem er_tupD {ds : List PyData} (h : EaR rDv ps tr σ H ds) (hl : ds.length ≤ 100000) : EvR rDv ps (tTup tr) σ H (.tuple ds) := fun H1 e o Q q =>
  h H1 e o _ fun vs H2 e2 rs => ⟨sz_of (by rw [← rs.len]; exact hl), fun p hp => q _ _ (e2.trans (Ex.new hp)) (.tup (Rm_get upd_same ((o.ex e2).nin hp)) (.of (rs.imp fun _ _ r => rDv.m (Rm_mono (Ex.new hp)) r)))⟩
theorem er_dicD : EvR rDv ps tDNewK σ H (.dict []) := fun H1 e o Q q p hp => q _ _ (Ex.new hp) (.dic (Rm_get upd_same (o.nin hp)))
theorem er_nonD : EvR rDv ps (tC .non) σ H .none := er_of ev_c .non
theorem er_intD {i : Int} : EvR rDv ps (tC (.int i)) σ H (.int i) := er_of ev_c (.int i)
theorem er_blD {b : Bool} : EvR rDv ps (tC (.bl b)) σ H (.bool b) := er_of ev_c (.bl b)
theorem er_strD {x : Str} : EvR rDv ps (tC (.str x)) σ H (.str x) := er_of ev_c (.str x)
theorem rE_q {e : Str × Str} {v : V} (h : rE.p e v H) : (rQ K rS).p [e.1, e.2] v H := by
  obtain ⟨a, y, z, rfl, h1, h2, h3⟩ := h
  exact ⟨a, [y, z], rfl, .inr (st_of h1), h2, h3, trivial⟩
theorem q_forBrk {wi : TI} {xs : List α} {j : Nat} {D : Ends} {tz : TS} (o : Own ps H) (h : Wk R ps wi σ H xs) (hj : j < σ.length) (k : ∀ x H1, Ex H H1 → tz D (σ.set j x) H1) : tSeq (tFor wi (gName j) tBreak) tz D σ H :=
  h H (Ex.refl _) o _ fun J n G Y H1 e1 hn wk hG hY => by
    refine for_it wk (fun i σ' H' => σ' = σ ∧ Ex H H' ∧ Ex H1 H') ⟨rfl, e1, Ex.refl _⟩ (fun i σ' H' _ p => hG H' (Rm_ex.trans p.2.2)) (fun i u σ' H2 H3 hi p y => ?_) (fun σ' H' p => ?_)
    · obtain ⟨rfl, e2, e3⟩ := p
      obtain ⟨e4, _⟩ := hY i H2 u H3 ps hi (o.ex e2) (Rm_mono e3) y
      exact k _ H3 (e2.trans e4)
    · obtain ⟨rfl, e2, e3⟩ := p
      have := k σ'[j] H' e2
      rw [List.set_getElem_self] at this
      exact this
end
end RP
set_option Elab.async false
set_option linter.all false
set_option maxRecDepth 100000
set_option maxHeartbeats 4000000
namespace K12
open PySem PySem.Spec PyProof.Rows L2 Evl Gen RP ItX
section
variable {P : Program} {w : World} {K : PySem.W.Frag} {mg : Str → Option Value} {base : Heap} {fd : Nat → FuncData}
theorem notInDK {X : Cx} (hK : X.K = K) (hu : X.A.units + 65 < cLine) : OpR X (compareOp .NotIn) (rNotInD K) := hK ▸ op_notInD hu
theorem u65 {k : Nat} {A : Around} (r : Room k A) : A.units + 65 < cLine := by have := r.un; omega
theorem er_allL {ps : List Addr} {σ : L2.St} {H : Hp} {ta : TE} {rows : List (List Str)} {E : XK} (h : EvR (rL (rL rS)) ps ta σ H rows) (h12 : rows.length ≤ 12) (h18 : ∀ l ∈ rows, l.length ≤ 18) : EvR (rL rE) ps (tCall spAll [] E (tCons ta tNil)) σ H (allL rows) := fun H1 e o Q q => h H1 e o _ fun v H2 e2 r => ⟨ps, v, rows, rfl, o.ex e2, r, h12, h18, fun l H3 _ e3 r3 => q _ H3 (e2.trans e3) r3⟩
theorem all_few {rows : List (List Str)} (h12 : rows.length ≤ 12) (h18 : ∀ l ∈ rows, l.length ≤ 18) : (allL rows).length ≤ 12 * 324 := by
  have lz : ((rows.zip (rows.drop 1))).length ≤ 12 := by rw [List.length_zip]; exact Nat.le_trans (Nat.min_le_left _ _) h12
  refine Nat.le_trans (flatMap_len (c := 324) fun x hx => ?_) (Nat.mul_le_mul_right _ lz)
  have h := List.of_mem_zip hx
  have a1 := h18 _ h.1
  have a2 := h18 _ (List.mem_of_mem_drop h.2)
  have h2 : (rowL x).length ≤ _ := flatMap_len (l := x.1) (f := colL x) (c := 18) fun lo _ => by unfold colL; rw [List.length_map]; omega
  omega
/-- all pairs of a list's elements -/
def sqL (n : List Str) : List (Str × Str) := n.flatMap fun a => n.map fun b => (a, b)
theorem sq_len (n : List Str) : (sqL n).length = n.length * n.length := by
  have gen : ∀ (l m : List Str), (l.flatMap fun a => m.map fun b => (a, b)).length = l.length * m.length := fun l m => by
    induction l with
    | nil => simp
    | cons a r ih => rw [List.flatMap_cons, List.length_append, ih, List.length_map, List.length_cons, Nat.succ_mul, Nat.add_comm]
  exact gen n n
theorem sq_at {m : List Str} (hm : m ≠ []) : ∀ {l : List Str} {k : Nat}, k < l.length → ∃ b, (l.flatMap fun a => m.map fun b => (a, b))[m.length * k]? = some ((l[k]?).getD Str.empty, b)
  | a :: r, 0, _ => by
    obtain ⟨b, s, rfl⟩ := List.exists_cons_of_ne_nil hm
    exact ⟨b, rfl⟩
  | a :: r, k + 1, h => by
    obtain ⟨b, hb⟩ := sq_at hm (l := r) (k := k) (by rw [List.length_cons] at h; omega)
    refine ⟨b, ?_⟩
    rw [List.flatMap_cons, List.getElem?_append_right (by rw [List.length_map, Nat.mul_succ]; omega), List.length_map, show m.length * (k + 1) - m.length = m.length * k by rw [Nat.mul_succ]; omega, hb]
    rfl
theorem filterMap_some {α β γ : Type} {f : α → Option β} {g : β → γ} {h : α → γ} : ∀ {l : List α}, (∀ a ∈ l, ∃ b, f a = some b ∧ g b = h a) → (l.filterMap f).map g = l.map h
  | [], _ => rfl
  | a :: r, hh => by
    obtain ⟨b, h1, h2⟩ := hh a (List.mem_cons_self ..)
    rw [List.filterMap_cons_some h1, List.map_cons, List.map_cons, h2, filterMap_some fun x hx => hh x (List.mem_cons_of_mem _ hx)]
theorem step_sq (n : List Str) {k : Nat} (hk : k = if n.length > 1 then n.length else 1) : (stepV (sqL n) k).map (fun e => e.1) = n := by
  by_cases h0 : n = []
  · subst h0
    subst hk
    decide
  have hp := List.length_pos_iff.mpr h0
  have hkn : k = n.length := by rw [hk]; split <;> omega
  subst hkn
  unfold stepV sliceRange
  rw [sq_len]
  have hc : (n.length : Int) > 0 := by omega
  have hlt : (0 : Int) < ((n.length * n.length : Nat) : Int) := by
    have := Nat.mul_pos hp hp
    omega
  simp only [hc, if_true, hlt]
  have hcount : ((((n.length * n.length : Nat) : Int) - 0 + (n.length : Int) - 1) / (n.length : Int)).toNat = n.length := by
    have e1 : (((n.length * n.length : Nat) : Int) - 0 + (n.length : Int) - 1) = ((n.length * n.length + (n.length - 1) : Nat) : Int) := by omega
    rw [e1, ← Int.natCast_ediv, Int.toNat_natCast, Nat.mul_add_div hp, Nat.div_eq_of_lt (by omega), Nat.add_zero]
  rw [hcount, List.filterMap_map]
  rw [filterMap_some (h := fun k => (n[k]?).getD Str.empty) fun k hkr => ?_]
  · refine List.ext_getElem (by rw [List.length_map, List.length_range]) fun i h1 h2 => ?_
    rw [List.getElem_map, List.getElem_range, List.getElem?_eq_getElem h2]
    rfl
  · have hkl := List.mem_range.mp hkr
    obtain ⟨b, hb⟩ := sq_at h0 hkl
    refine ⟨((n[k]?).getD Str.empty, b), ?_, rfl⟩
    show (sqL n)[((0 : Int) + (n.length : Int) * (k : Int)).toNat]? = _
    have e2 : ((0 : Int) + (n.length : Int) * (k : Int)).toNat = n.length * k := by
      rw [Int.zero_add, ← Int.natCast_mul, Int.toNat_natCast]
    rw [e2]
    exact hb
theorem qq_pool : ("qq" : Str) ∉ poolL := by decide +kernel
theorem isN_empty : isN (.str ("" : Str)) = false := by decide +kernel
theorem Pk.qq {s : Sht} {x : List (List Str) × List (Str × Str)} (pk : Pk s x) : ("qq" : Str) ∉ s.1.flatten := fun h => by
  rw [pk.lv] at h
  exact qq_pool (pk.pool _ (mem_flat.mpr h))
theorem Pk.nil {s : Sht} {x : List (List Str) × List (Str × Str)} (pk : Pk s x) : ("" : Str) ∉ s.1.flatten := fun h => by
  obtain ⟨l, h1, h2⟩ := List.mem_flatten.mp h
  have := pk.sok.lv.names l h1 _ h2
  rw [isN_empty] at this
  cases this
theorem inD_line {s : Sht} {e : Str × Str} : inD s (.tuple [.str e.1, .str e.2]) = decide (e ∈ s.2) := by
  show (false || decide ((e.1, e.2) ∈ s.2)) = _
  rw [Bool.false_or]
theorem inD_swp {s : Sht} (ok : Sok s) {e : Str × Str} (h : e ∈ s.2) : inD s (.tuple [.str e.2, .str e.1]) = false := by
  show (false || decide ((e.2, e.1) ∈ s.2)) = false
  rw [Bool.false_or]
  refine decide_eq_false fun h2 => ?_
  obtain ⟨i, a, b, g1, g2, g3, g4⟩ := ok.fit e h
  obtain ⟨j, c, d, k1, k2, k3, k4⟩ := ok.fit _ h2
  have h3 := apart ok.lv.once g2 k1 g4 k3
  have h4 := apart ok.lv.once g1 k2 g3 k4
  omega
theorem et_neF {α : Type} [DecidableEq α] {R : Rp α} {dd : α → PyData} {ok : α → Prop} {n : Nat} {ps : List Addr} {σ : L2.St} {H : Hp} {ta tb : TE} {x y : α} (D : Dt K R dd ok n) (hn : n ≤ 60) (h1 : EvR R ps ta σ H x) (h2 : EvR R ps tb σ H y) (o1 : ok y) (e : x = y) : EtR ps (tTest (tOp (rNeD K) ta tb)) σ H false := et_test' (er_is (er_neD D hn h1 h2 (by rw [e]; exact o1) o1) (by rw [decide_eq_true e]; rfl))
theorem sc_law_in_right : FnScope ["_law_tome", "_law_plan_there", "_law_nodes", "_law_row", "_law_one", "_law_found", "_law_other", "_law_odd", "_law_low", "_law_high"] ["_law_tome", "_law_plan_there"] (defScope (topS 50)) := ⟨rfl, rfl, rfl, by decide +kernel, rfl, by decide +kernel, by decide +kernel⟩
theorem ok_law_in_right (T : Tx K mg fd) : FnOk P w K mg base CX0 9 (He.ga K "_law_in_right") (fd 24) ["_law_tome", "_law_plan_there"] (Sp2 (rS_ K) rPlan rB (fun _ _ => true) Pk) := by
  refine (T.df 24 50 "_law_in_right" rfl).ok sc_law_in_right (fun vs H Q E h => ?len) (fun cdv A outer s H vs Q E hr h => ?body)
  case body =>
    refine ⟨_, (pss_cons (ps_set (i := 2) sc_law_in_right.nd rfl (Or.inl rfl) (pe_lst pa_nil)) (pss_cons (ps_for PassesOwn.never rfl (pi_list (pe_ix (r := rIxT K) ix_tup (pv 1) pe_int (fun _ _ => rfl))) (pg_name (i := 3) sc_law_in_right.nd rfl (Or.inl rfl)) (pss_one (ps_expr (pe_bm PySem.F.plainAttrs_list PySem.F.slot_list_extend PySem.F.type_list_extend mt_extend (pv 2) (pa_cons (pe_callB (r := rSortedS K) cr_sortedS (by rfl) (T.fr 51 "sorted" rfl) (by decide +kernel) (pa_cons (pv 3) pa_nil)) pa_nil))))) (pss_cons (ps_if (PW.pt (pw_or (pt_cmpR (op_neD hr.units) (pe_callTy (call_listOwnL (F' := L2.E0) (ok_sh_iter T) rfl (ok_sh_len T) (hr.mono (by decide)) (T.meth 73 "__iter__" rfl) ((T.dm 53 17 "__iter__" "Sheet.__iter__" rfl).binds (ps := ["self"]) fun _ _ _ _ _ _ us hl => match us, hl with | [_], _ => rfl) pass0 (T.meth 71 "__len__" rfl) ((T.dm 51 15 "__len__" "Sheet.__len__" rfl).binds (ps := ["self"]) fun _ _ _ _ _ _ us hl => match us, hl with | [_], _ => rfl) hr.hd) (by rfl) (T.fr 38 "list" rfl) (by decide +kernel) (pa_cons (pv 0) pa_nil)) (pv 2) (nomark _)) (pw_or1 (pt_cmpR (op_neD hr.units) (pe_lc (own := [("_law_one", 4)]) (g := gName 4) rfl sc_law_in_right.nd (pi_own (ok_sh_iter T) rfl (hr.mono (by decide)) (T.meth 73 "__iter__" rfl) ((T.dm 53 17 "__iter__" "Sheet.__iter__" rfl).binds (ps := ["self"]) fun _ _ _ _ _ _ us hl => match us, hl with | [_], _ => rfl) pass0 (pv 0)) (blkOk_by (N := ["_law_tome", "_law_plan_there", "_law_nodes", "_law_row", "_law_one", "_law_found", "_law_other", "_law_odd", "_law_low", "_law_high"]) (sc := (defScope (topS 50))) (own := [("_law_one", 4)]) (by decide +kernel)) (fun _ _ _ _ _ => (pg_name (i := 4) sc_law_in_right.nd rfl (Or.inl rfl))) (fun _ _ _ _ _ => pts_nil) (fun _ _ _ _ _ => (pv 4))) (pv 2) (nomark _))))) (pss_one (ps_ret pe_bl)) pss_nil) (pss_cons (ps_set (i := 5) sc_law_in_right.nd rfl (Or.inl rfl) (pe_lst pa_nil)) (pss_cons (ps_for PassesOwn.never rfl (pi_own (ok_sh_iter T) rfl (hr.mono (by decide)) (T.meth 73 "__iter__" rfl) ((T.dm 53 17 "__iter__" "Sheet.__iter__" rfl).binds (ps := ["self"]) fun _ _ _ _ _ _ us hl => match us, hl with | [_], _ => rfl) pass0 (pv 0)) (pg_name (i := 4) sc_law_in_right.nd rfl (Or.inl rfl)) (pss_one (ps_for PassesOwn.never rfl (pi_own (ok_sh_iter T) rfl (hr.mono (by decide)) (T.meth 73 "__iter__" rfl) ((T.dm 53 17 "__iter__" "Sheet.__iter__" rfl).binds (ps := ["self"]) fun _ _ _ _ _ _ us hl => match us, hl with | [_], _ => rfl) pass0 (pv 0)) (pg_name (i := 6) sc_law_in_right.nd rfl (Or.inl rfl)) (pss_one (ps_expr (pe_bm PySem.F.plainAttrs_list PySem.F.slot_list_append PySem.F.type_list_append mt_append (pv 5) (pa_cons (pe_tup (pa_cons (pv 4) (pa_cons (pv 6) pa_nil))) pa_nil))))))) (pss_cons (ps_if (PW.pt (pw_or (pt_cmpR op_ne (pe_callB call_len (by rfl) (T.fr 41 "len" rfl) (by decide +kernel) (pa_cons (pv 5) pa_nil)) (pe_op op_pow (pe_callB call_len (by rfl) (T.fr 41 "len" rfl) (by decide +kernel) (pa_cons (pv 2) pa_nil)) pe_int) (nomark _)) (pw_or1 (pt_cmpR (op_neD hr.units) (pe_lc (own := [("_law_one", 4), ("_law_other", 6)]) (g := gTup K 2 (gCons (gName 4) (gCons (gName 6) gNil))) rfl sc_law_in_right.nd (pi_list (pe_stepL (pv 5) (pe_callB (call_max2 rfl) (by rfl) (T.fr 46 "max" rfl) (by decide +kernel) (pa_cons pe_int (pa_cons (pe_callB call_len (by rfl) (T.fr 41 "len" rfl) (by decide +kernel) (pa_cons (pv 2) pa_nil)) pa_nil))))) (blkOk_by (N := ["_law_tome", "_law_plan_there", "_law_nodes", "_law_row", "_law_one", "_law_found", "_law_other", "_law_odd", "_law_low", "_law_high"]) (sc := (defScope (topS 50))) (own := [("_law_one", 4), ("_law_other", 6)]) (by decide +kernel)) (fun _ _ _ _ _ => (pg_tup rfl (pgs_cons (pg_name (i := 4) sc_law_in_right.nd rfl (Or.inl rfl)) (pgs_cons (pg_name (i := 6) sc_law_in_right.nd rfl (Or.inl rfl)) pgs_nil)))) (fun _ _ _ _ _ => pts_nil) (fun _ _ _ _ _ => (pv 4))) (pv 2) (nomark _))))) (pss_one (ps_ret pe_bl)) pss_nil) (pss_cons (ps_for PassesOwn.never rfl (pi_own (ok_sh_iter T) rfl (hr.mono (by decide)) (T.meth 73 "__iter__" rfl) ((T.dm 53 17 "__iter__" "Sheet.__iter__" rfl).binds (ps := ["self"]) fun _ _ _ _ _ _ us hl => match us, hl with | [_], _ => rfl) pass0 (pv 0)) (pg_name (i := 4) sc_law_in_right.nd rfl (Or.inl rfl)) (pss_one ps_break)) (pss_cons (ps_if (PW.pt (pw_or (pt_cmpR (op_neD hr.units) (pe_callTy (call_listOwnL (F' := L2.E0) (ok_sh_iter T) rfl (ok_sh_len T) (hr.mono (by decide)) (T.meth 73 "__iter__" rfl) ((T.dm 53 17 "__iter__" "Sheet.__iter__" rfl).binds (ps := ["self"]) fun _ _ _ _ _ _ us hl => match us, hl with | [_], _ => rfl) pass0 (T.meth 71 "__len__" rfl) ((T.dm 51 15 "__len__" "Sheet.__len__" rfl).binds (ps := ["self"]) fun _ _ _ _ _ _ us hl => match us, hl with | [_], _ => rfl) hr.hd) (by rfl) (T.fr 38 "list" rfl) (by decide +kernel) (pa_cons (pv 0) pa_nil)) (pv 2) (nomark _)) (pw_or1 (pt_not (pt_val (pe_callB (cr_all rfl) (by rfl) (T.fr 42 "all" rfl) (by decide +kernel) (pa_cons (pe_lc (own := [("_law_one", 4)]) (g := gName 4) rfl sc_law_in_right.nd (pi_list (pe_op op_cat (pv 2) (pe_ix (r := rIxT K) ix_tup (pv 1) pe_int (fun _ _ => rfl)))) (blkOk_by (N := ["_law_tome", "_law_plan_there", "_law_nodes", "_law_row", "_law_one", "_law_found", "_law_other", "_law_odd", "_law_low", "_law_high"]) (sc := (defScope (topS 50))) (own := [("_law_one", 4)]) (by decide +kernel)) (fun _ _ _ _ _ => (pg_name (i := 4) sc_law_in_right.nd rfl (Or.inl rfl))) (fun _ _ _ _ _ => pts_nil) (fun _ _ _ _ _ => (pe_cmpR (op_ownIn (sp := (Sp2 (rS_ K) rDv rB inD (fun s _ => Sok s))) (ok_sh_contains T) (hr.mono (by decide)) (T.meth 72 "__contains__" rfl) ((T.dm 52 16 "__contains__" "Sheet.__contains__" rfl).binds (ps := ["self", "x"]) fun _ _ _ _ _ _ us hl => match us, hl with | [_, _], _ => rfl) .nil pass0) (pv 4) (pv 0) rfl))) pa_nil))))))) (pss_one (ps_ret pe_bl)) pss_nil) (pss_cons (ps_set (i := 7) sc_law_in_right.nd rfl (Or.inl rfl) (pe_lst (pa_cons pe_non (pa_cons pe_int (pa_cons pe_str (pa_cons pe_str (pa_cons pe_bl (pa_cons (pe_lst pa_nil) (pa_cons (pe_tup pa_nil) (pa_cons pe_dnewK (pa_cons (pe_tup (pa_cons pe_str (pa_cons pe_str pa_nil))) (pa_cons (pv 2) (pa_cons (pe_lst (pa_cons (pe_ix (r := rIxT K) ix_tup (pv 1) pe_int (fun _ _ => rfl)) pa_nil)) (pa_cons (pe_tup (pa_cons pe_str pa_nil)) (pa_cons (pe_tup (pa_cons pe_non (pa_cons pe_int pa_nil))) (pa_cons (pe_tup (pa_cons (pe_lst pa_nil) (pa_cons pe_dnewK pa_nil))) pa_nil)))))))))))))))) (pss_cons (ps_set (i := 7) sc_law_in_right.nd rfl (Or.inl rfl) (pe_op op_cat (pv 7) (pe_lc (own := [("_law_low", 8), ("_law_high", 9)]) (g := gTup K 2 (gCons (gName 8) (gCons (gName 9) gNil))) rfl sc_law_in_right.nd (pi_list (pe_ix (r := rIxT K) ix_tup (pv 1) pe_int (fun _ _ => rfl))) (blkOk_by (N := ["_law_tome", "_law_plan_there", "_law_nodes", "_law_row", "_law_one", "_law_found", "_law_other", "_law_odd", "_law_low", "_law_high"]) (sc := (defScope (topS 50))) (own := [("_law_low", 8), ("_law_high", 9)]) (by decide +kernel)) (fun _ _ _ _ _ => (pg_tup rfl (pgs_cons (pg_name (i := 8) sc_law_in_right.nd rfl (Or.inl rfl)) (pgs_cons (pg_name (i := 9) sc_law_in_right.nd rfl (Or.inl rfl)) pgs_nil)))) (fun _ _ _ _ _ => pts_nil) (fun _ _ _ _ _ => (pe_tup (pa_cons (pv 9) (pa_cons (pv 8) pa_nil))))))) (pss_cons (ps_set (i := 7) sc_law_in_right.nd rfl (Or.inl rfl) (pe_op op_cat (pv 7) (pe_lc (own := [("_law_one", 4)]) (g := gName 4) rfl sc_law_in_right.nd (pi_list (pe_call (ok_law_all_lines T) (hr.mono (by decide)) (by rfl) (T.gl 19 "_law_all_lines" rfl) (T.df 17 43 "_law_all_lines" rfl).kp ((T.df 17 43 "_law_all_lines" rfl).binds (ps := ["_law_rows"]) fun _ _ _ _ _ _ us hl => match us, hl with | [_], _ => rfl) .nil pass0 (pa_cons (pe_ix (r := rIxT K) ix_tup (pv 1) pe_int (fun _ _ => rfl)) pa_nil))) (blkOk_by (N := ["_law_tome", "_law_plan_there", "_law_nodes", "_law_row", "_law_one", "_law_found", "_law_other", "_law_odd", "_law_low", "_law_high"]) (sc := (defScope (topS 50))) (own := [("_law_one", 4)]) (by decide +kernel)) (fun _ _ _ _ _ => (pg_name (i := 4) sc_law_in_right.nd rfl (Or.inl rfl))) (fun _ _ _ _ _ => (pts_one (pt_cmpR (notInDK (K := K) rfl (u65 hr)) (pv 4) (pe_ix (r := rIxT K) ix_tup (pv 1) pe_int (fun _ _ => rfl)) rfl))) (fun _ _ _ _ _ => (pv 4))))) (pss_cons (ps_set (i := 7) sc_law_in_right.nd rfl (Or.inl rfl) (pe_op op_cat (pv 7) (pe_lc (own := [("_law_one", 4)]) (g := gName 4) rfl sc_law_in_right.nd (pi_list (pe_ix (r := rIxT K) ix_tup (pv 1) pe_int (fun _ _ => rfl))) (blkOk_by (N := ["_law_tome", "_law_plan_there", "_law_nodes", "_law_row", "_law_one", "_law_found", "_law_other", "_law_odd", "_law_low", "_law_high"]) (sc := (defScope (topS 50))) (own := [("_law_one", 4)]) (by decide +kernel)) (fun _ _ _ _ _ => (pg_name (i := 4) sc_law_in_right.nd rfl (Or.inl rfl))) (fun _ _ _ _ _ => pts_nil) (fun _ _ _ _ _ => (pe_callTy (r := rListS K) call_list_of (by rfl) (T.fr 38 "list" rfl) (by decide +kernel) (pa_cons (pv 4) pa_nil)))))) (pss_one (ps_ret (pe_not (pe_callB (cr_any rfl) (by rfl) (T.fr 43 "any" rfl) (by decide +kernel) (pa_cons (pe_lc (own := [("_law_one", 4)]) (g := gName 4) rfl sc_law_in_right.nd (pi_list (pv 7)) (blkOk_by (N := ["_law_tome", "_law_plan_there", "_law_nodes", "_law_row", "_law_one", "_law_found", "_law_other", "_law_odd", "_law_low", "_law_high"]) (sc := (defScope (topS 50))) (own := [("_law_one", 4)]) (by decide +kernel)) (fun _ _ _ _ _ => (pg_name (i := 4) sc_law_in_right.nd rfl (Or.inl rfl))) (fun _ _ _ _ _ => pts_nil) (fun _ _ _ _ _ => (pe_cmpR (op_ownIn (sp := (Sp2 (rS_ K) rDv rB inD (fun s _ => Sok s))) (ok_sh_contains T) (hr.mono (by decide)) (T.meth 72 "__contains__" rfl) ((T.dm 52 16 "__contains__" "Sheet.__contains__" rfl).binds (ps := ["self", "x"]) fun _ _ _ _ _ _ us hl => match us, hl with | [_, _], _ => rfl) .nil pass0) (pv 4) (pv 0) rfl))) pa_nil))))))))))))))))), ?_⟩
    obtain ⟨ps, v, w, s, x, rfl, o, r, ra, pk, q⟩ := h
    have ok := pk.sok
    have hmk := pk.mk'
    have h12 := hmk.h12
    have h6 := pk.h6
    have hlen := pk.len
    have hm14 := pk.m14
    have okn : ∀ z ∈ s.1.flatten, okS z := fun z hz => by
      obtain ⟨l, h1, h2⟩ := List.mem_flatten.mp hz
      exact sok_names ok l h1 z h2
    have hN : s.1.flatten.length ≤ 60 := by rw [many_flat]; exact ok.lv.few
    have okl : ∀ e ∈ x.2, okS e.1 ∧ okS e.2 := fun e he => sok_lines ok e (by rw [pk.ln]; exact mem_srtT.mpr he)
    refine q_new (R := rS) o fun p1 H1 e1 np hp o1 x1 l1 => ?_
    have ra1 := rPlan.m x1 ra
    have lenf : ∀ i, ((x.1.take i).flatMap srtS).length ≤ 1000 := fun i => by
      refine Nat.le_trans (flatMap_len (c := 18) fun l hl => ?_) (by rw [List.length_take]; omega)
      rw [(srtS_perm l).length_eq]
      exact hmk.w18 l (List.mem_of_mem_take hl)
    refine q_forW o1 (wk_list (er_fst (er_var (i := 1) rfl ra1) (er_I ev_c))) (fun i σ' H' => (∃ o3, σ' = [some v, some w, some (.ref p1), o3, none, none, none, none, none, none]) ∧ Ls rS (p1 :: ps) H' p1 ((x.1.take i).flatMap srtS) ∧ Ex H H') (fun H2 e2 => ⟨⟨none, rfl⟩, by rw [List.take_zero]; exact l1.ex e2, e1.trans e2⟩) (fun _ _ _ _ e p => ⟨p.1, p.2.1.ex e, p.2.2.trans e⟩) (fun H2 e2 i row u σ' H3 hx f3 f13 pv ru => ?_) fun σ' H2 f2 pv => ?_
    · obtain ⟨⟨o3, rfl⟩, l3, eH⟩ := pv
      have hrow := hmk.w18 row (List.mem_of_getElem? hx)
      have hlf := lenf i
      refine s_extR f13.1 l3 (ev_var (i := 2) rfl) (er_sortedS (er_var (i := 3) rfl ru) (by omega)) (by rw [(srtS_perm row).length_eq]; omega) fun H4 f4 l4 ot4 => ?_
      exact ⟨f3.trans f4, ⟨_, rfl⟩, by rw [take_snoc hx, List.flatMap_append, List.flatMap_cons, List.flatMap_nil, List.append_nil]; exact l4, Oth.back eH ot4 hp⟩
    obtain ⟨⟨o3, rfl⟩, l2, e02⟩ := pv
    rw [List.take_length] at l2
    have rn := l2.rep np
    rw [show x.1.flatMap srtS = s.1.flatten by rw [pk.lv]; exact List.flatMap_def] at rn
    have r := (rS_ K).m (Rm_mono e02) r
    have ra := rPlan.m (Rm_mono e02) ra
    have o2 := o.ex e02
    refine q_whenR o2 (b := false) (et_or' (x := false) (y := false) (et_neF (dtL dtS) (by decide) (er_listO (er_var (i := 0) rfl r) ok) (er_var (i := 2) rfl rn) okn rfl) fun _ => et_neF (dtL dtS) (by decide) (er_is (er_lc1 (R := rS) (S := rS) id (wk_own (er_var (i := 0) rfl r)) (by omega) (fun _ => rfl) fun z hz qs v3 H3 e3 o3 x3 r3 => er_var rfl r3) (List.map_id _)) (er_var (i := 2) rfl rn) okn rfl) (fun z => nomatch z) fun _ H3 e3 => ?_
    have r := (rS_ K).m (Rm_mono e3) r
    have ra := rPlan.m (Rm_mono e3) ra
    have rn := (rL rS).m (Rm_mono e3) rn
    have o3' := o2.ex e3
    have e03 := e02.trans e3
    refine q_new (R := rE) o3' fun p2 H4 e4 np2 hp2 o4 x4 l4 => ?_
    have r4 := (rS_ K).m x4 r
    have hsq : ∀ i, ((s.1.flatten.take i).flatMap fun a => s.1.flatten.map fun b => (a, b)).length ≤ 3600 := fun i => by
      refine Nat.le_trans (flatMap_len (c := 60) fun a _ => by rw [List.length_map]; exact hN) ?_
      have : (s.1.flatten.take i).length ≤ 60 := by rw [List.length_take]; omega
      omega
    refine q_forW o4 (wk_own (er_var (i := 0) rfl r4)) (fun i σ' H' => (∃ o4 o5, σ' = [some v, some w, some (.ref p1), o3, o4, some (.ref p2), o5, none, none, none]) ∧ Ls rE (p2 :: ps) H' p2 ((s.1.flatten.take i).flatMap fun a => s.1.flatten.map fun b => (a, b)) ∧ Ex H3 H') (fun H5 e5 => ⟨⟨none, none, rfl⟩, by rw [List.take_zero]; exact l4.ex e5, e4.trans e5⟩) (fun _ _ _ _ e p => ⟨p.1, p.2.1.ex e, p.2.2.trans e⟩) (fun H5 e5 i z u σ' H6 hz f6 f46 pv ru => ?_) fun σ' H5 f5 pv => ?_
    · obtain ⟨⟨o4, o5, rfl⟩, l6, e36⟩ := pv
      obtain rfl : u = .str z := ru
      have r6 := (rS_ K).m f46.2 r4
      refine s_forW f46.1 (wk_own (er_var (i := 0) rfl r6)) (fun j σ' H' => (∃ o5, σ' = [some v, some w, some (.ref p1), o3, some (.str z), some (.ref p2), o5, none, none, none]) ∧ Ls rE (p2 :: ps) H' p2 (((s.1.flatten.take i).flatMap fun a => s.1.flatten.map fun b => (a, b)) ++ (s.1.flatten.take j).map fun b => (z, b)) ∧ Ex H3 H') (fun H7 e7 => ⟨⟨o5, rfl⟩, by rw [List.take_zero, List.map_nil, List.append_nil]; exact l6.ex e7, e36.trans e7⟩) (fun _ _ _ _ e p => ⟨p.1, p.2.1.ex e, p.2.2.trans e⟩) (fun H7 e7 j y u σ' H8 hy f8 f68 pv ru => ?_) fun σ' H7 f7 pv => ?_
      · obtain ⟨⟨o6, rfl⟩, l8, e38⟩ := pv
        obtain rfl : u = .str y := ru
        have h1 := hsq i
        refine s_appR f68.1 l8 (ev_var (i := 5) rfl) (er_tup (er_var (i := 4) (v := .str z) rfl rfl) (er_var (i := 6) (v := .str y) rfl rfl)) (by rw [List.length_append, List.length_map, List.length_take]; omega) fun H9 f9 l9 ot9 => ?_
        exact ⟨f8.trans f9, ⟨_, rfl⟩, by rw [take_snoc hy, List.map_append, ← List.append_assoc]; exact l9, Oth.back e38 ot9 hp2⟩
      · obtain ⟨⟨o6, rfl⟩, l7, e37⟩ := pv
        rw [List.take_length] at l7
        exact ⟨f6.trans f7, ⟨_, _, rfl⟩, by rw [take_snoc hz, List.flatMap_append, List.flatMap_cons, List.flatMap_nil, List.append_nil]; exact l7, e37⟩
    obtain ⟨⟨o4, o5, rfl⟩, l5, e35⟩ := pv
    rw [List.take_length] at l5
    have rf : (rL rE).p (sqL s.1.flatten) (.ref p2) (Rm ps H5) := l5.rep np2
    have r := (rS_ K).m (Rm_mono e35) r
    have ra := rPlan.m (Rm_mono e35) ra
    have rn := (rL rS).m (Rm_mono e35) rn
    have o5' := o3'.ex e35
    have e05 := e03.trans e35
    have hsl := sq_len s.1.flatten
    have hsz : (sqL s.1.flatten).length ≤ 3600 := by
      rw [hsl]
      exact Nat.mul_le_mul hN hN
    refine q_whenR o5' (b := false) (et_or' (x := false) (y := false) (et_test' (er_B (ev_is (ev_op (ev_I o5' (er_lenL (er_toQ (er_var (i := 5) rfl rf)))) (ev_op (ev_I o5' (er_lenL (er_toQ (er_var (i := 2) rfl rn)))) ev_c (rv_val fun H1 e Q q => ⟨_, _, rfl, rfl, ⟨by decide, by decide, by omega⟩, q⟩)) (rv_ne rfl)) ?_))) fun _ => et_neF (dtL dtS) (by decide) (er_is (er_lc2 (R := rS) (S := rS) (T := rS) (fun e => e.1) (wk_list (er_stepL (k := if s.1.flatten.length > 1 then s.1.flatten.length else 1) (er_var (i := 5) rfl rf) ?_ (by split <;> omega))) (Nat.le_trans (step_len (by split <;> omega)) (by omega)) (fun _ _ => rfl) fun e he qs v6 w6 H6 e6 o6 x6 r6 s6 => er_var rfl r6) (step_sq _ rfl)) (er_var (i := 2) rfl rn) okn rfl) (fun z => nomatch z) fun _ H6 e6 => ?_
    · congr 1
      rw [Bool.not_eq_false', decide_eq_true_eq]
      congr 1
      rw [hsl]
      show ((s.1.flatten.length * s.1.flatten.length : Nat) : Int) = (s.1.flatten.length : Int) ^ 2
      rw [Int.natCast_mul, Int.pow_succ, Int.pow_succ, Int.pow_zero, Int.one_mul]
    · refine er_cb (R := rI) (as := [1, (s.1.flatten.length : Int)]) (eas_cons (er_I ev_c) (eas_cons (er_lenL (er_toQ (er_var (i := 2) rfl rn))) eas_nil)) fun vs H1 e o rs Q q => ?_
      match vs, rs with
      | [a, b], rs =>
      obtain rfl : a = .int 1 := rs.1
      obtain rfl : b = .int (s.1.flatten.length : Int) := rs.2.1
      refine ⟨_, _, rfl, q _ H1 (Ex.refl _) ?_⟩
      show V.int _ = V.int _
      congr 1
      by_cases hc : s.1.flatten.length > 1
      · rw [if_pos hc, if_pos (by omega)]
      · rw [if_neg hc, if_neg (by omega)]
        rfl
    have r := (rS_ K).m (Rm_mono e6) r
    have ra := rPlan.m (Rm_mono e6) ra
    have rn := (rL rS).m (Rm_mono e6) rn
    have o6' := o5'.ex e6
    have e06 := e05.trans e6
    refine q_forBrk o6' (wk_own (er_var (i := 0) rfl r)) (by show 4 < 10; decide) fun x7 H7 e7 => ?_
    have r := (rS_ K).m (Rm_mono e7) r
    have ra := rPlan.m (Rm_mono e7) ra
    have rn := (rL rS).m (Rm_mono e7) rn
    have o7' := o6'.ex e7
    have e07 := e06.trans e7
    have hme : ∀ d ∈ s.1.flatten.map PyData.str ++ x.2.map (fun e => PyData.tuple [.str e.1, .str e.2]), inD s d = true := fun d hd => by
      rcases List.mem_append.mp hd with hd | hd
      · obtain ⟨z, hz, rfl⟩ := List.mem_map.mp hd
        show (decide (z ∈ s.1.flatten) || _) = true
        rw [decide_eq_true hz]
        rfl
      · obtain ⟨e, he, rfl⟩ := List.mem_map.mp hd
        rw [inD_line]
        exact decide_eq_true (by rw [pk.ln]; exact mem_srtT.mpr he)
    refine q_whenR o7' (b := false) (et_or' (x := false) (y := false) (et_neF (dtL dtS) (by decide) (er_listO (er_var (i := 0) rfl r) ok) (er_var (i := 2) rfl rn) okn rfl) fun _ => et_is' (et_not' (x := true) (et_B' (er_is (er_all (er_lc1 (R := rDv) (S := rB) (inD s) (wk_list (er_cat (er_dvL (er_var (i := 2) rfl rn) asS) (er_dvL (er_snd (er_var (i := 1) rfl ra) (er_I ev_c)) asE) (by rw [List.length_map, List.length_map]; omega))) (by rw [List.length_append, List.length_map, List.length_map]; omega) (fun _ => rfl) fun d hd qs v8 H8 e8 o8 x8 r8 => er_inO (er_var (i := 4) rfl r8) (er_var (i := 0) rfl ((rS_ K).m x8 r)) ok)) ?_))) rfl) (fun z => nomatch z) fun _ H8 e8 => ?_
    · rw [List.all_map, List.all_eq_true]
      exact fun d hd => hme d hd
    have r := (rS_ K).m (Rm_mono e8) r
    have ra := rPlan.m (Rm_mono e8) ra
    have rn := (rL rS).m (Rm_mono e8) rn
    have o8' := o7'.ex e8
    have e08 := e07.trans e8
    have hnil := pk.nil
    have hqq := pk.qq
    refine q_asgR' (R := rL rDv) (a := [.none, .int 0, .str "", .str "qq", .bool true, .list [], .tuple [], .dict [], .tuple [.str "qq", .str "qq"], dStrs s.1.flatten, .list [dLines x.2], .tuple [.str "a"], .tuple [.none, .int 1], .tuple [.list [], .dict []]]) o8' (er_lst (eas_cons er_nonD (eas_cons er_intD (eas_cons er_strD (eas_cons er_strD (eas_cons er_blD (eas_cons (er_lstD eas_nil (by decide)) (eas_cons (er_tupD eas_nil (by decide)) (eas_cons er_dicD (eas_cons (er_tupD (eas_cons er_strD (eas_cons er_strD eas_nil)) (by show 2 ≤ 100000; decide)) (eas_cons (er_dvS (er_var (i := 2) rfl rn)) (eas_cons (er_lstD (eas_cons (er_dvE (er_snd (er_var (i := 1) rfl ra) (er_I ev_c))) eas_nil) (by show 1 ≤ 100000; decide)) (eas_cons (er_tupD (eas_cons er_strD eas_nil) (by show 1 ≤ 100000; decide)) (eas_cons (er_tupD (eas_cons er_nonD (eas_cons er_intD eas_nil)) (by show 2 ≤ 100000; decide)) (eas_cons (er_tupD (eas_cons (er_lstD eas_nil (by decide)) (eas_cons er_dicD eas_nil)) (by show 2 ≤ 100000; decide)) eas_nil)))))))))))))) (by show 14 ≤ 100000; decide)) fun vo1 H9 e9 rd1 => ?_
    have hno : ∀ d ∈ ([.none, .int 0, .str "", .str "qq", .bool true, .list [], .tuple [], .dict [], .tuple [.str "qq", .str "qq"], dStrs s.1.flatten, .list [dLines x.2], .tuple [.str "a"], .tuple [.none, .int 1], .tuple [.list [], .dict []]] : List PyData), inD s d = false := fun d hd => by
      simp only [List.mem_cons, List.not_mem_nil, or_false] at hd
      rcases hd with rfl | rfl | rfl | rfl | rfl | rfl | rfl | rfl | rfl | rfl | rfl | rfl | rfl | rfl
      · rfl
      · rfl
      · show (decide (("" : Str) ∈ s.1.flatten) || false) = false
        rw [decide_eq_false hnil]; rfl
      · show (decide (("qq" : Str) ∈ s.1.flatten) || false) = false
        rw [decide_eq_false hqq]; rfl
      · rfl
      · rfl
      · rfl
      · rfl
      · show (false || decide ((("qq" : Str), ("qq" : Str)) ∈ s.2)) = false
        rw [Bool.false_or]
        exact decide_eq_false fun h => hqq (ok.fit _ h).in1
      · rfl
      · rfl
      · rfl
      · rfl
      · rfl
    have hD1 : ([.none, .int 0, .str "", .str "qq", .bool true, .list [], .tuple [], .dict [], .tuple [.str "qq", .str "qq"], dStrs s.1.flatten, .list [dLines x.2], .tuple [.str "a"], .tuple [.none, .int 1], .tuple [.list [], .dict []]] : List PyData).length = 14 := rfl
    generalize ([.none, .int 0, .str "", .str "qq", .bool true, .list [], .tuple [], .dict [], .tuple [.str "qq", .str "qq"], dStrs s.1.flatten, .list [dLines x.2], .tuple [.str "a"], .tuple [.none, .int 1], .tuple [.list [], .dict []]] : List PyData) = D1 at rd1 hno hD1
    have r := (rS_ K).m (Rm_mono e9) r
    have ra := rPlan.m (Rm_mono e9) ra
    have o9' := o8'.ex e9
    refine q_asgR' (R := rL rDv) o9' (er_cat (er_var (i := 7) rfl rd1) (er_dvL (er_lc2 (R := rS) (S := rS) (T := rE) swp (wk_list (er_snd (er_var (i := 1) rfl ra) (er_I ev_c))) (by omega) (fun _ _ => rfl) fun e he qs v5 w5 H5 e5 o5 x5 r5 s5 => er_tup (er_var (i := 9) rfl s5) (er_var (i := 8) rfl r5)) asE) (by rw [hD1, List.length_map, List.length_map]; omega)) fun vo2 H10 e10 rd2 => ?_
    have hn2 : ∀ d ∈ D1 ++ (x.2.map swp).map (fun e => PyData.tuple [.str e.1, .str e.2]), inD s d = false := fun d hd => by
      rcases List.mem_append.mp hd with hd | hd
      · exact hno d hd
      · obtain ⟨e, he, rfl⟩ := List.mem_map.mp hd
        obtain ⟨f, hf, rfl⟩ := List.mem_map.mp he
        exact inD_swp ok (by rw [pk.ln]; exact mem_srtT.mpr hf)
    have hl2 : (D1 ++ (x.2.map swp).map (fun e => PyData.tuple [.str e.1, .str e.2])).length ≤ 28 := by rw [List.length_append, hD1, List.length_map, List.length_map]; omega
    generalize D1 ++ (x.2.map swp).map (fun e => PyData.tuple [.str e.1, .str e.2]) = D2 at rd2 hn2 hl2
    have r := (rS_ K).m (Rm_mono e10) r
    have ra := rPlan.m (Rm_mono e10) ra
    have o10' := o9'.ex e10
    have haf := all_few h12 hmk.w18
    have oka : ∀ e ∈ allL x.1, okS e.1 ∧ okS e.2 := fun e he => by
      have hf := allL_fit he
      exact ⟨okn _ (by rw [pk.lv]; exact mem_flat.mp hf.in1), okn _ (by rw [pk.lv]; exact mem_flat.mp hf.in2)⟩
    have hfe : ((allL x.1).filter fun e => !decide (e ∈ x.2)).length ≤ 12 * 324 := Nat.le_trans (List.length_filter_le _ _) haf
    refine q_asgR' (R := rL rDv) o10' (er_cat (er_var (i := 7) rfl rd2) (er_dvL (er_is (a' := (allL x.1).filter fun e => !decide (e ∈ x.2)) (er_lc1F (R := rE) (S := rE) id (fun e => !decide (e ∈ x.2)) (wk_list (er_allL (er_fst (er_var (i := 1) rfl ra) (er_I ev_c)) h12 hmk.w18)) (by omega) (fun _ => rfl) (fun e he qs v5 H5 e5 o5 x5 r5 => et_is' (et_test' (er_notInD (dtP dtS dtS) (by decide) (er_var rfl r5) (er_snd (er_var (i := 1) rfl (rPlan.m x5 ra)) (er_I ev_c)) (oka e he) okl)) (congrArg not (decide_eq_decide.mpr Iff.rfl))) fun e he _ qs v5 H5 e5 o5 x5 r5 => er_var rfl r5) (List.map_id _)) asE) (by rw [List.length_map]; omega)) fun vo3 H11 e11 rd3 => ?_
    have hn3 : ∀ d ∈ D2 ++ ((allL x.1).filter fun e => !decide (e ∈ x.2)).map (fun e => PyData.tuple [.str e.1, .str e.2]), inD s d = false := fun d hd => by
      rcases List.mem_append.mp hd with hd | hd
      · exact hn2 d hd
      · obtain ⟨e, he, rfl⟩ := List.mem_map.mp hd
        rw [inD_line]
        refine decide_eq_false fun hm => ?_
        have h1 := (List.mem_filter.mp he).2
        rw [pk.ln] at hm
        rw [decide_eq_true (mem_srtT.mp hm)] at h1
        cases h1
    have hl3 : (D2 ++ ((allL x.1).filter fun e => !decide (e ∈ x.2)).map (fun e => PyData.tuple [.str e.1, .str e.2])).length ≤ 5000 := by rw [List.length_append, List.length_map]; omega
    generalize D2 ++ ((allL x.1).filter fun e => !decide (e ∈ x.2)).map (fun e => PyData.tuple [.str e.1, .str e.2]) = D3 at rd3 hn3 hl3
    have r := (rS_ K).m (Rm_mono e11) r
    have ra := rPlan.m (Rm_mono e11) ra
    have o11' := o10'.ex e11
    refine q_asgR' (R := rL rDv) o11' (er_cat (er_var (i := 7) rfl rd3) (er_dvL (er_lc1 (R := rE) (S := rL rS) (fun e => [e.1, e.2]) (wk_list (er_snd (er_var (i := 1) rfl ra) (er_I ev_c))) (by omega) (fun _ => rfl) fun e he qs v5 H5 e5 o5 x5 r5 => er_list (er_impG (R := rE) (a := e) (er_var (i := 4) rfl r5) fun _ _ r => rE_q r)) (asL asS)) (by rw [List.length_map, List.length_map]; omega)) fun vo4 H12 e12 rd4 => ?_
    have hn4 : ∀ d ∈ D3 ++ (x.2.map fun e => [e.1, e.2]).map (fun as => PyData.list (as.map PyData.str)), inD s d = false := fun d hd => by
      rcases List.mem_append.mp hd with hd | hd
      · exact hn3 d hd
      · obtain ⟨e, he, rfl⟩ := List.mem_map.mp hd
        rfl
    have hl4 : (D3 ++ (x.2.map fun e => [e.1, e.2]).map (fun as => PyData.list (as.map PyData.str))).length ≤ 6000 := by rw [List.length_append, List.length_map, List.length_map]; omega
    generalize D3 ++ (x.2.map fun e => [e.1, e.2]).map (fun as => PyData.list (as.map PyData.str)) = D4 at rd4 hn4 hl4
    have r := (rS_ K).m (Rm_mono e12) r
    have o12' := o11'.ex e12
    refine s_retR o12' (er_is (er_notV (x := false) (er_is (er_any (er_lc1 (R := rDv) (S := rB) (inD s) (wk_list (er_var (i := 7) rfl rd4)) (by omega) (fun _ => rfl) fun d hd qs v8 H8 e8 o8 x8 r8 => er_inO (er_var (i := 4) rfl r8) (er_var (i := 0) rfl ((rS_ K).m x8 r)) ok)) ?_)) rfl) fun v13 H13 e13 t => q v13 H13 ((((((e08.trans e9).trans e10).trans e11).trans e12)).trans e13) t
    rw [List.any_map, List.any_eq_false]
    intro d hd
    rw [show (id ∘ inD s) d = inD s d from rfl, hn4 d hd]
    decide
  case len =>
    obtain ⟨ps, v, w, s, x, rfl, _⟩ := h
    rfl
end
end K12
set_option Elab.async false
set_option linter.all false
set_option maxRecDepth 100000
set_option maxHeartbeats 4000000
namespace K12
open PySem PySem.Spec PyProof.Rows L2 Evl Gen RP ItX
section
variable {P : Program} {w : World} {K : PySem.W.Frag} {mg : Str → Option Value} {base : Heap} {fd : Nat → FuncData}
theorem er_inQ {ps : List Addr} {σ : L2.St} {H : Hp} {ty td : TE} {ns : List Str} {x : Str} (hy : EvR rS ps ty σ H x) (hd : EvR (rQ K rS) ps td σ H ns) : EvR rB ps (tOp (rIn K false) ty td) σ H (decide (x ∈ ns)) := er_op hy hd fun v w H1 e o rv rw' Q q => by
  obtain rfl : v = .str x := rv
  obtain ⟨p, vs, rfl, h1, h2⟩ := rw'
  have hst : vs = ns.map V.str := strs_eq h2
  subst hst
  refine ⟨p, _, rfl, ex_s Rm_ex h1, rfl, flat_strs ns, ?_⟩
  rw [if_neg Bool.false_ne_true, inV_str]
  exact q _ H1 (Ex.refl _) rfl
theorem rep_all {α : Type} {P : α → V → Prop} {as : List α} {vs : List V} : ∀ k : Nat, All2 P as vs → All2 P (List.replicate k as).flatten (List.replicate k vs).flatten
  | 0, _ => trivial
  | k + 1, h => by
    rw [List.replicate_succ, List.replicate_succ, List.flatten_cons, List.flatten_cons]
    exact h.app (rep_all k h)
theorem er_rep {α : Type} {R : Rp α} {ps : List Addr} {σ : L2.St} {H : Hp} {ta tb : TE} {as : List α} {k : Nat} (h : EvR (rL R) ps ta σ H as) (h2 : EvR rI ps tb σ H (k : Int)) (hk : k ≤ 10) (hz : as.length ≤ 10) : EvR (rL R) ps (tOp rRep ta tb) σ H (List.replicate k as).flatten := er_op h h2 fun v w H1 e o rv rw' Q q => by
  obtain ⟨l, vs, rfl, hl, hall⟩ := rv
  obtain rfl : w = .int (k : Int) := rw'
  have hlen := hall.len
  have hm : vs.length * k ≤ 10 * 10 := Nat.mul_le_mul (by omega) hk
  refine ⟨l, (k : Int), vs, rfl, rfl, Rm_ex _ _ hl, by omega, by omega, by rw [Int.toNat_natCast, sizeLine_eq]; omega, fun p hp => q _ _ (Ex.new hp) ⟨p, _, rfl, Rm_get upd_same (o.nin hp), ?_⟩⟩
  rw [Int.toNat_natCast]
  exact rep_all k (hall.imp fun _ _ r => R.m (Rm_mono (Ex.new hp)) r)
theorem er_intB {ps : List Addr} {σ : L2.St} {H : Hp} {te : TE} {b : Bool} (h : EvR rB ps te σ H b) : EvR rI ps (tCB (fun xs H Q => (∃ i, xs = [.int i] ∧ Q (.int i) H) ∨ ∃ k, xs = [.bl k] ∧ Q (.int (if k then 1 else 0)) H) (tCons te tNil)) σ H ((if b then 1 else 0 : Nat) : Int) := er_cb1 h fun v H1 e o rv Q q => by
  obtain rfl : v = .bl b := rv
  refine .inr ⟨b, rfl, q _ H1 (Ex.refl _) ?_⟩
  cases b <;> rfl
/-- a node put on the next level -/
def mvRow (z : Str) (at_ : Nat) (y : Nat × List Str) : List Str := (y.2.filter fun w => !decide (w = z)) ++ (List.replicate (if decide (y.1 = at_ + 1) then 1 else 0) [z]).flatten
def mvd (z : Str) (at_ : Nat) (rows : List (List Str)) : List (List Str) := ((List.range rows.length).zip rows).map (mvRow z at_)
theorem zip_range_get {α : Type} {l : List α} {i : Nat} {a : α} (h : l[i]? = some a) : ((List.range l.length).zip l)[i]? = some (i, a) := by
  rw [List.getElem?_zip_eq_some]
  have := (List.getElem?_eq_some_iff.mp h).1
  exact ⟨by rw [List.getElem?_range this], h⟩
theorem mvd_len (z : Str) (a : Nat) (rows : List (List Str)) : (mvd z a rows).length = rows.length := by unfold mvd; rw [List.length_map, List.length_zip, List.length_range, Nat.min_self]
theorem mvd_get {z : Str} {a : Nat} {rows : List (List Str)} {i : Nat} {r : List Str} (h : rows[i]? = some r) : (mvd z a rows)[i]? = some (mvRow z a (i, r)) := by
  unfold mvd
  rw [List.getElem?_map, zip_range_get h]
  rfl
theorem mem_mvRow {z w : Str} {a i : Nat} {r : List Str} : w ∈ mvRow z a (i, r) ↔ (w ∈ r ∧ w ≠ z) ∨ (i = a + 1 ∧ w = z) := by
  unfold mvRow
  rw [List.mem_append, List.mem_filter]
  refine or_congr ⟨fun h => ⟨h.1, fun e => by rw [e, decide_eq_true rfl] at h; exact Bool.noConfusion h.2⟩, fun h => ⟨h.1, by rw [decide_eq_false h.2]; rfl⟩⟩ ?_
  by_cases c : i = a + 1
  · have : (if decide ((i, r).1 = a + 1) = true then 1 else 0) = 1 := by show (if decide (i = a + 1) = true then 1 else 0) = 1; rw [decide_eq_true c]; rfl
    rw [this]
    simp [c]
  · have : (if decide ((i, r).1 = a + 1) = true then 1 else 0) = 0 := by show (if decide (i = a + 1) = true then 1 else 0) = 0; rw [decide_eq_false c]; rfl
    rw [this]
    simp [c]
theorem mvRow_nd {z : Str} {a i : Nat} {r : List Str} (h : r.Nodup) : (mvRow z a (i, r)).Nodup := by
  unfold mvRow
  refine List.nodup_append.mpr ⟨h.filter _, ?_, fun w hw y hy e => ?_⟩
  · by_cases c : decide ((i, r).1 = a + 1) = true
    · rw [if_pos c]; simp
    · rw [if_neg c]; simp
  · subst e
    have h1 := (List.mem_filter.mp hw).2
    by_cases c : decide ((i, r).1 = a + 1) = true
    · rw [if_pos c] at hy
      have : w = z := by simpa using hy
      rw [decide_eq_true this] at h1
      cases h1
    · rw [if_neg c] at hy
      simp at hy
theorem nodup_flat {α : Type} : ∀ {ls : List (List α)}, (∀ (i : Nat) (a : List α), ls[i]? = some a → a.Nodup) → (∀ (i j : Nat) (a b : List α) (z : α), ls[i]? = some a → ls[j]? = some b → z ∈ a → z ∈ b → i = j) → ls.flatten.Nodup
  | [], _, _ => List.nodup_nil
  | l :: r, h1, h2 => by
    rw [List.flatten_cons]
    refine List.nodup_append.mpr ⟨h1 0 l rfl, nodup_flat (fun i a h => h1 (i + 1) a h) (fun i j a b z g1 g2 g3 g4 => by have := h2 (i + 1) (j + 1) a b z g1 g2 g3 g4; omega), fun x hx y hy e => ?_⟩
    subst e
    obtain ⟨m, hm, hxm⟩ := List.mem_flatten.mp hy
    obtain ⟨j, hj⟩ := List.mem_iff_getElem?.mp hm
    have := h2 0 (j + 1) l m x rfl hj hx hxm
    omega
theorem mvd_mk {rows : List (List Str)} {es : List (Str × Str)} (ok : Mk' rows es) (h6 : rows.length ≤ 6) (w6 : ∀ r ∈ rows, r.length ≤ 6) {z : Str} {a : Nat} {row : List Str} (ha : rows[a]? = some row) (hz : z ∈ row) (hn : ∀ e ∈ es, e.1 ≠ z ∧ e.2 ≠ z) : Mk' (mvd z a rows) es := by
  have zin : z ∈ rows.flatten := List.mem_flatten.mpr ⟨row, List.mem_of_getElem? ha, hz⟩
  have get : ∀ {i : Nat} {m : List Str}, (mvd z a rows)[i]? = some m → ∃ r, rows[i]? = some r ∧ m = mvRow z a (i, r) := fun {i m} h => by
    have hlt := (List.getElem?_eq_some_iff.mp h).1
    rw [mvd_len] at hlt
    have hr : rows[i]? = some rows[i] := List.getElem?_eq_getElem hlt
    rw [mvd_get hr] at h
    exact ⟨_, hr, (Option.some.inj h).symm⟩
  have rowlen : ∀ {i : Nat} {r : List Str}, rows[i]? = some r → (mvRow z a (i, r)).length ≤ 7 := fun {i r} h => by
    unfold mvRow
    rw [List.length_append]
    have h1 := List.length_filter_le (fun w => !decide (w = z)) r
    have h2 := w6 r (List.mem_of_getElem? h)
    have h3 : ((List.replicate (if decide ((i, r).1 = a + 1) = true then 1 else 0) [z]).flatten).length ≤ 1 := by
      split <;> simp
    have h4 : ((i, r).2.filter fun w => !decide (w = z)).length = (r.filter fun w => !decide (w = z)).length := rfl
    omega
  refine ⟨⟨fun e => ?_, fun m hm w hw => ?_, ?_, ?_⟩, fun m hm => ?_, by rw [mvd_len]; omega, fun e he => ?_, ok.nd, ok.z⟩
  · have := mvd_len z a rows
    rw [e] at this
    have hl := (List.getElem?_eq_some_iff.mp ha).1
    simp at this
    omega
  · obtain ⟨i, hi⟩ := List.mem_iff_getElem?.mp hm
    obtain ⟨r, hr, rfl⟩ := get hi
    rcases mem_mvRow.mp hw with h | h
    · exact ok.lv.names r (List.mem_of_getElem? hr) w h.1
    · rw [h.2]
      exact ok.lv.names row (List.mem_of_getElem? ha) z hz
  · refine nodup_flat (fun i m h => ?_) (fun i j m m' w g1 g2 g3 g4 => ?_)
    · obtain ⟨r, hr, rfl⟩ := get h
      refine mvRow_nd ?_
      have := ok.lv.once
      exact List.Sublist.nodup (List.sublist_flatten_of_mem (List.mem_of_getElem? hr)) this
    · obtain ⟨r, hr, rfl⟩ := get g1
      obtain ⟨r', hr', rfl⟩ := get g2
      rcases mem_mvRow.mp g3 with h | h <;> rcases mem_mvRow.mp g4 with h' | h'
      · exact apart ok.lv.once hr hr' h.1 h'.1
      · exact absurd h'.2 h.2
      · exact absurd h.2 h'.2
      · omega
  · rw [← many_flat]
    have hfl : (mvd z a rows).flatten.length ≤ (mvd z a rows).length * 7 := by
      have gen : ∀ ls : List (List Str), (∀ m ∈ ls, m.length ≤ 7) → ls.flatten.length ≤ ls.length * 7 := fun ls => by
        induction ls with
        | nil => intro _; exact Nat.zero_le _
        | cons m r ih =>
          intro h
          have h1 := h m (List.mem_cons_self ..)
          have h2 := ih fun x hx => h x (List.mem_cons_of_mem _ hx)
          rw [List.flatten_cons, List.length_append, List.length_cons]
          omega
      refine gen _ fun m hm => ?_
      obtain ⟨i, hi⟩ := List.mem_iff_getElem?.mp hm
      obtain ⟨r, hr, rfl⟩ := get hi
      exact rowlen hr
    rw [mvd_len] at hfl
    omega
  · obtain ⟨i, hi⟩ := List.mem_iff_getElem?.mp hm
    obtain ⟨r, hr, rfl⟩ := get hi
    have := rowlen hr
    omega
  · obtain ⟨i, b, c, g1, g2, g3, g4⟩ := ok.fit e he
    have hne := hn e he
    exact ⟨i, _, _, mvd_get g1, mvd_get g2, mem_mvRow.mpr (.inl ⟨g3, hne.1⟩), mem_mvRow.mpr (.inl ⟨g4, hne.2⟩)⟩
theorem mvd_ne {rows : List (List Str)} {es fs : List (Str × Str)} {z : Str} {a : Nat} {row : List Str} (ha : rows[a]? = some row) (hz : z ∈ row) : mkS (mvd z a rows) es ≠ mkS rows fs := fun e => by
  have h1 : (mvd z a rows).map srtS = rows.map srtS := congrArg Prod.fst e
  have h2 : ((mvd z a rows).map srtS)[a]? = (rows.map srtS)[a]? := by rw [h1]
  rw [List.getElem?_map, List.getElem?_map, mvd_get ha, ha] at h2
  have h3 : srtS (mvRow z a (a, row)) = srtS row := Option.some.inj h2
  have h4 : z ∈ srtS (mvRow z a (a, row)) := by rw [h3]; exact mem_srtS.mpr hz
  rcases mem_mvRow.mp (mem_srtS.mp h4) with h | h
  · exact h.2 rfl
  · omega
/-- sheets that are not this one -/
def Nq (x : List (List Str) × List (Str × Str)) (ts : List Sht) : Prop := ∀ t ∈ ts, Sok t ∧ t ≠ mkS x.1 x.2
theorem Nq.app {x : List (List Str) × List (Str × Str)} {ts us : List Sht} (h : Nq x ts) (k : Nq x us) : Nq x (ts ++ us) := fun t ht => (List.mem_append.mp ht).elim (h t) (k t)
theorem Nq.snoc {x : List (List Str) × List (Str × Str)} {ts : List Sht} {t : Sht} (h : Nq x ts) (h1 : Sok t) (h2 : t ≠ mkS x.1 x.2) : Nq x (ts ++ [t]) := h.app fun u hu => by rw [List.mem_singleton.mp hu]; exact ⟨h1, h2⟩
/-- what is asked of a plan -/
structure Px (x : List (List Str) × List (Str × Str)) : Prop where
  mk' : Mk' x.1 x.2
  h6 : x.1.length ≤ 6
  w6 : ∀ r ∈ x.1, r.length ≤ 6
  m14 : x.2.length ≤ 14
def spMoved (K : PySem.W.Frag) : Sp := fun vs H Q _ => ∃ ps v x, vs = [v] ∧ Own ps H ∧ rPlan.p x v (Rm ps H) ∧ Px x ∧ ∀ ts w H', Ex H H' → Nq x ts → ts.length ≤ 100 → (rL (rS_ K)).p ts w (Rm ps H') → Q w H'
theorem rev_mk {rows : List (List Str)} {es : List (Str × Str)} (ok : Mk' rows es) : Mk' rows.reverse [] where
  lv := ⟨fun z => ok.lv.some (List.reverse_eq_nil_iff.mp z), fun ws hw => ok.lv.names ws (List.mem_reverse.mp hw), (List.reverse_perm rows).flatten.nodup_iff.mpr ok.lv.once, by
    have := (List.reverse_perm rows).flatten.length_eq
    rw [many_flat, many_flat] at this
    rw [this]
    exact ok.lv.few⟩
  w18 := fun l hl => ok.w18 l (List.mem_reverse.mp hl)
  h12 := by rw [List.length_reverse]; exact ok.h12
  fit := fun e he => nomatch he
  nd := List.nodup_nil
  z := Nat.zero_le _
theorem last_get {rows : List (List Str)} {i : Nat} {row : List Str} (h : ((rows.drop (HT.sIx rows.length 0 none)).take (HT.sIx rows.length rows.length (some (-1)) - HT.sIx rows.length 0 none))[i]? = some row) : rows[i]? = some row ∧ i + 1 < rows.length := by
  have e1 : HT.sIx rows.length 0 none = 0 := rfl
  have e2 : HT.sIx rows.length rows.length (some (-1)) = rows.length - 1 := by
    unfold HT.sIx
    dsimp only
    rw [if_pos (by decide)]
    omega
  rw [e1, e2, List.drop_zero, Nat.sub_zero, List.getElem?_take] at h
  split at h
  · exact ⟨h, by omega⟩
  · cases h
theorem sc_law_moved_nodes : FnScope ["_law_plan_there", "_law_rows", "_law_lines_now", "_law_found", "_law_at", "_law_row", "_law_name", "_law_one", "_law_moved", "_law_other", "_law_spot", "_law_near"] ["_law_plan_there"] (defScope (topS 53)) := ⟨rfl, rfl, rfl, by decide +kernel, rfl, by decide +kernel, by decide +kernel⟩
theorem ok_law_moved_nodes (T : Tx K mg fd) : FnOk P w K mg base CX0 7 (He.ga K "_law_moved_nodes") (fd 27) ["_law_plan_there"] (spMoved K) := by
  obtain ⟨ds2, hr2, hb2⟩ := bi2 T
  refine (T.df 27 53 "_law_moved_nodes" rfl).ok sc_law_moved_nodes (fun vs H Q E h => ?len) (fun cdv A outer s H vs Q E hr h => ?body)
  case body =>
    refine ⟨_, (pss_cons (ps_asg (pv 0) (pg_tup rfl (pgs_cons (pg_name (i := 1) sc_law_moved_nodes.nd rfl (Or.inl rfl)) (pgs_cons (pg_name (i := 2) sc_law_moved_nodes.nd rfl (Or.inl rfl)) pgs_nil)))) (pss_cons (ps_set (i := 3) sc_law_moved_nodes.nd rfl (Or.inl rfl) (pe_lst pa_nil)) (pss_cons (ps_for PassesOwn.never rfl (pi_enumS (by rfl) (T.fr 50 "enumerate" rfl) (pa_cons (pe_slice sl_list (pv 1) po_none (po_some (pe_un un_neg pe_int))) pa_nil)) (pg_tup rfl (pgs_cons (pg_name (i := 4) sc_law_moved_nodes.nd rfl (Or.inr rfl)) (pgs_cons (pg_name (i := 5) sc_law_moved_nodes.nd rfl (Or.inl rfl)) pgs_nil))) (pss_one (ps_for PassesOwn.never rfl (pi_list (pv 5)) (pg_name (i := 6) sc_law_moved_nodes.nd rfl (Or.inr rfl)) (pss_one (ps_if (pt_not (pt_val (pe_callB (cr_any rfl) (by rfl) (T.fr 43 "any" rfl) (by decide +kernel) (pa_cons (pe_lc (own := [("_law_one", 7)]) (g := gName 7) rfl sc_law_moved_nodes.nd (pi_list (pv 2)) (blkOk_by (N := ["_law_plan_there", "_law_rows", "_law_lines_now", "_law_found", "_law_at", "_law_row", "_law_name", "_law_one", "_law_moved", "_law_other", "_law_spot", "_law_near"]) (sc := (defScope (topS 53))) (own := [("_law_one", 7)]) (by decide +kernel)) (fun _ _ _ _ _ => (pg_name (i := 7) sc_law_moved_nodes.nd rfl (Or.inl rfl))) (fun _ _ _ _ _ => pts_nil) (fun _ _ _ _ _ => (pe_cmpR (in_seqK (K := K) rfl) (pv 6) (pv 7) rfl))) pa_nil)))) (pss_cons (ps_setLc (i := 8) (own := [("_law_spot", 10), ("_law_near", 11)]) (g := gTup K 2 (gCons (gName 10) (gCons (gName 11) gNil))) rfl sc_law_moved_nodes.nd rfl rfl (sw_true rfl rfl rfl (by decide +kernel)) (pi_enumS (by rfl) (T.fr 50 "enumerate" rfl) (pa_cons (pv 1) pa_nil)) (blkOk_by (N := ["_law_plan_there", "_law_rows", "_law_lines_now", "_law_found", "_law_at", "_law_row", "_law_name", "_law_one", "_law_moved", "_law_other", "_law_spot", "_law_near"]) (sc := (defScope (topS 53))) (own := [("_law_spot", 10), ("_law_near", 11)]) (by decide +kernel)) (fun _ _ _ _ _ => (pg_tup rfl (pgs_cons (pg_name (i := 10) sc_law_moved_nodes.nd rfl (Or.inl rfl)) (pgs_cons (pg_name (i := 11) sc_law_moved_nodes.nd rfl (Or.inl rfl)) pgs_nil)))) (fun _ _ _ _ _ => pts_nil) (fun _ _ _ _ _ => (pe_op op_cat (pe_lc (own := [("_law_other", 9)]) (wi := iList K (tVar 11)) (g := gName 9) rfl sc_law_moved_nodes.nd (pi_list (pv 11)) (blkOk_by (N := ["_law_plan_there", "_law_rows", "_law_lines_now", "_law_found", "_law_at", "_law_row", "_law_name", "_law_one", "_law_moved", "_law_other", "_law_spot", "_law_near"]) (sc := { kind := .function, names := [(".0", .local), ("_law_spot", .local), ("_law_near", .local), ("int", .globalImplicit), ("_law_at", .cell), ("_law_name", .cell)], isGenerator := false, isCoroutine := false }) (own := [("_law_other", 9)]) (by decide +kernel)) (fun _ _ _ _ _ => (pg_name (i := 9) sc_law_moved_nodes.nd rfl (Or.inl rfl))) (fun _ _ _ _ _ => (pts_one (pt_cmpR op_ne (pv 9) (pv 6) (nomark _)))) (fun _ _ _ _ _ => (pv 9))) (pe_op op_rep (pe_lst (pa_cons (pv 6) pa_nil)) (pe_callTy call_int1 (by rfl) (T.fr 35 "int" rfl) (by decide +kernel) (pa_cons (pe_cmpR op_eq (pv 10) (pe_op op_add (pv 4) pe_int) (nomark _)) pa_nil)))))) (pss_one (ps_expr (pe_bm PySem.F.plainAttrs_list PySem.F.slot_list_append PySem.F.type_list_append mt_append (pv 3) (pa_cons (pe_make T.mkr (ok_sh_init T) (hr.mono (by decide)) (by rfl) (T.gl 33 "Sheet" rfl) (bi3 T) .nil pass0 (pa_cons (pv 8) (pa_cons (pv 2) pa_nil))) pa_nil))))) pss_nil))))) (pss_cons (ps_if (PW.pt (pw_and (pt_cmpR (op_eqD hr.units) (pv 2) (pe_lst pa_nil) (nomark _)) (pw_and1 (pt_cmpR (op_neD hr.units) (pe_lc (own := [("_law_row", 5)]) (g := gName 5) rfl sc_law_moved_nodes.nd (pi_list (pv 1)) (blkOk_by (N := ["_law_plan_there", "_law_rows", "_law_lines_now", "_law_found", "_law_at", "_law_row", "_law_name", "_law_one", "_law_moved", "_law_other", "_law_spot", "_law_near"]) (sc := (defScope (topS 53))) (own := [("_law_row", 5)]) (by decide +kernel)) (fun _ _ _ _ _ => (pg_name (i := 5) sc_law_moved_nodes.nd rfl (Or.inl rfl))) (fun _ _ _ _ _ => pts_nil) (fun _ _ _ _ _ => (pe_callB (r := rSortedS K) cr_sortedS (by rfl) (T.fr 51 "sorted" rfl) (by decide +kernel) (pa_cons (pv 5) pa_nil)))) (pe_lc (own := [("_law_row", 5)]) (g := gName 5) rfl sc_law_moved_nodes.nd (pi_list (pe_revL (pv 1))) (blkOk_by (N := ["_law_plan_there", "_law_rows", "_law_lines_now", "_law_found", "_law_at", "_law_row", "_law_name", "_law_one", "_law_moved", "_law_other", "_law_spot", "_law_near"]) (sc := (defScope (topS 53))) (own := [("_law_row", 5)]) (by decide +kernel)) (fun _ _ _ _ _ => (pg_name (i := 5) sc_law_moved_nodes.nd rfl (Or.inl rfl))) (fun _ _ _ _ _ => pts_nil) (fun _ _ _ _ _ => (pe_callB (r := rSortedS K) cr_sortedS (by rfl) (T.fr 51 "sorted" rfl) (by decide +kernel) (pa_cons (pv 5) pa_nil)))) (nomark _))))) (pss_one (ps_expr (pe_bm PySem.F.plainAttrs_list PySem.F.slot_list_append PySem.F.type_list_append mt_append (pv 3) (pa_cons (pe_make T.mkr (ok_sh_init T) (hr.mono (by decide)) (by rfl) (T.gl 33 "Sheet" rfl) hb2 hr2 pass0 (pa_cons (pe_revL (pv 1)) pa_nil)) pa_nil)))) pss_nil) (pss_one (ps_ret (pv 3))))))), ?_⟩
    obtain ⟨ps, v, x, rfl, o, r, px, q⟩ := h
    have hmk := px.mk'
    have h6 := px.h6
    have hm14 := px.m14
    obtain ⟨a0, vr, vl, rfl, h2, rr, rl⟩ := r
    refine ⟨.ref a0, rfl, a0, _, rfl, st_of (Rm_ex _ _ h2), rfl, _, _, rfl, _, _, rfl, rfl, ?_⟩
    dsimp only at rr rl ⊢
    refine q_new (R := rS_ K) o fun p1 H1 e1 np hp o1 x1 l1 => ?_
    have rr1 := (rL (rL rS)).m x1 rr
    have rl1 := (rL rE).m x1 rl
    have okl : ∀ e ∈ x.2, okS e.1 ∧ okS e.2 := fun e he => sok_lines hmk.sok e (mem_srtT.mpr he)
    have nm : ∀ l ∈ x.1, ∀ z ∈ l, okS z := fun l hl z hz => isN_strOk (hmk.lv.names l hl z hz)
    refine q_forW o1 (wk_enum (er_toQ (er_sl (er_var (i := 1) rfl rr1) eo_none (eo_some (fun H1 e Q q => ⟨1, rfl, q H1 (Ex.refl _)⟩))))) (fun i σ' H' => (∃ o4 o5 o6 o8, σ' = [some (.ref a0), some vr, some vl, some (.ref p1), o4, o5, o6, none, o8, none, none, none]) ∧ (∃ ts, Ls (rS_ K) (p1 :: ps) H' p1 ts ∧ Nq x ts ∧ ts.length ≤ 6 * i) ∧ Ex H H') (fun H2 e2 => ⟨⟨none, none, none, none, rfl⟩, ⟨[], l1.ex e2, (fun t ht => nomatch ht), Nat.le_refl _⟩, e1.trans e2⟩) (fun _ _ _ _ e p => let ⟨h1, ⟨ts, h2, h3⟩, h4⟩ := p; ⟨h1, ⟨ts, h2.ex e, h3⟩, h4.trans e⟩) (fun H2 e2 i y u σ' H3 hy f3 f13 pv ru => ?_) fun σ' H2 f2 pv => ?_
    · obtain ⟨⟨o4, o5, o6, o8, rfl⟩, ⟨ts, l3, n3, t3⟩, eH⟩ := pv
      obtain ⟨a, y1, y2, rfl, g2, g3, g4⟩ := ru
      obtain ⟨hy1, hy2⟩ := List.getElem?_zip_eq_some.mp hy
      have hyi : y.1 = i := by
        have hlt := (List.getElem?_eq_some_iff.mp hy1).1
        rw [List.length_range] at hlt
        rw [List.getElem?_range hlt] at hy1
        exact (Option.some.inj hy1).symm
      obtain ⟨y, row⟩ := y
      dsimp only at hyi hy1 hy2 g3 g4
      subst hyi
      obtain ⟨hrow, hlast⟩ := last_get hy2
      have hrm := List.mem_of_getElem? hrow
      have hr6 := px.w6 row hrm
      refine ⟨a, _, rfl, st_of (Rm_ex _ _ g2), rfl, _, _, rfl, _, _, rfl, rfl, ?_⟩
      dsimp only
      refine s_forW f13.1 (wk_list (er_var (i := 5) rfl g4)) (fun j σ' H' => (∃ o6 o8, σ' = [some (.ref a0), some vr, some vl, some (.ref p1), some y1, some y2, o6, none, o8, none, none, none]) ∧ (∃ ts, Ls (rS_ K) (p1 :: ps) H' p1 ts ∧ Nq x ts ∧ ts.length ≤ 6 * y + j) ∧ Ex H H') (fun H4 e4 => ⟨⟨_, _, rfl⟩, ⟨ts, l3.ex e4, n3, t3⟩, eH.trans e4⟩) (fun _ _ _ _ e p => let ⟨h1, ⟨ts, h2, h3⟩, h4⟩ := p; ⟨h1, ⟨ts, h2.ex e, h3⟩, h4.trans e⟩) (fun H4 e4 j z u σ' H5 hz f5 f35 pv ru => ?_) fun σ' H4 f4 pv => ?_
      · obtain ⟨⟨o6, o8, rfl⟩, ⟨ts, l5, n5, t5⟩, e5⟩ := pv
        obtain rfl : u = .str z := ru
        have hzm := List.mem_of_getElem? hz
        have hjl := (List.getElem?_eq_some_iff.mp hz).1
        have f15 := f13.trans f35
        have rr5 := (rL (rL rS)).m f15.2 rr1
        have rl5 := (rL rE).m f15.2 rl1
        have g35 := rN.m f35.2 g3
        refine s_whenR f15.1 (b := !((x.2.map fun e => decide (z ∈ [e.1, e.2])).any id)) (et_not' (et_B' (er_any (er_lc1 (R := rE) (S := rB) (fun e => decide (z ∈ [e.1, e.2])) (wk_list (er_var (i := 2) rfl rl5)) (by omega) (fun _ => rfl) fun e he qs v6 H6 e6 o6 x6 r6 => er_inQ (er_var (i := 6) (v := .str z) rfl rfl) (er_impG (R := rE) (a := e) (er_var (i := 7) rfl r6) fun _ _ r => rE_q r))))) (fun hb H6 e6 => ?_) fun _ H6 e6 => ⟨f5.ex e6, ⟨_, _, rfl⟩, ⟨ts, l5.ex e6, n5, by omega⟩, e5.trans e6⟩
        rw [Bool.not_eq_true', Bool.eq_false_iff] at hb
        have hne : ∀ e ∈ x.2, e.1 ≠ z ∧ e.2 ≠ z := fun e he => by
          have h1 : ¬ z ∈ [e.1, e.2] := fun hm => hb (by
            rw [List.any_map, List.any_eq_true]
            exact ⟨e, he, decide_eq_true hm⟩)
          exact ⟨fun h => h1 (by rw [h]; exact List.mem_cons_self ..), fun h => h1 (by rw [h]; exact List.mem_cons_of_mem _ (List.mem_cons_self ..))⟩
        have o6' := f15.1.ex e6
        have rr6 := (rL (rL rS)).m (Rm_mono e6) rr5
        have rl6 := (rL rE).m (Rm_mono e6) rl5
        have g36 := rN.m (Rm_mono e6) g35
        have mmk := mvd_mk hmk px.h6 px.w6 hrow hzm hne
        refine q_asgR' o6' (er_is (a' := mvd z y x.1) (er_lc2 (R := rN) (S := rL rS) (T := rL rS) (mvRow z y) (wk_enum (er_toQ (er_var (i := 1) rfl rr6))) (by rw [List.length_zip, List.length_range, Nat.min_self]; omega) (fun _ _ => rfl) fun w hw qs v7 w7 H7 e7 o7 x7 r7 s7 => ?_) rfl) fun vm H7 e7 rm => ?_
        · have hwm := px.w6 w.2 (List.of_mem_zip hw).2
          refine er_cat (as := w.2.filter fun q => !decide (q = z)) (er_is (er_lc1F (R := rS) (S := rS) id (fun q => !decide (q = z)) (wk_list (er_var (i := 11) rfl s7)) (by omega) (fun _ => rfl) (fun q hq qs v8 H8 e8 o8 x8 r8 => ?_) fun q hq _ qs v8 H8 e8 o8 x8 r8 => er_var rfl r8) (List.map_id _)) (er_rep (R := rS) (as := [z]) (er_lst (eas_cons (er_var (i := 6) (v := .str z) rfl rfl) eas_nil) (by show 1 ≤ 100000; decide)) (er_intB (er_B (ev_is (ev_op (ev_I o7 (er_N (er_var (i := 10) rfl r7))) (ev_op (ev_I o7 (er_N (er_var (i := 4) rfl (rN.m x7 g36)))) ev_c rv_I0) (rv_eq rfl)) (congrArg V.bl (decide_eq_decide.mpr ⟨fun h => by injection h with h; omega, fun h => by rw [h]; rfl⟩))))) (by split <;> decide) (by show 1 ≤ 10; decide)) ?_
          · obtain rfl : v8 = .str q := r8
            refine et_is' (et_test' (er_B (ev_op (ev_var (v := .str q) rfl) (ev_var (i := 6) (v := .str z) rfl) (rv_ne rfl)))) ?_
            congr 1
            exact decide_eq_decide.mpr ⟨fun h => by injection h, fun h => by rw [h]⟩
          · have h1 := List.length_filter_le (fun q => !decide (q = z)) w.2
            have h2 : ((List.replicate (if decide (w.1 = y + 1) = true then 1 else 0) [z]).flatten).length ≤ 1 := by split <;> simp
            omega
        have l7 := (l5.ex e6).ex e7
        have rl7 := (rL rE).m (Rm_mono e7) rl6
        have o7' := o6'.ex e7
        refine s_appR o7' l7 (ev_var (i := 3) rfl) (er_make (er_var (i := 8) rfl rm) (er_var (i := 2) rfl rl7) mmk) (by omega) fun H8 f8 l8 ot8 => ?_
        exact ⟨((f5.ex e6).ex e7).trans f8, ⟨_, _, rfl⟩, ⟨_, l8, n5.snoc mmk.sok (mvd_ne hrow hzm), by rw [List.length_append, List.length_singleton]; omega⟩, Oth.back ((e5.trans e6).trans e7) ot8 hp⟩
      · obtain ⟨⟨o6, o8, rfl⟩, ⟨ts, l4, n4, t4⟩, e4⟩ := pv
        exact ⟨f3.trans f4, ⟨_, _, _, _, rfl⟩, ⟨ts, l4, n4, by omega⟩, e4⟩
    obtain ⟨⟨o4, o5, o6, o8, rfl⟩, ⟨ts, l2, n2, t2⟩, e2⟩ := pv
    have ht : ts.length ≤ 40 := by
      have hlt : ((List.range ((x.1.drop (HT.sIx x.1.length 0 none)).take (HT.sIx x.1.length x.1.length (some (-1)) - HT.sIx x.1.length 0 none)).length).zip ((x.1.drop (HT.sIx x.1.length 0 none)).take (HT.sIx x.1.length x.1.length (some (-1)) - HT.sIx x.1.length 0 none))).length ≤ 6 := by
        rw [List.length_zip, List.length_range, Nat.min_self, List.length_take, List.length_drop]
        omega
      omega
    have rr2 := (rL (rL rS)).m f2.2 rr1
    have rl2 := (rL rE).m f2.2 rl1
    have o2 := f2.1
    have oks : ∀ l ∈ x.1.map srtS, ∀ z ∈ l, okS z := fun l hl z hz => by
      obtain ⟨m, hm, rfl⟩ := List.mem_map.mp hl
      exact nm m hm z (mem_srtS.mp hz)
    have oks2 : ∀ l ∈ x.1.reverse.map srtS, ∀ z ∈ l, okS z := fun l hl z hz => by
      obtain ⟨m, hm, rfl⟩ := List.mem_map.mp hl
      exact nm m (List.mem_reverse.mp hm) z (mem_srtS.mp hz)
    refine q_whenR o2 (b := decide (x.2 = []) && !decide (x.1.map srtS = x.1.reverse.map srtS)) (et_and' (et_test' (er_eqD (dtL (dtP dtS dtS)) (by decide) (er_var (i := 2) rfl rl2) (er_lst (R := rE) eas_nil (by decide)) okl (fun _ h => nomatch h))) fun _ => et_test' (er_neD (dtL (dtL dtS)) (by decide) (er_lc1 (R := rL rS) (S := rL rS) srtS (wk_list (er_var (i := 1) rfl rr2)) (by omega) (fun _ => rfl) fun l hl qs v1 H1 _ _ _ r1 => er_sortedS (er_var (i := 5) rfl r1) (by have := hmk.w18 l hl; omega)) (er_lc1 (R := rL rS) (S := rL rS) srtS (wk_list (er_rev (er_var (i := 1) rfl rr2))) (by rw [List.length_reverse]; omega) (fun _ => rfl) fun l hl qs v1 H1 _ _ _ r1 => er_sortedS (er_var (i := 5) rfl r1) (by have := hmk.w18 l (List.mem_reverse.mp hl); omega)) oks oks2)) (fun hb H3 e3 => ?_) fun _ H3 e3 => s_ret (ev_var (i := 3) rfl) fun H4 e4 => q ts _ H4 ((e2.trans e3).trans e4) n2 (by omega) (((l2.ex e3).ex e4).rep np)
    rw [Bool.and_eq_true, Bool.not_eq_true', decide_eq_true_eq, decide_eq_false_iff_not] at hb
    refine q_appR (o2.ex e3) (l2.ex e3) (ev_var (i := 3) rfl) (er_make1 T.emp (er_rev (er_var (i := 1) rfl ((rL (rL rS)).m (Rm_mono e3) rr2))) (rev_mk hmk)) (by omega) fun H4 f4 l4 ot4 => ?_
    exact s_ret (ev_var (i := 3) rfl) fun H5 e5 => q _ _ H5 ((Oth.back (e2.trans e3) ot4 hp).trans e5) (n2.snoc (rev_mk hmk).sok fun h => hb.2 (congrArg Prod.fst h).symm) (by rw [List.length_append, List.length_singleton]; omega) ((l4.ex e5).rep np)
  case len =>
    obtain ⟨ps, v, x, rfl, _⟩ := h
    rfl
end
end K12
set_option Elab.async false
set_option linter.all false
set_option maxRecDepth 100000
set_option maxHeartbeats 4000000
namespace K12
open PySem PySem.Spec PyProof.Rows L2 Evl Gen RP ItX
section
variable {P : Program} {w : World} {K : PySem.W.Frag} {mg : Str → Option Value} {base : Heap} {fd : Nat → FuncData}
theorem q_whenK {ps : List Addr} {σ : L2.St} {H : Hp} {t : TT} {tu tz : TS} {D : Ends} {b : Bool} {M : Hp → Prop} (o : Own ps H) (h : EtR ps t σ H b) (h1 : b = true → ∀ H1, Ex H H1 → ∀ D' : Ends, (∀ H', M H' → D'.nx σ H') → tu D' σ H1) (h2 : b = false → ∀ H1, Ex H H1 → M H1) (k : ∀ H', M H' → tz D σ H') : tSeq (tIfS t tu tNext) tz D σ H := q_whenR o h (fun hb H1 e1 => h1 hb H1 e1 _ k) fun hb H1 e1 => k H1 (h2 hb H1 e1)
theorem q_ownL {α : Type} {R : Rp α} {ps : List Addr} {σ : L2.St} {H : Hp} {tr : TA} {as : List α} {i : Nat} {tz : TS} {D : Ends} (o : Own ps H) (h : EaR R ps tr σ H as) (hl : as.length ≤ 100000) (k : ∀ p H1, Ex H H1 → p ∉ ps → H p = none → Ls R (p :: ps) H1 p as → tz D (σ.set i (some (.ref p))) H1) : tSeq (tAsg (tLst tr) (gName i)) tz D σ H := h H (Ex.refl H) o _ fun vs H2 e2 rs => ⟨sz_of (by rw [← rs.len]; exact hl), fun p hp => by
  have o2 := o.ex e2
  have e3 : Ex (Rm ps H2) (Rm (p :: ps) (upd H2 p (.lst vs))) := (new_own (ob := .lst vs) o2 hp).2
  exact k p _ (e2.trans (Ex.new hp)) (o2.nin hp) (none_of e2 hp) ⟨List.mem_cons_self .., vs, upd_same, rs.imp fun _ _ r => R.m e3 r⟩⟩
/-! ### sheets that differ by one thing -/
theorem isN_qq : isN (.str ("qq" : Str)) = true := by decide +kernel
def qqF (y : Nat × List Str) : List Str := if y.1 = 0 then y.2 ++ [("qq" : Str)] else y.2
def qqR (rows : List (List Str)) : List (List Str) := ((List.range rows.length).zip rows).map qqF
theorem qq_cons (r : List Str) (s : List (List Str)) : qqR (r :: s) = (r ++ [("qq" : Str)]) :: s := by
  refine List.ext_getElem? fun i => ?_
  unfold qqR
  rw [List.getElem?_map]
  by_cases h : i < (r :: s).length
  · have hi : (r :: s)[i]? = some (r :: s)[i] := List.getElem?_eq_getElem h
    rw [zip_range_get hi]
    cases i with
    | zero => rfl
    | succ i =>
      show some (qqF (i + 1, (r :: s)[i + 1])) = ((r ++ [("qq" : Str)]) :: s)[i + 1]?
      unfold qqF
      rw [if_neg (by omega)]
      rw [List.getElem?_cons_succ]
      exact hi.symm
  · rw [List.getElem?_eq_none (by rw [List.length_zip, List.length_range, Nat.min_self]; omega), List.getElem?_eq_none (by simp at h ⊢; omega)]
    rfl
theorem qq_mk {s : Sht} {x : List (List Str) × List (Str × Str)} (pk : Pk s x) : Mk' (qqR x.1) x.2 ∧ mkS (qqR x.1) x.2 ≠ mkS x.1 x.2 := by
  have ok := pk.mk'
  have hw := pk.w6
  have h6 := pk.h6
  have hq : ("qq" : Str) ∉ x.1.flatten := fun h => qq_pool (pk.pool _ h)
  obtain ⟨rows, es⟩ := x
  dsimp only at *
  cases rows with
  | nil => exact absurd rfl ok.lv.some
  | cons r s =>
    rw [qq_cons]
    have hfl : ((r ++ [("qq" : Str)]) :: s).flatten = r ++ (("qq" : Str) :: s.flatten) := by rw [List.flatten_cons, List.append_assoc]; rfl
    have hfl0 : (r :: s).flatten = r ++ s.flatten := rfl
    have hpm : ((r ++ [("qq" : Str)]) :: s).flatten.Perm (("qq" : Str) :: (r :: s).flatten) := by
      rw [hfl, hfl0]
      exact List.perm_middle
    refine ⟨⟨⟨(fun z => nomatch z), fun m hm w hw' => ?_, hpm.nodup_iff.mpr (List.nodup_cons.mpr ⟨hq, ok.lv.once⟩), ?_⟩, fun m hm => ?_, ok.h12, fun e he => ?_, ok.nd, ok.z⟩, fun h => ?_⟩
    · have hm2 := hpm.mem_iff.mp (List.mem_flatten.mpr ⟨m, hm, hw'⟩)
      rcases List.mem_cons.mp hm2 with rfl | h
      · exact isN_qq
      · obtain ⟨l, hl, hwl⟩ := List.mem_flatten.mp h
        exact ok.lv.names l hl w hwl
    · have h1 := hpm.length_eq
      rw [many_flat, List.length_cons, many_flat] at h1
      have h2 : many (r :: s) ≤ 6 * 6 := by
        rw [← many_flat]
        have gen : ∀ ls : List (List Str), (∀ m ∈ ls, m.length ≤ 6) → ls.flatten.length ≤ ls.length * 6 := fun ls => by
          induction ls with
          | nil => intro _; exact Nat.zero_le _
          | cons m r ih =>
            intro h
            have h1 := h m (List.mem_cons_self ..)
            have h2 := ih fun x hx => h x (List.mem_cons_of_mem _ hx)
            rw [List.flatten_cons, List.length_append, List.length_cons]
            omega
        have := gen _ hw
        omega
      omega
    · rcases List.mem_cons.mp hm with rfl | h
      · have := hw r (List.mem_cons_self ..)
        rw [List.length_append, List.length_singleton]
        omega
      · have := hw m (List.mem_cons_of_mem _ h)
        omega
    · obtain ⟨i, a, b, g1, g2, g3, g4⟩ := ok.fit e he
      cases i with
      | zero =>
        cases g1
        exact ⟨0, r ++ [("qq" : Str)], b, rfl, g2, List.mem_append_left _ g3, g4⟩
      | succ i => exact ⟨i + 1, a, b, g1, g2, g3, g4⟩
    · have h1 : ((r ++ [("qq" : Str)]) :: s).map srtS = (r :: s).map srtS := congrArg Prod.fst h
      have h2 : srtS (r ++ [("qq" : Str)]) = srtS r := by
        rw [List.map_cons, List.map_cons] at h1
        injection h1
      have h3 : ("qq" : Str) ∈ srtS r := by rw [← h2]; exact mem_srtS.mpr (List.mem_append_right _ (List.mem_cons_self ..))
      exact hq (List.mem_append_left _ (mem_srtS.mp h3))
theorem up_mk {s : Sht} {x : List (List Str) × List (Str × Str)} (pk : Pk s x) : Mk' (x.1 ++ [[]]) x.2 ∧ mkS (x.1 ++ [[]]) x.2 ≠ mkS x.1 x.2 := by
  have ok := pk.mk'
  have h6 := pk.h6
  have hfl : (x.1 ++ [[]]).flatten = x.1.flatten := by rw [List.flatten_append]; exact List.append_nil _
  refine ⟨⟨⟨fun z => by simp at z, fun m hm w hw => ?_, by rw [hfl]; exact ok.lv.once, by rw [← many_flat, hfl, many_flat]; exact ok.lv.few⟩, fun m hm => ?_, by rw [List.length_append, List.length_singleton]; omega, fun e he => ?_, ok.nd, ok.z⟩, fun h => ?_⟩
  · rcases List.mem_append.mp hm with h | h
    · exact ok.lv.names m h w hw
    · rw [List.mem_singleton.mp h] at hw
      cases hw
  · rcases List.mem_append.mp hm with h | h
    · exact ok.w18 m h
    · rw [List.mem_singleton.mp h]
      exact Nat.zero_le _
  · obtain ⟨i, a, b, g1, g2, g3, g4⟩ := ok.fit e he
    exact ⟨i, a, b, by rw [List.getElem?_append_left (List.getElem?_eq_some_iff.mp g1).1]; exact g1, by rw [List.getElem?_append_left (List.getElem?_eq_some_iff.mp g2).1]; exact g2, g3, g4⟩
  · have h1 := congrArg (fun t : Sht => t.1.length) h
    have h2 : ((x.1 ++ [[]]).map srtS).length = (x.1.map srtS).length := h1
    rw [List.length_map, List.length_map, List.length_append, List.length_singleton] at h2
    omega
theorem dn_mk {s : Sht} {x : List (List Str) × List (Str × Str)} (pk : Pk s x) : Mk' ([[]] ++ x.1) x.2 ∧ mkS ([[]] ++ x.1) x.2 ≠ mkS x.1 x.2 := by
  have ok := pk.mk'
  have h6 := pk.h6
  have hfl : ([[]] ++ x.1).flatten = x.1.flatten := rfl
  refine ⟨⟨⟨fun z => by simp at z, fun m hm w hw => ?_, by rw [hfl]; exact ok.lv.once, by rw [← many_flat, hfl, many_flat]; exact ok.lv.few⟩, fun m hm => ?_, by rw [List.length_append, List.length_singleton]; omega, fun e he => ?_, ok.nd, ok.z⟩, fun h => ?_⟩
  · rcases List.mem_append.mp hm with h | h
    · rw [List.mem_singleton.mp h] at hw
      cases hw
    · exact ok.lv.names m h w hw
  · rcases List.mem_append.mp hm with h | h
    · rw [List.mem_singleton.mp h]
      exact Nat.zero_le _
    · exact ok.w18 m h
  · obtain ⟨i, a, b, g1, g2, g3, g4⟩ := ok.fit e he
    exact ⟨i + 1, a, b, g1, g2, g3, g4⟩
  · have h1 := congrArg (fun t : Sht => t.1.length) h
    have h2 : (([[]] ++ x.1).map srtS).length = (x.1.map srtS).length := h1
    rw [List.length_map, List.length_map, List.length_append, List.length_singleton] at h2
    omega
theorem less_mk {s : Sht} {x : List (List Str) × List (Str × Str)} (pk : Pk s x) (h : x.2 ≠ []) : Mk' x.1 (x.2.drop 1) ∧ mkS x.1 (x.2.drop 1) ≠ mkS x.1 x.2 := by
  have ok := pk.mk'
  refine ⟨⟨ok.lv, ok.w18, ok.h12, fun e he => ok.fit e (List.mem_of_mem_drop he), List.Sublist.nodup (List.drop_sublist ..) ok.nd, by rw [List.length_drop]; have := ok.z; omega⟩, fun hh => ?_⟩
  have h1 := congrArg (fun t : Sht => t.2.length) hh
  have h2 : (srtT (x.2.drop 1)).length = (srtT x.2).length := h1
  rw [(srtT_perm _).length_eq, (srtT_perm _).length_eq, List.length_drop] at h2
  have := List.length_pos_iff.mpr h
  omega
def moreL (x : List (List Str) × List (Str × Str)) : List (Str × Str) := (allL x.1).filter fun e => !decide (e ∈ x.2)
theorem more_mk {s : Sht} {x : List (List Str) × List (Str × Str)} (pk : Pk s x) (h : moreL x ≠ []) : Mk' x.1 (x.2 ++ (moreL x).take 1) ∧ mkS x.1 (x.2 ++ (moreL x).take 1) ≠ mkS x.1 x.2 := by
  have ok := pk.mk'
  have h14 := pk.m14
  obtain ⟨e, r, her⟩ := List.exists_cons_of_ne_nil h
  have ht : (moreL x).take 1 = [e] := by rw [her]; rfl
  have hm : e ∈ moreL x := by rw [her]; exact List.mem_cons_self ..
  have hm2 := List.mem_filter.mp hm
  have hne : e ∉ x.2 := fun hh => by
    have := hm2.2
    rw [decide_eq_true hh] at this
    cases this
  rw [ht]
  refine ⟨⟨ok.lv, ok.w18, ok.h12, fun f hf => ?_, List.nodup_append.mpr ⟨ok.nd, by simp, fun a ha b hb z => hne (by rw [← List.mem_singleton.mp hb, ← z]; exact ha)⟩, by rw [List.length_append, List.length_singleton]; omega⟩, fun hh => ?_⟩
  · rcases List.mem_append.mp hf with hf | hf
    · exact ok.fit f hf
    · rw [List.mem_singleton.mp hf]
      exact allL_fit hm2.1
  · have h1 := congrArg (fun t : Sht => t.2.length) hh
    have h2 : (srtT (x.2 ++ [e])).length = (srtT x.2).length := h1
    rw [(srtT_perm _).length_eq, (srtT_perm _).length_eq, List.length_append, List.length_singleton] at h2
    omega
theorem sc_law_unlike_right : FnScope ["_law_tome", "_law_plan_there", "_law_rows", "_law_lines_now", "_law_near", "_law_at", "_law_row", "_law_more", "_law_one"] ["_law_tome", "_law_plan_there"] (defScope (topS 54)) := ⟨rfl, rfl, rfl, by decide +kernel, rfl, by decide +kernel, by decide +kernel⟩
theorem ok_law_unlike_right (T : Tx K mg fd) : FnOkG P w K mg base CX0 9 (He.ga K "_law_unlike_right") (fd 28) ["_law_tome", "_law_plan_there"] (Sp2 (rS_ K) rPlan rB (fun _ _ => true) Pk) := by
  refine (T.df 28 54 "_law_unlike_right" rfl).okG sc_law_unlike_right (fun vs H Q E h => ?len) (fun cdv A outer s H vs Q E hG hr h => ?body)
  case body =>
    refine ⟨_, (pss_cons (ps_asg (pv 1) (pg_tup rfl (pgs_cons (pg_name (i := 2) sc_law_unlike_right.nd rfl (Or.inl rfl)) (pgs_cons (pg_name (i := 3) sc_law_unlike_right.nd rfl (Or.inr rfl)) pgs_nil)))) (pss_cons (ps_set (i := 4) sc_law_unlike_right.nd rfl (Or.inl rfl) (pe_lst (pa_cons (pe_make T.mkr (ok_sh_init T) (hr.mono (by decide)) (by rfl) (T.gl 33 "Sheet" rfl) (bi3 T) .nil pass0 (pa_cons (pe_lc (own := [("_law_at", 5), ("_law_row", 6)]) (g := gTup K 2 (gCons (gName 5) (gCons (gName 6) gNil))) rfl sc_law_unlike_right.nd (pi_enumS (by rfl) (T.fr 50 "enumerate" rfl) (pa_cons (pv 2) pa_nil)) (blkOk_by (N := ["_law_tome", "_law_plan_there", "_law_rows", "_law_lines_now", "_law_near", "_law_at", "_law_row", "_law_more", "_law_one"]) (sc := (defScope (topS 54))) (own := [("_law_at", 5), ("_law_row", 6)]) (by decide +kernel)) (fun _ _ _ _ _ => (pg_tup rfl (pgs_cons (pg_name (i := 5) sc_law_unlike_right.nd rfl (Or.inl rfl)) (pgs_cons (pg_name (i := 6) sc_law_unlike_right.nd rfl (Or.inl rfl)) pgs_nil)))) (fun _ _ _ _ _ => pts_nil) (fun _ _ _ _ _ => (pe_ifExp (pt_cmpR op_eq (pv 5) pe_int (nomark _)) (pe_op op_cat (pv 6) (pe_lst (pa_cons pe_str pa_nil))) (pv 6)))) (pa_cons (pv 3) pa_nil))) pa_nil))) (pss_cons (ps_expr (pe_bm PySem.F.plainAttrs_list PySem.F.slot_list_append PySem.F.type_list_append mt_append (pv 4) (pa_cons (pe_make T.mkr (ok_sh_init T) (hr.mono (by decide)) (by rfl) (T.gl 33 "Sheet" rfl) (bi3 T) .nil pass0 (pa_cons (pe_op op_cat (pv 2) (pe_lst (pa_cons (pe_lst pa_nil) pa_nil))) (pa_cons (pv 3) pa_nil))) pa_nil))) (pss_cons (ps_expr (pe_bm PySem.F.plainAttrs_list PySem.F.slot_list_append PySem.F.type_list_append mt_append (pv 4) (pa_cons (pe_make T.mkr (ok_sh_init T) (hr.mono (by decide)) (by rfl) (T.gl 33 "Sheet" rfl) (bi3 T) .nil pass0 (pa_cons (pe_op op_cat (pe_lst (pa_cons (pe_lst pa_nil) pa_nil)) (pv 2)) (pa_cons (pv 3) pa_nil))) pa_nil))) (pss_cons (ps_if (pt_cmpR (op_neD hr.units) (pv 3) (pe_lst pa_nil) (nomark _)) (pss_one (ps_expr (pe_bm PySem.F.plainAttrs_list PySem.F.slot_list_append PySem.F.type_list_append mt_append (pv 4) (pa_cons (pe_make T.mkr (ok_sh_init T) (hr.mono (by decide)) (by rfl) (T.gl 33 "Sheet" rfl) (bi3 T) .nil pass0 (pa_cons (pv 2) (pa_cons (pe_slice sl_list (pv 3) (po_some pe_int) po_none) pa_nil))) pa_nil)))) pss_nil) (pss_cons (ps_setLc (i := 7) (own := [("_law_one", 8)]) (g := gName 8) rfl sc_law_unlike_right.nd rfl rfl (sw_true rfl rfl rfl (by decide +kernel)) (pi_list (pe_call (ok_law_all_lines T) (hr.mono (by decide)) (by rfl) (T.gl 19 "_law_all_lines" rfl) (T.df 17 43 "_law_all_lines" rfl).kp ((T.df 17 43 "_law_all_lines" rfl).binds (ps := ["_law_rows"]) fun _ _ _ _ _ _ us hl => match us, hl with | [_], _ => rfl) .nil pass0 (pa_cons (pv 2) pa_nil))) (blkOk_by (N := ["_law_tome", "_law_plan_there", "_law_rows", "_law_lines_now", "_law_near", "_law_at", "_law_row", "_law_more", "_law_one"]) (sc := (defScope (topS 54))) (own := [("_law_one", 8)]) (by decide +kernel)) (fun _ _ _ _ _ => (pg_name (i := 8) sc_law_unlike_right.nd rfl (Or.inl rfl))) (fun _ _ _ _ _ => (pts_one (pt_cmpR (notInDK (K := K) rfl (u65 hr)) (pv 8) (pv 3) rfl))) (fun _ _ _ _ _ => (pv 8))) (pss_cons (ps_if (pt_cmpR (op_neD hr.units) (pv 7) (pe_lst pa_nil) (nomark _)) (pss_one (ps_expr (pe_bm PySem.F.plainAttrs_list PySem.F.slot_list_append PySem.F.type_list_append mt_append (pv 4) (pa_cons (pe_make T.mkr (ok_sh_init T) (hr.mono (by decide)) (by rfl) (T.gl 33 "Sheet" rfl) (bi3 T) .nil pass0 (pa_cons (pv 2) (pa_cons (pe_op op_cat (pv 3) (pe_slice sl_list (pv 7) po_none (po_some pe_int))) pa_nil))) pa_nil)))) pss_nil) (pss_cons (ps_expr (pe_bm PySem.F.plainAttrs_list PySem.F.slot_list_extend PySem.F.type_list_extend mt_extend (pv 4) (pa_cons (pe_call (ok_law_moved_nodes T) (hr.mono (by decide)) (by rfl) (T.gl 29 "_law_moved_nodes" rfl) (T.df 27 53 "_law_moved_nodes" rfl).kp ((T.df 27 53 "_law_moved_nodes" rfl).binds (ps := ["_law_plan_there"]) fun _ _ _ _ _ _ us hl => match us, hl with | [_], _ => rfl) .nil pass0 (pa_cons (pv 1) pa_nil)) pa_nil))) (pss_cons (ps_if (PW.pt (pw_or (pt_val (pe_callB (cr_any rfl) (by rfl) (T.fr 43 "any" rfl) (by decide +kernel) (pa_cons (pe_lc (own := [("_law_one", 8)]) (g := gName 8) rfl sc_law_unlike_right.nd (pi_list (pv 4)) (blkOk_by (N := ["_law_tome", "_law_plan_there", "_law_rows", "_law_lines_now", "_law_near", "_law_at", "_law_row", "_law_more", "_law_one"]) (sc := (defScope (topS 54))) (own := [("_law_one", 8)]) (by decide +kernel)) (fun _ _ _ _ _ => (pg_name (i := 8) sc_law_unlike_right.nd rfl (Or.inl rfl))) (fun _ _ _ _ _ => pts_nil) (fun _ _ _ _ _ => (pe_cmpR (op_ownEq (sp := (Sp2 (rS_ K) (rS_ K) rB (fun s t => decide (s = t)) (fun s t => Sok s ∧ Sok t))) (ok_sh_eq T) (hr.mono (by decide)) (T.meth 74 "__eq__" rfl) ((T.dm 54 18 "__eq__" "Sheet.__eq__" rfl).binds (ps := ["self", "other"]) fun _ _ _ _ _ _ us hl => match us, hl with | [_, _], _ => rfl) pass0) (pv 0) (pv 8) (nomark _)))) pa_nil))) (pw_or1 (pt_not (pt_val (pe_callB (cr_all rfl) (by rfl) (T.fr 42 "all" rfl) (by decide +kernel) (pa_cons (pe_lc (own := [("_law_one", 8)]) (g := gName 8) rfl sc_law_unlike_right.nd (pi_list (pv 4)) (blkOk_by (N := ["_law_tome", "_law_plan_there", "_law_rows", "_law_lines_now", "_law_near", "_law_at", "_law_row", "_law_more", "_law_one"]) (sc := (defScope (topS 54))) (own := [("_law_one", 8)]) (by decide +kernel)) (fun _ _ _ _ _ => (pg_name (i := 8) sc_law_unlike_right.nd rfl (Or.inl rfl))) (fun _ _ _ _ _ => pts_nil) (fun _ _ _ _ _ => (pe_cmpR (op_ownNe (sp := (Sp2 (rS_ K) (rS_ K) rB (fun s t => decide (s = t)) (fun s t => Sok s ∧ Sok t))) (ok_sh_eq T) (hr.mono (by decide)) (T.meth 74 "__eq__" rfl) T.nef T.subO ((T.dm 54 18 "__eq__" "Sheet.__eq__" rfl).binds (ps := ["self", "other"]) fun _ _ _ _ _ _ us hl => match us, hl with | [_, _], _ => rfl) pass0) (pv 0) (pv 8) (nomark _)))) pa_nil))))))) (pss_one (ps_ret pe_bl)) pss_nil) (pss_one (ps_ret (pe_not (pe_callB (cr_any rfl) (by rfl) (T.fr 43 "any" rfl) (by decide +kernel) (pa_cons (pe_lc (own := [("_law_one", 8)]) (g := gName 8) rfl sc_law_unlike_right.nd (pi_list (pe_lst (pa_cons pe_non (pa_cons pe_int (pa_cons (pe_callB (call_ownReprG (ok_sh_repr T) hG (hr.mono (by decide)) (T.meth 75 "__repr__" rfl) ((T.dm 55 19 "__repr__" "Sheet.__repr__" rfl).binds (ps := ["self"]) fun _ _ _ _ _ _ us hl => match us, hl with | [_], _ => rfl) pass0) (by rfl) (T.fr 44 "repr" rfl) (by decide +kernel) (pa_cons (pv 0) pa_nil)) (pa_cons (pe_meth0 (pv 0) T.cls (T.meth 62 "levels" rfl) (ok_sh_levels T) (hr.mono (by decide)) ((T.dm 42 5 "levels" "Sheet.levels" rfl).binds (ps := ["self"]) fun _ _ _ _ _ _ us hl => match us, hl with | [_], _ => rfl) .nil pass0) (pa_cons (pv 2) (pa_cons (pe_tup (pa_cons (pv 2) (pa_cons (pv 3) pa_nil))) pa_nil)))))))) (blkOk_by (N := ["_law_tome", "_law_plan_there", "_law_rows", "_law_lines_now", "_law_near", "_law_at", "_law_row", "_law_more", "_law_one"]) (sc := (defScope (topS 54))) (own := [("_law_one", 8)]) (by decide +kernel)) (fun _ _ _ _ _ => (pg_name (i := 8) sc_law_unlike_right.nd rfl (Or.inl rfl))) (fun _ _ _ _ _ => pts_nil) (fun _ _ _ _ _ => (pe_cmpR (op_ownEqX (sp := (Sp2 (rS_ K) rDv rB (fun _ _ => false) (fun s _ => Sok s))) (ok_sh_eq_d T) (hr.mono (by decide)) (T.meth 74 "__eq__" rfl) ((T.dm 54 18 "__eq__" "Sheet.__eq__" rfl).binds (ps := ["self", "other"]) fun _ _ _ _ _ _ us hl => match us, hl with | [_, _], _ => rfl) pass0) (pv 0) (pv 8) (nomark _)))) pa_nil)))))))))))))), ?_⟩
    obtain ⟨ps, v, w, s, x, rfl, o, r, ra, pk, q⟩ := h
    have ok := pk.sok
    have hmk := pk.mk'
    have h12 := hmk.h12
    have h6 := pk.h6
    have hm14 := pk.m14
    have hp0 : 0 < x.1.length := List.length_pos_iff.mpr hmk.lv.some
    have okl : ∀ e ∈ x.2, okS e.1 ∧ okS e.2 := fun e he => sok_lines ok e (by rw [pk.ln]; exact mem_srtT.mpr he)
    have ra0 := ra
    obtain ⟨a0, vr, vl, rfl, h2, rr, rl⟩ := ra
    refine ⟨.ref a0, rfl, a0, _, rfl, st_of (Rm_ex _ _ h2), rfl, _, _, rfl, _, _, rfl, rfl, ?_⟩
    dsimp only at rr rl ⊢
    refine q_ownL (R := rS_ K) (as := [mkS (qqR x.1) x.2]) o (eas_cons (er_make (er_is (a' := qqR x.1) (er_lc2 (R := rN) (S := rL rS) (T := rL rS) qqF (wk_enum (er_toQ (er_var (i := 2) rfl rr))) (by rw [List.length_zip, List.length_range, Nat.min_self]; omega) (fun _ _ => rfl) fun y hy qs v1 w1 H1 e1 o1 x1 r1 s1 => ?_) rfl) (er_var (i := 3) rfl rl) (qq_mk pk).1) eas_nil) (by show 1 ≤ 100000; decide) fun p1 H1 e1 np hp l1 => ?_
    · have hym := pk.w6 y.2 (List.of_mem_zip hy).2
      refine er_ifexp (x := decide (y.1 = 0)) (et_is' (et_test' (er_B (ev_op (ev_I o1 (er_N (er_var (i := 5) rfl r1))) ev_c (rv_eq rfl)))) (decide_eq_decide.mpr ⟨fun h => by injection h with h; omega, fun h => by rw [h]; rfl⟩)) (fun hb => ?_) (fun hb => ?_)
      · exact er_is (er_cat (er_var (i := 6) rfl s1) (er_lst (R := rS) (as := [("qq" : Str)]) (eas_cons (er_S ev_c) eas_nil) (by show 1 ≤ 100000; decide)) (by show y.2.length + 1 ≤ 100000; omega)) (by unfold qqF; rw [if_pos (of_decide_eq_true hb)])
      · exact er_is (er_var (i := 6) rfl s1) (by unfold qqF; rw [if_neg (of_decide_eq_false hb)])
    have grow : ∀ {H' : Hp}, Ex H H' → Ex (Rm ps H) (Rm (p1 :: ps) H') := fun e => Rm_grow (qs := [p1]) e fun b hb => by rw [List.mem_singleton.mp hb]; exact hp
    have own1 : ∀ {H' : Hp} {ts : List Sht}, Ex H H' → Ls (rS_ K) (p1 :: ps) H' p1 ts → Own (p1 :: ps) H' := fun e l => by
      obtain ⟨_, vs, h1, _⟩ := l
      exact (o.ex e).push h1
    have n1 : Nq x [mkS (qqR x.1) x.2] := fun t ht => by rw [List.mem_singleton.mp ht]; exact ⟨(qq_mk pk).1.sok, (qq_mk pk).2⟩
    refine q_appR (own1 e1 l1) l1 (ev_var (i := 4) rfl) (er_make (er_cat (er_var (i := 2) rfl ((rL (rL rS)).m (grow e1) rr)) (er_lst (R := rL rS) (as := [[]]) (eas_cons (er_lst (R := rS) eas_nil (by decide)) eas_nil) (by show 1 ≤ 100000; decide)) (by show x.1.length + 1 ≤ 100000; omega)) (er_var (i := 3) rfl ((rL rE).m (grow e1) rl)) (up_mk pk).1) (by show 1 < 100000; decide) fun H2 f2 l2 ot2 => ?_
    have e2 := Oth.back e1 ot2 hp
    have n2 := n1.snoc (up_mk pk).1.sok (up_mk pk).2
    refine q_appR (own1 e2 l2) l2 (ev_var (i := 4) rfl) (er_make (er_cat (er_lst (R := rL rS) (as := [[]]) (eas_cons (er_lst (R := rS) eas_nil (by decide)) eas_nil) (by show 1 ≤ 100000; decide)) (er_var (i := 2) rfl ((rL (rL rS)).m (grow e2) rr)) (by show 1 + x.1.length ≤ 100000; omega)) (er_var (i := 3) rfl ((rL rE).m (grow e2) rl)) (dn_mk pk).1) (by show 2 < 100000; decide) fun H3 f3 l3 ot3 => ?_
    have e3 := Oth.back e2 ot3 hp
    have n3 := n2.snoc (dn_mk pk).1.sok (dn_mk pk).2
    have t3 : (([mkS (qqR x.1) x.2] ++ [mkS (x.1 ++ [[]]) x.2]) ++ [mkS ([[]] ++ x.1) x.2]).length ≤ 3 := Nat.le_refl _
    generalize (([mkS (qqR x.1) x.2] ++ [mkS (x.1 ++ [[]]) x.2]) ++ [mkS ([[]] ++ x.1) x.2]) = ts3 at l3 n3 t3
    refine q_whenK (M := fun H' => Ex H H' ∧ ∃ ts, Ls (rS_ K) (p1 :: ps) H' p1 ts ∧ Nq x ts ∧ ts.length ≤ 4) (own1 e3 l3) (b := !decide (x.2 = [])) (et_test' (er_neD (dtL (dtP dtS dtS)) (by decide) (er_var (i := 3) rfl ((rL rE).m (grow e3) rl)) (er_lst (R := rE) eas_nil (by decide)) okl (fun _ h => nomatch h))) (fun hb H4 e4 D' kk => ?_) (fun hb H4 e4 => ⟨e3.trans e4, ts3, l3.ex e4, n3, by omega⟩) fun H4 ⟨e4, ts4, l4, n4, t4⟩ => ?_
    · have hne : x.2 ≠ [] := fun h => by rw [decide_eq_true h] at hb; cases hb
      have e4' := e3.trans e4
      have sl1 : ((x.2.drop (HT.sIx x.2.length 0 (some 1))).take (HT.sIx x.2.length x.2.length none - HT.sIx x.2.length 0 (some 1))) = x.2.drop 1 := by
        have g1 : HT.sIx x.2.length 0 (some 1) = min 1 x.2.length := HT.sIx_nat _ 1 _
        have g2 : HT.sIx x.2.length x.2.length none = x.2.length := rfl
        have := List.length_pos_iff.mpr hne
        rw [g1, g2, Nat.min_eq_left this, List.take_of_length_le (by rw [List.length_drop]; omega)]
      refine s_appR (own1 e4' (l3.ex e4)) (l3.ex e4) (ev_var (i := 4) rfl) (er_make (er_var (i := 2) rfl ((rL (rL rS)).m (grow e4') rr)) (er_is (er_sl (er_var (i := 3) rfl ((rL rE).m (grow e4') rl)) (eo_some ev_c) eo_none) sl1) (less_mk pk hne).1) (by omega) fun H5 f5 l5 ot5 => ?_
      exact kk H5 ⟨Oth.back e4' ot5 hp, _, l5, n3.snoc (less_mk pk hne).1.sok (less_mk pk hne).2, by rw [List.length_append, List.length_singleton]; omega⟩
    have o4 := own1 e4 l4
    have haf := all_few h12 hmk.w18
    have oka : ∀ e ∈ allL x.1, okS e.1 ∧ okS e.2 := fun e he => by
      have hf := allL_fit he
      have nm : ∀ z ∈ x.1.flatten, okS z := fun z hz => by
        obtain ⟨l, hl, hzl⟩ := List.mem_flatten.mp hz
        exact isN_strOk (hmk.lv.names l hl z hzl)
      exact ⟨nm _ hf.in1, nm _ hf.in2⟩
    have hml : (moreL x).length ≤ 12 * 324 := Nat.le_trans (List.length_filter_le _ _) haf
    refine q_asgR' o4 (er_is (a' := moreL x) (er_lc1F (R := rE) (S := rE) id (fun e => !decide (e ∈ x.2)) (wk_list (er_allL (er_var (i := 2) rfl ((rL (rL rS)).m (grow e4) rr)) h12 hmk.w18)) (by omega) (fun _ => rfl) (fun e he qs v5 H5 e5 o5 x5 r5 => et_is' (et_test' (er_notInD (dtP dtS dtS) (by decide) (er_var rfl r5) (er_var (i := 3) rfl ((rL rE).m x5 ((rL rE).m (grow e4) rl))) (oka e he) okl)) (congrArg not (decide_eq_decide.mpr Iff.rfl))) fun e he _ qs v5 H5 e5 o5 x5 r5 => er_var rfl r5) (List.map_id _)) fun vm H5 e5 rm => ?_
    have l5 := l4.ex e5
    have e05 := e4.trans e5
    have okm : ∀ e ∈ moreL x, okS e.1 ∧ okS e.2 := fun e he => oka e (List.mem_filter.mp he).1
    refine q_whenK (M := fun H' => Ex H H' ∧ ∃ ts, Ls (rS_ K) (p1 :: ps) H' p1 ts ∧ Nq x ts ∧ ts.length ≤ 5) (own1 e05 l5) (b := !decide (moreL x = [])) (et_test' (er_neD (dtL (dtP dtS dtS)) (by decide) (er_var (i := 7) rfl rm) (er_lst (R := rE) eas_nil (by decide)) okm (fun _ h => nomatch h))) (fun hb H6 e6 D' kk => ?_) (fun hb H6 e6 => ⟨e05.trans e6, ts4, l5.ex e6, n4, by omega⟩) fun H6 ⟨e6, ts6, l6, n6, t6⟩ => ?_
    · have hne : moreL x ≠ [] := fun h => by rw [decide_eq_true h] at hb; cases hb
      have e6' := e05.trans e6
      have sl1 : (((moreL x).drop (HT.sIx (moreL x).length 0 none)).take (HT.sIx (moreL x).length (moreL x).length (some 1) - HT.sIx (moreL x).length 0 none)) = (moreL x).take 1 := by
        have g1 : HT.sIx (moreL x).length (moreL x).length (some 1) = min 1 (moreL x).length := HT.sIx_nat _ 1 _
        have g2 : HT.sIx (moreL x).length 0 none = 0 := rfl
        have := List.length_pos_iff.mpr hne
        rw [g1, g2, Nat.min_eq_left this, List.drop_zero, Nat.sub_zero]
      refine s_appR (own1 e6' (l5.ex e6)) (l5.ex e6) (ev_var (i := 4) rfl) (er_make (er_var (i := 2) rfl ((rL (rL rS)).m (grow e6') rr)) (er_cat (er_var (i := 3) rfl ((rL rE).m (grow e6') rl)) (er_is (er_sl (er_var (i := 7) rfl ((rL rE).m (Rm_mono e6) rm)) eo_none (eo_some ev_c)) sl1) (by rw [List.length_take]; omega)) (more_mk pk hne).1) (by omega) fun H7 f7 l7 ot7 => ?_
      exact kk H7 ⟨Oth.back e6' ot7 hp, _, l7, n4.snoc (more_mk pk hne).1.sok (more_mk pk hne).2, by rw [List.length_append, List.length_singleton]; omega⟩
    obtain ⟨m6, vs6, hv6, all6⟩ := l6
    have o6 := own1 e6 (⟨m6, vs6, hv6, all6⟩ : Ls (rS_ K) (p1 :: ps) H6 p1 ts6)
    refine ⟨_, rfl, .inl ⟨rfl, vs6, sq_of hv6⟩, ?_⟩
    refine ⟨_, rfl, p1 :: ps, _, x, rfl, o6, rPlan.m (grow e6) ra0, ⟨hmk, pk.h6, pk.w6, pk.m14⟩, fun us w7 H7 e7 n7 t7 r7 => ?_⟩
    obtain ⟨b7, vs7, rfl, hb7, all7⟩ := r7
    have hv7 : H7 p1 = some (.lst vs6) := e7 _ _ hv6
    have hl6 := all6.len
    have hl7 := all7.len
    refine ⟨p1, b7, vs6, vs7, rfl, rfl, hv7, Rm_ex _ _ hb7, sz_of (by omega), ?_⟩
    have e8 : Ex H (upd H7 p1 (.lst (vs6 ++ vs7))) := Ex.mut (e6.trans e7) hp
    have o8 := o.ex e8
    have rn : (rL (rS_ K)).p (ts6 ++ us) (.ref p1) (Rm ps (upd H7 p1 (.lst (vs6 ++ vs7)))) := by
      have eR : Ex (Rm (p1 :: ps) H7) (Rm ps (upd H7 p1 (.lst (vs6 ++ vs7)))) := fun b u hb => by
        have hn : b ∉ p1 :: ps := fun m => by rw [Rm_own m] at hb; cases hb
        refine Rm_get ?_ fun m => hn (List.mem_cons_of_mem _ m)
        rw [upd_ne fun z => hn (by rw [z]; exact List.mem_cons_self ..)]
        exact Rm_ex _ _ hb
      exact ⟨p1, _, rfl, Rm_get upd_same np, (all6.imp fun _ _ r => (rS_ K).m ((Rm_mono e7).trans eR) r).app (all7.imp fun _ _ r => (rS_ K).m eR r)⟩
    have nn := n6.app n7
    have tn : (ts6 ++ us).length ≤ 200 := by rw [List.length_append]; omega
    generalize ts6 ++ us = ts at rn nn tn
    generalize (upd H7 p1 (.lst (vs6 ++ vs7))) = H8 at e8 o8 rn ⊢
    have r8 := (rS_ K).m (Rm_mono e8) r
    have hds : ∀ t ∈ ts, decide (s = t) = false := fun t ht => decide_eq_false fun h => (nn t ht).2 (by rw [← h]; exact pk.eq)
    refine q_whenR o8 (b := false) (et_is' (et_or' (x := false) (y := false) (et_B' (er_is (er_any (er_lc1 (R := rS_ K) (S := rB) (fun t => decide (s = t)) (wk_list (er_var (i := 4) rfl rn)) (by omega) (fun _ => rfl) fun t ht qs v9 H9 e9 o9 x9 r9 => er_eqO (neg := false) (er_var (i := 0) rfl ((rS_ K).m x9 r8)) (er_var (i := 8) rfl r9) ok (nn t ht).1)) ?_)) fun _ => et_is' (et_not' (x := true) (et_B' (er_is (er_all (er_lc1 (R := rS_ K) (S := rB) (fun t => !decide (s = t)) (wk_list (er_var (i := 4) rfl rn)) (by omega) (fun _ => rfl) fun t ht qs v9 H9 e9 o9 x9 r9 => er_eqO (neg := true) (er_var (i := 0) rfl ((rS_ K).m x9 r8)) (er_var (i := 8) rfl r9) ok (nn t ht).1)) ?_))) rfl) rfl) (fun z => nomatch z) fun _ H9 e9 => ?_
    · rw [List.any_map, List.any_eq_false]
      intro t ht
      rw [show (id ∘ fun t => decide (s = t)) t = decide (s = t) from rfl, hds t ht]
      decide
    · rw [List.all_map, List.all_eq_true]
      intro t ht
      show (!decide (s = t)) = true
      rw [hds t ht]
      rfl
    have r9 := (rS_ K).m (Rm_mono e9) r8
    have e09 := e8.trans e9
    have rr9 := (rL (rL rS)).m (Rm_mono e09) rr
    have rl9 := (rL rE).m (Rm_mono e09) rl
    have o9 := o8.ex e9
    refine s_retR o9 (er_is (er_notV (x := false) (er_is (er_any (er_lc1 (R := rDv) (S := rB) (fun _ => false) (wk_list (er_lst (R := rDv) (as := [.none, .int 0, .str (reprT s), .list (s.1.map fun l => dStrs l), .list (x.1.map fun l => dStrs l), .tuple [.list (x.1.map fun l => dStrs l), dLines x.2]]) (eas_cons er_nonD (eas_cons er_intD (eas_cons (er_dv (f := PyData.str) (er_reprO (er_var (i := 0) rfl r9) ok) asS) (eas_cons (er_dvLL (er_levelsL (er_var (i := 0) rfl r9) ok)) (eas_cons (er_dvLL (er_var (i := 2) rfl rr9)) (eas_cons (er_tupD (eas_cons (er_dvLL (er_var (i := 2) rfl rr9)) (eas_cons (er_dvE (er_var (i := 3) rfl rl9)) eas_nil)) (by show 2 ≤ 100000; decide)) eas_nil)))))) (by show 6 ≤ 100000; decide))) (by show 6 ≤ 40000; decide) (fun _ => rfl) fun d hd qs v10 H10 e10 o10 x10 r10 => er_eqD_ (er_var (i := 0) rfl ((rS_ K).m x10 r9)) (er_var (i := 8) rfl r10) ok)) rfl)) rfl) fun v11 H11 e11 t => q v11 H11 (e09.trans e11) t
  case len =>
    obtain ⟨ps, v, w, s, x, rfl, _⟩ := h
    rfl
end
end K12
set_option Elab.async false
set_option linter.all false
set_option maxRecDepth 100000
set_option maxHeartbeats 4000000
namespace K12
open PySem PySem.Spec PyProof.Rows L2 Evl Gen RP ItX
section
variable {P : Program} {w : World} {K : PySem.W.Frag} {mg : Str → Option Value} {base : Heap} {fd : Nat → FuncData}
def spRight : Sp := fun vs H Q _ => ∃ p : Addr, vs = [.ref p] ∧ Pot H p ∧ ∀ H', Pt p H H' → Q (.bl true) H'
def spLaw (K : PySem.W.Frag) : Sp := fun vs H Q _ => ∃ (a : Addr) (ns : List Int), vs = [.ref a] ∧ SqL K H a (ns.map V.int) ∧ ns.length ≤ 63 ∧ ∀ H', Q (.bl true) H'
theorem q_plan {ps : List Addr} {p : Addr} {σ : L2.St} {H : Hp} {i j : Nat} {E : XK} {D : Ends} {tz : TS} (mp : p ∈ ps) (hp : Pot H p) (o : Own ps H) (hi : σ[i]? = some (some (.ref p))) (k : ∀ v rows es H1, Pt p H H1 → rPlan.p (rows, es) v (Rm ps H1) → Mk' rows es → PB 6 6 14 rows es → tz D (σ.set j (some v)) H1) :
    tSeq (tAsg (tCall spPlan [] E (tCons (tVar i) (tCons (tC (.int 6)) (tCons (tC (.int 6)) (tCons (tC (.int 14)) tNil))))) (gName j)) tz D σ H := ⟨_, hi, ps, p, 6, 6, 14, rfl, by decide, by decide, by decide, by decide, by decide, mp, o, hp, k⟩
theorem er_call2G {α β γ : Type} {R : Rp α} {S : Rp β} {T : Rp γ} {ps : List Addr} {σ : L2.St} {H : Hp} {ta tb : TE} {a : α} {b : β} {f : α → β → γ} {C : α → β → Prop} {E : XK} (h : EvR R ps ta σ H a) (h2 : EvR S ps tb σ H b) (hc : C a b) : EvR T ps (tCallG (Sp2 R S T f C) E (tCons ta (tCons tb tNil))) σ H (f a b) := fun H1 e o Q q =>
  h H1 e o _ fun v H2 e2 r => h2 H2 (e.trans e2) (o.ex e2) _ fun w H3 e3 s => ⟨ps, v, w, a, b, rfl, o.ex (e2.trans e3), R.m (Rm_mono e3) r, s, hc, fun z H4 e4 t => q z H4 ((e2.trans e3).trans e4) t⟩
theorem q_parA {α : Type} {R : Rp α} {ps : List Addr} {σ : L2.St} {H : Hp} {i j : Nat} {ta tb : TE} {a : α} {D : Ends} {tz : TS} (o : Own ps H) (h1 : EvR R ps ta σ H a) (k : ∀ v H1, Ex H H1 → R.p a v (Rm ps H1) → tb σ H1 fun w H2 => ∃ v' w', [v, w] = [v', w'] ∧ tz D ((σ.set i (some v')).set j (some w')) H2) : tSeq (tPar i j (tCons ta (tCons tb tNil))) tz D σ H := h1 H (Ex.refl H) o _ fun v H1 e1 r => k v H1 e1 r
theorem s_dropR {α : Type} {R : Rp α} {ps : List Addr} {σ : L2.St} {H : Hp} {te : TE} {a : α} {D : Ends} (o : Own ps H) (h : EvR R ps te σ H a) (k : ∀ H1, Ex H H1 → D.nx σ H1) : tDrop te D σ H := h H (Ex.refl H) o _ fun _ H1 e _ => k H1 e
theorem bare_iff {rows : List (List Str)} {es : List (Str × Str)} : (mkS rows [] = mkS rows es) ↔ es = [] := by
  constructor
  · intro h
    have h1 := congrArg (fun t : Sht => t.2.length) h
    have h2 : (srtT ([] : List (Str × Str))).length = (srtT es).length := h1
    rw [(srtT_perm _).length_eq, (srtT_perm _).length_eq] at h2
    exact List.length_eq_zero_iff.mp h2.symm
  · intro h
    rw [h]
theorem bare_mk {rows : List (List Str)} {es : List (Str × Str)} (ok : Mk' rows es) : Mk' rows [] := ⟨ok.lv, ok.w18, ok.h12, (fun e he => nomatch he), List.nodup_nil, Nat.zero_le _⟩
def givenD (x : List (List Str) × List (Str × Str)) : PyData := .list [.list (x.1.map fun l => dStrs l), dLines x.2]
theorem given_sz {s : Sht} {x : List (List Str) × List (Str × Str)} (pk : Pk s x) : Sz 10000 4 (givenD x) := by
  have hin : ∀ z, z ∈ x.1.flatten → z ∈ s.1.flatten := fun z hz => by rw [pk.lv]; exact mem_flat.mp hz
  have h1 : Sz 3648 2 (.list (x.1.map fun l => dStrs l)) := by
    refine Sz.list (n := 606) (m := 1) (fun d hd => ?_) (by rw [List.length_map]; have h2 := pk.h6; omega)
    obtain ⟨l, hl, rfl⟩ := List.mem_map.mp hd
    have hw := pk.w6 l hl
    exact strs_sz pk.sok (fun z hz => hin z (List.mem_flatten.mpr ⟨l, hl, hz⟩)) (by omega)
  have h14 := pk.m14
  have h2 : Sz 3648 2 (dLines x.2) := lines_sz pk.sok (fun e he => by have f := pk.mk'.fit e he; exact ⟨hin _ f.in1, hin _ f.in2⟩) (by omega)
  exact (two_sz h1 h2 (k := 10000) (by decide)).mono (Nat.le_refl _) (by decide)
theorem sc_law_right : FnScope ["_law_pot_here", "_law_plan_there", "_law_given", "_law_told", "_law_row", "_law_kept", "_law_tome", "_law_twin_here", "_law_turn", "_law_bare"] ["_law_pot_here"] (defScope (topS 55)) := ⟨rfl, rfl, rfl, by decide +kernel, rfl, by decide +kernel, by decide +kernel⟩
theorem ok_law_right (T : Tx K mg fd) : FnOkG P w K mg base CX0 11 (He.ga K "_law_right") (fd 29) ["_law_pot_here"] spRight := by
  obtain ⟨ds2, hr2, hb2⟩ := bi2 T
  obtain ⟨its2, hkb⟩ := (T.ds 41 3 rfl).kbindsD (ps := ["self", "levels", "lines"]) 1 ["levels", "lines"] (fun us _ ws => us ++ ws) (by simp) (fun r _ q => r.append q) (fun Tt kV doc pm an cdv ct us its ws h1 h2 h3 => match us, its, ws, h1, h2, h3 with | [_], [_], [_, _], _, _, _ => ⟨_, rfl, rfl⟩)
  refine (T.df 29 55 "_law_right" rfl).okG sc_law_right (fun vs H Q E h => ?len) (fun cdv A outer s H vs Q E hG hr h => ?body)
  case body =>
    refine ⟨_, (pss_cons (ps_set (i := 1) sc_law_right.nd rfl (Or.inl rfl) (pe_call (ok_law_plan T) (hr.mono (by decide)) (by rfl) (T.gl 18 "_law_plan" rfl) (T.df 16 42 "_law_plan" rfl).kp ((T.df 16 42 "_law_plan" rfl).binds (ps := ["_law_pot_here", "_law_tall", "_law_wide", "_law_many"]) fun _ _ _ _ _ _ us hl => match us, hl with | [_, _, _, _], _ => rfl) .nil pass0 (pa_cons (pv 0) (pa_cons pe_int (pa_cons pe_int (pa_cons pe_int pa_nil)))))) (pss_cons (ps_par (i := 2) (j := 3) (by rfl) sc_law_right.nd rfl rfl (by decide) rfl rfl (pa_cons (pe_lc (own := [("_law_row", 4)]) (g := gName 4) rfl sc_law_right.nd (pi_list (pe_ix (r := rIxT K) ix_tup (pv 1) pe_int (fun _ _ => rfl))) (blkOk_by (N := ["_law_pot_here", "_law_plan_there", "_law_given", "_law_told", "_law_row", "_law_kept", "_law_tome", "_law_twin_here", "_law_turn", "_law_bare"]) (sc := (defScope (topS 55))) (own := [("_law_row", 4)]) (by decide +kernel)) (fun _ _ _ _ _ => (pg_name (i := 4) sc_law_right.nd rfl (Or.inl rfl))) (fun _ _ _ _ _ => pts_nil) (fun _ _ _ _ _ => (pe_callTy (r := rListS K) call_list_of (by rfl) (T.fr 38 "list" rfl) (by decide +kernel) (pa_cons (pv 4) pa_nil)))) (pa_cons (pe_callTy (r := rListS K) call_list_of (by rfl) (T.fr 38 "list" rfl) (by decide +kernel) (pa_cons (pe_ix (r := rIxT K) ix_tup (pv 1) pe_int (fun _ _ => rfl)) pa_nil)) pa_nil)) (by rfl)) (pss_cons (ps_set (i := 5) sc_law_right.nd rfl (Or.inl rfl) (pe_callB (call_repr hG hr.units) (by rfl) (T.fr 44 "repr" rfl) (by decide +kernel) (pa_cons (pe_lst (pa_cons (pv 2) (pa_cons (pv 3) pa_nil))) pa_nil))) (pss_cons (ps_par (i := 6) (j := 7) (by rfl) sc_law_right.nd rfl rfl (by decide) rfl rfl (pa_cons (pe_makeK T.mkr (ok_sh_init T) (hr.mono (by decide)) (by rfl) (T.gl 33 "Sheet" rfl) hkb pass0 (pk_cons (pv 2) (pk_cons (pv 3) pk_nil))) (pa_cons (pe_call (ok_law_twin T) (hr.mono (by decide)) (by rfl) (T.gl 22 "_law_twin" rfl) (T.df 20 46 "_law_twin" rfl).kp ((T.df 20 46 "_law_twin" rfl).binds (ps := ["_law_pot_here", "_law_plan_there"]) fun _ _ _ _ _ _ us hl => match us, hl with | [_, _], _ => rfl) .nil pass0 (pa_cons (pv 0) (pa_cons (pv 1) pa_nil))) pa_nil)) (by rfl)) (pss_cons (ps_if (pt_cmpR op_ne (pe_callB (call_repr hG hr.units) (by rfl) (T.fr 44 "repr" rfl) (by decide +kernel) (pa_cons (pe_lst (pa_cons (pv 2) (pa_cons (pv 3) pa_nil))) pa_nil)) (pv 5) (nomark _)) (pss_one (ps_ret pe_bl)) pss_nil) (pss_cons (ps_expr (pe_bm PySem.F.plainAttrs_list PySem.F.slot_list_append PySem.F.type_list_append mt_append (pe_ix (r := rIxL K) ix_list (pv 2) pe_int (fun _ _ => rfl)) (pa_cons pe_str pa_nil))) (pss_cons (ps_expr (pe_bm PySem.F.plainAttrs_list PySem.F.slot_list_append PySem.F.type_list_append mt_append (pv 2) (pa_cons pe_non pa_nil))) (pss_cons (ps_expr (pe_bm PySem.F.plainAttrs_list PySem.F.slot_list_append PySem.F.type_list_append mt_append (pv 3) (pa_cons pe_non pa_nil))) (pss_cons (ps_for PassesOwn.never rfl (pi_range1 (by rfl) (T.fr 45 "range" rfl) (pa_cons pe_int pa_nil)) (pg_name (i := 8) sc_law_right.nd rfl (Or.inl rfl)) (pss_cons (ps_if (PW.pt (pw_or (pt_not (pt_val (pe_callG (ok_law_nodes_right T) hG (hr.mono (by decide)) (by rfl) (T.gl 24 "_law_nodes_right" rfl) (T.df 22 48 "_law_nodes_right" rfl).kp ((T.df 22 48 "_law_nodes_right" rfl).binds (ps := ["_law_tome", "_law_plan_there"]) fun _ _ _ _ _ _ us hl => match us, hl with | [_, _], _ => rfl) pass0 (pa_cons (pv 6) (pa_cons (pv 1) pa_nil))))) (pw_or1 (pt_not (pt_val (pe_callG (ok_law_lines_right T) hG (hr.mono (by decide)) (by rfl) (T.gl 25 "_law_lines_right" rfl) (T.df 23 49 "_law_lines_right" rfl).kp ((T.df 23 49 "_law_lines_right" rfl).binds (ps := ["_law_tome", "_law_plan_there"]) fun _ _ _ _ _ _ us hl => match us, hl with | [_, _], _ => rfl) pass0 (pa_cons (pv 6) (pa_cons (pv 1) pa_nil)))))))) (pss_one (ps_ret pe_bl)) pss_nil) (pss_cons (ps_if (PW.pt (pw_or (pt_not (pt_val (pe_call (ok_law_in_right T) (hr.mono (by decide)) (by rfl) (T.gl 26 "_law_in_right" rfl) (T.df 24 50 "_law_in_right" rfl).kp ((T.df 24 50 "_law_in_right" rfl).binds (ps := ["_law_tome", "_law_plan_there"]) fun _ _ _ _ _ _ us hl => match us, hl with | [_, _], _ => rfl) .nil pass0 (pa_cons (pv 6) (pa_cons (pv 1) pa_nil))))) (pw_or1 (pt_cmpR op_ne (pe_callB (call_repr hG hr.units) (by rfl) (T.fr 44 "repr" rfl) (by decide +kernel) (pa_cons (pe_meth0 (pv 6) T.cls (T.meth 70 "is_small" rfl) (ok_sh_is_small T) (hr.mono (by decide)) ((T.dm 50 14 "is_small" "Sheet.is_small" rfl).binds (ps := ["self"]) fun _ _ _ _ _ _ us hl => match us, hl with | [_], _ => rfl) .nil pass0) pa_nil)) (pe_callB (call_repr hG hr.units) (by rfl) (T.fr 44 "repr" rfl) (by decide +kernel) (pa_cons (pe_call (ok_law_small T) (hr.mono (by decide)) (by rfl) (T.gl 27 "_law_small" rfl) (T.df 25 51 "_law_small" rfl).kp ((T.df 25 51 "_law_small" rfl).binds (ps := ["_law_plan_there"]) fun _ _ _ _ _ _ us hl => match us, hl with | [_], _ => rfl) .nil pass0 (pa_cons (pv 1) pa_nil)) pa_nil)) (nomark _))))) (pss_one (ps_ret pe_bl)) pss_nil) (pss_one (ps_expr (pe_call (ok_law_changed T) (hr.mono (by decide)) (by rfl) (T.gl 28 "_law_changed" rfl) (T.df 26 52 "_law_changed" rfl).kp ((T.df 26 52 "_law_changed" rfl).binds (ps := ["_law_tome"]) fun _ _ _ _ _ _ us hl => match us, hl with | [_], _ => rfl) .nil pass0 (pa_cons (pv 6) pa_nil))))))) (pss_cons (ps_if (PW.pt (pw_or (pt_not (pt_cmpR (op_ownEq (sp := (Sp2 (rS_ K) (rS_ K) rB (fun s t => decide (s = t)) (fun s t => Sok s ∧ Sok t))) (ok_sh_eq T) (hr.mono (by decide)) (T.meth 74 "__eq__" rfl) ((T.dm 54 18 "__eq__" "Sheet.__eq__" rfl).binds (ps := ["self", "other"]) fun _ _ _ _ _ _ us hl => match us, hl with | [_, _], _ => rfl) pass0) (pv 6) (pv 7) (nomark _))) (pw_or (pt_cmpR (op_ownNe (sp := (Sp2 (rS_ K) (rS_ K) rB (fun s t => decide (s = t)) (fun s t => Sok s ∧ Sok t))) (ok_sh_eq T) (hr.mono (by decide)) (T.meth 74 "__eq__" rfl) T.nef T.subO ((T.dm 54 18 "__eq__" "Sheet.__eq__" rfl).binds (ps := ["self", "other"]) fun _ _ _ _ _ _ us hl => match us, hl with | [_, _], _ => rfl) pass0) (pv 6) (pv 7) (nomark _)) (pw_or (pt_cmpR op_ne (pe_callB (call_ownReprG (ok_sh_repr T) hG (hr.mono (by decide)) (T.meth 75 "__repr__" rfl) ((T.dm 55 19 "__repr__" "Sheet.__repr__" rfl).binds (ps := ["self"]) fun _ _ _ _ _ _ us hl => match us, hl with | [_], _ => rfl) pass0) (by rfl) (T.fr 44 "repr" rfl) (by decide +kernel) (pa_cons (pv 7) pa_nil)) (pe_callB (call_ownReprG (ok_sh_repr T) hG (hr.mono (by decide)) (T.meth 75 "__repr__" rfl) ((T.dm 55 19 "__repr__" "Sheet.__repr__" rfl).binds (ps := ["self"]) fun _ _ _ _ _ _ us hl => match us, hl with | [_], _ => rfl) pass0) (by rfl) (T.fr 44 "repr" rfl) (by decide +kernel) (pa_cons (pv 6) pa_nil)) (nomark _)) (pw_or1 (pt_cmpR (op_neD hr.units) (pe_meth0 (pv 7) T.cls (T.meth 64 "lines" rfl) (ok_sh_lines T) (hr.mono (by decide)) ((T.dm 44 7 "lines" "Sheet.lines" rfl).binds (ps := ["self"]) fun _ _ _ _ _ _ us hl => match us, hl with | [_], _ => rfl) .nil pass0) (pe_meth0 (pv 6) T.cls (T.meth 64 "lines" rfl) (ok_sh_lines T) (hr.mono (by decide)) ((T.dm 44 7 "lines" "Sheet.lines" rfl).binds (ps := ["self"]) fun _ _ _ _ _ _ us hl => match us, hl with | [_], _ => rfl) .nil pass0) (nomark _))))))) (pss_one (ps_ret pe_bl)) pss_nil) (pss_cons (ps_set (i := 9) sc_law_right.nd rfl (Or.inl rfl) (pe_make T.mkr (ok_sh_init T) (hr.mono (by decide)) (by rfl) (T.gl 33 "Sheet" rfl) hb2 hr2 pass0 (pa_cons (pe_lc (own := [("_law_row", 4)]) (g := gName 4) rfl sc_law_right.nd (pi_list (pe_ix (r := rIxT K) ix_tup (pv 1) pe_int (fun _ _ => rfl))) (blkOk_by (N := ["_law_pot_here", "_law_plan_there", "_law_given", "_law_told", "_law_row", "_law_kept", "_law_tome", "_law_twin_here", "_law_turn", "_law_bare"]) (sc := (defScope (topS 55))) (own := [("_law_row", 4)]) (by decide +kernel)) (fun _ _ _ _ _ => (pg_name (i := 4) sc_law_right.nd rfl (Or.inl rfl))) (fun _ _ _ _ _ => pts_nil) (fun _ _ _ _ _ => (pe_callTy (r := rListS K) call_list_of (by rfl) (T.fr 38 "list" rfl) (by decide +kernel) (pa_cons (pv 4) pa_nil)))) pa_nil))) (pss_cons (ps_if (PW.pt (pw_or (pt_cmpR (op_neD hr.units) (pe_meth0 (pv 9) T.cls (T.meth 64 "lines" rfl) (ok_sh_lines T) (hr.mono (by decide)) ((T.dm 44 7 "lines" "Sheet.lines" rfl).binds (ps := ["self"]) fun _ _ _ _ _ _ us hl => match us, hl with | [_], _ => rfl) .nil pass0) (pe_lst pa_nil) (nomark _)) (pw_or1 (pt_cmpR op_ne (pe_cmpR (op_ownEq (sp := (Sp2 (rS_ K) (rS_ K) rB (fun s t => decide (s = t)) (fun s t => Sok s ∧ Sok t))) (ok_sh_eq T) (hr.mono (by decide)) (T.meth 74 "__eq__" rfl) ((T.dm 54 18 "__eq__" "Sheet.__eq__" rfl).binds (ps := ["self", "other"]) fun _ _ _ _ _ _ us hl => match us, hl with | [_, _], _ => rfl) pass0) (pv 9) (pv 6) (nomark _)) (pe_cmpR (op_eqD hr.units) (pe_ix (r := rIxT K) ix_tup (pv 1) pe_int (fun _ _ => rfl)) (pe_lst pa_nil) (nomark _)) (nomark _))))) (pss_one (ps_ret pe_bl)) pss_nil) (pss_one (ps_ret (pe_callG (ok_law_unlike_right T) hG (hr.mono (by decide)) (by rfl) (T.gl 30 "_law_unlike_right" rfl) (T.df 28 54 "_law_unlike_right" rfl).kp ((T.df 28 54 "_law_unlike_right" rfl).binds (ps := ["_law_tome", "_law_plan_there"]) fun _ _ _ _ _ _ us hl => match us, hl with | [_, _], _ => rfl) pass0 (pa_cons (pv 6) (pa_cons (pv 1) pa_nil))))))))))))))))), ?_⟩
    obtain ⟨p, rfl, hp, q⟩ := h
    have mp : p ∈ [p] := List.mem_singleton.mpr rfl
    have o : Own [p] H := fun b hb => by
      obtain ⟨x', y', a1, _⟩ := hp
      rw [List.mem_singleton.mp hb]
      exact ⟨_, a1, fun xs z => by cases z⟩
    refine q_plan mp hp o rfl fun v rows es H1 f1 rp hmk pb => ?_
    have pk : Pk (mkS rows es) (rows, es) := ⟨rfl, hmk, pb.h, pb.w, pb.pool, pb.m⟩
    have ok := pk.sok
    have h6 := pb.h
    have h14 := pb.m
    have hrp : 0 < rows.length := List.length_pos_iff.mpr hmk.lv.some
    have o1 := f1.own o
    have okl : ∀ e ∈ es, okS e.1 ∧ okS e.2 := fun e he => sok_lines ok e (mem_srtT.mpr he)
    -- given, told
    refine q_parR (R := rLN H1 (rLN H1 rS)) (S := rLN H1 rE) (a := rows) (b := es) o1 (er_is (er_lc1N (G := H1) (R := rL rS) (S := rLN H1 rS) id (Ex.refl H1) (wk_list (er_fst (er_var (i := 1) rfl rp) (er_I ev_c))) (by show rows.length ≤ 40000; omega) (fun _ => rfl) fun l hl qs v2 H2 e2 _ _ r2 => er_listN e2 (er_toQ (er_var (i := 4) rfl r2))) (List.map_id _)) (er_listN (Ex.refl H1) (er_toQ (er_snd (er_var (i := 1) rfl rp) (er_I ev_c)))) fun vg vt H2 e2 rg rt => ?_
    obtain ⟨g, gs, rfl, g0, hg, hgs⟩ := rg
    obtain ⟨t, ts, rfl, t0, ht, hts⟩ := rt
    have hgl := hgs.len
    obtain ⟨u0, hu0⟩ : ∃ u, gs[0]? = some u := ⟨gs[0], List.getElem?_eq_getElem (by omega)⟩
    obtain ⟨row0, hrow0, g1, ws, rfl, g10, hg1, hws⟩ := hgs.getv hu0
    have hw0 := pb.w row0 (List.mem_of_getElem? hrow0)
    have hwl := hws.len
    have htl := hts.len
    have hG := Rm_ex _ _ hg
    have hG1 := Rm_ex _ _ hg1
    have hT := Rm_ex _ _ ht
    have rg : (rL (rL rS)).p rows (.ref g) (Rm [p] H2) := ⟨g, gs, rfl, hg, hgs.imp fun _ _ r => rLN_L r⟩
    have rt : (rL rE).p es (.ref t) (Rm [p] H2) := ⟨t, ts, rfl, ht, hts⟩
    have o2 := o1.ex e2
    -- the frame with what is given
    have mem3 : ∀ b, b ∈ [g, g1, t] → H1 b = none := fun b hb => by
      rcases List.mem_cons.mp hb with rfl | hb
      · exact g0
      rcases List.mem_cons.mp hb with rfl | hb
      · exact g10
      · rw [List.mem_singleton.mp hb]; exact t0
    have lst3 : ∀ b, b ∈ [g, g1, t] → ∃ xs, H2 b = some (.lst xs) ∧ xs.length ≤ 20 := fun b hb => by
      rcases List.mem_cons.mp hb with rfl | hb
      · exact ⟨gs, hG, by omega⟩
      rcases List.mem_cons.mp hb with rfl | hb
      · exact ⟨ws, hG1, by omega⟩
      · rw [List.mem_singleton.mp hb]; exact ⟨ts, hT, by omega⟩
    have npot : ∀ b, b ∈ [g, g1, t] → b ≠ p := fun b hb z => by
      obtain ⟨x', y', a1, _⟩ := f1.2
      have := mem3 b hb
      rw [z, a1] at this
      cases this
    have oA : Own ([g, g1, t] ++ [p]) H2 := fun b hb => by
      rcases List.mem_append.mp hb with hb | hb
      · obtain ⟨xs, hx, _⟩ := lst3 b hb
        exact ⟨_, hx, fun xs z => by cases z⟩
      · exact o2 b hb
    have mA : p ∈ [g, g1, t] ++ [p] := List.mem_append_right _ mp
    have rpA : rPlan.p (rows, es) v (Rm ([g, g1, t] ++ [p]) H2) := rPlan.m (Rm_grow (qs := [g, g1, t]) e2 mem3) rp
    have f2 : Pt p H H2 := f1.trans (Pt.ex f1.2 e2)
    have gsz := given_sz pk
    have dgs : (givenD (rows, es)).depth ≤ 40 := Nat.le_trans gsz.dp (by decide)
    -- kept
    refine q_asgR' o2 (er_reprD (d := givenD (rows, es)) (er_d2 (er_dvLL (er_var (i := 2) rfl rg)) (er_dvE (er_var (i := 3) rfl rt))) gsz.sh dgs (gsz.len (by decide))) fun vk H3 e3 rk => ?_
    obtain rfl : vk = .str (givenD (rows, es)).shown := rk
    have rg := (rL (rL rS)).m (Rm_mono e3) rg
    have rt := (rL rE).m (Rm_mono e3) rt
    have rpA := rPlan.m (Rm_mono e3) rpA
    have oA := oA.ex e3
    have o3 := o2.ex e3
    have f3 := f2.trans (Pt.ex f2.2 e3)
    -- the sheet, its twin
    refine q_parA (R := rW H3 (rS_ K)) o3 (er_makeK (G := H3) (Ex.refl H3) (er_imp (er_var (i := 2) rfl rg) fun _ _ r => rLL_q r) (er_toQ (er_var (i := 3) rfl rt)) hmk) fun vs H4 e4 rs => ?_
    have oA4 := oA.ex e4
    have f4 := f3.trans (Pt.ex f3.2 e4)
    refine ⟨_, rfl, _, rfl, [g, g1, t] ++ [p], p, _, (rows, es), rfl, mA, oA4, f4.2, rPlan.m (Rm_mono e4) rpA, hmk, fun vw H5 f45 rw5 => ?_⟩
    refine ⟨_, _, rfl, ?_⟩
    have f5 := f4.trans f45
    have oA5 := f45.own oA4
    have rp5 := rPlan.m (f45.rm mA) (rPlan.m (Rm_mono e4) rpA)
    have o5 : Own [p] H5 := f45.own (o3.ex e4)
    have rg5 := (rL (rL rS)).m (f45.rm mp) ((rL (rL rS)).m (Rm_mono e4) rg)
    have rt5 := (rL rE).m (f45.rm mp) ((rL rE).m (Rm_mono e4) rt)
    have keep5 : ∀ b u, b ∈ [g, g1, t] → H2 b = some u → H5 b = some u := fun b u hb hu => rem_ex _ _ (f45.1 _ _ (rem_at (e4 _ _ (e3 _ _ hu)) (npot b hb)))
    have r5 : (rS_ K).p (mkS rows es) vs (Rm ([g, g1, t] ++ [p]) H5) := by
      have r1 : (rS_ K).p (mkS rows es) vs (Nw H3 (Rm [p] H5)) := (rS_ K).m (Nw_mono (f45.rm mp)) rs
      refine (rS_ K).m (fun b u hb => Rm_get (Rm_ex _ _ (Nw_ex _ _ hb)) fun m => ?_) r1
      rcases List.mem_append.mp m with m | m
      · obtain ⟨xs, hx, _⟩ := lst3 b m
        have := Nw_none hb
        rw [e3 _ _ hx] at this
        cases this
      · have := Nw_ex _ _ hb
        rw [Rm_own m] at this
        cases this
    -- what was given stays
    refine q_whenR o5 (b := false) (et_test' (er_B (ev_is (ev_op (ev_S o5 (er_reprD (d := givenD (rows, es)) (er_d2 (er_dvLL (er_var (i := 2) rfl rg5)) (er_dvE (er_var (i := 3) rfl rt5))) gsz.sh dgs (gsz.len (by decide)))) (ev_var (i := 5) rfl) (rv_ne rfl)) (by rw [decide_eq_true rfl]; rfl)))) (fun z => nomatch z) fun _ H6 e6 => ?_
    have rp6 := rPlan.m (Rm_mono e6) rp5
    have r6 := (rS_ K).m (Rm_mono e6) r5
    have rw6 := (rS_ K).m (Rm_mono e6) rw5
    have oA6 := oA5.ex e6
    have f6 := f5.trans (Pt.ex f5.2 e6)
    have keep6 : ∀ b u, b ∈ [g, g1, t] → H2 b = some u → H6 b = some u := fun b u hb hu => e6 _ _ (keep5 b u hb hu)
    have mg : g ∈ [g, g1, t] := List.mem_cons_self ..
    have mg1 : g1 ∈ [g, g1, t] := List.mem_cons_of_mem _ (List.mem_cons_self ..)
    have mt : t ∈ [g, g1, t] := List.mem_cons_of_mem _ (List.mem_cons_of_mem _ (List.mem_cons_self ..))
    have start_none : ∀ b, b ∈ [g, g1, t] → H b = none := fun b hb => by
      cases hh : H b with
      | none => rfl
      | some u =>
        have := rem_ex _ _ (f1.1 _ _ (rem_at hh (npot b hb)))
        rw [mem3 b hb] at this
        cases this
    -- changed behind
    have hg6 := keep6 g _ mg hG
    have hg16 := keep6 g1 _ mg1 hG1
    have at0 : atI gs 0 = some (.ref g1) := by
      show ((ixN gs.length 0).bind fun j => gs[j]?) = _
      have : ixN gs.length ((0 : Nat) : Int) = some 0 := ixN_nat (by omega)
      rw [show (0 : Int) = ((0 : Nat) : Int) from rfl, this]
      exact hu0
    refine ⟨_, rfl, g, gs, 0, _, rfl, rfl, sq_of hg6, at0, .inl ⟨rfl, ws, sq_of hg16⟩, g1, ws, _, rfl, rfl, hg16, sz_lt (by omega), ?_⟩
    have step : ∀ {Ha : Hp} {b : Addr} {xs : List V}, b ∈ [g, g1, t] → Own ([g, g1, t] ++ [p]) Ha → Pt p H Ha → Own ([g, g1, t] ++ [p]) (upd Ha b (.lst xs)) ∧ Pt p H (upd Ha b (.lst xs)) ∧ Rm ([g, g1, t] ++ [p]) (upd Ha b (.lst xs)) = Rm ([g, g1, t] ++ [p]) Ha := fun {Ha b xs} hb oa fa => ⟨oa.upd, Pt.back fa (Oth.upd (Ex.refl _)) (start_none b hb) (pot_oth fa.2 (Oth.upd (Ex.refl _)) (npot b hb).symm), Rm_upd (List.mem_append_left _ hb)⟩
    have still : ∀ {Ha : Hp} {b c : Addr} {xs : List V} {k : Nat}, xs.length ≤ k + 1 → (∃ ys, Ha c = some (.lst ys) ∧ ys.length ≤ k) → ∃ ys, (upd Ha b (.lst xs)) c = some (.lst ys) ∧ ys.length ≤ k + 1 := fun {Ha b c xs k} hx ⟨ys, hy, hl⟩ => by
      by_cases e : c = b
      · subst e
        exact ⟨xs, upd_same, hx⟩
      · exact ⟨ys, by rw [upd_ne e]; exact hy, by omega⟩
    have s7 := step (xs := ws ++ [V.str "later"]) mg1 oA6 f6
    have lg : ∃ ys, (upd H6 g1 (.lst (ws ++ [V.str "later"]))) g = some (.lst ys) ∧ ys.length ≤ 21 := still (k := 20) (by rw [List.length_append, List.length_singleton]; omega) ⟨gs, hg6, by omega⟩
    have lt7 : ∃ ys, (upd H6 g1 (.lst (ws ++ [V.str "later"]))) t = some (.lst ys) ∧ ys.length ≤ 21 := still (k := 20) (by rw [List.length_append, List.length_singleton]; omega) ⟨ts, keep6 t _ mt hT, by omega⟩
    obtain ⟨s71, s72, s73⟩ := s7
    have rp7 : rPlan.p (rows, es) v (Rm ([g, g1, t] ++ [p]) (upd H6 g1 (.lst (ws ++ [V.str "later"])))) := by rw [s73]; exact rp6
    have r7 : (rS_ K).p (mkS rows es) vs (Rm ([g, g1, t] ++ [p]) (upd H6 g1 (.lst (ws ++ [V.str "later"])))) := by rw [s73]; exact r6
    have rw7 : (rS_ K).p (mkS rows es) vw (Rm ([g, g1, t] ++ [p]) (upd H6 g1 (.lst (ws ++ [V.str "later"])))) := by rw [s73]; exact rw6
    show tSeq _ _ _ _ (upd H6 g1 (.lst (ws ++ [V.str "later"])))
    generalize (upd H6 g1 (.lst (ws ++ [V.str "later"]))) = H7 at lg lt7 s71 s72 rp7 r7 rw7 ⊢
    clear s73
    obtain ⟨ys, hy, hyl⟩ := lg
    refine ⟨_, rfl, .inl ⟨rfl, ys, sq_of hy⟩, g, ys, _, rfl, rfl, hy, sz_lt (by omega), ?_⟩
    obtain ⟨s81, s82, s83⟩ := step (xs := ys ++ [V.non]) mg s71 s72
    have lt8 : ∃ zs, (upd H7 g (.lst (ys ++ [V.non]))) t = some (.lst zs) ∧ zs.length ≤ 22 := still (k := 21) (by rw [List.length_append, List.length_singleton]; omega) lt7
    have rp8 : rPlan.p (rows, es) v (Rm ([g, g1, t] ++ [p]) (upd H7 g (.lst (ys ++ [V.non])))) := by rw [s83]; exact rp7
    have r8 : (rS_ K).p (mkS rows es) vs (Rm ([g, g1, t] ++ [p]) (upd H7 g (.lst (ys ++ [V.non])))) := by rw [s83]; exact r7
    have rw8 : (rS_ K).p (mkS rows es) vw (Rm ([g, g1, t] ++ [p]) (upd H7 g (.lst (ys ++ [V.non])))) := by rw [s83]; exact rw7
    show tSeq _ _ _ _ (upd H7 g (.lst (ys ++ [V.non])))
    generalize (upd H7 g (.lst (ys ++ [V.non]))) = H8 at lt8 s81 s82 rp8 r8 rw8 ⊢
    clear s83
    obtain ⟨zs, hz, hzl⟩ := lt8
    refine ⟨_, rfl, .inl ⟨rfl, zs, sq_of hz⟩, t, zs, _, rfl, rfl, hz, sz_lt (by omega), ?_⟩
    obtain ⟨s91, s92, s93⟩ := step (xs := zs ++ [V.non]) mt s81 s82
    have rp9 : rPlan.p (rows, es) v (Rm ([g, g1, t] ++ [p]) (upd H8 t (.lst (zs ++ [V.non])))) := by rw [s93]; exact rp8
    have r9 : (rS_ K).p (mkS rows es) vs (Rm ([g, g1, t] ++ [p]) (upd H8 t (.lst (zs ++ [V.non])))) := by rw [s93]; exact r8
    have rw9 : (rS_ K).p (mkS rows es) vw (Rm ([g, g1, t] ++ [p]) (upd H8 t (.lst (zs ++ [V.non])))) := by rw [s93]; exact rw8
    show tSeq _ _ _ _ (upd H8 t (.lst (zs ++ [V.non])))
    generalize (upd H8 t (.lst (zs ++ [V.non]))) = H9 at s91 s92 rp9 r9 rw9 ⊢
    clear s93
    generalize [g, g1, t] ++ [p] = A at s91 rp9 r9 rw9 mA
    have qT : ∀ {H' : Hp}, Ex H9 H' → Q (.bl true) H' := fun e => q _ (s92.trans (Pt.ex s92.2 e))
    have small2 : smallS (mkS rows es) = lawSmall (rows, es) := small_eq pk
    refine q_forW s91 (wk_range (n := 2) (er_I ev_c) (by decide)) (fun _ σ' H' => (∃ o4 o8, σ' = [some (.ref p), some v, some (.ref g), some (.ref t), o4, some (.str (givenD (rows, es)).shown), some vs, some vw, o8, none]) ∧ Ex H9 H') (fun H10 e => ⟨⟨_, _, rfl⟩, e⟩) (fun _ _ _ _ e q => ⟨q.1, q.2.trans e⟩) (fun H10 e10 i y u σ' H11 hy f11 f911 pv ru => ?_) fun σ' H10 f10 pv => ?_
    · obtain ⟨⟨o4, o8, rfl⟩, e11⟩ := pv
      have o11 := s91.ex e11
      have r11 := (rS_ K).m (Rm_mono e11) r9
      have rp11 := rPlan.m (Rm_mono e11) rp9
      refine q_whenR o11 (b := false) (et_is' (et_or' (et_not' (et_B' (er_call2G (er_var (i := 6) rfl r11) (er_var (i := 1) rfl rp11) pk))) fun _ => et_not' (et_B' (er_call2G (er_var (i := 6) rfl r11) (er_var (i := 1) rfl rp11) pk))) rfl) (fun z => nomatch z) fun _ H12 e12 => ?_
      have o12 := o11.ex e12
      have r12 := (rS_ K).m (Rm_mono e12) r11
      have rp12 := rPlan.m (Rm_mono e12) rp11
      refine q_whenR o12 (b := false) (et_is' (et_or' (et_not' (et_B' (er_call2 (er_var (i := 6) rfl r12) (er_var (i := 1) rfl rp12) pk))) fun _ => et_reprs (d := .bool (smallS (mkS rows es))) (n := 100) (m := 0) o12 (er_dv (er_meth0 (f := smallS) (Cd := Sok) (er_var (i := 6) rfl r12) (by decide +kernel) ok) asB) (er_is (er_dv (er_call1 (f := lawSmall) (er_var (i := 1) rfl rp12) hmk) asB) (by rw [small2])) (Sz.bool _) (by decide) (by decide)) rfl) (fun z => nomatch z) fun _ H13 e13 => ?_
      have o13 := o12.ex e13
      have r13 := (rS_ K).m (Rm_mono e13) r12
      exact s_dropR o13 (er_call1 (f := fun _ => ()) (er_var (i := 6) rfl r13) ok) fun H14 e14 => ⟨((f11.ex e12).ex e13).ex e14, ⟨_, _, rfl⟩, ((e11.trans e12).trans e13).trans e14⟩
    obtain ⟨⟨o4, o8, rfl⟩, e10⟩ := pv
    have oB := s91.ex e10
    have rB1 := (rS_ K).m (Rm_mono e10) r9
    have rwB := (rS_ K).m (Rm_mono e10) rw9
    have rpB := rPlan.m (Rm_mono e10) rp9
    refine q_whenR oB (b := false) (et_is' (et_or' (et_not' (et_test' (er_eqO (neg := false) (er_var (i := 6) rfl rB1) (er_var (i := 7) rfl rwB) ok ok))) fun _ => et_or' (et_test' (er_eqO (neg := true) (er_var (i := 6) rfl rB1) (er_var (i := 7) rfl rwB) ok ok)) fun _ => et_or' (et_test' (er_B (ev_op (ev_S oB (er_reprO (er_var (i := 7) rfl rwB) ok)) (ev_S oB (er_reprO (er_var (i := 6) rfl rB1) ok)) (rv_ne rfl)))) fun _ => et_neF (dtL (dtP dtS dtS)) (by decide) (er_NL (er_lines ex00 (er_var (i := 7) rfl rwB) ok)) (er_NL (er_lines ex00 (er_var (i := 6) rfl rB1) ok)) (fun e he => sok_lines ok e he) rfl) (by rw [decide_eq_true rfl, decide_eq_true rfl]; rfl)) (fun z => nomatch z) fun _ H14 e14 => ?_
    have oC := oB.ex e14
    have rC := (rS_ K).m (Rm_mono e14) rB1
    have rpC := rPlan.m (Rm_mono e14) rpB
    refine q_asgR' oC (er_make1 T.emp (er_is (er_lc1 (R := rL rS) (S := rL rS) id (wk_list (er_fst (er_var (i := 1) rfl rpC) (er_I ev_c))) (by show rows.length ≤ 40000; omega) (fun _ => rfl) fun l hl qs v2 H2 e2 _ _ r2 => er_list (er_toQ (er_var (i := 4) rfl r2))) (List.map_id _)) (bare_mk hmk)) fun vb H15 e15 rb => ?_
    have oD := oC.ex e15
    have rD := (rS_ K).m (Rm_mono e15) rC
    have rpD := rPlan.m (Rm_mono e15) rpC
    have okb : Sok (mkS rows []) := (bare_mk hmk).sok
    refine q_whenR oD (b := false) (et_is' (et_or' (et_neF (dtL (dtP dtS dtS)) (by decide) (er_NL (er_lines ex00 (er_var (i := 9) rfl rb) okb)) (er_lst (R := rE) eas_nil (by decide)) (fun _ h => nomatch h) (List.perm_nil.mp (srtT_perm []))) fun _ => et_test' (er_B (ev_op (ev_B oD (er_eqO (neg := false) (er_var (i := 9) rfl rb) (er_var (i := 6) rfl rD) okb ok)) (ev_B oD (er_eqD (dtL (dtP dtS dtS)) (by decide) (er_snd (er_var (i := 1) rfl rpD) (er_I ev_c)) (er_lst (R := rE) eas_nil (by decide)) okl (fun _ h => nomatch h))) (rv_ne rfl)))) (by have hb : decide (mkS rows [] = mkS rows es) = decide (es = []) := decide_eq_decide.mpr bare_iff; show (false || !decide (V.bl (decide (mkS rows [] = mkS rows es)) = V.bl (decide (es = [])))) = false; rw [decide_eq_true (congrArg V.bl hb)]; rfl)) (fun z => nomatch z) fun _ H16 e16 => ?_
    exact s_retR (oD.ex e16) (er_call2G (er_var (i := 6) rfl ((rS_ K).m (Rm_mono e16) rD)) (er_var (i := 1) rfl (rPlan.m (Rm_mono e16) rpD)) pk) fun vr H17 e17 rr => by
      obtain rfl : vr = .bl true := rr
      exact qT ((((e10.trans e14).trans e15).trans e16).trans e17)
  case len =>
    obtain ⟨p, rfl, _⟩ := h
    rfl
end
end K12
set_option Elab.async false
set_option linter.all false
set_option maxRecDepth 100000
set_option maxHeartbeats 4000000
namespace K12
open PySem PySem.Spec PyProof.Rows L2 Evl Gen RP ItX
section
variable {P : Program} {w : World} {K : PySem.W.Frag} {mg : Str → Option Value} {base : Heap} {fd : Nat → FuncData}
theorem sc_law : FnScope ["_law_script", "_law_k"] ["_law_script"] (defScope (topS 56)) := ⟨rfl, rfl, rfl, by decide +kernel, rfl, by decide +kernel, by decide +kernel⟩
theorem ok_law (T : Tx K mg fd) : FnOkG P w K mg base CX0 12 (He.ga K "law") (fd 30) ["_law_script"] (spLaw K) := by
  refine (T.df 30 56 "law" rfl).okG sc_law (fun vs H Q E h => ?len) (fun cdv A outer s H vs Q E hG hr h => ?body)
  case body =>
    refine ⟨_, (pss_one (ps_ret (pe_callB (cr_all rfl) (by rfl) (T.fr 42 "all" rfl) (by decide +kernel) (pa_cons (pe_lc (own := [("_law_k", 1)]) (g := gName 1) rfl sc_law.nd (pi_range1 (by rfl) (T.fr 45 "range" rfl) (pa_cons (pe_callB (call_max2 rfl) (by rfl) (T.fr 46 "max" rfl) (by decide +kernel) (pa_cons pe_int (pa_cons (pe_callB (call_min2 rfl) (by rfl) (T.fr 47 "min" rfl) (by decide +kernel) (pa_cons pe_int (pa_cons (pe_callB call_len (by rfl) (T.fr 41 "len" rfl) (by decide +kernel) (pa_cons (pv 0) pa_nil)) pa_nil))) pa_nil))) pa_nil)) (blkOk_by (N := ["_law_script", "_law_k"]) (sc := (defScope (topS 56))) (own := [("_law_k", 1)]) (by decide +kernel)) (fun _ _ _ _ _ => (pg_name (i := 1) sc_law.nd rfl (Or.inl rfl))) (fun _ _ _ _ _ => pts_nil) (fun _ _ _ _ _ => (pe_callG (ok_law_right T) hG (hr.mono (by decide)) (by rfl) (T.gl 31 "_law_right" rfl) (T.df 29 55 "_law_right" rfl).kp ((T.df 29 55 "_law_right" rfl).binds (ps := ["_law_pot_here"]) fun _ _ _ _ _ _ us hl => match us, hl with | [_], _ => rfl) pass0 (pa_cons (pe_call (ok_law_pot T) (hr.mono (by decide)) (by rfl) (T.gl 13 "_law_pot" rfl) (T.df 11 37 "_law_pot" rfl).kp ((T.df 11 37 "_law_pot" rfl).binds (ps := ["_law_script", "_law_k"]) fun _ _ _ _ _ _ us hl => match us, hl with | [_, _], _ => rfl) .nil pass0 (pa_cons (pv 0) (pa_cons (pv 1) pa_nil))) pa_nil)))) pa_nil)))), ?_⟩
    obtain ⟨a, ns, rfl, hS, hl, q⟩ := h
    have hn : ∃ n : Int, n = (if (if (ns.length : Int) < 3 then (ns.length : Int) else 3) > 1 then (if (ns.length : Int) < 3 then (ns.length : Int) else 3) else 1) ∧ 0 ≤ n ∧ n ≤ 3 := ⟨_, rfl, by split <;> (try split) <;> omega, by split <;> (try split) <;> omega⟩
    obtain ⟨n, en, n0, n3⟩ := hn
    refine s_ret (v := .bl true) ?_ fun H1 e1 => q H1
    refine ev_is (ev_all (bs := (List.range n.toNat).map fun _ => true) ?_) (by rw [List.all_map]; exact congrArg V.bl (List.all_eq_true.mpr fun _ _ => rfl))
    have e0 : given n.toNat (fun _ => true) (fun _ => V.bl true) = ((List.range n.toNat).map fun _ => true).map V.bl := by
      unfold given
      rw [List.filter_eq_self.mpr (fun _ _ => rfl), List.map_map] <;> rfl
    rw [← e0]
    refine el_lcR1 (fun _ => true) (fun _ => V.bl true) (ea_cons ?_ ea_nil) ⟨n0, by omega⟩ (fun _ => rfl) (fun _ _ _ _ H1 _ Q1 q1 => q1 H1 (Ex.refl _)) fun i H1 e1 hi _ => ?_
    · rw [en]
      exact ev_maxI ev_c (ev_minI ev_c (ev_lenX (ev_var rfl) fun H2 e2 Q2 q2 => ⟨_, _, rfl, .inl ⟨_, ex_l e2 hS, by rw [List.length_map]⟩, q2⟩))
    · intro H2 e2 Q2 q2
      refine ⟨_, rfl, _, rfl, a, ns, i, rfl, ex_l (e1.trans e2) hS, by omega, by omega, fun p H3 hp e3 hp3 => ⟨p, rfl, hp3, fun H4 f4 => q2 H4 fun b o hb => ?_⟩⟩
      exact rem_ex _ _ (f4.1 _ _ (rem_at (e3 _ _ hb) (ne_of_none hb hp)))
  case len =>
    obtain ⟨a, ns, rfl, _⟩ := h
    rfl
end
end K12
set_option Elab.async false
set_option linter.all false
set_option maxRecDepth 100000
set_option maxHeartbeats 0
namespace K12
open PySem PySem.Spec PyProof.Rows L2
theorem facts {P : Program} {w : World} {K : PySem.W.Frag} {h : Heap} {mg : Str → Option Value} {f : Addr} (X : K.In h) (G : h.Ns mainGlobals mg) (hfa : mg ("law" : Str) = some (.ref f)) (c : He.SaysX ex fa fn K) :
    ∃ fd : FuncData, (∀ (s : Shared) (v : Value), BindsTo s fd ⟨[v], []⟩ [("_law_script", v)]) ∧ ∀ base : Heap, K.In base → base.Ns mainGlobals mg → FnOkG P w K mg base CX0 12 f fd ["_law_script"] (spLaw K) := by
  obtain ⟨fd, T⟩ := Tx.of X G c
  have e := hfa.symm.trans (T.gl 32 "law" rfl)
  cases e
  obtain ⟨⟨oc, od, kV, doc, pm, an, cdv, ct, osl, efd, lk, hcd⟩, kp⟩ := T.df 30 56 "law" rfl
  refine ⟨fd 30, fun s v => ?_, fun base _ _ => ok_law T⟩
  rw [efd]
  exact .of_eq rfl
end K12
open PySem PySem.W PySem.Calls PyProof.Rows
theorem PySem.Challenge.cw_uplines_k12_sheets_told_holds : PySem.Challenge.rw_uplines_k12_sheets_told.Holds := by
  w_on; o_law
  refine HandSHeadRun.head_any (r := OpenLaw.row PySem.Challenge.rw_uplines_k12_sheets_told) (q := view (OpenLaw.row PySem.Challenge.rw_uplines_k12_sheets_told).prog [56]) (H := K12.hk) (ob := K12.ob) (M := 12000) (loose := K12.loose) (d := HandSHeadRun.topDef (OpenLaw.row PySem.Challenge.rw_uplines_k12_sheets_told).prog 56) (kwd := []) K12.ob_eq
    (by kernel_rfl) (fun s => by kernel_rfl) K12.run (by kernel_rfl) (by kernel_rfl) (by kernel_rfl) (by rfl) (by first | assumption | decide +kernel) (by decide +kernel) ⟨rfl, rfl, rfl, rfl, rfl, by decide +kernel⟩ ?hw ?hc
  case hw => w_witness2
  case hc =>
    refine L2.walk_ofG (l := PySem.Challenge.rw_uplines_k12_sheets_told) (n := 63) (k := 12) (x := "_law_script") rfl (by decide) (by kernel_rfl) ⟨rfl, by decide, by decide⟩ ?F
    intro w mg fa h Y G hmg0
    obtain ⟨K, KX, c⟩ := Y
    have hmg : mg ("law" : PySem.Str) = some (.ref fa) := by
      have e : (HandSHeadRun.topDef (OpenLaw.row PySem.Challenge.rw_uplines_k12_sheets_told).prog 56).name = ("law" : PySem.Str) := by kernel_rfl
      rw [← e]
      exact hmg0
    obtain ⟨fd, hb, hF⟩ := K12.facts (P := (PySem.Challenge.rw_uplines_k12_sheets_told).prog) (w := w) KX G hmg c
    exact ⟨K, fd, K12.spLaw K, KX, hb, fun H a ns hl _ hS => ⟨a, ns, rfl, hS, hl, fun _ => rfl⟩, hF⟩
