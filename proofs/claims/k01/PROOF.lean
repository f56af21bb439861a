import PyProof.Rows.All
import Wide.All
import OpenK.AllK
import Wide.FinOn
import PyProof.ReprRoads
import PyProof.ReprLen
import HandS.ForMost
import HandS.DeepEq
import HandS.Wide
import HandS.WordsList
import HandS.IsInst
import KE.KRevSl
import HandS.Flow
import HandS.TupAny
import HandS.Steps
import KE.DataCmp
import HandS.TupSets
import HandS.TupLe
import HandS.Zip
import KE.SortData
import PyProof.P3In
import PyProof.Rows.InDataRows
import HandS.ExcInit
import HandS.ExcField
import KE.KExcIs
import PySem.Challenge.RW_pagesworn_k01_forms_of_any_value
set_option Elab.async false
set_option linter.all false
set_option maxRecDepth 100000
set_option maxHeartbeats 4000000
namespace Pg
open PySem PySem.Spec PyProof.Rows L2

/-! ### data at any depth, dicts too -/
def keyD : Key → PyData
  | .inl i => .int i
  | .inr x => .str x
mutual
inductive Dd (K : PySem.W.Frag) (H : Hp) : V → PyData → Prop
  | non : Dd K H .non .none
  | bl (b : Bool) : Dd K H (.bl b) (.bool b)
  | int (i : Int) : Dd K H (.int i) (.int i)
  | str (x : Str) : Dd K H (.str x) (.str x)
  | lst {a : Addr} {xs : List V} {ds : List PyData} (q : SqL K H a xs) (r : Dds K H xs ds) : Dd K H (.ref a) (.list ds)
  | tup {a : Addr} {xs : List V} {ds : List PyData} (q : SqT K H a xs) (r : Dds K H xs ds) : Dd K H (.ref a) (.tuple ds)
  | dic {a : Addr} {kvs : List (Key × V)} {ds : List (PyData × PyData)} (q : H a = some (.dK kvs)) (r : Ddk K H kvs ds) : Dd K H (.ref a) (.dict ds)
inductive Dds (K : PySem.W.Frag) (H : Hp) : List V → List PyData → Prop
  | nil : Dds K H [] []
  | cons {v : V} {vs : List V} {d : PyData} {ds : List PyData} (h : Dd K H v d) (r : Dds K H vs ds) : Dds K H (v :: vs) (d :: ds)
inductive Ddk (K : PySem.W.Frag) (H : Hp) : List (Key × V) → List (PyData × PyData) → Prop
  | nil : Ddk K H [] []
  | cons {k : Key} {v : V} {vs : List (Key × V)} {d : PyData} {ds : List (PyData × PyData)} (h : Dd K H v d) (r : Ddk K H vs ds) : Ddk K H ((k, v) :: vs) ((keyD k, d) :: ds)
end
theorem same_seqT {K : PySem.W.Frag} {H H' : Hp} {a : Addr} {xs : List V} (e : Same H H') (h : SqT K H a xs) : SqT K H' a xs :=
  h.elim (fun r => .inl (r.elim (fun z => .inl (e _ _ z)) fun ⟨o, z⟩ => .inr ⟨o, e _ _ z⟩)) .inr
mutual
theorem Dd.up {K : PySem.W.Frag} {H H' : Hp} (e : Same H H') : ∀ (d : PyData) (v : V), Dd K H v d → Dd K H' v d
  | .none, _, h => by cases h; exact .non
  | .bool b, _, h => by cases h; exact .bl b
  | .int i, _, h => by cases h; exact .int i
  | .str x, _, h => by cases h; exact .str x
  | .list ds, _, h => by
    cases h with
    | lst q r => exact .lst (e.seq q) (Dds.up e ds _ r)
  | .tuple ds, _, h => by
    cases h with
    | tup q r => exact .tup (same_seqT e q) (Dds.up e ds _ r)
  | .dict ds, _, h => by
    cases h with
    | dic q r => exact .dic (e _ _ q) (Ddk.up e ds _ r)
theorem Dds.up {K : PySem.W.Frag} {H H' : Hp} (e : Same H H') : ∀ (ds : List PyData) (vs : List V), Dds K H vs ds → Dds K H' vs ds
  | [], _, h => by cases h; exact .nil
  | d :: ds, _, h => by
    cases h with
    | cons h r => exact .cons (Dd.up e d _ h) (Dds.up e ds _ r)
theorem Ddk.up {K : PySem.W.Frag} {H H' : Hp} (e : Same H H') : ∀ (ds : List (PyData × PyData)) (vs : List (Key × V)), Ddk K H vs ds → Ddk K H' vs ds
  | [], _, h => by cases h; exact .nil
  | (k, d) :: ds, _, h => by
    cases h with
    | cons h r => exact .cons (Dd.up e d _ h) (Ddk.up e ds _ r)
end
theorem all_in {bs cs ds : List Addr} {P : Addr → Prop} (h1 : ∀ b ∈ bs, P b) (h2 : ∀ b ∈ cs, P b) : ∀ b ∈ bs ++ cs, P b := fun b hb =>
  (List.mem_append.mp hb).elim (h1 b) (h2 b)

theorem rm0 (h : Heap) (n : Nat) : ReadAtMost h n [] := fun _ z => by cases z
section
variable {X : Cx} {pins : List (Addr × Obj)} {σ : L2.St} {H : Hp} {s : Shared}
theorem key_say {k : Key} {u : Value} (h : keyIs k u = true) : Reads s.heap u (keyD k) [] ∧ (keyD k).depth = 0 ∧
    ((keyD k).showable = true → (keyD k).shown.length ≤ sizeLine → ∀ bs n, ReprK X.prog X.w bs s.heap n u (keyD k).shown) := by
  rcases keyIs_shape h with ⟨i, t, rfl, rfl⟩ | ⟨x, t, rfl, rfl⟩
  · refine ⟨.int i t, rfl, fun hs _ bs n => ?_⟩
    show ReprK X.prog X.w bs s.heap n _ (PyData.int i).shown
    rw [show (PyData.int i).shown = toString i by simp only [PyData.shown]]
    refine ReprK.of_is (ReprIs.int t ?_) bs _ n
    simpa [keyD, PyData.showable] using hs
  · refine ⟨.str x t, rfl, fun _ hz bs n => ?_⟩
    show ReprK X.prog X.w bs s.heap n _ (PyData.str x).shown
    rw [show (PyData.str x).shown = reprText x by simp only [PyData.shown]]
    refine ReprK.of_is (ReprIs.str x t ?_) bs _ n
    simpa [keyD, PyData.shown] using hz
mutual
/-- a value that stands for d reads as d, and its repr is the text of d -/
theorem dd_say (I : Inv X pins σ H s) : ∀ (d : PyData) (v : V) (u : Value), Dd X.K H v d → RelV v u →
    ∃ as, Reads s.heap u d as ∧ (d.showable = true → d.shown.length ≤ sizeLine → ∃ bs, ReadAtMost s.heap d.depth bs ∧ ReprK X.prog X.w bs s.heap d.depth u d.shown)
  | .none, _, _, h, r => by
    cases h; cases r
    exact ⟨_, .none, fun _ _ => ⟨[], rm0 _ _, by simp only [PyData.shown]; exact ReprK.of_is ReprIs.none _ _ _⟩⟩
  | .bool b, _, _, h, r => by
    cases h; cases r
    exact ⟨_, .bool b, fun _ _ => ⟨[], rm0 _ _, by simp only [PyData.shown]; exact ReprK.of_is (ReprIs.bool b) _ _ _⟩⟩
  | .int i, _, _, h, r => by
    cases h
    obtain ⟨t, rfl⟩ := r
    refine ⟨_, .int i t, fun hs _ => ⟨[], rm0 _ _, ?_⟩⟩
    simp only [PyData.shown]
    exact ReprK.of_is (ReprIs.int t (by simpa [PyData.showable] using hs)) _ _ _
  | .str x, _, _, h, r => by
    cases h
    obtain ⟨t, rfl⟩ := r
    refine ⟨_, .str x t, fun _ hz => ⟨[], rm0 _ _, ?_⟩⟩
    simp only [PyData.shown] at hz ⊢
    exact ReprK.of_is (ReprIs.str x t hz) _ _ _
  | .list ds, _, _, h, r => by
    cases h with
    | @lst a xs _ q rr =>
      cases r
      obtain ⟨its, rv, ⟨o, n, ho, hc, _, hd⟩, _⟩ := I.list q
      obtain ⟨as, hr, hk⟩ := dds_say I ds xs its rr rv
      have R : Reads s.heap (.ref a) (.list ds) (a :: as) := Reads.list ho hc hd hr
      refine ⟨_, R, fun hs hz => ?_⟩
      simp only [PyData.shown] at hz
      obtain ⟨bs, hb, kk⟩ := hk (by simpa [PyData.showable] using hs) fun t ht => Nat.le_trans (listText_mem_le ht) hz
      have hna : a ∉ bs := not_mem_of_deeper R (by simp only [PyData.depth]; omega) hb
      refine ⟨a :: bs, ReadAtMost.cons R (by simp only [PyData.depth]; omega) hb, ?_⟩
      simp only [PyData.depth, PyData.shown]
      cases its with
      | nil =>
        cases kk' : PyData.shownAll ds with
        | nil => rw [listText_nil]; exact ReprK.listEmpty ho hc hd
        | cons t ts =>
          rw [kk'] at kk
          exact nomatch kk
      | cons z its =>
        refine ReprK.list ho hc hd hna (by simpa using kk.length_eq) fun i y e => ?_
        exact kk.item i y (by simpa using e)
  | .tuple ds, _, _, h, r => by
    cases h with
    | @tup a xs _ q rr =>
      cases r
      obtain ⟨its, rv, ⟨o, ho, hc, n, hd⟩, _⟩ := I.tuple q
      obtain ⟨as, hr, hk⟩ := dds_say I ds xs its rr rv
      have R : Reads s.heap (.ref a) (.tuple ds) as := Reads.tuple ho hc hd hr
      refine ⟨_, R, fun hs hz => ?_⟩
      simp only [PyData.shown] at hz
      obtain ⟨bs, hb, kk⟩ := hk (by simpa [PyData.showable] using hs) fun t ht => Nat.le_trans (tupleText_mem_le ht) hz
      have hna : a ∉ bs := not_mem_of_deeper R (by simp only [PyData.depth]; omega) hb
      refine ⟨a :: bs, ReadAtMost.cons R (by simp only [PyData.depth]; omega) hb, ?_⟩
      simp only [PyData.depth, PyData.shown]
      exact ReprK.tuple ho hc hd hna kk
  | .dict ds, _, _, h, r => by
    cases h with
    | @dic a kvs _ q rr =>
      cases r
      obtain ⟨_, lo, vs, rel, o, es, ep, ho, hx, hd, _, hp, _⟩ := (show ObjOk X.prog X.w H s.heap a (.dK kvs) from I.hok a _ q)
      obtain ⟨as, cs, h1, h2, hk⟩ := ddk_say I ds kvs es.toList vs rr rel hp
      have R : Reads s.heap (.ref a) (.dict ds) (a :: as ++ cs) := Reads.dict ho hx.1 hd h1 h2
      refine ⟨_, R, fun hs hz => ?_⟩
      simp only [PyData.shown] at hz
      obtain ⟨bs, hb, kk⟩ := hk (by simpa [PyData.showable] using hs) fun t ht => Nat.le_trans (dictText_mem_le ht) hz
      have hna : a ∉ bs := not_mem_of_deeper R (by simp only [PyData.depth]; omega) hb
      refine ⟨a :: bs, ReadAtMost.cons R (by simp only [PyData.depth]; omega) hb, ?_⟩
      simp only [PyData.depth, PyData.shown]
      exact ReprK.dict ho hx.1 hd lo hna kk
theorem dds_say (I : Inv X pins σ H s) : ∀ (ds : List PyData) (vs : List V) (us : List Value), Dds X.K H vs ds → Vals vs us →
    ∃ as, ReadsAll s.heap us ds as ∧ (PyData.showableAll ds = true → (∀ t ∈ PyData.shownAll ds, t.length ≤ sizeLine) → ∃ bs, ReadAtMost s.heap (PyData.depthAll ds) bs ∧ ReprAllK X.prog X.w bs s.heap (PyData.depthAll ds) us (PyData.shownAll ds))
  | [], _, _, h, r => by
    cases h; cases r
    exact ⟨_, .nil, fun _ _ => ⟨[], rm0 _ _, by simp only [PyData.shownAll]; exact .nil⟩⟩
  | d :: ds, _, _, h, r => by
    cases h with
    | cons h1 h2 =>
      cases r with
      | cons r1 r2 =>
        obtain ⟨as, q1, k1⟩ := dd_say I d _ _ h1 r1
        obtain ⟨cs, q2, k2⟩ := dds_say I ds _ _ h2 r2
        refine ⟨_, .cons q1 q2, fun hs hz => ?_⟩
        have hs' : d.showable = true ∧ PyData.showableAll ds = true := by simpa [PyData.showableAll] using hs
        simp only [PyData.shownAll, List.mem_cons] at hz
        obtain ⟨b1, m1, j1⟩ := k1 hs'.1 (hz _ (.inl rfl))
        obtain ⟨b2, m2, j2⟩ := k2 hs'.2 fun t ht => hz t (.inr ht)
        refine ⟨b1 ++ b2, ?_, ?_⟩
        · simp only [PyData.depthAll]
          exact (m1.mono (Nat.le_max_left _ _)).append (m2.mono (Nat.le_max_right _ _))
        · simp only [PyData.depthAll, PyData.shownAll]
          refine .cons ((j1.more fun b hb => ?_).level_le (Nat.le_max_left _ _)) (j2.more_le (fun b hb => ?_) (Nat.le_max_right _ _))
          · exact List.mem_append.mpr (.inl hb)
          · exact List.mem_append.mpr (.inr hb)
theorem ddk_say (I : Inv X pins σ H s) : ∀ (ds : List (PyData × PyData)) (kvs : List (Key × V)) (es : List DictEntry) (vs : List (Key × Value)), Ddk X.K H kvs ds → KV kvs vs → Pairs (mixKind X.prog X.w) es vs →
    ∃ as cs, ReadsAll s.heap (es.map (·.key)) (ds.map (·.1)) as ∧ ReadsAll s.heap (es.map (·.val)) (ds.map (·.2)) cs ∧
      (PyData.showableKv ds = true → (∀ t ∈ PyData.shownKv ds, t.length ≤ sizeLine) → ∃ bs, ReadAtMost s.heap (PyData.depthKv ds) bs ∧ ReprEntriesK X.prog X.w bs s.heap (PyData.depthKv ds) es (PyData.shownKv ds))
  | [], _, _, _, h, r, p => by
    cases h; cases r; cases p
    exact ⟨_, _, .nil, .nil, fun _ _ => ⟨[], rm0 _ _, by simp only [PyData.shownKv]; exact .nil⟩⟩
  | (kd, d) :: ds, _, _, _, h, r, p => by
    cases h with
    | @cons k v vr _ _ h1 h2 =>
      cases r with
      | @cons _ kv _ vs r1 r2 =>
        cases p with
        | @cons e _ es _ pk pv pr =>
          obtain ⟨ke, rv⟩ := r1
          obtain ⟨k', u⟩ := kv
          have ek : k = k' := ke
          subst ek
          have ev : e.val = u := pv
          obtain ⟨ka, k0, kr⟩ := key_say (X := X) (s := s) (k := k) (u := e.key) pk
          obtain ⟨as, q1, j1⟩ := dd_say I d v e.val h1 (by rw [ev]; exact rv)
          obtain ⟨as2, cs2, q2, q3, j2⟩ := ddk_say I ds vr es vs h2 r2 pr
          refine ⟨_, _, .cons ka q2, .cons q1 q3, fun hs hz => ?_⟩
          have hs' : ((keyD k).showable = true ∧ d.showable = true) ∧ PyData.showableKv ds = true := by simpa [PyData.showableKv] using hs
          simp only [PyData.shownKv, List.mem_cons] at hz
          have hl := hz _ (.inl rfl)
          rw [strLen_append, strLen_append] at hl
          obtain ⟨b1, m1, g1⟩ := j1 hs'.1.2 (by omega)
          obtain ⟨b2, m2, g2⟩ := j2 hs'.2 fun t ht => hz t (.inr ht)
          refine ⟨b1 ++ b2, ?_, ?_⟩
          · simp only [PyData.depthKv]
            exact (m1.mono (by omega)).append (m2.mono (by omega))
          · simp only [PyData.depthKv, PyData.shownKv]
            refine .cons (kr hs'.1.1 (by omega) _ _) ((g1.more fun b hb => List.mem_append.mpr (.inl hb)).level_le (by omega)) ?_
            exact entries_more (fun b hb => List.mem_append.mpr (.inr hb)) (by omega) g2
theorem entries_more {prog : Program} {w : World} {h₀ : Heap} {as cs : List Addr} {m n : Nat} (hs : ∀ b ∈ as, b ∈ cs) (hn : m ≤ n) : ∀ {es : List DictEntry} {ps : List Str}, ReprEntriesK prog w as h₀ m es ps → ReprEntriesK prog w cs h₀ n es ps
  | _, _, .nil => .nil
  | _, _, .cons a b c => .cons ((a.more hs).level_le hn) ((b.more hs).level_le hn) (entries_more hs hn c)
end
end
end Pg

set_option Elab.async false
set_option linter.all false
set_option maxRecDepth 100000
set_option maxHeartbeats 4000000
namespace Pg
open PySem PySem.Spec PyProof.Rows L2

/-! ### == of two values that stand for the same data -/
section
open PySem.SeqAt PySem.AutoSeq1
variable {prog : Program} {w : World}
theorem tup_alike (l b : Addr) (xs ys : Array Value) (n n2 : Nat) (dd dd2 : Option Addr) (sl sl2 : Array (Option Value)) (hsz : xs.size = ys.size) :
    MeetsIn prog w (Builtin.«tuple.__eq__» ⟨[.ref l, .ref b], []⟩)
      (fun A R s => s.heap.get? l = some { cls := .type "tuple", dict := dd, data := .seq xs n, slots := sl } ∧
        s.heap.get? b = some { cls := .type "tuple", dict := dd2, data := .seq ys n2, slots := sl2 } ∧
        (∀ j (h1 : j < xs.size) (h2 : j < ys.size), EqP prog w A.in1 s xs[j] ys[j] true) ∧ R (.ok (.ret (.bool true))) s) := by
  intro A R s h
  obtain ⟨hp, g, d, tk, os⟩ := s
  obtain ⟨hl, hb, he, hR⟩ := h
  have f2 := PySem.AutoSeq1.sub_tuple_tuple
  have hZ : (xs.toList.zip ys.toList).length = xs.size := by simp; omega
  wp_walk using wpAny_loadPart' hl, wpAny_loadPart' hb, wpAny_forIn_list _ (fun rest z s' => z.1 = none ∧ s' = ⟨hp, g, d, tk, os⟩ ∧ ∃ i, rest = (xs.toList.zip ys.toList).drop i) _
  case turn =>
    rintro ⟨y, x⟩ rest z s' ⟨hz', rfl, i, hz⟩
    have hlt : i < (xs.toList.zip ys.toList).length := by
      rcases Nat.lt_or_ge i (xs.toList.zip ys.toList).length with k | k
      · exact k
      · rw [List.drop_of_length_le k] at hz
        cases hz
    have h1 : i < xs.size := by omega
    have h2 : i < ys.size := by omega
    rw [List.drop_eq_getElem_cons hlt] at hz
    injection hz with hyx hrest
    have hy : y = xs[i] := by simpa using congrArg Prod.fst hyx
    have hx : x = ys[i] := by simpa using congrArg Prod.snd hyx
    subst hy hx
    refine wpAny_bind (he i h1 h2 _ _ ?_)
    wp_walk
    exact ⟨rfl, rfl, i + 1, hrest⟩
  case fin =>
    rintro ⟨z1, z2⟩ s' ⟨hz', rfl, _⟩
    simp only at hz'
    subst hz'
    wp_walk
    simpa [Builtin.Tuple.tupleCompareSizes, hsz] using hR
  case h =>
    exact ⟨rfl, rfl, 0, rfl⟩
theorem rc_tuples {A : Around} {s : Shared} {l b : Addr} {xs ys : Array Value} (hl : s.heap.IsTuple l xs) (hb : s.heap.IsTuple b ys) (hsz : xs.size = ys.size) (hu : A.units < cLine)
    (he : ∀ j (h1 : j < xs.size) (h2 : j < ys.size), EqP prog w A.in1 s xs[j] ys[j] true) (E Q : Value → Shared → Prop) (h : Q (.bool true) s) : wpAny (model prog w) A (richCompare .Eq (.ref l) (.ref b)) Q E s := by
  obtain ⟨⟨c1, d1, t1, s1⟩, o1, e1, n1, k1⟩ := id hl
  obtain ⟨⟨c2, d2, t2, s2⟩, o2, e2, n2, k2⟩ := id hb
  simp only at e1 k1 e2 k2
  subst e1 k1 e2 k2
  have ta : s.TypeIs (.ref l) "tuple" := ⟨_, o1, rfl⟩
  have tb : s.TypeIs (.ref b) "tuple" := ⟨_, o2, rfl⟩
  refine wpAny_richCompare_same_room (op := .Eq) ta tb F.slot_tuple_eq (call_meetsIn F.slot_tuple_eq ta F.entry_tuple_eq (F.args_tuple_eq_2 _ _) (tup_alike l b xs ys n1 n2 d1 d2 s1 s2 hsz) ⟨o1, o2, he, ?_⟩) hu
  show Value.bool true ≠ Value.notImplemented ∧ Q (.bool true) s
  exact ⟨(fun x => nomatch x), h⟩
end

section
variable {X : Cx} {pins : List (Addr × Obj)} {σ : L2.St} {H : Hp} {s : Shared}
theorem rc_list (I : Inv X pins σ H s) (ds : List PyData) (A : Around) (a b : Addr) (xs ys : List V) (hu : A.units < cLine) (q1 : SqL X.K H a xs) (q2 : SqL X.K H b ys)
    (k : ∀ A' : Around, A'.units + PyData.depthAll ds < cLine → ∀ (us vs : List Value), Vals xs us → Vals ys vs → us.length = vs.length ∧ ∀ j (h1 : j < us.length) (h2 : j < vs.length), SeqAt.EqP X.prog X.w A' s us[j] vs[j] true)
    (hu2 : A.units + 1 + PyData.depthAll ds < cLine) (E Q : Value → Shared → Prop) (h : Q (.bool true) s) : wpAny (model X.prog X.w) A (richCompare .Eq (.ref a) (.ref b)) Q E s := by
  obtain ⟨us, r1, p1, _⟩ := I.list q1
  obtain ⟨vs, r2, p2, _⟩ := I.list q2
  obtain ⟨hl, hj⟩ := k A.in1 hu2 us vs r1 r2
  refine SeqAt.rcP_lists (e := fun _ => true) p1.isList p2.isList (by simpa using hl) hu (fun j h1 h2 => ?_) E Q ?_
  · simpa using hj j (by simpa using h1) (by simpa using h2)
  · rw [show ((List.range us.toArray.size).all fun _ => true) = true from List.all_eq_true.mpr fun _ _ => rfl]
    exact h
theorem rc_tup (I : Inv X pins σ H s) (ds : List PyData) (A : Around) (a b : Addr) (xs ys : List V) (hu : A.units < cLine) (q1 : SqT X.K H a xs) (q2 : SqT X.K H b ys)
    (k : ∀ A' : Around, A'.units + PyData.depthAll ds < cLine → ∀ (us vs : List Value), Vals xs us → Vals ys vs → us.length = vs.length ∧ ∀ j (h1 : j < us.length) (h2 : j < vs.length), SeqAt.EqP X.prog X.w A' s us[j] vs[j] true)
    (hu2 : A.units + 1 + PyData.depthAll ds < cLine) (E Q : Value → Shared → Prop) (h : Q (.bool true) s) : wpAny (model X.prog X.w) A (richCompare .Eq (.ref a) (.ref b)) Q E s := by
  obtain ⟨us, r1, p1, _⟩ := I.tuple q1
  obtain ⟨vs, r2, p2, _⟩ := I.tuple q2
  obtain ⟨hl, hj⟩ := k A.in1 hu2 us vs r1 r2
  obtain ⟨o1, g1, c1, n1, t1⟩ := p1
  obtain ⟨o2, g2, c2, n2, t2⟩ := p2
  refine rc_tuples ⟨o1, g1, c1, n1, t1⟩ ⟨o2, g2, c2, n2, t2⟩ (by simpa using hl) hu (fun j h1 h2 => ?_) E Q h
  simpa using hj j (by simpa using h1) (by simpa using h2)
theorem rc_dic (I : Inv X pins σ H s) (ds : List (PyData × PyData)) (A : Around) (a b : Addr) (ks ls : List (Key × V)) (hu : A.units < cLine) (q1 : H a = some (.dK ks)) (q2 : H b = some (.dK ls))
    (k : ∀ A' : Around, A'.units + PyData.depthKv ds < cLine → ∀ (vs ws pre : List (Key × Value)), KV ks vs → KV ls ws → ((pre ++ ws).map (·.1)).Nodup → vs.length = ws.length ∧ PySem.W.KeqHitsP X.prog X.w A' s (pre ++ ws) vs true)
    (hu2 : A.units + 1 + PyData.depthKv ds < cLine) (E Q : Value → Shared → Prop) (h : Q (.bool true) s) : wpAny (model X.prog X.w) A (richCompare .Eq (.ref a) (.ref b)) Q E s := by
  obtain ⟨_, ya, va, ra, da⟩ := (show ObjOk X.prog X.w H s.heap a (.dK ks) from I.hok a _ q1)
  obtain ⟨_, yb, vb, rb, db⟩ := (show ObjOk X.prog X.w H s.heap b (.dK ls) from I.hok b _ q2)
  obtain ⟨_, _, _, _, _, _, _, _, hn⟩ := id db
  obtain ⟨hl, hh⟩ := k A.in1 hu2 va vb [] ra rb hn
  refine PySem.W.rcP_dicts (knd := mixKind X.prog X.w) (r := true) ya yb da db hu (fun _ => hh) E Q ?_
  rw [show (va.length == vb.length && true) = true by rw [hl]; simp]
  exact h
theorem value_mid {k : Key} {y : Value} {pre r : List (Key × Value)} (h : ((pre ++ (k, y) :: r).map (·.1)).Nodup) : valueAt (pre ++ (k, y) :: r) k = some y := by
  have hn : pre.find? (fun kv => decide (kv.1 = k)) = none := by
    rw [List.find?_eq_none]
    intro z hz e
    have e' : z.1 = k := by simpa using e
    rw [List.map_append, List.nodup_append] at h
    exact h.2.2 z.1 (List.mem_map.mpr ⟨z, hz, rfl⟩) k (by simp) e'
  unfold valueAt
  rw [List.find?_append, hn]
  simp
mutual
theorem dd_eq (I : Inv X pins σ H s) : ∀ (d : PyData) (A : Around) (x y : V) (u v : Value), A.units + d.depth < cLine → Dd X.K H x d → Dd X.K H y d → RelV x u → RelV y v → SeqAt.EqP X.prog X.w A s u v true
  | .none, _, _, _, _, _, _, h1, h2, r1, r2 => by
    cases h1; cases h2
    exact (eqAt_same r1 r2 rfl).eqP
  | .bool _, _, _, _, _, _, _, h1, h2, r1, r2 => by
    cases h1; cases h2
    exact (eqAt_same r1 r2 rfl).eqP
  | .int _, _, _, _, _, _, _, h1, h2, r1, r2 => by
    cases h1; cases h2
    exact (eqAt_same r1 r2 rfl).eqP
  | .str _, _, _, _, _, _, _, h1, h2, r1, r2 => by
    cases h1; cases h2
    exact (eqAt_same r1 r2 rfl).eqP
  | .list ds, A, _, _, _, _, hu, h1, h2, r1, r2 => by
    have hd : PyData.depth (.list ds) = PyData.depthAll ds + 1 := by simp only [PyData.depth]
    cases h1 with
    | @lst a xs _ q1 k1 =>
      cases h2 with
      | @lst b ys _ q2 k2 =>
        cases r1; cases r2
        by_cases e : a = b
        · subst e
          exact (SeqAt.EqAt.same _).eqP
        · exact SeqAt.eqP_refs e fun E Q hq => rc_list I ds A a b xs ys (by omega) q1 q2 (fun A' hA' => dds_eq I ds A' xs ys hA' k1 k2) (by omega) E Q hq
  | .tuple ds, A, _, _, _, _, hu, h1, h2, r1, r2 => by
    have hd : PyData.depth (.tuple ds) = PyData.depthAll ds + 1 := by simp only [PyData.depth]
    cases h1 with
    | @tup a xs _ q1 k1 =>
      cases h2 with
      | @tup b ys _ q2 k2 =>
        cases r1; cases r2
        by_cases e : a = b
        · subst e
          exact (SeqAt.EqAt.same _).eqP
        · exact SeqAt.eqP_refs e fun E Q hq => rc_tup I ds A a b xs ys (by omega) q1 q2 (fun A' hA' => dds_eq I ds A' xs ys hA' k1 k2) (by omega) E Q hq
  | .dict ds, A, _, _, _, _, hu, h1, h2, r1, r2 => by
    have hd : PyData.depth (.dict ds) = PyData.depthKv ds + 1 := by simp only [PyData.depth]
    cases h1 with
    | @dic a ks _ q1 k1 =>
      cases h2 with
      | @dic b ls _ q2 k2 =>
        cases r1; cases r2
        by_cases e : a = b
        · subst e
          exact (SeqAt.EqAt.same _).eqP
        · exact SeqAt.eqP_refs e fun E Q hq => rc_dic I ds A a b ks ls (by omega) q1 q2 (fun A' hA' vs ws pre e1 e2 e3 => ddk_eq I ds A' ks ls vs ws pre hA' k1 k2 e1 e2 e3) (by omega) E Q hq
theorem dds_eq (I : Inv X pins σ H s) : ∀ (ds : List PyData) (A : Around) (xs ys : List V), A.units + PyData.depthAll ds < cLine → Dds X.K H xs ds → Dds X.K H ys ds →
    ∀ (us vs : List Value), Vals xs us → Vals ys vs → us.length = vs.length ∧ ∀ j (h1 : j < us.length) (h2 : j < vs.length), SeqAt.EqP X.prog X.w A s us[j] vs[j] true
  | [], _, _, _, _, h1, h2, _, _, r1, r2 => by
    cases h1; cases h2; cases r1; cases r2
    exact ⟨rfl, fun j h1 _ => absurd h1 (Nat.not_lt_zero j)⟩
  | d :: ds, A, _, _, hu, h1, h2, _, _, r1, r2 => by
    simp only [PyData.depthAll] at hu
    cases h1 with
    | cons a1 b1 =>
      cases h2 with
      | cons a2 b2 =>
        cases r1 with
        | cons c1 e1 =>
          cases r2 with
          | cons c2 e2 =>
            obtain ⟨hl, hj⟩ := dds_eq I ds A _ _ (by omega) b1 b2 _ _ e1 e2
            refine ⟨by rw [List.length_cons, List.length_cons, hl], fun j h1 h2 => ?_⟩
            cases j with
            | zero => exact dd_eq I d A _ _ _ _ (by omega) a1 a2 c1 c2
            | succ j => exact hj j (Nat.lt_of_succ_lt_succ h1) (Nat.lt_of_succ_lt_succ h2)
theorem ddk_eq (I : Inv X pins σ H s) : ∀ (ds : List (PyData × PyData)) (A : Around) (ks ls : List (Key × V)) (vs ws pre : List (Key × Value)), A.units + PyData.depthKv ds < cLine → Ddk X.K H ks ds → Ddk X.K H ls ds → KV ks vs → KV ls ws →
    ((pre ++ ws).map (·.1)).Nodup → vs.length = ws.length ∧ PySem.W.KeqHitsP X.prog X.w A s (pre ++ ws) vs true
  | [], _, _, _, _, _, _, _, h1, h2, r1, r2, _ => by
    cases h1; cases h2; cases r1; cases r2
    exact ⟨rfl, .nil⟩
  | (kd, d) :: ds, A, _, _, _, _, pre, hu, h1, h2, r1, r2, hn => by
    simp only [PyData.depthKv] at hu
    generalize hz : ((kd, d) :: ds : List (PyData × PyData)) = zs at h2
    cases h1 with
    | @cons k x xs _ _ a1 b1 =>
      cases h2 with
      | nil => cases hz
      | @cons k2 y ys d2 ds2 a2 b2 =>
        injection hz with hz1 hz2
        injection hz1 with hz3 hz4
        subst hz2 hz4
        have ek : k = k2 := by
          cases k <;> cases k2 <;> simp [keyD] at hz3 <;> simp [hz3]
        subst ek
        cases r1 with
        | @cons _ p1 _ vs c1 e1 =>
          cases r2 with
          | @cons _ p2 _ ws c2 e2 =>
            obtain ⟨f1, g1⟩ := c1
            obtain ⟨f2, g2⟩ := c2
            obtain ⟨k1, u⟩ := p1
            obtain ⟨k3, v⟩ := p2
            have m1 : k = k1 := f1
            have m2 : k = k3 := f2
            subst m1 m2
            have hn' : (((pre ++ [(k, v)]) ++ ws).map (·.1)).Nodup := by simpa using hn
            obtain ⟨hl, hh⟩ := ddk_eq I ds A _ _ _ _ (pre ++ [(k, v)]) (by omega) b1 b2 e1 e2 hn'
            have hh' : PySem.W.KeqHitsP X.prog X.w A s (pre ++ (k, v) :: ws) vs true := by simpa using hh
            refine ⟨by rw [List.length_cons, List.length_cons, hl], ?_⟩
            exact PySem.W.KeqHitsP.hit (e := true) (b := true) (value_mid hn) (dd_eq I d A _ _ _ _ (by omega) a1 a2 g1 g2) hh'
end
end

section
variable {X : Cx}
/-- x == y where both stand for the same data -/
def rAlike (K : PySem.W.Frag) : R2 := fun x y H Q => ∃ d, Dd K H x d ∧ Dd K H y d ∧ d.depth ≤ 60 ∧ Q (.bl true) H
theorem op_alike (hu : X.A.units + 64 < cLine) : OpR X (compareOp .Eq) (rAlike X.K) := by
  intro pins s σ H x y v u Q I rx ry h
  obtain ⟨d, h1, h2, hd, q⟩ := h
  have fin : EP X pins σ Q (.bool true) s := ⟨.bl true, H, I, rfl, q⟩
  have flat : ∀ z : V, x = z → y = z → scal z z = true → wpAny (model X.prog X.w) X.A (compareOp .Eq v u) (EP X pins σ Q) X.xe s := fun z e1 e2 e3 => by
    subst e1
    subst e2
    refine op_eq pins s σ H _ _ v u Q I rx ry ⟨e3, ?_⟩
    rw [decide_eq_true rfl]
    exact q
  cases d with
  | none => cases h1; cases h2; exact flat _ rfl rfl rfl
  | bool b => cases h1; cases h2; exact flat _ rfl rfl rfl
  | int i => cases h1; cases h2; exact flat _ rfl rfl rfl
  | str i => cases h1; cases h2; exact flat _ rfl rfl rfl
  | list ds =>
    simp only [PyData.depth] at hd
    cases h1 with
    | @lst a xs _ q1 k1 =>
      cases h2 with
      | @lst b ys _ q2 k2 =>
        cases rx; cases ry
        exact rc_list I ds X.A a b xs ys (by omega) q1 q2 (fun A' hA' => dds_eq I ds A' xs ys hA' k1 k2) (by omega) _ _ fin
  | tuple ds =>
    simp only [PyData.depth] at hd
    cases h1 with
    | @tup a xs _ q1 k1 =>
      cases h2 with
      | @tup b ys _ q2 k2 =>
        cases rx; cases ry
        exact rc_tup I ds X.A a b xs ys (by omega) q1 q2 (fun A' hA' => dds_eq I ds A' xs ys hA' k1 k2) (by omega) _ _ fin
  | dict ds =>
    simp only [PyData.depth] at hd
    cases h1 with
    | @dic a ks _ q1 k1 =>
      cases h2 with
      | @dic b ls _ q2 k2 =>
        cases rx; cases ry
        exact rc_dic I ds X.A a b ks ls (by omega) q1 q2 (fun A' hA' vs ws pre e1 e2 e3 => ddk_eq I ds A' ks ls vs ws pre hA' k1 k2 e1 e2 e3) (by omega) _ _ fin

/-! ### repr -/
def rRepr (K : PySem.W.Frag) : List V → Hp → VK → Prop := fun xs H Q => ∃ v d, xs = [v] ∧ Dd K H v d ∧ d.depth ≤ 60 ∧ d.showable = true ∧ d.shown.length ≤ sizeLine ∧ Q (.str d.shown) H
theorem call_reprD (hg : X.A.guards = some []) (hu : X.A.units + 64 < cLine) : CallR X (.builtin "repr") (rRepr X.K) := by
  intro pins s σ H xs us Q I r h
  obtain ⟨v, d, rfl, hd, hz, hs, hl, q⟩ := h
  obtain ⟨u, rfl, ru⟩ := vals1 r
  have fin : ∀ (h' : Heap) (tk : Tok) (t : Nat), (∀ b o, s.heap.get? b = some o → h'.get? b = some o) → EP X pins σ Q (.str d.shown tk) { s with heap := h', toks := t } :=
    fun h' tk t k => ⟨.str d.shown, H, I.kept (t' := t) k, ⟨_, rfl⟩, q⟩
  cases d with
  | none =>
    cases hd; cases ru
    have f := fin s.heap
    simp only [PyData.shown] at f
    exact PySem.P.repr_of_none (f _ _ fun _ _ e => e)
  | bool b =>
    cases hd; cases ru
    have f := fin s.heap
    simp only [PyData.shown] at f
    exact PySem.P.repr_of_bool (f _ _ fun _ _ e => e)
  | int i =>
    cases hd
    obtain ⟨t, rfl⟩ := ru
    have f := fin s.heap
    simp only [PyData.shown] at f
    exact PySem.P.repr_of_int (by simpa [PyData.showable] using hs) (f _ _ fun _ _ e => e)
  | str x =>
    cases hd
    obtain ⟨t, rfl⟩ := ru
    have f := fin s.heap
    simp only [PyData.shown] at f hl
    exact PySem.P.repr_of_str (f _ _ fun _ _ e => e) hl
  | list ds =>
    cases hd with
    | @lst a xs _ q1 k1 =>
      cases ru
      obtain ⟨its, rv, ⟨o, n, ho, hc, _, hd⟩, _⟩ := I.list q1
      obtain ⟨as, hr, hk⟩ := dds_say I ds xs its k1 rv
      have R : Reads s.heap (.ref a) (.list ds) (a :: as) := Reads.list ho hc hd hr
      simp only [PyData.shown] at hl fin
      obtain ⟨bs, hb, kk⟩ := hk (by simpa [PyData.showable] using hs) fun t ht => Nat.le_trans (listText_mem_le ht) hl
      have hna : a ∉ bs := not_mem_of_deeper R (by simp only [PyData.depth]; omega) hb
      simp only [PyData.depth] at hz
      refine call_repr_slot (by omega) ⟨o, ho, hc⟩ PySem.F.slot_list_repr.toG ?_
      cases its with
      | nil =>
        cases kk' : PyData.shownAll ds with
        | nil =>
          rw [kk', listText_nil] at fin
          exact call_list_repr_empty ⟨o, ho, hc⟩ ho hd ⟨_, _, rfl, fin s.heap _ _ fun _ _ e => e⟩
        | cons t ts =>
          rw [kk'] at kk
          exact nomatch kk
      | cons z its =>
        exact call_list_reprK ho hc hd hna (by simpa using kk.length_eq) (fun i y e => kk.item i y (by simpa using e)) hg (fun b _ => Clear.nil b) (by show X.A.units + 1 + _ < cLine; omega) (fun _ _ e => e) (fun h' u tk k => ⟨_, _, rfl, fin h' u tk k⟩) hl
  | tuple ds =>
    cases hd with
    | @tup a xs _ q1 k1 =>
      cases ru
      obtain ⟨its, rv, ⟨o, ho, hc, n, hd⟩, _⟩ := I.tuple q1
      obtain ⟨as, hr, hk⟩ := dds_say I ds xs its k1 rv
      have R : Reads s.heap (.ref a) (.tuple ds) as := Reads.tuple ho hc hd hr
      simp only [PyData.shown] at hl fin
      obtain ⟨bs, hb, kk⟩ := hk (by simpa [PyData.showable] using hs) fun t ht => Nat.le_trans (tupleText_mem_le ht) hl
      have hna : a ∉ bs := not_mem_of_deeper R (by simp only [PyData.depth]; omega) hb
      simp only [PyData.depth] at hz
      refine call_repr_slot (by omega) ⟨o, ho, hc⟩ PySem.F.slot_tuple_repr ?_
      exact call_tuple_reprK ho hc hd hna kk hg (fun b _ => Clear.nil b) (by show X.A.units + 1 + _ < cLine; omega) (fun _ _ e => e) (fun h' u tk k => ⟨_, _, rfl, fin h' u tk k⟩) hl
  | dict ds =>
    cases hd with
    | @dic a kvs _ q1 k1 =>
      cases ru
      obtain ⟨_, lo, vs, rel, o, es, ep, ho, hx, hd, _, hp, _⟩ := (show ObjOk X.prog X.w H s.heap a (.dK kvs) from I.hok a _ q1)
      obtain ⟨as, cs, h1, h2, hk⟩ := ddk_say I ds kvs es.toList vs k1 rel hp
      have R : Reads s.heap (.ref a) (.dict ds) (a :: as ++ cs) := Reads.dict ho hx.1 hd h1 h2
      simp only [PyData.shown] at hl fin
      obtain ⟨bs, hb, kk⟩ := hk (by simpa [PyData.showable] using hs) fun t ht => Nat.le_trans (dictText_mem_le ht) hl
      have hna : a ∉ bs := not_mem_of_deeper R (by simp only [PyData.depth]; omega) hb
      simp only [PyData.depth] at hz
      refine call_repr_slot (by omega) ⟨o, ho, hx.1⟩ PySem.F.slot_dict_repr ?_
      exact call_dict_reprK ho hx.1 hd lo hna kk hg (fun b _ => Clear.nil b) (by show X.A.units + 1 + _ < cLine; omega) (fun _ _ e => e) (fun h' u tk k => ⟨_, _, rfl, fin h' u tk k⟩) hl
end

/-! ### promises where no repr is under way -/
structure FnG (P : Program) (w : World) (K : PySem.W.Frag) (mg : Str → Option Value) (base : Heap) (k : Nat) (f : Addr) (fd : FuncData) (ps : List Str) (sp : Sp) : Prop where
  size : ∀ vs H Q E, sp vs H Q E → vs.length = ps.length
  goes : ∀ (A : Around) (outer : List Env) (s : Shared) (H : Hp) (args : Args) (us : List Value) (vs : List V) (Q : VK) (E : XK), A.guards = some [] → Room k A → Env0 P w K mg base A outer s H →
    BindsTo s fd args (ps.zip us) → Vals vs us → sp vs H Q E → codeAny (model P w) A (.call (.ref f) args) (CR CX0 outer P w H s Q E) s
section
variable {P : Program} {w : World} {K : PySem.W.Frag} {mg : Str → Option Value} {base : Heap}
theorem okG {x qual : Str} {st : Stmt} {f : Addr} {fd : FuncData} {N ps : List Str} {k : Nat} {sp : Sp} (F : Fun K x qual st f fd) (S : FnScope N ps (defScope st)) (size : ∀ vs H Q E, sp vs H Q E → vs.length = ps.length)
    (body : ∀ (cdv : Value) (A : Around) (outer : List Env) (s : Shared) (H : Hp) (vs : List V) (Q : VK) (E : XK), A.guards = some [] → Room k (A.deeper (envOfC qual (defScope st) s.heap.objs.size f cdv)) → sp vs H Q E →
      ∃ t, PSs (cxOf CX0 P w K mg base N qual (defScope st) f cdv A outer s H E).nox (defBody st) t ∧ t { nx := fun _ H' => Q .non H', rt := Q } (start N vs) H) : FnG P w K mg base (k + 1) f fd ps sp := by
  obtain ⟨c1, c2, c3, c4, c5, c6, cd, c7, c8, rfl, found, coded⟩ := F.ex
  refine ⟨size, fun A outer s H args us vs Q E hg hr e0 hb r hsp => ?_⟩
  have lens := size _ _ _ _ hsp
  have KX : K.In s.heap := e0.mod.kin.keeps fun b o e => (e0.bs b o e).1
  have lim : s.heap.NoLimit := e0.mod.nolimit.keeps fun b o e => (e0.bs b o e).1
  refine codeAny_call_function hr.depth (KX _ _ found) rfl S.co S.gen rfl (PySem.W.codeRec_of KX coded) (hb _ _ _ _ ?_)
  refine wpAny_newFunctionEnv_cells S.kind (fun ⟨n, v⟩ hy => ?_) fun env he s1 new => ?_
  · rcases S.par n (List.of_mem_zip hy).1 with q | q
    · exact .inl q
    · exact .inr ⟨q, PySem.W.cellsFrom_some _ _ _ (.inl q)⟩
  subst he
  refine ⟨lim.keeps new.toInCall.keep, codeAny_func ?_⟩
  obtain ⟨t, ht, hq⟩ := body cd A outer s H vs Q E hg (hr.deeper _) hsp
  have I : Inv (cxOf CX0 P w K mg base N qual (defScope st) f cd A outer s H E) [] (start N vs) H s1 := inv_start S hr.hd e0 lens r new
  refine wpAny_mono (ht.nox.run [] s1 (start N vs) H _ I hq) (fun fl s' hs => ?_) fun e s' hs => hs
  cases fl with
  | ret u =>
    obtain ⟨v, σ', H', J, rv, q⟩ := hs
    exact ⟨v, H', J.os, J.bare, J.base, J.hok, rv, q⟩
  | next =>
    obtain ⟨σ', H', J, q⟩ := hs
    exact ⟨V.non, H', J.os, J.bare, J.base, J.hok, rfl, q⟩
  | brk =>
    obtain ⟨_, _, _, q⟩ := hs
    exact q.elim
  | cont =>
    obtain ⟨_, _, _, q⟩ := hs
    exact q.elim
end
section
variable {X : Cx} {k : Nat} {f : Addr} {fd : FuncData} {ps : List Str} {sp : Sp} {x : Str} {p pos : Pos} {e : Expr} {es : List Expr} {t : TA}
theorem callG (F : FnG X.prog X.w X.K X.mg X.base k f fd ps sp) (hg : X.A.guards = some []) (hr : Room k X.A) (gl : Gl X x) (hm : X.mg x = some (.ref f)) (hk : PySem.W.keepIn X.K (.ref f) = true) (hb : Binds X.K fd ps [])
    (ha : PA X (e :: es) t) (hdb : (x == ("__debug__" : Str)) = false := by decide) (he : starEach (e :: es) X.env = (false, eval e X.env) :: starEach es X.env := by rfl) (hpl : (backTo pos (starEach es X.env)).any (·.1) = false := by rfl) :
    PE X (.Call (.Name x p) (e :: es) [] pos) (tCall sp [] E0 t) := by
  refine ⟨fun pins s σ H Q I h => ?_⟩
  refine wpAny_Call_Name_kw (ld_glob I gl hm ?_ hdb)
  refine PySem.W.callWith_K (h₀ := X.base) I.ok.mod.kin hk (thn (ha.run pos pins s σ H _ I h) fun us s1 ⟨vs, H1, I1, r, q⟩ => ⟨I1.kIn, ?_⟩) he hpl
  have q' : sp vs H1 Q E0 := by simpa using q
  have hl : (us ++ []).length = ps.length := by
    rw [List.append_nil, ← r.length]
    exact F.size _ _ _ _ q'
  have hb' : BindsTo s1 fd ⟨us, []⟩ (ps.zip us) := by simpa using hb s1 us I1.kIn hl
  refine wpAny_call (codeAny_mono (F.goes X.A X.stack s1 H1 ⟨us, []⟩ us vs Q E0 hg hr I1.env0 hb' r q') fun r s' hq => ?_)
  cases r with
  | error e => exact False.elim hq
  | ok fl =>
    cases fl with
    | ret u => exact I1.after hq
    | next => exact False.elim hq
    | brk => exact False.elim hq
    | cont => exact False.elim hq
end

/-! ### the end of a law's row -/
theorem law_goes {P : Program} {w : World} {K : PySem.W.Frag} {mg mb : Str → Option Value} {k : Nat} {fa a : Addr} {fd : FuncData} {x : Str} {sp : Sp} {s₁ : Shared} {vs : List Value} {ns : List Int}
    (KX : K.In s₁.heap) (hns : s₁.heap.Ns mainGlobals mg) (hb : s₁.heap.Ns builtinsNs mb) (hbb : ∀ x : Str, x ≠ "__name__" → mb x = bootBuiltins x) (hlim : s₁.heap.NoLimit) (hg : s₁.gens = #[])
    (ha : s₁.heap.get? a = some { cls := .type "list", data := .seq vs.toArray }) (hi : IntsAre vs ns) (hl : ns.length ≤ sizeLine) (hr : Room k callerA)
    (F : ∀ base : Heap, K.In base → base.Ns mainGlobals mg → FnG P w K mg base k fa fd [x] sp) (hbind : ∀ (s : Shared) (u : Value), BindsTo s fd ⟨[u], []⟩ [(x, u)])
    (hsp : ∀ H : Hp, SqL K H a (ns.map V.int) → sp [.ref a] H (fun v _ => v = .bl true) fun _ _ _ => False) :
    codeAny (model P w) callerA (.call (.ref fa) ⟨[.ref a], []⟩) (fun r s' => r = .ok (.ret (.bool true)) ∧ OldK s₁.heap s'.heap ∧ s'.os = s₁.os ∧ AllBare s'.gens) s₁ := by
  have rv := vals_ints hi
  -- H tracks the script at most, as a frozen thing
  have main : ∀ H : Hp, (∀ b, H b = none ∨ (b = a ∧ K.lookup a = none ∧ ∃ o xs, H b = some (.frz o (.lst xs)))) → SqL K H a (ns.map V.int) → HOk P w H s₁.heap →
      codeAny (model P w) callerA (.call (.ref fa) ⟨[.ref a], []⟩) (fun r s' => r = .ok (.ret (.bool true)) ∧ OldK s₁.heap s'.heap ∧ s'.os = s₁.os ∧ AllBare s'.gens) s₁ := by
    intro H hO hS ok
    have free : ∀ {b : Addr} {o : Obj} {es : Array DictEntry} {ep : Nat}, s₁.heap.get? b = some o → o.data = .dict es ep → H b = none := fun {b o es ep} e d => by
      rcases hO b with z | ⟨rfl, _, _⟩
      · exact z
      · rw [ha] at e
        cases e
        exact nomatch (show Data.seq vs.toArray _ = Data.dict es ep from d)
    have ns' : ∀ {b : Addr} {m : Str → Option Value}, s₁.heap.Ns b m → (hidT s₁.heap H).Ns b m := fun {b m} ⟨o, es, ep, e, d, r⟩ => ⟨o, es, ep, hidT_get e (free e d), d, r⟩
    have kb : K.In (hidT s₁.heap H) := fun b o e => hidT_get (KX b o e) (by
      rcases hO b with z | ⟨rfl, z, _⟩
      · exact z
      · rw [z] at e
        cases e)
    obtain ⟨mc, l1, l2⟩ := hlim
    have e0 : Env0 P w K mg (hidT s₁.heap H) callerA [] s₁ H :=
      { frames := rfl, mod := ⟨kb, ns' hns, ⟨mb, ns' hb, hbb⟩, ⟨mc, ns' l1, l2⟩⟩, bs := fun b o e => of_hidT e, bsz := Nat.le_of_eq (hidT_size _ _), funs := trivial, frf := fun b z => (by cases z), hok := ok, bare := .of_eq hg }
    refine codeAny_mono ((F _ kb (ns' hns)).goes callerA [] s₁ H ⟨[.ref a], []⟩ [.ref a] [.ref a] _ _ rfl hr e0 (hbind s₁ (.ref a)) (.cons rfl .nil) (hsp H hS)) fun r s' h => ?_
    cases r with
    | error e => exact False.elim h
    | ok fl =>
      cases fl with
      | next => exact False.elim h
      | brk => exact False.elim h
      | cont => exact False.elim h
      | ret u =>
        obtain ⟨v, H', os, bare, un, ok', r', q⟩ := h
        have q' : v = .bl true := q
        subst q'
        have eu : u = Value.bool true := r'
        subst eu
        refine ⟨rfl, OldK.of_keep fun b o e => ?_, os, bare⟩
        rcases hO b with z | ⟨rfl, _, ob, xs, z⟩
        · exact un.keep b o e z (fun m => nomatch m) (fun m => nomatch m)
        · have z2 := un.frzs _ ob _ z
          obtain ⟨e1, _⟩ := ok _ _ z
          obtain ⟨e2, _⟩ := ok' _ _ z2
          rw [e] at e1
          cases e1
          exact e2
  cases hk : K.lookup a with
  | some o =>
    have e := (KX a o hk).symm.trans ha
    cases e
    refine main (fun _ => none) (fun _ => .inl rfl) (.inr ⟨_, vs.toArray, _, hk, rfl, rfl, rfl, ?_, by simpa using rv⟩) fun b u z => nomatch (show (none : Option HO) = some u from z)
    rw [List.size_toArray, hi.length]
    exact hl
  | none =>
    let ob : Obj := { cls := .type "list", data := .seq vs.toArray }
    refine main (upd (fun _ => none) a (.frz ob (.lst (ns.map V.int)))) (fun b => ?_) (.inl (.inr ⟨ob, upd_same⟩)) fun b u z => ?_
    · by_cases e : b = a
      · exact .inr ⟨e, hk, ob, _, by rw [e]; exact upd_same⟩
      · exact .inl (by rw [upd_ne e])
    · by_cases e : b = a
      · subst e
        rw [upd_same] at z
        cases z
        exact ⟨ha, by rw [List.length_map]; exact hl, vs, _, rv, ha⟩
      · rw [upd_ne e] at z
        exact nomatch z
theorem walkG {l : PySem.W.OpenLaw} {n k : Nat} {q : Program} {loose : List Str} {XP : (Str → Option Value) → Heap → Prop} {YP : World → Heap → Prop} {d : DefRec} {K : Params → PySem.W.Frag} {sp : PySem.W.Frag → Sp} {x : Str}
    (hn : l.most = some n) (hn2 : n ≤ sizeLine) (hdf : d.params.defaults = []) (hr : Room k callerA)
    (hY : ∀ (w : World) (h : Heap), YP w h → (K w.params).In h)
    (F : ∀ (w : World) (mg : Str → Option Value) (fa : Addr) (h : Heap), (K w.params).In h → h.Ns mainGlobals mg → mg d.name = some (.ref fa) →
      ∃ fd : FuncData, (∀ (s : Shared) (u : Value), BindsTo s fd ⟨[u], []⟩ [(x, u)]) ∧
        ∀ base : Heap, (K w.params).In base → base.Ns mainGlobals mg → FnG l.prog w (K w.params) mg base k fa fd [x] (sp (K w.params)))
    (hsp : ∀ (K : PySem.W.Frag) (H : Hp) (a : Addr) (ns : List Int), ns.length ≤ n → SqL K H a (ns.map V.int) → sp K [.ref a] H (fun v _ => v = .bl true) fun _ _ _ => False) :
    PySem.W.WalkO q loose XP YP l.row.toRowW d [] (fun f vs => PySem.call f vs) := by
  refine Att.attach_call hn hdf fun w s₀ s₁ mg mb fa o pm cd doc a vs ns G Y ho hd hcd hmg hobj hints hlen hg => ?_
  have KX := hY w _ Y
  obtain ⟨fd, hb, hF⟩ := F w mg fa _ KX G.T.g hmg
  exact law_goes KX G.T.g G.T.b G.T.builtins G.T.nolimit hg hobj hints (Nat.le_trans hlen hn2) hr hF hb fun H hS => hsp _ H a ns hlen hS
end Pg

set_option Elab.async false
set_option linter.all false
set_option maxRecDepth 100000
set_option maxHeartbeats 4000000
namespace Pg
open PySem PySem.Spec PyProof.Rows L2
def rGetL (K : PySem.W.Frag) : V → V → Hp → VK → Prop := fun o i H Q => ∃ (p : Addr) (xs : List V) (j : Nat) (v : V), o = .ref p ∧ i = .int j ∧ SqL K H p xs ∧ xs[j]? = some v ∧ Q v H
theorem get_list {X : Cx} : PGet X (rGetL X.K) := by
  intro pins s σ H o i ov iv Q I ro ri h
  obtain ⟨p, xs, j, v, rfl, rfl, hp, hv, q⟩ := h
  cases ro
  obtain ⟨t, rfl⟩ := ri
  obtain ⟨its, r, pl, hz⟩ := I.list hp
  obtain ⟨u, eu, ru⟩ := r.get hv
  have hj : j < xs.length := (List.getElem?_eq_some_iff.mp hv).1
  have hn := sizeLine_eq
  exact wpAny_getItem_list pl.isList (by omega) (by omega) (by simpa using eu) ⟨v, H, I, ru, q⟩
theorem tyX_list {K : PySem.W.Frag} {H : Hp} {a : Addr} {xs : List V} : SqL K H a xs → TyX K H (.ref a) (.type "list")
  | .inl (.inl h) => .base (.lst h)
  | .inl (.inr ⟨_, h⟩) => .base (.frz h)
  | .inr ⟨_, _, _, h, c, _⟩ => .kList h c
theorem tyX_tup {K : PySem.W.Frag} {H : Hp} {a : Addr} {xs : List V} : SqT K H a xs → TyX K H (.ref a) (.type "tuple")
  | .inl (.inl h) => .base (.tup h)
  | .inl (.inr ⟨_, h⟩) => .fTuple h
  | .inr ⟨_, _, _, h, c, _⟩ => .kTuple h c
end Pg

set_option Elab.async false
set_option linter.all false
set_option maxRecDepth 100000
set_option maxHeartbeats 4000000
namespace Pg
open PySem PySem.Spec PyProof.Rows L2
theorem size_times (a : Array Nat) : ∀ (k : Nat) (acc : Array Nat), ((List.replicate k a).foldl (· ++ ·) acc).size = acc.size + k * a.size
  | 0, acc => by simp
  | k + 1, acc => by
    rw [List.replicate_succ, List.foldl_cons, size_times a k, Array.size_append, Nat.add_mul]
    omega
theorem op_repS {X : Cx} : OpR X (binaryOp .Mult) (fun x y H Q => ∃ (z : Str) (n : Int), x = .str z ∧ y = .int n ∧ 2 ≤ n ∧ n ≤ 1000 ∧ 0 < z.length ∧ z.length ≤ 1000 ∧ Q (.str ⟨(List.replicate n.toNat z.cps).foldl (· ++ ·) #[]⟩) H) := by
  intro pins s σ H x y v u Q I rx ry h
  obtain ⟨z, n, rfl, rfl, h1, h2, h3, h4, q⟩ := h
  obtain ⟨t, rfl⟩ := rx
  obtain ⟨t', rfl⟩ := ry
  have fits : z.length * n.toNat ≤ sizeLine := Nat.le_trans (Nat.mul_le_mul h4 (show n.toNat ≤ 1000 by omega)) (by decide)
  have c1 : ¬ n < 1 := by omega
  have c2 : ¬ (n == 1 || z.length == 0) = true := by
    simp only [Bool.or_eq_true, beq_iff_eq]
    omega
  refine PySem.P.mul_str (by simp; omega) (fun _ _ => ?_) (fun _ _ => ?_) ?_
  · have h5 : (1000 : Int) ≤ (2 ^ 63 - 1) / n := (Int.le_ediv_iff_mul_le (by omega)).mpr (by omega)
    omega
  · show decide (z.length * n.toNat > sizeLine) = false
    exact decide_eq_false (by omega)
  · rw [if_neg c1, if_neg c2]
    dsimp only [Made.post]
    refine ⟨?_, .str _, H, I.tok _, ⟨_, rfl⟩, q⟩
    show ((List.replicate n.toNat z.cps).foldl (· ++ ·) #[]).size ≤ sizeLine
    rw [size_times, Nat.mul_comm]
    have : z.length = z.cps.size := rfl
    rw [this] at fits
    simpa using fits


theorem sliceApplied_rev {prog : Program} {w : World} {A : Around} {E : Value → Shared → Prop} {s : Shared} {sl : Addr} {n : Nat} {u : Tok} {Q : Int × Int × Nat → Shared → Prop}
    (h : s.heap.IsSliceOf sl .none .none (.int (-1) u)) (q : Q ((n : Int) - 1, -1, n) s) : wpAny (model prog w) A (Builtin.Slice.sliceApplied (.ref sl) (pure (n : Int))) Q E s := by
  obtain ⟨⟨c1, d1, t1, s1⟩, h1, h2, h3⟩ := h
  simp only at h2 h3
  subst h2 h3
  have fi : typeLookup (.type "int") "__index__" = pure (some (.builtin "int.__index__")) := PySem.F.slot_int_index.lookup
  have e1 : Builtin.Slice.sliceAdjust none none (-1) (n : Int) = ((n : Int) - 1, -1) := rfl
  have e2 : Builtin.Slice.slicePlaces ((n : Int) - 1) (-1) (-1) = n := by
    unfold Builtin.Slice.slicePlaces
    rw [if_neg (by decide), show -(-1 : Int) = 1 from rfl, Int.ediv_one]
    split <;> omega
  unfold Builtin.Slice.sliceApplied Builtin.Slice.sliceFields Builtin.Slice.slicePartIndex
  wp_walk using wpAny_loadPart' h1
  simp only [Option.getD_some, e1, e2]
  exact q
theorem fm_congr {α β : Type} {f g : α → Option β} : ∀ {l : List α}, (∀ x, x ∈ l → f x = g x) → l.filterMap f = l.filterMap g
  | [], _ => rfl
  | x :: l, h => by
    rw [List.filterMap_cons, List.filterMap_cons, h x List.mem_cons_self, fm_congr fun y hy => h y (List.mem_cons_of_mem x hy)]
theorem filter_rev (xs : Array Value) : (List.range xs.size).filterMap (fun k : Nat => xs[((xs.size : Int) - 1 + (k : Int) * -1).toNat]?) = xs.toList.reverse := by
  have h : ∀ l : List Value, (List.range l.length).filterMap (fun k : Nat => l[((l.length : Int) - 1 + (k : Int) * -1).toNat]?) = l.reverse := fun l => by
    have e : (List.range l.length).filterMap (fun k : Nat => l[((l.length : Int) - 1 + (k : Int) * -1).toNat]?) = (List.range l.length).filterMap (fun k : Nat => l.reverse[k]?) := by
      refine fm_congr fun k hk => ?_
      have hk' := List.mem_range.mp hk
      rw [List.getElem?_reverse hk', show ((l.length : Int) - 1 + (k : Int) * -1).toNat = l.length - 1 - k by omega]
    rw [e]
    have := PySem.W.krv_all l.reverse.toArray
    simpa using this
  have := h xs.toList
  simpa using this
theorem tup_rev (t sl : Addr) (xs : Array Value) (n : Nat) (dd : Option Addr) (ss : Array (Option Value)) (u : Tok) (hz : xs.size ≤ sizeLine) :
    Meets (Builtin.«tuple.__getitem__» ⟨[.ref t, .ref sl], []⟩)
      (fun A R s => s.heap.get? t = some { cls := .type "tuple", dict := dd, data := .seq xs n, slots := ss } ∧ s.heap.IsSliceOf sl .none .none (.int (-1) u) ∧
        R (.ok (.ret (.ref s.heap.objs.size))) { s with heap := s.heap.push { cls := .type "tuple", data := .seq xs.toList.reverse.toArray } }) := by
  intro prog w A R s h
  obtain ⟨hp, g, d, tk, os⟩ := s
  obtain ⟨hl, hs, hR⟩ := h
  have f2 := PySem.AutoSeq1.sub_tuple_tuple
  obtain ⟨os1, k1, k2, k3⟩ := id hs
  wp_walk using wpAny_loadPart' hl, sliceApplied_rev hs
  rw [filter_rev, if_neg (by simpa using hz)]
  wp_walk
  all_goals exact hR

theorem getItem_rev {prog : Program} {w : World} {A : Around} {E : Value → Shared → Prop} {s : Shared} {t sl : Addr} {xs : Array Value} {u : Tok} {Q : Value → Shared → Prop} (ht : s.heap.IsTuple t xs) (hs : s.heap.IsSliceOf sl .none .none (.int (-1) u)) (hz : xs.size ≤ sizeLine)
    (q : Q (.ref s.heap.objs.size) { s with heap := s.heap.push { cls := .type "tuple", data := .seq xs.toList.reverse.toArray } }) : wpAny (model prog w) A (getItem (.ref t) (.ref sl)) Q E s := by
  obtain ⟨⟨c1, d1, t1, s1⟩, o1, e1, n1, k1⟩ := id ht
  simp only at e1 k1
  subst e1 k1
  have ta : s.TypeIs (.ref t) "tuple" := ⟨_, o1, rfl⟩
  exact wpAny_getItem_slot ta (by decide +kernel) F.slot_tuple_getitem (call_meets F.slot_tuple_getitem ta F.entry_tuple_getitem (F.args_tuple_getitem_2 _ _) (tup_rev t sl xs n1 d1 s1 u hz) ⟨o1, hs, q⟩)
theorem Paired_append {α β : Type} {R : α → β → Prop} : ∀ {xs : List α} {ys : List β} {as : List α} {bs : List β}, Paired R xs ys → Paired R as bs → Paired R (xs ++ as) (ys ++ bs)
  | _, _, _, _, .nil, h => h
  | _, _, _, _, .cons a r, h => .cons a (Paired_append r h)
theorem Paired_rev {α β : Type} {R : α → β → Prop} : ∀ {xs : List α} {ys : List β}, Paired R xs ys → Paired R xs.reverse ys.reverse
  | _, _, .nil => .nil
  | _, _, .cons a r => by
    rw [List.reverse_cons, List.reverse_cons]
    exact Paired_append (Paired_rev r) (.cons a .nil)
def tRev (K : PySem.W.Frag) (te : TE) : TE := fun σ H Q => te σ H fun x H1 => ∃ a xs, x = .ref a ∧ SqT K H1 a xs ∧ ∀ p, H1 p = none → Q (.ref p) (upd H1 p (.tup xs.reverse))
theorem pe_rev {X : Cx} {x : Str} {te : TE} {j : Nat} {pos p0 p1 p2 p3 : Pos} (he : PE X (.Name x p0) te) : PE X (.Subscript (.Name x p0) (.Slice none none (some (.UnaryOp .USub (.Constant (.int 1) j p1) p3)) p2) pos) (tRev X.K te) := by
  refine ⟨fun pins s σ H Q I h => ?_⟩
  rw [eval_Subscript, arm_eval_Slice]
  refine wpAny_bind (thn (he.run pins s σ H _ I h) fun v s1 ⟨_, H1, I1, rx, a, xs, ex, hx, q⟩ => ?_)
  subst ex
  cases rx
  obtain ⟨us, rv, pl, hz⟩ := I1.tuple hx
  have hz' : us.toArray.size ≤ sizeLine := by
    have := rv.length
    simp only [List.size_toArray]
    omega
  obtain ⟨⟨c1, d1, t1, ss⟩, o1, e1, n1, k1⟩ := id pl
  simp only at e1 k1
  subst e1 k1
  obtain ⟨hp, g, dr, tk, os⟩ := s1
  have fl := PySem.F.slot_tuple_getitem.lookup
  have o2 : (hp.push { cls := .type "slice", data := .fields #[.none, .none, .int (-1) (tk + 1)] }).get? a = some { cls := .type "tuple", dict := d1, data := .seq us.toArray n1, slots := ss } := Heap.get?_push_of_some _ o1
  have pl2 : (hp.push { cls := .type "slice", data := .fields #[.none, .none, .int (-1) (tk + 1)] }).IsTuple a us.toArray := ⟨_, o2, rfl, n1, rfl⟩
  have sl2 := Heap.IsSliceOf.new hp .none .none (.int (-1) (tk + 1))
  wp_walk using PySem.P.neg_int, wpAny_loadPart' o2, getItem_rev pl2 sl2 hz'
  have rr : Vals xs.reverse us.reverse := Paired_rev rv
  have big : hp.objs.size ≤ hp.objs.size + 1 := Nat.le_succ _
  have nH : H1 (hp.objs.size + 1) = none := I1.hok.fresh big
  have there : ((hp.push { cls := .type "slice", data := .fields #[.none, .none, .int (-1) (tk + 1)] }).push { cls := .type "tuple", data := .seq us.reverse.toArray }).get? (hp.objs.size + 1) = some { cls := .type "tuple", data := .seq us.reverse.toArray } := by heap_get
  refine ⟨.ref (hp.objs.size + 1), _, I1.laid (t' := tk + 1 + 1) (a := hp.objs.size + 1) (o := .tup xs.reverse) (h' := (hp.push { cls := .type "slice", data := .fields #[.none, .none, .int (-1) (tk + 1)] }).push { cls := .type "tuple", data := .seq us.reverse.toArray })
    (fun b o z => Heap.get?_push_of_some _ (Heap.get?_push_of_some _ z)) big ?_, ?_, q _ nH⟩
  · rw [ObjOk.eq_2]
    exact ⟨by rw [List.length_reverse]; exact hz, _, rr, ⟨_, there, rfl, _, rfl⟩⟩
  · simp [L2.RelV]
end Pg

set_option Elab.async false
set_option linter.all false
set_option maxRecDepth 100000
set_option maxHeartbeats 4000000
namespace Dl
open PySem PySem.Spec PyProof.Rows L2 Pg
/-! ### a program's values as data: frozen data, or a number that tells a cell (a list, a dict that may still change) -/
inductive Vd where
  | d (x : PyData) | r (n : Nat)
inductive Cell where
  | dead | lst (xs : List Vd) | dic (kvs : List (PyData × Vd))
abbrev Sto := List Cell
abbrev Env := List (Option Vd)
/-- the world of a moment: where the cells stand, what is set aside, the cells, the heap -/
structure Wd where
  m : List Addr
  L : Addr → Prop
  st : Sto
  H : Hp
def Wd.At (S : Wd) (n : Nat) (c : Cell) (a : Addr) : Prop := S.st[n]? = some c ∧ c ≠ .dead ∧ S.m[n]? = some a
def Wd.Lv (S : Wd) (a : Addr) : Prop := S.L a ∨ ∃ n c, S.At n c a
open Classical in
/-- the heap that stays as it is -/
noncomputable def Wd.fr (S : Wd) : Hp := fun a => if S.Lv a then none else S.H a
theorem fr_of {S : Wd} {a : Addr} {o : HO} (h : S.fr a = some o) : ¬ S.Lv a ∧ S.H a = some o := by
  unfold Wd.fr at h
  split at h
  · cases h
  · exact ⟨‹_›, h⟩
theorem fr_at {S : Wd} {a : Addr} {o : HO} (h : ¬ S.Lv a) (e : S.H a = some o) : S.fr a = some o := by
  unfold Wd.fr
  rw [if_neg h]
  exact e
theorem fr_same (S : Wd) : Same S.fr S.H := fun _ _ h => (fr_of h).2
def RV (K : PySem.W.Frag) (S : Wd) (x : V) : Vd → Prop
  | .d y => Dd K S.fr x y
  | .r n => ∃ a, S.m[n]? = some a ∧ x = .ref a
abbrev RVs (K : PySem.W.Frag) (S : Wd) : List V → List Vd → Prop := Paired (RV K S)
def tupD (k : List Key) : PyData := .tuple (k.map keyD)
def RCell (K : PySem.W.Frag) (S : Wd) (o : HO) : Cell → Prop
  | .dead => True
  | .lst xs => ∃ vs, o = .lst vs ∧ RVs K S vs xs
  | .dic kvs => (∃ ks : List (Key × V), o = .dK ks ∧ Paired (fun p q => keyD p.1 = q.1 ∧ RV K S p.2 q.2) ks kvs) ∨ (∃ ks : List (List Key × V), o = .dT ks ∧ Paired (fun p q => tupD p.1 = q.1 ∧ RV K S p.2 q.2) ks kvs)
structure Wd.Ok (K : PySem.W.Frag) (S : Wd) : Prop where
  len : S.m.length = S.st.length
  inj : ∀ {n n' c c' a}, S.At n c a → S.At n' c' a → n = n'
  nL : ∀ {n c a}, S.At n c a → ¬ S.L a
  hL : ∀ a, S.L a → ∃ o, S.H a = some o
  cell : ∀ {n c a}, S.At n c a → ∃ o, S.H a = some o ∧ RCell K S o c
structure Ext (S : Wd) (S' : Wd) : Prop where
  pre : ∀ (n : Nat) (a : Addr), S.m[n]? = some a → S'.m[n]? = some a
  keep : Same S.fr S'.fr
  lL : ∀ a, S.L a → S'.L a ∧ S'.H a = S.H a
theorem Ext.refl (S : Wd) : Ext S S := ⟨fun _ _ h => h, fun _ _ h => h, fun _ h => ⟨h, rfl⟩⟩
theorem Ext.trans {S S' S'' : Wd} (a : Ext S S') (b : Ext S' S'') : Ext S S'' :=
  ⟨fun n x h => b.pre n x (a.pre n x h), fun x o h => b.keep x o (a.keep x o h), fun x h => ⟨(b.lL x (a.lL x h).1).1, (b.lL x (a.lL x h).1).2.trans (a.lL x h).2⟩⟩
theorem RV.up {K : PySem.W.Frag} {S S' : Wd} (e : Ext S S') {x : V} {v : Vd} (h : RV K S x v) : RV K S' x v := by
  cases v with
  | d y => exact Dd.up e.keep y x h
  | r n =>
    obtain ⟨a, h1, h2⟩ := h
    exact ⟨a, e.pre n a h1, h2⟩
theorem RVs.up {K : PySem.W.Frag} {S S' : Wd} (e : Ext S S') {xs : List V} {vs : List Vd} (h : RVs K S xs vs) : RVs K S' xs vs := Paired.mapP h fun _ _ => RV.up e
theorem RVs.len {K : PySem.W.Frag} {S : Wd} {xs : List V} {vs : List Vd} (h : RVs K S xs vs) : xs.length = vs.length := Paired.length h
section
variable {K : PySem.W.Frag} {S : Wd} {p a : Addr} {o : HO} {n : Nat} {c : Cell}
theorem Wd.Ok.lv (ok : S.Ok K) (h : S.Lv a) : ∃ o, S.H a = some o := by
  rcases h with h | ⟨n, c, h⟩
  · exact ok.hL a h
  · obtain ⟨o, e, _⟩ := ok.cell h
    exact ⟨o, e⟩
theorem Wd.Ok.fresh (ok : S.Ok K) (hp : S.H p = none) : ¬ S.Lv p := fun h => by
  obtain ⟨o, e⟩ := ok.lv h
  rw [hp] at e
  cases e
theorem RCell.up {S' : Wd} (e : Ext S S') {o : HO} {c : Cell} (h : RCell K S o c) : RCell K S' o c := by
  cases c with
  | dead => trivial
  | lst xs =>
    obtain ⟨vs, h1, h2⟩ := h
    exact ⟨vs, h1, h2.up e⟩
  | dic kvs =>
    rcases h with ⟨ks, h1, h2⟩ | ⟨ks, h1, h2⟩
    · exact .inl ⟨ks, h1, Paired.mapP h2 fun _ _ z => ⟨z.1, z.2.up e⟩⟩
    · exact .inr ⟨ks, h1, Paired.mapP h2 fun _ _ z => ⟨z.1, z.2.up e⟩⟩
/-- a new object that stays as it is -/
def Wd.put (S : Wd) (p : Addr) (o : HO) : Wd := { S with H := upd S.H p o }
theorem put_lv : (S.put p o).Lv a ↔ S.Lv a := Iff.rfl
theorem Wd.Ok.ext_put (ok : S.Ok K) (hp : S.H p = none) (o : HO) : Ext S (S.put p o) := by
  refine ⟨fun _ _ h => h, fun a u h => ?_, fun a h => ⟨h, ?_⟩⟩
  · obtain ⟨h1, h2⟩ := fr_of h
    refine fr_at h1 ?_
    show upd S.H p o a = some u
    rw [upd_ne (ne_of_none h2 hp)]
    exact h2
  · obtain ⟨u, e⟩ := ok.hL a h
    show upd S.H p o a = S.H a
    rw [upd_ne (ne_of_none e hp)]
theorem Wd.Ok.put (ok : S.Ok K) (hp : S.H p = none) (o : HO) : (S.put p o).Ok K := by
  have e := ok.ext_put hp o
  refine ⟨ok.len, ok.inj, ok.nL, fun a h => ?_, fun {n c a} h => ?_⟩
  · obtain ⟨u, q⟩ := ok.hL a h
    exact ⟨u, by rw [(e.lL a h).2]; exact q⟩
  · obtain ⟨u, h1, h2⟩ := ok.cell h
    refine ⟨u, ?_, h2.up e⟩
    show upd S.H p o a = some u
    rw [upd_ne (ne_of_none h1 hp)]
    exact h1
theorem Wd.Ok.got (ok : S.Ok K) (hp : S.H p = none) : (S.put p o).fr p = some o := fr_at (fun h => ok.fresh hp h) upd_same
/-- a new cell -/
def Wd.more (S : Wd) (p : Addr) (o : HO) (c : Cell) : Wd := { m := S.m ++ [p], L := S.L, st := S.st ++ [c], H := upd S.H p o }
theorem Wd.Ok.more_at (ok : S.Ok K) (hc : c ≠ .dead) {n : Nat} {c' : Cell} {a : Addr} : (S.more p o c).At n c' a ↔ S.At n c' a ∨ (n = S.st.length ∧ c' = c ∧ a = p) := by
  have hl := ok.len
  unfold Wd.At Wd.more
  simp only
  constructor
  · rintro ⟨h1, h2, h3⟩
    by_cases hn : n < S.st.length
    · rw [List.getElem?_append_left hn] at h1
      rw [List.getElem?_append_left (by omega)] at h3
      exact .inl ⟨h1, h2, h3⟩
    · have hn' : n = S.st.length := by
        have := (List.getElem?_eq_some_iff.mp h1).1
        simp at this
        omega
      subst hn'
      rw [List.getElem?_append_right (Nat.le_refl _)] at h1
      rw [List.getElem?_append_right (by omega)] at h3
      simp at h1
      rw [hl] at h3
      simp at h3
      exact .inr ⟨rfl, h1.symm, h3.symm⟩
  · rintro (⟨h1, h2, h3⟩ | ⟨rfl, rfl, rfl⟩)
    · refine ⟨?_, h2, ?_⟩
      · rw [List.getElem?_append_left (List.getElem?_eq_some_iff.mp h1).1]; exact h1
      · rw [List.getElem?_append_left (List.getElem?_eq_some_iff.mp h3).1]; exact h3
    · refine ⟨by simp, hc, ?_⟩
      rw [← hl]
      simp
theorem Wd.Ok.more (ok : S.Ok K) (hp : S.H p = none) (hc : c ≠ .dead) (hr : RCell K S o c) : Ext S (S.more p o c) ∧ (S.more p o c).Ok K := by
  have lv : ∀ a, (S.more p o c).Lv a ↔ S.Lv a ∨ a = p := fun a => by
    constructor
    · rintro (h | ⟨n, c', h⟩)
      · exact .inl (.inl h)
      · rcases (ok.more_at hc).mp h with h | ⟨_, _, h⟩
        · exact .inl (.inr ⟨n, c', h⟩)
        · exact .inr h
    · rintro ((h | ⟨n, c', h⟩) | h)
      · exact .inl h
      · exact .inr ⟨n, c', (ok.more_at hc).mpr (.inl h)⟩
      · exact .inr ⟨_, c, (ok.more_at hc).mpr (.inr ⟨rfl, rfl, h⟩)⟩
  have hl := ok.len
  have e : Ext S (S.more p o c) := by
    refine ⟨fun n a h => ?_, fun a u h => ?_, fun a h => ⟨h, ?_⟩⟩
    · show (S.m ++ [p])[n]? = some a
      rw [List.getElem?_append_left (List.getElem?_eq_some_iff.mp h).1]
      exact h
    · obtain ⟨h1, h2⟩ := fr_of h
      have np := ne_of_none h2 hp
      refine fr_at (fun z => ((lv a).mp z).elim h1 np) ?_
      show upd S.H p o a = some u
      rw [upd_ne np]
      exact h2
    · obtain ⟨u, q⟩ := ok.hL a h
      show upd S.H p o a = S.H a
      rw [upd_ne (ne_of_none q hp)]
  have old : ∀ {n c' a}, S.At n c' a → a ≠ p := fun h => by
    obtain ⟨u, q, _⟩ := ok.cell h
    exact ne_of_none q hp
  refine ⟨e, by show (S.m ++ [p]).length = (S.st ++ [c]).length; simp [hl], fun {n n' c1 c2 a} h1 h2 => ?_, fun {n c' a} h => ?_, fun a h => ?_, fun {n c' a} h => ?_⟩
  · rcases (ok.more_at hc).mp h1 with h1 | ⟨e1, _, q1⟩ <;> rcases (ok.more_at hc).mp h2 with h2 | ⟨e2, _, q2⟩
    · exact ok.inj h1 h2
    · exact absurd q2 (old h1)
    · exact absurd q1 (old h2)
    · rw [e1, e2]
  · rcases (ok.more_at hc).mp h with h | ⟨_, _, q⟩
    · exact ok.nL h
    · intro z
      obtain ⟨u, z⟩ := ok.hL a z
      rw [q, hp] at z
      cases z
  · obtain ⟨u, q⟩ := ok.hL a h
    exact ⟨u, by rw [(e.lL a h).2]; exact q⟩
  · rcases (ok.more_at hc).mp h with h | ⟨_, e1, e2⟩
    · obtain ⟨u, h1, h2⟩ := ok.cell h
      refine ⟨u, ?_, h2.up e⟩
      show upd S.H p o a = some u
      rw [upd_ne (old h)]
      exact h1
    · rw [e1, e2]
      exact ⟨o, upd_same, hr.up e⟩
/-- a cell changes -/
def Wd.chg (S : Wd) (n : Nat) (a : Addr) (o : HO) (c : Cell) : Wd := { S with st := S.st.set n c, H := upd S.H a o }
theorem Wd.Ok.chg {c0 : Cell} (ok : S.Ok K) (h0 : S.At n c0 a) (hc : c ≠ .dead) (hr : RCell K S o c) : Ext S (S.chg n a o c) ∧ (S.chg n a o c).Ok K := by
  have hn : n < S.st.length := (List.getElem?_eq_some_iff.mp h0.1).1
  have at_ : ∀ n' c' b, (S.chg n a o c).At n' c' b → (n' ≠ n ∧ S.At n' c' b) ∨ (n' = n ∧ c' = c ∧ b = a) := fun n' c' b ⟨h1, h2, h3⟩ => by
    by_cases e : n' = n
    · subst e
      have h1' : (S.st.set n' c)[n']? = some c' := h1
      rw [List.getElem?_set_self hn] at h1'
      have h3' : S.m[n']? = some b := h3
      rw [h0.2.2] at h3'
      exact .inr ⟨rfl, (Option.some.inj h1').symm, (Option.some.inj h3').symm⟩
    · have h1' : (S.st.set n c)[n']? = some c' := h1
      rw [List.getElem?_set_ne (Ne.symm e)] at h1'
      exact .inl ⟨e, h1', h2, h3⟩
  have at' : ∀ n' c' b, n' ≠ n → S.At n' c' b → (S.chg n a o c).At n' c' b := fun n' c' b e ⟨h1, h2, h3⟩ => by
    refine ⟨?_, h2, h3⟩
    show (S.st.set n c)[n']? = some c'
    rw [List.getElem?_set_ne (Ne.symm e)]
    exact h1
  have ata : (S.chg n a o c).At n c a := ⟨by show (S.st.set n c)[n]? = some c; rw [List.getElem?_set_self hn], hc, h0.2.2⟩
  have lv : ∀ b, (S.chg n a o c).Lv b ↔ S.Lv b := fun b => by
    constructor
    · rintro (h | ⟨n', c', h⟩)
      · exact .inl h
      · rcases at_ n' c' b h with ⟨_, h⟩ | ⟨_, _, e⟩
        · exact .inr ⟨n', c', h⟩
        · exact .inr ⟨n, c0, by rw [e]; exact h0⟩
    · rintro (h | ⟨n', c', h⟩)
      · exact .inl h
      · by_cases e : n' = n
        · subst e
          have := h.2.2
          rw [h0.2.2] at this
          refine .inr ⟨n', c, ?_⟩
          rw [← Option.some.inj this]
          exact ata
        · exact .inr ⟨n', c', at' n' c' b e h⟩
  have la : S.Lv a := .inr ⟨n, c0, h0⟩
  have e : Ext S (S.chg n a o c) := by
    refine ⟨fun _ _ h => h, fun b u h => ?_, fun b h => ⟨h, ?_⟩⟩
    · obtain ⟨h1, h2⟩ := fr_of h
      refine fr_at (fun z => h1 ((lv b).mp z)) ?_
      show upd S.H a o b = some u
      rw [upd_ne (show b ≠ a from fun z => h1 (by rw [z]; exact la))]
      exact h2
    · show upd S.H a o b = S.H b
      rw [upd_ne (show b ≠ a from fun z => ok.nL h0 (by rw [← z]; exact h))]
  refine ⟨e, by show S.m.length = (S.st.set n c).length; rw [List.length_set]; exact ok.len, fun {n1 n2 c1 c2 b} h1 h2 => ?_, fun {n1 c1 b} h => ?_, fun b h => ?_, fun {n1 c1 b} h => ?_⟩
  · rcases at_ _ _ _ h1 with ⟨e1, h1⟩ | ⟨e1, _, q1⟩ <;> rcases at_ _ _ _ h2 with ⟨e2, h2⟩ | ⟨e2, _, q2⟩
    · exact ok.inj h1 h2
    · exact absurd (ok.inj h1 (by rw [q2]; exact h0)) e1
    · exact absurd (ok.inj h2 (by rw [q1]; exact h0)) e2
    · rw [e1, e2]
  · rcases at_ _ _ _ h with ⟨_, h⟩ | ⟨_, _, q⟩
    · exact ok.nL h
    · rw [q]; exact ok.nL h0
  · obtain ⟨u, q⟩ := ok.hL b h
    exact ⟨u, by rw [(e.lL b h).2]; exact q⟩
  · rcases at_ _ _ _ h with ⟨e1, h⟩ | ⟨_, q1, q2⟩
    · obtain ⟨u, h1, h2⟩ := ok.cell h
      refine ⟨u, ?_, h2.up e⟩
      show upd S.H a o b = some u
      rw [upd_ne fun z => e1 (ok.inj h (by rw [z]; exact h0))]
      exact h1
    · rw [q1, q2]
      exact ⟨o, upd_same, hr.up e⟩
/-- a cell is frozen: it changes no more -/
def Wd.frz (S : Wd) (n : Nat) : Wd := { S with st := S.st.set n .dead }
theorem Wd.Ok.frz {c0 : Cell} (ok : S.Ok K) (h0 : S.At n c0 a) : Ext S (S.frz n) ∧ (S.frz n).Ok K ∧ (∀ u, S.H a = some u → (S.frz n).fr a = some u) := by
  have hn : n < S.st.length := (List.getElem?_eq_some_iff.mp h0.1).1
  have at_ : ∀ n' c' b, (S.frz n).At n' c' b → n' ≠ n ∧ S.At n' c' b := fun n' c' b ⟨h1, h2, h3⟩ => by
    have h1' : (S.st.set n .dead)[n']? = some c' := h1
    by_cases e : n' = n
    · subst e
      rw [List.getElem?_set_self hn] at h1'
      exact absurd (Option.some.inj h1').symm h2
    · rw [List.getElem?_set_ne (Ne.symm e)] at h1'
      exact ⟨e, h1', h2, h3⟩
  have lv : ∀ b, (S.frz n).Lv b → S.Lv b := fun b => by
    rintro (h | ⟨n', c', h⟩)
    · exact .inl h
    · exact .inr ⟨n', c', (at_ n' c' b h).2⟩
  have e : Ext S (S.frz n) := by
    refine ⟨fun _ _ h => h, fun b u h => ?_, fun b h => ⟨h, rfl⟩⟩
    obtain ⟨h1, h2⟩ := fr_of h
    exact fr_at (fun z => h1 (lv b z)) h2
  refine ⟨e, ⟨by show S.m.length = (S.st.set n .dead).length; rw [List.length_set]; exact ok.len, fun h1 h2 => ok.inj (at_ _ _ _ h1).2 (at_ _ _ _ h2).2, fun h => ok.nL (at_ _ _ _ h).2, ok.hL, fun {n1 c1 b} h => ?_⟩, fun u hu => ?_⟩
  · obtain ⟨u, h1, h2⟩ := ok.cell (at_ _ _ _ h).2
    exact ⟨u, h1, h2.up e⟩
  · refine fr_at (fun z => ?_) hu
    rcases z with z | ⟨n', c', z⟩
    · exact ok.nL h0 z
    · obtain ⟨e1, z⟩ := at_ _ _ _ z
      exact e1 (ok.inj z h0)
/-- an object is set aside -/
def Wd.asd (S : Wd) (p : Addr) (o : HO) : Wd := { S with L := fun a => S.L a ∨ a = p, H := upd S.H p o }
theorem Wd.Ok.asd (ok : S.Ok K) (hp : S.H p = none) (o : HO) : Ext S (S.asd p o) ∧ (S.asd p o).Ok K := by
  have lv : ∀ b, (S.asd p o).Lv b ↔ S.Lv b ∨ b = p := fun b => by
    constructor
    · rintro ((h | h) | h)
      · exact .inl (.inl h)
      · exact .inr h
      · exact .inl (.inr h)
    · rintro ((h | h) | h)
      · exact .inl (.inl h)
      · exact .inr h
      · exact .inl (.inr h)
  have e : Ext S (S.asd p o) := by
    refine ⟨fun _ _ h => h, fun b u h => ?_, fun b h => ⟨.inl h, ?_⟩⟩
    · obtain ⟨h1, h2⟩ := fr_of h
      have np := ne_of_none h2 hp
      refine fr_at (fun z => ((lv b).mp z).elim h1 np) ?_
      show upd S.H p o b = some u
      rw [upd_ne np]
      exact h2
    · obtain ⟨u, q⟩ := ok.hL b h
      show upd S.H p o b = S.H b
      rw [upd_ne (ne_of_none q hp)]
  refine ⟨e, ok.len, ok.inj, fun {n c a} h z => ?_, fun a h => ?_, fun {n c a} h => ?_⟩
  · rcases z with z | z
    · exact ok.nL h z
    · obtain ⟨u, q, _⟩ := ok.cell h
      rw [z, hp] at q
      cases q
  · rcases h with h | h
    · obtain ⟨u, q⟩ := ok.hL a h
      exact ⟨u, by rw [(e.lL a h).2]; exact q⟩
    · rw [h]
      exact ⟨o, upd_same⟩
  · obtain ⟨u, h1, h2⟩ := ok.cell h
    refine ⟨u, ?_, h2.up e⟩
    show upd S.H p o a = some u
    rw [upd_ne (ne_of_none h1 hp)]
    exact h1
/-- what is set aside is changed -/
theorem Wd.Ok.wr (ok : S.Ok K) (hp : S.L p) (o : HO) : S.fr = (S.put p o).fr ∧ (S.put p o).Ok K := by
  have e : S.fr = (S.put p o).fr := by
    funext b
    unfold Wd.fr
    by_cases h : S.Lv b
    · rw [if_pos h, if_pos (put_lv.mpr h)]
    · rw [if_neg h, if_neg (fun z => h (put_lv.mp z))]
      show S.H b = upd S.H p o b
      rw [upd_ne (show b ≠ p from fun z => h (by rw [z]; exact .inl hp))]
  have up : Ext { S with L := fun a => S.L a ∧ a ≠ p } { S with L := fun a => S.L a ∧ a ≠ p } := Ext.refl _
  refine ⟨e, ok.len, ok.inj, ok.nL, fun a h => ?_, fun {n c a} h => ?_⟩
  · by_cases q : a = p
    · rw [q]; exact ⟨o, upd_same⟩
    · obtain ⟨u, z⟩ := ok.hL a h
      exact ⟨u, by show upd S.H p o a = some u; rw [upd_ne q]; exact z⟩
  · obtain ⟨u, h1, h2⟩ := ok.cell h
    have np : a ≠ p := fun z => ok.nL h (by rw [z]; exact hp)
    refine ⟨u, by show upd S.H p o a = some u; rw [upd_ne np]; exact h1, ?_⟩
    have rv : ∀ x v, RV K S x v → RV K (S.put p o) x v := fun x v h => by
      cases v with
      | d y => exact Dd.up (fun b u hb => by rw [← e]; exact hb) y x h
      | r n => exact h
    cases c with
    | dead => trivial
    | lst xs =>
      obtain ⟨vs, q1, q2⟩ := h2
      exact ⟨vs, q1, Paired.mapP q2 fun _ _ => rv _ _⟩
    | dic kvs =>
      rcases h2 with ⟨ks, q1, q2⟩ | ⟨ks, q1, q2⟩
      · exact .inl ⟨ks, q1, Paired.mapP q2 fun _ _ z => ⟨z.1, rv _ _ z.2⟩⟩
      · exact .inr ⟨ks, q1, Paired.mapP q2 fun _ _ z => ⟨z.1, rv _ _ z.2⟩⟩
end
end Dl

set_option Elab.async false
set_option linter.all false
set_option maxRecDepth 100000
set_option maxHeartbeats 4000000
namespace Dl
open PySem PySem.Spec PyProof.Rows L2 Pg
/-! ### growing -/
structure Grow (G H G' H' : Hp) : Prop where
  hh : Same H H'
  gg : Same G G'
  gh : Same G' H'
  new : ∀ a o, G' a = some o → G a = some o ∨ H a = none
theorem Grow.refl {G H : Hp} (h : Same G H) : Grow G H G H := ⟨Same.refl H, Same.refl G, h, fun _ _ e => .inl e⟩
theorem free_of {G H : Hp} {p : Addr} (h : Same G H) (hp : H p = none) : G p = none := h.free hp
theorem same_up {H : Hp} {p : Addr} {o : HO} (hp : H p = none) : Same H (upd H p o) := fun a u e => by
  rw [upd_ne (ne_of_none e hp)]
  exact e
theorem Grow.put {G H G' H' : Hp} {p : Addr} (g : Grow G H G' H') (hp : H' p = none) (o : HO) : Grow G H (upd G' p o) (upd H' p o) := by
  refine ⟨g.hh.trans (same_up hp), g.gg.trans (same_up (free_of g.gh hp)), fun a u e => ?_, fun a u e => ?_⟩
  · by_cases h : a = p
    · subst h; rw [upd_same] at e ⊢; exact e
    · rw [upd_ne h] at e ⊢; exact g.gh a u e
  · by_cases h : a = p
    · subst h
      exact .inr (g.hh.free hp)
    · rw [upd_ne h] at e
      exact g.new a u e
theorem Wd.Ok.grow {K : PySem.W.Frag} {S : Wd} {H' : Hp} (ok : S.Ok K) (h : Same S.H H') : Ext S { S with H := H' } ∧ ({ S with H := H' } : Wd).Ok K := by
  have e : Ext S { S with H := H' } := by
    refine ⟨fun _ _ h => h, fun a u q => ?_, fun a q => ⟨q, ?_⟩⟩
    · obtain ⟨h1, h2⟩ := fr_of q
      exact fr_at h1 (h a u h2)
    · obtain ⟨u, z⟩ := ok.hL a q
      rw [z]
      exact h a u z
  refine ⟨e, ok.len, ok.inj, ok.nL, fun a q => ?_, fun {n c a} q => ?_⟩
  · obtain ⟨u, z⟩ := ok.hL a q
    exact ⟨u, h a u z⟩
  · obtain ⟨u, h1, h2⟩ := ok.cell q
    exact ⟨u, h a u h1, h2.up e⟩
theorem Grow.into {K : PySem.W.Frag} {S : Wd} {G' H' : Hp} (ok : S.Ok K) (g : Grow S.fr S.H G' H') : Same G' ({ S with H := H' } : Wd).fr := fun a o e => by
  refine fr_at (fun z => ?_) (g.gh a o e)
  rcases g.new a o e with h | h
  · exact (fr_of h).1 z
  · exact ok.fresh h z
/-! ### what is wanted behind an expression -/
def Aft (K : PySem.W.Frag) (S : Wd) (st' : Sto) (v : Vd) (Q : VK) : Prop := ∀ (S' : Wd) (x : V), S'.L = S.L → S'.st = st' → Ext S S' → S'.Ok K → RV K S' x v → Q x S'.H
def AftB (K : PySem.W.Frag) (S : Wd) (st' : Sto) (b : Bool) (Q : Bool → Hp → Prop) : Prop := ∀ (S' : Wd), S'.L = S.L → S'.st = st' → Ext S S' → S'.Ok K → Q b S'.H
def AftA (K : PySem.W.Frag) (S : Wd) (st' : Sto) (vs : List Vd) (Q : List V → Hp → Prop) : Prop := ∀ (S' : Wd) (xs : List V), S'.L = S.L → S'.st = st' → Ext S S' → S'.Ok K → RVs K S' xs vs → Q xs S'.H
theorem Aft.from {K : PySem.W.Frag} {S S1 : Wd} {st' : Sto} {v : Vd} {Q : VK} (h : Aft K S st' v Q) (l : S1.L = S.L) (e : Ext S S1) : Aft K S1 st' v Q := fun S' x h1 h2 h3 h4 h5 => h S' x (h1.trans l) h2 (e.trans h3) h4 h5
theorem AftB.from {K : PySem.W.Frag} {S S1 : Wd} {st' : Sto} {v : Bool} {Q : Bool → Hp → Prop} (h : AftB K S st' v Q) (l : S1.L = S.L) (e : Ext S S1) : AftB K S1 st' v Q := fun S' h1 h2 h3 h4 => h S' (h1.trans l) h2 (e.trans h3) h4
theorem AftA.from {K : PySem.W.Frag} {S S1 : Wd} {st' : Sto} {v : List Vd} {Q : List V → Hp → Prop} (h : AftA K S st' v Q) (l : S1.L = S.L) (e : Ext S S1) : AftA K S1 st' v Q := fun S' x h1 h2 h3 h4 h5 => h S' x (h1.trans l) h2 (e.trans h3) h4 h5
theorem Aft.grow {K : PySem.W.Frag} {S : Wd} {z : PyData} {Q : VK} {G' H' : Hp} {x : V} (h : Aft K S S.st (.d z) Q) (ok : S.Ok K) (g : Grow S.fr S.H G' H') (hx : Dd K G' x z) : Q x H' :=
  h { S with H := H' } x rfl rfl (ok.grow g.hh).1 (ok.grow g.hh).2 (Dd.up (g.into ok) z x hx)
structure REnv (K : PySem.W.Frag) (S : Wd) (ρ : Env) (σ : L2.St) : Prop where
  len : ρ.length = σ.length
  at_ : ∀ (i : Nat) (v : Vd), ρ[i]? = some (some v) → ∃ x, σ[i]? = some (some x) ∧ RV K S x v
theorem REnv.up {K : PySem.W.Frag} {S S' : Wd} {ρ : Env} {σ : L2.St} (e : Ext S S') (h : REnv K S ρ σ) : REnv K S' ρ σ := ⟨h.len, fun i v q => let ⟨x, h1, h2⟩ := h.at_ i v q; ⟨x, h1, h2.up e⟩⟩
theorem REnv.set {K : PySem.W.Frag} {S : Wd} {ρ : Env} {σ : L2.St} {x : V} {v : Vd} (h : REnv K S ρ σ) (i : Nat) (r : RV K S x v) : REnv K S (ρ.set i (some v)) (σ.set i (some x)) := by
  refine ⟨by rw [List.length_set, List.length_set]; exact h.len, fun j w q => ?_⟩
  by_cases e : j = i
  · subst e
    have hj : j < ρ.length := by
      have := (List.getElem?_eq_some_iff.mp q).1
      rwa [List.length_set] at this
    rw [List.getElem?_set_self hj] at q
    rw [← Option.some.inj (Option.some.inj q)]
    exact ⟨x, List.getElem?_set_self (by rw [← h.len]; exact hj), r⟩
  · rw [List.getElem?_set_ne (Ne.symm e)] at q
    obtain ⟨y, h1, h2⟩ := h.at_ j w q
    exact ⟨y, by rw [List.getElem?_set_ne (Ne.symm e)]; exact h1, h2⟩
abbrev EF := Env → Sto → Option (Vd × Sto)
abbrev BF := Env → Sto → Option (Bool × Sto)
abbrev AF := Env → Sto → Option (List Vd × Sto)
def SE (K : PySem.W.Frag) (te : TE) (f : EF) : Prop := ∀ (S : Wd) (ρ : Env) (σ : L2.St) (v : Vd) (st' : Sto), S.Ok K → REnv K S ρ σ → f ρ S.st = some (v, st') → ∀ Q, Aft K S st' v Q → te σ S.H Q
def SB (K : PySem.W.Frag) (tt : TT) (f : BF) : Prop := ∀ (S : Wd) (ρ : Env) (σ : L2.St) (b : Bool) (st' : Sto), S.Ok K → REnv K S ρ σ → f ρ S.st = some (b, st') → ∀ Q, AftB K S st' b Q → tt σ S.H Q
def SA (K : PySem.W.Frag) (ta : TA) (f : AF) : Prop := ∀ (S : Wd) (ρ : Env) (σ : L2.St) (vs : List Vd) (st' : Sto), S.Ok K → REnv K S ρ σ → f ρ S.st = some (vs, st') → ∀ Q, AftA K S st' vs Q → ta σ S.H Q
def JE (X : Cx) (e : Expr) (f : EF) : Prop := ∃ te, PE X e te ∧ SE X.K te f
def JB (X : Cx) (e : Expr) (f : BF) : Prop := ∃ tt, PT X e tt ∧ SB X.K tt f
def JW (X : Cx) (e : Expr) (f : BF) : Prop := ∃ tt, PW X e tt ∧ SB X.K tt f
def JA (X : Cx) (es : List Expr) (f : AF) : Prop := ∃ ta, PA X es ta ∧ SA X.K ta f
/-! ### what can be read -/
inductive Rk (K : PySem.W.Frag) (G H : Hp) : V → PyData → Prop
  | fr {x : V} {d : PyData} (h : Dd K G x d) : Rk K G H x d
  | lst {a : Addr} {vs : List V} {ys : List PyData} (h : H a = some (.lst vs)) (r : Dds K G vs ys) : Rk K G H (.ref a) (.list ys)
  | dK {a : Addr} {ks : List (Key × V)} {ys : List (PyData × PyData)} (h : H a = some (.dK ks)) (r : Ddk K G ks ys) : Rk K G H (.ref a) (.dict ys)
def datas : List Vd → Option (List PyData)
  | [] => some []
  | .d x :: r => (datas r).map (x :: ·)
  | .r _ :: _ => none
def datasK : List (PyData × Vd) → Option (List (PyData × PyData))
  | [] => some []
  | (k, .d x) :: r => (datasK r).map ((k, x) :: ·)
  | (_, .r _) :: _ => none
def look (st : Sto) : Vd → Option PyData
  | .d x => some x
  | .r n => match st[n]? with
    | some (.lst xs) => (datas xs).map .list
    | some (.dic kvs) => (datasK kvs).map .dict
    | _ => none
section
variable {K : PySem.W.Frag} {S : Wd} {G H : Hp}
theorem datas_ok : ∀ {xs : List Vd} {vs : List V} {ys : List PyData}, RVs K S vs xs → datas xs = some ys → Dds K S.fr vs ys
  | [], _, _, .nil, e => by
    cases e
    exact .nil
  | .d x :: r, _, ys, .cons h t, e => by
    unfold datas at e
    obtain ⟨zs, h1, h2⟩ := Option.map_eq_some_iff.mp e
    subst h2
    exact .cons h (datas_ok t h1)
  | .r _ :: _, _, _, _, e => by cases e
theorem datasK_ok : ∀ {xs : List (PyData × Vd)} {vs : List (Key × V)} {ys : List (PyData × PyData)}, Paired (fun (p : Key × V) (q : PyData × Vd) => keyD p.1 = q.1 ∧ RV K S p.2 q.2) vs xs → datasK xs = some ys → Ddk K S.fr vs ys
  | [], _, _, .nil, e => by
    cases e
    exact .nil
  | (k, .d x) :: r, _, ys, .cons (a := ⟨k', v⟩) h t, e => by
    unfold datasK at e
    obtain ⟨zs, h1, h2⟩ := Option.map_eq_some_iff.mp e
    subst h2
    obtain ⟨e1, e2⟩ := h
    have e1' : keyD k' = k := e1
    subst e1'
    exact .cons e2 (datasK_ok t h1)
  | (_, .r _) :: _, _, _, _, e => by cases e
theorem look_at (ok : S.Ok K) {n : Nat} {c : Cell} (h : S.st[n]? = some c) (hc : c ≠ .dead) : ∃ a o, S.At n c a ∧ S.H a = some o ∧ RCell K S o c := by
  have hn : n < S.m.length := by rw [ok.len]; exact (List.getElem?_eq_some_iff.mp h).1
  have ha : S.At n c (S.m[n]) := ⟨h, hc, List.getElem?_eq_getElem hn⟩
  obtain ⟨o, h1, h2⟩ := ok.cell ha
  exact ⟨_, o, ha, h1, h2⟩
theorem RV.ref_at {x : V} {n : Nat} {c : Cell} {a : Addr} (h : RV K S x (.r n)) (h0 : S.At n c a) : x = .ref a := by
  obtain ⟨b, h1, h2⟩ := h
  rw [h0.2.2] at h1
  rw [h2, Option.some.inj h1]
theorem look_ok (ok : S.Ok K) {x : V} {v : Vd} {d : PyData} (r : RV K S x v) (h : look S.st v = some d) : (∃ z, v = .d z ∧ d = z ∧ Dd K S.fr x z) ∨ (∃ a vs ys, x = .ref a ∧ S.H a = some (.lst vs) ∧ Dds K S.fr vs ys ∧ d = .list ys) ∨
    (∃ a ks ys, x = .ref a ∧ S.H a = some (.dK ks) ∧ Ddk K S.fr ks ys ∧ d = .dict ys) ∨ (∃ a ks kvs ys, x = .ref a ∧ S.H a = some (.dT ks) ∧ Paired (fun p q => tupD p.1 = q.1 ∧ RV K S p.2 q.2) ks kvs ∧ datasK kvs = some ys ∧ d = .dict ys) := by
  cases v with
  | d z => cases h; exact .inl ⟨_, rfl, rfl, r⟩
  | r n =>
    unfold look at h
    simp only at h
    split at h
    · rename_i xs e
      obtain ⟨ys, h1, h2⟩ := Option.map_eq_some_iff.mp h
      obtain ⟨a, o, ha, h3, h4⟩ := look_at ok e (fun z => nomatch z)
      obtain ⟨vs, h5, h6⟩ := h4
      subst h5
      exact .inr (.inl ⟨a, vs, ys, r.ref_at ha, h3, datas_ok h6 h1, h2.symm⟩)
    · rename_i kvs e
      obtain ⟨ys, h1, h2⟩ := Option.map_eq_some_iff.mp h
      obtain ⟨a, o, ha, h3, h4⟩ := look_at ok e (fun z => nomatch z)
      rcases h4 with ⟨ks, h5, h6⟩ | ⟨ks, h5, h6⟩
      · subst h5
        exact .inr (.inr (.inl ⟨a, ks, ys, r.ref_at ha, h3, datasK_ok h6 h1, h2.symm⟩))
      · subst h5
        exact .inr (.inr (.inr ⟨a, ks, kvs, ys, r.ref_at ha, h3, h6, h1, h2.symm⟩))
    · cases h
/-- a cell that is a dict with tuples as keys can't be read as a whole yet -/
def lookR (st : Sto) : Vd → Option PyData
  | .d x => some x
  | .r n => match st[n]? with
    | some (.lst xs) => (datas xs).map .list
    | _ => none
theorem lookR_ok (ok : S.Ok K) {x : V} {v : Vd} {d : PyData} (r : RV K S x v) (h : lookR S.st v = some d) : Rk K S.fr S.H x d := by
  cases v with
  | d z => cases h; exact .fr r
  | r n =>
    unfold lookR at h
    simp only at h
    split at h
    · rename_i xs e
      obtain ⟨ys, h1, h2⟩ := Option.map_eq_some_iff.mp h
      obtain ⟨a, o, ha, h3, vs, h5, h6⟩ := look_at ok e (fun z => nomatch z)
      subst h5
      rw [r.ref_at ha, ← h2]
      exact .lst h3 (datas_ok h6 h1)
    · cases h
theorem Rk.up {G' H' : Hp} (g : Same G G') (h : Same H H') {x : V} {d : PyData} : Rk K G H x d → Rk K G' H' x d
  | .fr r => .fr (Dd.up g _ _ r)
  | .lst e r => .lst (h _ _ e) (Dds.up g _ _ r)
  | .dK e r => .dK (h _ _ e) (Ddk.up g _ _ r)
theorem Rk.dd (g : Same G H) {x : V} {d : PyData} : Rk K G H x d → Dd K H x d
  | .fr r => Dd.up g _ _ r
  | .lst e r => .lst (SqL.of e) (Dds.up g _ _ r)
  | .dK e r => .dic e (Ddk.up g _ _ r)
theorem SqL.up {H' : Hp} {a : Addr} {xs : List V} (e : Same H H') (h : SqL K H a xs) : SqL K H' a xs := e.seq h
theorem Rk.list (g : Same G H) {x : V} {ys : List PyData} (r : Rk K G H x (.list ys)) : ∃ a xs, x = .ref a ∧ SqL K H a xs ∧ Dds K G xs ys := by
  cases r with
  | fr r =>
    cases r with
    | lst q r => exact ⟨_, _, rfl, g.seq q, r⟩
  | lst e r => exact ⟨_, _, rfl, SqL.of e, r⟩
theorem Rk.tup (g : Same G H) {x : V} {ys : List PyData} (r : Rk K G H x (.tuple ys)) : ∃ a xs, x = .ref a ∧ SqT K H a xs ∧ Dds K G xs ys ∧ SqT K G a xs := by
  cases r with
  | fr r =>
    cases r with
    | tup q r => exact ⟨_, _, rfl, same_seqT g q, r, q⟩
theorem Rk.int {x : V} {i : Int} (r : Rk K G H x (.int i)) : x = .int i := by
  cases r with
  | fr r => cases r; rfl
theorem Rk.str {x : V} {i : Str} (r : Rk K G H x (.str i)) : x = .str i := by
  cases r with
  | fr r => cases r; rfl
theorem Rk.bool {x : V} {i : Bool} (r : Rk K G H x (.bool i)) : x = .bl i := by
  cases r with
  | fr r => cases r; rfl
theorem Rk.none {x : V} (r : Rk K G H x .none) : x = .non := by
  cases r with
  | fr r => cases r; rfl
theorem Dds.length_ : ∀ {xs : List V} {ds : List PyData}, Dds K H xs ds → xs.length = ds.length
  | _, _, .nil => rfl
  | _, _, .cons _ r => congrArg (· + 1) (Dds.length_ r)
theorem Dds.append_ : ∀ {xs xs' : List V} {ds ds' : List PyData}, Dds K H xs ds → Dds K H xs' ds' → Dds K H (xs ++ xs') (ds ++ ds')
  | _, _, _, _, .nil, h => h
  | _, _, _, _, .cons a r, h => .cons a (Dds.append_ r h)
theorem Dds.take_ : ∀ {xs : List V} {ds : List PyData} (n : Nat), Dds K H xs ds → Dds K H (xs.take n) (ds.take n)
  | _, _, 0, _ => .nil
  | _, _, _ + 1, .nil => .nil
  | _, _, n + 1, .cons a r => .cons a (Dds.take_ n r)
theorem Dds.drop_ : ∀ {xs : List V} {ds : List PyData} (n : Nat), Dds K H xs ds → Dds K H (xs.drop n) (ds.drop n)
  | _, _, 0, r => r
  | _, _, _ + 1, .nil => .nil
  | _, _, n + 1, .cons a r => Dds.drop_ n r
theorem Dds.get_ : ∀ {xs : List V} {ds : List PyData} {i : Nat} {d : PyData}, Dds K H xs ds → ds[i]? = some d → ∃ x, xs[i]? = some x ∧ Dd K H x d
  | _, _, _, _, .nil, e => by simp at e
  | _, _, 0, _, .cons a _, e => by
    simp at e
    subst e
    exact ⟨_, rfl, a⟩
  | _, _, i + 1, _, .cons _ r, e => by
    obtain ⟨x, h1, h2⟩ := Dds.get_ (i := i) r (by simpa using e)
    exact ⟨x, by simpa using h1, h2⟩
theorem Dds.nil_iff {xs : List V} {ds : List PyData} (h : Dds K H xs ds) : xs = [] ↔ ds = [] := by
  cases h <;> simp
end
/-! ### operations of two values -/
def SO (K : PySem.W.Frag) (r : R2) (g : PyData → PyData → Option PyData) : Prop := ∀ (G H : Hp) (x y : V) (dx dy z : PyData), Same G H → Rk K G H x dx → Rk K G H y dy → g dx dy = some z →
  ∀ Q : VK, (∀ G' H' v, Grow G H G' H' → Dd K G' v z → Q v H') → r x y H Q
theorem opr_or {X : Cx} {f : Value → Value → Sem Value} {r1 r2 : R2} (h1 : OpR X f r1) (h2 : OpR X f r2) : OpR X f fun x y H Q => r1 x y H Q ∨ r2 x y H Q := fun pins s σ H x y v u Q I rx ry h =>
  h.elim (h1 pins s σ H x y v u Q I rx ry) (h2 pins s σ H x y v u Q I rx ry)
section
variable {X : Cx} {K : PySem.W.Frag}
/-- a new tuple, a new list of data -/
theorem new_tup {G H : Hp} {xs : List V} {ys : List PyData} {Q : VK} (g : Same G H) (r : Dds K G xs ys) (h : ∀ G' H' v, Grow G H G' H' → Dd K G' v (.tuple ys) → Q v H') {p : Addr} (hp : H p = none) : Q (.ref p) (upd H p (.tup xs)) :=
  h _ _ _ ((Grow.refl g).put hp (.tup xs)) (.tup (SqT.of upd_same) (Dds.up (same_up (free_of g hp)) _ _ r))
theorem new_lst {G H : Hp} {xs : List V} {ys : List PyData} {Q : VK} (g : Same G H) (r : Dds K G xs ys) (h : ∀ G' H' v, Grow G H G' H' → Dd K G' v (.list ys) → Q v H') {p : Addr} (hp : H p = none) : Q (.ref p) (upd H p (.lst xs)) :=
  h _ _ _ ((Grow.refl g).put hp (.lst xs)) (.lst (SqL.of upd_same) (Dds.up (same_up (free_of g hp)) _ _ r))
def gAdd : PyData → PyData → Option PyData
  | .int i, .int j => some (.int (i + j))
  | .str i, .str j => if i.length + j.length ≤ sizeLine then some (.str (i ++ j)) else none
  | .tuple xs, .tuple ys => if xs.length + ys.length ≤ sizeLine then some (.tuple (xs ++ ys)) else none
  | .list xs, .list ys => if xs.length + ys.length ≤ sizeLine then some (.list (xs ++ ys)) else none
  | _, _ => none
def rCatD (K : PySem.W.Frag) : R2 := fun x y H Q => ∃ l b xs zs, x = .ref l ∧ y = .ref b ∧ SqL K H l xs ∧ SqL K H b zs ∧ xs.length + zs.length ≤ sizeLine ∧ ∀ p, H p = none → Q (.ref p) (upd H p (.lst (xs ++ zs)))
end
end Dl

set_option Elab.async false
set_option linter.all false
set_option maxRecDepth 100000
set_option maxHeartbeats 4000000
namespace Dl
open PySem PySem.Spec PyProof.Rows L2 Pg
/-! ### == and != with [] or () -/
def SqB (K : PySem.W.Frag) (H : Hp) (k : Bool) (a : Addr) (xs : List V) : Prop := if k then SqT K H a xs else SqL K H a xs
def rNoE (K : PySem.W.Frag) (neg : Bool) : R2 := fun x y H Q => ∃ (k : Bool) (a b : Addr) (xs : List V), x = .ref a ∧ y = .ref b ∧ SqB K H k a xs ∧ SqB K H k b [] ∧ Q (.bl (xs.isEmpty != neg)) H
theorem op_eqE {X : Cx} (hu : X.A.units < cLine) : OpR X (compareOp .Eq) (rNoE X.K false) := by
  intro pins s σ H x y v u Q I rx ry h
  obtain ⟨k, a, b, xs, rfl, rfl, h1, h2, q⟩ := h
  cases rx; cases ry
  have fin : EP X pins σ Q (.bool xs.isEmpty) s := ⟨.bl _, H, I, rfl, by simpa using q⟩
  cases k with
  | true =>
    obtain ⟨us, r1, ⟨⟨c1, d1, t1, s1⟩, o1, e1, n1, k1⟩, _⟩ := I.tuple (show SqT X.K H a xs from h1)
    obtain ⟨vs, r2, ⟨⟨c2, d2, t2, s2⟩, o2, e2, n2, k2⟩, _⟩ := I.tuple (show SqT X.K H b [] from h2)
    simp only at e1 k1 e2 k2
    subst e1 k1 e2 k2
    cases r2
    have ta : s.TypeIs (.ref a) "tuple" := ⟨_, o1, rfl⟩
    have tb : s.TypeIs (.ref b) "tuple" := ⟨_, o2, rfl⟩
    refine wpAny_richCompare_same_room (op := .Eq) ta tb F.slot_tuple_eq (call_meets F.slot_tuple_eq ta F.entry_tuple_eq (F.args_tuple_eq_2 _ _) (SeqAt.tuple_eqAt a b us.toArray #[] n1 n2 d1 d2 s1 s2 (fun _ => true)) ⟨o1, o2, (fun j _ z => absurd z (by simp)), ?_⟩) hu
    refine ⟨(fun x => nomatch x), ?_⟩
    have e : ((List.range (min us.toArray.size (#[] : Array Value).size)).all (fun _ => true) && us.toArray.size == (#[] : Array Value).size) = xs.isEmpty := by
      have l1 := r1.length
      cases xs with
      | nil => cases r1; rfl
      | cons z zs => cases r1; simp
    rw [e]
    exact fin
  | false =>
    obtain ⟨us, r1, p1, _⟩ := I.list (show SqL X.K H a xs from h1)
    obtain ⟨⟨c1, d1, t1, s1⟩, o1, e1, n1, k1⟩ := p1.isList
    obtain ⟨vs, r2, p2, _⟩ := I.list (show SqL X.K H b [] from h2)
    obtain ⟨⟨c2, d2, t2, s2⟩, o2, e2, n2, k2⟩ := p2.isList
    simp only at e1 k1 e2 k2
    subst e1 k1 e2 k2
    cases r2
    have ta : s.TypeIs (.ref a) "list" := ⟨_, o1, rfl⟩
    have tb : s.TypeIs (.ref b) "list" := ⟨_, o2, rfl⟩
    cases xs with
    | nil =>
      cases r1
      refine wpAny_richCompare_same_room (op := .Eq) ta tb F.slot_list_eq (call_meets F.slot_list_eq ta F.entry_list_eq (F.args_list_eq_2 _ _) (SeqAt.list_eqAt a b #[] #[] n1 n2 d1 d2 s1 s2 rfl (fun _ => true)) ⟨o1, o2, (fun j _ z => absurd z (by simp)), ?_⟩) hu
      exact ⟨(fun x => nomatch x), fin⟩
    | cons z zs =>
      cases r1 with
      | @cons _ w _ ws _ _ =>
        refine wpAny_richCompare_same_room (op := .Eq) ta tb F.slot_list_eq (call_meets F.slot_list_eq ta F.entry_list_eq (F.args_list_eq_2 _ _) (SeqAt.list_eq_lengthsAt a b (w :: ws).toArray #[] n1 n2 d1 d2 s1 s2 (by simp)) ⟨o1, o2, ?_⟩) hu
        exact ⟨(fun x => nomatch x), fin⟩
theorem op_neE {X : Cx} (hu : X.A.units < cLine) : OpR X (compareOp .NotEq) (rNoE X.K true) := by
  intro pins s σ H x y v u Q I rx ry h
  obtain ⟨k, a, b, xs, rfl, rfl, h1, h2, q⟩ := h
  cases rx; cases ry
  have fin : EP X pins σ Q (.bool (!xs.isEmpty)) s := ⟨.bl _, H, I, rfl, by simpa using q⟩
  cases k with
  | true =>
    obtain ⟨us, r1, ⟨⟨c1, d1, t1, s1⟩, o1, e1, n1, k1⟩, _⟩ := I.tuple (show SqT X.K H a xs from h1)
    obtain ⟨vs, r2, ⟨⟨c2, d2, t2, s2⟩, o2, e2, n2, k2⟩, _⟩ := I.tuple (show SqT X.K H b [] from h2)
    simp only at e1 k1 e2 k2
    subst e1 k1 e2 k2
    cases r2
    have ta : s.TypeIs (.ref a) "tuple" := ⟨_, o1, rfl⟩
    have tb : s.TypeIs (.ref b) "tuple" := ⟨_, o2, rfl⟩
    refine wpAny_richCompare_same_room (op := .NotEq) ta tb F.slot_tuple_ne (call_meets F.slot_tuple_ne ta F.entry_tuple_ne (F.args_tuple_ne_2 _ _) (SeqAt.tuple_neAt a b us.toArray #[] n1 n2 d1 d2 s1 s2 (fun _ => true)) ⟨o1, o2, (fun j _ z => absurd z (by simp)), ?_⟩) hu
    refine ⟨(fun x => nomatch x), ?_⟩
    have e : (!((List.range (min us.toArray.size (#[] : Array Value).size)).all (fun _ => true) && us.toArray.size == (#[] : Array Value).size)) = !xs.isEmpty := by
      cases xs with
      | nil => cases r1; rfl
      | cons z zs => cases r1; simp
    rw [e]
    exact fin
  | false =>
    obtain ⟨us, r1, p1, _⟩ := I.list (show SqL X.K H a xs from h1)
    obtain ⟨⟨c1, d1, t1, s1⟩, o1, e1, n1, k1⟩ := p1.isList
    obtain ⟨vs, r2, p2, _⟩ := I.list (show SqL X.K H b [] from h2)
    obtain ⟨⟨c2, d2, t2, s2⟩, o2, e2, n2, k2⟩ := p2.isList
    simp only at e1 k1 e2 k2
    subst e1 k1 e2 k2
    cases r2
    have ta : s.TypeIs (.ref a) "list" := ⟨_, o1, rfl⟩
    have tb : s.TypeIs (.ref b) "list" := ⟨_, o2, rfl⟩
    cases xs with
    | nil =>
      cases r1
      refine wpAny_richCompare_same_room (op := .NotEq) ta tb F.slot_list_ne (call_meets F.slot_list_ne ta F.entry_list_ne (F.args_list_ne_2 _ _) (SeqAt.list_neAt a b #[] #[] n1 n2 d1 d2 s1 s2 rfl (fun _ => true)) ⟨o1, o2, (fun j _ z => absurd z (by simp)), ?_⟩) hu
      exact ⟨(fun x => nomatch x), fin⟩
    | cons z zs =>
      cases r1 with
      | @cons _ w _ ws _ _ =>
        refine wpAny_richCompare_same_room (op := .NotEq) ta tb F.slot_list_ne (call_meets F.slot_list_ne ta F.entry_list_ne (F.args_list_ne_2 _ _) (SeqAt.list_ne_lengthsAt a b (w :: ws).toArray #[] n1 n2 d1 d2 s1 s2 (by simp)) ⟨o1, o2, ?_⟩) hu
        exact ⟨(fun x => nomatch x), fin⟩
end Dl

set_option Elab.async false
set_option linter.all false
set_option maxRecDepth 100000
set_option maxHeartbeats 4000000
namespace Dl
open PySem PySem.Spec PyProof.Rows L2 Pg
/-! ### arithmetic, sums of sequences -/
section
variable {X : Cx} {K : PySem.W.Frag}
theorem op_catD : OpR X (binaryOp .Add) (rCatD X.K) := by
  intro pins s σ H x y v u Q I rx ry h
  obtain ⟨l, b, xs, zs, rfl, rfl, hl, hb, hz, q⟩ := h
  cases rx
  cases ry
  obtain ⟨its, r1, ⟨⟨c1, d1, t1, s1⟩, n1, o1, e1, f1, g1⟩, _⟩ := I.list hl
  obtain ⟨its2, r2, ⟨⟨c2, d2, t2, s2⟩, n2, o2, e2, f2, g2⟩, _⟩ := I.list hb
  simp only at e1 f1 g1 e2 f2 g2
  subst e1 f1 g1 e2 f2 g2
  have e : its.toArray ++ its2.toArray = (its ++ its2).toArray := by simp
  have hz' : its.length + its2.length ≤ sizeLine := by rw [← r1.length, ← r2.length]; exact hz
  refine concat_meets ⟨_, o1, rfl⟩ ⟨_, o2, rfl⟩ noFill_list_add seq_list_add PySem.F.slot_list_add PySem.F.entry_list_add (PySem.F.args_list_add_2 _ _) (list_addW l b its.toArray its2.toArray n1 n2 none none s1 s2 (by simpa using hz')) ⟨o1, o2, ?_⟩
  rw [e]
  exact ⟨.ref _, _, I.lnew (t' := s.toks) (r1.append r2) (by rw [List.length_append]; exact hz), rfl, q _ I.fresh⟩
def rAddD (K : PySem.W.Frag) : R2 := fun x y H Q => (rI0 fun i j => .int (i + j)) x y H Q ∨ ((∃ i j, x = .str i ∧ y = .str j ∧ i.length + j.length ≤ sizeLine ∧ Q (.str (i ++ j)) H) ∨ (rCatA K x y H Q ∨ rCatD K x y H Q))
theorem op_addD : OpR X (binaryOp .Add) (rAddD X.K) := opr_or op_add (opr_or op_add_str (opr_or op_catA op_catD))
theorem so_add : SO K (rAddD K) gAdd := by
  intro G H x y dx dy z g rx ry e Q q
  unfold gAdd at e
  split at e
  · cases e
    exact .inl ⟨_, _, rx.int, ry.int, q _ _ _ (Grow.refl g) (.int _)⟩
  · split at e
    · cases e
      exact .inr (.inl ⟨_, _, rx.str, ry.str, ‹_›, q _ _ _ (Grow.refl g) (.str _)⟩)
    · cases e
  · split at e
    · rename_i hz
      cases e
      obtain ⟨a, xs, rfl, h1, r1, g1⟩ := rx.tup g
      obtain ⟨b, ys, rfl, h2, r2, g2⟩ := ry.tup g
      refine .inr (.inr (.inl ⟨a, b, xs, ys, rfl, rfl, h1, h2, by rw [Dds.length_ r1, Dds.length_ r2]; exact hz, fun e => ?_, fun _ e => ?_, fun _ _ p hp => ?_⟩))
      · subst e
        cases r1
        exact q _ _ _ (Grow.refl g) (.tup g2 r2)
      · subst e
        cases r2
        rw [List.append_nil] at q
        exact q _ _ _ (Grow.refl g) (.tup g1 r1)
      · exact new_tup g (Dds.append_ r1 r2) q hp
    · cases e
  · split at e
    · rename_i hz
      cases e
      obtain ⟨a, xs, rfl, h1, r1⟩ := rx.list g
      obtain ⟨b, ys, rfl, h2, r2⟩ := ry.list g
      exact .inr (.inr (.inr ⟨a, b, xs, ys, rfl, rfl, h1, h2, by rw [Dds.length_ r1, Dds.length_ r2]; exact hz, fun p hp => new_lst g (Dds.append_ r1 r2) q hp⟩))
    · cases e
  · cases e
def gSub : PyData → PyData → Option PyData
  | .int i, .int j => some (.int (i - j))
  | _, _ => none
theorem so_sub : SO K (rI0 fun i j => .int (i - j)) gSub := by
  intro G H x y dx dy z g rx ry e Q q
  unfold gSub at e
  split at e
  · cases e
    exact ⟨_, _, rx.int, ry.int, q _ _ _ (Grow.refl g) (.int _)⟩
  · cases e
open Classical in
noncomputable def gMul : PyData → PyData → Option PyData
  | .int i, .int j => if CMulW i j then some (.int (i * j)) else none
  | .list xs, .int n => if 0 ≤ n ∧ n < 2 ^ 62 ∧ xs.length * n.toNat ≤ sizeLine then some (.list (List.replicate n.toNat xs).flatten) else none
  | _, _ => none
def gMod : PyData → PyData → Option PyData
  | .int i, .int j => if 0 < j then some (.int (i % j)) else none
  | _, _ => none
theorem so_mod : SO K (rI (fun _ j => 0 < j) fun i j => .int (i % j)) gMod := by
  intro G H x y dx dy z g rx ry e Q q
  unfold gMod at e
  split at e
  · split at e
    · cases e
      exact ⟨_, _, rx.int, ry.int, ‹_›, q _ _ _ (Grow.refl g) (.int _)⟩
    · cases e
  · cases e
open Classical in
noncomputable def gDiv : PyData → PyData → Option PyData
  | .int i, .int j => if CDivW i j then some (.int (i / j)) else none
  | _, _ => none
theorem so_div : SO K (rI CDivW fun i j => .int (i / j)) gDiv := by
  intro G H x y dx dy z g rx ry e Q q
  unfold gDiv at e
  split at e
  · split at e
    · cases e
      exact ⟨_, _, rx.int, ry.int, ‹_›, q _ _ _ (Grow.refl g) (.int _)⟩
    · cases e
  · cases e
open Classical in
noncomputable def gPow : PyData → PyData → Option PyData
  | .int i, .int j => if CPow i j then some (.int (i ^ j.toNat)) else none
  | _, _ => none
theorem so_pow : SO K (rI CPow fun i j => .int (i ^ j.toNat)) gPow := by
  intro G H x y dx dy z g rx ry e Q q
  unfold gPow at e
  split at e
  · split at e
    · cases e
      exact ⟨_, _, rx.int, ry.int, ‹_›, q _ _ _ (Grow.refl g) (.int _)⟩
    · cases e
  · cases e
/-! ### comparisons -/
def isNon : PyData → Bool
  | .none => true
  | _ => false
def rCmD (K : PySem.W.Frag) (f : PyData → PyData → Bool) : R2 := fun x y H Q => ∃ d e, Dd K H x d ∧ Dd K H y e ∧ PySem.W.alike d e = true ∧ isNon d = false ∧ min d.depth e.depth ≤ 60 ∧ Q (.bl (f d e)) H
def gCm (f : PyData → PyData → Bool) (d e : PyData) : Option PyData := if (PySem.W.alike d e && !isNon d && decide (min d.depth e.depth ≤ 60)) = true then some (.bool (f d e)) else none
theorem so_cm (f : PyData → PyData → Bool) : SO K (rCmD K f) (gCm f) := by
  intro G H x y dx dy z g rx ry e Q q
  unfold gCm at e
  split at e
  · rename_i hc
    simp only [Bool.and_eq_true, Bool.not_eq_true', decide_eq_true_eq] at hc
    cases e
    exact ⟨dx, dy, rx.dd g, ry.dd g, hc.1.1, hc.1.2, hc.2, q _ _ _ (Grow.refl g) (.bl _)⟩
  · cases e
theorem nn_of {d : PyData} (h : isNon d = false) : d ≠ .none := fun e => by rw [e] at h; cases h
theorem op_ltD (hu : X.A.units + 64 < cLine) : OpR X (compareOp .Lt) (rCmD X.K PySem.W.dataLt) := by
  intro pins s σ H x y v u Q I rx ry h
  obtain ⟨d, e, hd, he, h1, h2, h3, q⟩ := h
  obtain ⟨as, r1, _⟩ := dd_say I d x v hd rx
  obtain ⟨bs, r2, _⟩ := dd_say I e y u he ry
  exact PySem.W.lt_data r1 r2 h1 (nn_of h2) (by omega) ⟨.bl _, H, I, rfl, q⟩
theorem op_gtD (hu : X.A.units + 64 < cLine) : OpR X (compareOp .Gt) (rCmD X.K fun d e => PySem.W.dataLt e d) := by
  intro pins s σ H x y v u Q I rx ry h
  obtain ⟨d, e, hd, he, h1, h2, h3, q⟩ := h
  obtain ⟨as, r1, _⟩ := dd_say I d x v hd rx
  obtain ⟨bs, r2, _⟩ := dd_say I e y u he ry
  exact PySem.W.gt_data r1 r2 h1 (nn_of h2) (by omega) ⟨.bl _, H, I, rfl, q⟩
theorem op_leD (hu : X.A.units + 64 < cLine) : OpR X (compareOp .LtE) (rCmD X.K fun d e => !PySem.W.dataLt e d) := by
  intro pins s σ H x y v u Q I rx ry h
  obtain ⟨d, e, hd, he, h1, h2, h3, q⟩ := h
  obtain ⟨as, r1, _⟩ := dd_say I d x v hd rx
  obtain ⟨bs, r2, _⟩ := dd_say I e y u he ry
  exact PySem.W.le_data r1 r2 h1 (nn_of h2) (by omega) ⟨.bl _, H, I, rfl, q⟩
theorem op_geD (hu : X.A.units + 64 < cLine) : OpR X (compareOp .GtE) (rCmD X.K fun d e => !PySem.W.dataLt d e) := by
  intro pins s σ H x y v u Q I rx ry h
  obtain ⟨d, e, hd, he, h1, h2, h3, q⟩ := h
  obtain ⟨as, r1, _⟩ := dd_say I d x v hd rx
  obtain ⟨bs, r2, _⟩ := dd_say I e y u he ry
  exact PySem.W.ge_data r1 r2 h1 (nn_of h2) (by omega) ⟨.bl _, H, I, rfl, q⟩
/-- ==: of any data without dicts; of the same data, dicts in it too -/
def rEqA (K : PySem.W.Frag) : R2 := fun x y H Q => ∃ d e, Dd K H x d ∧ Dd K H y e ∧ SeqAt.shaped d = true ∧ SeqAt.shaped e = true ∧ Q (.bl (PyData.eqv d e)) H
def rNeA0 (K : PySem.W.Frag) : R2 := fun x y H Q => ∃ d e, Dd K H x d ∧ Dd K H y e ∧ SeqAt.shaped d = true ∧ SeqAt.shaped e = true ∧ Q (.bl (!PyData.eqv d e)) H
theorem op_eqA (hu : X.A.units + 64 < cLine) : OpR X (compareOp .Eq) (rEqA X.K) := by
  intro pins s σ H x y v u Q I rx ry h
  obtain ⟨d, e, hd, he, sd, se, q⟩ := h
  obtain ⟨as, r1, _⟩ := dd_say I d x v hd rx
  obtain ⟨bs, r2, _⟩ := dd_say I e y u he ry
  exact SeqAt.compareEq_shaped r1 r2 sd se hu ⟨.bl _, H, I, rfl, q⟩
theorem op_neA0 (hu : X.A.units + 64 < cLine) : OpR X (compareOp .NotEq) (rNeA0 X.K) := by
  intro pins s σ H x y v u Q I rx ry h
  obtain ⟨d, e, hd, he, sd, se, q⟩ := h
  obtain ⟨as, r1, _⟩ := dd_say I d x v hd rx
  obtain ⟨bs, r2, _⟩ := dd_say I e y u he ry
  exact SeqAt.compareNe_shaped r1 r2 sd se hu ⟨.bl _, H, I, rfl, q⟩
def rEqD (K : PySem.W.Frag) : R2 := fun x y H Q => rEqA K x y H Q ∨ rAlike K x y H Q ∨ rNoE K false x y H Q
theorem op_eqD (hu : X.A.units + 64 < cLine) : OpR X (compareOp .Eq) (Dl.rEqD X.K) := opr_or (op_eqA hu) (opr_or (op_alike hu) (op_eqE (by omega)))
def rNeA (K : PySem.W.Frag) : R2 := fun x y H Q => rNeA0 K x y H Q ∨ rNoE K true x y H Q ∨ rNe x y H Q
theorem op_neA (hu : X.A.units + 64 < cLine) : OpR X (compareOp .NotEq) (rNeA X.K) := opr_or (op_neA0 hu) (opr_or (op_neE (by omega)) op_ne)
/-- == with () or [] on the right, whatever stands in the other -/
def gEmp : PyData → PyData → Option Bool
  | .tuple xs, .tuple [] => some xs.isEmpty
  | .list xs, .list [] => some xs.isEmpty
  | _, _ => none
theorem Dds.isEmpty {H : Hp} {xs : List V} {ds : List PyData} (h : Dds K H xs ds) : xs.isEmpty = ds.isEmpty := by cases h <;> rfl
theorem emp_of {G H : Hp} {x y : V} {dx dy : PyData} {t : Bool} (g : Same G H) (rx : Rk K G H x dx) (ry : Rk K G H y dy) (e : gEmp dx dy = some t) (neg : Bool) {Q : VK} (q : Q (.bl (t != neg)) H) : rNoE K neg x y H Q := by
  unfold gEmp at e
  split at e
  · cases e
    obtain ⟨a, xs, rfl, h1, h2, _⟩ := rx.tup g
    obtain ⟨b, ys, rfl, h3, h4, _⟩ := ry.tup g
    cases h4
    exact ⟨true, a, b, xs, rfl, rfl, h1, h3, by rw [Dds.isEmpty h2]; exact q⟩
  · cases e
    obtain ⟨a, xs, rfl, h1, h2⟩ := rx.list g
    obtain ⟨b, ys, rfl, h3, h4⟩ := ry.list g
    cases h4
    exact ⟨false, a, b, xs, rfl, rfl, h1, h3, by rw [Dds.isEmpty h2]; exact q⟩
  · cases e
open Classical in
noncomputable def gEq (d e : PyData) : Option PyData := if SeqAt.shaped d = true ∧ SeqAt.shaped e = true then some (.bool (PyData.eqv d e)) else if d = e ∧ d.depth ≤ 60 then some (.bool true) else (gEmp d e).map .bool
theorem so_eq : SO K (Dl.rEqD K) gEq := by
  intro G H x y dx dy z g rx ry e Q q
  unfold gEq at e
  split at e
  · rename_i hc
    cases e
    exact .inl ⟨dx, dy, rx.dd g, ry.dd g, hc.1, hc.2, q _ _ _ (Grow.refl g) (.bl _)⟩
  · split at e
    · rename_i hc
      cases e
      obtain ⟨e1, e2⟩ := hc
      subst e1
      exact .inr (.inl ⟨dx, rx.dd g, ry.dd g, e2, q _ _ _ (Grow.refl g) (.bl _)⟩)
    · obtain ⟨t, e1, e2⟩ := Option.map_eq_some_iff.mp e
      cases e2
      exact .inr (.inr (emp_of g rx ry e1 false (by rw [Bool.bne_false]; exact q _ _ _ (Grow.refl g) (.bl _))))
def gNeF : PyData → PyData → Option PyData
  | .str x, .str y => some (.bool (!decide (x = y)))
  | d, e => (gEmp d e).map fun t => .bool (!t)
def gNe (d e : PyData) : Option PyData := if SeqAt.shaped d = true ∧ SeqAt.shaped e = true then some (.bool (!PyData.eqv d e)) else gNeF d e
theorem so_ne : SO K (rNeA K) gNe := by
  intro G H x y dx dy z g rx ry e Q q
  unfold gNe at e
  split at e
  · rename_i hc
    cases e
    exact .inl ⟨dx, dy, rx.dd g, ry.dd g, hc.1, hc.2, q _ _ _ (Grow.refl g) (.bl _)⟩
  · unfold gNeF at e
    split at e
    · rename_i a b _
      cases e
      rw [rx.str, ry.str]
      refine .inr (.inr ⟨rfl, ?_⟩)
      have : decide (V.str a = V.str b) = decide (a = b) := by
        rw [Bool.eq_iff_iff]
        simp
      rw [this]
      exact q _ _ _ (Grow.refl g) (.bl _)
    · obtain ⟨t, e1, e2⟩ := Option.map_eq_some_iff.mp e
      cases e2
      exact .inr (.inl (emp_of g rx ry e1 true (by rw [Bool.bne_true]; exact q _ _ _ (Grow.refl g) (.bl _))))
def gIsN (d e : PyData) : Option PyData := if isNon e = true then some (.bool (isNon d)) else none
def gNotN (d e : PyData) : Option PyData := if isNon e = true then some (.bool (!isNon d)) else none
theorem isNon_iff {d : PyData} (h : isNon d = true) : d = .none := by cases d <;> first | rfl | cases h
theorem Rk.non {G H : Hp} {x : V} {d : PyData} (r : Rk K G H x d) : decide (x = .non) = isNon d := by
  cases r with
  | fr r => cases r <;> rfl
  | lst _ _ => rfl
  | dK _ _ => rfl
theorem so_isN : SO K rIsN gIsN := by
  intro G H x y dx dy z g rx ry e Q q
  unfold gIsN at e
  split at e
  · rename_i hc
    cases e
    have := isNon_iff hc
    subst this
    exact ⟨ry.none, by rw [rx.non]; exact q _ _ _ (Grow.refl g) (.bl _)⟩
  · cases e
theorem so_notN : SO K rNotN gNotN := by
  intro G H x y dx dy z g rx ry e Q q
  unfold gNotN at e
  split at e
  · rename_i hc
    cases e
    have := isNon_iff hc
    subst this
    exact ⟨ry.none, by rw [rx.non]; exact q _ _ _ (Grow.refl g) (.bl _)⟩
  · cases e
end
end Dl

set_option Elab.async false
set_option linter.all false
set_option maxRecDepth 100000
set_option maxHeartbeats 4000000
namespace Dl
open PySem PySem.Spec PyProof.Rows L2 Pg
/-! ### expressions -/
def eVar (i : Nat) : EF := fun ρ st => match ρ[i]? with
  | some (some v) => some (v, st)
  | _ => none
def eC (x : PyData) : EF := fun _ st => some (.d x, st)
def eOp (g : PyData → PyData → Option PyData) (a b : EF) : EF := fun ρ st => match a ρ st with
  | some (va, st1) => match b ρ st1 with
    | some (vb, st2) => match lookR st2 va, lookR st2 vb with
      | some x, some y => (g x y).map fun z => (.d z, st2)
      | _, _ => none
    | none => none
  | none => none
/-- a value is frozen -/
def eFz (a : EF) : EF := fun ρ st => match a ρ st with
  | some (.d x, st1) => some (.d x, st1)
  | some (.r n, st1) => match lookR st1 (.r n) with
    | some x => some (.d x, st1.set n .dead)
    | none => none
  | none => none
def bVal (a : EF) : BF := fun ρ st => match a ρ st with
  | some (.d (.bool b), st1) => some (b, st1)
  | _ => none
def truD : PyData → Option Bool
  | .none => some false
  | .bool b => some b
  | .int i => some (i != 0)
  | .str y => if y.length ≤ sizeLine then some ((y.length : Int) != 0) else none
  | .list xs => some (!xs.isEmpty)
  | .tuple xs => some (!xs.isEmpty)
  | .dict _ => none
def bTru (a : EF) : BF := fun ρ st => match a ρ st with
  | some (v, st1) => match lookR st1 v with
    | some x => (truD x).map fun b => (b, st1)
    | none => none
  | none => none
def bAnd (a b : BF) : BF := fun ρ st => match a ρ st with
  | some (true, st1) => b ρ st1
  | some (false, st1) => some (false, st1)
  | none => none
def bOr (a b : BF) : BF := fun ρ st => match a ρ st with
  | some (true, st1) => some (true, st1)
  | some (false, st1) => b ρ st1
  | none => none
def bNot (a : BF) : BF := fun ρ st => match a ρ st with
  | some (x, st1) => some (!x, st1)
  | none => none
def eIf (c : BF) (a b : EF) : EF := fun ρ st => match c ρ st with
  | some (true, st1) => a ρ st1
  | some (false, st1) => b ρ st1
  | none => none
def eAnd (a b : EF) : EF := fun ρ st => match a ρ st with
  | some (v, st1) => match lookR st1 v with
    | some x => match truD x with
      | some true => b ρ st1
      | some false => some (v, st1)
      | none => none
    | none => none
  | none => none
def eOr (a b : EF) : EF := fun ρ st => match a ρ st with
  | some (v, st1) => match lookR st1 v with
    | some x => match truD x with
      | some true => some (v, st1)
      | some false => b ρ st1
      | none => none
    | none => none
  | none => none
def eNot (a : EF) : EF := fun ρ st => match a ρ st with
  | some (v, st1) => match lookR st1 v with
    | some x => (truD x).map fun b => (.d (.bool !b), st1)
    | none => none
  | none => none
def aNil : AF := fun _ st => some ([], st)
def aCons (a : EF) (r : AF) : AF := fun ρ st => match a ρ st with
  | some (v, st1) => match r ρ st1 with
    | some (vs, st2) => some (v :: vs, st2)
    | none => none
  | none => none
def eTup (a : AF) : EF := fun ρ st => match a ρ st with
  | some (vs, st1) => match datas vs with
    | some xs => if xs.length ≤ sizeLine then some (.d (.tuple xs), st1) else none
    | none => none
  | none => none
def eLst (a : AF) : EF := fun ρ st => match a ρ st with
  | some (vs, st1) => match datas vs with
    | some xs => if xs.length ≤ sizeLine then some (.d (.list xs), st1) else none
    | none => none
  | none => none
/-- a new list that may change -/
def eLstN (a : AF) : EF := fun ρ st => match a ρ st with
  | some (vs, st1) => if vs.length ≤ sizeLine then some (.r st1.length, st1 ++ [.lst vs]) else none
  | none => none
section
variable {X : Cx} {K : PySem.W.Frag} {ta tb te : TE} {fa fb f : EF} {a b e : Expr} {pos : Pos}
theorem se_var {i : Nat} : SE K (tVar i) (eVar i) := by
  intro S ρ σ v st' ok en h Q q
  unfold eVar at h
  split at h
  · rename_i w e
    cases h
    obtain ⟨x, h1, h2⟩ := en.at_ i v e
    exact ⟨x, h1, q S x rfl rfl (Ext.refl S) ok h2⟩
  · cases h
theorem se_c {v : V} {x : PyData} (h0 : ∀ G, Dd K G v x) : SE K (tC v) (eC x) := by
  intro S ρ σ w st' ok en h Q q
  cases h
  exact q S v rfl rfl (Ext.refl S) ok (h0 _)
theorem se_op {r : R2} {g : PyData → PyData → Option PyData} (hr : SO K r g) (ha : SE K ta fa) (hb : SE K tb fb) : SE K (tOp r ta tb) (eOp g fa fb) := by
  intro S ρ σ v st' ok en h Q q
  unfold eOp at h
  split at h
  · rename_i va st1 e1
    split at h
    · rename_i vb st2 e2
      split at h
      · rename_i x y e3 e4
        obtain ⟨z, e5, e6⟩ := Option.map_eq_some_iff.mp h
        cases e6
        refine ha S ρ σ va st1 ok en e1 _ fun S1 xa l1 s1 x1 ok1 r1 => ?_
        subst s1
        refine hb S1 ρ σ vb st' ok1 (en.up x1) e2 _ fun S2 xb l2 s2 x2 ok2 r2 => ?_
        subst s2
        refine hr S2.fr S2.H xa xb x y z (fr_same S2) (lookR_ok ok2 (r1.up x2) e3) (lookR_ok ok2 r2 e4) e5 Q fun G' H' w g hw => ?_
        exact (q.from (l2.trans l1) (x1.trans x2)).grow ok2 g hw
      · cases h
    · cases h
  · cases h
theorem se_fz (ha : SE K ta fa) : SE K ta (eFz fa) := by
  intro S ρ σ v st' ok en h Q q
  unfold eFz at h
  split at h
  · rename_i x st1 e1
    cases h
    exact ha S ρ σ _ _ ok en e1 Q q
  · rename_i n st1 e1
    split at h
    · rename_i x e2
      cases h
      refine ha S ρ σ _ st1 ok en e1 Q fun S1 xa l1 s1 x1 ok1 r1 => ?_
      subst s1
      have e2' := e2
      unfold lookR at e2
      simp only at e2
      split at e2
      · rename_i xs e3
        obtain ⟨ys, h1, h2⟩ := Option.map_eq_some_iff.mp e2
        obtain ⟨a, o, h3, h4, vs, h5, h6⟩ := look_at ok1 e3 (fun z => nomatch z)
        subst h5
        obtain ⟨g1, g2, g3⟩ := ok1.frz h3
        refine q (S1.frz n) xa l1 rfl (x1.trans g1) g2 ?_
        rw [r1.ref_at h3, ← h2]
        exact .lst (SqL.of (g3 _ h4)) (datas_ok (h6.up g1) h1)
      · cases e2
    · cases h
  · cases h
theorem tru_of {S : Wd} {x : V} {d : PyData} {b : Bool} (g : Same S.fr S.H) (r : Rk K S.fr S.H x d) (h : truD d = some b) : TruV K x S.H b := by
  unfold truD at h
  split at h
  · cases h; rw [r.none]; rfl
  · cases h; rw [r.bool]; rfl
  · cases h; rw [r.int]; rfl
  · split at h
    · cases h; rw [r.str]; exact ⟨‹_›, rfl⟩
    · cases h
  · cases h
    obtain ⟨a, xs, rfl, h1, h2⟩ := r.list g
    exact .inl ⟨xs, h1, by cases h2 <;> rfl⟩
  · cases h
    obtain ⟨a, xs, rfl, h1, h2, _⟩ := r.tup g
    exact .inr (.inl ⟨xs, h1, by cases h2 <;> rfl⟩)
  · cases h
theorem sb_tru (ha : SE K ta fa) : SB K (fun σ H Q => ta σ H fun x H' => ∃ k, TruV K x H' k ∧ Q k H') (bTru fa) := by
  intro S ρ σ b st' ok en h Q q
  unfold bTru at h
  split at h
  · rename_i v st1 e1
    split at h
    · rename_i x e2
      obtain ⟨k, e3, e4⟩ := Option.map_eq_some_iff.mp h
      cases e4
      refine ha S ρ σ v st' ok en e1 _ fun S1 xa l1 s1 x1 ok1 r1 => ?_
      subst s1
      exact ⟨b, tru_of (fr_same S1) (lookR_ok ok1 r1 e2) e3, q S1 l1 rfl x1 ok1⟩
    · cases h
  · cases h
theorem sb_val (ha : SE K ta fa) : SB K (tB ta) (bVal fa) := by
  intro S ρ σ b st' ok en h Q q
  unfold bVal at h
  split at h
  · rename_i c st1 e1
    cases h
    refine ha S ρ σ _ _ ok en e1 _ fun S1 xa l1 s1 x1 ok1 r1 => ?_
    have r1' : Dd K S1.fr xa (.bool b) := r1
    cases r1'
    exact ⟨b, rfl, q S1 l1 s1 x1 ok1⟩
  · cases h
theorem sb_test (ha : SE K ta fa) : SB K (tTest ta) (bVal fa) := sb_val ha
theorem sb_and {tA tB' : TT} {ba bb : BF} (ha : SB K tA ba) (hb : SB K tB' bb) : SB K (tAnd tA tB') (bAnd ba bb) := by
  intro S ρ σ b st' ok en h Q q
  unfold bAnd at h
  split at h
  · rename_i st1 e1
    refine ha S ρ σ _ _ ok en e1 _ fun S1 l1 s1 x1 ok1 => ?_
    subst s1
    exact hb S1 ρ σ b st' ok1 (en.up x1) h Q (q.from l1 x1)
  · rename_i st1 e1
    cases h
    exact ha S ρ σ _ _ ok en e1 _ fun S1 l1 s1 x1 ok1 => q S1 l1 s1 x1 ok1
  · cases h
theorem sb_or {tA tB' : TT} {ba bb : BF} (ha : SB K tA ba) (hb : SB K tB' bb) : SB K (tOr tA tB') (bOr ba bb) := by
  intro S ρ σ b st' ok en h Q q
  unfold bOr at h
  split at h
  · rename_i st1 e1
    cases h
    exact ha S ρ σ _ _ ok en e1 _ fun S1 l1 s1 x1 ok1 => q S1 l1 s1 x1 ok1
  · rename_i st1 e1
    refine ha S ρ σ _ _ ok en e1 _ fun S1 l1 s1 x1 ok1 => ?_
    subst s1
    exact hb S1 ρ σ b st' ok1 (en.up x1) h Q (q.from l1 x1)
  · cases h
theorem sb_not {tA : TT} {ba : BF} (ha : SB K tA ba) : SB K (tNot tA) (bNot ba) := by
  intro S ρ σ b st' ok en h Q q
  unfold bNot at h
  split at h
  · rename_i x st1 e1
    cases h
    exact ha S ρ σ _ _ ok en e1 _ fun S1 l1 s1 x1 ok1 => q S1 l1 s1 x1 ok1
  · cases h
theorem se_if {tc : TT} {bc : BF} (hc : SB K tc bc) (ha : SE K ta fa) (hb : SE K tb fb) : SE K (tIf tc ta tb) (eIf bc fa fb) := by
  intro S ρ σ v st' ok en h Q q
  unfold eIf at h
  split at h
  · rename_i st1 e1
    refine hc S ρ σ _ _ ok en e1 _ fun S1 l1 s1 x1 ok1 => ?_
    subst s1
    exact ha S1 ρ σ v st' ok1 (en.up x1) h Q (q.from l1 x1)
  · rename_i st1 e1
    refine hc S ρ σ _ _ ok en e1 _ fun S1 l1 s1 x1 ok1 => ?_
    subst s1
    exact hb S1 ρ σ v st' ok1 (en.up x1) h Q (q.from l1 x1)
  · cases h
theorem se_and (ha : SE K ta fa) (hb : SE K tb fb) : SE K (tAndT K ta tb) (eAnd fa fb) := by
  intro S ρ σ v st' ok en h Q q
  unfold eAnd at h
  split at h
  · rename_i va st1 e1
    split at h
    · rename_i x e2
      split at h
      · rename_i e3
        refine ha S ρ σ va st1 ok en e1 _ fun S1 xa l1 s1 x1 ok1 r1 => ?_
        subst s1
        exact ⟨true, tru_of (fr_same S1) (lookR_ok ok1 r1 e2) e3, hb S1 ρ σ v st' ok1 (en.up x1) h Q (q.from l1 x1)⟩
      · rename_i e3
        cases h
        refine ha S ρ σ _ _ ok en e1 _ fun S1 xa l1 s1 x1 ok1 r1 => ?_
        subst s1
        exact ⟨false, tru_of (fr_same S1) (lookR_ok ok1 r1 e2) e3, q S1 xa l1 rfl x1 ok1 r1⟩
      · cases h
    · cases h
  · cases h
theorem se_or (ha : SE K ta fa) (hb : SE K tb fb) : SE K (tOrT K ta tb) (eOr fa fb) := by
  intro S ρ σ v st' ok en h Q q
  unfold eOr at h
  split at h
  · rename_i va st1 e1
    split at h
    · rename_i x e2
      split at h
      · rename_i e3
        cases h
        refine ha S ρ σ _ _ ok en e1 _ fun S1 xa l1 s1 x1 ok1 r1 => ?_
        subst s1
        exact ⟨true, tru_of (fr_same S1) (lookR_ok ok1 r1 e2) e3, q S1 xa l1 rfl x1 ok1 r1⟩
      · rename_i e3
        refine ha S ρ σ va st1 ok en e1 _ fun S1 xa l1 s1 x1 ok1 r1 => ?_
        subst s1
        exact ⟨false, tru_of (fr_same S1) (lookR_ok ok1 r1 e2) e3, hb S1 ρ σ v st' ok1 (en.up x1) h Q (q.from l1 x1)⟩
      · cases h
    · cases h
  · cases h
theorem se_not (ha : SE K ta fa) : SE K (tNotT K ta) (eNot fa) := by
  intro S ρ σ v st' ok en h Q q
  unfold eNot at h
  split at h
  · rename_i va st1 e1
    split at h
    · rename_i x e2
      obtain ⟨k, e3, e4⟩ := Option.map_eq_some_iff.mp h
      cases e4
      refine ha S ρ σ va st' ok en e1 _ fun S1 xa l1 s1 x1 ok1 r1 => ?_
      subst s1
      exact ⟨k, tru_of (fr_same S1) (lookR_ok ok1 r1 e2) e3, q S1 _ l1 rfl x1 ok1 (Dd.bl (!k))⟩
    · cases h
  · cases h
theorem sa_nil : SA K tNil aNil := by
  intro S ρ σ v st' ok en h Q q
  cases h
  exact q S [] rfl rfl (Ext.refl S) ok .nil
theorem sa_cons {t : TA} {r : AF} (ha : SE K ta fa) (hr : SA K t r) : SA K (tCons ta t) (aCons fa r) := by
  intro S ρ σ v st' ok en h Q q
  unfold aCons at h
  split at h
  · rename_i va st1 e1
    split at h
    · rename_i vs st2 e2
      cases h
      refine ha S ρ σ va st1 ok en e1 _ fun S1 xa l1 s1 x1 ok1 r1 => ?_
      subst s1
      refine hr S1 ρ σ vs _ ok1 (en.up x1) e2 _ fun S2 xs l2 s2 x2 ok2 r2 => ?_
      exact q S2 (xa :: xs) (l2.trans l1) s2 (x1.trans x2) ok2 (.cons (r1.up x2) r2)
    · cases h
  · cases h
theorem se_tup {t : TA} {r : AF} (hr : SA K t r) : SE K (tTup t) (eTup r) := by
  intro S ρ σ v st' ok en h Q q
  unfold eTup at h
  split at h
  · rename_i vs st1 e1
    split at h
    · rename_i xs e2
      split at h
      · rename_i hz
        cases h
        refine hr S ρ σ vs _ ok en e1 _ fun S1 xa l1 s1 x1 ok1 r1 => ?_
        subst s1
        have dd := datas_ok r1 e2
        refine ⟨by rw [Dds.length_ dd]; exact hz, fun p hp => ?_⟩
        exact new_tup (fr_same S1) dd (fun G' H' w g hw => (q.from l1 x1).grow ok1 g hw) hp
      · cases h
    · cases h
  · cases h
theorem se_lst {t : TA} {r : AF} (hr : SA K t r) : SE K (tLst t) (eLst r) := by
  intro S ρ σ v st' ok en h Q q
  unfold eLst at h
  split at h
  · rename_i vs st1 e1
    split at h
    · rename_i xs e2
      split at h
      · rename_i hz
        cases h
        refine hr S ρ σ vs _ ok en e1 _ fun S1 xa l1 s1 x1 ok1 r1 => ?_
        subst s1
        have dd := datas_ok r1 e2
        refine ⟨by rw [Dds.length_ dd]; exact hz, fun p hp => ?_⟩
        exact new_lst (fr_same S1) dd (fun G' H' w g hw => (q.from l1 x1).grow ok1 g hw) hp
      · cases h
    · cases h
  · cases h
theorem se_lstN {t : TA} {r : AF} (hr : SA K t r) : SE K (tLst t) (eLstN r) := by
  intro S ρ σ v st' ok en h Q q
  unfold eLstN at h
  split at h
  · rename_i vs st1 e1
    split at h
    · rename_i hz
      cases h
      refine hr S ρ σ vs _ ok en e1 _ fun S1 xa l1 s1 x1 ok1 r1 => ?_
      subst s1
      refine ⟨by rw [RVs.len r1]; exact hz, fun p hp => ?_⟩
      obtain ⟨g1, g2⟩ := ok1.more (c := .lst vs) (o := .lst xa) hp (fun z => nomatch z) ⟨xa, rfl, r1⟩
      refine q (S1.more p (.lst xa) (.lst vs)) (.ref p) l1 rfl (x1.trans g1) g2 ⟨p, ?_, rfl⟩
      show (S1.m ++ [p])[S1.st.length]? = some p
      rw [← ok1.len]
      simp
    · cases h
  · cases h
end
end Dl

set_option Elab.async false
set_option linter.all false
set_option maxRecDepth 100000
set_option maxHeartbeats 4000000
namespace Dl
open PySem PySem.Spec PyProof.Rows L2 Pg
/-! ### subscripts, slices -/
def gIx : PyData → PyData → Option PyData
  | .list xs, .int i => atI xs i
  | .tuple xs, .int i => atI xs i
  | .str z, .int i => if z.length ≤ sizeLine then (atI z.cps.toList i).map fun c => .str ⟨#[c]⟩ else none
  | _, _ => none
def cutD (xs : List PyData) (lo hi : Option Int) : List PyData := (xs.drop (HT.sIx xs.length 0 lo)).take (HT.sIx xs.length xs.length hi - HT.sIx xs.length 0 lo)
def gSl (lo hi : Option Int) : PyData → Option PyData
  | .list xs => some (.list (cutD xs lo hi))
  | .tuple xs => some (.tuple (cutD xs lo hi))
  | _ => none
abbrev OF := Env → Sto → Option (Option Int × Sto)
def oNo : OF := fun _ st => some (none, st)
def oSome (a : EF) : OF := fun ρ st => match a ρ st with
  | some (.d (.int i), st1) => some (some i, st1)
  | _ => none
def eSl (a : EF) (lo hi : OF) : EF := fun ρ st => match a ρ st with
  | some (v, st1) => match lo ρ st1 with
    | some (l, st2) => match hi ρ st2 with
      | some (h, st3) => match lookR st3 v with
        | some x => (gSl l h x).map fun z => (.d z, st3)
        | none => none
      | none => none
    | none => none
  | none => none
/-- an item of a cell, data or a number of a cell -/
def eIxC (a b : EF) : EF := fun ρ st => match a ρ st with
  | some (.r n, st1) => match b ρ st1 with
    | some (.d (.int i), st2) => match st2[n]? with
      | some (.lst xs) => (atI xs i).map fun v => (v, st2)
      | _ => none
    | _ => none
  | _ => none
section
variable {X : Cx} {K : PySem.W.Frag} {ta tb te : TE} {fa fb f : EF} {a b e : Expr} {pos : Pos}
theorem ixN_len {m n : Nat} (h : m = n) (i : Int) : ixN m i = ixN n i := by rw [h]
theorem Dds.at_ {G : Hp} {xs : List V} {ds : List PyData} (h : Dds K G xs ds) {i : Int} {d : PyData} (e : atI ds i = some d) : ∃ x, atI xs i = some x ∧ Dd K G x d := by
  unfold atI at e ⊢
  rw [ixN_len (Dds.length_ h)]
  obtain ⟨j, h1, h2⟩ := Option.bind_eq_some_iff.mp e
  obtain ⟨x, h3, h4⟩ := Dds.get_ h h2
  exact ⟨x, by rw [h1]; exact h3, h4⟩
theorem RVs.at_ {S : Wd} {xs : List V} {ds : List Vd} (h : RVs K S xs ds) {i : Int} {d : Vd} (e : atI ds i = some d) : ∃ x, atI xs i = some x ∧ RV K S x d := by
  unfold atI at e ⊢
  rw [ixN_len (RVs.len h)]
  obtain ⟨j, h1, h2⟩ := Option.bind_eq_some_iff.mp e
  have get : ∀ {xs : List V} {ds : List Vd} {j : Nat}, RVs K S xs ds → ds[j]? = some d → ∃ x, xs[j]? = some x ∧ RV K S x d := by
    intro xs ds j h
    induction h generalizing j with
    | nil => intro e; simp at e
    | cons h t ih =>
      intro e
      cases j with
      | zero => simp at e; subst e; exact ⟨_, rfl, h⟩
      | succ j =>
        obtain ⟨x, h1, h2⟩ := ih (j := j) (by simpa using e)
        exact ⟨x, by simpa using h1, h2⟩
  obtain ⟨x, h3, h4⟩ := get h h2
  exact ⟨x, by rw [h1]; exact h3, h4⟩
theorem so_ix : SO K (rIx K) gIx := by
  intro G H x y dx dy z g rx ry e Q q
  unfold gIx at e
  split at e
  · obtain ⟨a, xs, rfl, h1, r1⟩ := rx.list g
    obtain ⟨w, h2, h3⟩ := Dds.at_ r1 e
    exact .inl ⟨a, xs, _, w, rfl, ry.int, h1, h2, q _ _ _ (Grow.refl g) h3⟩
  · obtain ⟨a, xs, rfl, h1, r1, _⟩ := rx.tup g
    obtain ⟨w, h2, h3⟩ := Dds.at_ r1 e
    exact .inr (.inl ⟨a, xs, _, w, rfl, ry.int, h1, h2, q _ _ _ (Grow.refl g) h3⟩)
  · split at e
    · rename_i hz
      obtain ⟨c, h1, h2⟩ := Option.map_eq_some_iff.mp e
      subst h2
      exact .inr (.inr ⟨_, _, c, rx.str, ry.int, hz, h1, q _ _ _ (Grow.refl g) (.str _)⟩)
    · cases e
  · cases e
def SOp (K : PySem.W.Frag) (to : TO) (f : OF) : Prop := ∀ (S : Wd) (ρ : Env) (σ : L2.St) (o : Option Int) (st' : Sto), S.Ok K → REnv K S ρ σ → f ρ S.st = some (o, st') → ∀ Q : Option Int → Hp → Prop, (∀ S' : Wd, S'.L = S.L → S'.st = st' → Ext S S' → S'.Ok K → Q o S'.H) → to σ S.H Q
theorem sop_no : SOp K tNoPart oNo := by
  intro S ρ σ o st' ok en h Q q
  cases h
  exact q S rfl rfl (Ext.refl S) ok
theorem sop_some (ha : SE K ta fa) : SOp K (tPart ta) (oSome fa) := by
  intro S ρ σ o st' ok en h Q q
  unfold oSome at h
  split at h
  · rename_i i st1 e1
    cases h
    refine ha S ρ σ _ _ ok en e1 _ fun S1 xa l1 s1 x1 ok1 r1 => ?_
    have r1' : Dd K S1.fr xa (.int i) := r1
    cases r1'
    exact ⟨i, rfl, q S1 l1 s1 x1 ok1⟩
  · cases h
theorem Dds.cut {G : Hp} {xs : List V} {ds : List PyData} (h : Dds K G xs ds) (lo hi : Option Int) : Dds K G (cutV xs lo hi) (cutD ds lo hi) := by
  unfold cutV cutD
  rw [Dds.length_ h]
  exact Dds.take_ _ (Dds.drop_ _ h)
def rSlD (K : PySem.W.Frag) : V → Option Int → Option Int → Hp → VK → Prop := fun x lo hi H Q => rSlA K x lo hi H Q ∨ rSlL K x lo hi H Q
theorem sl_D : SlR X (rSlD X.K) := by
  intro pins s σ H x v vl vu lo hi sl Q I rx hs pl pu h
  rcases h with h | h
  · exact sl_tupA pins s σ H x v vl vu lo hi sl Q I rx hs pl pu h
  · exact sl_list pins s σ H x v vl vu lo hi sl Q I rx hs pl pu h
theorem se_sl {tl th : TO} {lo hi : OF} (ha : SE K ta fa) (hl : SOp K tl lo) (hh : SOp K th hi) : SE K (tSl (rSlD K) ta tl th) (eSl fa lo hi) := by
  intro S ρ σ v st' ok en h Q q
  unfold eSl at h
  split at h
  · rename_i va st1 e1
    split at h
    · rename_i l st2 e2
      split at h
      · rename_i u st3 e3
        split at h
        · rename_i x e4
          obtain ⟨z, e5, e6⟩ := Option.map_eq_some_iff.mp h
          cases e6
          refine ha S ρ σ va st1 ok en e1 _ fun S1 xa l1 s1 x1 ok1 r1 => ?_
          subst s1
          refine hl S1 ρ σ l st2 ok1 (en.up x1) e2 _ fun S2 l2 s2 x2 ok2 => ?_
          subst s2
          refine hh S2 ρ σ u st' ok2 (en.up (x1.trans x2)) e3 _ fun S3 l3 s3 x3 ok3 => ?_
          subst s3
          have rk := lookR_ok ok3 (r1.up (x2.trans x3)) e4
          have q' := q.from (l3.trans (l2.trans l1)) (x1.trans (x2.trans x3))
          have g := fr_same S3
          unfold gSl at e5
          split at e5
          · cases e5
            obtain ⟨a, xs, rfl, h1, r⟩ := rk.list g
            exact .inr ⟨a, xs, rfl, h1, fun p hp => new_lst g (Dds.cut r l u) (fun G' H' w g hw => q'.grow ok3 g hw) hp⟩
          · cases e5
            obtain ⟨a, xs, rfl, h1, r, h2⟩ := rk.tup g
            refine .inl ⟨a, xs, rfl, h1, fun hw => ?_, fun _ p hp => new_tup g (Dds.cut r l u) (fun G' H' w g hw => q'.grow ok3 g hw) hp⟩
            refine q'.grow ok3 (Grow.refl g) ?_
            have c := Dds.cut r l u
            have e : cutV xs l u = xs := by
              unfold cutV
              rw [hw.1, hw.2]
              simp
            rw [e] at c
            exact .tup h2 c
          · cases e5
        · cases h
      · cases h
    · cases h
  · cases h
theorem se_ixC (ha : SE K ta fa) (hb : SE K tb fb) : SE K (tOp (rIx K) ta tb) (eIxC fa fb) := by
  intro S ρ σ v st' ok en h Q q
  unfold eIxC at h
  split at h
  · rename_i n st1 e1
    split at h
    · rename_i i st2 e2
      split at h
      · rename_i xs e3
        obtain ⟨z, e5, e6⟩ := Option.map_eq_some_iff.mp h
        cases e6
        refine ha S ρ σ _ _ ok en e1 _ fun S1 xa l1 s1 x1 ok1 r1 => ?_
        subst s1
        refine hb S1 ρ σ _ _ ok1 (en.up x1) e2 _ fun S2 xb l2 s2 x2 ok2 r2 => ?_
        subst s2
        have r2' : Dd K S2.fr xb (.int i) := r2
        cases r2'
        obtain ⟨a, o, h1, h2, vs, h3, h4⟩ := look_at ok2 e3 (fun z => nomatch z)
        subst h3
        obtain ⟨w, h5, h6⟩ := RVs.at_ h4 e5
        have ea := (r1.up x2).ref_at h1
        subst ea
        exact .inl ⟨a, vs, i, w, rfl, rfl, SqL.of h2, h5, q S2 w (l2.trans l1) rfl (x1.trans x2) ok2 h6⟩
      · cases h
    · cases h
  · cases h
/-! ### calls of built-in things -/
def looks (st : Sto) : List Vd → Option (List PyData)
  | [] => some []
  | v :: r => match lookR st v, looks st r with
    | some x, some xs => some (x :: xs)
    | _, _ => none
inductive Rks (K : PySem.W.Frag) (G H : Hp) : List V → List PyData → Prop
  | nil : Rks K G H [] []
  | cons {x : V} {xs : List V} {d : PyData} {ds : List PyData} (h : Rk K G H x d) (t : Rks K G H xs ds) : Rks K G H (x :: xs) (d :: ds)
theorem looks_ok {S : Wd} (ok : S.Ok K) : ∀ {vs : List Vd} {xs : List V} {ds : List PyData}, RVs K S xs vs → looks S.st vs = some ds → Rks K S.fr S.H xs ds
  | [], _, _, .nil, e => by cases e; exact .nil
  | v :: r, _, _, .cons h t, e => by
    unfold looks at e
    split at e
    · rename_i e1 e2
      cases e
      exact .cons (lookR_ok ok h e1) (looks_ok ok t e2)
    · cases e
def SC (K : PySem.W.Frag) (r : List V → Hp → VK → Prop) (g : List PyData → Option PyData) : Prop := ∀ (G H : Hp) (xs : List V) (ds : List PyData) (z : PyData), Same G H → Rks K G H xs ds → g ds = some z →
  ∀ Q : VK, (∀ G' H' v, Grow G H G' H' → Dd K G' v z → Q v H') → r xs H Q
def eCB (g : List PyData → Option PyData) (a : AF) : EF := fun ρ st => match a ρ st with
  | some (vs, st1) => match looks st1 vs with
    | some xs => (g xs).map fun z => (.d z, st1)
    | none => none
  | none => none
theorem se_cb {r : List V → Hp → VK → Prop} {g : List PyData → Option PyData} {t : TA} {fa : AF} (hr : SC K r g) (ha : SA K t fa) : SE K (tCB r t) (eCB g fa) := by
  intro S ρ σ v st' ok en h Q q
  unfold eCB at h
  split at h
  · rename_i vs st1 e1
    split at h
    · rename_i xs e2
      obtain ⟨z, e5, e6⟩ := Option.map_eq_some_iff.mp h
      cases e6
      refine ha S ρ σ _ _ ok en e1 _ fun S1 xa l1 s1 x1 ok1 r1 => ?_
      subst s1
      exact hr S1.fr S1.H xa xs z (fr_same S1) (looks_ok ok1 r1 e2) e5 Q fun G' H' w g hw => (q.from l1 x1).grow ok1 g hw
    · cases h
  · cases h
def gLen : List PyData → Option PyData
  | [.list xs] => some (.int (xs.length : Int))
  | [.tuple xs] => some (.int (xs.length : Int))
  | [.str z] => if z.length ≤ sizeLine then some (.int (z.length : Int)) else none
  | _ => none
def rLenD (K : PySem.W.Frag) : List V → Hp → VK → Prop := fun xs H Q => (∃ p ys, xs = [.ref p] ∧ (SqL K H p ys ∨ SqT K H p ys) ∧ Q (.int ys.length) H) ∨ (∃ z, xs = [.str z] ∧ z.length ≤ sizeLine ∧ Q (.int z.length) H)
theorem callr_or {f : Value} {r1 r2 : List V → Hp → VK → Prop} (h1 : CallR X f r1) (h2 : CallR X f r2) : CallR X f fun xs H Q => r1 xs H Q ∨ r2 xs H Q := fun pins s σ H xs us Q I r h => h.elim (h1 pins s σ H xs us Q I r) (h2 pins s σ H xs us Q I r)
theorem call_lenD : CallR X (.builtin "len") (rLenD X.K) := callr_or call_len_seq call_len_str
theorem Rks.one {G H : Hp} {xs : List V} {d : PyData} (r : Rks K G H xs [d]) : ∃ x, xs = [x] ∧ Rk K G H x d := by
  cases r with
  | cons h t => cases t; exact ⟨_, rfl, h⟩
theorem Rks.two {G H : Hp} {xs : List V} {d e : PyData} (r : Rks K G H xs [d, e]) : ∃ x y, xs = [x, y] ∧ Rk K G H x d ∧ Rk K G H y e := by
  cases r with
  | cons h t =>
    obtain ⟨y, rfl, h2⟩ := t.one
    exact ⟨_, y, rfl, h, h2⟩
theorem sc_len : SC K (rLenD K) gLen := by
  intro G H xs ds z g r e Q q
  unfold gLen at e
  split at e
  · cases e
    obtain ⟨x, rfl, rk⟩ := r.one
    obtain ⟨a, ys, rfl, h1, h2⟩ := rk.list g
    exact .inl ⟨a, ys, rfl, .inl h1, by rw [Dds.length_ h2]; exact q _ _ _ (Grow.refl g) (.int _)⟩
  · cases e
    obtain ⟨x, rfl, rk⟩ := r.one
    obtain ⟨a, ys, rfl, h1, h2, _⟩ := rk.tup g
    exact .inl ⟨a, ys, rfl, .inr h1, by rw [Dds.length_ h2]; exact q _ _ _ (Grow.refl g) (.int _)⟩
  · split at e
    · cases e
      obtain ⟨x, rfl, rk⟩ := r.one
      exact .inr ⟨_, by rw [rk.str], ‹_›, q _ _ _ (Grow.refl g) (.int _)⟩
    · cases e
  · cases e
def gAbs : List PyData → Option PyData
  | [.int i] => some (.int (if i < 0 then -i else i))
  | _ => none
theorem sc_abs : SC K (fun xs H Q => ∃ i, xs = [.int i] ∧ Q (.int (if i < 0 then -i else i)) H) gAbs := by
  intro G H xs ds z g r e Q q
  unfold gAbs at e
  split at e
  · cases e
    obtain ⟨x, rfl, rk⟩ := r.one
    exact ⟨_, by rw [rk.int], q _ _ _ (Grow.refl g) (.int _)⟩
  · cases e
def gInt : List PyData → Option PyData
  | [.int i] => some (.int i)
  | [.bool b] => some (.int (if b then 1 else 0))
  | _ => none
theorem sc_int : SC K (fun xs H Q => (∃ i, xs = [.int i] ∧ Q (.int i) H) ∨ ∃ k, xs = [.bl k] ∧ Q (.int (if k then 1 else 0)) H) gInt := by
  intro G H xs ds z g r e Q q
  unfold gInt at e
  split at e
  · cases e
    obtain ⟨x, rfl, rk⟩ := r.one
    exact .inl ⟨_, by rw [rk.int], q _ _ _ (Grow.refl g) (.int _)⟩
  · cases e
    obtain ⟨x, rfl, rk⟩ := r.one
    exact .inr ⟨_, by rw [rk.bool], q _ _ _ (Grow.refl g) (.int _)⟩
  · cases e
def gStr : List PyData → Option PyData
  | [.int i] => if i.natAbs.log2 < 1920 then some (.str (toString i)) else none
  | _ => none
theorem sc_str : SC K (fun xs H Q => ∃ i, xs = [.int i] ∧ i.natAbs.log2 < 1920 ∧ Q (.str (toString i)) H) gStr := by
  intro G H xs ds z g r e Q q
  unfold gStr at e
  split at e
  · split at e
    · cases e
      obtain ⟨x, rfl, rk⟩ := r.one
      exact ⟨_, by rw [rk.int], ‹_›, q _ _ _ (Grow.refl g) (.str _)⟩
    · cases e
  · cases e
def gRepr : List PyData → Option PyData
  | [d] => if (decide (d.depth ≤ 60) && d.showable && decide (d.shown.length ≤ sizeLine)) = true then some (.str d.shown) else none
  | _ => none
theorem sc_repr : SC K (rRepr K) gRepr := by
  intro G H xs ds z g r e Q q
  unfold gRepr at e
  split at e
  · split at e
    · rename_i hc
      simp only [Bool.and_eq_true, decide_eq_true_eq] at hc
      cases e
      obtain ⟨x, rfl, rk⟩ := r.one
      exact ⟨x, _, rfl, rk.dd g, hc.1.1, hc.1.2, hc.2, q _ _ _ (Grow.refl g) (.str _)⟩
    · cases e
  · cases e
def gTupleOf : List PyData → Option PyData
  | [.list xs] => some (.tuple xs)
  | [.tuple xs] => some (.tuple xs)
  | _ => none
theorem sc_tuple : SC K (fun xs H Q => ∃ p ys, xs = [.ref p] ∧ ((SqL K H p ys ∧ ∀ l, H l = none → Q (.ref l) (upd H l (.tup ys))) ∨ (SqT K H p ys ∧ Q (.ref p) H))) gTupleOf := by
  intro G H xs ds z g r e Q q
  unfold gTupleOf at e
  split at e
  · cases e
    obtain ⟨x, rfl, rk⟩ := r.one
    obtain ⟨a, ys, rfl, h1, h2⟩ := rk.list g
    exact ⟨a, ys, rfl, .inl ⟨h1, fun l hl => new_tup g h2 q hl⟩⟩
  · cases e
    obtain ⟨x, rfl, rk⟩ := r.one
    obtain ⟨a, ys, rfl, h1, h2, h3⟩ := rk.tup g
    exact ⟨a, ys, rfl, .inr ⟨h1, q _ _ _ (Grow.refl g) (.tup h3 h2)⟩⟩
  · cases e
def gListOf : List PyData → Option PyData
  | [.list xs] => some (.list xs)
  | [.tuple xs] => some (.list xs)
  | _ => none
theorem sc_list : SC K (fun xs H Q => ∃ p ys, xs = [.ref p] ∧ (SqL K H p ys ∨ SqT K H p ys) ∧ ∀ l, H l = none → Q (.ref l) (upd H l (.lst ys))) gListOf := by
  intro G H xs ds z g r e Q q
  unfold gListOf at e
  split at e
  · cases e
    obtain ⟨x, rfl, rk⟩ := r.one
    obtain ⟨a, ys, rfl, h1, h2⟩ := rk.list g
    exact ⟨a, ys, rfl, .inl h1, fun l hl => new_lst g h2 q hl⟩
  · cases e
    obtain ⟨x, rfl, rk⟩ := r.one
    obtain ⟨a, ys, rfl, h1, h2, h3⟩ := rk.tup g
    exact ⟨a, ys, rfl, .inr h1, fun l hl => new_lst g h2 q hl⟩
  · cases e
def intsD : List PyData → Option (List Int)
  | [] => some []
  | .int i :: r => (intsD r).map (i :: ·)
  | _ :: _ => none
def boolsD : List PyData → Option (List Bool)
  | [] => some []
  | .bool i :: r => (boolsD r).map (i :: ·)
  | _ :: _ => none
theorem ints_ok {G : Hp} : ∀ {ds : List PyData} {xs : List V} {ns : List Int}, Dds K G xs ds → intsD ds = some ns → xs = ns.map V.int
  | [], _, _, .nil, e => by cases e; rfl
  | .int i :: r, _, _, .cons h t, e => by
    unfold intsD at e
    obtain ⟨m, h1, h2⟩ := Option.map_eq_some_iff.mp e
    subst h2
    cases h
    rw [ints_ok t h1]
    rfl
  | .none :: _, _, _, _, e => by cases e
  | .bool _ :: _, _, _, _, e => by cases e
  | .str _ :: _, _, _, _, e => by cases e
  | .list _ :: _, _, _, _, e => by cases e
  | .tuple _ :: _, _, _, _, e => by cases e
  | .dict _ :: _, _, _, _, e => by cases e
theorem bools_ok {G : Hp} : ∀ {ds : List PyData} {xs : List V} {ns : List Bool}, Dds K G xs ds → boolsD ds = some ns → xs = ns.map V.bl
  | [], _, _, .nil, e => by cases e; rfl
  | .bool i :: r, _, _, .cons h t, e => by
    unfold boolsD at e
    obtain ⟨m, h1, h2⟩ := Option.map_eq_some_iff.mp e
    subst h2
    cases h
    rw [bools_ok t h1]
    rfl
  | .none :: _, _, _, _, e => by cases e
  | .int _ :: _, _, _, _, e => by cases e
  | .str _ :: _, _, _, _, e => by cases e
  | .list _ :: _, _, _, _, e => by cases e
  | .tuple _ :: _, _, _, _, e => by cases e
  | .dict _ :: _, _, _, _, e => by cases e
def gAll : List PyData → Option PyData
  | [.list xs] => (boolsD xs).map fun bs => .bool (bs.all id)
  | _ => none
def gAny : List PyData → Option PyData
  | [.list xs] => (boolsD xs).map fun bs => .bool (bs.any id)
  | _ => none
def gSum : List PyData → Option PyData
  | [.list xs] => (intsD xs).map fun ns => .int ns.sum
  | _ => none
theorem sc_all : SC K (rAll K) gAll := by
  intro G H xs ds z g r e Q q
  unfold gAll at e
  split at e
  · obtain ⟨bs, e1, e2⟩ := Option.map_eq_some_iff.mp e
    subst e2
    obtain ⟨x, rfl, rk⟩ := r.one
    obtain ⟨a, ys, rfl, h1, h2⟩ := rk.list g
    exact ⟨a, bs, rfl, by rw [← bools_ok h2 e1]; exact h1, q _ _ _ (Grow.refl g) (.bl _)⟩
  · cases e
theorem sc_any : SC K (rAny K) gAny := by
  intro G H xs ds z g r e Q q
  unfold gAny at e
  split at e
  · obtain ⟨bs, e1, e2⟩ := Option.map_eq_some_iff.mp e
    subst e2
    obtain ⟨x, rfl, rk⟩ := r.one
    obtain ⟨a, ys, rfl, h1, h2⟩ := rk.list g
    exact ⟨a, bs, rfl, by rw [← bools_ok h2 e1]; exact h1, q _ _ _ (Grow.refl g) (.bl _)⟩
  · cases e
theorem sc_sum : SC K (rSum K) gSum := by
  intro G H xs ds z g r e Q q
  unfold gSum at e
  split at e
  · obtain ⟨bs, e1, e2⟩ := Option.map_eq_some_iff.mp e
    subst e2
    obtain ⟨x, rfl, rk⟩ := r.one
    obtain ⟨a, ys, rfl, h1, h2⟩ := rk.list g
    exact ⟨a, bs, rfl, by rw [← ints_ok h2 e1]; exact h1, q _ _ _ (Grow.refl g) (.int _)⟩
  · cases e
def gMax2 : List PyData → Option PyData
  | [.int i, .int j] => some (.int (if j > i then j else i))
  | _ => none
def gMin2 : List PyData → Option PyData
  | [.int i, .int j] => some (.int (if j < i then j else i))
  | _ => none
theorem sc_max2 : SC K (fun xs H Q => ∃ i j, xs = [.int i, .int j] ∧ Q (.int (if j > i then j else i)) H) gMax2 := by
  intro G H xs ds z g r e Q q
  unfold gMax2 at e
  split at e
  · cases e
    obtain ⟨x, y, rfl, rk, rk2⟩ := r.two
    exact ⟨_, _, by rw [rk.int, rk2.int], q _ _ _ (Grow.refl g) (.int _)⟩
  · cases e
theorem sc_min2 : SC K (fun xs H Q => ∃ i j, xs = [.int i, .int j] ∧ Q (.int (if j < i then j else i)) H) gMin2 := by
  intro G H xs ds z g r e Q q
  unfold gMin2 at e
  split at e
  · cases e
    obtain ⟨x, y, rfl, rk, rk2⟩ := r.two
    exact ⟨_, _, by rw [rk.int, rk2.int], q _ _ _ (Grow.refl g) (.int _)⟩
  · cases e
/-! isinstance -/
inductive Kq | int | bool | str | tuple | list | dict
def Kq.nm : Kq → String
  | .int => "int" | .bool => "bool" | .str => "str" | .tuple => "tuple" | .list => "list" | .dict => "dict"
def isK : Kq → PyData → Bool
  | .int, .int _ => true
  | .int, .bool _ => true
  | .bool, .bool _ => true
  | .str, .str _ => true
  | .tuple, .tuple _ => true
  | .list, .list _ => true
  | .dict, .dict _ => true
  | _, _ => false
def rIsD (K : PySem.W.Frag) (k : Kq) : List V → Hp → VK → Prop := fun xs H Q => ∃ (x : V) (d : PyData), xs = [x, .ty k.nm] ∧ Dd K H x d ∧ Q (.bl (isK k d)) H
theorem call_isD {k : Kq} : CallR X (.builtin "isinstance") (rIsD X.K k) := by
  intro pins s σ H xs us Q I r h
  obtain ⟨x, d, rfl, hv, q⟩ := h
  have go : ∀ t : String, TyX X.K H x (.type t) → kitB t k.nm = some (isK k d) → wpAny (model X.prog X.w) X.A (call (.builtin "isinstance") us) (EP X pins σ Q) X.xe s := fun t ht hk =>
    call_isi pins s σ H _ us Q I r ⟨x, _, _, _, _, rfl, .ty _, ht, kit_ty hk, q⟩
  cases hv with
  | non => exact go "NoneType" (.base .non) (by cases k <;> (simp only [isK]; decide +kernel))
  | bl b => exact go "bool" (.base (.bl b)) (by cases k <;> (simp only [isK]; decide +kernel))
  | int i => exact go "int" (.base (.int i)) (by cases k <;> (simp only [isK]; decide +kernel))
  | str z => exact go "str" (.base (.str z)) (by cases k <;> (simp only [isK]; decide +kernel))
  | lst p => exact go "list" (tyX_list p) (by cases k <;> (simp only [isK]; decide +kernel))
  | dic p => exact go "dict" (.base (.dK p)) (by cases k <;> (simp only [isK]; decide +kernel))
  | tup p _ => exact go "tuple" (tyX_tup p) (by cases k <;> (simp only [isK]; decide +kernel))
def eIs (k : Kq) (a : EF) : EF := fun ρ st => match a ρ st with
  | some (v, st1) => match lookR st1 v with
    | some x => some (.d (.bool (isK k x)), st1)
    | none => none
  | none => none
theorem se_is {k : Kq} (ha : SE K ta fa) : SE K (tCB (rIsD K k) (tCons ta (tCons (tC (.ty k.nm)) tNil))) (eIs k fa) := by
  intro S ρ σ v st' ok en h Q q
  unfold eIs at h
  split at h
  · rename_i va st1 e1
    split at h
    · rename_i x e2
      cases h
      refine ha S ρ σ _ _ ok en e1 _ fun S1 xa l1 s1 x1 ok1 r1 => ?_
      subst s1
      exact ⟨xa, x, rfl, (lookR_ok ok1 r1 e2).dd (fr_same S1), q S1 _ l1 rfl x1 ok1 (Dd.bl _)⟩
    · cases h
  · cases h
end
end Dl

set_option Elab.async false
set_option linter.all false
set_option maxRecDepth 100000
set_option maxHeartbeats 4000000
namespace Dl
open PySem PySem.Spec PyProof.Rows L2 Pg
/-! ### defs -/
abbrev FF := List Vd → Sto → Option (Vd × Sto)
def spD (K : PySem.W.Frag) (n : Nat) (F : FF) : Sp := fun vs H Q _ => vs.length = n ∧ ∃ (S : Wd) (args : List Vd) (v : Vd) (st' : Sto), S.Ok K ∧ S.H = H ∧ RVs K S vs args ∧ F args S.st = some (v, st') ∧ Aft K S st' v Q
def eCall (n : Nat) (F : FF) (a : AF) : EF := fun ρ st => match a ρ st with
  | some (vs, st1) => if vs.length = n then F vs st1 else none
  | none => none
section
variable {X : Cx} {K : PySem.W.Frag} {ta tb te : TE} {fa fb f : EF} {a b e : Expr} {pos : Pos}
theorem se_call {n : Nat} {F : FF} {t : TA} {fa : AF} (ha : SA K t fa) : SE K (tCall (spD K n F) [] E0 t) (eCall n F fa) := by
  intro S ρ σ v st' ok en h Q q
  unfold eCall at h
  split at h
  · rename_i vs st1 e1
    split at h
    · rename_i hl
      refine ha S ρ σ _ _ ok en e1 _ fun S1 xa l1 s1 x1 ok1 r1 => ?_
      subst s1
      rw [List.append_nil]
      exact ⟨by rw [RVs.len r1]; exact hl, S1, vs, v, st', ok1, rfl, r1, h, q.from l1 x1⟩
    · cases h
  · cases h
end
/-! ### what goes at a def's end -/
def CloV (n : Nat) : Vd → Prop
  | .d _ => True
  | .r k => k < n
def CloC (n : Nat) : Cell → Prop
  | .dead => True
  | .lst xs => ∀ x ∈ xs, CloV n x
  | .dic kvs => ∀ p ∈ kvs, CloV n p.2
def Clo (n : Nat) (st : Sto) : Prop := ∀ c ∈ st, CloC n c
section
variable {K : PySem.W.Frag} {S S0 : Wd}
theorem Wd.Ok.cut (ok : S.Ok K) {st' junk : Sto} (e : S.st = st' ++ junk) (hc : Clo st'.length st') :
    ({ S with m := S.m.take st'.length, st := st' } : Wd).Ok K ∧ (∀ x v, CloV st'.length v → RV K S x v → RV K { S with m := S.m.take st'.length, st := st' } x v) ∧ (∀ S0 : Wd, S0.m.length ≤ st'.length → Ext S0 S → Ext S0 { S with m := S.m.take st'.length, st := st' }) := by
  generalize hS : ({ S with m := S.m.take st'.length, st := st' } : Wd) = S'
  have hl := ok.len
  rw [e, List.length_append] at hl
  have at_ : ∀ {n c a}, S'.At n c a → S.At n c a := fun {n c a} h => by
    subst hS
    obtain ⟨h1, h2, h3⟩ := h
    have h1' : st'[n]? = some c := h1
    have hn : n < st'.length := (List.getElem?_eq_some_iff.mp h1').1
    have h3' : (S.m.take st'.length)[n]? = some a := h3
    rw [List.getElem?_take_of_lt hn] at h3'
    refine ⟨?_, h2, h3'⟩
    rw [e, List.getElem?_append_left hn]
    exact h1'
  have eL : S'.L = S.L := by subst hS; rfl
  have eH : S'.H = S.H := by subst hS; rfl
  have lv : ∀ a, S'.Lv a → S.Lv a := fun a h => by
    rcases h with h | ⟨n, c, h⟩
    · exact .inl (eL ▸ h)
    · exact .inr ⟨n, c, at_ h⟩
  have sm : Same S.fr S'.fr := fun a o h => by
    obtain ⟨h1, h2⟩ := fr_of h
    exact fr_at (fun z => h1 (lv a z)) (by rw [eH]; exact h2)
  have rv : ∀ x v, CloV st'.length v → RV K S x v → RV K S' x v := fun x v hv h => by
    cases v with
    | d y => exact Dd.up sm y x h
    | r n =>
      obtain ⟨a, h1, h2⟩ := h
      refine ⟨a, ?_, h2⟩
      subst hS
      show (S.m.take st'.length)[n]? = some a
      have hn : n < st'.length := hv
      rw [List.getElem?_take_of_lt hn]
      exact h1
  have rvs : ∀ {xs vs}, (∀ v ∈ vs, CloV st'.length v) → RVs K S xs vs → RVs K S' xs vs := fun {xs vs} hv h => by
    induction h with
    | nil => exact .nil
    | cons h t ih => exact .cons (rv _ _ (hv _ List.mem_cons_self) h) (ih fun v hv' => hv v (List.mem_cons_of_mem _ hv'))
  have rvk : ∀ {κ : Type} {g : κ → PyData} {xs : List (κ × V)} {vs : List (PyData × Vd)}, (∀ p ∈ vs, CloV st'.length p.2) → Paired (fun p q => g p.1 = q.1 ∧ RV K S p.2 q.2) xs vs → Paired (fun p q => g p.1 = q.1 ∧ RV K S' p.2 q.2) xs vs := fun {κ g xs vs} hv h => by
    induction h with
    | nil => exact .nil
    | cons h t ih => exact .cons ⟨h.1, rv _ _ (hv _ List.mem_cons_self) h.2⟩ (ih fun v hv' => hv v (List.mem_cons_of_mem _ hv'))
  refine ⟨⟨?_, fun h1 h2 => ok.inj (at_ h1) (at_ h2), fun h z => ok.nL (at_ h) (eL ▸ z), fun a h => by rw [eH]; exact ok.hL a (eL ▸ h), fun {n c a} h => ?_⟩, rv, fun S0 h0 x => ?_⟩
  · subst hS
    show (S.m.take st'.length).length = st'.length
    rw [List.length_take]
    omega
  · obtain ⟨o, h1, h2⟩ := ok.cell (at_ h)
    refine ⟨o, by rw [eH]; exact h1, ?_⟩
    have hm : c ∈ st' := by
      subst hS
      exact List.mem_of_getElem? (show st'[n]? = some c from h.1)
    have hcc := hc c hm
    cases c with
    | dead => trivial
    | lst xs =>
      obtain ⟨vs, h3, h4⟩ := h2
      exact ⟨vs, h3, rvs hcc h4⟩
    | dic kvs =>
      rcases h2 with ⟨ks, h3, h4⟩ | ⟨ks, h3, h4⟩
      · exact .inl ⟨ks, h3, rvk hcc h4⟩
      · exact .inr ⟨ks, h3, rvk hcc h4⟩
  · refine ⟨fun n a h => ?_, x.keep.trans sm, fun a h => ?_⟩
    · subst hS
      show (S.m.take st'.length)[n]? = some a
      have hn : n < S0.m.length := (List.getElem?_eq_some_iff.mp h).1
      rw [List.getElem?_take_of_lt (by omega)]
      exact x.pre n a h
    · obtain ⟨h1, h2⟩ := x.lL a h
      exact ⟨eL ▸ h1, by rw [eH]; exact h2⟩
end
/-! ### statements -/
inductive Out where
  | nx (ρ : Env) (st : Sto) | rt (v : Vd) (st : Sto) | bk (ρ : Env) (st : Sto) | ct (ρ : Env) (st : Sto)
abbrev SF := Env → Sto → Option Out
def AftN (K : PySem.W.Frag) (S : Wd) (ρ' : Env) (st' : Sto) (Q : L2.St → Hp → Prop) : Prop := ∀ (S' : Wd) (σ' : L2.St), S'.L = S.L → S'.st = st' → Ext S S' → S'.Ok K → REnv K S' ρ' σ' → Q σ' S'.H
def AftS (K : PySem.W.Frag) (S : Wd) (o : Out) (D : Ends) : Prop := match o with
  | .nx ρ' st' => AftN K S ρ' st' D.nx
  | .rt v st' => Aft K S st' v D.rt
  | .bk ρ' st' => AftN K S ρ' st' D.bk
  | .ct ρ' st' => AftN K S ρ' st' D.ct
theorem AftN.from {K : PySem.W.Frag} {S S1 : Wd} {ρ' : Env} {st' : Sto} {Q : L2.St → Hp → Prop} (h : AftN K S ρ' st' Q) (l : S1.L = S.L) (e : Ext S S1) : AftN K S1 ρ' st' Q := fun S' x h1 h2 h3 h4 h5 => h S' x (h1.trans l) h2 (e.trans h3) h4 h5
theorem AftS.from {K : PySem.W.Frag} {S S1 : Wd} {o : Out} {D : Ends} (h : AftS K S o D) (l : S1.L = S.L) (e : Ext S S1) : AftS K S1 o D := by
  cases o with
  | nx ρ' st' => exact AftN.from (show AftN K S ρ' st' D.nx from h) l e
  | rt v st' => exact Aft.from (show Aft K S st' v D.rt from h) l e
  | bk ρ' st' => exact AftN.from (show AftN K S ρ' st' D.bk from h) l e
  | ct ρ' st' => exact AftN.from (show AftN K S ρ' st' D.ct from h) l e
def SS (K : PySem.W.Frag) (ts : TS) (f : SF) : Prop := ∀ (S : Wd) (ρ : Env) (σ : L2.St) (o : Out), S.Ok K → REnv K S ρ σ → f ρ S.st = some o → ∀ D : Ends, AftS K S o D → ts D σ S.H
def JSs (X : Cx) (st : List Stmt) (f : SF) : Prop := ∃ ts, PSs X st ts ∧ SS X.K ts f
def JS (X : Cx) (st : Stmt) (f : SF) : Prop := ∃ ts, PS X st ts ∧ SS X.K ts f
abbrev TF := Vd → Env → Sto → Option (Env × Sto)
def ST (K : PySem.W.Frag) (g : TG) (t : TF) : Prop := ∀ (S : Wd) (ρ : Env) (σ : L2.St) (x : V) (v : Vd) (ρ' : Env) (st' : Sto), S.Ok K → REnv K S ρ σ → RV K S x v → t v ρ S.st = some (ρ', st') → ∀ Q, AftN K S ρ' st' Q → g x σ S.H Q
abbrev TFs := List Vd → Env → Sto → Option (Env × Sto)
def STs (K : PySem.W.Frag) (g : TGs) (t : TFs) : Prop := ∀ (S : Wd) (ρ : Env) (σ : L2.St) (xs : List V) (vs : List Vd) (ρ' : Env) (st' : Sto), S.Ok K → REnv K S ρ σ → RVs K S xs vs → t vs ρ S.st = some (ρ', st') → ∀ Q, AftN K S ρ' st' Q → g xs σ S.H Q
def tNm (i : Nat) : TF := fun v ρ st => some (ρ.set i (some v), st)
def tsNil : TFs := fun vs ρ st => match vs with
  | [] => some (ρ, st)
  | _ => none
def tsCons (t : TF) (u : TFs) : TFs := fun vs ρ st => match vs with
  | v :: r => match t v ρ st with
    | some (ρ1, st1) => u r ρ1 st1
    | none => none
  | [] => none
def tTp (n : Nat) (t : TFs) : TF := fun v ρ st => match v with
  | .d (.tuple xs) => if xs.length = n then t (xs.map .d) ρ st else none
  | _ => none
/-- x[i] = v, x a cell -/
def tPut (a b : EF) : TF := fun v ρ st => match a ρ st with
  | some (.r n, st1) => match b ρ st1 with
    | some (.d (.int i), st2) => match st2[n]? with
      | some (.lst xs) => match ixN xs.length i with
        | some j => some (ρ, st2.set n (.lst (xs.set j v)))
        | none => none
      | _ => none
    | _ => none
  | _ => none
section
variable {K : PySem.W.Frag}
theorem st_nm {i : Nat} : ST K (gName i) (tNm i) := by
  intro S ρ σ x v ρ' st' ok en r h Q q
  cases h
  exact q S _ rfl rfl (Ext.refl S) ok (en.set i r)
theorem sts_nil : STs K gNil tsNil := by
  intro S ρ σ xs vs ρ' st' ok en r h Q q
  unfold tsNil at h
  split at h
  · cases h
    cases r
    exact ⟨rfl, q S σ rfl rfl (Ext.refl S) ok en⟩
  · cases h
theorem sts_cons {g : TG} {gs : TGs} {t : TF} {u : TFs} (h1 : ST K g t) (h2 : STs K gs u) : STs K (gCons g gs) (tsCons t u) := by
  intro S ρ σ xs vs ρ' st' ok en r h Q q
  unfold tsCons at h
  split at h
  · split at h
    · rename_i ρ1 st1 e1
      cases r with
      | cons r rr =>
        refine ⟨_, _, rfl, h1 S ρ σ _ _ _ _ ok en r e1 _ fun S1 σ1 l1 s1 x1 ok1 en1 => ?_⟩
        subst s1
        exact h2 S1 ρ1 σ1 _ _ _ _ ok1 en1 (RVs.up x1 rr) h Q (q.from l1 x1)
    · cases h
  · cases h
theorem rvs_of {S : Wd} : ∀ {xs : List V} {ds : List PyData}, Dds K S.fr xs ds → RVs K S xs (ds.map .d)
  | _, _, .nil => .nil
  | _, _, .cons h r => .cons h (rvs_of r)
theorem st_tp {n : Nat} {gs : TGs} {u : TFs} (h2 : STs K gs u) : ST K (gTup K n gs) (tTp n u) := by
  intro S ρ σ x v ρ' st' ok en r h Q q
  unfold tTp at h
  split at h
  · rename_i xs
    split at h
    · rename_i hl
      have r' : Dd K S.fr x (.tuple xs) := r
      cases r' with
      | @tup a ys _ h3 h4 =>
        exact ⟨a, ys, rfl, same_seqT (fr_same S) h3, by rw [Dds.length_ h4]; exact hl, h2 S ρ σ _ _ _ _ ok en (rvs_of h4) h Q q⟩
    · cases h
  · cases h
theorem RVs.set_ {S : Wd} {x : V} {v : Vd} (r : RV K S x v) : ∀ {xs : List V} {vs : List Vd} (i : Nat), RVs K S xs vs → RVs K S (xs.set i x) (vs.set i v)
  | _, _, _, .nil => .nil
  | _, _, 0, .cons _ t => .cons r t
  | _, _, i + 1, .cons q t => .cons q (RVs.set_ r i t)
theorem st_put {ta tb : TE} {fa fb : EF} (ha : SE K ta fa) (hb : SE K tb fb) : ST K (L2.gSub ta tb rSetL) (tPut fa fb) := by
  intro S ρ σ x v ρ' st' ok en r h Q q
  unfold tPut at h
  split at h
  · rename_i n st1 e1
    split at h
    · rename_i i st2 e2
      split at h
      · rename_i xs e3
        split at h
        · rename_i j e4
          cases h
          refine ha S ρ σ _ _ ok en e1 _ fun S1 xa l1 s1 x1 ok1 r1 => ?_
          subst s1
          refine hb S1 ρ σ _ _ ok1 (en.up x1) e2 _ fun S2 xb l2 s2 x2 ok2 r2 => ?_
          subst s2
          have r2' : Dd K S2.fr xb (.int i) := r2
          cases r2'
          obtain ⟨a, o, h1, h2, vs, h3, h4⟩ := look_at ok2 e3 (fun z => nomatch z)
          subst h3
          have ea := (r1.up x2).ref_at h1
          subst ea
          have rx := (r.up x1).up x2
          obtain ⟨g1, g2⟩ := ok2.chg (c := .lst (xs.set j v)) (o := .lst (vs.set j x)) h1 (fun z => nomatch z) ⟨_, rfl, RVs.set_ rx j h4⟩
          exact ⟨a, vs, i, j, rfl, rfl, h2, by rw [RVs.len h4]; exact e4, q (S2.chg n a _ _) σ (l2.trans l1) rfl ((x1.trans x2).trans g1) g2 (en.up ((x1.trans x2).trans g1))⟩
        · cases h
      · cases h
    · cases h
  · cases h
end
def sNext : SF := fun ρ st => some (.nx ρ st)
def sSeq (f g : SF) : SF := fun ρ st => match f ρ st with
  | some (.nx ρ1 st1) => g ρ1 st1
  | o => o
def sIf (c : BF) (f g : SF) : SF := fun ρ st => match c ρ st with
  | some (true, st1) => f ρ st1
  | some (false, st1) => g ρ st1
  | none => none
def sRet (e : EF) : SF := fun ρ st => match e ρ st with
  | some (v, st1) => some (.rt v st1)
  | none => none
def sAsg (e : EF) (t : TF) : SF := fun ρ st => match e ρ st with
  | some (v, st1) => match t v ρ st1 with
    | some (ρ2, st2) => some (.nx ρ2 st2)
    | none => none
  | none => none
def sDrop (e : EF) : SF := fun ρ st => match e ρ st with
  | some (_, st1) => some (.nx ρ st1)
  | none => none
def sBrk : SF := fun ρ st => some (.bk ρ st)
def sCnt : SF := fun ρ st => some (.ct ρ st)
def sNo : SF := fun _ _ => none
/-- x[i] += y, x a cell, ints -/
def sAugI (op : Int → Int → Int) (a b e : EF) : SF := fun ρ st => match a ρ st with
  | some (.r n, st1) => match b ρ st1 with
    | some (.d (.int i), st2) => match st2[n]? with
      | some (.lst xs) => match ixN xs.length i with
        | some j => match xs[j]? with
          | some (.d (.int u)) => match e ρ st2 with
            | some (.d (.int w), st3) => match st3[n]? with
              | some (.lst ys) => if ys.length = xs.length then some (.nx ρ (st3.set n (.lst (ys.set j (.d (.int (op u w))))))) else none
              | _ => none
            | _ => none
          | _ => none
        | none => none
      | _ => none
    | _ => none
  | _ => none
/-- name op= e -/
def sAug (i : Nat) (g : PyData → PyData → Option PyData) (e : EF) : SF := fun ρ st => match ρ[i]? with
  | some (some v) => match e ρ st with
    | some (w, st1) => match lookR st1 v, lookR st1 w with
      | some x, some y => (g x y).map fun z => .nx (ρ.set i (some (.d z))) st1
      | _, _ => none
    | none => none
  | _ => none
section
variable {K : PySem.W.Frag} {t u : TS} {f g : SF}
theorem ss_next : SS K tNext sNext := by
  intro S ρ σ o ok en h D q
  cases h
  exact q S σ rfl rfl (Ext.refl S) ok en
theorem ss_seq (hf : SS K t f) (hg : SS K u g) : SS K (tSeq t u) (sSeq f g) := by
  intro S ρ σ o ok en h D q
  unfold sSeq at h
  split at h
  · rename_i ρ1 st1 e1
    refine hf S ρ σ _ ok en e1 { D with nx := u D } fun S1 σ1 l1 s1 x1 ok1 en1 => ?_
    subst s1
    exact hg S1 ρ1 σ1 o ok1 en1 h D (q.from l1 x1)
  · rename_i o' hn
    refine hf S ρ σ o ok en h { D with nx := u D } ?_
    cases o with
    | nx ρ1 st1 => exact absurd h (hn ρ1 st1)
    | rt v st' => exact q
    | bk ρ' st' => exact q
    | ct ρ' st' => exact q
theorem ss_if {tc : TT} {c : BF} (hc : SB K tc c) (hf : SS K t f) (hg : SS K u g) : SS K (tIfS tc t u) (sIf c f g) := by
  intro S ρ σ o ok en h D q
  unfold sIf at h
  split at h
  · rename_i st1 e1
    refine hc S ρ σ _ _ ok en e1 _ fun S1 l1 s1 x1 ok1 => ?_
    subst s1
    exact hf S1 ρ σ o ok1 (en.up x1) h D (q.from l1 x1)
  · rename_i st1 e1
    refine hc S ρ σ _ _ ok en e1 _ fun S1 l1 s1 x1 ok1 => ?_
    subst s1
    exact hg S1 ρ σ o ok1 (en.up x1) h D (q.from l1 x1)
  · cases h
theorem ss_ret {te : TE} {e : EF} (he : SE K te e) : SS K (tRet te) (sRet e) := by
  intro S ρ σ o ok en h D q
  unfold sRet at h
  split at h
  · rename_i v st1 e1
    cases h
    exact he S ρ σ _ _ ok en e1 _ q
  · cases h
theorem ss_asg {te : TE} {e : EF} {gt : TG} {tf : TF} (he : SE K te e) (ht : ST K gt tf) : SS K (tAsg te gt) (sAsg e tf) := by
  intro S ρ σ o ok en h D q
  unfold sAsg at h
  split at h
  · rename_i v st1 e1
    split at h
    · rename_i ρ2 st2 e2
      cases h
      refine he S ρ σ _ _ ok en e1 _ fun S1 xa l1 s1 x1 ok1 r1 => ?_
      subst s1
      exact ht S1 ρ σ xa v ρ2 st2 ok1 (en.up x1) r1 e2 _ (AftN.from (show AftN K S ρ2 st2 D.nx from q) l1 x1)
    · cases h
  · cases h
theorem ss_drop {te : TE} {e : EF} (he : SE K te e) : SS K (tDrop te) (sDrop e) := by
  intro S ρ σ o ok en h D q
  unfold sDrop at h
  split at h
  · rename_i v st1 e1
    cases h
    exact he S ρ σ _ _ ok en e1 _ fun S1 xa l1 s1 x1 ok1 r1 => q S1 σ l1 s1 x1 ok1 (en.up x1)
  · cases h
theorem ss_brk : SS K tBreak sBrk := by
  intro S ρ σ o ok en h D q
  cases h
  exact q S σ rfl rfl (Ext.refl S) ok en
theorem ss_cnt : SS K tCont sCnt := by
  intro S ρ σ o ok en h D q
  cases h
  exact q S σ rfl rfl (Ext.refl S) ok en
theorem ss_no : SS K tNever sNo := by
  intro S ρ σ o ok en h D q
  cases h
theorem RVs.get_ {S : Wd} : ∀ {xs : List V} {ds : List Vd} {j : Nat} {d : Vd}, RVs K S xs ds → ds[j]? = some d → ∃ x, xs[j]? = some x ∧ RV K S x d
  | _, _, _, _, .nil, e => by simp at e
  | _, _, 0, _, .cons a _, e => by
    simp at e
    subst e
    exact ⟨_, rfl, a⟩
  | _, _, i + 1, _, .cons _ r, e => by
    obtain ⟨x, h1, h2⟩ := RVs.get_ (j := i) r (by simpa using e)
    exact ⟨x, by simpa using h1, h2⟩
theorem ss_augI {op : Int → Int → Int} {ta tb te : TE} {fa fb fe : EF} (ha : SE K ta fa) (hb : SE K tb fb) (he : SE K te fe) : SS K (tAugS ta tb te (rIxL K) (ipI op) rSetL) (sAugI op fa fb fe) := by
  intro S ρ σ o ok en h D q
  unfold sAugI at h
  split at h
  · rename_i n st1 e1
    split at h
    · rename_i i st2 e2
      split at h
      · rename_i xs e3
        split at h
        · rename_i j e4
          split at h
          · rename_i uu e5
            split at h
            · rename_i ww st3 e6
              split at h
              · rename_i ys e7
                split at h
                · rename_i hl
                  cases h
                  refine ha S ρ σ _ _ ok en e1 _ fun S1 xa l1 s1 x1 ok1 r1 => ?_
                  subst s1
                  refine hb S1 ρ σ _ _ ok1 (en.up x1) e2 _ fun S2 xb l2 s2 x2 ok2 r2 => ?_
                  subst s2
                  have r2' : Dd K S2.fr xb (.int i) := r2
                  cases r2'
                  obtain ⟨a, o, h1, h2, vs, h3, h4⟩ := look_at ok2 e3 (fun z => nomatch z)
                  subst h3
                  have ea := (r1.up x2).ref_at h1
                  subst ea
                  obtain ⟨w1, g1, g2⟩ := RVs.get_ h4 e5
                  have g2' : Dd K S2.fr w1 (.int uu) := g2
                  cases g2'
                  refine ⟨a, vs, i, .int uu, rfl, rfl, SqL.of h2, ?_, ?_⟩
                  · unfold atI
                    rw [RVs.len h4, e4]
                    exact g1
                  refine he S2 ρ σ _ _ ok2 (en.up (x1.trans x2)) e6 _ fun S3 xc l3 s3 x3 ok3 r3 => ?_
                  subst s3
                  have r3' : Dd K S3.fr xc (.int ww) := r3
                  cases r3'
                  obtain ⟨a', o', h1', h2', vs', h3', h4'⟩ := look_at ok3 e7 (fun z => nomatch z)
                  subst h3'
                  have ea' := ((r1.up x2).up x3).ref_at h1'
                  cases ea'
                  obtain ⟨k1, k2⟩ := ok3.chg (c := .lst (ys.set j (.d (.int (op uu ww))))) (o := .lst (vs'.set j (.int (op uu ww)))) h1' (fun z => nomatch z) ⟨_, rfl, RVs.set_ (v := .d (.int (op uu ww))) (x := .int (op uu ww)) (Dd.int _) j h4'⟩
                  refine ⟨uu, ww, rfl, rfl, a, vs', i, j, rfl, rfl, h2', by rw [RVs.len h4', hl]; exact e4, ?_⟩
                  exact q (S3.chg n a _ _) σ (l3.trans (l2.trans l1)) rfl (((x1.trans x2).trans x3).trans k1) k2 (en.up (((x1.trans x2).trans x3).trans k1))
                · cases h
              · cases h
            · cases h
          · cases h
        · cases h
      · cases h
    · cases h
  · cases h
theorem ss_aug {i : Nat} {r : R2} {g : PyData → PyData → Option PyData} {te : TE} {fe : EF} (hr : SO K r g) (he : SE K te fe) : SS K (tAug i te r) (sAug i g fe) := by
  intro S ρ σ o ok en h D q
  unfold sAug at h
  split at h
  · rename_i v e1
    split at h
    · rename_i w st1 e2
      split at h
      · rename_i x y e3 e4
        obtain ⟨z, e5, e6⟩ := Option.map_eq_some_iff.mp h
        subst e6
        obtain ⟨xv, h1, h2⟩ := en.at_ i v e1
        refine ⟨xv, h1, he S ρ σ _ _ ok en e2 _ fun S1 xa l1 s1 x1 ok1 r1 => ?_⟩
        subst s1
        refine hr S1.fr S1.H xv xa x y z (fr_same S1) (lookR_ok ok1 (h2.up x1) e3) (lookR_ok ok1 r1 e4) e5 _ fun G' H' w g hw => ?_
        have gr := ok1.grow g.hh
        exact q { S1 with H := H' } _ l1 rfl (x1.trans gr.1) gr.2 ((en.up (x1.trans gr.1)).set i (Dd.up (g.into ok1) z w hw))
      · cases h
    · cases h
  · cases h
end
/-! ### what is walked -/
abbrev IF := Env → Sto → Option (List Vd × Sto)
structure Src (K : PySem.W.Frag) (J : It) (S : Wd) (items : List Vd) : Prop where
  go : ∀ S' : Wd, Ext S S' → S'.Ok K → ∀ i, i < items.length → J.go i S'.H
  yld : ∀ S' : Wd, Ext S S' → S'.Ok K → ∀ i v, items[i]? = some v → ∀ x H', J.yld i S'.H x H' → Same S'.H H' ∧ RV K { S' with H := H' } x v
  stop : ∀ S' : Wd, Ext S S' → S'.Ok K → J.stop items.length S'.H
def SI (K : PySem.W.Frag) (wi : TI) (f : IF) : Prop := ∀ (S : Wd) (ρ : Env) (σ : L2.St) (items : List Vd) (st' : Sto), S.Ok K → REnv K S ρ σ → f ρ S.st = some (items, st') →
  ∀ R : It → Hp → Prop, (∀ (S' : Wd) (J : It), S'.L = S.L → S'.st = st' → Ext S S' → S'.Ok K → Src K J S' items → R J S'.H) → wi σ S.H R
def forD (t : TF) (body : SF) : List Vd → Env → Sto → Option Out
  | [], ρ, st => some (.nx ρ st)
  | v :: vs, ρ, st => match t v ρ st with
    | some (ρ1, st1) => match body ρ1 st1 with
      | some (.nx ρ2 st2) => forD t body vs ρ2 st2
      | some (.ct ρ2 st2) => forD t body vs ρ2 st2
      | some (.bk ρ2 st2) => some (.nx ρ2 st2)
      | some (.rt w st2) => some (.rt w st2)
      | none => none
    | none => none
def sFor (src : IF) (t : TF) (body : SF) : SF := fun ρ st => match src ρ st with
  | some (items, st1) => forD t body items ρ st1
  | none => none
section
variable {K : PySem.W.Frag}
theorem ss_for {wi : TI} {src : IF} {g : TG} {t : TF} {tb : TS} {body : SF} (hi : SI K wi src) (ht : ST K g t) (hb : SS K tb body) : SS K (tFor wi g tb) (sFor src t body) := by
  intro S ρ σ o ok en h D q
  unfold sFor at h
  split at h
  · rename_i items st1 e1
    refine hi S ρ σ items st1 ok en e1 _ fun S1 J l1 s1 x1 ok1 sr => ?_
    subst s1
    have q1 := q.from l1 x1
    clear q
    refine ⟨fun i m σ2 H2 => ∃ (S2 : Wd) (ρ2 : Env), S2.H = H2 ∧ S2.L = S1.L ∧ Ext S1 S2 ∧ S2.Ok K ∧ REnv K S2 ρ2 σ2 ∧ i ≤ items.length ∧ m = items.length - i ∧ forD t body (items.drop i) ρ2 S2.st = some o, ⟨items.length, S1, ρ, rfl, rfl, Ext.refl S1, ok1, en.up x1, Nat.zero_le _, rfl, h⟩, ?_⟩
    rintro i m σ2 H2 ⟨S2, ρ2, rfl, l2, x2, ok2, en2, hi2, hm, h2⟩
    by_cases hlt : i < items.length
    · obtain ⟨v, hv⟩ : ∃ v, items[i]? = some v := ⟨items[i], List.getElem?_eq_getElem hlt⟩
      have hd : items.drop i = v :: items.drop (i + 1) := by
        rw [List.drop_eq_getElem_cons hlt]
        rw [List.getElem?_eq_getElem hlt] at hv
        rw [Option.some.inj hv]
      rw [hd] at h2
      unfold forD at h2
      split at h2
      · rename_i ρ3 st3 e3
        refine .inr ⟨sr.go S2 x2 ok2 i hlt, fun σ' H' => ∃ (S' : Wd) (ρ' : Env), S'.H = H' ∧ S'.L = S1.L ∧ Ext S1 S' ∧ S'.Ok K ∧ REnv K S' ρ' σ' ∧ forD t body (items.drop (i + 1)) ρ' S'.st = some o, fun σ' H' hN => ?_, fun x H' hy => ?_⟩
        · obtain ⟨S', ρ', e', l', x', ok', en', h'⟩ := hN
          exact ⟨items.length - (i + 1), by omega, S', ρ', e', l', x', ok', en', hlt, rfl, h'⟩
        · obtain ⟨hs, hr⟩ := sr.yld S2 x2 ok2 i v hv x H' hy
          have gr := ok2.grow hs
          have x2' := x2.trans gr.1
          refine ht { S2 with H := H' } ρ2 σ2 x v ρ3 st3 gr.2 (en2.up gr.1) hr e3 _ fun S3 σ3 l3 s3 x3 ok3 en3 => ?_
          subst s3
          have x3' := x2'.trans x3
          have l3' : S3.L = S1.L := l3.trans l2
          split at h2
          · rename_i ρ4 st4 e4
            refine hb S3 ρ3 σ3 _ ok3 en3 e4 _ ?_
            intro S4 σ4 l4 s4 x4 ok4 en4
            subst s4
            exact ⟨S4, ρ4, rfl, l4.trans l3', x3'.trans x4, ok4, en4, h2⟩
          · rename_i ρ4 st4 e4
            refine hb S3 ρ3 σ3 _ ok3 en3 e4 _ ?_
            intro S4 σ4 l4 s4 x4 ok4 en4
            subst s4
            exact ⟨S4, ρ4, rfl, l4.trans l3', x3'.trans x4, ok4, en4, h2⟩
          · rename_i ρ4 st4 e4
            cases h2
            refine hb S3 ρ3 σ3 _ ok3 en3 e4 _ ?_
            exact AftN.from (show AftN K S1 ρ4 st4 D.nx from q1) l3' x3'
          · rename_i w st4 e4
            cases h2
            refine hb S3 ρ3 σ3 _ ok3 en3 e4 _ ?_
            exact Aft.from (show Aft K S1 st4 w D.rt from q1) l3' x3'
          · cases h2
      · cases h2
    · have ei : i = items.length := by omega
      subst ei
      rw [List.drop_length] at h2
      cases h2
      exact .inl ⟨sr.stop S2 x2 ok2, q1 S2 σ2 l2 rfl x2 ok2 en2⟩
  · cases h
end
end Dl

set_option Elab.async false
set_option linter.all false
set_option maxRecDepth 100000
set_option maxHeartbeats 4000000
namespace Dl
open PySem PySem.Spec PyProof.Rows L2 Pg
/-! ### sources -/
def iSeq (K : PySem.W.Frag) (tl : TE) : TI := fun σ H R => tl σ H fun x H1 => ∃ a, x = .ref a ∧ (((∃ xs, SqL K H1 a xs) ∧ R (Itl K a) H1) ∨ ((∃ xs, SqT K H1 a xs) ∧ R (Itt K a) H1))
theorem pi_seq {X : Cx} {tg l : Expr} {tl : TE} (hl : PE X l tl) : PI X tg l (iSeq X.K tl) := by
  refine ⟨fun pins s σ H R I h => ?_⟩
  refine thn (hl.run pins s σ H _ I h) fun v s1 ⟨x, H1, I1, r1, q1⟩ => ?_
  obtain ⟨a, e, q1⟩ := q1
  subst e
  cases r1
  have f : ∀ b ∈ [s1.heap.objs.size], FpOk X pins H1 b := fun b hb => by
    have e : b = s1.heap.objs.size := by simpa using hb
    subst e
    exact I1.fpOk (Nat.le_refl _) (I1.hok.fresh (Nat.le_refl _))
  rcases q1 with ⟨⟨xs, hq⟩, q⟩ | ⟨⟨xs, hq⟩, q⟩
  · obtain ⟨its, rv, p, hz⟩ := I1.list hq
    refine wpAny_pyIter_list p.isList ?_
    exact ⟨s1.heap.objs.size, [s1.heap.objs.size], _, _, H1, rfl, I1.kept (t' := s1.toks) fun b o e => Heap.get?_push_of_some _ e, turn_list a _, ⟨_, Heap.get?_push_size _ rfl, rfl, rfl⟩, f, q⟩
  · obtain ⟨its, rv, p, hz⟩ := I1.tuple hq
    refine wpAny_pyIter_tuple (show s1.heap.IsTuple a its.toArray from p) ?_
    exact ⟨s1.heap.objs.size, [s1.heap.objs.size], _, _, H1, rfl, I1.kept (t' := s1.toks) fun b o e => Heap.get?_push_of_some _ e, turn_tuple a _, ⟨_, Heap.get?_push_size _ rfl, rfl, rfl⟩, f, q⟩
def iData (a : EF) : IF := fun ρ st => match a ρ st with
  | some (.d (.list xs), st1) => some (xs.map .d, st1)
  | some (.d (.tuple xs), st1) => some (xs.map .d, st1)
  | _ => none
def vInt (i : Nat) (lo : Int) : Vd := .d (.int (lo + (i : Int)))
def iRange1 (a : AF) : IF := fun ρ st => match a ρ st with
  | some ([.d (.int j)], st1) => if -(2 ^ 62) ≤ j ∧ j < 2 ^ 62 then some ((List.range j.toNat).map fun i : Nat => vInt i 0, st1) else none
  | _ => none
def iRange2 (a : AF) : IF := fun ρ st => match a ρ st with
  | some ([.d (.int i), .d (.int j)], st1) => if -(2 ^ 62) ≤ i ∧ i < 2 ^ 62 ∧ -(2 ^ 62) ≤ j ∧ j < 2 ^ 62 then some ((List.range (j - i).toNat).map fun k : Nat => vInt k i, st1) else none
  | _ => none
def enumD (n : Nat) : List PyData → List Vd
  | [] => []
  | x :: xs => .d (.tuple [.int (n : Int), x]) :: enumD (n + 1) xs
def iEnumL (a : AF) : IF := fun ρ st => match a ρ st with
  | some ([.d (.list xs)], st1) => some (enumD 0 xs, st1)
  | _ => none
def zipD : List PyData → List PyData → List Vd
  | x :: xs, y :: ys => .d (.tuple [x, y]) :: zipD xs ys
  | _, _ => []
def iZipF (a : AF) : IF := fun ρ st => match a ρ st with
  | some ([.d (.list xs), .d (.list ys)], st1) => some (zipD xs ys, st1)
  | some ([.d (.tuple xs), .d (.tuple ys)], st1) => some (zipD xs ys, st1)
  | _ => none
section
variable {K : PySem.W.Frag} {ta te : TE} {fa : EF} {S : Wd}
theorem src_l {a : Addr} {xs : List V} {ds : List PyData} (h : SqL K S.fr a xs) (r : Dds K S.fr xs ds) : Src K (Itl K a) S (ds.map .d) := by
  have hl := Dds.length_ r
  refine ⟨fun S' e ok i hi => ?_, fun S' e ok i v hv x H' hy => ?_, fun S' e ok => ⟨xs, (fr_same S').seq (e.keep.seq h), by simp [hl]⟩⟩
  · rw [List.length_map, ← hl] at hi
    exact ⟨xs, xs[i], (fr_same S').seq (e.keep.seq h), List.getElem?_eq_getElem hi⟩
  · obtain ⟨rfl, hx⟩ := hy
    have h1 := hx xs ((fr_same S').seq (e.keep.seq h))
    obtain ⟨w, h2, h3⟩ := RVs.get_ (rvs_of r) hv
    rw [h1] at h2
    cases h2
    exact ⟨Same.refl _, h3.up e⟩
theorem src_t {a : Addr} {xs : List V} {ds : List PyData} (h : SqT K S.fr a xs) (r : Dds K S.fr xs ds) : Src K (Itt K a) S (ds.map .d) := by
  have hl := Dds.length_ r
  refine ⟨fun S' e ok i hi => ?_, fun S' e ok i v hv x H' hy => ?_, fun S' e ok => ⟨xs, same_seqT (fr_same S') (same_seqT e.keep h), by simp [hl]⟩⟩
  · rw [List.length_map, ← hl] at hi
    exact ⟨xs, xs[i], same_seqT (fr_same S') (same_seqT e.keep h), List.getElem?_eq_getElem hi⟩
  · obtain ⟨rfl, hx⟩ := hy
    have h1 := hx xs (same_seqT (fr_same S') (same_seqT e.keep h))
    obtain ⟨w, h2, h3⟩ := RVs.get_ (rvs_of r) hv
    rw [h1] at h2
    cases h2
    exact ⟨Same.refl _, h3.up e⟩
theorem src_r {lo : Int} {n : Nat} : Src K (Itr lo n) S ((List.range n).map fun k : Nat => vInt k lo) := by
  refine ⟨fun S' e ok i hi => (show i < n by simpa using hi), fun S' e ok i v hv x H' hy => ?_, fun S' e ok => by simp [Itr]⟩
  obtain ⟨rfl, rfl⟩ := hy
  rw [List.getElem?_map] at hv
  obtain ⟨k, h1, h2⟩ := Option.map_eq_some_iff.mp hv
  have hk : k = i := by
    have := List.getElem?_range (show i < n from by simpa using (List.getElem?_eq_some_iff.mp h1).1)
    rw [this] at h1
    exact (Option.some.inj h1).symm
  subst hk
  subst h2
  exact ⟨Same.refl _, Dd.int _⟩
theorem si_data (ha : SE K ta fa) : SI K (iSeq K ta) (iData fa) := by
  intro S ρ σ items st' ok en h R q
  unfold iData at h
  split at h
  · rename_i xs st1 e1
    cases h
    refine ha S ρ σ _ _ ok en e1 _ fun S1 xa l1 s1 x1 ok1 r1 => ?_
    have r' : Dd K S1.fr xa (.list xs) := r1
    cases r' with
    | @lst a vs _ h1 h2 => exact ⟨a, rfl, .inl ⟨⟨vs, (fr_same S1).seq h1⟩, q S1 _ l1 s1 x1 ok1 (src_l h1 h2)⟩⟩
  · rename_i xs st1 e1
    cases h
    refine ha S ρ σ _ _ ok en e1 _ fun S1 xa l1 s1 x1 ok1 r1 => ?_
    have r' : Dd K S1.fr xa (.tuple xs) := r1
    cases r' with
    | @tup a vs _ h1 h2 => exact ⟨a, rfl, .inr ⟨⟨vs, same_seqT (fr_same S1) h1⟩, q S1 _ l1 s1 x1 ok1 (src_t h1 h2)⟩⟩
  · cases h
theorem rvs_one {x : List V} {d : PyData} (r : RVs K S x [.d d]) : ∃ v, x = [v] ∧ Dd K S.fr v d := by
  cases r with
  | cons h t => cases t; exact ⟨_, rfl, h⟩
theorem rvs_two {x : List V} {d e : PyData} (r : RVs K S x [.d d, .d e]) : ∃ v w, x = [v, w] ∧ Dd K S.fr v d ∧ Dd K S.fr w e := by
  cases r with
  | cons h t =>
    obtain ⟨w, rfl, h2⟩ := rvs_one t
    exact ⟨_, w, rfl, h, h2⟩
theorem si_range1 {t : TA} {fa : AF} (ha : SA K t fa) : SI K (iRng1 t) (iRange1 fa) := by
  intro S ρ σ items st' ok en h R q
  unfold iRange1 at h
  split at h
  · rename_i j st1 e1
    split at h
    · rename_i hj
      cases h
      refine ha S ρ σ _ _ ok en e1 _ fun S1 xa l1 s1 x1 ok1 r1 => ?_
      obtain ⟨v, rfl, hv⟩ := rvs_one r1
      cases hv
      exact ⟨j, rfl, hj.1, hj.2, q S1 _ l1 s1 x1 ok1 src_r⟩
    · cases h
  · cases h
theorem si_range2 {t : TA} {fa : AF} (ha : SA K t fa) : SI K (iRng2 t) (iRange2 fa) := by
  intro S ρ σ items st' ok en h R q
  unfold iRange2 at h
  split at h
  · rename_i i j st1 e1
    split at h
    · rename_i hj
      cases h
      refine ha S ρ σ _ _ ok en e1 _ fun S1 xa l1 s1 x1 ok1 r1 => ?_
      obtain ⟨v, w, rfl, hv, hw⟩ := rvs_two r1
      cases hv
      cases hw
      exact ⟨i, j, rfl, hj, q S1 _ l1 s1 x1 ok1 src_r⟩
    · cases h
  · cases h
theorem enumD_get : ∀ {xs : List PyData} {n i : Nat} {v : Vd}, (enumD n xs)[i]? = some v → ∃ x, xs[i]? = some x ∧ v = .d (.tuple [.int ((n + i : Nat) : Int), x])
  | [], _, _, _, h => by simp [enumD] at h
  | x :: xs, n, 0, v, h => by
    simp [enumD] at h
    exact ⟨x, rfl, h.symm⟩
  | x :: xs, n, i + 1, v, h => by
    simp only [enumD, List.getElem?_cons_succ] at h
    obtain ⟨y, h1, h2⟩ := enumD_get h
    exact ⟨y, by simpa using h1, by rw [h2]; congr 4; omega⟩
theorem enumD_len : ∀ (xs : List PyData) (n : Nat), (enumD n xs).length = xs.length
  | [], _ => rfl
  | _ :: xs, n => congrArg (· + 1) (enumD_len xs (n + 1))
theorem zipD_get : ∀ {xs ys : List PyData} {i : Nat} {v : Vd}, (zipD xs ys)[i]? = some v → ∃ x y, xs[i]? = some x ∧ ys[i]? = some y ∧ v = .d (.tuple [x, y])
  | [], _, _, _, h => by simp [zipD] at h
  | _ :: _, [], _, _, h => by simp [zipD] at h
  | x :: xs, y :: ys, 0, v, h => by
    simp [zipD] at h
    exact ⟨x, y, rfl, rfl, h.symm⟩
  | x :: xs, y :: ys, i + 1, v, h => by
    simp only [zipD, List.getElem?_cons_succ] at h
    obtain ⟨z, w, h1, h2, h3⟩ := zipD_get h
    exact ⟨z, w, by simpa using h1, by simpa using h2, h3⟩
theorem zipD_len : ∀ (xs ys : List PyData), (zipD xs ys).length = min xs.length ys.length
  | [], _ => by simp [zipD]
  | _ :: _, [] => by simp [zipD]
  | _ :: xs, _ :: ys => by simp [zipD, zipD_len xs ys]
theorem pair_new {x : V} {d : PyData} {y : V} {e : PyData} {T : Addr} (ok : S.Ok K) (hT : S.H T = none) (hx : Dd K S.fr x d) (hy : Dd K S.fr y e) :
    Same S.H (upd S.H T (.tup [x, y])) ∧ RV K { S with H := upd S.H T (.tup [x, y]) } (.ref T) (.d (.tuple [d, e])) := by
  have g := (Grow.refl (fr_same S)).put hT (.tup [x, y])
  refine ⟨same_up hT, ?_⟩
  have up := same_up (o := .tup [x, y]) (free_of (fr_same S) hT)
  exact Dd.up (g.into ok) _ _ (.tup (SqT.of upd_same) (.cons (Dd.up up _ _ hx) (.cons (Dd.up up _ _ hy) .nil)))
theorem src_e {a : Addr} {xs : List V} {ds : List PyData} (h : SqL K S.fr a xs) (r : Dds K S.fr xs ds) : Src K (Ite K a) S (enumD 0 ds) := by
  have hl := Dds.length_ r
  refine ⟨fun S' e ok i hi => ?_, fun S' e ok i v hv x H' hy => ?_, fun S' e ok => ⟨xs, (fr_same S').seq (e.keep.seq h), by rw [enumD_len, hl]; exact Nat.le_refl _⟩⟩
  · rw [enumD_len, ← hl] at hi
    exact ⟨xs, xs[i], (fr_same S').seq (e.keep.seq h), List.getElem?_eq_getElem hi⟩
  · obtain ⟨T, z, rfl, hT, rfl, hx⟩ := hy
    have h1 := hx xs ((fr_same S').seq (e.keep.seq h))
    obtain ⟨d, h2, h3⟩ := enumD_get hv
    subst h3
    obtain ⟨w, h4, h5⟩ := Dds.get_ r h2
    rw [h1] at h4
    cases h4
    rw [Nat.zero_add]
    exact pair_new ok hT (.int _) (Dd.up e.keep _ _ h5)
theorem si_enum {t : TA} {fa : AF} (ha : SA K t fa) : SI K (iEnum K t) (iEnumL fa) := by
  intro S ρ σ items st' ok en h R q
  unfold iEnumL at h
  split at h
  · rename_i xs st1 e1
    cases h
    refine ha S ρ σ _ _ ok en e1 _ fun S1 xa l1 s1 x1 ok1 r1 => ?_
    obtain ⟨v, rfl, hv⟩ := rvs_one r1
    cases hv with
    | @lst a vs _ h1 h2 => exact ⟨a, vs, rfl, (fr_same S1).seq h1, q S1 _ l1 s1 x1 ok1 (src_e h1 h2)⟩
  · cases h
theorem src_z {a b : Addr} {xs ys : List V} {ds es : List PyData} (h : SqL K S.fr a xs) (r : Dds K S.fr xs ds) (h' : SqL K S.fr b ys) (r' : Dds K S.fr ys es) : Src K (Itz K a b) S (zipD ds es) := by
  have hl := Dds.length_ r
  have hl' := Dds.length_ r'
  refine ⟨fun S' e ok i hi => ?_, fun S' e ok i v hv x H' hy => ?_, fun S' e ok => ⟨xs, ys, (fr_same S').seq (e.keep.seq h), (fr_same S').seq (e.keep.seq h'), by rw [zipD_len, hl, hl']; omega⟩⟩
  · rw [zipD_len, ← hl, ← hl'] at hi
    have h1 : i < xs.length := by omega
    have h2 : i < ys.length := by omega
    exact ⟨xs, ys, xs[i], ys[i], (fr_same S').seq (e.keep.seq h), (fr_same S').seq (e.keep.seq h'), List.getElem?_eq_getElem h1, List.getElem?_eq_getElem h2⟩
  · obtain ⟨T, z, w, rfl, hT, rfl, hx, hx'⟩ := hy
    have h1 := hx xs ((fr_same S').seq (e.keep.seq h))
    have h1' := hx' ys ((fr_same S').seq (e.keep.seq h'))
    obtain ⟨d, d', h2, h2', h3⟩ := zipD_get hv
    subst h3
    obtain ⟨u, h4, h5⟩ := Dds.get_ r h2
    obtain ⟨u', h4', h5'⟩ := Dds.get_ r' h2'
    rw [h1] at h4
    rw [h1'] at h4'
    cases h4
    cases h4'
    exact pair_new ok hT (Dd.up e.keep _ _ h5) (Dd.up e.keep _ _ h5')
theorem src_zT {a b : Addr} {xs ys : List V} {ds es : List PyData} (h : SqT K S.fr a xs) (r : Dds K S.fr xs ds) (h' : SqT K S.fr b ys) (r' : Dds K S.fr ys es) : Src K (RZ.ItzT K a b) S (zipD ds es) := by
  have hl := Dds.length_ r
  have hl' := Dds.length_ r'
  refine ⟨fun S' e ok i hi => ?_, fun S' e ok i v hv x H' hy => ?_, fun S' e ok => ⟨xs, ys, same_seqT (fr_same S') (same_seqT e.keep h), same_seqT (fr_same S') (same_seqT e.keep h'), by rw [zipD_len, hl, hl']; omega⟩⟩
  · rw [zipD_len, ← hl, ← hl'] at hi
    have h1 : i < xs.length := by omega
    have h2 : i < ys.length := by omega
    exact ⟨xs, ys, xs[i], ys[i], same_seqT (fr_same S') (same_seqT e.keep h), same_seqT (fr_same S') (same_seqT e.keep h'), List.getElem?_eq_getElem h1, List.getElem?_eq_getElem h2⟩
  · obtain ⟨T, z, w, rfl, hT, rfl, hx, hx'⟩ := hy
    have h1 := hx xs (same_seqT (fr_same S') (same_seqT e.keep h))
    have h1' := hx' ys (same_seqT (fr_same S') (same_seqT e.keep h'))
    obtain ⟨d, d', h2, h2', h3⟩ := zipD_get hv
    subst h3
    obtain ⟨u, h4, h5⟩ := Dds.get_ r h2
    obtain ⟨u', h4', h5'⟩ := Dds.get_ r' h2'
    rw [h1] at h4
    rw [h1'] at h4'
    cases h4
    cases h4'
    exact pair_new ok hT (Dd.up e.keep _ _ h5) (Dd.up e.keep _ _ h5')
theorem si_zip {t : TA} {fa : AF} (ha : SA K t fa) : SI K (RZ.iZipA K t) (iZipF fa) := by
  intro S ρ σ items st' ok en h R q
  unfold iZipF at h
  split at h
  · rename_i xs ys st1 e1
    cases h
    refine ha S ρ σ _ _ ok en e1 _ fun S1 xa l1 s1 x1 ok1 r1 => ?_
    obtain ⟨v, w, rfl, hv, hw⟩ := rvs_two r1
    cases hv with
    | @lst a vs _ h1 h2 =>
      cases hw with
      | @lst b ws _ h3 h4 => exact ⟨a, b, vs, ws, rfl, .inl ⟨(fr_same S1).seq h1, (fr_same S1).seq h3, q S1 _ l1 s1 x1 ok1 (src_z h1 h2 h3 h4)⟩⟩
  · rename_i xs ys st1 e1
    cases h
    refine ha S ρ σ _ _ ok en e1 _ fun S1 xa l1 s1 x1 ok1 r1 => ?_
    obtain ⟨v, w, rfl, hv, hw⟩ := rvs_two r1
    cases hv with
    | @tup a vs _ h1 h2 =>
      cases hw with
      | @tup b ws _ h3 h4 => exact ⟨a, b, vs, ws, rfl, .inr ⟨same_seqT (fr_same S1) h1, same_seqT (fr_same S1) h3, q S1 _ l1 s1 x1 ok1 (src_zT h1 h2 h3 h4)⟩⟩
  · cases h
end
/-! ### comprehensions -/
def wipeD (ρ : Env) : List Nat → Env
  | [] => ρ
  | v :: vs => (wipeD ρ vs).set v none
def compD (t : TF) (c : BF) (e : EF) (ρ : Env) : List Vd → Sto → Option (List Vd × Sto)
  | [], st => some ([], st)
  | v :: vs, st => match t v ρ st with
    | some (ρ1, st1) => match c ρ1 st1 with
      | some (true, st2) => match e ρ1 st2 with
        | some (w, st3) => (compD t c e ρ vs st3).map fun p => (w :: p.1, p.2)
        | none => none
      | some (false, st2) => compD t c e ρ vs st2
      | none => none
    | none => none
def bYes : BF := fun _ st => some (true, st)
/-- frozen; a new cell -/
def eComp (src : IF) (t : TF) (c : BF) (e : EF) (own : List Nat) : EF := fun ρ st => match src ρ st with
  | some (items, st1) => match compD t c e (wipeD ρ own) items st1 with
    | some (ws, st2) => match datas ws with
      | some xs => if xs.length ≤ 16000000 then some (.d (.list xs), st2) else none
      | none => none
    | none => none
  | none => none
def eCompN (src : IF) (t : TF) (c : BF) (e : EF) (own : List Nat) : EF := fun ρ st => match src ρ st with
  | some (items, st1) => match compD t c e (wipeD ρ own) items st1 with
    | some (ws, st2) => if ws.length ≤ 16000000 then some (.r st2.length, st2 ++ [.lst ws]) else none
    | none => none
  | none => none
def Kps (g : TG) (vs : List Nat) : Prop := ∀ (x : V) (σ1 : L2.St) (H : Hp) (Q : L2.St → Hp → Prop), g x σ1 H Q → g x σ1 H fun σ2 H2 => wipe σ2 vs = wipe σ1 vs ∧ Q σ2 H2
def Kpss (g : TGs) (vs : List Nat) : Prop := ∀ (xs : List V) (σ1 : L2.St) (H : Hp) (Q : L2.St → Hp → Prop), g xs σ1 H Q → g xs σ1 H fun σ2 H2 => wipe σ2 vs = wipe σ1 vs ∧ Q σ2 H2
theorem wipe_set {σ : L2.St} {i : Nat} {o : Option V} : ∀ {vs : List Nat}, i ∈ vs → wipe (σ.set i o) vs = wipe σ vs
  | [], h => nomatch h
  | v :: vs, h => by
    unfold wipe
    by_cases hv : i ∈ vs
    · rw [wipe_set hv]
    · have e : i = v := by
        rcases List.mem_cons.mp h with h | h
        · exact h
        · exact absurd h hv
      subst e
      have com : ∀ {us : List Nat}, i ∉ us → wipe (σ.set i o) us = (wipe σ us).set i o := by
        intro us
        induction us with
        | nil => intro _; rfl
        | cons u us ih =>
          intro hu
          have h1 : i ≠ u := fun z => hu (by rw [z]; exact List.mem_cons_self)
          unfold wipe
          rw [ih fun z => hu (List.mem_cons_of_mem _ z), List.set_comm _ _ h1]
      rw [com hv, List.set_set]
theorem wipe_wipe (σ : L2.St) : ∀ vs : List Nat, wipe (wipe σ vs) vs = wipe σ vs := fun vs => by
  have : ∀ us : List Nat, (∀ u ∈ us, u ∈ vs) → wipe (wipe σ us) vs = wipe σ vs := by
    intro us
    induction us with
    | nil => intro _; rfl
    | cons u us ih =>
      intro h
      show wipe ((wipe σ us).set u none) vs = wipe σ vs
      rw [wipe_set (h u List.mem_cons_self), ih fun w hw => h w (List.mem_cons_of_mem _ hw)]
  exact this vs fun u hu => hu
theorem kps_nm {i : Nat} {vs : List Nat} (h : i ∈ vs) : Kps (gName i) vs := fun x σ1 H Q q => ⟨wipe_set h, q⟩
theorem kpss_nil {vs : List Nat} : Kpss gNil vs := fun xs σ1 H Q q => ⟨q.1, rfl, q.2⟩
/-- names one behind the other: by the whole row -/
theorem kpss_nm {i : Nat} {vs : List Nat} {u : TGs} (h : i ∈ vs) (hu : Kpss u vs) : Kpss (gCons (gName i) u) vs := fun xs σ1 H Q q => by
  obtain ⟨v, r, e, q⟩ := q
  refine ⟨v, r, e, ?_⟩
  have q' : u r (σ1.set i (some v)) H Q := q
  have := hu r (σ1.set i (some v)) H Q q'
  show u r (σ1.set i (some v)) H fun σ2 H2 => wipe σ2 vs = wipe σ1 vs ∧ Q σ2 H2
  rw [← wipe_set (σ := σ1) (o := some v) h]
  exact this
theorem kps_tp {K : PySem.W.Frag} {n : Nat} {vs : List Nat} {u : TGs} (hu : Kpss u vs) : Kps (gTup K n u) vs := fun x σ1 H Q q => by
  obtain ⟨a, xs, e, h1, h2, q⟩ := q
  exact ⟨a, xs, e, h1, h2, hu xs σ1 H Q q⟩
section
variable {K : PySem.W.Frag} {S : Wd}
theorem REnv.wipe {ρ : Env} {σ : L2.St} (en : REnv K S ρ σ) : ∀ vs : List Nat, REnv K S (wipeD ρ vs) (L2.wipe σ vs)
  | [] => en
  | v :: vs => by
    have ih := REnv.wipe en vs
    refine ⟨by unfold wipeD L2.wipe; rw [List.length_set, List.length_set]; exact ih.len, fun i w h => ?_⟩
    unfold wipeD at h
    have hi : i ≠ v := fun e => by
      subst e
      by_cases hv : i < (wipeD ρ vs).length
      · rw [List.getElem?_set_self hv] at h; cases h
      · rw [List.getElem?_eq_none (by simpa using hv)] at h; cases h
    rw [List.getElem?_set_ne (Ne.symm hi)] at h
    obtain ⟨x, h1, h2⟩ := ih.at_ i w h
    refine ⟨x, ?_, h2⟩
    unfold L2.wipe
    rw [List.getElem?_set_ne (Ne.symm hi)]
    exact h1
theorem RVs.append_ : ∀ {xs ys : List V} {vs ws : List Vd}, RVs K S xs vs → RVs K S ys ws → RVs K S (xs ++ ys) (vs ++ ws)
  | _, _, _, _, .nil, h => h
  | _, _, _, _, .cons a r, h => .cons a (RVs.append_ r h)
/-- what was set aside is let go -/
theorem Wd.Ok.rel {L0 : Addr → Prop} {D : Addr} (ok : S.Ok K) (hL : ∀ a, S.L a ↔ L0 a ∨ a = D) (hD : ¬ L0 D) : ({ S with L := L0 } : Wd).Ok K ∧ Same S.fr ({ S with L := L0 } : Wd).fr ∧ (∀ u, S.H D = some u → ({ S with L := L0 } : Wd).fr D = some u) := by
  have lv : ∀ a, ({ S with L := L0 } : Wd).Lv a → S.Lv a := fun a h => h.elim (fun z => .inl ((hL a).mpr (.inl z))) fun ⟨n, c, z⟩ => .inr ⟨n, c, z⟩
  have sm : Same S.fr ({ S with L := L0 } : Wd).fr := fun a o h => by
    obtain ⟨h1, h2⟩ := fr_of h
    exact fr_at (fun z => h1 (lv a z)) h2
  have rv : ∀ x v, RV K S x v → RV K { S with L := L0 } x v := fun x v h => by
    cases v with
    | d y => exact Dd.up sm y x h
    | r n => exact h
  refine ⟨⟨ok.len, ok.inj, fun h z => ok.nL h ((hL _).mpr (.inl z)), fun a h => ok.hL a ((hL a).mpr (.inl h)), fun {n c a} h => ?_⟩, sm, fun u hu => fr_at (fun z => ?_) hu⟩
  · obtain ⟨o, h1, h2⟩ := ok.cell h
    refine ⟨o, h1, ?_⟩
    cases c with
    | dead => trivial
    | lst xs =>
      obtain ⟨vs, h3, h4⟩ := h2
      exact ⟨vs, h3, Paired.mapP h4 fun _ _ => rv _ _⟩
    | dic kvs =>
      rcases h2 with ⟨ks, h3, h4⟩ | ⟨ks, h3, h4⟩
      · exact .inl ⟨ks, h3, Paired.mapP h4 fun _ _ z => ⟨z.1, rv _ _ z.2⟩⟩
      · exact .inr ⟨ks, h3, Paired.mapP h4 fun _ _ z => ⟨z.1, rv _ _ z.2⟩⟩
  · rcases z with z | ⟨n, c, z⟩
    · exact hD z
    · exact ok.nL z ((hL D).mpr (.inr rfl))
/-- what was set aside becomes a cell -/
theorem Wd.Ok.own {L0 : Addr → Prop} {D : Addr} {o : HO} {c : Cell} (ok : S.Ok K) (hL : ∀ a, S.L a ↔ L0 a ∨ a = D) (hD : ¬ L0 D) (e : S.H D = some o) (hc : c ≠ .dead) (hr : RCell K S o c) :
    ({ m := S.m ++ [D], L := L0, st := S.st ++ [c], H := S.H } : Wd).Ok K ∧ Same S.fr ({ m := S.m ++ [D], L := L0, st := S.st ++ [c], H := S.H } : Wd).fr := by
  generalize hS : ({ m := S.m ++ [D], L := L0, st := S.st ++ [c], H := S.H } : Wd) = S'
  have at_ : ∀ {n c' a}, S'.At n c' a ↔ S.At n c' a ∨ (n = S.st.length ∧ c' = c ∧ a = D) := fun {n c' a} => by
    have := ok.more_at (p := D) (o := o) hc (n := n) (c' := c') (a := a)
    subst hS
    exact this
  have eL : S'.L = L0 := by subst hS; rfl
  have eH : S'.H = S.H := by subst hS; rfl
  have lv : ∀ a, S'.Lv a ↔ S.Lv a := fun a => by
    constructor
    · rintro (h | ⟨n, c', h⟩)
      · exact .inl ((hL a).mpr (.inl (eL ▸ h)))
      · rcases at_.mp h with h | ⟨_, _, h⟩
        · exact .inr ⟨n, c', h⟩
        · exact .inl ((hL a).mpr (.inr h))
    · rintro (h | ⟨n, c', h⟩)
      · rcases (hL a).mp h with h | h
        · exact .inl (eL ▸ h)
        · exact .inr ⟨_, c, at_.mpr (.inr ⟨rfl, rfl, h⟩)⟩
      · exact .inr ⟨n, c', at_.mpr (.inl h)⟩
  have sm : Same S.fr S'.fr := fun a u h => by
    obtain ⟨h1, h2⟩ := fr_of h
    exact fr_at (fun z => h1 ((lv a).mp z)) (by rw [eH]; exact h2)
  have rv : ∀ x v, RV K S x v → RV K S' x v := fun x v h => by
    cases v with
    | d y => exact Dd.up sm y x h
    | r n =>
      obtain ⟨a, h1, h2⟩ := h
      refine ⟨a, ?_, h2⟩
      subst hS
      show (S.m ++ [D])[n]? = some a
      rw [List.getElem?_append_left (List.getElem?_eq_some_iff.mp h1).1]
      exact h1
  have rc : ∀ u c', RCell K S u c' → RCell K S' u c' := fun u c' h2 => by
    cases c' with
    | dead => trivial
    | lst xs =>
      obtain ⟨vs, h3, h4⟩ := h2
      exact ⟨vs, h3, Paired.mapP h4 fun _ _ => rv _ _⟩
    | dic kvs =>
      rcases h2 with ⟨ks, h3, h4⟩ | ⟨ks, h3, h4⟩
      · exact .inl ⟨ks, h3, Paired.mapP h4 fun _ _ z => ⟨z.1, rv _ _ z.2⟩⟩
      · exact .inr ⟨ks, h3, Paired.mapP h4 fun _ _ z => ⟨z.1, rv _ _ z.2⟩⟩
  have lD : S.L D := (hL D).mpr (.inr rfl)
  refine ⟨⟨?_, fun {n n' c1 c2 a} h1 h2 => ?_, fun {n c' a} h z => ?_, fun a h => by rw [eH]; exact ok.hL a ((hL a).mpr (.inl (eL ▸ h))), fun {n c' a} h => ?_⟩, sm⟩
  · subst hS
    show (S.m ++ [D]).length = (S.st ++ [c]).length
    simp [ok.len]
  · rcases at_.mp h1 with h1 | ⟨e1, _, q1⟩ <;> rcases at_.mp h2 with h2 | ⟨e2, _, q2⟩
    · exact ok.inj h1 h2
    · exact absurd (q2 ▸ lD) (ok.nL h1)
    · exact absurd (q1 ▸ lD) (ok.nL h2)
    · rw [e1, e2]
  · rw [eL] at z
    rcases at_.mp h with h | ⟨_, _, q⟩
    · exact ok.nL h ((hL a).mpr (.inl z))
    · exact hD (q ▸ z)
  · rw [eH]
    rcases at_.mp h with h | ⟨_, q1, q2⟩
    · obtain ⟨u, h1, h2⟩ := ok.cell h
      exact ⟨u, h1, rc u c' h2⟩
    · rw [q1, q2]
      exact ⟨o, e, rc o c hr⟩
end
end Dl

set_option Elab.async false
set_option linter.all false
set_option maxRecDepth 100000
set_option maxHeartbeats 4000000
namespace Dl
open PySem PySem.Spec PyProof.Rows L2 Pg
section
variable {K : PySem.W.Frag} {S : Wd}
theorem sixteen : 16000000 < sizeLine := by decide
/-- the walk of a comprehension, the list at D set aside -/
theorem comp_walk {g : TG} {tf : TF} {tt : TT} {c : BF} {te : TE} {e : EF} {own : List Nat} {J : It} {S1 : Wd} {ρ : Env} {σ : L2.St} {items : List Vd} {ws : List Vd} {st2 : Sto}
    (ht : ST K g tf) (hk : Kps g own) (hc : SB K tt c) (he : SE K te e) (ok1 : S1.Ok K) (en1 : REnv K S1 ρ σ) (sr : Src K J S1 items) (h : compD tf c e (wipeD ρ own) items S1.st = some (ws, st2)) (hz : ws.length ≤ 16000000)
    {D : Addr} (hD : S1.H D = none) {Qd : Hp → Prop}
    (hq : ∀ (S2 : Wd) (acc : List V), (∀ a, S2.L a ↔ S1.L a ∨ a = D) → S2.st = st2 → Ext S1 S2 → S2.Ok K → S2.H D = some (.lst acc) → RVs K S2 acc ws → Qd S2.H) :
    ∃ W : Nat → Nat → Hp → Prop, (∃ m, W 0 m (upd S1.H D (.lst []))) ∧ ∀ i m H, W i m H →
      (J.stop i H ∧ Qd H) ∨ (J.go i H ∧ ∃ Nx : Hp → Prop, (∀ H', Nx H' → ∃ m', m' < m ∧ W (i + 1) m' H') ∧ ∀ x H', J.yld i H x H' → g x (wipe σ own) H' fun σ2 H2 => wipe σ2 own = wipe σ own ∧ tt σ2 H2 fun b H3 =>
        if b = true then te σ2 H3 fun y H4 => ∃ acc, H4 D = some (.lst acc) ∧ acc.length < sizeLine ∧ Nx (upd H4 D (.lst (acc ++ [y]))) else Nx H3) := by
  obtain ⟨xa, oka⟩ := ok1.asd hD (.lst [])
  have en1' := en1.wipe own
  refine ⟨fun i m H => ∃ (S2 : Wd) (acc : List V) (done : List Vd) (more : List Vd), S2.H = H ∧ (∀ a, S2.L a ↔ S1.L a ∨ a = D) ∧ Ext S1 S2 ∧ S2.Ok K ∧ H D = some (.lst acc) ∧ RVs K S2 acc done ∧ done ++ more = ws ∧ i ≤ items.length ∧ m = items.length - i ∧
    compD tf c e (wipeD ρ own) (items.drop i) S2.st = some (more, st2), ⟨items.length, S1.asd D (.lst []), [], [], ws, rfl, fun a => Iff.rfl, xa, oka, upd_same, .nil, rfl, Nat.zero_le _, rfl, h⟩, ?_⟩
  rintro i m H ⟨S2, acc, done, more, rfl, hL, x2, ok2, hacc, racc, hdm, hi, hm, h2⟩
  by_cases hlt : i < items.length
  · obtain ⟨v, hv⟩ : ∃ v, items[i]? = some v := ⟨items[i], List.getElem?_eq_getElem hlt⟩
    have hd : items.drop i = v :: items.drop (i + 1) := by
      rw [List.drop_eq_getElem_cons hlt]
      rw [List.getElem?_eq_getElem hlt] at hv
      rw [Option.some.inj hv]
    rw [hd] at h2
    unfold compD at h2
    split at h2
    · rename_i ρ3 st3 e3
      refine .inr ⟨sr.go S2 x2 ok2 i hlt, fun H' => ∃ (S' : Wd) (acc : List V) (done : List Vd) (more : List Vd), S'.H = H' ∧ (∀ a, S'.L a ↔ S1.L a ∨ a = D) ∧ Ext S1 S' ∧ S'.Ok K ∧ H' D = some (.lst acc) ∧ RVs K S' acc done ∧ done ++ more = ws ∧
        compD tf c e (wipeD ρ own) (items.drop (i + 1)) S'.st = some (more, st2), fun H' hN => ?_, fun x H' hy => ?_⟩
      · obtain ⟨S', acc, done, more, e', hL', x', ok', ha', ra', hd', h'⟩ := hN
        exact ⟨items.length - (i + 1), by omega, S', acc, done, more, e', hL', x', ok', ha', ra', hd', hlt, rfl, h'⟩
      · obtain ⟨hs, hr⟩ := sr.yld S2 x2 ok2 i v hv x H' hy
        have gr := ok2.grow hs
        have x2' := x2.trans gr.1
        have ww : wipe (wipe σ own) own = wipe σ own := wipe_wipe σ own
        have kk : ∀ Q : L2.St → Hp → Prop, g x (wipe σ own) H' Q → g x (wipe σ own) H' fun σ2 H2 => wipe σ2 own = wipe σ own ∧ Q σ2 H2 := fun Q q => by
          have := hk x (wipe σ own) H' Q q
          rw [ww] at this
          exact this
        refine kk _ (ht { S2 with H := H' } (wipeD ρ own) (wipe σ own) x v ρ3 st3 gr.2 (en1'.up x2') hr e3 _ fun S3 σ3 l3 s3 x3 ok3 en3 => ?_)
        subst s3
        have x3' := x2'.trans x3
        split at h2
        · rename_i st4 e4
          split at h2
          · rename_i w st5 e5
            obtain ⟨⟨ws', s'⟩, h3, h4⟩ := Option.map_eq_some_iff.mp h2
            cases h4
            refine hc S3 ρ3 σ3 _ _ ok3 en3 e4 _ fun S4 l4 s4 x4 ok4 => ?_
            subst s4
            show te σ3 S4.H _
            refine he S4 ρ3 σ3 _ _ ok4 (en3.up x4) e5 _ fun S5 y l5 s5 x5 ok5 r5 => ?_
            subst s5
            have lD2 : S2.L D := (hL D).mpr (.inr rfl)
            have gD : S2.H D = ({ S2 with H := H' } : Wd).H D := by
              obtain ⟨_, q⟩ := gr.1.lL D lD2
              exact q.symm
            have l3D : S3.L D := by rw [l3]; exact lD2
            have l4D : S4.L D := by rw [l4]; exact l3D
            have e34 : S3.H D = S2.H D := by
              obtain ⟨_, q⟩ := x3.lL D lD2
              rw [q]
              exact gD.symm
            have e45 : S5.H D = some (.lst acc) := by
              obtain ⟨_, q1⟩ := x4.lL D l3D
              obtain ⟨_, q2⟩ := x5.lL D l4D
              rw [q2, q1, e34]
              exact hacc
            have l5D : S5.L D := by rw [l5]; exact l4D
            have up25 := (gr.1.trans x3).trans (x4.trans x5)
            have racc5 := RVs.up up25 racc
            have dl : done.length + (ws'.length + 1) ≤ 16000000 := by
              have := congrArg List.length hdm
              simp only [List.length_append, List.length_cons] at this
              omega
            refine ⟨acc, e45, ?_, ?_⟩
            · rw [RVs.len racc]
              have := sixteen
              omega
            · obtain ⟨w1, w2⟩ := ok5.wr l5D (.lst (acc ++ [y]))
              have rvw : ∀ x v, RV K S5 x v → RV K (S5.put D (.lst (acc ++ [y]))) x v := fun x v hh => by
                cases v with
                | d z => exact Dd.up (fun b u hb => by rw [← w1]; exact hb) z x hh
                | r n => exact hh
              refine ⟨S5.put D (.lst (acc ++ [y])), acc ++ [y], done ++ [w], ws', rfl, fun a => ?_, ?_, w2, upd_same, Paired.mapP (RVs.append_ racc5 (.cons r5 .nil)) fun _ _ => rvw _ _, by rw [List.append_assoc]; exact hdm, h3⟩
              · show S5.L a ↔ _
                rw [l5, l4, l3]
                exact hL a
              · have xx := x3'.trans (x4.trans x5)
                refine ⟨xx.pre, fun b u hb => by rw [← w1]; exact xx.keep b u hb, fun a ha => ⟨(xx.lL a ha).1, ?_⟩⟩
                have na : a ≠ D := fun z => by
                  obtain ⟨u, hu⟩ := ok1.hL a ha
                  rw [z, hD] at hu
                  cases hu
                show upd S5.H D _ a = S1.H a
                rw [upd_ne na]
                exact (xx.lL a ha).2
          · cases h2
        · rename_i st4 e4
          refine hc S3 ρ3 σ3 _ _ ok3 en3 e4 _ fun S4 l4 s4 x4 ok4 => ?_
          subst s4
          show ∃ _, _
          have lD2 : S2.L D := (hL D).mpr (.inr rfl)
          have l3D : S3.L D := by rw [l3]; exact lD2
          have e4D : S4.H D = some (.lst acc) := by
            obtain ⟨_, q0⟩ := gr.1.lL D lD2
            obtain ⟨_, q1⟩ := x3.lL D lD2
            obtain ⟨_, q2⟩ := x4.lL D l3D
            rw [q2, q1]
            exact (show _ = S2.H D from q0).trans hacc
          exact ⟨S4, acc, done, more, rfl, fun a => by rw [l4, l3]; exact hL a, x3'.trans x4, ok4, e4D, RVs.up ((gr.1.trans x3).trans x4) racc, hdm, h2⟩
        · cases h2
    · cases h2
  · have ei : i = items.length := by omega
    subst ei
    rw [List.drop_length] at h2
    cases h2
    rw [List.append_nil] at hdm
    subst hdm
    exact .inl ⟨sr.stop S2 x2 ok2, hq S2 acc hL rfl x2 ok2 hacc racc⟩
theorem se_comp {wi : TI} {src : IF} {g : TG} {tf : TF} {tt : TT} {c : BF} {te : TE} {e : EF} {own : List Nat} (hi : SI K wi src) (ht : ST K g tf) (hk : Kps g own) (hc : SB K tt c) (he : SE K te e) : SE K (tLc wi g tt te own) (eComp src tf c e own) := by
  intro S ρ σ v st' ok en h Q q
  unfold eComp at h
  split at h
  · rename_i items st1 e1
    split at h
    · rename_i ws st2 e2
      split at h
      · rename_i xs e3
        split at h
        · rename_i hz
          cases h
          refine hi S ρ σ items st1 ok en e1 _ fun S1 J l1 s1 x1 ok1 sr => ?_
          subst s1
          have hl : ws.length = xs.length := by
            have : ∀ {ws : List Vd} {xs : List PyData}, datas ws = some xs → ws.length = xs.length := by
              intro ws
              induction ws with
              | nil => intro xs e; cases e; rfl
              | cons w ws ih =>
                intro xs e
                cases w with
                | d z =>
                  unfold datas at e
                  obtain ⟨ys, h1, h2⟩ := Option.map_eq_some_iff.mp e
                  subst h2
                  simp [ih h1]
                | r n => cases e
            exact this e3
          intro D hD
          refine comp_walk ht hk hc he ok1 (en.up x1) sr e2 (by omega) hD fun S2 acc hL s2 x2 ok2 hacc racc => ?_
          have nD : ¬ S1.L D := fun z => by
            obtain ⟨u, hu⟩ := ok1.hL D z
            rw [hD] at hu
            cases hu
          obtain ⟨k1, k2, k3⟩ := ok2.rel hL nD
          have dd := datas_ok racc e3
          refine q { S2 with L := S1.L } (.ref D) l1 s2 (x1.trans ⟨x2.pre, x2.keep.trans k2, fun a ha => ⟨ha, (x2.lL a ha).2⟩⟩) k1 ?_
          exact .lst (SqL.of (k3 _ hacc)) (Dds.up k2 _ _ dd)
        · cases h
      · cases h
    · cases h
  · cases h
theorem se_compN {wi : TI} {src : IF} {g : TG} {tf : TF} {tt : TT} {c : BF} {te : TE} {e : EF} {own : List Nat} (hi : SI K wi src) (ht : ST K g tf) (hk : Kps g own) (hc : SB K tt c) (he : SE K te e) : SE K (tLc wi g tt te own) (eCompN src tf c e own) := by
  intro S ρ σ v st' ok en h Q q
  unfold eCompN at h
  split at h
  · rename_i items st1 e1
    split at h
    · rename_i ws st2 e2
      split at h
      · rename_i hz
        cases h
        refine hi S ρ σ items st1 ok en e1 _ fun S1 J l1 s1 x1 ok1 sr => ?_
        subst s1
        intro D hD
        refine comp_walk ht hk hc he ok1 (en.up x1) sr e2 hz hD fun S2 acc hL s2 x2 ok2 hacc racc => ?_
        have nD : ¬ S1.L D := fun z => by
          obtain ⟨u, hu⟩ := ok1.hL D z
          rw [hD] at hu
          cases hu
        obtain ⟨k1, k2⟩ := ok2.own (c := .lst ws) (o := .lst acc) hL nD hacc (fun z => nomatch z) ⟨acc, rfl, racc⟩
        refine q { m := S2.m ++ [D], L := S1.L, st := S2.st ++ [.lst ws], H := S2.H } (.ref D) l1 (by rw [s2]) (x1.trans ⟨fun n a hn => ?_, x2.keep.trans k2, fun a ha => ⟨ha, (x2.lL a ha).2⟩⟩) k1 ⟨D, ?_, rfl⟩
        · show (S2.m ++ [D])[n]? = some a
          have := x2.pre n a hn
          rw [List.getElem?_append_left (List.getElem?_eq_some_iff.mp this).1]
          exact this
        · show (S2.m ++ [D])[st2.length]? = some D
          rw [← s2, ← ok2.len]
          simp
      · cases h
    · cases h
  · cases h
/-! ### methods that change a list -/
/-- xs.append(v) -/
def eApp (a b : EF) : EF := fun ρ st => match a ρ st with
  | some (.r n, st1) => match st1[n]? with
    | some (.lst _) => match b ρ st1 with
      | some (v, st2) => match st2[n]? with
        | some (.lst xs) => if xs.length < 16000000 then some (.d .none, st2.set n (.lst (xs ++ [v]))) else none
        | _ => none
      | none => none
    | _ => none
  | _ => none
/-- xs.insert(i, v) -/
def eIns (a b c : EF) : EF := fun ρ st => match a ρ st with
  | some (.r n, st1) => match st1[n]? with
    | some (.lst _) => match b ρ st1 with
      | some (.d (.int i), st2) => match c ρ st2 with
        | some (v, st3) => match st3[n]? with
          | some (.lst xs) => if xs.length < 16000000 ∧ 0 ≤ i ∧ i < 2 ^ 63 then some (.d .none, st3.set n (.lst (xs.take i.toNat ++ [v] ++ xs.drop i.toNat))) else none
          | _ => none
        | none => none
      | _ => none
    | _ => none
  | _ => none
theorem RVs.take_ : ∀ {xs : List V} {vs : List Vd} (n : Nat), RVs K S xs vs → RVs K S (xs.take n) (vs.take n)
  | _, _, 0, _ => .nil
  | _, _, _ + 1, .nil => .nil
  | _, _, n + 1, .cons a r => .cons a (RVs.take_ n r)
theorem RVs.drop_ : ∀ {xs : List V} {vs : List Vd} (n : Nat), RVs K S xs vs → RVs K S (xs.drop n) (vs.drop n)
  | _, _, 0, r => r
  | _, _, _ + 1, .nil => .nil
  | _, _, n + 1, .cons _ r => RVs.drop_ n r
def rIns : V → List V → Hp → VK → Prop := fun x vs H Q => ∃ (l : Addr) (xs : List V) (i : Int) (y : V), x = .ref l ∧ vs = [.int i, y] ∧ H l = some (.lst xs) ∧ xs.length < sizeLine ∧ 0 ≤ i ∧ i < 2 ^ 63 ∧ Q .non (upd H l (.lst (xs.take i.toNat ++ [y] ++ xs.drop i.toNat)))
theorem ty_cell {n : Nat} {x : V} {S1 : Wd} {ys : List Vd} (ok1 : S1.Ok K) (r : RV K S1 x (.r n)) (e : S1.st[n]? = some (.lst ys)) : tyV K "list" x S1.H := by
  obtain ⟨a, o, h1, h2, vs, h3, h4⟩ := look_at ok1 e (fun z => nomatch z)
  subst h3
  rw [r.ref_at h1]
  exact .inl ⟨rfl, vs, SqL.of h2⟩
theorem se_app {ta tb : TE} {fa fb : EF} (ha : SE K ta fa) (hb : SE K tb fb) : SE K (tBM K "list" rAppend ta (tCons tb tNil)) (eApp fa fb) := by
  intro S ρ σ v st' ok en h Q q
  unfold eApp at h
  split at h
  · rename_i n st1 e1
    split at h
    · rename_i zs e0
      split at h
      · rename_i w st2 e2
        split at h
        · rename_i xs e3
          split at h
          · rename_i hz
            cases h
            refine ha S ρ σ _ _ ok en e1 _ fun S1 xa l1 s1 x1 ok1 r1 => ?_
            subst s1
            refine ⟨ty_cell ok1 r1 e0, hb S1 ρ σ _ _ ok1 (en.up x1) e2 _ fun S2 xb l2 s2 x2 ok2 r2 => ?_⟩
            subst s2
            obtain ⟨a, o, h1, h2, vs, h3, h4⟩ := look_at ok2 e3 (fun z => nomatch z)
            subst h3
            have ea := (r1.up x2).ref_at h1
            subst ea
            obtain ⟨g1, g2⟩ := ok2.chg (c := .lst (xs ++ [w])) (o := .lst (vs ++ [xb])) h1 (fun z => nomatch z) ⟨_, rfl, RVs.append_ h4 (.cons r2 .nil)⟩
            exact ⟨a, vs, xb, rfl, rfl, h2, by rw [RVs.len h4]; have := sixteen; omega, q (S2.chg n a _ _) _ (l2.trans l1) rfl ((x1.trans x2).trans g1) g2 Dd.non⟩
          · cases h
        · cases h
      · cases h
    · cases h
  · cases h
theorem se_ins {ta tb tc : TE} {fa fb fc : EF} (ha : SE K ta fa) (hb : SE K tb fb) (hc : SE K tc fc) : SE K (tBM K "list" rIns ta (tCons tb (tCons tc tNil))) (eIns fa fb fc) := by
  intro S ρ σ v st' ok en h Q q
  unfold eIns at h
  split at h
  · rename_i n st1 e1
    split at h
    · rename_i zs e0
      split at h
      · rename_i i st2 e2
        split at h
        · rename_i w st3 e4
          split at h
          · rename_i xs e3
            split at h
            · rename_i hz
              cases h
              refine ha S ρ σ _ _ ok en e1 _ fun S1 xa l1 s1 x1 ok1 r1 => ?_
              subst s1
              refine ⟨ty_cell ok1 r1 e0, hb S1 ρ σ _ _ ok1 (en.up x1) e2 _ fun S2 xb l2 s2 x2 ok2 r2 => ?_⟩
              subst s2
              have r2' : Dd K S2.fr xb (.int i) := r2
              cases r2'
              refine hc S2 ρ σ _ _ ok2 (en.up (x1.trans x2)) e4 _ fun S3 xc l3 s3 x3 ok3 r3 => ?_
              subst s3
              obtain ⟨a, o, h1, h2, vs, h3, h4⟩ := look_at ok3 e3 (fun z => nomatch z)
              subst h3
              have ea := (r1.up (x2.trans x3)).ref_at h1
              subst ea
              obtain ⟨g1, g2⟩ := ok3.chg (c := .lst (xs.take i.toNat ++ [w] ++ xs.drop i.toNat)) (o := .lst (vs.take i.toNat ++ [xc] ++ vs.drop i.toNat)) h1 (fun z => nomatch z) ⟨_, rfl, RVs.append_ (RVs.append_ (RVs.take_ _ h4) (.cons r3 .nil)) (RVs.drop_ _ h4)⟩
              exact ⟨a, vs, i, xc, rfl, rfl, h2, by rw [RVs.len h4]; have := sixteen; omega, hz.2.1, hz.2.2, q (S3.chg n a _ _) _ (l3.trans (l2.trans l1)) rfl ((x1.trans (x2.trans x3)).trans g1) g2 Dd.non⟩
            · cases h
          · cases h
        · cases h
      · cases h
    · cases h
  · cases h
end
end Dl

set_option Elab.async false
set_option linter.all false
set_option maxRecDepth 100000
set_option maxHeartbeats 4000000
namespace Dl
open PySem PySem.Spec PyProof.Rows L2 Pg
/-! ### the text and its meaning on data, together -/
structure QE (K : PySem.W.Frag) (X : Cx) (e : Expr) (te : TE) (f : EF) : Prop where
  pe : PE X e te
  se : SE K te f
structure QB (K : PySem.W.Frag) (X : Cx) (e : Expr) (tt : TT) (f : BF) : Prop where
  pt : PT X e tt
  sb : SB K tt f
structure QW (K : PySem.W.Frag) (X : Cx) (e : Expr) (tt : TT) (f : BF) : Prop where
  pw : PW X e tt
  sb : SB K tt f
structure QA (K : PySem.W.Frag) (X : Cx) (es : List Expr) (ta : TA) (f : AF) : Prop where
  pa : PA X es ta
  sa : SA K ta f
structure QT (K : PySem.W.Frag) (X : Cx) (es : List Expr) (tt : TT) (f : BF) : Prop where
  pt : PTs X es tt
  sb : SB K tt f
structure QG (K : PySem.W.Frag) (X : Cx) (tg : Expr) (g : TG) (t : TF) : Prop where
  pg : PG X tg g
  st : ST K g t
structure QGs (K : PySem.W.Frag) (X : Cx) (tg : List Expr) (g : TGs) (t : TFs) : Prop where
  pg : PGs X tg g
  st : STs K g t
structure QI (K : PySem.W.Frag) (X : Cx) (tg it : Expr) (wi : TI) (f : IF) : Prop where
  pi : PI X tg it wi
  si : SI K wi f
structure QO (K : PySem.W.Frag) (X : Cx) (e : Option Expr) (to : TO) (f : OF) : Prop where
  po : PO X e to
  so : SOp K to f
structure QS (K : PySem.W.Frag) (X : Cx) (st : Stmt) (ts : TS) (f : SF) : Prop where
  ps : PS X st ts
  ss : SS K ts f
structure QSs (K : PySem.W.Frag) (X : Cx) (st : List Stmt) (ts : TS) (f : SF) : Prop where
  ps : PSs X st ts
  ss : SS K ts f
section
variable {K : PySem.W.Frag} {X : Cx} {a b c e : Expr} {es rest : List Expr} {ta tb te tc : TE} {fa fb fc f : EF} {pos : Pos} {t : TA} {r : AF} {x : Str} {p : Pos}
theorem q_var (i : Nat) (h : PE X e (tVar i)) : QE K X e (tVar i) (eVar i) := ⟨h, se_var⟩
theorem q_int {i j} : QE K X (.Constant (.int i) j pos) (tC (.int i)) (eC (.int i)) := ⟨pe_int, se_c fun _ => .int i⟩
theorem q_bl {i j} : QE K X (.Constant (.bool i) j pos) (tC (.bl i)) (eC (.bool i)) := ⟨pe_bl, se_c fun _ => .bl i⟩
theorem q_non {j} : QE K X (.Constant .none j pos) (tC .non) (eC .none) := ⟨pe_non, se_c fun _ => .non⟩
theorem q_str {s : Str} {j} : QE K X (.Constant (.str s) j pos) (tC (.str s)) (eC (.str s)) := ⟨pe_str, se_c fun _ => .str s⟩
theorem q_fz (h : QE K X e te f) : QE K X e te (eFz f) := ⟨h.pe, se_fz h.se⟩
theorem q_op {op : Operator} {r : R2} {g : PyData → PyData → Option PyData} (hs : SO K r g) (ho : OpR X (binaryOp op) r) (ha : QE K X a ta fa) (hb : QE K X b tb fb) : QE K X (.BinOp a op b pos) (tOp r ta tb) (eOp g fa fb) :=
  ⟨pe_op ho ha.pe hb.pe, se_op hs ha.se hb.se⟩
theorem q_cmp {op : CmpOp} {r : R2} {g : PyData → PyData → Option PyData} (hs : SO K r g) (ho : OpR X (compareOp op) r) (ha : QE K X a ta fa) (hb : QE K X b tb fb) (hm : behindInMarks op b = false) : QE K X (.Compare a [op] [b] pos) (tOp r ta tb) (eOp g fa fb) :=
  ⟨pe_cmpR ho ha.pe hb.pe hm, se_op hs ha.se hb.se⟩
theorem qb_cmp {op : CmpOp} {r : R2} {g : PyData → PyData → Option PyData} (hs : SO K r g) (ho : OpR X (compareOp op) r) (ha : QE K X a ta fa) (hb : QE K X b tb fb) (hm : behindInMarks op b = false) : QB K X (.Compare a [op] [b] pos) (tTest (tOp r ta tb)) (bVal (eOp g fa fb)) :=
  ⟨pt_cmpR ho ha.pe hb.pe hm, sb_test (se_op hs ha.se hb.se)⟩
theorem qb_tru (hK : X.K = K) (ha : QE K X a ta fa) (he : ∀ whole, isTrue a X.env whole = (do let v ← whole; standAt a.pos; holding [v] (truthy v))) : QB K X a (fun σ H Q => ta σ H fun x H' => ∃ k, TruV K x H' k ∧ Q k H') (bTru fa) := by
  subst hK
  exact ⟨pt_truth ha.pe he, sb_tru ha.se⟩
theorem qb_not {tA : TT} {ba : BF} (ha : QB K X a tA ba) : QB K X (.UnaryOp .Not a pos) (tNot tA) (bNot ba) := ⟨pt_not ha.pt, sb_not ha.sb⟩
theorem qw_and1 {tA : TT} {ba : BF} (ha : QB K X a tA ba) : QW K X (.BoolOp .And [a] pos) tA ba := ⟨pw_and1 ha.pt, ha.sb⟩
theorem qw_or1 {tA : TT} {ba : BF} (ha : QB K X a tA ba) : QW K X (.BoolOp .Or [a] pos) tA ba := ⟨pw_or1 ha.pt, ha.sb⟩
theorem qw_and {tA tB' : TT} {ba bb : BF} (ha : QB K X a tA ba) (hb : QW K X (.BoolOp .And (b :: rest) pos) tB' bb) : QW K X (.BoolOp .And (a :: b :: rest) pos) (tAnd tA tB') (bAnd ba bb) := ⟨pw_and ha.pt hb.pw, sb_and ha.sb hb.sb⟩
theorem qw_or {tA tB' : TT} {ba bb : BF} (ha : QB K X a tA ba) (hb : QW K X (.BoolOp .Or (b :: rest) pos) tB' bb) : QW K X (.BoolOp .Or (a :: b :: rest) pos) (tOr tA tB') (bOr ba bb) := ⟨pw_or ha.pt hb.pw, sb_or ha.sb hb.sb⟩
theorem qb_w {tA : TT} {ba : BF} (ha : QW K X a tA ba) : QB K X a tA ba := ⟨ha.pw.pt, ha.sb⟩
theorem q_and (hK : X.K = K) (ha : QE K X a ta fa) (hb : QE K X (.BoolOp .And (b :: rest) pos) tb fb) : QE K X (.BoolOp .And (a :: b :: rest) pos) (tAndT K ta tb) (eAnd fa fb) := by
  subst hK
  exact ⟨pe_andT ha.pe hb.pe, se_and ha.se hb.se⟩
theorem q_or (hK : X.K = K) (ha : QE K X a ta fa) (hb : QE K X (.BoolOp .Or (b :: rest) pos) tb fb) : QE K X (.BoolOp .Or (a :: b :: rest) pos) (tOrT K ta tb) (eOr fa fb) := by
  subst hK
  exact ⟨pe_orT ha.pe hb.pe, se_or ha.se hb.se⟩
theorem q_one {op} (ha : QE K X a ta fa) : QE K X (.BoolOp op [a] pos) ta fa := ⟨pe_one ha.pe, ha.se⟩
theorem q_not (hK : X.K = K) (ha : QE K X a ta fa) : QE K X (.UnaryOp .Not a pos) (tNotT K ta) (eNot fa) := by
  subst hK
  exact ⟨pe_notT ha.pe, se_not ha.se⟩
theorem q_if {tt : TT} {bc : BF} (hc : QB K X c tt bc) (ha : QE K X a ta fa) (hb : QE K X b tb fb) : QE K X (.IfExp c a b pos) (tIf tt ta tb) (eIf bc fa fb) := ⟨pe_ifExp hc.pt ha.pe hb.pe, se_if hc.sb ha.se hb.se⟩
theorem qa_nil : QA K X [] tNil aNil := ⟨pa_nil, sa_nil⟩
theorem qa_cons (ha : QE K X e te f) (hr : QA K X es t r) (hs : starEach (e :: es) X.env = (false, eval e X.env) :: starEach es X.env) : QA K X (e :: es) (tCons te t) (aCons f r) := ⟨pa_cons ha.pe hr.pa hs, sa_cons ha.se hr.sa⟩
theorem q_tup {x1} (h : QA K X es t r) : QE K X (.Tuple es x1 pos) (tTup t) (eTup r) := ⟨pe_tup h.pa, se_tup h.sa⟩
theorem q_lst (h : QA K X es t r) : QE K X (.List es pos) (tLst t) (eLst r) := ⟨pe_lst h.pa, se_lst h.sa⟩
theorem q_lstN (h : QA K X es t r) : QE K X (.List es pos) (tLst t) (eLstN r) := ⟨pe_lst h.pa, se_lstN h.sa⟩
theorem q_ix (hK : X.K = K) (ha : QE K X a ta fa) (hb : QE K X b tb fb) (hs : PlainIx b) : QE K X (.Subscript a b pos) (tOp (rIx K) ta tb) (eOp gIx fa fb) := by
  subst hK
  exact ⟨pe_ix ix_seq ha.pe hb.pe hs, se_op so_ix ha.se hb.se⟩
theorem q_ixC (hK : X.K = K) (ha : QE K X a ta fa) (hb : QE K X b tb fb) (hs : PlainIx b) : QE K X (.Subscript a b pos) (tOp (rIx K) ta tb) (eIxC fa fb) := by
  subst hK
  exact ⟨pe_ix ix_seq ha.pe hb.pe hs, se_ixC ha.se hb.se⟩
theorem qo_none : QO K X none tNoPart oNo := ⟨po_none, sop_no⟩
theorem qo_some (h : QE K X e te f) : QO K X (some e) (tPart te) (oSome f) := ⟨po_some h.pe, sop_some h.se⟩
theorem q_sl {lo hi : Option Expr} {tl th : TO} {fl fh : OF} {p2 : Pos} (hK : X.K = K) (he : QE K X e te f) (hl : QO K X lo tl fl) (hu : QO K X hi th fh) : QE K X (.Subscript e (.Slice lo hi none p2) pos) (tSl (rSlD K) te tl th) (eSl f fl fh) := by
  subst hK
  exact ⟨pe_slice sl_D he.pe hl.po hu.po, se_sl he.se hl.so hu.so⟩
theorem q_cb {id : String} {rr : List V → Hp → VK → Prop} {g : List PyData → Option PyData} (hs : SC K rr g) (hc : CallR X (.builtin id) rr) (hm : X.mg x = none) (hv : bootBuiltins x = some (.builtin id)) (ha : QA K X (e :: es) t r) (hg : Gl X x)
    (hn : x ≠ "__name__") (hdb : (x == ("__debug__" : Str)) = false) (he : starEach (e :: es) X.env = (false, eval e X.env) :: starEach es X.env) (hpl : (backTo pos (starEach es X.env)).any (·.1) = false) :
    QE K X (.Call (.Name x p) (e :: es) [] pos) (tCB rr t) (eCB g r) := ⟨pe_callB hc hg hm hv ha.pa hn hdb he hpl, se_cb hs ha.sa⟩
theorem q_ty {T : String} {rr : List V → Hp → VK → Prop} {g : List PyData → Option PyData} (hs : SC K rr g) (hc : CallR X (.type T) rr) (hm : X.mg x = none) (hv : bootBuiltins x = some (.type T)) (ha : QA K X (e :: es) t r) (hg : Gl X x)
    (hn : x ≠ "__name__") (hdb : (x == ("__debug__" : Str)) = false) (he : starEach (e :: es) X.env = (false, eval e X.env) :: starEach es X.env) (hpl : (backTo pos (starEach es X.env)).any (·.1) = false) :
    QE K X (.Call (.Name x p) (e :: es) [] pos) (tCB rr t) (eCB g r) := ⟨pe_callTy hc hg hm hv ha.pa hn hdb he hpl, se_cb hs ha.sa⟩
theorem q_is {k : Kq} {xi : Str} {p2 : Pos} (hK : X.K = K) (hmi : X.mg "isinstance" = none) (hmt : X.mg xi = none) (hv : bootBuiltins xi = some (.type k.nm)) (ha : QE K X e te f) (hg : Gl X "isinstance") (hgt : Gl X xi)
    (hn : xi ≠ "__name__") (hd : (xi == ("__debug__" : Str)) = false)
    (h1 : starEach [e, .Name xi p2] X.env = (false, eval e X.env) :: starEach [.Name xi p2] X.env) (h2 : starEach [.Name xi p2] X.env = (false, eval (.Name xi p2) X.env) :: starEach [] X.env) (hpl : (backTo pos (starEach [.Name xi p2] X.env)).any (·.1) = false)
    (hb : bootBuiltins "isinstance" = some (.builtin "isinstance")) :
    QE K X (.Call (.Name "isinstance" p) [e, .Name xi p2] [] pos) (tCB (rIsD K k) (tCons te (tCons (tC (.ty k.nm)) tNil))) (eIs k f) := by
  subst hK
  exact ⟨pe_callB call_isD hg hmi hb (pa_cons ha.pe (pa_cons (pe_bltn hgt hmt hv rfl hn hd) pa_nil h2) h1) (by decide) (by decide) h1 hpl, se_is ha.se⟩
/-! defs that are called -/
structure Df (K : PySem.W.Frag) (mg : Str → Option Value) (x : Str) (ps : List Str) (st : Stmt) (f : Addr) (fd : FuncData) : Prop where
  fn : Fun K x x st f fd
  bd : Binds K fd ps []
  at_ : mg x = some (.ref f)
def Cal (P : Program) (w : World) (K : PySem.W.Frag) (mg : Str → Option Value) (base : Heap) (k : Nat) (x : Str) (ps : List Str) (F : FF) : Prop :=
  ∃ f fd, FnG P w K mg base k f fd ps (spD K ps.length F) ∧ Binds K fd ps [] ∧ mg x = some (.ref f) ∧ PySem.W.keepIn K (.ref f) = true
theorem q_call {k : Nat} {ps : List Str} {F : FF} (C : Cal X.prog X.w K X.mg X.base k x ps F) (hK : X.K = K) (hg : X.A.guards = some []) (hr : Room k X.A) (ha : QA K X (e :: es) t r) (gl : Gl X x) (hdb : (x == ("__debug__" : Str)) = false)
    (he : starEach (e :: es) X.env = (false, eval e X.env) :: starEach es X.env) (hpl : (backTo pos (starEach es X.env)).any (·.1) = false) :
    QE K X (.Call (.Name x p) (e :: es) [] pos) (tCall (spD K ps.length F) [] E0 t) (eCall ps.length F r) := by
  subst hK
  obtain ⟨f, fd, h1, h2, h3, h4⟩ := C
  exact ⟨callG h1 hg hr gl h3 h4 h2 ha.pa hdb he hpl, se_call ha.sa⟩
/-! methods of cells -/
theorem q_app {o : Expr} {to : TE} {fo : EF} {apos cpos : Pos} (hK : X.K = K) (ho : QE K X o to fo) (hb : QE K X b tb fb)
    (hbase : attributeBase o "append" X.env (eval o X.env) = eval o X.env)
    (hfew : ((backTo cpos (starEach [b] X.env)).all (fun x => !x.1) && (backToKw cpos (keywordEach [] X.env)).all (fun x => x.1.isSome)
      && decide ([b].length + ([] : List Keyword).length + (if ([] : List Keyword).isEmpty then 0 else 1) < 30)) = true)
    (hline : (apos.endLine == cpos.line) = true) (hs : starEach [b] X.env = (false, eval b X.env) :: starEach [] X.env) (hplain : (backTo cpos (starEach [] X.env)).any (·.1) = false) :
    QE K X (.Call (.Attribute o "append" apos) [b] [] cpos) (tBM K "list" rAppend to (tCons tb tNil)) (eApp fo fb) := by
  subst hK
  exact ⟨pe_bm PySem.F.plainAttrs_list PySem.F.slot_list_append PySem.F.type_list_append mt_append ho.pe (pa_cons hb.pe pa_nil hs) hbase hfew hline hs hplain, se_app ho.se hb.se⟩
theorem q_ins {o : Expr} {to : TE} {fo : EF} {apos cpos : Pos} (hK : X.K = K) (ho : QE K X o to fo) (hb : QE K X b tb fb) (hc : QE K X c tc fc)
    (hbase : attributeBase o "insert" X.env (eval o X.env) = eval o X.env)
    (hfew : ((backTo cpos (starEach [b, c] X.env)).all (fun x => !x.1) && (backToKw cpos (keywordEach [] X.env)).all (fun x => x.1.isSome)
      && decide ([b, c].length + ([] : List Keyword).length + (if ([] : List Keyword).isEmpty then 0 else 1) < 30)) = true)
    (hline : (apos.endLine == cpos.line) = true) (hs : starEach [b, c] X.env = (false, eval b X.env) :: starEach [c] X.env) (hs2 : starEach [c] X.env = (false, eval c X.env) :: starEach [] X.env) (hplain : (backTo cpos (starEach [c] X.env)).any (·.1) = false) :
    QE K X (.Call (.Attribute o "insert" apos) [b, c] [] cpos) (tBM K "list" rIns to (tCons tb (tCons tc tNil))) (eIns fo fb fc) := by
  subst hK
  exact ⟨pe_bm PySem.F.plainAttrs_list PySem.F.slot_list_insert PySem.F.type_list_insert mt_insert ho.pe (pa_cons hb.pe (pa_cons hc.pe pa_nil hs2) hs) hbase hfew hline hs hplain, se_ins ho.se hb.se hc.se⟩
/-! comprehensions -/
theorem qt_nil : QT K X [] tYes bYes := ⟨pts_nil, fun S ρ σ b st' ok en h Q q => by
  cases h
  exact q S rfl rfl (Ext.refl S) ok⟩
theorem qt_one {tt : TT} {f : BF} (h : QB K X c tt f) : QT K X [c] tt f := ⟨pts_one h.pt, h.sb⟩
theorem q_comp {elt tg iter : Expr} {ifs : List Expr} {scope : Scope} {own : List (Str × Nat)} {wi : TI} {src : IF} {g : TG} {tf : TF} {tt : TT} {bc : BF} (hc : X.calm = true) (hN : X.N.Nodup) (hi : QI K X tg iter wi src) (ok : BlkOk X.N X.env.scope scope own)
    (hk : Kps g (own.map (·.2))) (hg : ∀ (s : Shared) (H : Hp) (C : Addr) (cl : List (Str × Addr)) (fp : List Addr), QG K (X.blk s H scope (compEnvC scope cl C X.env) fp) tg g tf)
    (ht : ∀ (s : Shared) (H : Hp) (C : Addr) (cl : List (Str × Addr)) (fp : List Addr), QT K (X.blk s H scope (compEnvC scope cl C X.env) fp) ifs tt bc)
    (he : ∀ (s : Shared) (H : Hp) (C : Addr) (cl : List (Str × Addr)) (fp : List Addr), QE K (X.blk s H scope (compEnvC scope cl C X.env) fp) elt te f) (hs : ∀ x, foldedSetIterable iter X.env x = pure x) :
    QE K X (.ListComp elt [⟨tg, iter, ifs, 0⟩] scope pos) (tLc wi g tt te (own.map (·.2))) (eComp src tf bc f (own.map (·.2))) := by
  have d1 : ST K g tf := (hg {} (fun _ => none) 0 [] []).st
  have d2 : SB K tt bc := (ht {} (fun _ => none) 0 [] []).sb
  have d3 : SE K te f := (he {} (fun _ => none) 0 [] []).se
  exact ⟨pe_lc hc hN hi.pi ok (fun s H C cl fp => (hg s H C cl fp).pg) (fun s H C cl fp => (ht s H C cl fp).pt) (fun s H C cl fp => (he s H C cl fp).pe) hs, se_comp hi.si d1 hk d2 d3⟩
theorem q_compN {elt tg iter : Expr} {ifs : List Expr} {scope : Scope} {own : List (Str × Nat)} {wi : TI} {src : IF} {g : TG} {tf : TF} {tt : TT} {bc : BF} (hc : X.calm = true) (hN : X.N.Nodup) (hi : QI K X tg iter wi src) (ok : BlkOk X.N X.env.scope scope own)
    (hk : Kps g (own.map (·.2))) (hg : ∀ (s : Shared) (H : Hp) (C : Addr) (cl : List (Str × Addr)) (fp : List Addr), QG K (X.blk s H scope (compEnvC scope cl C X.env) fp) tg g tf)
    (ht : ∀ (s : Shared) (H : Hp) (C : Addr) (cl : List (Str × Addr)) (fp : List Addr), QT K (X.blk s H scope (compEnvC scope cl C X.env) fp) ifs tt bc)
    (he : ∀ (s : Shared) (H : Hp) (C : Addr) (cl : List (Str × Addr)) (fp : List Addr), QE K (X.blk s H scope (compEnvC scope cl C X.env) fp) elt te f) (hs : ∀ x, foldedSetIterable iter X.env x = pure x) :
    QE K X (.ListComp elt [⟨tg, iter, ifs, 0⟩] scope pos) (tLc wi g tt te (own.map (·.2))) (eCompN src tf bc f (own.map (·.2))) := by
  have d1 : ST K g tf := (hg {} (fun _ => none) 0 [] []).st
  have d2 : SB K tt bc := (ht {} (fun _ => none) 0 [] []).sb
  have d3 : SE K te f := (he {} (fun _ => none) 0 [] []).se
  exact ⟨pe_lc hc hN hi.pi ok (fun s H C cl fp => (hg s H C cl fp).pg) (fun s H C cl fp => (ht s H C cl fp).pt) (fun s H C cl fp => (he s H C cl fp).pe) hs, se_compN hi.si d1 hk d2 d3⟩
/-! targets, sources -/
theorem qg_nm {i : Nat} (h : PG X (.Name x p) (gName i)) : QG K X (.Name x p) (gName i) (tNm i) := ⟨h, st_nm⟩
theorem qgs_nil : QGs K X [] gNil tsNil := ⟨pgs_nil, sts_nil⟩
theorem qgs_cons {g : TG} {tf : TF} {u : TGs} {uf : TFs} (h1 : QG K X e g tf) (h2 : QGs K X es u uf) (hs : (assignEach (e :: es) X.env).map (·.2) = assign e X.env :: (assignEach es X.env).map (·.2)) : QGs K X (e :: es) (gCons g u) (tsCons tf uf) :=
  ⟨pgs_cons h1.pg h2.pg hs, sts_cons h1.st h2.st⟩
theorem qg_tp {k n : Nat} {u : TGs} {uf : TFs} (hK : X.K = K) (hc : X.calm = true) (h : QGs K X es u uf) (hn : (assignEach es X.env).length = n) (hst : (assignEach es X.env).findIdx? (·.1) = none) : QG K X (.Tuple es k pos) (gTup K n u) (tTp n uf) := by
  subst hK
  exact ⟨pg_tup hc h.pg hn hst, st_tp h.st⟩
theorem qg_put (ha : QE K X a ta fa) (hb : QE K X b tb fb) (hs : ∀ v, assign (.Subscript a b pos) X.env v = (do
      let ov ← holding [v] (eval a X.env)
      let iv ← holding [v, ov] (eval b X.env)
      standAt pos
      holding [v, ov, iv] (setItem ov iv v)
      release [v, ov, iv] [])) : QG K X (.Subscript a b pos) (L2.gSub ta tb rSetL) (tPut fa fb) := ⟨pg_sub ha.pe hb.pe set_list hs, st_put ha.se hb.se⟩
theorem qi_data {tg : Expr} (hK : X.K = K) (h : QE K X e te f) : QI K X tg e (iSeq K te) (iData f) := by
  subst hK
  exact ⟨pi_seq h.pe, si_data h.se⟩
theorem qi_range1 {tg : Expr} (hm : X.mg "range" = none) (ha : QA K X [a] t r) (hg : Gl X "range") (hs : starEach [a] X.env = [(false, eval a X.env)]) : QI K X tg (.Call (.Name "range" p) [a] [] pos) (iRng1 t) (iRange1 r) := ⟨pi_range1 hg hm ha.pa hs, si_range1 ha.sa⟩
theorem qi_range2 {tg : Expr} (hm : X.mg "range" = none) (ha : QA K X [a, b] t r) (hg : Gl X "range") (hs : starEach [a, b] X.env = [(false, eval a X.env), (false, eval b X.env)]) (hs2 : starEach [b] X.env = [(false, eval b X.env)]) :
    QI K X tg (.Call (.Name "range" p) [a, b] [] pos) (iRng2 t) (iRange2 r) := ⟨pi_range2 hg hm ha.pa hs hs2, si_range2 ha.sa⟩
theorem qi_enum {elts : List Expr} {kk : Nat} {tpos : Pos} (hK : X.K = K) (hm : X.mg "enumerate" = none) (ha : QA K X [e] t r) (hg : Gl X "enumerate") (hs : starEach [e] X.env = [(false, eval e X.env)]) : QI K X (.Tuple elts kk tpos) (.Call (.Name "enumerate" p) [e] [] pos) (iEnum K t) (iEnumL r) := by
  subst hK
  exact ⟨pi_enum hg hm ha.pa hs, si_enum ha.sa⟩
theorem qi_zip {elts : List Expr} {kk : Nat} {tpos : Pos} (hK : X.K = K) (hm : X.mg "zip" = none) (ha : QA K X [a, b] t r) (hg : Gl X "zip") (hs : starEach [a, b] X.env = (false, eval a X.env) :: starEach [b] X.env) (hpl : (backTo pos (starEach [b] X.env)).any (·.1) = false) :
    QI K X (.Tuple elts kk tpos) (.Call (.Name "zip" p) [a, b] [] pos) (RZ.iZipA K t) (iZipF r) := by
  subst hK
  exact ⟨RZ.pi_zipA hg hm ha.pa hs hpl, si_zip ha.sa⟩
end
/-! ### statements -/
section
variable {K : PySem.W.Frag} {X : Cx} {st : Stmt} {rest : List Stmt} {ts us : TS} {sf sg : SF} {e : Expr} {te : TE} {f : EF} {pos : Pos}
theorem qs_nil : QSs K X [] tNext sNext := ⟨pss_nil, ss_next⟩
theorem qs_cons (h1 : QS K X st ts sf) (h2 : QSs K X rest us sg) : QSs K X (st :: rest) (tSeq ts us) (sSeq sf sg) := ⟨pss_cons h1.ps h2.ps, ss_seq h1.ss h2.ss⟩
theorem qs_one (h1 : QS K X st ts sf) : QSs K X [st] ts sf := ⟨pss_one h1.ps, h1.ss⟩
theorem qs_ret (h : QE K X e te f) : QS K X (.Return (some e) pos) (tRet te) (sRet f) := ⟨ps_ret h.pe, ss_ret h.se⟩
theorem qs_if {c : Expr} {a b : List Stmt} {tc : TT} {bc : BF} (hc : QB K X c tc bc) (ha : QSs K X a ts sf) (hb : QSs K X b us sg) : QS K X (.If c a b pos) (tIfS tc ts us) (sIf bc sf sg) := ⟨ps_if hc.pt ha.ps hb.ps, ss_if hc.sb ha.ss hb.ss⟩
theorem qs_expr (h : QE K X e te f) (hs : swapsWith e none pos.line X.env = pure false) : QS K X (.Expr e pos) (tDrop te) (sDrop f) := ⟨ps_expr h.pe hs, ss_drop h.se⟩
theorem qs_doc {x j pos'} : QS K X (.Expr (.Constant (.str x) j pos) pos') tNext sNext := ⟨ps_doc, ss_next⟩
theorem qs_pass : QS K X (.Pass pos) tNext sNext := ⟨ps_pass, ss_next⟩
theorem qs_brk : QS K X (.Break pos) tBreak sBrk := ⟨ps_break, ss_brk⟩
theorem qs_cnt : QS K X (.Continue pos) tCont sCnt := ⟨ps_continue, ss_cnt⟩
theorem qs_no : QS K X st tNever sNo := ⟨ps_never, ss_no⟩
theorem qs_asg {tg : Expr} {g : TG} {tf : TF} (he : QE K X e te f) (hg : QG K X tg g tf) (hs : swapsWithSole [tg] e pos.line X.env = pure false) (hw : swappedStores [tg] e X.env = pure none)
    (h1 : (assignEach [tg] X.env).map (·.2) = [assign tg X.env]) : QS K X (.Assign [tg] e pos) (tAsg te g) (sAsg f tf) := ⟨ps_asg he.pe hg.pg hs hw h1, ss_asg he.se hg.st⟩
theorem qs_set {i : Nat} {x : Str} {pos' : Pos} (he : QE K X e te f) (hN : X.N.Nodup) (hi : X.N[i]? = some x) (hx : Loc X.env.scope x) (hs : swapsWith e (some (.Name x pos')) pos.line X.env = pure false)
    (hf : X.fn x = true ∨ X.env.scope.names.lookup x = some .local) : QS K X (.Assign [.Name x pos'] e pos) (tAsg te (gName i)) (sAsg f (tNm i)) := ⟨ps_set hN hi hx he.pe hs hf, ss_asg he.se st_nm⟩
/-- name = [..] on one line: what is told of the comprehension as a value holds of it here -/
theorem qs_setLc {i : Nat} {y : Str} {py : Pos} {elt tg iter : Expr} {ifs : List Expr} {scope : Scope} {own : List (Str × Nat)} {cpos spos : Pos} {wi : TI} {src : IF} {g : TG} {tf : TF} {tt : TT} {bc : BF} (hc : X.calm = true) (hN : X.N.Nodup) (hy : X.N[i]? = some y) (hyl : X.env.scope.names.lookup y = some .local)
    (hsw : swapsWith (.ListComp elt [⟨tg, iter, ifs, 0⟩] scope cpos) (some (.Name y py)) spos.line X.env = pure true) (hi : QI K X tg iter wi src) (ok : BlkOk X.N X.env.scope scope own)
    (hk : Kps g (own.map (·.2))) (hg : ∀ (s : Shared) (H : Hp) (C : Addr) (cl : List (Str × Addr)) (fp : List Addr), QG K (X.blk s H scope (compEnvC scope cl C X.env) fp) tg g tf)
    (ht : ∀ (s : Shared) (H : Hp) (C : Addr) (cl : List (Str × Addr)) (fp : List Addr), QT K (X.blk s H scope (compEnvC scope cl C X.env) fp) ifs tt bc)
    (he : ∀ (s : Shared) (H : Hp) (C : Addr) (cl : List (Str × Addr)) (fp : List Addr), QE K (X.blk s H scope (compEnvC scope cl C X.env) fp) elt te f) (hs : ∀ x, foldedSetIterable iter X.env x = pure x) :
    QS K X (.Assign [.Name y py] (.ListComp elt [⟨tg, iter, ifs, 0⟩] scope cpos) spos) (tAsg (tLc wi g tt te (own.map (·.2))) (gName i)) (sAsg (eComp src tf bc f (own.map (·.2))) (tNm i)) := by
  have d1 : ST K g tf := (hg {} (fun _ => none) 0 [] []).st
  have d2 : SB K tt bc := (ht {} (fun _ => none) 0 [] []).sb
  have d3 : SE K te f := (he {} (fun _ => none) 0 [] []).se
  exact ⟨ps_setLc hc hN hy hyl hsw hi.pi ok (fun s H C cl fp => (hg s H C cl fp).pg) (fun s H C cl fp => (ht s H C cl fp).pt) (fun s H C cl fp => (he s H C cl fp).pe) hs, ss_asg (se_comp hi.si d1 hk d2 d3) st_nm⟩
theorem qs_setLcN {i : Nat} {y : Str} {py : Pos} {elt tg iter : Expr} {ifs : List Expr} {scope : Scope} {own : List (Str × Nat)} {cpos spos : Pos} {wi : TI} {src : IF} {g : TG} {tf : TF} {tt : TT} {bc : BF} (hc : X.calm = true) (hN : X.N.Nodup) (hy : X.N[i]? = some y) (hyl : X.env.scope.names.lookup y = some .local)
    (hsw : swapsWith (.ListComp elt [⟨tg, iter, ifs, 0⟩] scope cpos) (some (.Name y py)) spos.line X.env = pure true) (hi : QI K X tg iter wi src) (ok : BlkOk X.N X.env.scope scope own)
    (hk : Kps g (own.map (·.2))) (hg : ∀ (s : Shared) (H : Hp) (C : Addr) (cl : List (Str × Addr)) (fp : List Addr), QG K (X.blk s H scope (compEnvC scope cl C X.env) fp) tg g tf)
    (ht : ∀ (s : Shared) (H : Hp) (C : Addr) (cl : List (Str × Addr)) (fp : List Addr), QT K (X.blk s H scope (compEnvC scope cl C X.env) fp) ifs tt bc)
    (he : ∀ (s : Shared) (H : Hp) (C : Addr) (cl : List (Str × Addr)) (fp : List Addr), QE K (X.blk s H scope (compEnvC scope cl C X.env) fp) elt te f) (hs : ∀ x, foldedSetIterable iter X.env x = pure x) :
    QS K X (.Assign [.Name y py] (.ListComp elt [⟨tg, iter, ifs, 0⟩] scope cpos) spos) (tAsg (tLc wi g tt te (own.map (·.2))) (gName i)) (sAsg (eCompN src tf bc f (own.map (·.2))) (tNm i)) := by
  have d1 : ST K g tf := (hg {} (fun _ => none) 0 [] []).st
  have d2 : SB K tt bc := (ht {} (fun _ => none) 0 [] []).sb
  have d3 : SE K te f := (he {} (fun _ => none) 0 [] []).se
  exact ⟨ps_setLc hc hN hy hyl hsw hi.pi ok (fun s H C cl fp => (hg s H C cl fp).pg) (fun s H C cl fp => (ht s H C cl fp).pt) (fun s H C cl fp => (he s H C cl fp).pe) hs, ss_asg (se_compN hi.si d1 hk d2 d3) st_nm⟩
theorem get_ixL : PGet X (rIxL X.K) := by
  intro pins s σ H o i ov iv Q I ro ri h
  obtain ⟨p, xs, j, v, rfl, rfl, hp, hv, q⟩ := h
  cases ro
  obtain ⟨t, rfl⟩ := ri
  obtain ⟨its, r, pl, hz⟩ := I.list hp
  obtain ⟨k, h1, h2, h3, h4, h5⟩ := atI_get hv
  obtain ⟨u, eu, ru⟩ := r.get h2
  have hl := r.length
  have hn := line63
  have fin : EP X pins σ Q u s := ⟨v, H, I, ru, q⟩
  by_cases h0 : 0 ≤ j
  · have hj : j.toNat = k := by
      rw [seqIndex_of h0 h5] at h1
      exact Option.some.inj h1
    obtain ⟨n, rfl⟩ : ∃ n : Nat, j = (n : Int) := ⟨j.toNat, by omega⟩
    have hk : n = k := by simpa using hj
    exact wpAny_getItem_list pl.isList (by omega) (by omega) (by rw [Int.toNat_natCast, hk]; simpa using eu) fin
  · have hj : (j + (its.toArray.size : Int)).toNat = k := by
      rw [seqIndex_neg (by omega) h4] at h1
      rw [List.size_toArray, ← hl]
      exact Option.some.inj h1
    exact wpAny_getItem_list_neg pl.isList (by omega) (by rw [List.size_toArray] <;> omega) (by omega) (by rw [hj]; simpa using eu) fin
theorem qs_addI {o i : Expr} {to ti : TE} {fo fi : EF} {tpos : Pos} (hK : X.K = K) (ho : QE K X o to fo) (hi : QE K X i ti fi) (he : QE K X e te f)
    (ha : ∀ ov iv new, augStore i ov iv new = (do holding [new, ov, iv] (setItem ov iv new); release [new, ov, iv] []; pure .next)) :
    QS K X (.AugAssign (.Subscript o i tpos) .Add e pos) (tAugS to ti te (rIxL K) (ipI fun i j => i + j) rSetL) (sAugI (fun i j => i + j) fo fi f) := by
  subst hK
  exact ⟨ps_augS ho.pe hi.pe get_ixL he.pe ip_add set_list ha, ss_augI ho.se hi.se he.se⟩
theorem qs_subI {o i : Expr} {to ti : TE} {fo fi : EF} {tpos : Pos} (hK : X.K = K) (ho : QE K X o to fo) (hi : QE K X i ti fi) (he : QE K X e te f)
    (ha : ∀ ov iv new, augStore i ov iv new = (do holding [new, ov, iv] (setItem ov iv new); release [new, ov, iv] []; pure .next)) :
    QS K X (.AugAssign (.Subscript o i tpos) .Sub e pos) (tAugS to ti te (rIxL K) (ipI fun i j => i - j) rSetL) (sAugI (fun i j => i - j) fo fi f) := by
  subst hK
  exact ⟨ps_augS ho.pe hi.pe get_ixL he.pe ip_sub set_list ha, ss_augI ho.se hi.se he.se⟩
theorem qs_for {tg iter : Expr} {body : List Stmt} {wi : TI} {src : IF} {g : TG} {tf : TF} (hp : PassesOwn (model X.prog X.w) X.A X.env X.xe) (hc : X.calm = true) (hi : QI K X tg iter wi src) (hg : QG K X tg g tf) (hb : QSs K X body ts sf)
    (hs : ∀ x, foldedSetIterable iter X.env x = pure x) : QS K X (.For tg iter body [] pos) (tFor wi g ts) (sFor src tf sf) := ⟨ps_for hp hc hi.pi hg.pg hb.ps hs, ss_for hi.si hg.st hb.ss⟩
end
/-! ### a def by its body -/
def startD (N : List Str) (args : List Vd) : Env := args.map some ++ List.replicate (N.length - args.length) none
def EndsD (g : SF) (ρ : Env) (st : Sto) (v : Vd) (st' : Sto) : Prop := ∃ junk, (g ρ st = some (.rt v (st' ++ junk)) ∨ (v = .d .none ∧ ∃ ρ', g ρ st = some (.nx ρ' (st' ++ junk)))) ∧ st.length ≤ st'.length ∧ (junk = [] ∨ (Clo st'.length st' ∧ CloV st'.length v))
section
variable {P : Program} {w : World} {K : PySem.W.Frag} {mg : Str → Option Value} {base : Heap}
theorem renv_start {S : Wd} {N : List Str} {args : List Vd} {vs : List V} (r : RVs K S vs args) : REnv K S (startD N args) (L2.start N vs) := by
  have hl := RVs.len r
  refine ⟨by unfold startD L2.start; simp [hl], fun i v h => ?_⟩
  unfold startD at h
  by_cases hi : i < args.length
  · rw [List.getElem?_append_left (by simpa using hi), List.getElem?_map] at h
    obtain ⟨u, h1, h2⟩ := Option.map_eq_some_iff.mp h
    cases h2
    obtain ⟨x, h3, h4⟩ := RVs.get_ r h1
    refine ⟨x, ?_, h4⟩
    unfold L2.start
    rw [List.getElem?_append_left (by simpa [hl] using hi), List.getElem?_map, h3]
    rfl
  · rw [List.getElem?_append_right (by simpa using hi)] at h
    have := List.eq_of_mem_replicate (List.mem_of_getElem? h)
    cases this
theorem aft_cut {S0 S : Wd} {st' junk : Sto} {v : Vd} {x : V} {Q : VK} (ok0 : S0.Ok K) (q : Aft K S0 st' v Q) (l : S.L = S0.L) (e : S.st = st' ++ junk) (xx : Ext S0 S) (ok : S.Ok K) (r : RV K S x v) (hl : S0.st.length ≤ st'.length) (hj : junk = [] ∨ (Clo st'.length st' ∧ CloV st'.length v)) : Q x S.H := by
  rcases hj with hj | ⟨c1, c2⟩
  · subst hj
    exact q S x l (by rw [e, List.append_nil]) xx ok r
  · obtain ⟨k1, k2, k3⟩ := ok.cut e c1
    exact q { S with m := S.m.take st'.length, st := st' } x l rfl (k3 S0 (by rw [ok0.len]; exact hl) xx) k1 (k2 x v c2 r)
theorem okD {x : Str} {st : Stmt} {f : Addr} {fd : FuncData} {N ps : List Str} {k : Nat} {Fn : FF} {g : SF} (D : Df K mg x ps st f fd) (Sc : FnScope N ps (defScope st))
    (body : ∀ (cdv : Value) (A : Around) (outer : List PySem.Env) (s : Shared) (H : Hp) (E : XK), A.guards = some [] → Room k (A.deeper (envOfC x (defScope st) s.heap.objs.size f cdv)) → ∃ ts, QSs K (cxOf CX0 P w K mg base N x (defScope st) f cdv A outer s H E).nox (defBody st) ts g)
    (hF : ∀ args s v s', args.length = ps.length → Fn args s = some (v, s') → EndsD g (startD N args) s v s') : Cal P w K mg base (k + 1) x ps Fn := by
  refine ⟨f, fd, okG D.fn Sc (fun vs H Q E h => h.1) (fun cdv A outer s H vs Q E hg hr h => ?_), D.bd, D.at_, D.fn.kp⟩
  obtain ⟨hl, S, args, v, st', ok, rfl, rv, e, q⟩ := h
  obtain ⟨ts, B⟩ := body cdv A outer s S.H E hg hr
  refine ⟨ts, B.ps, ?_⟩
  have la : args.length = ps.length := by rw [← RVs.len rv]; exact hl
  obtain ⟨junk, h1, h2, h3⟩ := hF args S.st v st' la e
  rcases h1 with h1 | ⟨hv, ρ', h1⟩
  · exact B.ss S _ _ _ ok (renv_start rv) h1 { nx := fun _ H' => Q .non H', rt := Q } fun S' y l s' x' ok' r' => aft_cut ok q l s' x' ok' r' h2 h3
  · subst hv
    exact B.ss S _ _ _ ok (renv_start rv) h1 { nx := fun _ H' => Q .non H', rt := Q } fun S' σ' l s' x' ok' en' => aft_cut (x := .non) ok q l s' x' ok' (Dd.non) h2 h3
theorem Cal.mono {j k : Nat} {x : Str} {ps : List Str} {F : FF} (h : Cal P w K mg base j x ps F) (hk : j ≤ k) : Cal P w K mg base k x ps F := by
  obtain ⟨f, fd, h1, h2, h3, h4⟩ := h
  exact ⟨f, fd, ⟨h1.size, fun A outer s H args us vs Q E hg hr => h1.goes A outer s H args us vs Q E hg (hr.mono hk)⟩, h2, h3, h4⟩
/-- less may be said -/
theorem Cal.less {k : Nat} {x : Str} {ps : List Str} {F F' : FF} (h : Cal P w K mg base k x ps F) (hF : ∀ a s r, F' a s = some r → F a s = some r) : Cal P w K mg base k x ps F' := by
  obtain ⟨f, fd, h1, h2, h3, h4⟩ := h
  have imp : ∀ {vs H Q E}, spD K ps.length F' vs H Q E → spD K ps.length F vs H Q E := fun ⟨a1, S, args, v, st', a2, a3, a4, a5, a6⟩ => ⟨a1, S, args, v, st', a2, a3, a4, hF _ _ _ a5, a6⟩
  exact ⟨f, fd, ⟨fun vs H Q E z => z.1, fun A outer s H args us vs Q E hg hr e0 hb r z => h1.goes A outer s H args us vs Q E hg hr e0 hb r (imp z)⟩, h2, h3, h4⟩
/-- nothing is said: at any level -/
theorem Cal.zero {x : Str} {ps : List Str} {st : Stmt} {f : Addr} {fd : FuncData} (D : Df K mg x ps st f fd) {k : Nat} : Cal P w K mg base k x ps fun _ _ => none :=
  ⟨f, fd, ⟨fun vs H Q E z => z.1, fun A outer s H args us vs Q E hg hr e0 hb r z => by
    obtain ⟨_, S, args, v, st', _, _, _, a5, _⟩ := z
    cases a5⟩, D.bd, D.at_, D.fn.kp⟩
end
end Dl

set_option Elab.async false
set_option linter.all false
set_option maxRecDepth 100000
set_option maxHeartbeats 4000000
namespace Dl
open PySem PySem.Spec PyProof.Rows L2 Pg
/-! ### a, b = (x, y) -/
def sAsgT (a : AF) (n : Nat) (t : TFs) : SF := fun ρ st => match a ρ st with
  | some (vs, st1) => if vs.length = n ∧ n ≤ 1000 then match t vs ρ st1 with
    | some (ρ2, st2) => some (.nx ρ2 st2)
    | none => none
    else none
  | none => none
section
variable {K : PySem.W.Frag} {X : Cx}
theorem ss_asgT {n : Nat} {ta : TA} {fa : AF} {gs : TGs} {u : TFs} (ha : SA K ta fa) (h2 : STs K gs u) : SS K (tAsg (tTup ta) (gTup K n gs)) (sAsgT fa n u) := by
  intro S ρ σ o ok en h D q
  unfold sAsgT at h
  split at h
  · rename_i vs st1 e1
    split at h
    · rename_i hn
      split at h
      · rename_i ρ2 st2 e2
        cases h
        refine ha S ρ σ _ _ ok en e1 _ fun S1 xa l1 s1 x1 ok1 r1 => ?_
        subst s1
        refine ⟨by rw [RVs.len r1]; have : (1000 : Nat) ≤ sizeLine := by decide
                   omega, fun p hp => ?_⟩
        have g1 := ok1.ext_put hp (.tup xa)
        have g2 := ok1.put hp (.tup xa)
        exact ⟨p, xa, rfl, SqT.of upd_same, by rw [RVs.len r1]; exact hn.1, h2 (S1.put p (.tup xa)) ρ σ xa vs ρ2 st2 g2 (en.up (x1.trans g1)) (RVs.up g1 r1) e2 _ (AftN.from (show AftN K S ρ2 st2 D.nx from q) l1 (x1.trans g1))⟩
      · cases h
    · cases h
  · cases h
theorem qs_asgT {es ts : List Expr} {k k2 n : Nat} {pos p1 p2 : Pos} {ta : TA} {fa : AF} {u : TGs} {uf : TFs} (hK : X.K = K) (hc : X.calm = true) (he : QA K X es ta fa) (h : QGs K X ts u uf) (hn : (assignEach ts X.env).length = n) (hst : (assignEach ts X.env).findIdx? (·.1) = none)
    (hs : swapsWithSole [.Tuple ts k p1] (.Tuple es k2 p2) pos.line X.env = pure false) (hw : swappedStores [.Tuple ts k p1] (.Tuple es k2 p2) X.env = pure none)
    (h1 : (assignEach [.Tuple ts k p1] X.env).map (·.2) = [assign (.Tuple ts k p1) X.env]) : QS K X (.Assign [.Tuple ts k p1] (.Tuple es k2 p2) pos) (tAsg (tTup ta) (gTup K n u)) (sAsgT fa n uf) := by
  subst hK
  exact ⟨ps_asg (pe_tup he.pa) (pg_tup hc h.pg hn hst) hs hw h1, ss_asgT he.sa h.st⟩
/-! ### in -/
def rInA (K : PySem.W.Frag) (b : Bool) : R2 := fun x y H Q => ∃ d e ds, Dd K H x d ∧ Dd K H y e ∧ (e = .list ds ∨ e = .tuple ds) ∧ SeqAt.shaped d = true ∧ PyData.canLayAll0 ds = true ∧ Q (.bl (b != ds.any fun z => PyData.eqv z d)) H
theorem op_inA (hu : X.A.units + 65 < cLine) : OpR X (compareOp .In) (rInA X.K false) := by
  intro pins s σ H x y v u Q I rx ry h
  obtain ⟨d, e, ds, hd, he, hk, sd, se, q⟩ := h
  rw [Bool.false_bne] at q
  obtain ⟨as, r1, _⟩ := dd_say I d x v hd rx
  obtain ⟨bs, r2, _⟩ := dd_say I e y u he ry
  rcases hk with rfl | rfl
  · exact SeqAt.in_list_reads r2 r1 se (SeqAt.canLay_of_shaped sd) (room_in_shaped sd hu) ⟨.bl _, H, I, rfl, q⟩
  · exact SeqAt.in_tuple_reads r2 r1 se (SeqAt.canLay_of_shaped sd) (room_in_shaped sd hu) ⟨.bl _, H, I, rfl, q⟩
theorem op_niA (hu : X.A.units + 65 < cLine) : OpR X (compareOp .NotIn) (rInA X.K true) := by
  intro pins s σ H x y v u Q I rx ry h
  obtain ⟨d, e, ds, hd, he, hk, sd, se, q⟩ := h
  rw [Bool.true_bne] at q
  obtain ⟨as, r1, _⟩ := dd_say I d x v hd rx
  obtain ⟨bs, r2, _⟩ := dd_say I e y u he ry
  rcases hk with rfl | rfl
  · exact SeqAt.notIn_list_reads r2 r1 se (SeqAt.canLay_of_shaped sd) (room_in_shaped sd hu) ⟨.bl _, H, I, rfl, q⟩
  · exact SeqAt.notIn_tuple_reads r2 r1 se (SeqAt.canLay_of_shaped sd) (room_in_shaped sd hu) ⟨.bl _, H, I, rfl, q⟩
def gIn (b : Bool) (d : PyData) : PyData → Option PyData
  | .list ds => if SeqAt.shaped d = true ∧ PyData.canLayAll0 ds = true then some (.bool (b != ds.any fun z => PyData.eqv z d)) else none
  | .tuple ds => if SeqAt.shaped d = true ∧ PyData.canLayAll0 ds = true then some (.bool (b != ds.any fun z => PyData.eqv z d)) else none
  | _ => none
theorem so_in (b : Bool) : SO K (rInA K b) (gIn b) := by
  intro G H x y dx dy z g rx ry e Q q
  unfold gIn at e
  split at e
  · split at e
    · rename_i hc
      cases e
      exact ⟨dx, _, _, rx.dd g, ry.dd g, .inl rfl, hc.1, hc.2, q _ _ _ (Grow.refl g) (.bl _)⟩
    · cases e
  · split at e
    · rename_i hc
      cases e
      exact ⟨dx, _, _, rx.dd g, ry.dd g, .inr rfl, hc.1, hc.2, q _ _ _ (Grow.refl g) (.bl _)⟩
    · cases e
  · cases e
/-! ### sorted -/
def alikesB (ds : List PyData) : Bool := ds.all fun d => ds.all fun e => PySem.W.alike d e
def isNe : PyData → Bool
  | .tuple (_ :: _) => true
  | _ => false
def isPl : PyData → Bool
  | .none => false
  | .tuple _ => false
  | _ => true
def sortsB (ds : List PyData) : Bool := alikesB ds && (ds.all isNe || ds.all isPl) && ds.all (fun d => decide (d.depth ≤ 60)) && decide (ds.length ≤ 16000000)
noncomputable def srt (ds : List PyData) : List PyData := ds.mergeSort (PySem.W.dataLe false id)
theorem sorts_of {ds : List PyData} (h : sortsB ds = true) : PySem.W.AllAlike ds ∧ PySem.W.Sortable ds ∧ (∀ d ∈ ds, d.depth ≤ 60) ∧ ds.length ≤ 16000000 := by
  unfold sortsB alikesB at h
  simp only [Bool.and_eq_true, Bool.or_eq_true, List.all_eq_true, decide_eq_true_eq] at h
  obtain ⟨⟨⟨h1, h2⟩, h3⟩, h4⟩ := h
  refine ⟨fun d hd e he => h1 d hd e he, ?_, h3, h4⟩
  rcases h2 with h2 | h2
  · refine .inl fun d hd => ?_
    have := h2 d hd
    unfold isNe at this
    split at this
    · exact ⟨_, _, rfl⟩
    · cases this
  · refine .inr fun d hd => ?_
    have := h2 d hd
    cases d with
    | none => cases this
    | tuple _ => cases this
    | bool _ => exact ⟨by simp, by simp⟩
    | int _ => exact ⟨by simp, by simp⟩
    | str _ => exact ⟨by simp, by simp⟩
    | list _ => exact ⟨by simp, by simp⟩
    | dict _ => exact ⟨by simp, by simp⟩
theorem each_self {R : Value → PyData → Prop} : ∀ {us : List Value} {vs : List V} {ds : List PyData} {K : PySem.W.Frag} {H : Hp}, Vals vs us → Dds K H vs ds → (∀ v u d, RelV v u → Dd K H v d → R u d) → PySem.W.EachIs R us ds
  | _, _, _, _, _, .nil, .nil, _ => .nil
  | _, _, _, _, _, .cons r t, .cons h k, f => .cons (f _ _ _ r h) (each_self t k f)
theorem each_back {H : Hp} : ∀ {us : List Value} {ds : List PyData}, PySem.W.EachIs (fun u d => ∃ v, RelV v u ∧ Dd K H v d) us ds → ∃ vs, Vals vs us ∧ Dds K H vs ds
  | _, _, .nil => ⟨[], .nil, .nil⟩
  | _, _, .cons ⟨v, h1, h2⟩ t => by
    obtain ⟨vs, h3, h4⟩ := each_back t
    exact ⟨v :: vs, .cons h1 h3, .cons h2 h4⟩
def rSortD (K : PySem.W.Frag) : List V → Hp → VK → Prop := fun xs H Q => ∃ (G : Hp) (a : Addr) (ys : List V) (ds : List PyData), Same G H ∧ xs = [.ref a] ∧ SqL K H a ys ∧ Dds K G ys ds ∧ sortsB ds = true ∧ ∀ (p : Addr) (zs : List V), H p = none → Dds K G zs (srt ds) → Q (.ref p) (upd H p (.lst zs))
theorem call_sortD (hu : X.A.units + 64 < cLine) : CallR X (.builtin "sorted") (rSortD X.K) := by
  intro pins s σ H xs us Q I r h
  obtain ⟨G, a, ys, ds, g, rfl, hs, hd, hb, q⟩ := h
  obtain ⟨its, rv, hl, hz⟩ := I.list hs
  rw [Vals.ref1 r]
  obtain ⟨h1, h2, h3, h4⟩ := sorts_of hb
  have hlen : ds.length = its.length := by rw [← Dds.length_ hd, rv.length]
  refine PySem.W.sorted_data (enc := id) (R := fun u d => ∃ v, RelV v u ∧ Dd X.K G v d) hl.isList (each_self rv hd fun v u d r1 r2 => ⟨v, r1, r2⟩)
    (each_self rv hd fun v u d r1 r2 => let ⟨as, z, _⟩ := dd_say I d v u (Dd.up g _ _ r2) r1; ⟨as, z⟩) (by rw [List.map_id]; exact h1) (by rw [List.map_id]; exact h2) (Nat.le_trans h4 (by decide)) (fun b hb => by have := h3 b hb; show X.A.units + 2 + b.depth < cLine; omega) fun out hol ho => ?_
  obtain ⟨zs, k1, k2⟩ := each_back ho
  obtain ⟨ep, he'⟩ := PyProof.Rows.sortedAll_at s.heap its out.toArray
  have hz' : zs.length ≤ sizeLine := by
    rw [k1.length, hol]
    exact Nat.le_trans h4 (by decide)
  exact ⟨.ref _, upd H (s.heap.objs.size + 1) (.lst zs), I.laid (t' := s.toks) (fun _ _ => PyProof.Rows.sortedAll_old) (Nat.le_succ _) ⟨hz', out, ep, k1, he'⟩, rfl, q _ _ (I.hok.fresh (Nat.le_succ _)) k2⟩
noncomputable def gSorted : List PyData → Option PyData
  | [.list ds] => if sortsB ds = true then some (.list (srt ds)) else none
  | _ => none
theorem sc_sort : SC K (rSortD K) gSorted := by
  intro G H xs ds z g r e Q q
  unfold gSorted at e
  split at e
  · split at e
    · rename_i hb
      cases e
      obtain ⟨x, rfl, rk⟩ := r.one
      obtain ⟨a, ys, rfl, h1, h2⟩ := rk.list g
      exact ⟨G, a, ys, _, g, rfl, h1, h2, hb, fun p zs hp hz => new_lst g hz q hp⟩
    · cases e
  · cases e
/-! ### texts times, a tuple turned about, an empty dict, a dict of pairs -/
def repStr (z : Str) (n : Int) : Str := ⟨(List.replicate n.toNat z.cps).foldl (· ++ ·) #[]⟩
def rMulS : R2 := fun x y H Q => ∃ (z : Str) (n : Int), x = .str z ∧ y = .int n ∧ 2 ≤ n ∧ n ≤ 1000 ∧ 0 < z.length ∧ z.length ≤ 1000 ∧ Q (.str ⟨(List.replicate n.toNat z.cps).foldl (· ++ ·) #[]⟩) H
open Classical in
noncomputable def gMulD : PyData → PyData → Option PyData
  | .int i, .int j => if CMulW i j ∨ CMul i j then some (.int (i * j)) else none
  | .str z, .int n => if 2 ≤ n ∧ n ≤ 1000 ∧ 0 < z.length ∧ z.length ≤ 1000 then some (.str (repStr z n)) else none
  | _, _ => none
def rMulD : R2 := fun x y H Q => (rI CMulW fun i j => .int (i * j)) x y H Q ∨ ((rI CMul fun i j => .int (i * j)) x y H Q ∨ rMulS x y H Q)
theorem op_mulD : OpR X (binaryOp .Mult) rMulD := opr_or op_mulW (opr_or op_mul Pg.op_repS)
theorem so_mul : SO K rMulD gMulD := by
  intro G H x y dx dy z g rx ry e Q q
  unfold gMulD at e
  split at e
  · split at e
    · rename_i hc
      cases e
      rcases hc with hc | hc
      · exact .inl ⟨_, _, rx.int, ry.int, hc, q _ _ _ (Grow.refl g) (.int _)⟩
      · exact .inr (.inl ⟨_, _, rx.int, ry.int, hc, q _ _ _ (Grow.refl g) (.int _)⟩)
    · cases e
  · split at e
    · rename_i hc
      cases e
      exact .inr (.inr ⟨_, _, rx.str, ry.int, hc.1, hc.2.1, hc.2.2.1, hc.2.2.2, q _ _ _ (Grow.refl g) (.str _)⟩)
    · cases e
  · cases e
theorem Dds.rev {G : Hp} : ∀ {xs : List V} {ds : List PyData}, Dds K G xs ds → Dds K G xs.reverse ds.reverse
  | _, _, .nil => .nil
  | _, _, .cons a r => by
    rw [List.reverse_cons, List.reverse_cons]
    exact Dds.append_ (Dds.rev r) (.cons a .nil)
def eRev (i : Nat) : EF := fun ρ st => match ρ[i]? with
  | some (some (.d (.tuple xs))) => some (.d (.tuple xs.reverse), st)
  | _ => none
theorem se_rev {i : Nat} : SE K (tRev K (tVar i)) (eRev i) := by
  intro S ρ σ v st' ok en h Q q
  unfold eRev at h
  split at h
  · rename_i xs e
    cases h
    obtain ⟨x, h1, h2⟩ := en.at_ i _ e
    have h2' : Dd K S.fr x (.tuple xs) := h2
    cases h2' with
    | @tup a vs _ h3 h4 =>
      refine ⟨_, h1, a, vs, rfl, same_seqT (fr_same S) h3, fun p hp => ?_⟩
      exact new_tup (fr_same S) (Dds.rev h4) (fun G' H' w g hw => q.grow ok g hw) hp
  · cases h
theorem q_rev {x : Str} {p0 p1 p2 p3 pos : Pos} {j : Nat} (hK : X.K = K) (i : Nat) (h : PE X (.Name x p0) (tVar i)) : QE K X (.Subscript (.Name x p0) (.Slice none none (some (.UnaryOp .USub (.Constant (.int 1) j p1) p3)) p2) pos) (tRev K (tVar i)) (eRev i) := by
  subst hK
  exact ⟨pe_rev h, se_rev⟩
theorem se_dnew : SE K tDNewK (eC (.dict [])) := by
  intro S ρ σ v st' ok en h Q q
  cases h
  intro p hp
  exact q.grow ok ((Grow.refl (fr_same S)).put hp (.dK [])) (.dic upd_same .nil)
theorem q_dnew {pos : Pos} : QE K X (.Dict [] [] pos) tDNewK (eC (.dict [])) := ⟨pe_dnewK, se_dnew⟩
end
end Dl

set_option Elab.async false
set_option linter.all false
set_option maxRecDepth 100000
set_option maxHeartbeats 4000000
namespace Dl
open PySem PySem.Spec PyProof.Rows L2 Pg
theorem u65 {A : Around} {k : Nat} (hr : Room k A) : A.units + 65 < cLine := by have := hr.un; omega
section
variable {X : Cx} {K : PySem.W.Frag} {a b c e : Expr} {ta tb tc te : TE} {fa fb fc f : EF} {pos : Pos}
/-! -x -/
def eNeg (a : EF) : EF := fun ρ st => match a ρ st with
  | some (.d (.int i), st1) => some (.d (.int (-i)), st1)
  | _ => none
theorem q_neg (ha : QE K X a ta fa) : QE K X (.UnaryOp .USub a pos) (tUn (rU fun i => .int (-i)) ta) (eNeg fa) := by
  refine ⟨pe_un un_neg ha.pe, fun S ρ σ v st' ok en h Q q => ?_⟩
  unfold eNeg at h
  split at h
  · rename_i i st1 e1
    cases h
    refine ha.se S ρ σ _ _ ok en e1 _ fun S1 xa l1 s1 x1 ok1 r1 => ?_
    have r1' : Dd K S1.fr xa (.int i) := r1
    cases r1'
    exact ⟨i, rfl, q S1 _ l1 s1 x1 ok1 (Dd.int _)⟩
  · cases h
/-! a op b op' c -/
def eChain (g g' : PyData → PyData → Option PyData) (a b c : EF) : EF := fun ρ st => match a ρ st with
  | some (va, st1) => match b ρ st1 with
    | some (vb, st2) => match lookR st2 va, lookR st2 vb with
      | some x, some y => match g x y with
        | some (.bool true) => match c ρ st2 with
          | some (vc, st3) => match lookR st3 vb, lookR st3 vc with
            | some y', some z => (g' y' z).map fun u => (.d u, st3)
            | _, _ => none
          | none => none
        | some (.bool false) => some (.d (.bool false), st2)
        | _ => none
      | _, _ => none
    | none => none
  | none => none
theorem se_chain {r r' : R2} {g g' : PyData → PyData → Option PyData} (hr : SO K r g) (hr' : SO K r' g') (ha : SE K ta fa) (hb : SE K tb fb) (hc : SE K tc fc) : SE K (tChain r r' ta tb tc) (eChain g g' fa fb fc) := by
  intro S ρ σ v st' ok en h Q q
  unfold eChain at h
  split at h
  · rename_i va st1 e1
    split at h
    · rename_i vb st2 e2
      split at h
      · rename_i x y e3 e4
        refine ha S ρ σ va st1 ok en e1 _ fun S1 xa l1 s1 x1 ok1 r1 => ?_
        subst s1
        refine hb S1 ρ σ vb st2 ok1 (en.up x1) e2 _ fun S2 xb l2 s2 x2 ok2 r2 => ?_
        subst s2
        split at h
        · rename_i e5
          refine hr S2.fr S2.H xa xb x y _ (fr_same S2) (lookR_ok ok2 (r1.up x2) e3) (lookR_ok ok2 r2 e4) e5 _ fun G' H' w g hw => ?_
          cases hw
          refine ⟨true, rfl, iteT (B := _) ?_⟩
          have gr := ok2.grow g.hh
          split at h
          · rename_i vc st3 e6
            refine hc { S2 with H := H' } ρ σ vc st3 gr.2 (en.up ((x1.trans x2).trans gr.1)) e6 _ fun S3 xc l3 s3 x3 ok3 r3 => ?_
            subst s3
            split at h
            · rename_i y' z e7 e8
              obtain ⟨u, e9, e10⟩ := Option.map_eq_some_iff.mp h
              cases e10
              refine hr' S3.fr S3.H xb xc y' z u (fr_same S3) (lookR_ok ok3 (r2.up (gr.1.trans x3)) e7) (lookR_ok ok3 r3 e8) e9 Q fun G'' H'' w' g' hw' => ?_
              exact (q.from (l3.trans (l2.trans l1)) (((x1.trans x2).trans gr.1).trans x3)).grow ok3 g' hw'
            · cases h
          · cases h
        · rename_i e5
          cases h
          refine hr S2.fr S2.H xa xb x y _ (fr_same S2) (lookR_ok ok2 (r1.up x2) e3) (lookR_ok ok2 r2 e4) e5 _ fun G' H' w g hw => ?_
          cases hw
          refine ⟨false, rfl, iteF (A := _) ?_⟩
          exact (q.from (l2.trans l1) (x1.trans x2)).grow ok2 g (.bl false)
        · cases h
      · cases h
    · cases h
  · cases h
theorem q_chain {op op' : CmpOp} {r r' : R2} {g g' : PyData → PyData → Option PyData} (hs : SO K r g) (ho : OpR X (compareOp op) r) (hs' : SO K r' g') (ho' : OpR X (compareOp op') r') (ha : QE K X a ta fa) (hb : QE K X b tb fb) (hc : QE K X c tc fc)
    (hm : lastMarks [op, op'] [b, c] = false) : QE K X (.Compare a [op, op'] [b, c] pos) (tChain r r' ta tb tc) (eChain g g' fa fb fc) := ⟨pe_chain ho ho' ha.pe hb.pe hc.pe hm, se_chain hs hs' ha.se hb.se hc.se⟩
theorem qb_chain {op op' : CmpOp} {r r' : R2} {g g' : PyData → PyData → Option PyData} (hs : SO K r g) (ho : OpR X (compareOp op) r) (hs' : SO K r' g') (ho' : OpR X (compareOp op') r') (ha : QE K X a ta fa) (hb : QE K X b tb fb) (hc : QE K X c tc fc)
    (hm : lastMarks [op, op'] [b, c] = false) : QB K X (.Compare a [op, op'] [b, c] pos) (tTest (tChain r r' ta tb tc)) (bVal (eChain g g' fa fb fc)) := ⟨pt_chain ho ho' ha.pe hb.pe hc.pe hm, sb_test (se_chain hs hs' ha.se hb.se hc.se)⟩
/-! dict(pairs), the keys ints or texts -/
def keyOfD : PyData → Option Key
  | .int i => some (.inl i)
  | .str x => some (.inr x)
  | _ => none
def pairsK : List PyData → Option (List (Key × PyData))
  | [] => some []
  | .tuple [k, v] :: r => match keyOfD k, pairsK r with
    | some k', some r' => some ((k', v) :: r')
    | _, _ => none
  | _ :: _ => none
def putKD (kvs : List (Key × PyData)) (k : Key) (v : PyData) : List (Key × PyData) := if (kvs.any fun kv => decide (kv.1 = k)) = true then kvs.map (fun kv => if kv.1 = k then (kv.1, v) else kv) else kvs ++ [(k, v)]
def mergeKD (kvs more : List (Key × PyData)) : List (Key × PyData) := more.foldl (fun acc kv => putKD acc kv.1 kv.2) kvs
def dictOf (kvs : List (Key × PyData)) : PyData := .dict (kvs.map fun p => (keyD p.1, p.2))
def gDictOf : List PyData → Option PyData
  | [.list ds] => (pairsK ds).map fun ps => dictOf (mergeKD [] ps)
  | _ => none
theorem keyOfD_ok {G : Hp} {x : V} {d : PyData} {k : Key} (h : Dd K G x d) (e : keyOfD d = some k) : x = kV k ∧ d = keyD k := by
  unfold keyOfD at e
  split at e
  · cases e; cases h; exact ⟨rfl, rfl⟩
  · cases e; cases h; exact ⟨rfl, rfl⟩
  · cases e
def KVD (K : PySem.W.Frag) (G : Hp) : List (Key × V) → List (Key × PyData) → Prop := Paired fun p q => p.1 = q.1 ∧ Dd K G p.2 q.2
theorem pairsK_ok {G H : Hp} (g : Same G H) : ∀ {ds : List PyData} {ys : List V} {ps : List (Key × PyData)}, Dds K G ys ds → pairsK ds = some ps → ∃ (as : List Addr) (kvs : List (Key × V)), ys = as.map V.ref ∧ Paired (fun p kv => SqT K H p [kV kv.1, kv.2]) as kvs ∧ KVD K G kvs ps
  | [], _, _, .nil, e => by
    cases e
    exact ⟨[], [], rfl, .nil, .nil⟩
  | .tuple [k, v] :: r, _, ps, .cons h t, e => by
    unfold pairsK at e
    split at e
    · rename_i k' r' e1 e2
      cases e
      obtain ⟨as, kvs, h1, h2, h3⟩ := pairsK_ok g t e2
      subst h1
      cases h with
      | @tup a xs _ q rr =>
        cases rr with
        | cons hk rr =>
          cases rr with
          | cons hv rr =>
            cases rr
            obtain ⟨e3, e4⟩ := keyOfD_ok hk e1
            subst e3
            exact ⟨a :: as, (k', _) :: kvs, rfl, .cons (same_seqT g q) h2, .cons ⟨rfl, hv⟩ h3⟩
    · cases e
  | .none :: _, _, _, _, e => by simp [pairsK] at e
  | .int _ :: _, _, _, _, e => by simp [pairsK] at e
  | .bool _ :: _, _, _, _, e => by simp [pairsK] at e
  | .str _ :: _, _, _, _, e => by simp [pairsK] at e
  | .list _ :: _, _, _, _, e => by simp [pairsK] at e
  | .dict _ :: _, _, _, _, e => by simp [pairsK] at e
  | .tuple [] :: _, _, _, _, e => by simp [pairsK] at e
  | .tuple [_] :: _, _, _, _, e => by simp [pairsK] at e
  | .tuple (_ :: _ :: _ :: _) :: _, _, _, _, e => by simp [pairsK] at e
theorem KVD.put {G : Hp} {kvs : List (Key × V)} {ps : List (Key × PyData)} (h : KVD K G kvs ps) (k : Key) {v : V} {d : PyData} (hv : Dd K G v d) : KVD K G (putK kvs k v) (putKD ps k d) := by
  have e : (kvs.any fun kv => decide (kv.1 = k)) = (ps.any fun kv => decide (kv.1 = k)) := by
    induction h with
    | nil => rfl
    | cons h t ih => simp only [List.any_cons, ih, h.1]
  unfold putK putKD
  rw [e]
  by_cases q : (ps.any fun kv => decide (kv.1 = k)) = true
  · rw [if_pos q, if_pos q]
    clear e q
    induction h with
    | nil => exact .nil
    | cons h t ih =>
      rw [List.map_cons, List.map_cons]
      refine .cons ?_ ih
      rw [h.1]
      split
      · exact ⟨rfl, hv⟩
      · exact ⟨h.1, h.2⟩
  · rw [if_neg q, if_neg q]
    clear e q
    induction h with
    | nil => exact .cons ⟨rfl, hv⟩ .nil
    | cons h t ih => exact .cons h ih
theorem KVD.merge {G : Hp} : ∀ {more : List (Key × V)} {ms : List (Key × PyData)} {kvs : List (Key × V)} {ps : List (Key × PyData)}, KVD K G more ms → KVD K G kvs ps → KVD K G (mergeK kvs more) (mergeKD ps ms)
  | _, _, _, _, .nil, h => h
  | (k, v) :: mr, (k', d) :: ms, kvs, ps, .cons a r, h => by
    obtain ⟨a1, a2⟩ := a
    have a1' : k = k' := a1
    subst a1'
    have := KVD.merge r (KVD.put h k a2)
    exact this
theorem KVD.dd {G : Hp} : ∀ {kvs : List (Key × V)} {ps : List (Key × PyData)}, KVD K G kvs ps → Ddk K G kvs (ps.map fun p => (keyD p.1, p.2))
  | _, _, .nil => .nil
  | (k, v) :: _, (k', d) :: _, .cons a r => by
    obtain ⟨a1, a2⟩ := a
    have a1' : k = k' := a1
    subst a1'
    exact .cons a2 (KVD.dd r)
theorem sc_dict : SC K (fun xs H Q => ∃ (a : Addr) (ps : List Addr) (kvs : List (Key × V)), xs = [.ref a] ∧ SqL K H a (ps.map V.ref) ∧ Paired (fun p kv => SqT K H p [kV kv.1, kv.2]) ps kvs ∧
    ∀ p, H p = none → Q (.ref p) (upd H p (.dK (mergeK [] kvs)))) gDictOf := by
  intro G H xs ds z g r e Q q
  unfold gDictOf at e
  split at e
  · obtain ⟨ps, e1, e2⟩ := Option.map_eq_some_iff.mp e
    subst e2
    obtain ⟨x, rfl, rk⟩ := r.one
    obtain ⟨a, ys, rfl, h1, h2⟩ := rk.list g
    obtain ⟨as, kvs, h3, h4, h5⟩ := pairsK_ok g h2 e1
    subst h3
    refine ⟨a, as, kvs, rfl, h1, h4, fun p hp => ?_⟩
    refine q _ _ _ ((Grow.refl g).put hp (.dK (mergeK [] kvs))) ?_
    exact .dic upd_same (Ddk.up (same_up (free_of g hp)) _ _ (KVD.dd (KVD.merge h5 .nil)))
  · cases e
/-! name op= e -/
theorem so_addI : SO K (ipI fun i j => i + j) gAdd → True := fun _ => trivial
def gAddI : PyData → PyData → Option PyData
  | .int i, .int j => some (.int (i + j))
  | _, _ => none
theorem so_ipAdd : SO K (ipI fun i j => i + j) gAddI := by
  intro G H x y dx dy z g rx ry e Q q
  unfold gAddI at e
  split at e
  · cases e
    exact ⟨_, _, rx.int, ry.int, q _ _ _ (Grow.refl g) (.int _)⟩
  · cases e
theorem qs_augN {i : Nat} {x : Str} {p' : Pos} (he : QE K X e te f) (hN : X.N.Nodup) (hi : X.N[i]? = some x) (hx : Loc X.env.scope x) (hf : X.fn x = true ∨ X.env.scope.names.lookup x = some .local) :
    QS K X (.AugAssign (.Name x p') .Add e pos) (tAug i te (ipI fun i j => i + j)) (sAug i gAddI f) := ⟨ps_aug hN hi hx he.pe ip_add hf, ss_aug so_ipAdd he.se⟩
/-! a, b = x, y: plain local names, stored from the right -/
def sPar (i j : Nat) (a : AF) : SF := fun ρ st => match a ρ st with
  | some ([v, w], st1) => some (.nx ((ρ.set i (some v)).set j (some w)) st1)
  | _ => none
theorem ss_par {i j : Nat} {t : TA} {fa : AF} (ha : SA K t fa) : SS K (tPar i j t) (sPar i j fa) := by
  intro S ρ σ o ok en h D q
  unfold sPar at h
  split at h
  · rename_i v w st1 e1
    cases h
    refine ha S ρ σ _ _ ok en e1 _ fun S1 xa l1 s1 x1 ok1 r1 => ?_
    cases r1 with
    | cons r1 t =>
      cases t with
      | cons r2 t =>
        cases t
        exact ⟨_, _, rfl, q S1 _ l1 s1 x1 ok1 (((en.up x1).set i r1).set j r2)⟩
  · cases h
theorem qs_par {i j : Nat} {x y : Str} {px py pt : Pos} {kt k2 pt2} {t : TA} {fa : AF} (ha : QA K X [a, b] t fa) (hc : X.calm = true) (hN : X.N.Nodup) (hi : X.N[i]? = some x) (hj : X.N[j]? = some y) (hij : i ≠ j) (hx : X.env.scope.names.lookup x = some .local) (hy : X.env.scope.names.lookup y = some .local)
    (hw : swappedStores [.Tuple [.Name x px, .Name y py] kt pt] (.Tuple [a, b] k2 pt2) X.env = pure (some [x, y])) (hs : swapsWithSole [.Tuple [.Name x px, .Name y py] kt pt] (.Tuple [a, b] k2 pt2) pos.line X.env = pure false) :
    QS K X (.Assign [.Tuple [.Name x px, .Name y py] kt pt] (.Tuple [a, b] k2 pt2) pos) (tPar i j t) (sPar i j fa) := ⟨ps_par hc hN hi hj hij hx hy ha.pa hw hs, ss_par ha.sa⟩
end
end Dl

set_option Elab.async false
set_option linter.all false
set_option maxRecDepth 100000
set_option maxHeartbeats 4000000
namespace Dl
open PySem PySem.Spec PyProof.Rows L2 Pg
/-! ### what a def gives on data, by its meaning -/
def FnOf (N : List Str) (g : SF) : FF := fun args s => match g (startD N args) s with
  | some (.rt v s') => if s.length ≤ s'.length then some (v, s') else none
  | _ => none
open Classical in
/-- .. where cells of its own are dropped at its end -/
noncomputable def FnCut (N : List Str) (g : SF) : FF := fun args s => match g (startD N args) s with
  | some (.rt v s') => if s.length ≤ s'.length ∧ Clo s.length (s'.take s.length) ∧ CloV s.length v then some (v, s'.take s.length) else none
  | _ => none
theorem ends_of {N : List Str} {g : SF} {n : Nat} : ∀ args s v s', args.length = n → FnOf N g args s = some (v, s') → EndsD g (startD N args) s v s' := fun args s v s' _ h => by
  unfold FnOf at h
  split at h
  · rename_i w t e
    split at h
    · cases h
      exact ⟨[], .inl (by rw [List.append_nil]; exact e), ‹_›, .inl rfl⟩
    · cases h
  · cases h
theorem ends_cut {N : List Str} {g : SF} {n : Nat} : ∀ args s v s', args.length = n → FnCut N g args s = some (v, s') → EndsD g (startD N args) s v s' := fun args s v s' _ h => by
  unfold FnCut at h
  split at h
  · rename_i w t e
    split at h
    · rename_i hc
      cases h
      have hl : (t.take s.length).length = s.length := by rw [List.length_take]; omega
      refine ⟨t.drop s.length, .inl (by rw [List.take_append_drop]; exact e), by rw [hl]; exact Nat.le_refl _, .inr ?_⟩
      rw [hl]
      exact hc.2
    · cases h
  · cases h
theorem fnOf_eq {N : List Str} {g : SF} {args : List Vd} {s s' : Sto} {v : Vd} (h : g (startD N args) s = some (.rt v s')) (hl : s.length ≤ s'.length) : FnOf N g args s = some (v, s') := by
  unfold FnOf
  rw [h]
  exact if_pos hl
theorem fnCut_eq {N : List Str} {g : SF} {args : List Vd} {s s' j : Sto} {v : Vd} (h : g (startD N args) s = some (.rt v (s' ++ j))) (hl : s.length = s'.length) (hc : Clo s'.length s') (hv : CloV s'.length v) : FnCut N g args s = some (v, s') := by
  unfold FnCut
  rw [h]
  have e : (s' ++ j).take s.length = s' := by rw [hl]; simp
  have c : s.length ≤ (s' ++ j).length ∧ Clo s.length ((s' ++ j).take s.length) ∧ CloV s.length v := by
    rw [e, hl]
    exact ⟨by simp, hc, hv⟩
  simp only [if_pos c, e]
/-! ### evaluating -/
theorem ev_var {ρ : Env} {st : Sto} {i : Nat} {v : Vd} (h : ρ[i]? = some (some v)) : eVar i ρ st = some (v, st) := by
  unfold eVar
  rw [h]
theorem ev_op {ρ : Env} {st st1 st2 : Sto} {a b : EF} {va vb : Vd} {x y z : PyData} {g : PyData → PyData → Option PyData} (ha : a ρ st = some (va, st1)) (hb : b ρ st1 = some (vb, st2)) (hx : lookR st2 va = some x) (hy : lookR st2 vb = some y) (hg : g x y = some z) : eOp g a b ρ st = some (.d z, st2) := by
  unfold eOp
  simp only [ha, hb, hx, hy, hg, Option.map_some]
/-! the operations on ints -/
theorem shaped_int (i : Int) : SeqAt.shaped (.int i) = true := by simp [SeqAt.shaped, PyData.canLay0, PyData.depth]
theorem shaped_str {x : Str} (h : PyData.strOk x = true) : SeqAt.shaped (.str x) = true := by simp [SeqAt.shaped, PyData.canLay0, PyData.depth, h]
theorem shaped_bool (x : Bool) : SeqAt.shaped (.bool x) = true := by simp [SeqAt.shaped, PyData.canLay0, PyData.depth]
theorem eqv_int (i j : Int) : PyData.eqv (.int i) (.int j) = decide (i = j) := by simp [PyData.eqv, Bool.beq_eq_decide_eq]
theorem gEq_int (i j : Int) : gEq (.int i) (.int j) = some (.bool (decide (i = j))) := by
  unfold gEq
  rw [if_pos ⟨shaped_int i, shaped_int j⟩, eqv_int]
theorem gNe_int (i j : Int) : gNe (.int i) (.int j) = some (.bool (!decide (i = j))) := by
  unfold gNe
  rw [if_pos ⟨shaped_int i, shaped_int j⟩, eqv_int]
theorem alike_int (i j : Int) : PySem.W.alike (.int i) (.int j) = true := by simp [PySem.W.alike]
theorem gCm_int (f : PyData → PyData → Bool) (i j : Int) : gCm f (.int i) (.int j) = some (.bool (f (.int i) (.int j))) := by
  unfold gCm
  rw [if_pos]
  simp [alike_int, isNon, PyData.depth]
theorem lt_int_ (i j : Int) : PySem.W.dataLt (.int i) (.int j) = decide (i < j) := PySem.W.dataLt_int i j
theorem gAdd_int (i j : Int) : gAdd (.int i) (.int j) = some (.int (i + j)) := rfl
theorem gSub_int (i j : Int) : Dl.gSub (.int i) (.int j) = some (.int (i - j)) := rfl
theorem gMod_int {i j : Int} (h : 0 < j) : gMod (.int i) (.int j) = some (.int (i % j)) := if_pos h
theorem gDiv_int {i j : Int} (h : 0 < j) (h2 : j.natAbs.log2 < 9000) : gDiv (.int i) (.int j) = some (.int (i / j)) := if_pos ⟨h, h2⟩
theorem gMul_int {i j : Int} (h : i.natAbs.log2 + j.natAbs.log2 < 1000000) : gMulD (.int i) (.int j) = some (.int (i * j)) := if_pos (.inl h)
theorem gMul_l {i j : Int} (h : -(2 ^ 64) < i ∧ i < 2 ^ 64) : gMulD (.int i) (.int j) = some (.int (i * j)) := if_pos (.inr (.inl h))
theorem gMul_r {i j : Int} (h : -(2 ^ 64) < j ∧ j < 2 ^ 64) : gMulD (.int i) (.int j) = some (.int (i * j)) := if_pos (.inr (.inr h))
theorem gPow_int {i j : Int} (h0 : 0 ≤ j) (h1 : j ≤ 1000000) (h2 : i.natAbs < 2 ^ 64) : gPow (.int i) (.int j) = some (.int (i ^ j.toNat)) := if_pos ⟨h0, h1, h2⟩
theorem log2_le {n k : Nat} (h : n < 2 ^ k) (hk : 0 < k) : n.log2 < k := by
  by_cases hn : n = 0
  · subst hn
    simpa using hk
  · exact (Nat.log2_lt hn).mpr h
theorem atI_nat_ {α : Type} (xs : List α) (n : Nat) : atI xs (n : Int) = xs[n]? := by
  unfold atI ixN
  rw [if_pos (by omega)]
  by_cases h : (n : Int) < xs.length
  · rw [if_pos h]
    simp
  · rw [if_neg h]
    have : xs.length ≤ n := by omega
    simp [this]
theorem atI_zero {α : Type} (x : α) (xs : List α) : atI (x :: xs) 0 = some x := by
  have := atI_nat_ (x :: xs) 0
  simpa using this
theorem ixN_nat (m n : Nat) : ixN m (n : Int) = if n < m then some n else none := by
  unfold ixN
  rw [if_pos (by omega)]
  by_cases h : n < m
  · rw [if_pos h, if_pos (by omega)]
    simp
  · rw [if_neg h, if_neg (by omega)]
theorem ev_seq {f g : SF} {ρ ρ1 : Env} {st st1 : Sto} (h : f ρ st = some (.nx ρ1 st1)) : sSeq f g ρ st = g ρ1 st1 := by
  unfold sSeq
  rw [h]
theorem ev_seq_rt {f g : SF} {ρ : Env} {st st1 : Sto} {v : Vd} (h : f ρ st = some (.rt v st1)) : sSeq f g ρ st = some (.rt v st1) := by
  unfold sSeq
  rw [h]
theorem ev_if_t {c : BF} {f g : SF} {ρ : Env} {st st1 : Sto} (h : c ρ st = some (true, st1)) : sIf c f g ρ st = f ρ st1 := by
  unfold sIf
  rw [h]
theorem ev_if_f {c : BF} {f g : SF} {ρ : Env} {st st1 : Sto} (h : c ρ st = some (false, st1)) : sIf c f g ρ st = g ρ st1 := by
  unfold sIf
  rw [h]
theorem gAdd_fit {xs ys : List PyData} (h : xs.length + ys.length ≤ 16000000) : gAdd (.list xs) (.list ys) = some (.list (xs ++ ys)) := if_pos (Nat.le_trans h (by decide))
theorem gAdd_fitT {xs ys : List PyData} (h : xs.length + ys.length ≤ 16000000) : gAdd (.tuple xs) (.tuple ys) = some (.tuple (xs ++ ys)) := if_pos (Nat.le_trans h (by decide))
theorem line16 {n : Nat} (h : n ≤ 16000000) : n ≤ sizeLine := Nat.le_trans h (by decide)
end Dl

set_option Elab.async false
set_option linter.all false
set_option maxRecDepth 100000
set_option maxHeartbeats 4000000
namespace Dl
open PySem PySem.Spec PyProof.Rows L2 Pg
/-! ### what holds of a result: the meanings walked from the front, values first -/
/- simp goes into the result, never into what is to hold of it: another argument hangs on it -/
inductive Tg {α : Sort u} (Q : α) : Type | mk
def R1 {α : Type} (o : Option α) (Q : α → Prop) (_t : Tg Q := .mk) : Prop := ∃ x, o = some x ∧ Q x
def R2 {α β : Type} (o : Option (α × β)) (Q : α → β → Prop) (_t : Tg Q := .mk) : Prop := ∃ a b, o = some (a, b) ∧ Q a b
theorem R1.mono {α : Type} {o : Option α} {P Q : α → Prop} (h : R1 o P) (f : ∀ x, P x → Q x) : R1 o Q := by
  obtain ⟨x, e, p⟩ := h
  exact ⟨x, e, f x p⟩
theorem R2.mono {α β : Type} {o : Option (α × β)} {P Q : α → β → Prop} (h : R2 o P) (f : ∀ a b, P a b → Q a b) : R2 o Q := by
  obtain ⟨x, y, e, p⟩ := h
  exact ⟨x, y, e, f x y p⟩
theorem r1_some {α : Type} {x : α} {Q : α → Prop} : R1 (some x) Q ↔ Q x := ⟨fun ⟨_, e, q⟩ => by cases e; exact q, fun q => ⟨x, rfl, q⟩⟩
theorem r1_none {α : Type} {Q : α → Prop} : R1 none Q ↔ False := ⟨fun ⟨_, e, _⟩ => (by cases e), fun q => q.elim⟩
theorem r2_some {α β : Type} {x : α} {y : β} {Q : α → β → Prop} : R2 (some (x, y)) Q ↔ Q x y := ⟨fun ⟨_, _, e, q⟩ => by cases e; exact q, fun q => ⟨x, y, rfl, q⟩⟩
theorem r1_map {α β : Type} {o : Option α} {f : α → β} {Q : β → Prop} : R1 (o.map f) Q ↔ R1 o fun x => Q (f x) := by
  cases o with
  | none => exact ⟨fun h => (r1_none.mp h).elim, fun h => (r1_none.mp h).elim⟩
  | some x => exact ⟨fun h => r1_some.mpr (r1_some (x := f x).mp h), fun h => r1_some (x := f x).mpr (r1_some (x := x) (Q := fun x => Q (f x)).mp h)⟩
theorem r1_if {α : Type} {c : Prop} [Decidable c] {x : α} {Q : α → Prop} : R1 (if c then some x else none) Q ↔ c ∧ Q x := by
  by_cases h : c
  · rw [if_pos h, r1_some]
    exact ⟨fun q => ⟨h, q⟩, fun q => q.2⟩
  · rw [if_neg h, r1_none]
    exact ⟨fun q => q.elim, fun q => (h q.1).elim⟩
variable {ρ : Env} {st : Sto} {a b : EF} {fa fr : AF} {c d : BF} {Q : Vd → Sto → Prop} {Qb : Bool → Sto → Prop} {Qa : List Vd → Sto → Prop} {Qs : Out → Prop}
theorem r_var {i : Nat} : R2 (eVar i ρ st) Q ↔ R1 ρ[i]? fun o => R1 o fun v => Q v st := by
  unfold eVar
  split
  · rename_i v e
    rw [r2_some, e, r1_some, r1_some]
  · rename_i h
    refine ⟨fun ⟨_, _, e, _⟩ => (by cases e), fun ⟨o, e, v, e2, _⟩ => ?_⟩
    subst e2
    exact (h v e).elim
theorem r_c {x : PyData} : R2 (eC x ρ st) Q ↔ Q (.d x) st := r2_some
theorem r_op {g : PyData → PyData → Option PyData} : R2 (eOp g a b ρ st) Q ↔ R2 (a ρ st) fun va s1 => R2 (b ρ s1) fun vb s2 => R1 (lookR s2 va) fun x => R1 (lookR s2 vb) fun y => R1 (g x y) fun z => Q (.d z) s2 := by
  unfold eOp
  constructor
  · rintro ⟨v, s, e, q⟩
    revert e
    split
    · rename_i va s1 e1
      split
      · rename_i vb s2 e2
        split
        · rename_i x y e3 e4
          intro e
          obtain ⟨z, e5, e6⟩ := Option.map_eq_some_iff.mp e
          cases e6
          exact ⟨va, s1, e1, vb, _, e2, x, e3, y, e4, z, e5, q⟩
        · intro e; cases e
      · intro e; cases e
    · intro e; cases e
  · rintro ⟨va, s1, e1, vb, s2, e2, x, e3, y, e4, z, e5, q⟩
    refine ⟨.d z, s2, ?_, q⟩
    simp only [e1, e2, e3, e4, e5, Option.map_some]
theorem r_fz : R2 (eFz a ρ st) Q ↔ R2 (a ρ st) fun v s => match v with
    | .d x => Q (.d x) s
    | .r n => R1 (lookR s (.r n)) fun x => Q (.d x) (s.set n .dead) := by
  unfold eFz
  constructor
  · rintro ⟨v, s, e, q⟩
    revert e
    split
    · rename_i x s1 e1
      intro e; cases e
      exact ⟨_, _, e1, q⟩
    · rename_i n s1 e1
      split
      · rename_i x e2
        intro e; cases e
        exact ⟨_, _, e1, x, e2, q⟩
      · intro e; cases e
    · intro e; cases e
  · rintro ⟨v, s, e1, q⟩
    cases v with
    | d x => exact ⟨_, _, by simp only [e1], q⟩
    | r n =>
      obtain ⟨x, e2, q⟩ := q
      exact ⟨_, _, by simp only [e1, e2], q⟩
theorem r_bval : R2 (bVal a ρ st) Qb ↔ R2 (a ρ st) fun v s => match v with
    | .d (.bool x) => Qb x s
    | _ => False := by
  unfold bVal
  constructor
  · rintro ⟨v, s, e, q⟩
    revert e
    split
    · rename_i x s1 e1
      intro e; cases e
      exact ⟨_, _, e1, q⟩
    · intro e; cases e
  · rintro ⟨v, s, e1, q⟩
    split at q
    · exact ⟨_, _, by simp only [e1], q⟩
    · exact q.elim
theorem r_btru : R2 (bTru a ρ st) Qb ↔ R2 (a ρ st) fun v s => R1 (lookR s v) fun x => R1 (truD x) fun y => Qb y s := by
  unfold bTru
  constructor
  · rintro ⟨v, s, e, q⟩
    revert e
    split
    · rename_i va s1 e1
      split
      · rename_i x e2
        intro e
        obtain ⟨z, e5, e6⟩ := Option.map_eq_some_iff.mp e
        cases e6
        exact ⟨va, _, e1, x, e2, _, e5, q⟩
      · intro e; cases e
    · intro e; cases e
  · rintro ⟨va, s1, e1, x, e2, y, e3, q⟩
    exact ⟨y, s1, by simp only [e1, e2, e3, Option.map_some], q⟩
theorem r_band : R2 (bAnd c d ρ st) Qb ↔ R2 (c ρ st) fun x s => match x with
    | true => R2 (d ρ s) Qb
    | false => Qb false s := by
  unfold bAnd
  constructor
  · rintro ⟨v, s, e, q⟩
    revert e
    split
    · rename_i s1 e1
      exact fun e => ⟨_, _, e1, v, s, e, q⟩
    · rename_i s1 e1
      intro e; cases e
      exact ⟨_, _, e1, q⟩
    · intro e; cases e
  · rintro ⟨x, s, e1, q⟩
    cases x with
    | true =>
      obtain ⟨v, s2, e2, q⟩ := q
      exact ⟨v, s2, by simp only [e1, e2], q⟩
    | false => exact ⟨_, _, by simp only [e1], q⟩
theorem r_bor : R2 (bOr c d ρ st) Qb ↔ R2 (c ρ st) fun x s => match x with
    | true => Qb true s
    | false => R2 (d ρ s) Qb := by
  unfold bOr
  constructor
  · rintro ⟨v, s, e, q⟩
    revert e
    split
    · rename_i s1 e1
      intro e; cases e
      exact ⟨_, _, e1, q⟩
    · rename_i s1 e1
      exact fun e => ⟨_, _, e1, v, s, e, q⟩
    · intro e; cases e
  · rintro ⟨x, s, e1, q⟩
    cases x with
    | false =>
      obtain ⟨v, s2, e2, q⟩ := q
      exact ⟨v, s2, by simp only [e1, e2], q⟩
    | true => exact ⟨_, _, by simp only [e1], q⟩
theorem r_bnot : R2 (bNot c ρ st) Qb ↔ R2 (c ρ st) fun x s => Qb (!x) s := by
  unfold bNot
  constructor
  · rintro ⟨v, s, e, q⟩
    revert e
    split
    · rename_i x s1 e1
      intro e; cases e
      exact ⟨_, _, e1, q⟩
    · intro e; cases e
  · rintro ⟨x, s, e1, q⟩
    exact ⟨_, _, by simp only [e1], q⟩
theorem r_if : R2 (eIf c a b ρ st) Q ↔ R2 (c ρ st) fun x s => match x with
    | true => R2 (a ρ s) Q
    | false => R2 (b ρ s) Q := by
  unfold eIf
  constructor
  · rintro ⟨v, s, e, q⟩
    revert e
    split
    · rename_i s1 e1
      exact fun e => ⟨_, _, e1, v, s, e, q⟩
    · rename_i s1 e1
      exact fun e => ⟨_, _, e1, v, s, e, q⟩
    · intro e; cases e
  · rintro ⟨x, s, e1, q⟩
    cases x <;> (obtain ⟨v, s2, e2, q⟩ := q; exact ⟨v, s2, by simp only [e1, e2], q⟩)
theorem r_and : R2 (eAnd a b ρ st) Q ↔ R2 (a ρ st) fun v s => R1 (lookR s v) fun x => R1 (truD x) fun y => match y with
    | true => R2 (b ρ s) Q
    | false => Q v s := by
  unfold eAnd
  constructor
  · rintro ⟨v, s, e, q⟩
    revert e
    split
    · rename_i va s1 e1
      split
      · rename_i x e2
        split
        · rename_i e3
          exact fun e => ⟨_, _, e1, _, e2, _, e3, _, _, e, q⟩
        · rename_i e3
          intro e; cases e
          exact ⟨_, _, e1, _, e2, _, e3, q⟩
        · intro e; cases e
      · intro e; cases e
    · intro e; cases e
  · rintro ⟨va, s1, e1, x, e2, y, e3, q⟩
    cases y with
    | true =>
      obtain ⟨v, s2, e4, q⟩ := q
      exact ⟨v, s2, by simp only [e1, e2, e3, e4], q⟩
    | false => exact ⟨_, _, by simp only [e1, e2, e3], q⟩
theorem r_or : R2 (eOr a b ρ st) Q ↔ R2 (a ρ st) fun v s => R1 (lookR s v) fun x => R1 (truD x) fun y => match y with
    | true => Q v s
    | false => R2 (b ρ s) Q := by
  unfold eOr
  constructor
  · rintro ⟨v, s, e, q⟩
    revert e
    split
    · rename_i va s1 e1
      split
      · rename_i x e2
        split
        · rename_i e3
          intro e; cases e
          exact ⟨_, _, e1, _, e2, _, e3, q⟩
        · rename_i e3
          exact fun e => ⟨_, _, e1, _, e2, _, e3, _, _, e, q⟩
        · intro e; cases e
      · intro e; cases e
    · intro e; cases e
  · rintro ⟨va, s1, e1, x, e2, y, e3, q⟩
    cases y with
    | false =>
      obtain ⟨v, s2, e4, q⟩ := q
      exact ⟨v, s2, by simp only [e1, e2, e3, e4], q⟩
    | true => exact ⟨_, _, by simp only [e1, e2, e3], q⟩
theorem r_not : R2 (eNot a ρ st) Q ↔ R2 (a ρ st) fun v s => R1 (lookR s v) fun x => R1 (truD x) fun y => Q (.d (.bool !y)) s := by
  unfold eNot
  constructor
  · rintro ⟨v, s, e, q⟩
    revert e
    split
    · rename_i va s1 e1
      split
      · rename_i x e2
        intro e
        obtain ⟨z, e5, e6⟩ := Option.map_eq_some_iff.mp e
        cases e6
        exact ⟨va, _, e1, x, e2, _, e5, q⟩
      · intro e; cases e
    · intro e; cases e
  · rintro ⟨va, s1, e1, x, e2, y, e3, q⟩
    exact ⟨_, s1, by simp only [e1, e2, e3, Option.map_some], q⟩
theorem r_nil : R2 (aNil ρ st) Qa ↔ Qa [] st := r2_some
theorem r_cons : R2 (aCons a fr ρ st) Qa ↔ R2 (a ρ st) fun v s1 => R2 (fr ρ s1) fun vs s2 => Qa (v :: vs) s2 := by
  unfold aCons
  constructor
  · rintro ⟨v, s, e, q⟩
    revert e
    split
    · rename_i va s1 e1
      split
      · rename_i vs s2 e2
        intro e; cases e
        exact ⟨_, _, e1, _, _, e2, q⟩
      · intro e; cases e
    · intro e; cases e
  · rintro ⟨va, s1, e1, vs, s2, e2, q⟩
    exact ⟨_, _, by simp only [e1, e2], q⟩
theorem r_tup : R2 (eTup fa ρ st) Q ↔ R2 (fa ρ st) fun vs s => R1 (datas vs) fun xs => xs.length ≤ sizeLine ∧ Q (.d (.tuple xs)) s := by
  unfold eTup
  constructor
  · rintro ⟨v, s, e, q⟩
    revert e
    split
    · rename_i va s1 e1
      split
      · rename_i xs e2
        split
        · rename_i hl
          intro e; cases e
          exact ⟨_, _, e1, _, e2, hl, q⟩
        · intro e; cases e
      · intro e; cases e
    · intro e; cases e
  · rintro ⟨va, s1, e1, xs, e2, hl, q⟩
    exact ⟨_, _, by simp only [e1, e2, if_pos hl], q⟩
theorem r_lst : R2 (eLst fa ρ st) Q ↔ R2 (fa ρ st) fun vs s => R1 (datas vs) fun xs => xs.length ≤ sizeLine ∧ Q (.d (.list xs)) s := by
  unfold eLst
  constructor
  · rintro ⟨v, s, e, q⟩
    revert e
    split
    · rename_i va s1 e1
      split
      · rename_i xs e2
        split
        · rename_i hl
          intro e; cases e
          exact ⟨_, _, e1, _, e2, hl, q⟩
        · intro e; cases e
      · intro e; cases e
    · intro e; cases e
  · rintro ⟨va, s1, e1, xs, e2, hl, q⟩
    exact ⟨_, _, by simp only [e1, e2, if_pos hl], q⟩
theorem r_lstN : R2 (eLstN fa ρ st) Q ↔ R2 (fa ρ st) fun vs s => vs.length ≤ sizeLine ∧ Q (.r s.length) (s ++ [.lst vs]) := by
  unfold eLstN
  constructor
  · rintro ⟨v, s, e, q⟩
    revert e
    split
    · rename_i va s1 e1
      split
      · rename_i hl
        intro e; cases e
        exact ⟨_, _, e1, hl, q⟩
      · intro e; cases e
    · intro e; cases e
  · rintro ⟨va, s1, e1, hl, q⟩
    exact ⟨_, _, by simp only [e1, if_pos hl], q⟩
theorem r_cb {g : List PyData → Option PyData} : R2 (eCB g fa ρ st) Q ↔ R2 (fa ρ st) fun vs s => R1 (looks s vs) fun xs => R1 (g xs) fun z => Q (.d z) s := by
  unfold eCB
  constructor
  · rintro ⟨v, s, e, q⟩
    revert e
    split
    · rename_i va s1 e1
      split
      · rename_i x e2
        intro e
        obtain ⟨z, e5, e6⟩ := Option.map_eq_some_iff.mp e
        cases e6
        exact ⟨va, _, e1, x, e2, _, e5, q⟩
      · intro e; cases e
    · intro e; cases e
  · rintro ⟨va, s1, e1, x, e2, y, e3, q⟩
    exact ⟨_, s1, by simp only [e1, e2, e3, Option.map_some], q⟩
theorem r_is {k : Kq} : R2 (eIs k a ρ st) Q ↔ R2 (a ρ st) fun v s => R1 (lookR s v) fun x => Q (.d (.bool (isK k x))) s := by
  unfold eIs
  constructor
  · rintro ⟨v, s, e, q⟩
    revert e
    split
    · rename_i va s1 e1
      split
      · rename_i x e2
        intro e; cases e
        exact ⟨va, _, e1, x, e2, q⟩
      · intro e; cases e
    · intro e; cases e
  · rintro ⟨va, s1, e1, x, e2, q⟩
    exact ⟨_, s1, by simp only [e1, e2], q⟩
theorem r_call {n : Nat} {F : FF} : R2 (eCall n F fa ρ st) Q ↔ R2 (fa ρ st) fun vs s => vs.length = n ∧ R2 (F vs s) Q := by
  unfold eCall
  constructor
  · rintro ⟨v, s, e, q⟩
    revert e
    split
    · rename_i va s1 e1
      split
      · rename_i hl
        exact fun e => ⟨_, _, e1, hl, _, _, e, q⟩
      · intro e; cases e
    · intro e; cases e
  · rintro ⟨va, s1, e1, hl, v, s, e, q⟩
    exact ⟨_, _, by simp only [e1, if_pos hl, e], q⟩
theorem r_neg : R2 (eNeg a ρ st) Q ↔ R2 (a ρ st) fun v s => match v with
    | .d (.int i) => Q (.d (.int (-i))) s
    | _ => False := by
  unfold eNeg
  constructor
  · rintro ⟨v, s, e, q⟩
    revert e
    split
    · rename_i i s1 e1
      intro e; cases e
      exact ⟨_, _, e1, q⟩
    · intro e; cases e
  · rintro ⟨v, s, e1, q⟩
    split at q
    · exact ⟨_, _, by simp only [e1], q⟩
    · exact q.elim
theorem r_rev {i : Nat} {xs : List PyData} (h : ρ[i]? = some (some (.d (.tuple xs)))) : R2 (eRev i ρ st) Q ↔ Q (.d (.tuple xs.reverse)) st := by
  unfold eRev
  rw [h]
  exact r2_some
theorem r_chain {g g' : PyData → PyData → Option PyData} {e3 : EF} : R2 (eChain g g' a b e3 ρ st) Q ↔ R2 (a ρ st) fun va s1 => R2 (b ρ s1) fun vb s2 => R1 (lookR s2 va) fun x => R1 (lookR s2 vb) fun y => R1 (g x y) fun t => match t with
    | .bool true => R2 (e3 ρ s2) fun vc s3 => R1 (lookR s3 vb) fun y' => R1 (lookR s3 vc) fun z => R1 (g' y' z) fun u => Q (.d u) s3
    | .bool false => Q (.d (.bool false)) s2
    | _ => False := by
  unfold eChain
  constructor
  · rintro ⟨v, s, e, q⟩
    revert e
    split
    · rename_i va s1 e1
      split
      · rename_i vb s2 e2
        split
        · rename_i x y e3 e4
          split
          · rename_i e5
            split
            · rename_i vc s3 e6
              split
              · rename_i y' z e7 e8
                intro e
                obtain ⟨u, e9, e10⟩ := Option.map_eq_some_iff.mp e
                cases e10
                exact ⟨_, _, e1, _, _, e2, _, e3, _, e4, _, e5, _, _, e6, _, e7, _, e8, _, e9, q⟩
              · intro e; cases e
            · intro e; cases e
          · rename_i e5
            intro e; cases e
            exact ⟨_, _, e1, _, _, e2, _, e3, _, e4, _, e5, q⟩
          · intro e; cases e
        · intro e; cases e
      · intro e; cases e
    · intro e; cases e
  · rintro ⟨va, s1, e1, vb, s2, e2, x, e3, y, e4, t, e5, q⟩
    split at q
    · obtain ⟨vc, s3, e6, y', e7, z, e8, u, e9, q⟩ := q
      exact ⟨_, _, by simp only [e1, e2, e3, e4, e5, e6, e7, e8, e9, Option.map_some], q⟩
    · exact ⟨_, _, by simp only [e1, e2, e3, e4, e5], q⟩
    · exact q.elim
theorem gMul_str {z : Str} {n : Int} (h : 2 ≤ n ∧ n ≤ 1000 ∧ 0 < z.length ∧ z.length ≤ 1000) : gMulD (.str z) (.int n) = some (.str (repStr z n)) := if_pos h
/-! slices -/
theorem ro_no {Qo : Option Int → Sto → Prop} : R2 (oNo ρ st) Qo ↔ Qo none st := r2_some
theorem ro_some {Qo : Option Int → Sto → Prop} : R2 (oSome a ρ st) Qo ↔ R2 (a ρ st) fun v s => match v with
    | .d (.int i) => Qo (some i) s
    | _ => False := by
  unfold oSome
  constructor
  · rintro ⟨v, s, e, q⟩
    revert e
    split
    · rename_i x s1 e1
      intro e; cases e
      exact ⟨_, _, e1, q⟩
    · intro e; cases e
  · rintro ⟨v, s, e1, q⟩
    split at q
    · exact ⟨_, _, by simp only [e1], q⟩
    · exact q.elim
theorem r_sl {lo hi : OF} : R2 (eSl a lo hi ρ st) Q ↔ R2 (a ρ st) fun v s1 => R2 (lo ρ s1) fun l s2 => R2 (hi ρ s2) fun h s3 => R1 (lookR s3 v) fun x => R1 (gSl l h x) fun z => Q (.d z) s3 := by
  unfold eSl
  constructor
  · rintro ⟨v, s, e, q⟩
    revert e
    split
    · rename_i va s1 e1
      split
      · rename_i l s2 e2
        split
        · rename_i h s3 e3
          split
          · rename_i x e4
            intro e
            obtain ⟨z, e5, e6⟩ := Option.map_eq_some_iff.mp e
            cases e6
            exact ⟨_, _, e1, _, _, e2, _, _, e3, _, e4, _, e5, q⟩
          · intro e; cases e
        · intro e; cases e
      · intro e; cases e
    · intro e; cases e
  · rintro ⟨va, s1, e1, l, s2, e2, h, s3, e3, x, e4, z, e5, q⟩
    exact ⟨_, _, by simp only [e1, e2, e3, e4, e5, Option.map_some], q⟩
theorem look_d {x : PyData} : lookR st (.d x) = some x := rfl
theorem looks_nil : looks st [] = some [] := rfl
theorem looks_d {x : PyData} {r : List Vd} : looks st (.d x :: r) = (looks st r).map (x :: ·) := by
  show (match lookR st (.d x), looks st r with
    | some x, some xs => some (x :: xs)
    | _, _ => none) = _
  rw [look_d]
  cases looks st r <;> rfl
theorem datas_nil : datas [] = some [] := rfl
theorem datas_d {x : PyData} {r : List Vd} : datas (.d x :: r) = (datas r).map (x :: ·) := rfl
theorem tru_b {x : Bool} : truD (.bool x) = some x := rfl
theorem tru_i {x : Int} : truD (.int x) = some (x != 0) := rfl
theorem r_ixC : R2 (eIxC a b ρ st) Q ↔ R2 (a ρ st) fun v s1 => match v with
    | .r n => R2 (b ρ s1) fun u s2 => match u with
      | .d (.int i) => R1 s2[n]? fun k => match k with
        | .lst xs => R1 (atI xs i) fun w => Q w s2
        | _ => False
      | _ => False
    | _ => False := by
  unfold eIxC
  constructor
  · rintro ⟨v, s, e, q⟩
    revert e
    split
    · rename_i n s1 e1
      split
      · rename_i i s2 e2
        split
        · rename_i xs e3
          intro e
          obtain ⟨w, e4, e5⟩ := Option.map_eq_some_iff.mp e
          cases e5
          exact ⟨_, _, e1, _, _, e2, _, e3, _, e4, q⟩
        · intro e; cases e
      · intro e; cases e
    · intro e; cases e
  · rintro ⟨v, s1, e1, q⟩
    cases v with
    | d x => exact q.elim
    | r n =>
      obtain ⟨u, s2, e2, q⟩ := q
      split at q
      · obtain ⟨k, e3, q⟩ := q
        cases k with
        | lst xs =>
          obtain ⟨w, e4, q⟩ := q
          exact ⟨_, _, by simp only [e1, e2, e3, e4, Option.map_some], q⟩
        | _ => exact q.elim
      · exact q.elim
/-! targets, statements -/
variable {f g : SF} {t : TF}
theorem rt_nm {i : Nat} {v : Vd} {Qt : Env → Sto → Prop} : R2 (tNm i v ρ st) Qt ↔ Qt (ρ.set i (some v)) st := r2_some
theorem rs_next : R1 (sNext ρ st) Qs ↔ Qs (.nx ρ st) := r1_some
theorem rs_ret : R1 (sRet a ρ st) Qs ↔ R2 (a ρ st) fun v s => Qs (.rt v s) := by
  unfold sRet
  constructor
  · rintro ⟨o, e, q⟩
    revert e
    split
    · rename_i v s e1
      intro e; cases e
      exact ⟨_, _, e1, q⟩
    · intro e; cases e
  · rintro ⟨v, s, e1, q⟩
    exact ⟨_, by simp only [e1], q⟩
theorem rs_seq : R1 (sSeq f g ρ st) Qs ↔ R1 (f ρ st) fun o => match o with
    | .nx ρ1 st1 => R1 (g ρ1 st1) Qs
    | o => Qs o := by
  unfold sSeq
  constructor
  · rintro ⟨o, e, q⟩
    revert e
    split
    · rename_i v s e1
      exact fun e => ⟨_, e1, _, e, q⟩
    · rename_i h
      intro e
      refine ⟨o, e, ?_⟩
      cases o with
      | nx ρ1 s1 => exact (h _ _ e).elim
      | _ => exact q
  · rintro ⟨o, e1, q⟩
    cases o with
    | nx ρ1 s1 =>
      obtain ⟨o2, e2, q⟩ := q
      exact ⟨o2, by simp only [e1, e2], q⟩
    | _ => exact ⟨_, by simp only [e1], q⟩
theorem rs_if : R1 (sIf c f g ρ st) Qs ↔ R2 (c ρ st) fun x s => match x with
    | true => R1 (f ρ s) Qs
    | false => R1 (g ρ s) Qs := by
  unfold sIf
  constructor
  · rintro ⟨o, e, q⟩
    revert e
    split
    · rename_i s1 e1
      exact fun e => ⟨_, _, e1, _, e, q⟩
    · rename_i s1 e1
      exact fun e => ⟨_, _, e1, _, e, q⟩
    · intro e; cases e
  · rintro ⟨x, s, e1, q⟩
    cases x <;> (obtain ⟨o, e2, q⟩ := q; exact ⟨o, by simp only [e1, e2], q⟩)
theorem rs_asg : R1 (sAsg a t ρ st) Qs ↔ R2 (a ρ st) fun v s => R2 (t v ρ s) fun ρ1 s1 => Qs (.nx ρ1 s1) := by
  unfold sAsg
  constructor
  · rintro ⟨o, e, q⟩
    revert e
    split
    · rename_i v s e1
      split
      · rename_i ρ1 s1 e2
        intro e; cases e
        exact ⟨_, _, e1, _, _, e2, q⟩
      · intro e; cases e
    · intro e; cases e
  · rintro ⟨v, s, e1, ρ1, s1, e2, q⟩
    exact ⟨_, by simp only [e1, e2], q⟩
theorem rs_asgT {n : Nat} {u : TFs} : R1 (sAsgT fa n u ρ st) Qs ↔ R2 (fa ρ st) fun vs s => vs.length = n ∧ n ≤ 1000 ∧ R2 (u vs ρ s) fun ρ1 s1 => Qs (.nx ρ1 s1) := by
  unfold sAsgT
  constructor
  · rintro ⟨o, e, q⟩
    revert e
    split
    · rename_i v s e1
      split
      · rename_i hn
        split
        · rename_i ρ1 s1 e2
          intro e; cases e
          exact ⟨_, _, e1, hn.1, hn.2, _, _, e2, q⟩
        · intro e; cases e
      · intro e; cases e
    · intro e; cases e
  · rintro ⟨v, s, e1, h1, h2, ρ1, s1, e2, q⟩
    refine ⟨_, ?_, q⟩
    simp only [e1, if_pos (And.intro h1 h2), e2]
theorem rs_par {i j : Nat} : R1 (sPar i j fa ρ st) Qs ↔ R2 (fa ρ st) fun vs s => match vs with
    | [v, w] => Qs (.nx ((ρ.set i (some v)).set j (some w)) s)
    | _ => False := by
  unfold sPar
  constructor
  · rintro ⟨o, e, q⟩
    revert e
    split
    · rename_i v w s e1
      intro e; cases e
      exact ⟨_, _, e1, q⟩
    · intro e; cases e
  · rintro ⟨v, s, e1, q⟩
    split at q
    · exact ⟨_, by simp only [e1], q⟩
    · exact q.elim
theorem rt_nil {vs : List Vd} {Qt : Env → Sto → Prop} : R2 (tsNil vs ρ st) Qt ↔ vs = [] ∧ Qt ρ st := by
  unfold tsNil
  cases vs with
  | nil => exact ⟨fun h => ⟨rfl, r2_some.mp h⟩, fun h => r2_some.mpr h.2⟩
  | cons v r => exact ⟨fun ⟨_, _, e, _⟩ => (by cases e), fun h => nomatch h.1⟩
theorem rt_cons {v : Vd} {vs : List Vd} {u : TFs} {Qt : Env → Sto → Prop} : R2 (tsCons t u (v :: vs) ρ st) Qt ↔ R2 (t v ρ st) fun ρ1 s1 => R2 (u vs ρ1 s1) Qt := by
  unfold tsCons
  constructor
  · rintro ⟨o, s, e, q⟩
    revert e
    dsimp only
    split
    · rename_i ρ1 s1 e1
      exact fun e => ⟨_, _, e1, _, _, e, q⟩
    · intro e; cases e
  · rintro ⟨ρ1, s1, e1, ρ2, s2, e2, q⟩
    exact ⟨_, _, by simp only [e1, e2], q⟩
theorem rt_tp {n : Nat} {xs : List PyData} {u : TFs} {Qt : Env → Sto → Prop} : R2 (tTp n u (.d (.tuple xs)) ρ st) Qt ↔ xs.length = n ∧ R2 (u (xs.map .d) ρ st) Qt := by
  unfold tTp
  dsimp only
  by_cases h : xs.length = n
  · rw [if_pos h]
    exact ⟨fun q => ⟨h, q⟩, fun q => q.2⟩
  · rw [if_neg h]
    exact ⟨fun ⟨_, _, e, _⟩ => (by cases e), fun q => (h q.1).elim⟩
/-- x[i] op= y, x a cell that the right side leaves -/
theorem rs_augI {op : Int → Int → Int} {e3 : EF} {s1 s2 : Sto} {n j : Nat} {i u w : Int} {xs : List Vd} (h1 : a ρ st = some (.r n, s1)) (h2 : b ρ s1 = some (.d (.int i), s2)) (h3 : s2[n]? = some (.lst xs)) (h4 : ixN xs.length i = some j) (h5 : xs[j]? = some (.d (.int u))) (h6 : e3 ρ s2 = some (.d (.int w), s2)) :
    R1 (sAugI op a b e3 ρ st) Qs ↔ Qs (.nx ρ (s2.set n (.lst (xs.set j (.d (.int (op u w))))))) := by
  have e : sAugI op a b e3 ρ st = some (.nx ρ (s2.set n (.lst (xs.set j (.d (.int (op u w))))))) := by
    unfold sAugI
    simp only [h1, h2, h3, h4, h5, h6, if_true]
  rw [e, r1_some]
/-! comprehension, for -/
theorem ri_data {Qi : List Vd → Sto → Prop} : R2 (iData a ρ st) Qi ↔ R2 (a ρ st) fun v s => match v with
    | .d (.list xs) => Qi (xs.map .d) s
    | .d (.tuple xs) => Qi (xs.map .d) s
    | _ => False := by
  unfold iData
  constructor
  · rintro ⟨v, s, e, q⟩
    revert e
    split
    · rename_i xs s1 e1
      intro e; cases e
      exact ⟨_, _, e1, q⟩
    · rename_i xs s1 e1
      intro e; cases e
      exact ⟨_, _, e1, q⟩
    · intro e; cases e
  · rintro ⟨v, s, e1, q⟩
    split at q
    · exact ⟨_, _, by simp only [e1], q⟩
    · exact ⟨_, _, by simp only [e1], q⟩
    · exact q.elim
theorem ri_range1 {Qi : List Vd → Sto → Prop} : R2 (iRange1 fa ρ st) Qi ↔ R2 (fa ρ st) fun vs s => match vs with
    | [.d (.int j)] => -(2 ^ 62) ≤ j ∧ j < 2 ^ 62 ∧ Qi ((List.range j.toNat).map fun i : Nat => vInt i 0) s
    | _ => False := by
  unfold iRange1
  constructor
  · rintro ⟨v, s, e, q⟩
    revert e
    split
    · rename_i j s1 e1
      split
      · rename_i h
        intro e; cases e
        exact ⟨_, _, e1, h.1, h.2, q⟩
      · intro e; cases e
    · intro e; cases e
  · rintro ⟨v, s, e1, q⟩
    split at q
    · exact ⟨_, _, by simp only [e1]; rw [if_pos ⟨q.1, q.2.1⟩], q.2.2⟩
    · exact q.elim
theorem ri_range2 {Qi : List Vd → Sto → Prop} : R2 (iRange2 fa ρ st) Qi ↔ R2 (fa ρ st) fun vs s => match vs with
    | [.d (.int i), .d (.int j)] => -(2 ^ 62) ≤ i ∧ i < 2 ^ 62 ∧ -(2 ^ 62) ≤ j ∧ j < 2 ^ 62 ∧ Qi ((List.range (j - i).toNat).map fun k : Nat => vInt k i) s
    | _ => False := by
  unfold iRange2
  constructor
  · rintro ⟨v, s, e, q⟩
    revert e
    split
    · rename_i i j s1 e1
      split
      · rename_i h
        intro e; cases e
        exact ⟨_, _, e1, h.1, h.2.1, h.2.2.1, h.2.2.2, q⟩
      · intro e; cases e
    · intro e; cases e
  · rintro ⟨v, s, e1, q⟩
    split at q
    · exact ⟨_, _, by simp only [e1]; rw [if_pos ⟨q.1, q.2.1, q.2.2.1, q.2.2.2.1⟩], q.2.2.2.2⟩
    · exact q.elim
theorem ri_enum {Qi : List Vd → Sto → Prop} : R2 (iEnumL fa ρ st) Qi ↔ R2 (fa ρ st) fun vs s => match vs with
    | [.d (.list xs)] => Qi (enumD 0 xs) s
    | _ => False := by
  unfold iEnumL
  constructor
  · rintro ⟨v, s, e, q⟩
    revert e
    split
    · rename_i xs s1 e1
      intro e; cases e
      exact ⟨_, _, e1, q⟩
    · intro e; cases e
  · rintro ⟨v, s, e1, q⟩
    split at q
    · exact ⟨_, _, by simp only [e1], q⟩
    · exact q.elim
variable {i : IF} {own : List Nat}
theorem r_comp : R2 (eComp i t c a own ρ st) Q ↔ R2 (i ρ st) fun items s1 => R2 (compD t c a (wipeD ρ own) items s1) fun ws s2 => R1 (datas ws) fun xs => xs.length ≤ 16000000 ∧ Q (.d (.list xs)) s2 := by
  unfold eComp
  constructor
  · rintro ⟨v, s, e, q⟩
    revert e
    split
    · rename_i items s1 e1
      split
      · rename_i ws s2 e2
        split
        · rename_i xs e3
          split
          · rename_i hl
            intro e; cases e
            exact ⟨_, _, e1, _, _, e2, _, e3, hl, q⟩
          · intro e; cases e
        · intro e; cases e
      · intro e; cases e
    · intro e; cases e
  · rintro ⟨items, s1, e1, ws, s2, e2, xs, e3, hl, q⟩
    exact ⟨_, _, by simp only [e1, e2, e3, if_pos hl], q⟩
theorem datas_map (xs : List PyData) : datas (xs.map .d) = some xs := by
  induction xs with
  | nil => rfl
  | cons x xs ih =>
    show (datas (xs.map .d)).map (x :: ·) = _
    rw [ih]
    rfl
/-- a comprehension that takes all, item by item -/
theorem comp_inv {P : PyData → Prop} {I : Sto → Prop} : ∀ {items : List Vd} {st : Sto}, (∀ v ∈ items, ∀ s, I s → R2 (t v ρ s) fun ρ1 s1 => R2 (a ρ1 s1) fun w s3 => (∃ x, w = .d x ∧ P x) ∧ I s3) → I st →
    R2 (compD t bYes a ρ items st) fun ws s' => (∃ xs : List PyData, ws = xs.map .d ∧ (∀ x ∈ xs, P x) ∧ xs.length = items.length) ∧ I s'
  | [], st, _, h => r2_some.mpr ⟨⟨[], rfl, (fun _ h => nomatch h), rfl⟩, h⟩
  | v :: vs, st, f, h => by
    obtain ⟨ρ1, s1, e1, w, s3, e2, ⟨x, rfl, px⟩, i3⟩ := f v List.mem_cons_self st h
    obtain ⟨ws, s', e3, ⟨xs, rfl, ps, hl⟩, i4⟩ := comp_inv (fun u hu => f u (List.mem_cons_of_mem _ hu)) i3
    refine ⟨_, s', ?_, ⟨x :: xs, rfl, ?_, by rw [List.length_cons, List.length_cons, hl]⟩, i4⟩
    · unfold compD
      simp only [e1, e2, e3, bYes, Option.map_some, List.map_cons]
    · intro y hy
      rcases List.mem_cons.mp hy with rfl | hy
      · exact px
      · exact ps y hy
/-- .. where the store stays and the items are told -/
theorem comp_told {h : Vd → PyData} : ∀ {items : List Vd}, (∀ v ∈ items, R2 (t v ρ st) fun ρ1 s1 => R2 (a ρ1 s1) fun w s3 => w = .d (h v) ∧ s3 = st) → compD t bYes a ρ items st = some ((items.map h).map .d, st)
  | [], _ => rfl
  | v :: vs, f => by
    have ih := comp_told (h := h) (fun u hu => f u (List.mem_cons_of_mem _ hu))
    obtain ⟨ρ1, s1, e1, w, s3, e2, rfl, rfl⟩ := f v List.mem_cons_self
    unfold compD
    simp only [e1, e2, bYes, ih, Option.map_some, List.map_cons]
/-- .. where some are left out -/
theorem comp_sieve {h : Vd → PyData} {p : Vd → Bool} : ∀ {items : List Vd}, (∀ v ∈ items, R2 (t v ρ st) fun ρ1 s1 => R2 (c ρ1 s1) fun b s2 => b = p v ∧ s2 = st ∧ R2 (a ρ1 st) fun w s3 => w = .d (h v) ∧ s3 = st) → compD t c a ρ items st = some (((items.filter p).map h).map .d, st)
  | [], _ => rfl
  | v :: vs, f => by
    have ih := comp_sieve (h := h) (p := p) (fun u hu => f u (List.mem_cons_of_mem _ hu))
    obtain ⟨ρ1, s1, e1, b, s2, e2, rfl, rfl, w, s3, e3, rfl, rfl⟩ := f v List.mem_cons_self
    unfold compD
    cases hp : p v with
    | true =>
      rw [hp] at e2
      simp only [e1, e2, e3, ih, Option.map_some, List.filter_cons, hp, if_true, List.map_cons]
    | false =>
      rw [hp] at e2
      simp only [e1, e2, ih, List.filter_cons, hp, Bool.false_eq_true, if_false]
/-- .. with what holds of the results so far, what is left, and the store -/
theorem comp_go {I : List PyData → List Vd → Sto → Prop} (f : ∀ xs v vs s, I xs (v :: vs) s → R2 (t v ρ s) fun ρ1 s1 => R2 (a ρ1 s1) fun w s3 => ∃ x, w = .d x ∧ I (xs ++ [x]) vs s3) : ∀ {items : List Vd} {xs : List PyData} {st : Sto}, I xs items st →
    R2 (compD t bYes a ρ items st) fun ws s' => ∃ ys, ws = ys.map .d ∧ I (xs ++ ys) [] s'
  | [], xs, st, h => r2_some.mpr ⟨[], rfl, by rw [List.append_nil]; exact h⟩
  | v :: vs, xs, st, h => by
    obtain ⟨ρ1, s1, e1, w, s3, e2, x, rfl, i3⟩ := f xs v vs st h
    obtain ⟨ws, s', e3, ys, rfl, i4⟩ := comp_go f i3
    refine ⟨_, s', ?_, x :: ys, rfl, by rw [List.append_assoc] at i4; exact i4⟩
    unfold compD
    simp only [e1, e2, e3, bYes, Option.map_some, List.map_cons]
/-! a call, walked through its body -/
theorem rf_of {N : List Str} {g : SF} {args : List Vd} (h : R1 (g (startD N args) st) fun o => match o with
    | .rt v s => st.length ≤ s.length ∧ Q v s
    | _ => False) : R2 (FnOf N g args st) Q := by
  obtain ⟨o, e, q⟩ := h
  cases o with
  | rt v s => exact ⟨v, s, fnOf_eq e q.1, q.2⟩
  | _ => exact q.elim
theorem rf_cut {N : List Str} {g : SF} {args : List Vd} (h : R1 (g (startD N args) st) fun o => match o with
    | .rt v s => ∃ s' j, s = s' ++ j ∧ st.length = s'.length ∧ Clo s'.length s' ∧ CloV s'.length v ∧ Q v s'
    | _ => False) : R2 (FnCut N g args st) Q := by
  obtain ⟨o, e, q⟩ := h
  cases o with
  | rt v s =>
    obtain ⟨s', j, rfl, h1, h2, h3, q⟩ := q
    exact ⟨v, s', fnCut_eq e h1 h2 h3, q⟩
  | _ => exact q.elim
theorem rf_to {N : List Str} {g : SF} {args : List Vd} (h : R2 (FnOf N g args st) Q) : R1 (g (startD N args) st) fun o => match o with
    | .rt v s => Q v s
    | _ => False := by
  obtain ⟨v, s, e, q⟩ := h
  unfold FnOf at e
  split at e
  · rename_i w t e2
    split at e
    · cases e
      exact ⟨_, e2, q⟩
    · cases e
  · cases e
end Dl

set_option Elab.async false
set_option linter.all false
set_option maxRecDepth 100000
set_option maxHeartbeats 4000000
namespace Dl
open PySem PySem.Spec PyProof.Rows L2 Pg
/-! ### data whose repr is told: leaves, depth, weight -/
mutual
/-- integers up to 10^39 and k, texts of code points -/
def gd (k : Nat) : PyData → Bool
  | .none | .bool _ => true
  | .int i => decide (i.natAbs ≤ 10 ^ 39 + k)
  | .str x => PyData.strOk x
  | .list xs | .tuple xs => gdA k xs
  | .dict kvs => gdK k kvs
def gdA (k : Nat) : List PyData → Bool
  | [] => true
  | x :: xs => gd k x && gdA k xs
def gdK (k : Nat) : List (PyData × PyData) → Bool
  | [] => true
  | (a, b) :: r => gd k a && gd k b && gdK k r
end
theorem gdA_iff {k : Nat} : ∀ {xs : List PyData}, gdA k xs = true ↔ ∀ x ∈ xs, gd k x = true
  | [] => by simp [gdA]
  | x :: xs => by simp [gdA, gdA_iff (xs := xs)]
theorem depthAll_iff {n : Nat} : ∀ {xs : List PyData}, PyData.depthAll xs ≤ n ↔ ∀ x ∈ xs, x.depth ≤ n
  | [] => by simp [PyData.depthAll]
  | x :: xs => by simp [PyData.depthAll, Nat.max_le, depthAll_iff (xs := xs)]
theorem weightAll_app : ∀ {xs ys : List PyData}, PyData.weightAll (xs ++ ys) = PyData.weightAll xs + PyData.weightAll ys
  | [], ys => by simp [PyData.weightAll]
  | x :: xs, ys => by
    simp only [List.cons_append, PyData.weightAll, weightAll_app (xs := xs)]
    omega
theorem weightAll_le {w : Nat} : ∀ {xs : List PyData}, (∀ x ∈ xs, x.weight ≤ w) → PyData.weightAll xs ≤ xs.length * (w + 1)
  | [], _ => by simp [PyData.weightAll]
  | x :: xs, h => by
    have h1 := h x List.mem_cons_self
    have h2 := weightAll_le (xs := xs) fun y hy => h y (List.mem_cons_of_mem _ hy)
    simp only [PyData.weightAll, List.length_cons, Nat.add_mul]
    omega
theorem weight_mem {x : PyData} : ∀ {xs : List PyData}, x ∈ xs → x.weight + 1 ≤ PyData.weightAll xs
  | [], h => nomatch h
  | y :: ys, h => by
    simp only [PyData.weightAll]
    rcases List.mem_cons.mp h with rfl | h
    · omega
    · have := weight_mem h
      omega
theorem len_weight : ∀ {xs : List PyData}, xs.length ≤ PyData.weightAll xs
  | [] => by simp
  | x :: xs => by
    have := len_weight (xs := xs)
    simp only [PyData.weightAll, List.length_cons]
    omega
mutual
theorem gd_short {k : Nat} (hk : k ≤ 100) : ∀ d : PyData, gd k d = true → d.leavesShort 60 = true
  | .none, _ => rfl
  | .bool _, _ => rfl
  | .int i, h => by
    simp only [gd, decide_eq_true_eq] at h
    simp only [PyData.leavesShort, decide_eq_true_eq]
    have e := int_text_length_le10 (a := i) (k := 40) (by decide) (Nat.lt_of_le_of_lt h (by omega))
    show (Str.ofString (toString i)).length ≤ 60
    rw [PySem.ofString_length]
    omega
  | .str x, h => by
    simp only [gd, PyData.strOk] at h
    simp only [PyData.leavesShort, List.all_eq_true, decide_eq_true_eq]
    intro c hc
    have := Array.all_eq_true'.mp h c (Array.mem_toList_iff.mp hc)
    have := of_decide_eq_true this
    omega
  | .list xs, h => by simp only [PyData.leavesShort]; exact gdA_short hk xs (by simpa only [gd] using h)
  | .tuple xs, h => by simp only [PyData.leavesShort]; exact gdA_short hk xs (by simpa only [gd] using h)
  | .dict kvs, h => by simp only [PyData.leavesShort]; exact gdK_short hk kvs (by simpa only [gd] using h)
theorem gdA_short {k : Nat} (hk : k ≤ 100) : ∀ xs : List PyData, gdA k xs = true → PyData.leavesShortAll 60 xs = true
  | [], _ => rfl
  | x :: xs, h => by
    simp only [gdA, Bool.and_eq_true] at h
    simp only [PyData.leavesShortAll, Bool.and_eq_true]
    exact ⟨gd_short hk x h.1, gdA_short hk xs h.2⟩
theorem gdK_short {k : Nat} (hk : k ≤ 100) : ∀ kvs : List (PyData × PyData), gdK k kvs = true → PyData.leavesShortKv 60 kvs = true
  | [], _ => rfl
  | (a, b) :: r, h => by
    simp only [gdK, Bool.and_eq_true] at h
    simp only [PyData.leavesShortKv, Bool.and_eq_true]
    exact ⟨⟨gd_short hk a h.1.1, gd_short hk b h.1.2⟩, gdK_short hk r h.2⟩
end
theorem log2_39 {k : Nat} {i : Int} (hk : k ≤ 100) (h : i.natAbs ≤ 10 ^ 39 + k) : i.natAbs.log2 < 140 := log2_le (k := 140) (Nat.lt_of_le_of_lt h (Nat.lt_of_le_of_lt (Nat.add_le_add_left hk _) (by decide))) (by decide)
mutual
theorem gd_show {k : Nat} (hk : k ≤ 100) : ∀ d : PyData, gd k d = true → d.showable = true
  | .none, _ => rfl
  | .bool _, _ => rfl
  | .int i, h => by
    simp only [gd, decide_eq_true_eq] at h
    simp only [PyData.showable, decide_eq_true_eq]
    exact Nat.lt_of_lt_of_le (log2_39 hk h) (by decide)
  | .str x, h => rfl
  | .list xs, h => by simp only [PyData.showable]; exact gdA_show hk xs (by simpa only [gd] using h)
  | .tuple xs, h => by simp only [PyData.showable]; exact gdA_show hk xs (by simpa only [gd] using h)
  | .dict kvs, h => by simp only [PyData.showable]; exact gdK_show hk kvs (by simpa only [gd] using h)
theorem gdA_show {k : Nat} (hk : k ≤ 100) : ∀ xs : List PyData, gdA k xs = true → PyData.showableAll xs = true
  | [], _ => rfl
  | x :: xs, h => by
    simp only [gdA, Bool.and_eq_true] at h
    simp only [PyData.showableAll, Bool.and_eq_true]
    exact ⟨gd_show hk x h.1, gdA_show hk xs h.2⟩
theorem gdK_show {k : Nat} (hk : k ≤ 100) : ∀ kvs : List (PyData × PyData), gdK k kvs = true → PyData.showableKv kvs = true
  | [], _ => rfl
  | (a, b) :: r, h => by
    simp only [gdK, Bool.and_eq_true] at h
    simp only [PyData.showableKv, Bool.and_eq_true]
    exact ⟨⟨gd_show hk a h.1.1, gd_show hk b h.1.2⟩, gdK_show hk r h.2⟩
end
mutual
theorem gd_up {k j : Nat} (hk : k ≤ j) : ∀ d : PyData, gd k d = true → gd j d = true
  | .none, _ => rfl
  | .bool _, _ => rfl
  | .int i, h => by
    simp only [gd, decide_eq_true_eq] at h ⊢
    omega
  | .str x, h => h
  | .list xs, h => by simp only [gd]; exact gdA_up hk xs (by simpa only [gd] using h)
  | .tuple xs, h => by simp only [gd]; exact gdA_up hk xs (by simpa only [gd] using h)
  | .dict kvs, h => by simp only [gd]; exact gdK_up hk kvs (by simpa only [gd] using h)
theorem gdA_up {k j : Nat} (hk : k ≤ j) : ∀ xs : List PyData, gdA k xs = true → gdA j xs = true
  | [], _ => rfl
  | x :: xs, h => by
    simp only [gdA, Bool.and_eq_true] at h ⊢
    exact ⟨gd_up hk x h.1, gdA_up hk xs h.2⟩
theorem gdK_up {k j : Nat} (hk : k ≤ j) : ∀ kvs : List (PyData × PyData), gdK k kvs = true → gdK j kvs = true
  | [], _ => rfl
  | (a, b) :: r, h => by
    simp only [gdK, Bool.and_eq_true] at h ⊢
    exact ⟨⟨gd_up hk a h.1.1, gd_up hk b h.1.2⟩, gdK_up hk r h.2⟩
end
/-- data of at most n levels and weight W -/
structure Nic (k n W : Nat) (d : PyData) : Prop where
  g : gd k d = true
  dp : d.depth ≤ n
  wt : d.weight ≤ W
theorem Nic.up {k n W k' n' W' : Nat} {d : PyData} (h : Nic k n W d) (hk : k ≤ k') (hn : n ≤ n') (hw : W ≤ W') : Nic k' n' W' d := ⟨gd_up hk _ h.g, Nat.le_trans h.dp hn, Nat.le_trans h.wt hw⟩
theorem Nic.repr {k n W : Nat} {d : PyData} (h : Nic k n W d) (hk : k ≤ 100) (hn : n ≤ 60) (hw : W ≤ 250000) : gRepr [d] = some (.str d.shown) := by
  have h1 := PyData.shown_le 60 (by decide) d (gd_short hk d h.g)
  have h2 := h.wt
  have h3 := h.dp
  unfold gRepr
  dsimp only
  rw [if_pos]
  simp only [Bool.and_eq_true, decide_eq_true_eq]
  refine ⟨⟨by omega, gd_show hk d h.g⟩, Nat.le_trans (m := 16000000) ?_ (by decide)⟩
  have : (60 + 2) * d.weight ≤ 62 * 250000 := Nat.mul_le_mul (Nat.le_refl _) (by omega)
  omega
theorem Nic.leaf {k n : Nat} {d : PyData} (hg : gd k d = true) (hd : d.depth = 0) {W : Nat} (hw : d.weight ≤ W) : Nic k n W d := ⟨hg, by omega, hw⟩
theorem Nic.tup {k n W : Nat} {ds : List PyData} (h : ∀ d ∈ ds, gd k d = true ∧ d.depth ≤ n) (hw : PyData.weightAll ds ≤ W) : Nic k (n + 1) W (.tuple ds) := by
  refine ⟨?_, ?_, ?_⟩
  · simp only [gd]
    exact gdA_iff.mpr fun d hd => (h d hd).1
  · simp only [PyData.depth]
    exact Nat.succ_le_succ (depthAll_iff.mpr fun d hd => (h d hd).2)
  · simpa only [PyData.weight] using hw
theorem Nic.list {k n W : Nat} {ds : List PyData} (h : ∀ d ∈ ds, gd k d = true ∧ d.depth ≤ n) (hw : PyData.weightAll ds ≤ W) : Nic k (n + 1) W (.list ds) := by
  refine ⟨?_, ?_, ?_⟩
  · simp only [gd]
    exact gdA_iff.mpr fun d hd => (h d hd).1
  · simp only [PyData.depth]
    exact Nat.succ_le_succ (depthAll_iff.mpr fun d hd => (h d hd).2)
  · simpa only [PyData.weight] using hw
theorem gdK_of {k : Nat} : ∀ {kvs : List (PyData × PyData)}, (∀ p ∈ kvs, gd k p.1 = true ∧ gd k p.2 = true) → gdK k kvs = true
  | [], _ => rfl
  | (a, b) :: r, h => by
    have h1 := h (a, b) List.mem_cons_self
    simp only [gdK, Bool.and_eq_true]
    exact ⟨⟨h1.1, h1.2⟩, gdK_of fun p hp => h p (List.mem_cons_of_mem _ hp)⟩
theorem depthKv_of {n : Nat} : ∀ {kvs : List (PyData × PyData)}, (∀ p ∈ kvs, p.1.depth ≤ n ∧ p.2.depth ≤ n) → PyData.depthKv kvs ≤ n
  | [], _ => by simp [PyData.depthKv]
  | (a, b) :: r, h => by
    have h1 := h (a, b) List.mem_cons_self
    have h2 := depthKv_of (kvs := r) fun p hp => h p (List.mem_cons_of_mem _ hp)
    simp only [PyData.depthKv, Nat.max_le]
    exact ⟨⟨h1.1, h1.2⟩, h2⟩
theorem Nic.dict {k n W : Nat} {kvs : List (PyData × PyData)} (h : ∀ p ∈ kvs, (gd k p.1 = true ∧ p.1.depth = 0) ∧ gd k p.2 = true ∧ p.2.depth ≤ n) (hw : PyData.weightKv kvs ≤ W) : Nic k (n + 1) W (.dict kvs) := by
  refine ⟨?_, ?_, ?_⟩
  · simp only [gd]
    exact gdK_of fun p hp => ⟨(h p hp).1.1, (h p hp).2.1⟩
  · simp only [PyData.depth]
    exact Nat.succ_le_succ (depthKv_of fun p hp => ⟨by rw [(h p hp).1.2]; omega, (h p hp).2.2⟩)
  · simpa only [PyData.weight] using hw
/-- what a tuple holds -/
theorem Nic.parts {k n W : Nat} {ds : List PyData} (h : Nic k n W (.tuple ds)) : ∃ m, n = m + 1 ∧ (∀ d ∈ ds, gd k d = true ∧ d.depth ≤ m) ∧ PyData.weightAll ds ≤ W := by
  obtain ⟨g, d, w⟩ := h
  simp only [gd] at g
  simp only [PyData.depth] at d
  simp only [PyData.weight] at w
  cases n with
  | zero => omega
  | succ m => exact ⟨m, rfl, fun x hx => ⟨gdA_iff.mp g x hx, depthAll_iff.mp (by omega) x hx⟩, w⟩
/-! == -/
theorem gEq_self {d : PyData} (h : d.depth ≤ 60) : gEq d d = some (.bool true) := by
  unfold gEq
  by_cases hs : SeqAt.shaped d = true
  · rw [if_pos ⟨hs, hs⟩, SeqAt.eqv_refl d (SeqAt.canLay_of_shaped hs)]
  · rw [if_neg (fun x => hs x.1), if_pos ⟨rfl, h⟩]
end Dl
namespace Dl
open PySem PySem.Spec PyProof.Rows L2 Pg
theorem eqv_nilT {ds : List PyData} : PyData.eqv (.tuple ds) (.tuple []) = ds.isEmpty := by
  cases ds <;> simp [PyData.eqv, PyData.eqvAll]
theorem eqv_nilL {ds : List PyData} : PyData.eqv (.list ds) (.list []) = ds.isEmpty := by
  cases ds <;> simp [PyData.eqv, PyData.eqvAll]
theorem gNe_nilT {ds : List PyData} : gNe (.tuple ds) (.tuple []) = some (.bool (!ds.isEmpty)) := by
  unfold gNe
  split
  · rw [eqv_nilT]
  · rfl
theorem gNe_nilL {ds : List PyData} : gNe (.list ds) (.list []) = some (.bool (!ds.isEmpty)) := by
  unfold gNe
  split
  · rw [eqv_nilL]
  · rfl
theorem gEq_nilT {ds : List PyData} : gEq (.tuple ds) (.tuple []) = some (.bool ds.isEmpty) := by
  unfold gEq
  split
  · rw [eqv_nilT]
  · split
    · rename_i h
      obtain ⟨h, _⟩ := h
      cases h
      rfl
    · rfl
theorem gEq_nilL {ds : List PyData} : gEq (.list ds) (.list []) = some (.bool ds.isEmpty) := by
  unfold gEq
  split
  · rw [eqv_nilL]
  · split
    · rename_i h
      obtain ⟨h, _⟩ := h
      cases h
      rfl
    · rfl
end Dl
namespace Dl
open PySem PySem.Spec PyProof.Rows L2 Pg
theorem cut_to (xs : List PyData) (z : Nat) : cutD xs none (some (z : Int)) = xs.take z := by
  unfold cutD
  rw [HT.sIx_nat, HT.sIx_none, Nat.sub_zero, List.drop_zero]
  by_cases h : z ≤ xs.length
  · rw [Nat.min_eq_left h]
  · rw [Nat.min_eq_right (by omega), List.take_length, List.take_of_length_le (by omega)]
theorem cut_from (xs : List PyData) (z : Nat) : cutD xs (some (z : Int)) none = xs.drop z := by
  unfold cutD
  rw [HT.sIx_nat, HT.sIx_none]
  by_cases h : z ≤ xs.length
  · rw [Nat.min_eq_left h, List.take_of_length_le (by rw [List.length_drop]; omega)]
  · rw [Nat.min_eq_right (by omega), Nat.sub_self, List.take_zero, List.drop_of_length_le (by omega)]
theorem gSl_toT {xs : List PyData} {z : Nat} : gSl none (some (z : Int)) (.tuple xs) = some (.tuple (xs.take z)) := by rw [← cut_to]; rfl
theorem gSl_fromT {xs : List PyData} {z : Nat} : gSl (some (z : Int)) none (.tuple xs) = some (.tuple (xs.drop z)) := by rw [← cut_from]; rfl
theorem gSl_toL {xs : List PyData} {z : Nat} : gSl none (some (z : Int)) (.list xs) = some (.list (xs.take z)) := by rw [← cut_to]; rfl
theorem gSl_fromL {xs : List PyData} {z : Nat} : gSl (some (z : Int)) none (.list xs) = some (.list (xs.drop z)) := by rw [← cut_from]; rfl
end Dl
namespace Dl
open PySem PySem.Spec PyProof.Rows L2 Pg
theorem strOk_text (s : String) : PyData.strOk (Str.ofString s) = true := by
  rw [Str.ofString_eq_toList]
  unfold PyData.strOk
  rw [Array.all_eq_true']
  intro c hc
  rw [← Array.mem_toList_iff] at hc
  obtain ⟨x, _, rfl⟩ := List.mem_map.mp hc
  have := x.valid
  refine decide_eq_true ?_
  show x.val.toNat < _
  rcases this with h | h
  · exact Nat.lt_trans h (by decide)
  · exact h.2
theorem size_text (s : String) : (Str.ofString s).cps.size = s.length := PySem.ofString_length s
end Dl
namespace Dl
open PySem PySem.Spec PyProof.Rows L2 Pg
theorem weight_split (xs : List PyData) (z : Nat) : PyData.weightAll (xs.take z) + PyData.weightAll (xs.drop z) = PyData.weightAll xs := by
  rw [← weightAll_app, List.take_append_drop]
theorem weight_take (xs : List PyData) (z : Nat) : PyData.weightAll (xs.take z) ≤ PyData.weightAll xs := by
  have := weight_split xs z
  omega
theorem weight_drop (xs : List PyData) (z : Nat) : PyData.weightAll (xs.drop z) ≤ PyData.weightAll xs := by
  have := weight_split xs z
  omega
theorem weight_rev : ∀ (xs : List PyData), PyData.weightAll xs.reverse = PyData.weightAll xs
  | [] => rfl
  | x :: xs => by
    rw [List.reverse_cons, weightAll_app, weight_rev xs]
    simp only [PyData.weightAll]
    omega
end Dl
namespace Dl
open PySem PySem.Spec PyProof.Rows L2 Pg
theorem gNe_str {x y : Str} (h : x = y) : gNe (.str x) (.str y) = some (.bool false) := by
  subst h
  unfold gNe
  split
  · rename_i h
    rw [SeqAt.eqv_refl _ (SeqAt.canLay_of_shaped h.1)]
    rfl
  · simp [gNeF]
end Dl

set_option Elab.async false
set_option linter.all false
set_option maxRecDepth 100000
set_option maxHeartbeats 4000000
namespace Dl
open PySem PySem.Spec PyProof.Rows L2 Pg
/-! ### tuple(sorted(set(xs))), xs tuples of integers -/
def lxLt : List Int → List Int → Bool
  | [], [] => false
  | [], _ => true
  | _, [] => false
  | x :: xs, y :: ys => decide (x < y) || (decide (x = y) && lxLt xs ys)
theorem lx_irrefl : ∀ a : List Int, lxLt a a = false
  | [] => rfl
  | x :: xs => by simp [lxLt, lx_irrefl xs]
theorem lx_trans : ∀ {a b c : List Int}, lxLt a b = true → lxLt b c = true → lxLt a c = true
  | [], [], _, h, _ => by simp [lxLt] at h
  | [], _ :: _, [], _, h => by simp [lxLt] at h
  | [], _ :: _, _ :: _, _, _ => rfl
  | _ :: _, [], _, h, _ => by simp [lxLt] at h
  | _ :: _, _ :: _, [], _, h => by simp [lxLt] at h
  | x :: xs, y :: ys, z :: zs, h1, h2 => by
    simp only [lxLt, Bool.or_eq_true, Bool.and_eq_true, decide_eq_true_eq] at h1 h2 ⊢
    rcases h1 with h1 | ⟨rfl, h1⟩ <;> rcases h2 with h2 | ⟨rfl, h2⟩
    · exact .inl (by omega)
    · exact .inl h1
    · exact .inl h2
    · exact .inr ⟨rfl, lx_trans h1 h2⟩
theorem lx_tri : ∀ (a b : List Int), lxLt a b = true ∨ a = b ∨ lxLt b a = true
  | [], [] => .inr (.inl rfl)
  | [], _ :: _ => .inl rfl
  | _ :: _, [] => .inr (.inr rfl)
  | x :: xs, y :: ys => by
    rcases Int.lt_trichotomy x y with h | h | h
    · exact .inl (by simp [lxLt, h])
    · subst h
      rcases lx_tri xs ys with h | h | h
      · exact .inl (by simp [lxLt, h])
      · exact .inr (.inl (by rw [h]))
      · exact .inr (.inr (by simp [lxLt, h]))
    · exact .inr (.inr (by simp [lxLt, h]))
theorem code_lx {B : Int} : ∀ {r q : List Int}, r.length = q.length → TS.Bd B r → TS.Bd B q → lxLt r q = true → TS.code B r < TS.code B q
  | [], [], _, _, _, h => by simp [lxLt] at h
  | [], _ :: _, h, _, _, _ => by simp at h
  | _ :: _, [], h, _, _, _ => by simp at h
  | x :: xs, y :: ys, hl, hr, hq, h => by
    simp only [lxLt, Bool.or_eq_true, Bool.and_eq_true, decide_eq_true_eq] at h
    simp only [List.length_cons, Nat.add_right_cancel_iff] at hl
    rcases h with h | ⟨rfl, h⟩
    · exact TS.code_lt hl hr.tail hq.tail h
    · exact (TS.code_same hl).mpr (code_lx hl hr.tail hq.tail h)
/-- into a list that ascends, once -/
def insU (x : List Int) : List (List Int) → List (List Int)
  | [] => [x]
  | y :: ys => if lxLt x y = true then x :: y :: ys else if x = y then y :: ys else y :: insU x ys
def sortU : List (List Int) → List (List Int)
  | [] => []
  | x :: xs => insU x (sortU xs)
def AscL (l : List (List Int)) : Prop := l.Pairwise fun a b => lxLt a b = true
theorem mem_ins {x z : List Int} : ∀ {l : List (List Int)}, z ∈ insU x l ↔ z = x ∨ z ∈ l
  | [] => by simp [insU]
  | y :: ys => by
    unfold insU
    split
    · simp
    · split
      · rename_i h
        subst h
        simp
      · simp only [List.mem_cons, mem_ins (l := ys)]
        constructor
        · rintro (h | h | h)
          · exact .inr (.inl h)
          · exact .inl h
          · exact .inr (.inr h)
        · rintro (h | h | h)
          · exact .inr (.inl h)
          · exact .inl h
          · exact .inr (.inr h)
theorem mem_sortU {z : List Int} : ∀ {l : List (List Int)}, z ∈ sortU l ↔ z ∈ l
  | [] => Iff.rfl
  | x :: xs => by
    unfold sortU
    rw [mem_ins, mem_sortU, List.mem_cons]
theorem asc_ins {x : List Int} : ∀ {l : List (List Int)}, AscL l → AscL (insU x l)
  | [], _ => List.pairwise_singleton _ _
  | y :: ys, h => by
    have h' := List.pairwise_cons.mp h
    unfold insU
    split
    · rename_i hx
      refine List.pairwise_cons.mpr ⟨fun z hz => ?_, h⟩
      rcases List.mem_cons.mp hz with rfl | hz
      · exact hx
      · exact lx_trans hx (h'.1 z hz)
    · split
      · exact h
      · rename_i h1 h2
        refine List.pairwise_cons.mpr ⟨fun z hz => ?_, asc_ins h'.2⟩
        rcases mem_ins.mp hz with rfl | hz
        · rcases lx_tri z y with h3 | h3 | h3
          · exact absurd h3 h1
          · exact absurd h3 h2
          · exact h3
        · exact h'.1 z hz
theorem asc_sortU : ∀ l : List (List Int), AscL (sortU l)
  | [] => List.Pairwise.nil
  | x :: xs => asc_ins (asc_sortU xs)
theorem asc_uniq : ∀ {l m : List (List Int)}, AscL l → AscL m → (∀ z, z ∈ l ↔ z ∈ m) → l = m
  | [], [], _, _, _ => rfl
  | [], y :: ys, _, _, h => nomatch (h y).mpr List.mem_cons_self
  | x :: xs, [], _, _, h => nomatch (h x).mp List.mem_cons_self
  | x :: xs, y :: ys, hl, hm, h => by
    obtain ⟨l1, l2⟩ := List.pairwise_cons.mp hl
    obtain ⟨m1, m2⟩ := List.pairwise_cons.mp hm
    have no : ∀ {a b : List Int}, lxLt a b = true → lxLt b a = true → False := fun {a b} p q => by
      have := lx_trans p q
      rw [lx_irrefl] at this
      cases this
    have hxy : x = y := by
      rcases List.mem_cons.mp ((h x).mp List.mem_cons_self) with e | e
      · exact e
      · rcases List.mem_cons.mp ((h y).mpr List.mem_cons_self) with f | f
        · exact f.symm
        · exact (no (m1 x e) (l1 y f)).elim
    subst hxy
    rw [asc_uniq l2 m2 fun z => ?_]
    constructor
    · intro hz
      rcases List.mem_cons.mp ((h z).mp (List.mem_cons_of_mem _ hz)) with e | e
      · subst e
        have := l1 z hz
        rw [lx_irrefl] at this
        cases this
      · exact e
    · intro hz
      rcases List.mem_cons.mp ((h z).mpr (List.mem_cons_of_mem _ hz)) with e | e
      · subst e
        have := m1 z hz
        rw [lx_irrefl] at this
        cases this
      · exact e
def tupI (k : List Int) : PyData := .tuple (k.map .int)
theorem tupI_inj {a b : List Int} (h : tupI a = tupI b) : a = b := by
  have h1 : a.map PyData.int = b.map .int := by
    unfold tupI at h
    exact PyData.tuple.inj h
  have h2 := congrArg intsD h1
  have im : ∀ ns : List Int, intsD (ns.map .int) = some ns := fun ns => by
    induction ns with
    | nil => rfl
    | cons n ns ih =>
      show (intsD (ns.map .int)).map (n :: ·) = _
      rw [ih]
      rfl
  rw [im, im] at h2
  exact Option.some.inj h2
open Classical in
/-- tuples of just as many numbers below a bound -/
noncomputable def gSSet : List PyData → Option PyData
  | [.list ds] => if h : ∃ (ks : List (List Int)) (d : Nat) (B : Int), ds = ks.map tupI ∧ ks.length < 64 ∧ 1 ≤ d ∧ ∀ k ∈ ks, k.length = d ∧ TS.Bd B k then some (.tuple ((sortU (choose h)).map tupI)) else none
  | _ => none
theorem map_tupI_inj : ∀ {a b : List (List Int)}, a.map tupI = b.map tupI → a = b
  | [], [], _ => rfl
  | [], _ :: _, h => by cases h
  | _ :: _, [], h => by cases h
  | x :: xs, y :: ys, h => by
    simp only [List.map_cons, List.cons.injEq] at h
    rw [tupI_inj h.1, map_tupI_inj h.2]
theorem gSSet_eq {ks : List (List Int)} {d : Nat} {B : Int} (few : ks.length < 64) (hd : 1 ≤ d) (h : ∀ k ∈ ks, k.length = d ∧ TS.Bd B k) : gSSet [.list (ks.map tupI)] = some (.tuple ((sortU ks).map tupI)) := by
  unfold gSSet
  dsimp only
  have hx : ∃ (ks' : List (List Int)) (d : Nat) (B : Int), ks.map tupI = ks'.map tupI ∧ ks'.length < 64 ∧ 1 ≤ d ∧ ∀ k ∈ ks', k.length = d ∧ TS.Bd B k := ⟨ks, d, B, rfl, few, hd, h⟩
  rw [dif_pos hx]
  have e := map_tupI_inj (Classical.choose_spec hx).choose_spec.choose_spec.1
  rw [← e]
theorem asc_of {B : Int} {d : Nat} : ∀ {l : List (List Int)}, (∀ k ∈ l, k.length = d ∧ TS.Bd B k) → l.Nodup → (l.Pairwise fun a b => TS.code B a ≤ TS.code B b) → AscL l
  | [], _, _, _ => List.Pairwise.nil
  | x :: xs, h, hn, hp => by
    obtain ⟨n1, n2⟩ := List.pairwise_cons.mp hn
    obtain ⟨p1, p2⟩ := List.pairwise_cons.mp hp
    refine List.pairwise_cons.mpr ⟨fun z hz => ?_, asc_of (fun k hk => h k (List.mem_cons_of_mem _ hk)) n2 p2⟩
    have hx := h x List.mem_cons_self
    have hz' := h z (List.mem_cons_of_mem _ hz)
    rcases lx_tri x z with e | e | e
    · exact e
    · exact absurd e (n1 z hz)
    · have := code_lx (by rw [hz'.1, hx.1]) hz'.2 hx.2 e
      have := p1 z hz
      omega
def rTupD (K : PySem.W.Frag) : List V → Hp → VK → Prop := fun xs H Q => ∃ p ys, xs = [.ref p] ∧ ((SqL K H p ys ∧ ∀ l, H l = none → Q (.ref l) (upd H l (.tup ys))) ∨ (SqT K H p ys ∧ Q (.ref p) H))
def rSSet (K : PySem.W.Frag) (P : Program) (w : World) : List V → Hp → VK → Prop := fun xs H Q => rSetOfT K P w xs H fun y H2 => rSortedT K P w [y] H2 fun z H3 => rTupD K [z] H3 Q
theorem dds_ints {K : PySem.W.Frag} {G : Hp} : ∀ {ys : List V} {ns : List Int}, Dds K G ys (ns.map .int) → ys = ns.map .int
  | [], [], _ => rfl
  | [], _ :: _, h => nomatch h
  | _ :: _, [], h => nomatch h
  | y :: ys, n :: ns, .cons h t => by
    cases h
    rw [dds_ints t]
    rfl
theorem ints_dds {K : PySem.W.Frag} {G : Hp} : ∀ ns : List Int, Dds K G (ns.map V.int) (ns.map PyData.int)
  | [] => .nil
  | n :: ns => .cons (.int n) (ints_dds ns)
theorem dds_tups {K : PySem.W.Frag} {G : Hp} : ∀ {ys : List V} {ks : List (List Int)}, Dds K G ys (ks.map tupI) → ∃ kp : List (Addr × List Int), ys = kp.map (fun p => V.ref p.1) ∧ kp.map (·.2) = ks ∧ ∀ p ∈ kp, SqT K G p.1 (p.2.map V.int)
  | [], [], _ => ⟨[], rfl, rfl, fun _ h => nomatch h⟩
  | [], _ :: _, h => nomatch h
  | _ :: _, [], h => nomatch h
  | y :: ys, k :: ks, .cons h t => by
    obtain ⟨kp, rfl, rfl, hk⟩ := dds_tups t
    cases h with
    | @tup a xs _ q r =>
      have := dds_ints r
      subst this
      refine ⟨(a, k) :: kp, rfl, rfl, fun p hp => ?_⟩
      rcases List.mem_cons.mp hp with rfl | hp
      · exact q
      · exact hk p hp
theorem tups_dds {K : PySem.W.Frag} {G : Hp} : ∀ {L : List (Addr × List Int)}, (∀ p ∈ L, SqT K G p.1 (p.2.map V.int)) → Dds K G (L.map fun p => V.ref p.1) ((L.map (·.2)).map tupI)
  | [], _ => .nil
  | p :: L, h => .cons (.tup (h p List.mem_cons_self) (ints_dds p.2)) (tups_dds fun q hq => h q (List.mem_cons_of_mem _ hq))
theorem sc_sset {K : PySem.W.Frag} {P : Program} {w : World} : SC K (rSSet K P w) gSSet := by
  intro G H xs ds z g r e Q q
  unfold gSSet at e
  split at e
  · split at e
    · rename_i ds hx
      have hs := Classical.choose_spec hx
      revert e hs
      generalize Classical.choose hx = ks
      intro e hs
      obtain ⟨d, B, rfl, few, hd, hk⟩ := hs
      cases e
      obtain ⟨x, rfl, rk⟩ := r.one
      obtain ⟨a, ys, rfl, h1, h2⟩ := rk.list g
      obtain ⟨kp, rfl, rfl, hkp⟩ := dds_tups h2
      refine ⟨a, kp, rfl, h1, fun p hp => same_seqT g (hkp p hp), by simpa using few, fun a2 L na hL hall => ?_⟩
      have s1 : Same H (upd H a2 (SetTO P w a2 L)) := same_up na
      have inL : ∀ p ∈ L, p.2.length = d ∧ TS.Bd B p.2 := fun p hp => hk p.2 (List.mem_map_of_mem (hL p hp))
      refine ⟨a2, L, d, B, rfl, upd_same, fun p hp => same_seqT (g.trans s1) (hkp p (hL p hp)), hd, inL, fun L' p pm nd _ pw np => ?_⟩
      have s2 : Same (upd H a2 (SetTO P w a2 L)) (upd (upd H a2 (SetTO P w a2 L)) p (.lst (L'.map fun q => V.ref q.1))) := same_up np
      have s12 := s1.trans s2
      refine ⟨p, _, rfl, .inl ⟨SqL.of upd_same, fun l nl => ?_⟩⟩
      have inL' : ∀ q ∈ L', q ∈ kp := fun q hq => hL q (pm.mem_iff.mp hq)
      have hsort : L'.map (·.2) = sortU (kp.map (·.2)) := by
        refine asc_uniq (asc_of (B := B) (d := d) (fun k hk' => ?_) nd (List.pairwise_map.mpr pw)) (asc_sortU _) fun z => ?_
        · obtain ⟨q, hq, rfl⟩ := List.mem_map.mp hk'
          exact inL q (pm.mem_iff.mp hq)
        · rw [mem_sortU]
          constructor
          · intro hz
            obtain ⟨q, hq, rfl⟩ := List.mem_map.mp hz
            exact List.mem_map_of_mem (inL' q hq)
          · intro hz
            obtain ⟨q, hq, rfl⟩ := List.mem_map.mp hz
            obtain ⟨u, hu, e⟩ := List.mem_map.mp (hall q hq)
            rw [← e]
            exact List.mem_map_of_mem (pm.mem_iff.mpr hu)
      rw [← hsort] at q
      exact new_tup (g.trans s12) (tups_dds fun q hq => hkp q (inL' q hq)) (fun G' H' v gr dd => q G' H' v ⟨s12.trans gr.hh, gr.gg, gr.gh, fun a o e => (gr.new a o e).imp_right fun h => s12.free h⟩ dd) nl
    · cases e
  · cases e
end Dl
namespace Dl
open PySem PySem.Spec PyProof.Rows L2 Pg
theorem q_sset {K : PySem.W.Frag} {X : Cx} {e : Expr} {te : TE} {f : EF} {p p2 p3 pos pos2 pos3 : Pos} (hK : X.K = K) (hc : X.calm = true) (hu : X.A.units + 64 < cLine)
    (ms : X.mg "set" = none) (mo : X.mg "sorted" = none) (mt : X.mg "tuple" = none) (ha : QE K X e te f) (g1 : Gl X "set") (g2 : Gl X "sorted") (g3 : Gl X "tuple")
    (he : starEach [e] X.env = (false, eval e X.env) :: starEach [] X.env) :
    QE K X (.Call (.Name "tuple" p) [.Call (.Name "sorted" p2) [.Call (.Name "set" p3) [e] [] pos3] [] pos2] [] pos)
      (tCB (rTupD K) (tCons (tCB (rSortedT K X.prog X.w) (tCons (tCB (rSetOfT K X.prog X.w) (tCons te tNil)) tNil)) tNil)) (eCB gSSet (aCons f aNil)) := by
  subst hK
  refine ⟨pe_callTy call_tuple_of g3 mt (by decide +kernel) (pa_cons (pe_callB (cr_sortedT hc) g2 mo (by decide +kernel) (pa_cons (pe_callTy (cr_setOfT hc hu) g1 ms (by decide +kernel) (pa_cons ha.pe pa_nil he) (by decide) (by decide) he rfl) pa_nil)) pa_nil), ?_⟩
  have h : SE X.K (tCB (rSSet X.K X.prog X.w) (tCons te tNil)) (eCB gSSet (aCons f aNil)) := se_cb sc_sset (sa_cons ha.se sa_nil)
  exact h
end Dl
namespace Dl
theorem len_ins {x : List Int} : ∀ {l : List (List Int)}, (insU x l).length ≤ l.length + 1
  | [] => Nat.le_refl _
  | y :: ys => by
    have := len_ins (x := x) (l := ys)
    unfold insU
    split
    · exact Nat.le_refl _
    · split
      · exact Nat.le_succ _
      · simp only [List.length_cons]
        omega
theorem len_sortU : ∀ {l : List (List Int)}, (sortU l).length ≤ l.length
  | [] => Nat.le_refl _
  | x :: xs => by
    have h1 := len_ins (x := x) (l := sortU xs)
    have h2 := len_sortU (l := xs)
    unfold sortU
    simp only [List.length_cons]
    omega
end Dl

set_option Elab.async false
set_option linter.all false
set_option maxRecDepth 100000
set_option maxHeartbeats 4000000
namespace D01
open PySem PySem.Spec PyProof.Rows L2 Pg Dl
abbrev nPIsInteger : List Str := ["thing"]
noncomputable def gPIsInteger : SF :=
    (sRet (eAnd (eIs .int (eVar 0)) (eNot (eIs .bool (eVar 0)))))
noncomputable def fPIsInteger : FF := FnOf nPIsInteger (gPIsInteger)
abbrev nPIsNumber : List Str := ["thing"]
noncomputable def gPIsNumber (F_PIsInteger : FF) : SF :=
    (sRet (eAnd (eCall 1 F_PIsInteger (aCons (eVar 0) aNil)) (eOp (gCm fun d e => !PySem.W.dataLt d e) (eVar 0) (eC (.int 0)))))
noncomputable def fPIsNumber (F_PIsInteger : FF) : FF := FnOf nPIsNumber (gPIsNumber F_PIsInteger)
abbrev nPIsRow : List Str := ["thing", "many"]
noncomputable def gPIsRow : SF :=
    (sRet (eAnd (eIs .tuple (eVar 0)) (eOp gEq (eCB gLen (aCons (eVar 0) aNil)) (eVar 1))))
noncomputable def fPIsRow : FF := FnOf nPIsRow (gPIsRow)
abbrev nPAscends : List Str := ["things", "index"]
noncomputable def gPAscends : SF :=
    (sRet (eCB gAll (aCons (eComp (iRange1 (aCons (eOp Dl.gSub (eCB gLen (aCons (eVar 0) aNil)) (eC (.int 1))) aNil)) (tNm 1) bYes (eOp (gCm PySem.W.dataLt) (eOp gIx (eVar 0) (eVar 1)) (eOp gIx (eVar 0) (eOp gAdd (eVar 1) (eC (.int 1))))) [1]) aNil)))
noncomputable def fPAscends : FF := FnOf nPAscends (gPAscends)
abbrev nPIsLot : List Str := ["thing", "item"]
noncomputable def gPIsLot (F_PIsNumber : FF) (F_PAscends : FF) : SF :=
    (sRet (eAnd (eIs .tuple (eVar 0)) (eAnd (eCB gAll (aCons (eComp (iData (eVar 0)) (tNm 1) bYes (eCall 1 F_PIsNumber (aCons (eVar 1) aNil)) [1]) aNil)) (eCall 1 F_PAscends (aCons (eVar 0) aNil)))))
noncomputable def fPIsLot (F_PIsNumber : FF) (F_PAscends : FF) : FF := FnOf nPIsLot (gPIsLot F_PIsNumber F_PAscends)
abbrev nPIsSomeLot : List Str := ["thing"]
noncomputable def gPIsSomeLot (F_PIsLot : FF) : SF :=
    (sRet (eAnd (eCall 1 F_PIsLot (aCons (eVar 0) aNil)) (eOp (gCm fun d e => PySem.W.dataLt e d) (eCB gLen (aCons (eVar 0) aNil)) (eC (.int 0)))))
noncomputable def fPIsSomeLot (F_PIsLot : FF) : FF := FnOf nPIsSomeLot (gPIsSomeLot F_PIsLot)
abbrev nPIsNumberPair : List Str := ["thing"]
noncomputable def gPIsNumberPair (F_PIsRow : FF) (F_PIsNumber : FF) : SF :=
    (sRet (eAnd (eCall 2 F_PIsRow (aCons (eVar 0) (aCons (eC (.int 2)) aNil))) (eAnd (eCall 1 F_PIsNumber (aCons (eOp gIx (eVar 0) (eC (.int 0))) aNil)) (eCall 1 F_PIsNumber (aCons (eOp gIx (eVar 0) (eC (.int 1))) aNil)))))
noncomputable def fPIsNumberPair (F_PIsRow : FF) (F_PIsNumber : FF) : FF := FnOf nPIsNumberPair (gPIsNumberPair F_PIsRow F_PIsNumber)
abbrev nPIsPlace : List Str := ["thing"]
noncomputable def gPIsPlace (F_PIsNumberPair : FF) : SF :=
    (sRet (eCall 1 F_PIsNumberPair (aCons (eVar 0) aNil)))
noncomputable def fPIsPlace (F_PIsNumberPair : FF) : FF := FnOf nPIsPlace (gPIsPlace F_PIsNumberPair)
abbrev nPIsLotOfPairs : List Str := ["thing", "item"]
noncomputable def gPIsLotOfPairs (F_PIsNumberPair : FF) (F_PAscends : FF) : SF :=
    (sRet (eAnd (eIs .tuple (eVar 0)) (eAnd (eCB gAll (aCons (eComp (iData (eVar 0)) (tNm 1) bYes (eCall 1 F_PIsNumberPair (aCons (eVar 1) aNil)) [1]) aNil)) (eCall 1 F_PAscends (aCons (eVar 0) aNil)))))
noncomputable def fPIsLotOfPairs (F_PIsNumberPair : FF) (F_PAscends : FF) : FF := FnOf nPIsLotOfPairs (gPIsLotOfPairs F_PIsNumberPair F_PAscends)
abbrev nPIsTicket : List Str := ["thing"]
noncomputable def gPIsTicket (F_PIsRow : FF) (F_PIsSomeLot : FF) (F_PIsNumber : FF) : SF :=
    (sRet (eAnd (eCall 2 F_PIsRow (aCons (eVar 0) (aCons (eC (.int 2)) aNil))) (eAnd (eCall 1 F_PIsSomeLot (aCons (eOp gIx (eVar 0) (eC (.int 0))) aNil)) (eCall 1 F_PIsNumber (aCons (eOp gIx (eVar 0) (eC (.int 1))) aNil)))))
noncomputable def fPIsTicket (F_PIsRow : FF) (F_PIsSomeLot : FF) (F_PIsNumber : FF) : FF := FnOf nPIsTicket (gPIsTicket F_PIsRow F_PIsSomeLot F_PIsNumber)
abbrev nPIsCell : List Str := ["thing", "sort", "places", "readers"]
noncomputable def gPIsCell_1 (F_PIsRow : FF) (F_PIsInteger : FF) (F_PIsLotOfPairs : FF) : SF :=
    (sIf (bOr (bNot (bTru (eCall 2 F_PIsRow (aCons (eVar 0) (aCons (eC (.int 4)) aNil))))) (bOr (bNot (bTru (eCall 1 F_PIsInteger (aCons (eOp gIx (eVar 0) (eC (.int 0))) aNil)))) (bNot (bTru (eIs .str (eOp gIx (eVar 0) (eC (.int 1))))))))
    (sRet (eC (.bool false)))
    sNext)
noncomputable def gPIsCell_2 (F_PIsRow : FF) (F_PIsInteger : FF) (F_PIsLotOfPairs : FF) : SF :=
    (sAsg (eSl (eVar 0) (oSome (eC (.int 1))) oNo) (tTp 3 (tsCons (tNm 1) (tsCons (tNm 2) (tsCons (tNm 3) tsNil)))))
noncomputable def gPIsCell_3 (F_PIsRow : FF) (F_PIsInteger : FF) (F_PIsLotOfPairs : FF) : SF :=
    (sIf (bOr (bNot (bTru (eCall 1 F_PIsLotOfPairs (aCons (eVar 2) aNil)))) (bNot (bTru (eCall 1 F_PIsLotOfPairs (aCons (eVar 3) aNil)))))
    (sRet (eC (.bool false)))
    sNext)
noncomputable def gPIsCell_4 (F_PIsRow : FF) (F_PIsInteger : FF) (F_PIsLotOfPairs : FF) : SF :=
    (sIf (bVal (eOp gEq (eVar 1) (eC (.str "common"))))
    (sRet (eAnd (eOp gNe (eVar 2) (eTup aNil)) (eOp gEq (eVar 3) (eTup aNil))))
    sNext)
noncomputable def gPIsCell_5 (F_PIsRow : FF) (F_PIsInteger : FF) (F_PIsLotOfPairs : FF) : SF :=
    (sRet (eAnd (eOp gEq (eVar 1) (eC (.str "own"))) (eOr (eOp gNe (eVar 2) (eTup aNil)) (eOp gNe (eVar 3) (eTup aNil)))))
noncomputable def gPIsCell (F_PIsRow : FF) (F_PIsInteger : FF) (F_PIsLotOfPairs : FF) : SF :=
    (sSeq (gPIsCell_1 F_PIsRow F_PIsInteger F_PIsLotOfPairs) (sSeq (gPIsCell_2 F_PIsRow F_PIsInteger F_PIsLotOfPairs) (sSeq (gPIsCell_3 F_PIsRow F_PIsInteger F_PIsLotOfPairs) (sSeq (gPIsCell_4 F_PIsRow F_PIsInteger F_PIsLotOfPairs) (gPIsCell_5 F_PIsRow F_PIsInteger F_PIsLotOfPairs)))))
noncomputable def fPIsCell (F_PIsRow : FF) (F_PIsInteger : FF) (F_PIsLotOfPairs : FF) : FF := FnOf nPIsCell (gPIsCell F_PIsRow F_PIsInteger F_PIsLotOfPairs)
abbrev nBag : List Str := ["_law_script", "_law_cell"]
noncomputable def gBag : SF :=
    (sRet (eLstN (aCons (eC (.int 0)) (aCons (eC (.int 1234567891)) (aCons (eC (.int 0)) (aCons (eComp (iData (eSl (eVar 0) oNo (oSome (eC (.int 63))))) (tNm 1) bYes (eCB gAbs (aCons (eVar 1) aNil)) [1]) aNil))))))
noncomputable def fBag : FF := FnOf nBag (gBag)
abbrev nTake : List Str := ["_law_bag_here", "_law_many", "_law_begin", "_law_second", "_law_cell", "_law_stirred", "_law_value_here"]
noncomputable def gTake_1 : SF :=
    (sIf (bVal (eOp gEq (eIxC (eVar 0) (eC (.int 0))) (eC (.int 0))))
    (sSeq (sAsg (eOp gIx (eOp gAdd (eSl (eIxC (eVar 0) (eC (.int 3))) (oSome (eIxC (eVar 0) (eC (.int 2)))) oNo) (eLst (aCons (eC (.int 0)) aNil))) (eC (.int 0))) (tNm 4))
    (sSeq (sAugI (fun i j => i + j) (eVar 0) (eC (.int 2)) (eC (.int 1)))
    (sSeq (sIf (bVal (eOp (gCm fun d e => !PySem.W.dataLt d e) (eVar 4) (eOp gPow (eC (.int 10)) (eC (.int 18)))))
    (sAsg (eVar 4) (tPut (eVar 0) (eC (.int 0))))
    sNext)
    (sSeq (sAsg (eOp gAdd (eOp gAdd (eOp gMulD (eIxC (eVar 0) (eC (.int 1))) (eC (.int 48271))) (eOp gMod (eCB gInt (aCons (eVar 4) aNil)) (eC (.int 2147483647)))) (eOp gMulD (eC (.int 7919)) (eIxC (eVar 0) (eC (.int 2))))) (tNm 5))
    (sAsg (eOp gMod (eCB gInt (aCons (eVar 5) aNil)) (eC (.int 2147483647))) (tPut (eVar 0) (eC (.int 1))))))))
    sNext)
noncomputable def gTake_2 : SF :=
    (sIf (bVal (eOp (gCm fun d e => PySem.W.dataLt e d) (eIxC (eVar 0) (eC (.int 0))) (eC (.int 0))))
    (sSeq (sAsg (eOp gMod (eCB gInt (aCons (eIxC (eVar 0) (eC (.int 0))) aNil)) (eVar 1)) (tNm 6))
    (sSeq (sAsg (eOp gDiv (eCB gInt (aCons (eIxC (eVar 0) (eC (.int 0))) aNil)) (eVar 1)) (tPut (eVar 0) (eC (.int 0))))
    (sRet (eVar 6))))
    sNext)
noncomputable def gTake_3 : SF :=
    (sAsg (eOp gMod (eCB gInt (aCons (eOp gMulD (eOp gAdd (eIxC (eVar 0) (eC (.int 1))) (eC (.int 1))) (eC (.int 39373))) aNil)) (eC (.int 1000000007))) (tNm 2))
noncomputable def gTake_4 : SF :=
    (sAsg (eOp gMod (eCB gInt (aCons (eOp gMulD (eOp gMod (eCB gInt (aCons (eOp gMulD (eVar 2) (eVar 2)) aNil)) (eC (.int 998244353))) (eC (.int 30011))) aNil)) (eC (.int 998244353))) (tNm 3))
noncomputable def gTake_5 : SF :=
    (sRet (eOp gMod (eCB gInt (aCons (eOp gDiv (eVar 3) (eC (.int 7))) aNil)) (eVar 1)))
noncomputable def gTake : SF :=
    (sSeq (gTake_1) (sSeq (gTake_2) (sSeq (gTake_3) (sSeq (gTake_4) (gTake_5)))))
noncomputable def fTake : FF := FnOf nTake (gTake)
abbrev nSome : List Str := ["_law_bag_here", "_law_things"]
noncomputable def gSome (F_Take : FF) : SF :=
    (sRet (eOp gIx (eVar 1) (eCall 2 F_Take (aCons (eVar 0) (aCons (eCB gLen (aCons (eVar 1) aNil)) aNil)))))
noncomputable def fSome (F_Take : FF) : FF := FnOf nSome (gSome F_Take)
abbrev nAlike : List Str := ["_law_found", "_law_due"]
noncomputable def gAlike : SF :=
    (sRet (eAnd (eOp gEq (eVar 0) (eVar 1)) (eOp gEq (eCB gRepr (aCons (eVar 0) aNil)) (eCB gRepr (aCons (eVar 1) aNil)))))
noncomputable def fAlike : FF := FnOf nAlike (gAlike)
abbrev nIsWhole : List Str := ["_law_thing_here"]
noncomputable def gIsWhole : SF :=
    (sRet (eAnd (eIs .int (eVar 0)) (eNot (eIs .bool (eVar 0)))))
noncomputable def fIsWhole : FF := FnOf nIsWhole (gIsWhole)
abbrev nPages : List Str := ["_law_bag_here", "_law_many", "_law_first", "_law_step", "_law_k"]
noncomputable def gPages_1 (F_Some : FF) : SF :=
    (sAsgT (aCons (eCall 2 F_Some (aCons (eVar 0) (aCons (eLst (aCons (eC (.int 0)) (aCons (eC (.int 0)) (aCons (eC (.int 1)) (aCons (eC (.int 3)) (aCons (eC (.int 40)) aNil)))))) aNil))) (aCons (eCall 2 F_Some (aCons (eVar 0) (aCons (eLst (aCons (eC (.int 1)) (aCons (eC (.int 1)) (aCons (eC (.int 1)) (aCons (eC (.int 2)) (aCons (eC (.int 7)) aNil)))))) aNil))) aNil)) 2 (tsCons (tNm 2) (tsCons (tNm 3) tsNil)))
noncomputable def gPages_2 (F_Some : FF) : SF :=
    (sRet (eComp (iRange1 (aCons (eVar 1) aNil)) (tNm 4) bYes (eOp gAdd (eVar 2) (eOp gMulD (eVar 3) (eVar 4))) [4]))
noncomputable def gPages (F_Some : FF) : SF :=
    (sSeq (gPages_1 F_Some) (gPages_2 F_Some))
noncomputable def fPages (F_Some : FF) : FF := FnOf nPages (gPages F_Some)
abbrev nValue : List Str := ["_law_bag_here", "_law_deep", "_law_way", "_law_parts", "_law_k", "_law_part"]
noncomputable def gValue_1 (F_Take : FF) (F_Some : FF) (F_Value : FF) : SF :=
    (sAsg (eCall 2 F_Take (aCons (eVar 0) (aCons (eIf (bVal (eOp (gCm fun d e => PySem.W.dataLt e d) (eVar 1) (eC (.int 0)))) (eC (.int 14)) (eC (.int 9))) aNil))) (tNm 2))
noncomputable def gValue_2 (F_Take : FF) (F_Some : FF) (F_Value : FF) : SF :=
    (sIf (bVal (eOp (gCm PySem.W.dataLt) (eVar 2) (eC (.int 4))))
    (sRet (eCall 2 F_Some (aCons (eVar 0) (aCons (eLst (aCons (eC .none) (aCons (eC (.bool true)) (aCons (eC (.bool false)) (aCons (eC (.int 0)) (aCons (eC (.int 1)) (aCons (eNeg (eC (.int 1))) (aCons (eOp gPow (eC (.int 10)) (eC (.int 39))) (aCons (eCall 2 F_Take (aCons (eVar 0) (aCons (eOp gPow (eC (.int 10)) (eC (.int 9))) aNil))) (aCons (eOp Dl.gSub (eC (.int 1)) (eOp gPow (eC (.int 10)) (eC (.int 39)))) aNil)))))))))) aNil))))
    sNext)
noncomputable def gValue_3 (F_Take : FF) (F_Some : FF) (F_Value : FF) : SF :=
    (sIf (bVal (eOp (gCm PySem.W.dataLt) (eVar 2) (eC (.int 8))))
    (sRet (eCall 2 F_Some (aCons (eVar 0) (aCons (eLst (aCons (eC (.str "")) (aCons (eC (.str "own")) (aCons (eC (.str "common")) (aCons (eC (.str "write")) (aCons (eC (.str "0")) (aCons (eC (.str " ~")) (aCons (eOp gMulD (eC (.str "a")) (eC (.int 300))) (aCons (eC (.str "\n")) (aCons (eC (.str "begin")) aNil)))))))))) aNil))))
    sNext)
noncomputable def gValue_4 (F_Take : FF) (F_Some : FF) (F_Value : FF) : SF :=
    (sIf (bVal (eOp gEq (eVar 2) (eC (.int 8))))
    (sRet (eCall 2 F_Some (aCons (eVar 0) (aCons (eLst (aCons (eTup aNil) (aCons (eLst aNil) (aCons (eC (.dict [])) aNil)))) aNil))))
    sNext)
noncomputable def gValue_5 (F_Take : FF) (F_Some : FF) (F_Value : FF) : SF :=
    (sAsg (eComp (iRange1 (aCons (eCall 2 F_Take (aCons (eVar 0) (aCons (eC (.int 4)) aNil))) aNil)) (tNm 4) bYes (eCall 2 F_Value (aCons (eVar 0) (aCons (eOp Dl.gSub (eVar 1) (eC (.int 1))) aNil))) [4]) (tNm 3))
noncomputable def gValue_6 (F_Take : FF) (F_Some : FF) (F_Value : FF) : SF :=
    (sIf (bVal (eOp (gCm PySem.W.dataLt) (eVar 2) (eC (.int 12))))
    (sRet (eCB gTupleOf (aCons (eVar 3) aNil)))
    sNext)
noncomputable def gValue_7 (F_Take : FF) (F_Some : FF) (F_Value : FF) : SF :=
    (sIf (bVal (eOp gEq (eVar 2) (eC (.int 12))))
    (sRet (eVar 3))
    sNext)
noncomputable def gValue_8 (F_Take : FF) (F_Some : FF) (F_Value : FF) : SF :=
    (sRet (eCB gDictOf (aCons (eComp (iEnumL (aCons (eVar 3) aNil)) (tTp 2 (tsCons (tNm 4) (tsCons (tNm 5) tsNil))) bYes (eTup (aCons (eCB gStr (aCons (eVar 4) aNil)) (aCons (eVar 5) aNil))) [4, 5]) aNil)))
noncomputable def gValue (F_Take : FF) (F_Some : FF) (F_Value : FF) : SF :=
    (sSeq (gValue_1 F_Take F_Some F_Value) (sSeq (gValue_2 F_Take F_Some F_Value) (sSeq (gValue_3 F_Take F_Some F_Value) (sSeq (gValue_4 F_Take F_Some F_Value) (sSeq (gValue_5 F_Take F_Some F_Value) (sSeq (gValue_6 F_Take F_Some F_Value) (sSeq (gValue_7 F_Take F_Some F_Value) (gValue_8 F_Take F_Some F_Value))))))))
noncomputable def fValue (F_Take : FF) (F_Some : FF) (F_Value : FF) : FF := FnOf nValue (gValue F_Take F_Some F_Value)
abbrev nBent : List Str := ["_law_bag_here", "_law_thing_here", "_law_deep", "_law_at", "_law_twice", "_law_turned", "_law_texts", "_law_odd", "_law_more", "_law_fewer"]
noncomputable def gBent_1 (F_Take : FF) (F_Bent : FF) (F_Some : FF) (F_IsWhole : FF) : SF :=
    (sIf (bAnd (bTru (eIs .tuple (eVar 1))) (bAnd (bVal (eOp gNe (eVar 1) (eTup aNil))) (bAnd (bVal (eOp (gCm fun d e => PySem.W.dataLt e d) (eVar 2) (eC (.int 0)))) (bVal (eOp (gCm fun d e => PySem.W.dataLt e d) (eCall 2 F_Take (aCons (eVar 0) (aCons (eC (.int 4)) aNil))) (eC (.int 0)))))))
    (sSeq (sAsg (eCall 2 F_Take (aCons (eVar 0) (aCons (eCB gLen (aCons (eVar 1) aNil)) aNil))) (tNm 3))
    (sRet (eOp gAdd (eOp gAdd (eSl (eVar 1) oNo (oSome (eVar 3))) (eTup (aCons (eCall 3 F_Bent (aCons (eVar 0) (aCons (eOp gIx (eVar 1) (eVar 3)) (aCons (eOp Dl.gSub (eVar 2) (eC (.int 1))) aNil)))) aNil))) (eSl (eVar 1) (oSome (eOp gAdd (eVar 3) (eC (.int 1)))) oNo))))
    sNext)
noncomputable def gBent_2 (F_Take : FF) (F_Bent : FF) (F_Some : FF) (F_IsWhole : FF) : SF :=
    (sIf (bTru (eIs .tuple (eVar 1)))
    (sSeq (sPar 3 7 (aCons (eCall 2 F_Take (aCons (eVar 0) (aCons (eOp gAdd (eCB gLen (aCons (eVar 1) aNil)) (eC (.int 1))) aNil))) (aCons (eCall 2 F_Some (aCons (eVar 0) (aCons (eLst (aCons (eC (.int 0)) (aCons (eNeg (eC (.int 1))) (aCons (eC .none) (aCons (eC (.bool true)) (aCons (eTup aNil) (aCons (eTup (aCons (eC (.int 0)) (aCons (eC (.int 0)) aNil))) (aCons (eTup (aCons (eC (.int 0)) aNil)) (aCons (eC (.int 3)) (aCons (eC (.str "own")) aNil)))))))))) aNil))) aNil)))
    (sSeq (sPar 8 9 (aCons (eOp gAdd (eOp gAdd (eSl (eVar 1) oNo (oSome (eVar 3))) (eTup (aCons (eVar 7) aNil))) (eSl (eVar 1) (oSome (eVar 3)) oNo)) (aCons (eOp gAdd (eSl (eVar 1) oNo (oSome (eVar 3))) (eSl (eVar 1) (oSome (eOp gAdd (eVar 3) (eC (.int 1)))) oNo)) aNil)))
    (sSeq (sAsg (eOp gAdd (eSl (eVar 1) oNo (oSome (eOp gAdd (eVar 3) (eC (.int 1))))) (eSl (eVar 1) (oSome (eVar 3)) oNo)) (tNm 4))
    (sSeq (sAsg (eLst (aCons (eRev 1) (aCons (eOp gAdd (eSl (eVar 1) (oSome (eVar 3)) oNo) (eSl (eVar 1) oNo (oSome (eVar 3)))) aNil))) (tNm 5))
    (sRet (eCall 2 F_Some (aCons (eVar 0) (aCons (eOp gAdd (eVar 5) (eLst (aCons (eVar 8) (aCons (eVar 9) (aCons (eVar 4) (aCons (eCB gListOf (aCons (eVar 1) aNil)) (aCons (eTup (aCons (eVar 1) aNil)) (aCons (eC .none) (aCons (eC (.dict [])) aNil))))))))) aNil))))))))
    sNext)
noncomputable def gBent_3 (F_Take : FF) (F_Bent : FF) (F_Some : FF) (F_IsWhole : FF) : SF :=
    (sIf (bTru (eCall 1 F_IsWhole (aCons (eVar 1) aNil)))
    (sSeq (sAsg (eLst (aCons (eC (.bool true)) (aCons (eC (.bool false)) (aCons (eC .none) (aCons (eCB gStr (aCons (eVar 1) aNil)) (aCons (eLst (aCons (eVar 1) aNil)) (aCons (eTup (aCons (eVar 1) aNil)) aNil))))))) (tNm 6))
    (sRet (eCall 2 F_Some (aCons (eVar 0) (aCons (eOp gAdd (eLst (aCons (eOp gAdd (eVar 1) (eC (.int 1))) (aCons (eOp Dl.gSub (eVar 1) (eC (.int 1))) (aCons (eOp Dl.gSub (eC (.int 0)) (eVar 1)) (aCons (eOp gAdd (eVar 1) (eC (.int 2))) (aCons (eC (.int 0)) (aCons (eC (.int 1)) (aCons (eOp gPow (eC (.int 10)) (eC (.int 39))) aNil)))))))) (eVar 6)) aNil)))))
    sNext)
noncomputable def gBent_4 (F_Take : FF) (F_Bent : FF) (F_Some : FF) (F_IsWhole : FF) : SF :=
    (sRet (eCall 2 F_Some (aCons (eVar 0) (aCons (eLst (aCons (eC (.str "own")) (aCons (eC (.str "common")) (aCons (eC (.str "Own")) (aCons (eC (.str "")) (aCons (eC (.str "owns")) (aCons (eC (.str "common ")) (aCons (eC .none) (aCons (eC (.int 0)) (aCons (eTup aNil) (aCons (eLst (aCons (eC (.str "own")) aNil)) (aCons (eC (.bool true)) (aCons (eC (.str "drop")) (aCons (eC (.str "exit")) aNil)))))))))))))) aNil))))
noncomputable def gBent (F_Take : FF) (F_Bent : FF) (F_Some : FF) (F_IsWhole : FF) : SF :=
    (sSeq (gBent_1 F_Take F_Bent F_Some F_IsWhole) (sSeq (gBent_2 F_Take F_Bent F_Some F_IsWhole) (sSeq (gBent_3 F_Take F_Bent F_Some F_IsWhole) (gBent_4 F_Take F_Bent F_Some F_IsWhole))))
noncomputable def fBent (F_Take : FF) (F_Bent : FF) (F_Some : FF) (F_IsWhole : FF) : FF := FnOf nBent (gBent F_Take F_Bent F_Some F_IsWhole)
abbrev nUnits : List Str := ["_law_thing_here", "_law_one"]
noncomputable def gUnits_1 (F_Units : FF) (F_IsWhole : FF) : SF :=
    (sIf (bTru (eIs .tuple (eVar 0)))
    (sRet (eCB gSum (aCons (eComp (iData (eVar 0)) (tNm 1) bYes (eCall 1 F_Units (aCons (eVar 1) aNil)) [1]) aNil)))
    sNext)
noncomputable def gUnits_2 (F_Units : FF) (F_IsWhole : FF) : SF :=
    (sRet (eCB gInt (aCons (eAnd (eCall 1 F_IsWhole (aCons (eVar 0) aNil)) (eChain (gCm fun d e => !PySem.W.dataLt e d) (gCm fun d e => !PySem.W.dataLt e d) (eC (.int 0)) (eVar 0) (eC (.int 1)))) aNil)))
noncomputable def gUnits (F_Units : FF) (F_IsWhole : FF) : SF :=
    (sSeq (gUnits_1 F_Units F_IsWhole) (gUnits_2 F_Units F_IsWhole))
noncomputable def fUnits (F_Units : FF) (F_IsWhole : FF) : FF := FnOf nUnits (gUnits F_Units F_IsWhole)
abbrev nWithTruth : List Str := ["_law_thing_here", "_law_left", "_law_one"]
noncomputable def gWithTruth_1 (F_WithTruth : FF) (F_IsWhole : FF) : SF :=
    (sIf (bTru (eIs .tuple (eVar 0)))
    (sRet (eCB gTupleOf (aCons (eComp (iData (eVar 0)) (tNm 2) bYes (eCall 2 F_WithTruth (aCons (eVar 2) (aCons (eVar 1) aNil))) [2]) aNil)))
    sNext)
noncomputable def gWithTruth_2 (F_WithTruth : FF) (F_IsWhole : FF) : SF :=
    (sIf (bAnd (bTru (eCall 1 F_IsWhole (aCons (eVar 0) aNil))) (bVal (eChain (gCm fun d e => !PySem.W.dataLt e d) (gCm fun d e => !PySem.W.dataLt e d) (eC (.int 0)) (eVar 0) (eC (.int 1)))))
    (sSeq (sAugI (fun i j => i - j) (eVar 1) (eC (.int 0)) (eC (.int 1)))
    (sRet (eIf (bVal (eOp gEq (eIxC (eVar 1) (eC (.int 0))) (eNeg (eC (.int 1))))) (eOp gEq (eVar 0) (eC (.int 1))) (eVar 0))))
    sNext)
noncomputable def gWithTruth_3 (F_WithTruth : FF) (F_IsWhole : FF) : SF :=
    (sRet (eVar 0))
noncomputable def gWithTruth (F_WithTruth : FF) (F_IsWhole : FF) : SF :=
    (sSeq (gWithTruth_1 F_WithTruth F_IsWhole) (sSeq (gWithTruth_2 F_WithTruth F_IsWhole) (gWithTruth_3 F_WithTruth F_IsWhole)))
noncomputable def fWithTruth (F_WithTruth : FF) (F_IsWhole : FF) : FF := FnOf nWithTruth (gWithTruth F_WithTruth F_IsWhole)
abbrev nTruthed : List Str := ["_law_bag_here", "_law_thing_here", "_law_many"]
noncomputable def gTruthed_1 (F_Units : FF) (F_WithTruth : FF) (F_Take : FF) : SF :=
    (sAsg (eCall 1 F_Units (aCons (eVar 1) aNil)) (tNm 2))
noncomputable def gTruthed_2 (F_Units : FF) (F_WithTruth : FF) (F_Take : FF) : SF :=
    (sRet (eIf (bVal (eOp (gCm fun d e => PySem.W.dataLt e d) (eVar 2) (eC (.int 0)))) (eCall 2 F_WithTruth (aCons (eVar 1) (aCons (eLstN (aCons (eCall 2 F_Take (aCons (eVar 0) (aCons (eVar 2) aNil))) aNil)) aNil))) (eVar 1)))
noncomputable def gTruthed (F_Units : FF) (F_WithTruth : FF) (F_Take : FF) : SF :=
    (sSeq (gTruthed_1 F_Units F_WithTruth F_Take) (gTruthed_2 F_Units F_WithTruth F_Take))
noncomputable def fTruthed (F_Units : FF) (F_WithTruth : FF) (F_Take : FF) : FF := FnCut nTruthed (gTruthed F_Units F_WithTruth F_Take)
abbrev nIsNatural : List Str := ["_law_thing_here"]
noncomputable def gIsNatural (F_IsWhole : FF) : SF :=
    (sRet (eAnd (eCall 1 F_IsWhole (aCons (eVar 0) aNil)) (eOp (gCm fun d e => !PySem.W.dataLt d e) (eVar 0) (eC (.int 0)))))
noncomputable def fIsNatural (F_IsWhole : FF) : FF := FnOf nIsNatural (gIsNatural F_IsWhole)
abbrev nIsLot : List Str := ["_law_thing_here", "_law_k", "_law_one"]
noncomputable def gIsLot_1 (F_IsNatural : FF) : SF :=
    (sIf (bOr (bNot (bTru (eIs .tuple (eVar 0)))) (bVal (eOp gNe (eComp (iData (eVar 0)) (tNm 2) (bNot (bTru (eCall 1 F_IsNatural (aCons (eVar 2) aNil)))) (eVar 2) [2]) (eLst aNil))))
    (sRet (eC (.bool false)))
    sNext)
noncomputable def gIsLot_2 (F_IsNatural : FF) : SF :=
    (sRet (eOp gEq (eComp (iRange2 (aCons (eC (.int 1)) (aCons (eCB gLen (aCons (eVar 0) aNil)) aNil))) (tNm 1) (bVal (eOp (gCm fun d e => !PySem.W.dataLt d e) (eOp gIx (eVar 0) (eOp Dl.gSub (eVar 1) (eC (.int 1)))) (eOp gIx (eVar 0) (eVar 1)))) (eVar 1) [1]) (eLst aNil)))
noncomputable def gIsLot (F_IsNatural : FF) : SF :=
    (sSeq (gIsLot_1 F_IsNatural) (gIsLot_2 F_IsNatural))
noncomputable def fIsLot (F_IsNatural : FF) : FF := FnOf nIsLot (gIsLot F_IsNatural)
abbrev nIsPlace : List Str := ["_law_thing_here"]
noncomputable def gIsPlace (F_IsNatural : FF) : SF :=
    (sRet (eAnd (eIs .tuple (eVar 0)) (eAnd (eOp gEq (eCB gLen (aCons (eVar 0) aNil)) (eC (.int 2))) (eAnd (eCall 1 F_IsNatural (aCons (eOp gIx (eVar 0) (eC (.int 0))) aNil)) (eCall 1 F_IsNatural (aCons (eOp gIx (eVar 0) (eC (.int 1))) aNil))))))
noncomputable def fIsPlace (F_IsNatural : FF) : FF := FnOf nIsPlace (gIsPlace F_IsNatural)
abbrev nArePlaces : List Str := ["_law_thing_here", "_law_k", "_law_one"]
noncomputable def gArePlaces_1 (F_IsPlace : FF) : SF :=
    (sIf (bOr (bNot (bTru (eIs .tuple (eVar 0)))) (bVal (eOp gNe (eComp (iData (eVar 0)) (tNm 2) (bNot (bTru (eCall 1 F_IsPlace (aCons (eVar 2) aNil)))) (eVar 2) [2]) (eLst aNil))))
    (sRet (eC (.bool false)))
    sNext)
noncomputable def gArePlaces_2 (F_IsPlace : FF) : SF :=
    (sRet (eOp gEq (eComp (iRange2 (aCons (eC (.int 1)) (aCons (eCB gLen (aCons (eVar 0) aNil)) aNil))) (tNm 1) (bVal (eOp (gCm fun d e => !PySem.W.dataLt d e) (eOp gIx (eVar 0) (eOp Dl.gSub (eVar 1) (eC (.int 1)))) (eOp gIx (eVar 0) (eVar 1)))) (eVar 1) [1]) (eLst aNil)))
noncomputable def gArePlaces (F_IsPlace : FF) : SF :=
    (sSeq (gArePlaces_1 F_IsPlace) (gArePlaces_2 F_IsPlace))
noncomputable def fArePlaces (F_IsPlace : FF) : FF := FnOf nArePlaces (gArePlaces F_IsPlace)
abbrev nIsTicket : List Str := ["_law_thing_here"]
noncomputable def gIsTicket_1 (F_IsLot : FF) (F_IsNatural : FF) : SF :=
    (sIf (bOr (bNot (bTru (eIs .tuple (eVar 0)))) (bVal (eOp gNe (eCB gLen (aCons (eVar 0) aNil)) (eC (.int 2)))))
    (sRet (eC (.bool false)))
    sNext)
noncomputable def gIsTicket_2 (F_IsLot : FF) (F_IsNatural : FF) : SF :=
    (sRet (eAnd (eCall 1 F_IsLot (aCons (eOp gIx (eVar 0) (eC (.int 0))) aNil)) (eAnd (eOp gNe (eOp gIx (eVar 0) (eC (.int 0))) (eTup aNil)) (eCall 1 F_IsNatural (aCons (eOp gIx (eVar 0) (eC (.int 1))) aNil)))))
noncomputable def gIsTicket (F_IsLot : FF) (F_IsNatural : FF) : SF :=
    (sSeq (gIsTicket_1 F_IsLot F_IsNatural) (gIsTicket_2 F_IsLot F_IsNatural))
noncomputable def fIsTicket (F_IsLot : FF) (F_IsNatural : FF) : FF := FnOf nIsTicket (gIsTicket F_IsLot F_IsNatural)
abbrev nIsCell : List Str := ["_law_thing_here"]
noncomputable def gIsCell_1 (F_IsWhole : FF) (F_ArePlaces : FF) : SF :=
    (sIf (bOr (bNot (bTru (eIs .tuple (eVar 0)))) (bOr (bVal (eOp gNe (eCB gLen (aCons (eVar 0) aNil)) (eC (.int 4)))) (bOr (bNot (bTru (eCall 1 F_IsWhole (aCons (eOp gIx (eVar 0) (eC (.int 0))) aNil)))) (bNot (bTru (eIs .str (eOp gIx (eVar 0) (eC (.int 1)))))))))
    (sRet (eC (.bool false)))
    sNext)
noncomputable def gIsCell_2 (F_IsWhole : FF) (F_ArePlaces : FF) : SF :=
    (sIf (bOr (bVal (eOp (gIn true) (eOp gIx (eVar 0) (eC (.int 1))) (eTup (aCons (eC (.str "own")) (aCons (eC (.str "common")) aNil))))) (bOr (bNot (bTru (eCall 1 F_ArePlaces (aCons (eOp gIx (eVar 0) (eC (.int 2))) aNil)))) (bNot (bTru (eCall 1 F_ArePlaces (aCons (eOp gIx (eVar 0) (eC (.int 3))) aNil))))))
    (sRet (eC (.bool false)))
    sNext)
noncomputable def gIsCell_3 (F_IsWhole : FF) (F_ArePlaces : FF) : SF :=
    (sRet (eAnd (eOr (eOp gNe (eOp gIx (eVar 0) (eC (.int 2))) (eTup aNil)) (eOp gNe (eOp gIx (eVar 0) (eC (.int 3))) (eTup aNil))) (eOr (eOp gEq (eOp gIx (eVar 0) (eC (.int 1))) (eC (.str "own"))) (eOp gEq (eOp gIx (eVar 0) (eC (.int 3))) (eTup aNil)))))
noncomputable def gIsCell (F_IsWhole : FF) (F_ArePlaces : FF) : SF :=
    (sSeq (gIsCell_1 F_IsWhole F_ArePlaces) (sSeq (gIsCell_2 F_IsWhole F_ArePlaces) (gIsCell_3 F_IsWhole F_ArePlaces)))
noncomputable def fIsCell (F_IsWhole : FF) (F_ArePlaces : FF) : FF := FnOf nIsCell (gIsCell F_IsWhole F_ArePlaces)
abbrev nLot : List Str := ["_law_bag_here"]
noncomputable def gLot (F_Pages : FF) (F_Take : FF) : SF :=
    (sRet (eCB gTupleOf (aCons (eCall 2 F_Pages (aCons (eVar 0) (aCons (eCall 2 F_Take (aCons (eVar 0) (aCons (eC (.int 6)) aNil))) aNil))) aNil)))
noncomputable def fLot (F_Pages : FF) (F_Take : FF) : FF := FnOf nLot (gLot F_Pages F_Take)
abbrev nPlaces : List Str := ["_law_bag_here", "_law_some_here", "_law_k"]
noncomputable def gPlaces_1 (F_Take : FF) : SF :=
    (sAsg (eComp (iRange1 (aCons (eCall 2 F_Take (aCons (eVar 0) (aCons (eC (.int 4)) aNil))) aNil)) (tNm 2) bYes (eTup (aCons (eCall 2 F_Take (aCons (eVar 0) (aCons (eC (.int 3)) aNil))) (aCons (eCall 2 F_Take (aCons (eVar 0) (aCons (eC (.int 4)) aNil))) aNil))) [2]) (tNm 1))
noncomputable def gPlaces_2 (F_Take : FF) : SF :=
    (sRet (eCB gSSet (aCons (eVar 1) aNil)))
noncomputable def gPlaces (F_Take : FF) : SF :=
    (sSeq (gPlaces_1 F_Take) (gPlaces_2 F_Take))
noncomputable def fPlaces (F_Take : FF) : FF := FnOf nPlaces (gPlaces F_Take)
abbrev nThing : List Str := ["_law_bag_here", "_law_way", "_law_number", "_law_sort"]
noncomputable def gThing_1 (F_Some : FF) (F_Take : FF) (F_Lot : FF) (F_Places : FF) (F_Value : FF) : SF :=
    (sPar 1 2 (aCons (eCall 2 F_Take (aCons (eVar 0) (aCons (eC (.int 8)) aNil))) (aCons (eCall 2 F_Some (aCons (eVar 0) (aCons (eLst (aCons (eC (.int 0)) (aCons (eC (.int 1)) (aCons (eC (.int 7)) (aCons (eOp Dl.gSub (eOp gPow (eC (.int 10)) (eC (.int 20))) (eC (.int 1))) (aCons (eOp gPow (eC (.int 10)) (eC (.int 39))) (aCons (eCall 2 F_Take (aCons (eVar 0) (aCons (eOp gPow (eC (.int 10)) (eC (.int 9))) aNil))) aNil))))))) aNil))) aNil)))
noncomputable def gThing_2 (F_Some : FF) (F_Take : FF) (F_Lot : FF) (F_Places : FF) (F_Value : FF) : SF :=
    (sIf (bVal (eOp (gCm PySem.W.dataLt) (eVar 1) (eC (.int 2))))
    (sRet (eCall 2 F_Some (aCons (eVar 0) (aCons (eLst (aCons (eVar 2) (aCons (eOp Dl.gSub (eC (.int 0)) (eVar 2)) (aCons (eCall 1 F_Lot (aCons (eVar 0) aNil)) aNil)))) aNil))))
    sNext)
noncomputable def gThing_3 (F_Some : FF) (F_Take : FF) (F_Lot : FF) (F_Places : FF) (F_Value : FF) : SF :=
    (sIf (bVal (eOp gEq (eVar 1) (eC (.int 2))))
    (sRet (eTup (aCons (eCall 2 F_Take (aCons (eVar 0) (aCons (eC (.int 4)) aNil))) (aCons (eCall 2 F_Some (aCons (eVar 0) (aCons (eLst (aCons (eC (.int 0)) (aCons (eC (.int 1)) (aCons (eVar 2) aNil)))) aNil))) aNil))))
    sNext)
noncomputable def gThing_4 (F_Some : FF) (F_Take : FF) (F_Lot : FF) (F_Places : FF) (F_Value : FF) : SF :=
    (sIf (bVal (eOp (gCm PySem.W.dataLt) (eVar 1) (eC (.int 5))))
    (sRet (eTup (aCons (eCall 1 F_Lot (aCons (eVar 0) aNil)) (aCons (eVar 2) aNil))))
    sNext)
noncomputable def gThing_5 (F_Some : FF) (F_Take : FF) (F_Lot : FF) (F_Places : FF) (F_Value : FF) : SF :=
    (sIf (bVal (eOp (gCm PySem.W.dataLt) (eVar 1) (eC (.int 7))))
    (sSeq (sPar 3 2 (aCons (eCall 2 F_Some (aCons (eVar 0) (aCons (eLst (aCons (eC (.str "own")) (aCons (eC (.str "own")) (aCons (eC (.str "common")) aNil)))) aNil))) (aCons (eCall 2 F_Some (aCons (eVar 0) (aCons (eLst (aCons (eVar 2) (aCons (eOp Dl.gSub (eC (.int 0)) (eVar 2)) aNil))) aNil))) aNil)))
    (sRet (eTup (aCons (eVar 2) (aCons (eVar 3) (aCons (eCall 1 F_Places (aCons (eVar 0) aNil)) (aCons (eIf (bOr (bVal (eOp gEq (eVar 3) (eC (.str "own")))) (bVal (eOp gEq (eCall 2 F_Take (aCons (eVar 0) (aCons (eC (.int 3)) aNil))) (eC (.int 0))))) (eCall 1 F_Places (aCons (eVar 0) aNil)) (eTup aNil)) aNil)))))))
    sNext)
noncomputable def gThing_6 (F_Some : FF) (F_Take : FF) (F_Lot : FF) (F_Places : FF) (F_Value : FF) : SF :=
    (sRet (eCall 2 F_Value (aCons (eVar 0) (aCons (eC (.int 3)) aNil))))
noncomputable def gThing (F_Some : FF) (F_Take : FF) (F_Lot : FF) (F_Places : FF) (F_Value : FF) : SF :=
    (sSeq (gThing_1 F_Some F_Take F_Lot F_Places F_Value) (sSeq (gThing_2 F_Some F_Take F_Lot F_Places F_Value) (sSeq (gThing_3 F_Some F_Take F_Lot F_Places F_Value) (sSeq (gThing_4 F_Some F_Take F_Lot F_Places F_Value) (sSeq (gThing_5 F_Some F_Take F_Lot F_Places F_Value) (gThing_6 F_Some F_Take F_Lot F_Places F_Value))))))
noncomputable def fThing (F_Some : FF) (F_Take : FF) (F_Lot : FF) (F_Places : FF) (F_Value : FF) : FF := FnOf nThing (gThing F_Some F_Take F_Lot F_Places F_Value)
abbrev nAreStrangers : List Str := ["_law_one", "_law_other", "_law_third", "_law_thing_here", "_law_cells", "_law_found"]
noncomputable def gAreStrangers_1 (F_Alike : FF) (F_PIsCell : FF) (F_PIsTicket : FF) (F_PIsPlace : FF) (F_PIsLot : FF) (F_PIsInteger : FF) : SF :=
    (sFor (iData (eTup (aCons (eVar 0) (aCons (eVar 1) (aCons (eTup (aCons (eVar 2) aNil)) (aCons (eTup (aCons (eC (.int 0)) (aCons (eVar 0) aNil))) (aCons (eTup (aCons (eVar 1) (aCons (eC (.int 0)) aNil))) (aCons (eTup (aCons (eTup (aCons (eC (.int 0)) (aCons (eVar 2) aNil))) (aCons (eC (.int 1)) aNil))) (aCons (eTup (aCons (eTup (aCons (eVar 1) aNil)) (aCons (eC (.int 1)) aNil))) (aCons (eTup (aCons (eTup (aCons (eC (.int 0)) aNil)) (aCons (eVar 0) aNil))) aNil)))))))))) (tNm 3)
    (sSeq (sAsg (eLst (aCons (eCall 1 F_PIsInteger (aCons (eVar 3) aNil)) (aCons (eCall 1 F_PIsLot (aCons (eVar 3) aNil)) (aCons (eCall 1 F_PIsPlace (aCons (eVar 3) aNil)) (aCons (eCall 1 F_PIsTicket (aCons (eVar 3) aNil)) (aCons (eCall 1 F_PIsCell (aCons (eVar 3) aNil)) aNil)))))) (tNm 5))
    (sIf (bNot (bTru (eCall 2 F_Alike (aCons (eVar 5) (aCons (eOp gMulD (eLst (aCons (eC (.bool false)) aNil)) (eC (.int 5))) aNil)))))
    (sRet (eC (.bool false)))
    sNext)))
noncomputable def gAreStrangers_2 (F_Alike : FF) (F_PIsCell : FF) (F_PIsTicket : FF) (F_PIsPlace : FF) (F_PIsLot : FF) (F_PIsInteger : FF) : SF :=
    (sAsg (eLst (aCons (eTup (aCons (eVar 0) (aCons (eC (.str "own")) (aCons (eTup (aCons (eTup (aCons (eC (.int 0)) (aCons (eC (.int 0)) aNil))) aNil)) (aCons (eTup aNil) aNil))))) (aCons (eTup (aCons (eC (.int 0)) (aCons (eVar 1) (aCons (eTup (aCons (eTup (aCons (eC (.int 0)) (aCons (eC (.int 0)) aNil))) aNil)) (aCons (eTup aNil) aNil))))) (aCons (eTup (aCons (eC (.int 0)) (aCons (eC (.str "own")) (aCons (eVar 2) (aCons (eTup aNil) aNil))))) (aCons (eTup (aCons (eC (.int 0)) (aCons (eC (.str "own")) (aCons (eTup (aCons (eTup (aCons (eC (.int 0)) (aCons (eVar 0) aNil))) aNil)) (aCons (eTup aNil) aNil))))) aNil))))) (tNm 4))
noncomputable def gAreStrangers_3 (F_Alike : FF) (F_PIsCell : FF) (F_PIsTicket : FF) (F_PIsPlace : FF) (F_PIsLot : FF) (F_PIsInteger : FF) : SF :=
    (sFor (iData (eVar 4)) (tNm 3)
    (sIf (bNot (bTru (eCall 2 F_Alike (aCons (eCall 1 F_PIsCell (aCons (eVar 3) aNil)) (aCons (eC (.bool false)) aNil)))))
    (sRet (eC (.bool false)))
    sNext))
noncomputable def gAreStrangers_4 (F_Alike : FF) (F_PIsCell : FF) (F_PIsTicket : FF) (F_PIsPlace : FF) (F_PIsLot : FF) (F_PIsInteger : FF) : SF :=
    (sRet (eC (.bool true)))
noncomputable def gAreStrangers (F_Alike : FF) (F_PIsCell : FF) (F_PIsTicket : FF) (F_PIsPlace : FF) (F_PIsLot : FF) (F_PIsInteger : FF) : SF :=
    (sSeq (gAreStrangers_1 F_Alike F_PIsCell F_PIsTicket F_PIsPlace F_PIsLot F_PIsInteger) (sSeq (gAreStrangers_2 F_Alike F_PIsCell F_PIsTicket F_PIsPlace F_PIsLot F_PIsInteger) (sSeq (gAreStrangers_3 F_Alike F_PIsCell F_PIsTicket F_PIsPlace F_PIsLot F_PIsInteger) (gAreStrangers_4 F_Alike F_PIsCell F_PIsTicket F_PIsPlace F_PIsLot F_PIsInteger))))
noncomputable def fAreStrangers (F_Alike : FF) (F_PIsCell : FF) (F_PIsTicket : FF) (F_PIsPlace : FF) (F_PIsLot : FF) (F_PIsInteger : FF) : FF := FnOf nAreStrangers (gAreStrangers F_Alike F_PIsCell F_PIsTicket F_PIsPlace F_PIsLot F_PIsInteger)
end D01

set_option Elab.async false
set_option linter.all false
set_option maxRecDepth 100000
set_option maxHeartbeats 4000000
namespace D01
open PySem PySem.Spec PyProof.Rows L2 Pg Dl
abbrev nLaw : List Str := ["_law_script", "_law_bag_here", "_law_turn", "_law_thing_here", "_law_again", "_law_due", "_law_text", "_law_found"]
noncomputable def gLaw_1 (F_Bag : FF) (F_Alike : FF) (F_PIsCell : FF) (F_PIsTicket : FF) (F_PIsPlace : FF) (F_PIsLot : FF) (F_PIsInteger : FF) (F_IsCell : FF) (F_IsTicket : FF) (F_IsPlace : FF) (F_IsLot : FF) (F_IsWhole : FF) (F_Some : FF) (F_Take : FF) (F_Bent : FF) (F_Truthed : FF) (F_Thing : FF) : SF :=
    (sAsg (eCall 1 F_Bag (aCons (eVar 0) aNil)) (tNm 1))
noncomputable def gLaw_2 (F_Bag : FF) (F_Alike : FF) (F_PIsCell : FF) (F_PIsTicket : FF) (F_PIsPlace : FF) (F_PIsLot : FF) (F_PIsInteger : FF) (F_IsCell : FF) (F_IsTicket : FF) (F_IsPlace : FF) (F_IsLot : FF) (F_IsWhole : FF) (F_Some : FF) (F_Take : FF) (F_Bent : FF) (F_Truthed : FF) (F_Thing : FF) : SF :=
    (sFor (iRange1 (aCons (eC (.int 40)) aNil)) (tNm 2)
    (sSeq (sAsg (eCall 1 F_Thing (aCons (eVar 1) aNil)) (tNm 3))
    (sSeq (sFor (iRange1 (aCons (eCall 2 F_Some (aCons (eVar 1) (aCons (eLst (aCons (eC (.int 0)) (aCons (eC (.int 1)) (aCons (eC (.int 1)) (aCons (eC (.int 2)) aNil))))) aNil))) aNil)) (tNm 4)
    (sAsg (eIf (bVal (eOp (gCm fun d e => PySem.W.dataLt e d) (eCall 2 F_Take (aCons (eVar 1) (aCons (eC (.int 5)) aNil))) (eC (.int 0)))) (eCall 3 F_Bent (aCons (eVar 1) (aCons (eVar 3) (aCons (eC (.int 3)) aNil)))) (eCall 2 F_Truthed (aCons (eVar 1) (aCons (eVar 3) aNil)))) (tNm 3)))
    (sSeq (sAsg (eLst (aCons (eCall 1 F_IsWhole (aCons (eVar 3) aNil)) (aCons (eCall 1 F_IsLot (aCons (eVar 3) aNil)) (aCons (eCall 1 F_IsPlace (aCons (eVar 3) aNil)) aNil)))) (tNm 5))
    (sSeq (sAsg (eOp gAdd (eVar 5) (eLst (aCons (eCall 1 F_IsTicket (aCons (eVar 3) aNil)) (aCons (eCall 1 F_IsCell (aCons (eVar 3) aNil)) aNil)))) (tNm 5))
    (sSeq (sAsg (eCB gRepr (aCons (eVar 3) aNil)) (tNm 6))
    (sFor (iRange1 (aCons (eC (.int 2)) aNil)) (tNm 4)
    (sSeq (sAsg (eLst (aCons (eCall 1 F_PIsInteger (aCons (eVar 3) aNil)) (aCons (eCall 1 F_PIsLot (aCons (eVar 3) aNil)) (aCons (eCall 1 F_PIsPlace (aCons (eVar 3) aNil)) (aCons (eCall 1 F_PIsTicket (aCons (eVar 3) aNil)) (aCons (eCall 1 F_PIsCell (aCons (eVar 3) aNil)) aNil)))))) (tNm 7))
    (sIf (bOr (bNot (bTru (eCall 2 F_Alike (aCons (eVar 7) (aCons (eVar 5) aNil))))) (bVal (eOp gNe (eCB gRepr (aCons (eVar 3) aNil)) (eVar 6))))
    (sRet (eC (.bool false)))
    sNext)))))))))
noncomputable def gLaw_3 (F_Bag : FF) (F_Alike : FF) (F_PIsCell : FF) (F_PIsTicket : FF) (F_PIsPlace : FF) (F_PIsLot : FF) (F_PIsInteger : FF) (F_IsCell : FF) (F_IsTicket : FF) (F_IsPlace : FF) (F_IsLot : FF) (F_IsWhole : FF) (F_Some : FF) (F_Take : FF) (F_Bent : FF) (F_Truthed : FF) (F_Thing : FF) : SF :=
    (sRet (eC (.bool true)))
noncomputable def gLaw (F_Bag : FF) (F_Alike : FF) (F_PIsCell : FF) (F_PIsTicket : FF) (F_PIsPlace : FF) (F_PIsLot : FF) (F_PIsInteger : FF) (F_IsCell : FF) (F_IsTicket : FF) (F_IsPlace : FF) (F_IsLot : FF) (F_IsWhole : FF) (F_Some : FF) (F_Take : FF) (F_Bent : FF) (F_Truthed : FF) (F_Thing : FF) : SF :=
    (sSeq (gLaw_1 F_Bag F_Alike F_PIsCell F_PIsTicket F_PIsPlace F_PIsLot F_PIsInteger F_IsCell F_IsTicket F_IsPlace F_IsLot F_IsWhole F_Some F_Take F_Bent F_Truthed F_Thing) (sSeq (gLaw_2 F_Bag F_Alike F_PIsCell F_PIsTicket F_PIsPlace F_PIsLot F_PIsInteger F_IsCell F_IsTicket F_IsPlace F_IsLot F_IsWhole F_Some F_Take F_Bent F_Truthed F_Thing) (gLaw_3 F_Bag F_Alike F_PIsCell F_PIsTicket F_PIsPlace F_PIsLot F_PIsInteger F_IsCell F_IsTicket F_IsPlace F_IsLot F_IsWhole F_Some F_Take F_Bent F_Truthed F_Thing)))
noncomputable def fLaw (F_Bag : FF) (F_Alike : FF) (F_PIsCell : FF) (F_PIsTicket : FF) (F_PIsPlace : FF) (F_PIsLot : FF) (F_PIsInteger : FF) (F_IsCell : FF) (F_IsTicket : FF) (F_IsPlace : FF) (F_IsLot : FF) (F_IsWhole : FF) (F_Some : FF) (F_Take : FF) (F_Bent : FF) (F_Truthed : FF) (F_Thing : FF) : FF := FnOf nLaw (gLaw F_Bag F_Alike F_PIsCell F_PIsTicket F_PIsPlace F_PIsLot F_PIsInteger F_IsCell F_IsTicket F_IsPlace F_IsLot F_IsWhole F_Some F_Take F_Bent F_Truthed F_Thing)
end D01

set_option Elab.async false
set_option linter.all false
set_option maxRecDepth 100000
set_option maxHeartbeats 4000000
namespace D01
open PySem PySem.Spec PyProof.Rows L2 Pg Dl
def topS (i : Nat) : Stmt := PySem.Challenge.pw_pagesworn_k01_forms_of_any_value.main.body.getD i (.Pass ⟨0, 0, 0, 0⟩)
abbrev sPIsInteger : Stmt := topS 6
theorem scPIsInteger : FnScope nPIsInteger ["thing"] (defScope sPIsInteger) := ⟨rfl, rfl, rfl, by decide +kernel, rfl, by decide +kernel, by decide +kernel⟩
theorem calPIsInteger {P : Program} {w : World} {K : PySem.W.Frag} {mg : Str → Option Value} {base : Heap} {k : Nat} {f : Addr} {fd : FuncData} (D : Df K mg "is_integer" ["thing"] sPIsInteger f fd) (m_bool : mg "bool" = none) (m_int : mg "int" = none) (m_isinstance : mg "isinstance" = none) {Fn : FF}
    (hF : ∀ args s v s', args.length = 1 → Fn args s = some (v, s') → EndsD (gPIsInteger) (startD nPIsInteger args) s v s') : Cal P w K mg base (k + 1) "is_integer" ["thing"] Fn :=
  okD D scPIsInteger (fun cdv A outer s H E hg hr => ⟨_, (qs_one (qs_ret (q_and rfl (q_is (k := .int) rfl m_isinstance m_int (by decide +kernel) (q_var 0 (pv 0)) rfl rfl (by decide) (by decide) rfl rfl rfl (by decide +kernel)) (q_one (q_not rfl (q_is (k := .bool) rfl m_isinstance m_bool (by decide +kernel) (q_var 0 (pv 0)) rfl rfl (by decide) (by decide) rfl rfl rfl (by decide +kernel)))))))⟩) hF
theorem isPIsInteger {P : Program} {w : World} {K : PySem.W.Frag} {mg : Str → Option Value} {base : Heap} {k : Nat} {f : Addr} {fd : FuncData} (D : Df K mg "is_integer" ["thing"] sPIsInteger f fd) (m_bool : mg "bool" = none) (m_int : mg "int" = none) (m_isinstance : mg "isinstance" = none) : Cal P w K mg base (k + 1) "is_integer" ["thing"] (fPIsInteger) := calPIsInteger D m_bool m_int m_isinstance ends_of
abbrev sPIsNumber : Stmt := topS 7
theorem scPIsNumber : FnScope nPIsNumber ["thing"] (defScope sPIsNumber) := ⟨rfl, rfl, rfl, by decide +kernel, rfl, by decide +kernel, by decide +kernel⟩
theorem calPIsNumber {P : Program} {w : World} {K : PySem.W.Frag} {mg : Str → Option Value} {base : Heap} {k : Nat} {f : Addr} {fd : FuncData} (D : Df K mg "is_number" ["thing"] sPIsNumber f fd) {F_PIsInteger : FF} (c_PIsInteger : Cal P w K mg base k "is_integer" ["thing"] F_PIsInteger) {Fn : FF}
    (hF : ∀ args s v s', args.length = 1 → Fn args s = some (v, s') → EndsD (gPIsNumber F_PIsInteger) (startD nPIsNumber args) s v s') : Cal P w K mg base (k + 1) "is_number" ["thing"] Fn :=
  okD D scPIsNumber (fun cdv A outer s H E hg hr => ⟨_, (qs_one (qs_ret (q_and rfl (q_call c_PIsInteger rfl hg hr (qa_cons (q_var 0 (pv 0)) qa_nil rfl) rfl (by decide) rfl rfl) (q_one (q_cmp (so_cm _) (op_geD hr.units) (q_var 0 (pv 0)) q_int (nomark _))))))⟩) hF
theorem isPIsNumber {P : Program} {w : World} {K : PySem.W.Frag} {mg : Str → Option Value} {base : Heap} {k : Nat} {f : Addr} {fd : FuncData} (D : Df K mg "is_number" ["thing"] sPIsNumber f fd) {F_PIsInteger : FF} (c_PIsInteger : Cal P w K mg base k "is_integer" ["thing"] F_PIsInteger) : Cal P w K mg base (k + 1) "is_number" ["thing"] (fPIsNumber F_PIsInteger) := calPIsNumber D c_PIsInteger ends_of
abbrev sPIsRow : Stmt := topS 8
theorem scPIsRow : FnScope nPIsRow ["thing", "many"] (defScope sPIsRow) := ⟨rfl, rfl, rfl, by decide +kernel, rfl, by decide +kernel, by decide +kernel⟩
theorem calPIsRow {P : Program} {w : World} {K : PySem.W.Frag} {mg : Str → Option Value} {base : Heap} {k : Nat} {f : Addr} {fd : FuncData} (D : Df K mg "is_row" ["thing", "many"] sPIsRow f fd) (m_isinstance : mg "isinstance" = none) (m_len : mg "len" = none) (m_tuple : mg "tuple" = none) {Fn : FF}
    (hF : ∀ args s v s', args.length = 2 → Fn args s = some (v, s') → EndsD (gPIsRow) (startD nPIsRow args) s v s') : Cal P w K mg base (k + 1) "is_row" ["thing", "many"] Fn :=
  okD D scPIsRow (fun cdv A outer s H E hg hr => ⟨_, (qs_one (qs_ret (q_and rfl (q_is (k := .tuple) rfl m_isinstance m_tuple (by decide +kernel) (q_var 0 (pv 0)) rfl rfl (by decide) (by decide) rfl rfl rfl (by decide +kernel)) (q_one (q_cmp so_eq (Dl.op_eqD hr.units) (q_cb sc_len Dl.call_lenD m_len (by decide +kernel) (qa_cons (q_var 0 (pv 0)) qa_nil rfl) rfl (by decide) (by decide) rfl rfl) (q_var 1 (pv 1)) (nomark _))))))⟩) hF
theorem isPIsRow {P : Program} {w : World} {K : PySem.W.Frag} {mg : Str → Option Value} {base : Heap} {k : Nat} {f : Addr} {fd : FuncData} (D : Df K mg "is_row" ["thing", "many"] sPIsRow f fd) (m_isinstance : mg "isinstance" = none) (m_len : mg "len" = none) (m_tuple : mg "tuple" = none) : Cal P w K mg base (k + 1) "is_row" ["thing", "many"] (fPIsRow) := calPIsRow D m_isinstance m_len m_tuple ends_of
abbrev sPAscends : Stmt := topS 9
theorem scPAscends : FnScope nPAscends ["things"] (defScope sPAscends) := ⟨rfl, rfl, rfl, by decide +kernel, rfl, by decide +kernel, by decide +kernel⟩
theorem calPAscends {P : Program} {w : World} {K : PySem.W.Frag} {mg : Str → Option Value} {base : Heap} {k : Nat} {f : Addr} {fd : FuncData} (D : Df K mg "ascends" ["things"] sPAscends f fd) (m_all : mg "all" = none) (m_len : mg "len" = none) (m_range : mg "range" = none) {Fn : FF}
    (hF : ∀ args s v s', args.length = 1 → Fn args s = some (v, s') → EndsD (gPAscends) (startD nPAscends args) s v s') : Cal P w K mg base (k + 1) "ascends" ["things"] Fn :=
  okD D scPAscends (fun cdv A outer s H E hg hr => ⟨_, (qs_one (qs_ret (q_cb sc_all (cr_all rfl) m_all (by decide +kernel) (qa_cons (q_comp rfl scPAscends.nd (own := [("index", 1)]) (qi_range1 m_range (qa_cons (q_op so_sub op_sub (q_cb sc_len Dl.call_lenD m_len (by decide +kernel) (qa_cons (q_var 0 (pv 0)) qa_nil rfl) rfl (by decide) (by decide) rfl rfl) q_int) qa_nil rfl) rfl rfl) (blkOk_by (N := nPAscends) (sc := defScope sPAscends) (by decide +kernel)) (kps_nm (by decide)) (fun _ _ _ _ _ => (qg_nm (pg_name (i := 1) scPAscends.nd rfl (Or.inl rfl)))) (fun _ _ _ _ _ => qt_nil) (fun _ _ _ _ _ => (q_cmp (so_cm _) (op_ltD hr.units) (q_ix rfl (q_var 0 (pv 0)) (q_var 1 (pv 1)) (fun _ _ => rfl)) (q_ix rfl (q_var 0 (pv 0)) (q_op so_add op_addD (q_var 1 (pv 1)) q_int) (fun _ _ => rfl)) (nomark _))) (fun _ => rfl)) qa_nil rfl) rfl (by decide) (by decide) rfl rfl)))⟩) hF
theorem isPAscends {P : Program} {w : World} {K : PySem.W.Frag} {mg : Str → Option Value} {base : Heap} {k : Nat} {f : Addr} {fd : FuncData} (D : Df K mg "ascends" ["things"] sPAscends f fd) (m_all : mg "all" = none) (m_len : mg "len" = none) (m_range : mg "range" = none) : Cal P w K mg base (k + 1) "ascends" ["things"] (fPAscends) := calPAscends D m_all m_len m_range ends_of
abbrev sPIsLot : Stmt := topS 10
theorem scPIsLot : FnScope nPIsLot ["thing"] (defScope sPIsLot) := ⟨rfl, rfl, rfl, by decide +kernel, rfl, by decide +kernel, by decide +kernel⟩
theorem calPIsLot {P : Program} {w : World} {K : PySem.W.Frag} {mg : Str → Option Value} {base : Heap} {k : Nat} {f : Addr} {fd : FuncData} (D : Df K mg "is_lot" ["thing"] sPIsLot f fd) (m_all : mg "all" = none) (m_isinstance : mg "isinstance" = none) (m_tuple : mg "tuple" = none) {F_PIsNumber : FF} (c_PIsNumber : Cal P w K mg base k "is_number" ["thing"] F_PIsNumber) {F_PAscends : FF} (c_PAscends : Cal P w K mg base k "ascends" ["things"] F_PAscends) {Fn : FF}
    (hF : ∀ args s v s', args.length = 1 → Fn args s = some (v, s') → EndsD (gPIsLot F_PIsNumber F_PAscends) (startD nPIsLot args) s v s') : Cal P w K mg base (k + 1) "is_lot" ["thing"] Fn :=
  okD D scPIsLot (fun cdv A outer s H E hg hr => ⟨_, (qs_one (qs_ret (q_and rfl (q_is (k := .tuple) rfl m_isinstance m_tuple (by decide +kernel) (q_var 0 (pv 0)) rfl rfl (by decide) (by decide) rfl rfl rfl (by decide +kernel)) (q_and rfl (q_cb sc_all (cr_all rfl) m_all (by decide +kernel) (qa_cons (q_comp rfl scPIsLot.nd (own := [("item", 1)]) (qi_data rfl (q_var 0 (pv 0))) (blkOk_by (N := nPIsLot) (sc := defScope sPIsLot) (by decide +kernel)) (kps_nm (by decide)) (fun _ _ _ _ _ => (qg_nm (pg_name (i := 1) scPIsLot.nd rfl (Or.inl rfl)))) (fun _ _ _ _ _ => qt_nil) (fun _ _ _ _ _ => (q_call c_PIsNumber rfl hg hr (qa_cons (q_var 1 (pv 1)) qa_nil rfl) rfl (by decide) rfl rfl)) (fun _ => rfl)) qa_nil rfl) rfl (by decide) (by decide) rfl rfl) (q_one (q_call c_PAscends rfl hg hr (qa_cons (q_var 0 (pv 0)) qa_nil rfl) rfl (by decide) rfl rfl))))))⟩) hF
theorem isPIsLot {P : Program} {w : World} {K : PySem.W.Frag} {mg : Str → Option Value} {base : Heap} {k : Nat} {f : Addr} {fd : FuncData} (D : Df K mg "is_lot" ["thing"] sPIsLot f fd) (m_all : mg "all" = none) (m_isinstance : mg "isinstance" = none) (m_tuple : mg "tuple" = none) {F_PIsNumber : FF} (c_PIsNumber : Cal P w K mg base k "is_number" ["thing"] F_PIsNumber) {F_PAscends : FF} (c_PAscends : Cal P w K mg base k "ascends" ["things"] F_PAscends) : Cal P w K mg base (k + 1) "is_lot" ["thing"] (fPIsLot F_PIsNumber F_PAscends) := calPIsLot D m_all m_isinstance m_tuple c_PIsNumber c_PAscends ends_of
abbrev sPIsSomeLot : Stmt := topS 11
theorem scPIsSomeLot : FnScope nPIsSomeLot ["thing"] (defScope sPIsSomeLot) := ⟨rfl, rfl, rfl, by decide +kernel, rfl, by decide +kernel, by decide +kernel⟩
theorem calPIsSomeLot {P : Program} {w : World} {K : PySem.W.Frag} {mg : Str → Option Value} {base : Heap} {k : Nat} {f : Addr} {fd : FuncData} (D : Df K mg "is_some_lot" ["thing"] sPIsSomeLot f fd) (m_len : mg "len" = none) {F_PIsLot : FF} (c_PIsLot : Cal P w K mg base k "is_lot" ["thing"] F_PIsLot) {Fn : FF}
    (hF : ∀ args s v s', args.length = 1 → Fn args s = some (v, s') → EndsD (gPIsSomeLot F_PIsLot) (startD nPIsSomeLot args) s v s') : Cal P w K mg base (k + 1) "is_some_lot" ["thing"] Fn :=
  okD D scPIsSomeLot (fun cdv A outer s H E hg hr => ⟨_, (qs_one (qs_ret (q_and rfl (q_call c_PIsLot rfl hg hr (qa_cons (q_var 0 (pv 0)) qa_nil rfl) rfl (by decide) rfl rfl) (q_one (q_cmp (so_cm _) (op_gtD hr.units) (q_cb sc_len Dl.call_lenD m_len (by decide +kernel) (qa_cons (q_var 0 (pv 0)) qa_nil rfl) rfl (by decide) (by decide) rfl rfl) q_int (nomark _))))))⟩) hF
theorem isPIsSomeLot {P : Program} {w : World} {K : PySem.W.Frag} {mg : Str → Option Value} {base : Heap} {k : Nat} {f : Addr} {fd : FuncData} (D : Df K mg "is_some_lot" ["thing"] sPIsSomeLot f fd) (m_len : mg "len" = none) {F_PIsLot : FF} (c_PIsLot : Cal P w K mg base k "is_lot" ["thing"] F_PIsLot) : Cal P w K mg base (k + 1) "is_some_lot" ["thing"] (fPIsSomeLot F_PIsLot) := calPIsSomeLot D m_len c_PIsLot ends_of
abbrev sPIsNumberPair : Stmt := topS 12
theorem scPIsNumberPair : FnScope nPIsNumberPair ["thing"] (defScope sPIsNumberPair) := ⟨rfl, rfl, rfl, by decide +kernel, rfl, by decide +kernel, by decide +kernel⟩
theorem calPIsNumberPair {P : Program} {w : World} {K : PySem.W.Frag} {mg : Str → Option Value} {base : Heap} {k : Nat} {f : Addr} {fd : FuncData} (D : Df K mg "is_number_pair" ["thing"] sPIsNumberPair f fd) {F_PIsRow : FF} (c_PIsRow : Cal P w K mg base k "is_row" ["thing", "many"] F_PIsRow) {F_PIsNumber : FF} (c_PIsNumber : Cal P w K mg base k "is_number" ["thing"] F_PIsNumber) {Fn : FF}
    (hF : ∀ args s v s', args.length = 1 → Fn args s = some (v, s') → EndsD (gPIsNumberPair F_PIsRow F_PIsNumber) (startD nPIsNumberPair args) s v s') : Cal P w K mg base (k + 1) "is_number_pair" ["thing"] Fn :=
  okD D scPIsNumberPair (fun cdv A outer s H E hg hr => ⟨_, (qs_one (qs_ret (q_and rfl (q_call c_PIsRow rfl hg hr (qa_cons (q_var 0 (pv 0)) (qa_cons q_int qa_nil rfl) rfl) rfl (by decide) rfl rfl) (q_and rfl (q_call c_PIsNumber rfl hg hr (qa_cons (q_ix rfl (q_var 0 (pv 0)) q_int (fun _ _ => rfl)) qa_nil rfl) rfl (by decide) rfl rfl) (q_one (q_call c_PIsNumber rfl hg hr (qa_cons (q_ix rfl (q_var 0 (pv 0)) q_int (fun _ _ => rfl)) qa_nil rfl) rfl (by decide) rfl rfl))))))⟩) hF
theorem isPIsNumberPair {P : Program} {w : World} {K : PySem.W.Frag} {mg : Str → Option Value} {base : Heap} {k : Nat} {f : Addr} {fd : FuncData} (D : Df K mg "is_number_pair" ["thing"] sPIsNumberPair f fd) {F_PIsRow : FF} (c_PIsRow : Cal P w K mg base k "is_row" ["thing", "many"] F_PIsRow) {F_PIsNumber : FF} (c_PIsNumber : Cal P w K mg base k "is_number" ["thing"] F_PIsNumber) : Cal P w K mg base (k + 1) "is_number_pair" ["thing"] (fPIsNumberPair F_PIsRow F_PIsNumber) := calPIsNumberPair D c_PIsRow c_PIsNumber ends_of
abbrev sPIsPlace : Stmt := topS 13
theorem scPIsPlace : FnScope nPIsPlace ["thing"] (defScope sPIsPlace) := ⟨rfl, rfl, rfl, by decide +kernel, rfl, by decide +kernel, by decide +kernel⟩
theorem calPIsPlace {P : Program} {w : World} {K : PySem.W.Frag} {mg : Str → Option Value} {base : Heap} {k : Nat} {f : Addr} {fd : FuncData} (D : Df K mg "is_place" ["thing"] sPIsPlace f fd) {F_PIsNumberPair : FF} (c_PIsNumberPair : Cal P w K mg base k "is_number_pair" ["thing"] F_PIsNumberPair) {Fn : FF}
    (hF : ∀ args s v s', args.length = 1 → Fn args s = some (v, s') → EndsD (gPIsPlace F_PIsNumberPair) (startD nPIsPlace args) s v s') : Cal P w K mg base (k + 1) "is_place" ["thing"] Fn :=
  okD D scPIsPlace (fun cdv A outer s H E hg hr => ⟨_, (qs_one (qs_ret (q_call c_PIsNumberPair rfl hg hr (qa_cons (q_var 0 (pv 0)) qa_nil rfl) rfl (by decide) rfl rfl)))⟩) hF
theorem isPIsPlace {P : Program} {w : World} {K : PySem.W.Frag} {mg : Str → Option Value} {base : Heap} {k : Nat} {f : Addr} {fd : FuncData} (D : Df K mg "is_place" ["thing"] sPIsPlace f fd) {F_PIsNumberPair : FF} (c_PIsNumberPair : Cal P w K mg base k "is_number_pair" ["thing"] F_PIsNumberPair) : Cal P w K mg base (k + 1) "is_place" ["thing"] (fPIsPlace F_PIsNumberPair) := calPIsPlace D c_PIsNumberPair ends_of
abbrev sPIsLotOfPairs : Stmt := topS 14
theorem scPIsLotOfPairs : FnScope nPIsLotOfPairs ["thing"] (defScope sPIsLotOfPairs) := ⟨rfl, rfl, rfl, by decide +kernel, rfl, by decide +kernel, by decide +kernel⟩
theorem calPIsLotOfPairs {P : Program} {w : World} {K : PySem.W.Frag} {mg : Str → Option Value} {base : Heap} {k : Nat} {f : Addr} {fd : FuncData} (D : Df K mg "is_lot_of_pairs" ["thing"] sPIsLotOfPairs f fd) (m_all : mg "all" = none) (m_isinstance : mg "isinstance" = none) (m_tuple : mg "tuple" = none) {F_PIsNumberPair : FF} (c_PIsNumberPair : Cal P w K mg base k "is_number_pair" ["thing"] F_PIsNumberPair) {F_PAscends : FF} (c_PAscends : Cal P w K mg base k "ascends" ["things"] F_PAscends) {Fn : FF}
    (hF : ∀ args s v s', args.length = 1 → Fn args s = some (v, s') → EndsD (gPIsLotOfPairs F_PIsNumberPair F_PAscends) (startD nPIsLotOfPairs args) s v s') : Cal P w K mg base (k + 1) "is_lot_of_pairs" ["thing"] Fn :=
  okD D scPIsLotOfPairs (fun cdv A outer s H E hg hr => ⟨_, (qs_one (qs_ret (q_and rfl (q_is (k := .tuple) rfl m_isinstance m_tuple (by decide +kernel) (q_var 0 (pv 0)) rfl rfl (by decide) (by decide) rfl rfl rfl (by decide +kernel)) (q_and rfl (q_cb sc_all (cr_all rfl) m_all (by decide +kernel) (qa_cons (q_comp rfl scPIsLotOfPairs.nd (own := [("item", 1)]) (qi_data rfl (q_var 0 (pv 0))) (blkOk_by (N := nPIsLotOfPairs) (sc := defScope sPIsLotOfPairs) (by decide +kernel)) (kps_nm (by decide)) (fun _ _ _ _ _ => (qg_nm (pg_name (i := 1) scPIsLotOfPairs.nd rfl (Or.inl rfl)))) (fun _ _ _ _ _ => qt_nil) (fun _ _ _ _ _ => (q_call c_PIsNumberPair rfl hg hr (qa_cons (q_var 1 (pv 1)) qa_nil rfl) rfl (by decide) rfl rfl)) (fun _ => rfl)) qa_nil rfl) rfl (by decide) (by decide) rfl rfl) (q_one (q_call c_PAscends rfl hg hr (qa_cons (q_var 0 (pv 0)) qa_nil rfl) rfl (by decide) rfl rfl))))))⟩) hF
theorem isPIsLotOfPairs {P : Program} {w : World} {K : PySem.W.Frag} {mg : Str → Option Value} {base : Heap} {k : Nat} {f : Addr} {fd : FuncData} (D : Df K mg "is_lot_of_pairs" ["thing"] sPIsLotOfPairs f fd) (m_all : mg "all" = none) (m_isinstance : mg "isinstance" = none) (m_tuple : mg "tuple" = none) {F_PIsNumberPair : FF} (c_PIsNumberPair : Cal P w K mg base k "is_number_pair" ["thing"] F_PIsNumberPair) {F_PAscends : FF} (c_PAscends : Cal P w K mg base k "ascends" ["things"] F_PAscends) : Cal P w K mg base (k + 1) "is_lot_of_pairs" ["thing"] (fPIsLotOfPairs F_PIsNumberPair F_PAscends) := calPIsLotOfPairs D m_all m_isinstance m_tuple c_PIsNumberPair c_PAscends ends_of
abbrev sPIsTicket : Stmt := topS 15
theorem scPIsTicket : FnScope nPIsTicket ["thing"] (defScope sPIsTicket) := ⟨rfl, rfl, rfl, by decide +kernel, rfl, by decide +kernel, by decide +kernel⟩
theorem calPIsTicket {P : Program} {w : World} {K : PySem.W.Frag} {mg : Str → Option Value} {base : Heap} {k : Nat} {f : Addr} {fd : FuncData} (D : Df K mg "is_ticket" ["thing"] sPIsTicket f fd) {F_PIsRow : FF} (c_PIsRow : Cal P w K mg base k "is_row" ["thing", "many"] F_PIsRow) {F_PIsSomeLot : FF} (c_PIsSomeLot : Cal P w K mg base k "is_some_lot" ["thing"] F_PIsSomeLot) {F_PIsNumber : FF} (c_PIsNumber : Cal P w K mg base k "is_number" ["thing"] F_PIsNumber) {Fn : FF}
    (hF : ∀ args s v s', args.length = 1 → Fn args s = some (v, s') → EndsD (gPIsTicket F_PIsRow F_PIsSomeLot F_PIsNumber) (startD nPIsTicket args) s v s') : Cal P w K mg base (k + 1) "is_ticket" ["thing"] Fn :=
  okD D scPIsTicket (fun cdv A outer s H E hg hr => ⟨_, (qs_one (qs_ret (q_and rfl (q_call c_PIsRow rfl hg hr (qa_cons (q_var 0 (pv 0)) (qa_cons q_int qa_nil rfl) rfl) rfl (by decide) rfl rfl) (q_and rfl (q_call c_PIsSomeLot rfl hg hr (qa_cons (q_ix rfl (q_var 0 (pv 0)) q_int (fun _ _ => rfl)) qa_nil rfl) rfl (by decide) rfl rfl) (q_one (q_call c_PIsNumber rfl hg hr (qa_cons (q_ix rfl (q_var 0 (pv 0)) q_int (fun _ _ => rfl)) qa_nil rfl) rfl (by decide) rfl rfl))))))⟩) hF
theorem isPIsTicket {P : Program} {w : World} {K : PySem.W.Frag} {mg : Str → Option Value} {base : Heap} {k : Nat} {f : Addr} {fd : FuncData} (D : Df K mg "is_ticket" ["thing"] sPIsTicket f fd) {F_PIsRow : FF} (c_PIsRow : Cal P w K mg base k "is_row" ["thing", "many"] F_PIsRow) {F_PIsSomeLot : FF} (c_PIsSomeLot : Cal P w K mg base k "is_some_lot" ["thing"] F_PIsSomeLot) {F_PIsNumber : FF} (c_PIsNumber : Cal P w K mg base k "is_number" ["thing"] F_PIsNumber) : Cal P w K mg base (k + 1) "is_ticket" ["thing"] (fPIsTicket F_PIsRow F_PIsSomeLot F_PIsNumber) := calPIsTicket D c_PIsRow c_PIsSomeLot c_PIsNumber ends_of
abbrev sPIsCell : Stmt := topS 16
theorem scPIsCell : FnScope nPIsCell ["thing"] (defScope sPIsCell) := ⟨rfl, rfl, rfl, by decide +kernel, rfl, by decide +kernel, by decide +kernel⟩
theorem calPIsCell {P : Program} {w : World} {K : PySem.W.Frag} {mg : Str → Option Value} {base : Heap} {k : Nat} {f : Addr} {fd : FuncData} (D : Df K mg "is_cell" ["thing"] sPIsCell f fd) (m_isinstance : mg "isinstance" = none) (m_str : mg "str" = none) {F_PIsRow : FF} (c_PIsRow : Cal P w K mg base k "is_row" ["thing", "many"] F_PIsRow) {F_PIsInteger : FF} (c_PIsInteger : Cal P w K mg base k "is_integer" ["thing"] F_PIsInteger) {F_PIsLotOfPairs : FF} (c_PIsLotOfPairs : Cal P w K mg base k "is_lot_of_pairs" ["thing"] F_PIsLotOfPairs) {Fn : FF}
    (hF : ∀ args s v s', args.length = 1 → Fn args s = some (v, s') → EndsD (gPIsCell F_PIsRow F_PIsInteger F_PIsLotOfPairs) (startD nPIsCell args) s v s') : Cal P w K mg base (k + 1) "is_cell" ["thing"] Fn :=
  okD D scPIsCell (fun cdv A outer s H E hg hr => ⟨_, (qs_cons (qs_if (qb_w (qw_or (qb_not (qb_tru rfl (q_call c_PIsRow rfl hg hr (qa_cons (q_var 0 (pv 0)) (qa_cons q_int qa_nil rfl) rfl) rfl (by decide) rfl rfl) (fun _ => rfl))) (qw_or (qb_not (qb_tru rfl (q_call c_PIsInteger rfl hg hr (qa_cons (q_ix rfl (q_var 0 (pv 0)) q_int (fun _ _ => rfl)) qa_nil rfl) rfl (by decide) rfl rfl) (fun _ => rfl))) (qw_or1 (qb_not (qb_tru rfl (q_is (k := .str) rfl m_isinstance m_str (by decide +kernel) (q_ix rfl (q_var 0 (pv 0)) q_int (fun _ _ => rfl)) rfl rfl (by decide) (by decide) rfl rfl rfl (by decide +kernel)) (fun _ => rfl)))))))
        (qs_one (qs_ret q_bl))
        qs_nil)
      (qs_cons (qs_asg (q_sl rfl (q_var 0 (pv 0)) (qo_some q_int) qo_none) (qg_tp rfl rfl (qgs_cons (qg_nm (pg_name (i := 1) scPIsCell.nd rfl (by first | exact Or.inl rfl | exact Or.inr rfl))) (qgs_cons (qg_nm (pg_name (i := 2) scPIsCell.nd rfl (by first | exact Or.inl rfl | exact Or.inr rfl))) (qgs_cons (qg_nm (pg_name (i := 3) scPIsCell.nd rfl (by first | exact Or.inl rfl | exact Or.inr rfl))) qgs_nil rfl) rfl) rfl) rfl rfl) rfl rfl rfl)
      (qs_cons (qs_if (qb_w (qw_or (qb_not (qb_tru rfl (q_call c_PIsLotOfPairs rfl hg hr (qa_cons (q_var 2 (pv 2)) qa_nil rfl) rfl (by decide) rfl rfl) (fun _ => rfl))) (qw_or1 (qb_not (qb_tru rfl (q_call c_PIsLotOfPairs rfl hg hr (qa_cons (q_var 3 (pv 3)) qa_nil rfl) rfl (by decide) rfl rfl) (fun _ => rfl))))))
        (qs_one (qs_ret q_bl))
        qs_nil)
      (qs_cons (qs_if (qb_cmp so_eq (Dl.op_eqD hr.units) (q_var 1 (pv 1)) q_str (nomark _))
        (qs_one (qs_ret (q_and rfl (q_cmp so_ne (op_neA hr.units) (q_var 2 (pv 2)) (q_tup qa_nil) (nomark _)) (q_one (q_cmp so_eq (Dl.op_eqD hr.units) (q_var 3 (pv 3)) (q_tup qa_nil) (nomark _))))))
        qs_nil)
      (qs_one (qs_ret (q_and rfl (q_cmp so_eq (Dl.op_eqD hr.units) (q_var 1 (pv 1)) q_str (nomark _)) (q_one (q_or rfl (q_cmp so_ne (op_neA hr.units) (q_var 2 (pv 2)) (q_tup qa_nil) (nomark _)) (q_one (q_cmp so_ne (op_neA hr.units) (q_var 3 (pv 3)) (q_tup qa_nil) (nomark _))))))))))))⟩) hF
theorem isPIsCell {P : Program} {w : World} {K : PySem.W.Frag} {mg : Str → Option Value} {base : Heap} {k : Nat} {f : Addr} {fd : FuncData} (D : Df K mg "is_cell" ["thing"] sPIsCell f fd) (m_isinstance : mg "isinstance" = none) (m_str : mg "str" = none) {F_PIsRow : FF} (c_PIsRow : Cal P w K mg base k "is_row" ["thing", "many"] F_PIsRow) {F_PIsInteger : FF} (c_PIsInteger : Cal P w K mg base k "is_integer" ["thing"] F_PIsInteger) {F_PIsLotOfPairs : FF} (c_PIsLotOfPairs : Cal P w K mg base k "is_lot_of_pairs" ["thing"] F_PIsLotOfPairs) : Cal P w K mg base (k + 1) "is_cell" ["thing"] (fPIsCell F_PIsRow F_PIsInteger F_PIsLotOfPairs) := calPIsCell D m_isinstance m_str c_PIsRow c_PIsInteger c_PIsLotOfPairs ends_of
abbrev sBag : Stmt := topS 18
theorem scBag : FnScope nBag ["_law_script"] (defScope sBag) := ⟨rfl, rfl, rfl, by decide +kernel, rfl, by decide +kernel, by decide +kernel⟩
theorem calBag {P : Program} {w : World} {K : PySem.W.Frag} {mg : Str → Option Value} {base : Heap} {k : Nat} {f : Addr} {fd : FuncData} (D : Df K mg "_law_bag" ["_law_script"] sBag f fd) (m_abs : mg "abs" = none) {Fn : FF}
    (hF : ∀ args s v s', args.length = 1 → Fn args s = some (v, s') → EndsD (gBag) (startD nBag args) s v s') : Cal P w K mg base (k + 1) "_law_bag" ["_law_script"] Fn :=
  okD D scBag (fun cdv A outer s H E hg hr => ⟨_, (qs_one (qs_ret (q_lstN (qa_cons q_int (qa_cons q_int (qa_cons q_int (qa_cons (q_comp rfl scBag.nd (own := [("_law_cell", 1)]) (qi_data rfl (q_sl rfl (q_var 0 (pv 0)) qo_none (qo_some q_int))) (blkOk_by (N := nBag) (sc := defScope sBag) (by decide +kernel)) (kps_nm (by decide)) (fun _ _ _ _ _ => (qg_nm (pg_name (i := 1) scBag.nd rfl (Or.inl rfl)))) (fun _ _ _ _ _ => qt_nil) (fun _ _ _ _ _ => (q_cb sc_abs call_abs m_abs (by decide +kernel) (qa_cons (q_var 1 (pv 1)) qa_nil rfl) rfl (by decide) (by decide) rfl rfl)) (fun _ => rfl)) qa_nil rfl) rfl) rfl) rfl))))⟩) hF
theorem isBag {P : Program} {w : World} {K : PySem.W.Frag} {mg : Str → Option Value} {base : Heap} {k : Nat} {f : Addr} {fd : FuncData} (D : Df K mg "_law_bag" ["_law_script"] sBag f fd) (m_abs : mg "abs" = none) : Cal P w K mg base (k + 1) "_law_bag" ["_law_script"] (fBag) := calBag D m_abs ends_of
abbrev sTake : Stmt := topS 19
theorem scTake : FnScope nTake ["_law_bag_here", "_law_many"] (defScope sTake) := ⟨rfl, rfl, rfl, by decide +kernel, rfl, by decide +kernel, by decide +kernel⟩
theorem calTake {P : Program} {w : World} {K : PySem.W.Frag} {mg : Str → Option Value} {base : Heap} {k : Nat} {f : Addr} {fd : FuncData} (D : Df K mg "_law_take" ["_law_bag_here", "_law_many"] sTake f fd) (m_int : mg "int" = none) {Fn : FF}
    (hF : ∀ args s v s', args.length = 2 → Fn args s = some (v, s') → EndsD (gTake) (startD nTake args) s v s') : Cal P w K mg base (k + 1) "_law_take" ["_law_bag_here", "_law_many"] Fn :=
  okD D scTake (fun cdv A outer s H E hg hr => ⟨_, (qs_cons (qs_if (qb_cmp so_eq (Dl.op_eqD hr.units) (q_ixC rfl (q_var 0 (pv 0)) q_int (fun _ _ => rfl)) q_int (nomark _))
        (qs_cons (qs_set (i := 4) (q_ix rfl (q_op so_add op_addD (q_sl rfl (q_ixC rfl (q_var 0 (pv 0)) q_int (fun _ _ => rfl)) (qo_some (q_ixC rfl (q_var 0 (pv 0)) q_int (fun _ _ => rfl))) qo_none) (q_lst (qa_cons q_int qa_nil rfl))) q_int (fun _ _ => rfl)) scTake.nd rfl (by first | exact Or.inl rfl | exact Or.inr rfl) rfl (by first | exact .inl rfl | exact .inr rfl))
      (qs_cons (qs_addI rfl (q_var 0 (pv 0)) q_int q_int (fun _ _ _ => rfl))
      (qs_cons (qs_if (qb_cmp (so_cm _) (op_geD hr.units) (q_var 4 (pv 4)) (q_op so_pow op_pow q_int q_int) (nomark _))
        (qs_one (qs_asg (q_var 4 (pv 4)) (qg_put (q_var 0 (pv 0)) q_int (fun _ => rfl)) rfl rfl rfl))
        qs_nil)
      (qs_cons (qs_set (i := 5) (q_op so_add op_addD (q_op so_add op_addD (q_op so_mul op_mulD (q_ixC rfl (q_var 0 (pv 0)) q_int (fun _ _ => rfl)) q_int) (q_op so_mod op_mod (q_ty sc_int call_int1 m_int (by decide +kernel) (qa_cons (q_var 4 (pv 4)) qa_nil rfl) rfl (by decide) (by decide) rfl rfl) q_int)) (q_op so_mul op_mulD q_int (q_ixC rfl (q_var 0 (pv 0)) q_int (fun _ _ => rfl)))) scTake.nd rfl (by first | exact Or.inl rfl | exact Or.inr rfl) rfl (by first | exact .inl rfl | exact .inr rfl))
      (qs_one (qs_asg (q_op so_mod op_mod (q_ty sc_int call_int1 m_int (by decide +kernel) (qa_cons (q_var 5 (pv 5)) qa_nil rfl) rfl (by decide) (by decide) rfl rfl) q_int) (qg_put (q_var 0 (pv 0)) q_int (fun _ => rfl)) rfl rfl rfl))))))
        qs_nil)
      (qs_cons (qs_if (qb_cmp (so_cm _) (op_gtD hr.units) (q_ixC rfl (q_var 0 (pv 0)) q_int (fun _ _ => rfl)) q_int (nomark _))
        (qs_cons (qs_set (i := 6) (q_op so_mod op_mod (q_ty sc_int call_int1 m_int (by decide +kernel) (qa_cons (q_ixC rfl (q_var 0 (pv 0)) q_int (fun _ _ => rfl)) qa_nil rfl) rfl (by decide) (by decide) rfl rfl) (q_var 1 (pv 1))) scTake.nd rfl (by first | exact Or.inl rfl | exact Or.inr rfl) rfl (by first | exact .inl rfl | exact .inr rfl))
      (qs_cons (qs_asg (q_op so_div op_fdivW (q_ty sc_int call_int1 m_int (by decide +kernel) (qa_cons (q_ixC rfl (q_var 0 (pv 0)) q_int (fun _ _ => rfl)) qa_nil rfl) rfl (by decide) (by decide) rfl rfl) (q_var 1 (pv 1))) (qg_put (q_var 0 (pv 0)) q_int (fun _ => rfl)) rfl rfl rfl)
      (qs_one (qs_ret (q_var 6 (pv 6))))))
        qs_nil)
      (qs_cons (qs_set (i := 2) (q_op so_mod op_mod (q_ty sc_int call_int1 m_int (by decide +kernel) (qa_cons (q_op so_mul op_mulD (q_op so_add op_addD (q_ixC rfl (q_var 0 (pv 0)) q_int (fun _ _ => rfl)) q_int) q_int) qa_nil rfl) rfl (by decide) (by decide) rfl rfl) q_int) scTake.nd rfl (by first | exact Or.inl rfl | exact Or.inr rfl) rfl (by first | exact .inl rfl | exact .inr rfl))
      (qs_cons (qs_set (i := 3) (q_op so_mod op_mod (q_ty sc_int call_int1 m_int (by decide +kernel) (qa_cons (q_op so_mul op_mulD (q_op so_mod op_mod (q_ty sc_int call_int1 m_int (by decide +kernel) (qa_cons (q_op so_mul op_mulD (q_var 2 (pv 2)) (q_var 2 (pv 2))) qa_nil rfl) rfl (by decide) (by decide) rfl rfl) q_int) q_int) qa_nil rfl) rfl (by decide) (by decide) rfl rfl) q_int) scTake.nd rfl (by first | exact Or.inl rfl | exact Or.inr rfl) rfl (by first | exact .inl rfl | exact .inr rfl))
      (qs_one (qs_ret (q_op so_mod op_mod (q_ty sc_int call_int1 m_int (by decide +kernel) (qa_cons (q_op so_div op_fdivW (q_var 3 (pv 3)) q_int) qa_nil rfl) rfl (by decide) (by decide) rfl rfl) (q_var 1 (pv 1)))))))))⟩) hF
theorem isTake {P : Program} {w : World} {K : PySem.W.Frag} {mg : Str → Option Value} {base : Heap} {k : Nat} {f : Addr} {fd : FuncData} (D : Df K mg "_law_take" ["_law_bag_here", "_law_many"] sTake f fd) (m_int : mg "int" = none) : Cal P w K mg base (k + 1) "_law_take" ["_law_bag_here", "_law_many"] (fTake) := calTake D m_int ends_of
abbrev sSome : Stmt := topS 20
theorem scSome : FnScope nSome ["_law_bag_here", "_law_things"] (defScope sSome) := ⟨rfl, rfl, rfl, by decide +kernel, rfl, by decide +kernel, by decide +kernel⟩
theorem calSome {P : Program} {w : World} {K : PySem.W.Frag} {mg : Str → Option Value} {base : Heap} {k : Nat} {f : Addr} {fd : FuncData} (D : Df K mg "_law_some" ["_law_bag_here", "_law_things"] sSome f fd) (m_len : mg "len" = none) {F_Take : FF} (c_Take : Cal P w K mg base k "_law_take" ["_law_bag_here", "_law_many"] F_Take) {Fn : FF}
    (hF : ∀ args s v s', args.length = 2 → Fn args s = some (v, s') → EndsD (gSome F_Take) (startD nSome args) s v s') : Cal P w K mg base (k + 1) "_law_some" ["_law_bag_here", "_law_things"] Fn :=
  okD D scSome (fun cdv A outer s H E hg hr => ⟨_, (qs_one (qs_ret (q_ix rfl (q_var 1 (pv 1)) (q_call c_Take rfl hg hr (qa_cons (q_var 0 (pv 0)) (qa_cons (q_cb sc_len Dl.call_lenD m_len (by decide +kernel) (qa_cons (q_var 1 (pv 1)) qa_nil rfl) rfl (by decide) (by decide) rfl rfl) qa_nil rfl) rfl) rfl (by decide) rfl rfl) (fun _ _ => rfl))))⟩) hF
theorem isSome {P : Program} {w : World} {K : PySem.W.Frag} {mg : Str → Option Value} {base : Heap} {k : Nat} {f : Addr} {fd : FuncData} (D : Df K mg "_law_some" ["_law_bag_here", "_law_things"] sSome f fd) (m_len : mg "len" = none) {F_Take : FF} (c_Take : Cal P w K mg base k "_law_take" ["_law_bag_here", "_law_many"] F_Take) : Cal P w K mg base (k + 1) "_law_some" ["_law_bag_here", "_law_things"] (fSome F_Take) := calSome D m_len c_Take ends_of
abbrev sAlike : Stmt := topS 21
theorem scAlike : FnScope nAlike ["_law_found", "_law_due"] (defScope sAlike) := ⟨rfl, rfl, rfl, by decide +kernel, rfl, by decide +kernel, by decide +kernel⟩
theorem calAlike {P : Program} {w : World} {K : PySem.W.Frag} {mg : Str → Option Value} {base : Heap} {k : Nat} {f : Addr} {fd : FuncData} (D : Df K mg "_law_alike" ["_law_found", "_law_due"] sAlike f fd) (m_repr : mg "repr" = none) {Fn : FF}
    (hF : ∀ args s v s', args.length = 2 → Fn args s = some (v, s') → EndsD (gAlike) (startD nAlike args) s v s') : Cal P w K mg base (k + 1) "_law_alike" ["_law_found", "_law_due"] Fn :=
  okD D scAlike (fun cdv A outer s H E hg hr => ⟨_, (qs_one (qs_ret (q_and rfl (q_cmp so_eq (Dl.op_eqD hr.units) (q_var 0 (pv 0)) (q_var 1 (pv 1)) (nomark _)) (q_one (q_cmp so_eq (Dl.op_eqD hr.units) (q_cb sc_repr (call_reprD hg hr.units) m_repr (by decide +kernel) (qa_cons (q_var 0 (pv 0)) qa_nil rfl) rfl (by decide) (by decide) rfl rfl) (q_cb sc_repr (call_reprD hg hr.units) m_repr (by decide +kernel) (qa_cons (q_var 1 (pv 1)) qa_nil rfl) rfl (by decide) (by decide) rfl rfl) (nomark _))))))⟩) hF
theorem isAlike {P : Program} {w : World} {K : PySem.W.Frag} {mg : Str → Option Value} {base : Heap} {k : Nat} {f : Addr} {fd : FuncData} (D : Df K mg "_law_alike" ["_law_found", "_law_due"] sAlike f fd) (m_repr : mg "repr" = none) : Cal P w K mg base (k + 1) "_law_alike" ["_law_found", "_law_due"] (fAlike) := calAlike D m_repr ends_of
abbrev sIsWhole : Stmt := topS 22
theorem scIsWhole : FnScope nIsWhole ["_law_thing_here"] (defScope sIsWhole) := ⟨rfl, rfl, rfl, by decide +kernel, rfl, by decide +kernel, by decide +kernel⟩
theorem calIsWhole {P : Program} {w : World} {K : PySem.W.Frag} {mg : Str → Option Value} {base : Heap} {k : Nat} {f : Addr} {fd : FuncData} (D : Df K mg "_law_is_whole" ["_law_thing_here"] sIsWhole f fd) (m_bool : mg "bool" = none) (m_int : mg "int" = none) (m_isinstance : mg "isinstance" = none) {Fn : FF}
    (hF : ∀ args s v s', args.length = 1 → Fn args s = some (v, s') → EndsD (gIsWhole) (startD nIsWhole args) s v s') : Cal P w K mg base (k + 1) "_law_is_whole" ["_law_thing_here"] Fn :=
  okD D scIsWhole (fun cdv A outer s H E hg hr => ⟨_, (qs_one (qs_ret (q_and rfl (q_is (k := .int) rfl m_isinstance m_int (by decide +kernel) (q_var 0 (pv 0)) rfl rfl (by decide) (by decide) rfl rfl rfl (by decide +kernel)) (q_one (q_not rfl (q_is (k := .bool) rfl m_isinstance m_bool (by decide +kernel) (q_var 0 (pv 0)) rfl rfl (by decide) (by decide) rfl rfl rfl (by decide +kernel)))))))⟩) hF
theorem isIsWhole {P : Program} {w : World} {K : PySem.W.Frag} {mg : Str → Option Value} {base : Heap} {k : Nat} {f : Addr} {fd : FuncData} (D : Df K mg "_law_is_whole" ["_law_thing_here"] sIsWhole f fd) (m_bool : mg "bool" = none) (m_int : mg "int" = none) (m_isinstance : mg "isinstance" = none) : Cal P w K mg base (k + 1) "_law_is_whole" ["_law_thing_here"] (fIsWhole) := calIsWhole D m_bool m_int m_isinstance ends_of
abbrev sPages : Stmt := topS 23
theorem scPages : FnScope nPages ["_law_bag_here", "_law_many"] (defScope sPages) := ⟨rfl, rfl, rfl, by decide +kernel, rfl, by decide +kernel, by decide +kernel⟩
theorem calPages {P : Program} {w : World} {K : PySem.W.Frag} {mg : Str → Option Value} {base : Heap} {k : Nat} {f : Addr} {fd : FuncData} (D : Df K mg "_law_pages" ["_law_bag_here", "_law_many"] sPages f fd) (m_range : mg "range" = none) {F_Some : FF} (c_Some : Cal P w K mg base k "_law_some" ["_law_bag_here", "_law_things"] F_Some) {Fn : FF}
    (hF : ∀ args s v s', args.length = 2 → Fn args s = some (v, s') → EndsD (gPages F_Some) (startD nPages args) s v s') : Cal P w K mg base (k + 1) "_law_pages" ["_law_bag_here", "_law_many"] Fn :=
  okD D scPages (fun cdv A outer s H E hg hr => ⟨_, (qs_cons (qs_asgT rfl rfl (qa_cons (q_call c_Some rfl hg hr (qa_cons (q_var 0 (pv 0)) (qa_cons (q_lst (qa_cons q_int (qa_cons q_int (qa_cons q_int (qa_cons q_int (qa_cons q_int qa_nil rfl) rfl) rfl) rfl) rfl)) qa_nil rfl) rfl) rfl (by decide) rfl rfl) (qa_cons (q_call c_Some rfl hg hr (qa_cons (q_var 0 (pv 0)) (qa_cons (q_lst (qa_cons q_int (qa_cons q_int (qa_cons q_int (qa_cons q_int (qa_cons q_int qa_nil rfl) rfl) rfl) rfl) rfl)) qa_nil rfl) rfl) rfl (by decide) rfl rfl) qa_nil rfl) rfl) (qgs_cons (qg_nm (pg_name (i := 2) scPages.nd rfl (by first | exact Or.inl rfl | exact Or.inr rfl))) (qgs_cons (qg_nm (pg_name (i := 3) scPages.nd rfl (by first | exact Or.inl rfl | exact Or.inr rfl))) qgs_nil rfl) rfl) rfl rfl rfl rfl rfl)
      (qs_one (qs_ret (q_comp rfl scPages.nd (own := [("_law_k", 4)]) (qi_range1 m_range (qa_cons (q_var 1 (pv 1)) qa_nil rfl) rfl rfl) (blkOk_by (N := nPages) (sc := defScope sPages) (by decide +kernel)) (kps_nm (by decide)) (fun _ _ _ _ _ => (qg_nm (pg_name (i := 4) scPages.nd rfl (Or.inl rfl)))) (fun _ _ _ _ _ => qt_nil) (fun _ _ _ _ _ => (q_op so_add op_addD (q_var 2 (pv 2)) (q_op so_mul op_mulD (q_var 3 (pv 3)) (q_var 4 (pv 4))))) (fun _ => rfl)))))⟩) hF
theorem isPages {P : Program} {w : World} {K : PySem.W.Frag} {mg : Str → Option Value} {base : Heap} {k : Nat} {f : Addr} {fd : FuncData} (D : Df K mg "_law_pages" ["_law_bag_here", "_law_many"] sPages f fd) (m_range : mg "range" = none) {F_Some : FF} (c_Some : Cal P w K mg base k "_law_some" ["_law_bag_here", "_law_things"] F_Some) : Cal P w K mg base (k + 1) "_law_pages" ["_law_bag_here", "_law_many"] (fPages F_Some) := calPages D m_range c_Some ends_of
abbrev sValue : Stmt := topS 24
theorem scValue : FnScope nValue ["_law_bag_here", "_law_deep"] (defScope sValue) := ⟨rfl, rfl, rfl, by decide +kernel, rfl, by decide +kernel, by decide +kernel⟩
theorem calValue {P : Program} {w : World} {K : PySem.W.Frag} {mg : Str → Option Value} {base : Heap} {k : Nat} {f : Addr} {fd : FuncData} (D : Df K mg "_law_value" ["_law_bag_here", "_law_deep"] sValue f fd) (m_dict : mg "dict" = none) (m_enumerate : mg "enumerate" = none) (m_range : mg "range" = none) (m_str : mg "str" = none) (m_tuple : mg "tuple" = none) {F_Take : FF} (c_Take : Cal P w K mg base k "_law_take" ["_law_bag_here", "_law_many"] F_Take) {F_Some : FF} (c_Some : Cal P w K mg base k "_law_some" ["_law_bag_here", "_law_things"] F_Some) {F_Value : FF} (c_Value : Cal P w K mg base k "_law_value" ["_law_bag_here", "_law_deep"] F_Value) {Fn : FF}
    (hF : ∀ args s v s', args.length = 2 → Fn args s = some (v, s') → EndsD (gValue F_Take F_Some F_Value) (startD nValue args) s v s') : Cal P w K mg base (k + 1) "_law_value" ["_law_bag_here", "_law_deep"] Fn :=
  okD D scValue (fun cdv A outer s H E hg hr => ⟨_, (qs_cons (qs_set (i := 2) (q_call c_Take rfl hg hr (qa_cons (q_var 0 (pv 0)) (qa_cons (q_if (qb_cmp (so_cm _) (op_gtD hr.units) (q_var 1 (pv 1)) q_int (nomark _)) q_int q_int) qa_nil rfl) rfl) rfl (by decide) rfl rfl) scValue.nd rfl (by first | exact Or.inl rfl | exact Or.inr rfl) rfl (by first | exact .inl rfl | exact .inr rfl))
      (qs_cons (qs_if (qb_cmp (so_cm _) (op_ltD hr.units) (q_var 2 (pv 2)) q_int (nomark _))
        (qs_one (qs_ret (q_call c_Some rfl hg hr (qa_cons (q_var 0 (pv 0)) (qa_cons (q_lst (qa_cons q_non (qa_cons q_bl (qa_cons q_bl (qa_cons q_int (qa_cons q_int (qa_cons (q_neg q_int) (qa_cons (q_op so_pow op_pow q_int q_int) (qa_cons (q_call c_Take rfl hg hr (qa_cons (q_var 0 (pv 0)) (qa_cons (q_op so_pow op_pow q_int q_int) qa_nil rfl) rfl) rfl (by decide) rfl rfl) (qa_cons (q_op so_sub op_sub q_int (q_op so_pow op_pow q_int q_int)) qa_nil rfl) rfl) rfl) rfl) rfl) rfl) rfl) rfl) rfl)) qa_nil rfl) rfl) rfl (by decide) rfl rfl)))
        qs_nil)
      (qs_cons (qs_if (qb_cmp (so_cm _) (op_ltD hr.units) (q_var 2 (pv 2)) q_int (nomark _))
        (qs_one (qs_ret (q_call c_Some rfl hg hr (qa_cons (q_var 0 (pv 0)) (qa_cons (q_lst (qa_cons q_str (qa_cons q_str (qa_cons q_str (qa_cons q_str (qa_cons q_str (qa_cons q_str (qa_cons (q_op so_mul op_mulD q_str q_int) (qa_cons q_str (qa_cons q_str qa_nil rfl) rfl) rfl) rfl) rfl) rfl) rfl) rfl) rfl)) qa_nil rfl) rfl) rfl (by decide) rfl rfl)))
        qs_nil)
      (qs_cons (qs_if (qb_cmp so_eq (Dl.op_eqD hr.units) (q_var 2 (pv 2)) q_int (nomark _))
        (qs_one (qs_ret (q_call c_Some rfl hg hr (qa_cons (q_var 0 (pv 0)) (qa_cons (q_lst (qa_cons (q_tup qa_nil) (qa_cons (q_lst qa_nil) (qa_cons q_dnew qa_nil rfl) rfl) rfl)) qa_nil rfl) rfl) rfl (by decide) rfl rfl)))
        qs_nil)
      (qs_cons (qs_setLc (i := 3) rfl scValue.nd rfl rfl (sw_true rfl rfl rfl (by decide +kernel)) (own := [("_law_k", 4)]) (qi_range1 m_range (qa_cons (q_call c_Take rfl hg hr (qa_cons (q_var 0 (pv 0)) (qa_cons q_int qa_nil rfl) rfl) rfl (by decide) rfl rfl) qa_nil rfl) rfl rfl) (blkOk_by (N := nValue) (sc := defScope sValue) (by decide +kernel)) (kps_nm (by decide)) (fun _ _ _ _ _ => (qg_nm (pg_name (i := 4) scValue.nd rfl (Or.inl rfl)))) (fun _ _ _ _ _ => qt_nil) (fun _ _ _ _ _ => (q_call c_Value rfl hg hr (qa_cons (q_var 0 (pv 0)) (qa_cons (q_op so_sub op_sub (q_var 1 (pv 1)) q_int) qa_nil rfl) rfl) rfl (by decide) rfl rfl)) (fun _ => rfl))
      (qs_cons (qs_if (qb_cmp (so_cm _) (op_ltD hr.units) (q_var 2 (pv 2)) q_int (nomark _))
        (qs_one (qs_ret (q_ty sc_tuple call_tuple_of m_tuple (by decide +kernel) (qa_cons (q_var 3 (pv 3)) qa_nil rfl) rfl (by decide) (by decide) rfl rfl)))
        qs_nil)
      (qs_cons (qs_if (qb_cmp so_eq (Dl.op_eqD hr.units) (q_var 2 (pv 2)) q_int (nomark _))
        (qs_one (qs_ret (q_var 3 (pv 3))))
        qs_nil)
      (qs_one (qs_ret (q_ty sc_dict (call_dictP rfl) m_dict (by decide +kernel) (qa_cons (q_comp rfl scValue.nd (own := [("_law_k", 4), ("_law_part", 5)]) (qi_enum rfl m_enumerate (qa_cons (q_var 3 (pv 3)) qa_nil rfl) rfl rfl) (blkOk_by (N := nValue) (sc := defScope sValue) (by decide +kernel)) (kps_tp (kpss_nm (by decide) (kpss_nm (by decide) kpss_nil))) (fun _ _ _ _ _ => (qg_tp rfl rfl (qgs_cons (qg_nm (pg_name (i := 4) scValue.nd rfl (Or.inl rfl))) (qgs_cons (qg_nm (pg_name (i := 5) scValue.nd rfl (Or.inl rfl))) qgs_nil rfl) rfl) rfl rfl)) (fun _ _ _ _ _ => qt_nil) (fun _ _ _ _ _ => (q_tup (qa_cons (q_ty sc_str call_str_int m_str (by decide +kernel) (qa_cons (q_var 4 (pv 4)) qa_nil rfl) rfl (by decide) (by decide) rfl rfl) (qa_cons (q_var 5 (pv 5)) qa_nil rfl) rfl))) (fun _ => rfl)) qa_nil rfl) rfl (by decide) (by decide) rfl rfl))))))))))⟩) hF
theorem isValue {P : Program} {w : World} {K : PySem.W.Frag} {mg : Str → Option Value} {base : Heap} {k : Nat} {f : Addr} {fd : FuncData} (D : Df K mg "_law_value" ["_law_bag_here", "_law_deep"] sValue f fd) (m_dict : mg "dict" = none) (m_enumerate : mg "enumerate" = none) (m_range : mg "range" = none) (m_str : mg "str" = none) (m_tuple : mg "tuple" = none) {F_Take : FF} (c_Take : Cal P w K mg base k "_law_take" ["_law_bag_here", "_law_many"] F_Take) {F_Some : FF} (c_Some : Cal P w K mg base k "_law_some" ["_law_bag_here", "_law_things"] F_Some) {F_Value : FF} (c_Value : Cal P w K mg base k "_law_value" ["_law_bag_here", "_law_deep"] F_Value) : Cal P w K mg base (k + 1) "_law_value" ["_law_bag_here", "_law_deep"] (fValue F_Take F_Some F_Value) := calValue D m_dict m_enumerate m_range m_str m_tuple c_Take c_Some c_Value ends_of
abbrev sBent : Stmt := topS 25
theorem scBent : FnScope nBent ["_law_bag_here", "_law_thing_here", "_law_deep"] (defScope sBent) := ⟨rfl, rfl, rfl, by decide +kernel, rfl, by decide +kernel, by decide +kernel⟩
theorem calBent {P : Program} {w : World} {K : PySem.W.Frag} {mg : Str → Option Value} {base : Heap} {k : Nat} {f : Addr} {fd : FuncData} (D : Df K mg "_law_bent" ["_law_bag_here", "_law_thing_here", "_law_deep"] sBent f fd) (m_isinstance : mg "isinstance" = none) (m_len : mg "len" = none) (m_list : mg "list" = none) (m_str : mg "str" = none) (m_tuple : mg "tuple" = none) {F_Take : FF} (c_Take : Cal P w K mg base k "_law_take" ["_law_bag_here", "_law_many"] F_Take) {F_Bent : FF} (c_Bent : Cal P w K mg base k "_law_bent" ["_law_bag_here", "_law_thing_here", "_law_deep"] F_Bent) {F_Some : FF} (c_Some : Cal P w K mg base k "_law_some" ["_law_bag_here", "_law_things"] F_Some) {F_IsWhole : FF} (c_IsWhole : Cal P w K mg base k "_law_is_whole" ["_law_thing_here"] F_IsWhole) {Fn : FF}
    (hF : ∀ args s v s', args.length = 3 → Fn args s = some (v, s') → EndsD (gBent F_Take F_Bent F_Some F_IsWhole) (startD nBent args) s v s') : Cal P w K mg base (k + 1) "_law_bent" ["_law_bag_here", "_law_thing_here", "_law_deep"] Fn :=
  okD D scBent (fun cdv A outer s H E hg hr => ⟨_, (qs_cons (qs_if (qb_w (qw_and (qb_tru rfl (q_is (k := .tuple) rfl m_isinstance m_tuple (by decide +kernel) (q_var 1 (pv 1)) rfl rfl (by decide) (by decide) rfl rfl rfl (by decide +kernel)) (fun _ => rfl)) (qw_and (qb_cmp so_ne (op_neA hr.units) (q_var 1 (pv 1)) (q_tup qa_nil) (nomark _)) (qw_and (qb_cmp (so_cm _) (op_gtD hr.units) (q_var 2 (pv 2)) q_int (nomark _)) (qw_and1 (qb_cmp (so_cm _) (op_gtD hr.units) (q_call c_Take rfl hg hr (qa_cons (q_var 0 (pv 0)) (qa_cons q_int qa_nil rfl) rfl) rfl (by decide) rfl rfl) q_int (nomark _)))))))
        (qs_cons (qs_set (i := 3) (q_call c_Take rfl hg hr (qa_cons (q_var 0 (pv 0)) (qa_cons (q_cb sc_len Dl.call_lenD m_len (by decide +kernel) (qa_cons (q_var 1 (pv 1)) qa_nil rfl) rfl (by decide) (by decide) rfl rfl) qa_nil rfl) rfl) rfl (by decide) rfl rfl) scBent.nd rfl (by first | exact Or.inl rfl | exact Or.inr rfl) rfl (by first | exact .inl rfl | exact .inr rfl))
      (qs_one (qs_ret (q_op so_add op_addD (q_op so_add op_addD (q_sl rfl (q_var 1 (pv 1)) qo_none (qo_some (q_var 3 (pv 3)))) (q_tup (qa_cons (q_call c_Bent rfl hg hr (qa_cons (q_var 0 (pv 0)) (qa_cons (q_ix rfl (q_var 1 (pv 1)) (q_var 3 (pv 3)) (fun _ _ => rfl)) (qa_cons (q_op so_sub op_sub (q_var 2 (pv 2)) q_int) qa_nil rfl) rfl) rfl) rfl (by decide) rfl rfl) qa_nil rfl))) (q_sl rfl (q_var 1 (pv 1)) (qo_some (q_op so_add op_addD (q_var 3 (pv 3)) q_int)) qo_none)))))
        qs_nil)
      (qs_cons (qs_if (qb_tru rfl (q_is (k := .tuple) rfl m_isinstance m_tuple (by decide +kernel) (q_var 1 (pv 1)) rfl rfl (by decide) (by decide) rfl rfl rfl (by decide +kernel)) (fun _ => rfl))
        (qs_cons (qs_par (i := 3) (j := 7) (qa_cons (q_call c_Take rfl hg hr (qa_cons (q_var 0 (pv 0)) (qa_cons (q_op so_add op_addD (q_cb sc_len Dl.call_lenD m_len (by decide +kernel) (qa_cons (q_var 1 (pv 1)) qa_nil rfl) rfl (by decide) (by decide) rfl rfl) q_int) qa_nil rfl) rfl) rfl (by decide) rfl rfl) (qa_cons (q_call c_Some rfl hg hr (qa_cons (q_var 0 (pv 0)) (qa_cons (q_lst (qa_cons q_int (qa_cons (q_neg q_int) (qa_cons q_non (qa_cons q_bl (qa_cons (q_tup qa_nil) (qa_cons (q_tup (qa_cons q_int (qa_cons q_int qa_nil rfl) rfl)) (qa_cons (q_tup (qa_cons q_int qa_nil rfl)) (qa_cons q_int (qa_cons q_str qa_nil rfl) rfl) rfl) rfl) rfl) rfl) rfl) rfl) rfl)) qa_nil rfl) rfl) rfl (by decide) rfl rfl) qa_nil rfl) rfl) rfl scBent.nd rfl rfl (by decide) rfl rfl rfl rfl)
      (qs_cons (qs_par (i := 8) (j := 9) (qa_cons (q_op so_add op_addD (q_op so_add op_addD (q_sl rfl (q_var 1 (pv 1)) qo_none (qo_some (q_var 3 (pv 3)))) (q_tup (qa_cons (q_var 7 (pv 7)) qa_nil rfl))) (q_sl rfl (q_var 1 (pv 1)) (qo_some (q_var 3 (pv 3))) qo_none)) (qa_cons (q_op so_add op_addD (q_sl rfl (q_var 1 (pv 1)) qo_none (qo_some (q_var 3 (pv 3)))) (q_sl rfl (q_var 1 (pv 1)) (qo_some (q_op so_add op_addD (q_var 3 (pv 3)) q_int)) qo_none)) qa_nil rfl) rfl) rfl scBent.nd rfl rfl (by decide) rfl rfl rfl rfl)
      (qs_cons (qs_set (i := 4) (q_op so_add op_addD (q_sl rfl (q_var 1 (pv 1)) qo_none (qo_some (q_op so_add op_addD (q_var 3 (pv 3)) q_int))) (q_sl rfl (q_var 1 (pv 1)) (qo_some (q_var 3 (pv 3))) qo_none)) scBent.nd rfl (by first | exact Or.inl rfl | exact Or.inr rfl) rfl (by first | exact .inl rfl | exact .inr rfl))
      (qs_cons (qs_set (i := 5) (q_lst (qa_cons (q_rev (X := (cxOf CX0 P w K mg base nBent "_law_bent" (defScope sBent) f cdv A outer s H E).nox) rfl 1 (pv 1)) (qa_cons (q_op so_add op_addD (q_sl rfl (q_var 1 (pv 1)) (qo_some (q_var 3 (pv 3))) qo_none) (q_sl rfl (q_var 1 (pv 1)) qo_none (qo_some (q_var 3 (pv 3))))) qa_nil rfl) rfl)) scBent.nd rfl (by first | exact Or.inl rfl | exact Or.inr rfl) rfl (by first | exact .inl rfl | exact .inr rfl))
      (qs_one (qs_ret (q_call c_Some rfl hg hr (qa_cons (q_var 0 (pv 0)) (qa_cons (q_op so_add op_addD (q_var 5 (pv 5)) (q_lst (qa_cons (q_var 8 (pv 8)) (qa_cons (q_var 9 (pv 9)) (qa_cons (q_var 4 (pv 4)) (qa_cons (q_ty sc_list call_list_of m_list (by decide +kernel) (qa_cons (q_var 1 (pv 1)) qa_nil rfl) rfl (by decide) (by decide) rfl rfl) (qa_cons (q_tup (qa_cons (q_var 1 (pv 1)) qa_nil rfl)) (qa_cons q_non (qa_cons q_dnew qa_nil rfl) rfl) rfl) rfl) rfl) rfl) rfl))) qa_nil rfl) rfl) rfl (by decide) rfl rfl)))))))
        qs_nil)
      (qs_cons (qs_if (qb_tru rfl (q_call c_IsWhole rfl hg hr (qa_cons (q_var 1 (pv 1)) qa_nil rfl) rfl (by decide) rfl rfl) (fun _ => rfl))
        (qs_cons (qs_set (i := 6) (q_lst (qa_cons q_bl (qa_cons q_bl (qa_cons q_non (qa_cons (q_ty sc_str call_str_int m_str (by decide +kernel) (qa_cons (q_var 1 (pv 1)) qa_nil rfl) rfl (by decide) (by decide) rfl rfl) (qa_cons (q_lst (qa_cons (q_var 1 (pv 1)) qa_nil rfl)) (qa_cons (q_tup (qa_cons (q_var 1 (pv 1)) qa_nil rfl)) qa_nil rfl) rfl) rfl) rfl) rfl) rfl)) scBent.nd rfl (by first | exact Or.inl rfl | exact Or.inr rfl) rfl (by first | exact .inl rfl | exact .inr rfl))
      (qs_one (qs_ret (q_call c_Some rfl hg hr (qa_cons (q_var 0 (pv 0)) (qa_cons (q_op so_add op_addD (q_lst (qa_cons (q_op so_add op_addD (q_var 1 (pv 1)) q_int) (qa_cons (q_op so_sub op_sub (q_var 1 (pv 1)) q_int) (qa_cons (q_op so_sub op_sub q_int (q_var 1 (pv 1))) (qa_cons (q_op so_add op_addD (q_var 1 (pv 1)) q_int) (qa_cons q_int (qa_cons q_int (qa_cons (q_op so_pow op_pow q_int q_int) qa_nil rfl) rfl) rfl) rfl) rfl) rfl) rfl)) (q_var 6 (pv 6))) qa_nil rfl) rfl) rfl (by decide) rfl rfl))))
        qs_nil)
      (qs_one (qs_ret (q_call c_Some rfl hg hr (qa_cons (q_var 0 (pv 0)) (qa_cons (q_lst (qa_cons q_str (qa_cons q_str (qa_cons q_str (qa_cons q_str (qa_cons q_str (qa_cons q_str (qa_cons q_non (qa_cons q_int (qa_cons (q_tup qa_nil) (qa_cons (q_lst (qa_cons q_str qa_nil rfl)) (qa_cons q_bl (qa_cons q_str (qa_cons q_str qa_nil rfl) rfl) rfl) rfl) rfl) rfl) rfl) rfl) rfl) rfl) rfl) rfl) rfl)) qa_nil rfl) rfl) rfl (by decide) rfl rfl))))))⟩) hF
theorem isBent {P : Program} {w : World} {K : PySem.W.Frag} {mg : Str → Option Value} {base : Heap} {k : Nat} {f : Addr} {fd : FuncData} (D : Df K mg "_law_bent" ["_law_bag_here", "_law_thing_here", "_law_deep"] sBent f fd) (m_isinstance : mg "isinstance" = none) (m_len : mg "len" = none) (m_list : mg "list" = none) (m_str : mg "str" = none) (m_tuple : mg "tuple" = none) {F_Take : FF} (c_Take : Cal P w K mg base k "_law_take" ["_law_bag_here", "_law_many"] F_Take) {F_Bent : FF} (c_Bent : Cal P w K mg base k "_law_bent" ["_law_bag_here", "_law_thing_here", "_law_deep"] F_Bent) {F_Some : FF} (c_Some : Cal P w K mg base k "_law_some" ["_law_bag_here", "_law_things"] F_Some) {F_IsWhole : FF} (c_IsWhole : Cal P w K mg base k "_law_is_whole" ["_law_thing_here"] F_IsWhole) : Cal P w K mg base (k + 1) "_law_bent" ["_law_bag_here", "_law_thing_here", "_law_deep"] (fBent F_Take F_Bent F_Some F_IsWhole) := calBent D m_isinstance m_len m_list m_str m_tuple c_Take c_Bent c_Some c_IsWhole ends_of
abbrev sUnits : Stmt := topS 26
theorem scUnits : FnScope nUnits ["_law_thing_here"] (defScope sUnits) := ⟨rfl, rfl, rfl, by decide +kernel, rfl, by decide +kernel, by decide +kernel⟩
theorem calUnits {P : Program} {w : World} {K : PySem.W.Frag} {mg : Str → Option Value} {base : Heap} {k : Nat} {f : Addr} {fd : FuncData} (D : Df K mg "_law_units" ["_law_thing_here"] sUnits f fd) (m_int : mg "int" = none) (m_isinstance : mg "isinstance" = none) (m_sum : mg "sum" = none) (m_tuple : mg "tuple" = none) {F_Units : FF} (c_Units : Cal P w K mg base k "_law_units" ["_law_thing_here"] F_Units) {F_IsWhole : FF} (c_IsWhole : Cal P w K mg base k "_law_is_whole" ["_law_thing_here"] F_IsWhole) {Fn : FF}
    (hF : ∀ args s v s', args.length = 1 → Fn args s = some (v, s') → EndsD (gUnits F_Units F_IsWhole) (startD nUnits args) s v s') : Cal P w K mg base (k + 1) "_law_units" ["_law_thing_here"] Fn :=
  okD D scUnits (fun cdv A outer s H E hg hr => ⟨_, (qs_cons (qs_if (qb_tru rfl (q_is (k := .tuple) rfl m_isinstance m_tuple (by decide +kernel) (q_var 0 (pv 0)) rfl rfl (by decide) (by decide) rfl rfl rfl (by decide +kernel)) (fun _ => rfl))
        (qs_one (qs_ret (q_cb sc_sum (cr_sum rfl) m_sum (by decide +kernel) (qa_cons (q_comp rfl scUnits.nd (own := [("_law_one", 1)]) (qi_data rfl (q_var 0 (pv 0))) (blkOk_by (N := nUnits) (sc := defScope sUnits) (by decide +kernel)) (kps_nm (by decide)) (fun _ _ _ _ _ => (qg_nm (pg_name (i := 1) scUnits.nd rfl (Or.inl rfl)))) (fun _ _ _ _ _ => qt_nil) (fun _ _ _ _ _ => (q_call c_Units rfl hg hr (qa_cons (q_var 1 (pv 1)) qa_nil rfl) rfl (by decide) rfl rfl)) (fun _ => rfl)) qa_nil rfl) rfl (by decide) (by decide) rfl rfl)))
        qs_nil)
      (qs_one (qs_ret (q_ty sc_int call_int1 m_int (by decide +kernel) (qa_cons (q_and rfl (q_call c_IsWhole rfl hg hr (qa_cons (q_var 0 (pv 0)) qa_nil rfl) rfl (by decide) rfl rfl) (q_one (q_chain (so_cm _) (op_leD hr.units) (so_cm _) (op_leD hr.units) q_int (q_var 0 (pv 0)) q_int (by with_unfolding_all rfl)))) qa_nil rfl) rfl (by decide) (by decide) rfl rfl))))⟩) hF
theorem isUnits {P : Program} {w : World} {K : PySem.W.Frag} {mg : Str → Option Value} {base : Heap} {k : Nat} {f : Addr} {fd : FuncData} (D : Df K mg "_law_units" ["_law_thing_here"] sUnits f fd) (m_int : mg "int" = none) (m_isinstance : mg "isinstance" = none) (m_sum : mg "sum" = none) (m_tuple : mg "tuple" = none) {F_Units : FF} (c_Units : Cal P w K mg base k "_law_units" ["_law_thing_here"] F_Units) {F_IsWhole : FF} (c_IsWhole : Cal P w K mg base k "_law_is_whole" ["_law_thing_here"] F_IsWhole) : Cal P w K mg base (k + 1) "_law_units" ["_law_thing_here"] (fUnits F_Units F_IsWhole) := calUnits D m_int m_isinstance m_sum m_tuple c_Units c_IsWhole ends_of
abbrev sWithTruth : Stmt := topS 27
theorem scWithTruth : FnScope nWithTruth ["_law_thing_here", "_law_left"] (defScope sWithTruth) := ⟨rfl, rfl, rfl, by decide +kernel, rfl, by decide +kernel, by decide +kernel⟩
theorem calWithTruth {P : Program} {w : World} {K : PySem.W.Frag} {mg : Str → Option Value} {base : Heap} {k : Nat} {f : Addr} {fd : FuncData} (D : Df K mg "_law_with_truth" ["_law_thing_here", "_law_left"] sWithTruth f fd) (m_isinstance : mg "isinstance" = none) (m_tuple : mg "tuple" = none) {F_WithTruth : FF} (c_WithTruth : Cal P w K mg base k "_law_with_truth" ["_law_thing_here", "_law_left"] F_WithTruth) {F_IsWhole : FF} (c_IsWhole : Cal P w K mg base k "_law_is_whole" ["_law_thing_here"] F_IsWhole) {Fn : FF}
    (hF : ∀ args s v s', args.length = 2 → Fn args s = some (v, s') → EndsD (gWithTruth F_WithTruth F_IsWhole) (startD nWithTruth args) s v s') : Cal P w K mg base (k + 1) "_law_with_truth" ["_law_thing_here", "_law_left"] Fn :=
  okD D scWithTruth (fun cdv A outer s H E hg hr => ⟨_, (qs_cons (qs_if (qb_tru rfl (q_is (k := .tuple) rfl m_isinstance m_tuple (by decide +kernel) (q_var 0 (pv 0)) rfl rfl (by decide) (by decide) rfl rfl rfl (by decide +kernel)) (fun _ => rfl))
        (qs_one (qs_ret (q_ty sc_tuple call_tuple_of m_tuple (by decide +kernel) (qa_cons (q_comp rfl scWithTruth.nd (own := [("_law_one", 2)]) (qi_data rfl (q_var 0 (pv 0))) (blkOk_by (N := nWithTruth) (sc := defScope sWithTruth) (by decide +kernel)) (kps_nm (by decide)) (fun _ _ _ _ _ => (qg_nm (pg_name (i := 2) scWithTruth.nd rfl (Or.inl rfl)))) (fun _ _ _ _ _ => qt_nil) (fun _ _ _ _ _ => (q_call c_WithTruth rfl hg hr (qa_cons (q_var 2 (pv 2)) (qa_cons (q_var 1 (pv 1)) qa_nil rfl) rfl) rfl (by decide) rfl rfl)) (fun _ => rfl)) qa_nil rfl) rfl (by decide) (by decide) rfl rfl)))
        qs_nil)
      (qs_cons (qs_if (qb_w (qw_and (qb_tru rfl (q_call c_IsWhole rfl hg hr (qa_cons (q_var 0 (pv 0)) qa_nil rfl) rfl (by decide) rfl rfl) (fun _ => rfl)) (qw_and1 (qb_chain (so_cm _) (op_leD hr.units) (so_cm _) (op_leD hr.units) q_int (q_var 0 (pv 0)) q_int (by with_unfolding_all rfl)))))
        (qs_cons (qs_subI rfl (q_var 1 (pv 1)) q_int q_int (fun _ _ _ => rfl))
      (qs_one (qs_ret (q_if (qb_cmp so_eq (Dl.op_eqD hr.units) (q_ixC rfl (q_var 1 (pv 1)) q_int (fun _ _ => rfl)) (q_neg q_int) (nomark _)) (q_cmp so_eq (Dl.op_eqD hr.units) (q_var 0 (pv 0)) q_int (nomark _)) (q_var 0 (pv 0))))))
        qs_nil)
      (qs_one (qs_ret (q_var 0 (pv 0))))))⟩) hF
theorem isWithTruth {P : Program} {w : World} {K : PySem.W.Frag} {mg : Str → Option Value} {base : Heap} {k : Nat} {f : Addr} {fd : FuncData} (D : Df K mg "_law_with_truth" ["_law_thing_here", "_law_left"] sWithTruth f fd) (m_isinstance : mg "isinstance" = none) (m_tuple : mg "tuple" = none) {F_WithTruth : FF} (c_WithTruth : Cal P w K mg base k "_law_with_truth" ["_law_thing_here", "_law_left"] F_WithTruth) {F_IsWhole : FF} (c_IsWhole : Cal P w K mg base k "_law_is_whole" ["_law_thing_here"] F_IsWhole) : Cal P w K mg base (k + 1) "_law_with_truth" ["_law_thing_here", "_law_left"] (fWithTruth F_WithTruth F_IsWhole) := calWithTruth D m_isinstance m_tuple c_WithTruth c_IsWhole ends_of
abbrev sTruthed : Stmt := topS 28
theorem scTruthed : FnScope nTruthed ["_law_bag_here", "_law_thing_here"] (defScope sTruthed) := ⟨rfl, rfl, rfl, by decide +kernel, rfl, by decide +kernel, by decide +kernel⟩
theorem calTruthed {P : Program} {w : World} {K : PySem.W.Frag} {mg : Str → Option Value} {base : Heap} {k : Nat} {f : Addr} {fd : FuncData} (D : Df K mg "_law_truthed" ["_law_bag_here", "_law_thing_here"] sTruthed f fd) {F_Units : FF} (c_Units : Cal P w K mg base k "_law_units" ["_law_thing_here"] F_Units) {F_WithTruth : FF} (c_WithTruth : Cal P w K mg base k "_law_with_truth" ["_law_thing_here", "_law_left"] F_WithTruth) {F_Take : FF} (c_Take : Cal P w K mg base k "_law_take" ["_law_bag_here", "_law_many"] F_Take) {Fn : FF}
    (hF : ∀ args s v s', args.length = 2 → Fn args s = some (v, s') → EndsD (gTruthed F_Units F_WithTruth F_Take) (startD nTruthed args) s v s') : Cal P w K mg base (k + 1) "_law_truthed" ["_law_bag_here", "_law_thing_here"] Fn :=
  okD D scTruthed (fun cdv A outer s H E hg hr => ⟨_, (qs_cons (qs_set (i := 2) (q_call c_Units rfl hg hr (qa_cons (q_var 1 (pv 1)) qa_nil rfl) rfl (by decide) rfl rfl) scTruthed.nd rfl (by first | exact Or.inl rfl | exact Or.inr rfl) rfl (by first | exact .inl rfl | exact .inr rfl))
      (qs_one (qs_ret (q_if (qb_cmp (so_cm _) (op_gtD hr.units) (q_var 2 (pv 2)) q_int (nomark _)) (q_call c_WithTruth rfl hg hr (qa_cons (q_var 1 (pv 1)) (qa_cons (q_lstN (qa_cons (q_call c_Take rfl hg hr (qa_cons (q_var 0 (pv 0)) (qa_cons (q_var 2 (pv 2)) qa_nil rfl) rfl) rfl (by decide) rfl rfl) qa_nil rfl)) qa_nil rfl) rfl) rfl (by decide) rfl rfl) (q_var 1 (pv 1))))))⟩) hF
theorem isTruthed {P : Program} {w : World} {K : PySem.W.Frag} {mg : Str → Option Value} {base : Heap} {k : Nat} {f : Addr} {fd : FuncData} (D : Df K mg "_law_truthed" ["_law_bag_here", "_law_thing_here"] sTruthed f fd) {F_Units : FF} (c_Units : Cal P w K mg base k "_law_units" ["_law_thing_here"] F_Units) {F_WithTruth : FF} (c_WithTruth : Cal P w K mg base k "_law_with_truth" ["_law_thing_here", "_law_left"] F_WithTruth) {F_Take : FF} (c_Take : Cal P w K mg base k "_law_take" ["_law_bag_here", "_law_many"] F_Take) : Cal P w K mg base (k + 1) "_law_truthed" ["_law_bag_here", "_law_thing_here"] (fTruthed F_Units F_WithTruth F_Take) := calTruthed D c_Units c_WithTruth c_Take ends_cut
abbrev sIsNatural : Stmt := topS 29
theorem scIsNatural : FnScope nIsNatural ["_law_thing_here"] (defScope sIsNatural) := ⟨rfl, rfl, rfl, by decide +kernel, rfl, by decide +kernel, by decide +kernel⟩
theorem calIsNatural {P : Program} {w : World} {K : PySem.W.Frag} {mg : Str → Option Value} {base : Heap} {k : Nat} {f : Addr} {fd : FuncData} (D : Df K mg "_law_is_natural" ["_law_thing_here"] sIsNatural f fd) {F_IsWhole : FF} (c_IsWhole : Cal P w K mg base k "_law_is_whole" ["_law_thing_here"] F_IsWhole) {Fn : FF}
    (hF : ∀ args s v s', args.length = 1 → Fn args s = some (v, s') → EndsD (gIsNatural F_IsWhole) (startD nIsNatural args) s v s') : Cal P w K mg base (k + 1) "_law_is_natural" ["_law_thing_here"] Fn :=
  okD D scIsNatural (fun cdv A outer s H E hg hr => ⟨_, (qs_one (qs_ret (q_and rfl (q_call c_IsWhole rfl hg hr (qa_cons (q_var 0 (pv 0)) qa_nil rfl) rfl (by decide) rfl rfl) (q_one (q_cmp (so_cm _) (op_geD hr.units) (q_var 0 (pv 0)) q_int (nomark _))))))⟩) hF
theorem isIsNatural {P : Program} {w : World} {K : PySem.W.Frag} {mg : Str → Option Value} {base : Heap} {k : Nat} {f : Addr} {fd : FuncData} (D : Df K mg "_law_is_natural" ["_law_thing_here"] sIsNatural f fd) {F_IsWhole : FF} (c_IsWhole : Cal P w K mg base k "_law_is_whole" ["_law_thing_here"] F_IsWhole) : Cal P w K mg base (k + 1) "_law_is_natural" ["_law_thing_here"] (fIsNatural F_IsWhole) := calIsNatural D c_IsWhole ends_of
abbrev sIsLot : Stmt := topS 30
theorem scIsLot : FnScope nIsLot ["_law_thing_here"] (defScope sIsLot) := ⟨rfl, rfl, rfl, by decide +kernel, rfl, by decide +kernel, by decide +kernel⟩
theorem calIsLot {P : Program} {w : World} {K : PySem.W.Frag} {mg : Str → Option Value} {base : Heap} {k : Nat} {f : Addr} {fd : FuncData} (D : Df K mg "_law_is_lot" ["_law_thing_here"] sIsLot f fd) (m_isinstance : mg "isinstance" = none) (m_len : mg "len" = none) (m_range : mg "range" = none) (m_tuple : mg "tuple" = none) {F_IsNatural : FF} (c_IsNatural : Cal P w K mg base k "_law_is_natural" ["_law_thing_here"] F_IsNatural) {Fn : FF}
    (hF : ∀ args s v s', args.length = 1 → Fn args s = some (v, s') → EndsD (gIsLot F_IsNatural) (startD nIsLot args) s v s') : Cal P w K mg base (k + 1) "_law_is_lot" ["_law_thing_here"] Fn :=
  okD D scIsLot (fun cdv A outer s H E hg hr => ⟨_, (qs_cons (qs_if (qb_w (qw_or (qb_not (qb_tru rfl (q_is (k := .tuple) rfl m_isinstance m_tuple (by decide +kernel) (q_var 0 (pv 0)) rfl rfl (by decide) (by decide) rfl rfl rfl (by decide +kernel)) (fun _ => rfl))) (qw_or1 (qb_cmp so_ne (op_neA hr.units) (q_comp rfl scIsLot.nd (own := [("_law_one", 2)]) (qi_data rfl (q_var 0 (pv 0))) (blkOk_by (N := nIsLot) (sc := defScope sIsLot) (by decide +kernel)) (kps_nm (by decide)) (fun _ _ _ _ _ => (qg_nm (pg_name (i := 2) scIsLot.nd rfl (Or.inl rfl)))) (fun _ _ _ _ _ => (qt_one (qb_not (qb_tru rfl (q_call c_IsNatural rfl hg hr (qa_cons (q_var 2 (pv 2)) qa_nil rfl) rfl (by decide) rfl rfl) (fun _ => rfl))))) (fun _ _ _ _ _ => (q_var 2 (pv 2))) (fun _ => rfl)) (q_lst qa_nil) (nomark _)))))
        (qs_one (qs_ret q_bl))
        qs_nil)
      (qs_one (qs_ret (q_cmp so_eq (Dl.op_eqD hr.units) (q_comp rfl scIsLot.nd (own := [("_law_k", 1)]) (qi_range2 m_range (qa_cons q_int (qa_cons (q_cb sc_len Dl.call_lenD m_len (by decide +kernel) (qa_cons (q_var 0 (pv 0)) qa_nil rfl) rfl (by decide) (by decide) rfl rfl) qa_nil rfl) rfl) rfl rfl rfl) (blkOk_by (N := nIsLot) (sc := defScope sIsLot) (by decide +kernel)) (kps_nm (by decide)) (fun _ _ _ _ _ => (qg_nm (pg_name (i := 1) scIsLot.nd rfl (Or.inl rfl)))) (fun _ _ _ _ _ => (qt_one (qb_cmp (so_cm _) (op_geD hr.units) (q_ix rfl (q_var 0 (pv 0)) (q_op so_sub op_sub (q_var 1 (pv 1)) q_int) (fun _ _ => rfl)) (q_ix rfl (q_var 0 (pv 0)) (q_var 1 (pv 1)) (fun _ _ => rfl)) (nomark _)))) (fun _ _ _ _ _ => (q_var 1 (pv 1))) (fun _ => rfl)) (q_lst qa_nil) (nomark _)))))⟩) hF
theorem isIsLot {P : Program} {w : World} {K : PySem.W.Frag} {mg : Str → Option Value} {base : Heap} {k : Nat} {f : Addr} {fd : FuncData} (D : Df K mg "_law_is_lot" ["_law_thing_here"] sIsLot f fd) (m_isinstance : mg "isinstance" = none) (m_len : mg "len" = none) (m_range : mg "range" = none) (m_tuple : mg "tuple" = none) {F_IsNatural : FF} (c_IsNatural : Cal P w K mg base k "_law_is_natural" ["_law_thing_here"] F_IsNatural) : Cal P w K mg base (k + 1) "_law_is_lot" ["_law_thing_here"] (fIsLot F_IsNatural) := calIsLot D m_isinstance m_len m_range m_tuple c_IsNatural ends_of
abbrev sIsPlace : Stmt := topS 31
theorem scIsPlace : FnScope nIsPlace ["_law_thing_here"] (defScope sIsPlace) := ⟨rfl, rfl, rfl, by decide +kernel, rfl, by decide +kernel, by decide +kernel⟩
theorem calIsPlace {P : Program} {w : World} {K : PySem.W.Frag} {mg : Str → Option Value} {base : Heap} {k : Nat} {f : Addr} {fd : FuncData} (D : Df K mg "_law_is_place" ["_law_thing_here"] sIsPlace f fd) (m_isinstance : mg "isinstance" = none) (m_len : mg "len" = none) (m_tuple : mg "tuple" = none) {F_IsNatural : FF} (c_IsNatural : Cal P w K mg base k "_law_is_natural" ["_law_thing_here"] F_IsNatural) {Fn : FF}
    (hF : ∀ args s v s', args.length = 1 → Fn args s = some (v, s') → EndsD (gIsPlace F_IsNatural) (startD nIsPlace args) s v s') : Cal P w K mg base (k + 1) "_law_is_place" ["_law_thing_here"] Fn :=
  okD D scIsPlace (fun cdv A outer s H E hg hr => ⟨_, (qs_one (qs_ret (q_and rfl (q_is (k := .tuple) rfl m_isinstance m_tuple (by decide +kernel) (q_var 0 (pv 0)) rfl rfl (by decide) (by decide) rfl rfl rfl (by decide +kernel)) (q_and rfl (q_cmp so_eq (Dl.op_eqD hr.units) (q_cb sc_len Dl.call_lenD m_len (by decide +kernel) (qa_cons (q_var 0 (pv 0)) qa_nil rfl) rfl (by decide) (by decide) rfl rfl) q_int (nomark _)) (q_and rfl (q_call c_IsNatural rfl hg hr (qa_cons (q_ix rfl (q_var 0 (pv 0)) q_int (fun _ _ => rfl)) qa_nil rfl) rfl (by decide) rfl rfl) (q_one (q_call c_IsNatural rfl hg hr (qa_cons (q_ix rfl (q_var 0 (pv 0)) q_int (fun _ _ => rfl)) qa_nil rfl) rfl (by decide) rfl rfl)))))))⟩) hF
theorem isIsPlace {P : Program} {w : World} {K : PySem.W.Frag} {mg : Str → Option Value} {base : Heap} {k : Nat} {f : Addr} {fd : FuncData} (D : Df K mg "_law_is_place" ["_law_thing_here"] sIsPlace f fd) (m_isinstance : mg "isinstance" = none) (m_len : mg "len" = none) (m_tuple : mg "tuple" = none) {F_IsNatural : FF} (c_IsNatural : Cal P w K mg base k "_law_is_natural" ["_law_thing_here"] F_IsNatural) : Cal P w K mg base (k + 1) "_law_is_place" ["_law_thing_here"] (fIsPlace F_IsNatural) := calIsPlace D m_isinstance m_len m_tuple c_IsNatural ends_of
abbrev sArePlaces : Stmt := topS 32
theorem scArePlaces : FnScope nArePlaces ["_law_thing_here"] (defScope sArePlaces) := ⟨rfl, rfl, rfl, by decide +kernel, rfl, by decide +kernel, by decide +kernel⟩
theorem calArePlaces {P : Program} {w : World} {K : PySem.W.Frag} {mg : Str → Option Value} {base : Heap} {k : Nat} {f : Addr} {fd : FuncData} (D : Df K mg "_law_are_places" ["_law_thing_here"] sArePlaces f fd) (m_isinstance : mg "isinstance" = none) (m_len : mg "len" = none) (m_range : mg "range" = none) (m_tuple : mg "tuple" = none) {F_IsPlace : FF} (c_IsPlace : Cal P w K mg base k "_law_is_place" ["_law_thing_here"] F_IsPlace) {Fn : FF}
    (hF : ∀ args s v s', args.length = 1 → Fn args s = some (v, s') → EndsD (gArePlaces F_IsPlace) (startD nArePlaces args) s v s') : Cal P w K mg base (k + 1) "_law_are_places" ["_law_thing_here"] Fn :=
  okD D scArePlaces (fun cdv A outer s H E hg hr => ⟨_, (qs_cons (qs_if (qb_w (qw_or (qb_not (qb_tru rfl (q_is (k := .tuple) rfl m_isinstance m_tuple (by decide +kernel) (q_var 0 (pv 0)) rfl rfl (by decide) (by decide) rfl rfl rfl (by decide +kernel)) (fun _ => rfl))) (qw_or1 (qb_cmp so_ne (op_neA hr.units) (q_comp rfl scArePlaces.nd (own := [("_law_one", 2)]) (qi_data rfl (q_var 0 (pv 0))) (blkOk_by (N := nArePlaces) (sc := defScope sArePlaces) (by decide +kernel)) (kps_nm (by decide)) (fun _ _ _ _ _ => (qg_nm (pg_name (i := 2) scArePlaces.nd rfl (Or.inl rfl)))) (fun _ _ _ _ _ => (qt_one (qb_not (qb_tru rfl (q_call c_IsPlace rfl hg hr (qa_cons (q_var 2 (pv 2)) qa_nil rfl) rfl (by decide) rfl rfl) (fun _ => rfl))))) (fun _ _ _ _ _ => (q_var 2 (pv 2))) (fun _ => rfl)) (q_lst qa_nil) (nomark _)))))
        (qs_one (qs_ret q_bl))
        qs_nil)
      (qs_one (qs_ret (q_cmp so_eq (Dl.op_eqD hr.units) (q_comp rfl scArePlaces.nd (own := [("_law_k", 1)]) (qi_range2 m_range (qa_cons q_int (qa_cons (q_cb sc_len Dl.call_lenD m_len (by decide +kernel) (qa_cons (q_var 0 (pv 0)) qa_nil rfl) rfl (by decide) (by decide) rfl rfl) qa_nil rfl) rfl) rfl rfl rfl) (blkOk_by (N := nArePlaces) (sc := defScope sArePlaces) (by decide +kernel)) (kps_nm (by decide)) (fun _ _ _ _ _ => (qg_nm (pg_name (i := 1) scArePlaces.nd rfl (Or.inl rfl)))) (fun _ _ _ _ _ => (qt_one (qb_cmp (so_cm _) (op_geD hr.units) (q_ix rfl (q_var 0 (pv 0)) (q_op so_sub op_sub (q_var 1 (pv 1)) q_int) (fun _ _ => rfl)) (q_ix rfl (q_var 0 (pv 0)) (q_var 1 (pv 1)) (fun _ _ => rfl)) (nomark _)))) (fun _ _ _ _ _ => (q_var 1 (pv 1))) (fun _ => rfl)) (q_lst qa_nil) (nomark _)))))⟩) hF
theorem isArePlaces {P : Program} {w : World} {K : PySem.W.Frag} {mg : Str → Option Value} {base : Heap} {k : Nat} {f : Addr} {fd : FuncData} (D : Df K mg "_law_are_places" ["_law_thing_here"] sArePlaces f fd) (m_isinstance : mg "isinstance" = none) (m_len : mg "len" = none) (m_range : mg "range" = none) (m_tuple : mg "tuple" = none) {F_IsPlace : FF} (c_IsPlace : Cal P w K mg base k "_law_is_place" ["_law_thing_here"] F_IsPlace) : Cal P w K mg base (k + 1) "_law_are_places" ["_law_thing_here"] (fArePlaces F_IsPlace) := calArePlaces D m_isinstance m_len m_range m_tuple c_IsPlace ends_of
abbrev sIsTicket : Stmt := topS 33
theorem scIsTicket : FnScope nIsTicket ["_law_thing_here"] (defScope sIsTicket) := ⟨rfl, rfl, rfl, by decide +kernel, rfl, by decide +kernel, by decide +kernel⟩
theorem calIsTicket {P : Program} {w : World} {K : PySem.W.Frag} {mg : Str → Option Value} {base : Heap} {k : Nat} {f : Addr} {fd : FuncData} (D : Df K mg "_law_is_ticket" ["_law_thing_here"] sIsTicket f fd) (m_isinstance : mg "isinstance" = none) (m_len : mg "len" = none) (m_tuple : mg "tuple" = none) {F_IsLot : FF} (c_IsLot : Cal P w K mg base k "_law_is_lot" ["_law_thing_here"] F_IsLot) {F_IsNatural : FF} (c_IsNatural : Cal P w K mg base k "_law_is_natural" ["_law_thing_here"] F_IsNatural) {Fn : FF}
    (hF : ∀ args s v s', args.length = 1 → Fn args s = some (v, s') → EndsD (gIsTicket F_IsLot F_IsNatural) (startD nIsTicket args) s v s') : Cal P w K mg base (k + 1) "_law_is_ticket" ["_law_thing_here"] Fn :=
  okD D scIsTicket (fun cdv A outer s H E hg hr => ⟨_, (qs_cons (qs_if (qb_w (qw_or (qb_not (qb_tru rfl (q_is (k := .tuple) rfl m_isinstance m_tuple (by decide +kernel) (q_var 0 (pv 0)) rfl rfl (by decide) (by decide) rfl rfl rfl (by decide +kernel)) (fun _ => rfl))) (qw_or1 (qb_cmp so_ne (op_neA hr.units) (q_cb sc_len Dl.call_lenD m_len (by decide +kernel) (qa_cons (q_var 0 (pv 0)) qa_nil rfl) rfl (by decide) (by decide) rfl rfl) q_int (nomark _)))))
        (qs_one (qs_ret q_bl))
        qs_nil)
      (qs_one (qs_ret (q_and rfl (q_call c_IsLot rfl hg hr (qa_cons (q_ix rfl (q_var 0 (pv 0)) q_int (fun _ _ => rfl)) qa_nil rfl) rfl (by decide) rfl rfl) (q_and rfl (q_cmp so_ne (op_neA hr.units) (q_ix rfl (q_var 0 (pv 0)) q_int (fun _ _ => rfl)) (q_tup qa_nil) (nomark _)) (q_one (q_call c_IsNatural rfl hg hr (qa_cons (q_ix rfl (q_var 0 (pv 0)) q_int (fun _ _ => rfl)) qa_nil rfl) rfl (by decide) rfl rfl)))))))⟩) hF
theorem isIsTicket {P : Program} {w : World} {K : PySem.W.Frag} {mg : Str → Option Value} {base : Heap} {k : Nat} {f : Addr} {fd : FuncData} (D : Df K mg "_law_is_ticket" ["_law_thing_here"] sIsTicket f fd) (m_isinstance : mg "isinstance" = none) (m_len : mg "len" = none) (m_tuple : mg "tuple" = none) {F_IsLot : FF} (c_IsLot : Cal P w K mg base k "_law_is_lot" ["_law_thing_here"] F_IsLot) {F_IsNatural : FF} (c_IsNatural : Cal P w K mg base k "_law_is_natural" ["_law_thing_here"] F_IsNatural) : Cal P w K mg base (k + 1) "_law_is_ticket" ["_law_thing_here"] (fIsTicket F_IsLot F_IsNatural) := calIsTicket D m_isinstance m_len m_tuple c_IsLot c_IsNatural ends_of
abbrev sIsCell : Stmt := topS 34
theorem scIsCell : FnScope nIsCell ["_law_thing_here"] (defScope sIsCell) := ⟨rfl, rfl, rfl, by decide +kernel, rfl, by decide +kernel, by decide +kernel⟩
theorem calIsCell {P : Program} {w : World} {K : PySem.W.Frag} {mg : Str → Option Value} {base : Heap} {k : Nat} {f : Addr} {fd : FuncData} (D : Df K mg "_law_is_cell" ["_law_thing_here"] sIsCell f fd) (m_isinstance : mg "isinstance" = none) (m_len : mg "len" = none) (m_str : mg "str" = none) (m_tuple : mg "tuple" = none) {F_IsWhole : FF} (c_IsWhole : Cal P w K mg base k "_law_is_whole" ["_law_thing_here"] F_IsWhole) {F_ArePlaces : FF} (c_ArePlaces : Cal P w K mg base k "_law_are_places" ["_law_thing_here"] F_ArePlaces) {Fn : FF}
    (hF : ∀ args s v s', args.length = 1 → Fn args s = some (v, s') → EndsD (gIsCell F_IsWhole F_ArePlaces) (startD nIsCell args) s v s') : Cal P w K mg base (k + 1) "_law_is_cell" ["_law_thing_here"] Fn :=
  okD D scIsCell (fun cdv A outer s H E hg hr => ⟨_, (qs_cons (qs_if (qb_w (qw_or (qb_not (qb_tru rfl (q_is (k := .tuple) rfl m_isinstance m_tuple (by decide +kernel) (q_var 0 (pv 0)) rfl rfl (by decide) (by decide) rfl rfl rfl (by decide +kernel)) (fun _ => rfl))) (qw_or (qb_cmp so_ne (op_neA hr.units) (q_cb sc_len Dl.call_lenD m_len (by decide +kernel) (qa_cons (q_var 0 (pv 0)) qa_nil rfl) rfl (by decide) (by decide) rfl rfl) q_int (nomark _)) (qw_or (qb_not (qb_tru rfl (q_call c_IsWhole rfl hg hr (qa_cons (q_ix rfl (q_var 0 (pv 0)) q_int (fun _ _ => rfl)) qa_nil rfl) rfl (by decide) rfl rfl) (fun _ => rfl))) (qw_or1 (qb_not (qb_tru rfl (q_is (k := .str) rfl m_isinstance m_str (by decide +kernel) (q_ix rfl (q_var 0 (pv 0)) q_int (fun _ _ => rfl)) rfl rfl (by decide) (by decide) rfl rfl rfl (by decide +kernel)) (fun _ => rfl))))))))
        (qs_one (qs_ret q_bl))
        qs_nil)
      (qs_cons (qs_if (qb_w (qw_or (qb_cmp (so_in _) (op_niA (u65 hr)) (q_ix rfl (q_var 0 (pv 0)) q_int (fun _ _ => rfl)) (q_tup (qa_cons q_str (qa_cons q_str qa_nil rfl) rfl)) rfl) (qw_or (qb_not (qb_tru rfl (q_call c_ArePlaces rfl hg hr (qa_cons (q_ix rfl (q_var 0 (pv 0)) q_int (fun _ _ => rfl)) qa_nil rfl) rfl (by decide) rfl rfl) (fun _ => rfl))) (qw_or1 (qb_not (qb_tru rfl (q_call c_ArePlaces rfl hg hr (qa_cons (q_ix rfl (q_var 0 (pv 0)) q_int (fun _ _ => rfl)) qa_nil rfl) rfl (by decide) rfl rfl) (fun _ => rfl)))))))
        (qs_one (qs_ret q_bl))
        qs_nil)
      (qs_one (qs_ret (q_and rfl (q_or rfl (q_cmp so_ne (op_neA hr.units) (q_ix rfl (q_var 0 (pv 0)) q_int (fun _ _ => rfl)) (q_tup qa_nil) (nomark _)) (q_one (q_cmp so_ne (op_neA hr.units) (q_ix rfl (q_var 0 (pv 0)) q_int (fun _ _ => rfl)) (q_tup qa_nil) (nomark _)))) (q_one (q_or rfl (q_cmp so_eq (Dl.op_eqD hr.units) (q_ix rfl (q_var 0 (pv 0)) q_int (fun _ _ => rfl)) q_str (nomark _)) (q_one (q_cmp so_eq (Dl.op_eqD hr.units) (q_ix rfl (q_var 0 (pv 0)) q_int (fun _ _ => rfl)) (q_tup qa_nil) (nomark _))))))))))⟩) hF
theorem isIsCell {P : Program} {w : World} {K : PySem.W.Frag} {mg : Str → Option Value} {base : Heap} {k : Nat} {f : Addr} {fd : FuncData} (D : Df K mg "_law_is_cell" ["_law_thing_here"] sIsCell f fd) (m_isinstance : mg "isinstance" = none) (m_len : mg "len" = none) (m_str : mg "str" = none) (m_tuple : mg "tuple" = none) {F_IsWhole : FF} (c_IsWhole : Cal P w K mg base k "_law_is_whole" ["_law_thing_here"] F_IsWhole) {F_ArePlaces : FF} (c_ArePlaces : Cal P w K mg base k "_law_are_places" ["_law_thing_here"] F_ArePlaces) : Cal P w K mg base (k + 1) "_law_is_cell" ["_law_thing_here"] (fIsCell F_IsWhole F_ArePlaces) := calIsCell D m_isinstance m_len m_str m_tuple c_IsWhole c_ArePlaces ends_of
abbrev sLot : Stmt := topS 35
theorem scLot : FnScope nLot ["_law_bag_here"] (defScope sLot) := ⟨rfl, rfl, rfl, by decide +kernel, rfl, by decide +kernel, by decide +kernel⟩
theorem calLot {P : Program} {w : World} {K : PySem.W.Frag} {mg : Str → Option Value} {base : Heap} {k : Nat} {f : Addr} {fd : FuncData} (D : Df K mg "_law_lot" ["_law_bag_here"] sLot f fd) (m_tuple : mg "tuple" = none) {F_Pages : FF} (c_Pages : Cal P w K mg base k "_law_pages" ["_law_bag_here", "_law_many"] F_Pages) {F_Take : FF} (c_Take : Cal P w K mg base k "_law_take" ["_law_bag_here", "_law_many"] F_Take) {Fn : FF}
    (hF : ∀ args s v s', args.length = 1 → Fn args s = some (v, s') → EndsD (gLot F_Pages F_Take) (startD nLot args) s v s') : Cal P w K mg base (k + 1) "_law_lot" ["_law_bag_here"] Fn :=
  okD D scLot (fun cdv A outer s H E hg hr => ⟨_, (qs_one (qs_ret (q_ty sc_tuple call_tuple_of m_tuple (by decide +kernel) (qa_cons (q_call c_Pages rfl hg hr (qa_cons (q_var 0 (pv 0)) (qa_cons (q_call c_Take rfl hg hr (qa_cons (q_var 0 (pv 0)) (qa_cons q_int qa_nil rfl) rfl) rfl (by decide) rfl rfl) qa_nil rfl) rfl) rfl (by decide) rfl rfl) qa_nil rfl) rfl (by decide) (by decide) rfl rfl)))⟩) hF
theorem isLot {P : Program} {w : World} {K : PySem.W.Frag} {mg : Str → Option Value} {base : Heap} {k : Nat} {f : Addr} {fd : FuncData} (D : Df K mg "_law_lot" ["_law_bag_here"] sLot f fd) (m_tuple : mg "tuple" = none) {F_Pages : FF} (c_Pages : Cal P w K mg base k "_law_pages" ["_law_bag_here", "_law_many"] F_Pages) {F_Take : FF} (c_Take : Cal P w K mg base k "_law_take" ["_law_bag_here", "_law_many"] F_Take) : Cal P w K mg base (k + 1) "_law_lot" ["_law_bag_here"] (fLot F_Pages F_Take) := calLot D m_tuple c_Pages c_Take ends_of
abbrev sPlaces : Stmt := topS 36
theorem scPlaces : FnScope nPlaces ["_law_bag_here"] (defScope sPlaces) := ⟨rfl, rfl, rfl, by decide +kernel, rfl, by decide +kernel, by decide +kernel⟩
theorem calPlaces {P : Program} {w : World} {K : PySem.W.Frag} {mg : Str → Option Value} {base : Heap} {k : Nat} {f : Addr} {fd : FuncData} (D : Df K mg "_law_places" ["_law_bag_here"] sPlaces f fd) (m_range : mg "range" = none) (m_set : mg "set" = none) (m_sorted : mg "sorted" = none) (m_tuple : mg "tuple" = none) {F_Take : FF} (c_Take : Cal P w K mg base k "_law_take" ["_law_bag_here", "_law_many"] F_Take) {Fn : FF}
    (hF : ∀ args s v s', args.length = 1 → Fn args s = some (v, s') → EndsD (gPlaces F_Take) (startD nPlaces args) s v s') : Cal P w K mg base (k + 1) "_law_places" ["_law_bag_here"] Fn :=
  okD D scPlaces (fun cdv A outer s H E hg hr => ⟨_, (qs_cons (qs_setLc (i := 1) rfl scPlaces.nd rfl rfl (sw_true rfl rfl rfl (by decide +kernel)) (own := [("_law_k", 2)]) (qi_range1 m_range (qa_cons (q_call c_Take rfl hg hr (qa_cons (q_var 0 (pv 0)) (qa_cons q_int qa_nil rfl) rfl) rfl (by decide) rfl rfl) qa_nil rfl) rfl rfl) (blkOk_by (N := nPlaces) (sc := defScope sPlaces) (by decide +kernel)) (kps_nm (by decide)) (fun _ _ _ _ _ => (qg_nm (pg_name (i := 2) scPlaces.nd rfl (Or.inl rfl)))) (fun _ _ _ _ _ => qt_nil) (fun _ _ _ _ _ => (q_tup (qa_cons (q_call c_Take rfl hg hr (qa_cons (q_var 0 (pv 0)) (qa_cons q_int qa_nil rfl) rfl) rfl (by decide) rfl rfl) (qa_cons (q_call c_Take rfl hg hr (qa_cons (q_var 0 (pv 0)) (qa_cons q_int qa_nil rfl) rfl) rfl (by decide) rfl rfl) qa_nil rfl) rfl))) (fun _ => rfl))
      (qs_one (qs_ret (q_sset rfl rfl hr.units m_set m_sorted m_tuple (q_var 1 (pv 1)) rfl rfl rfl rfl))))⟩) hF
theorem isPlaces {P : Program} {w : World} {K : PySem.W.Frag} {mg : Str → Option Value} {base : Heap} {k : Nat} {f : Addr} {fd : FuncData} (D : Df K mg "_law_places" ["_law_bag_here"] sPlaces f fd) (m_range : mg "range" = none) (m_set : mg "set" = none) (m_sorted : mg "sorted" = none) (m_tuple : mg "tuple" = none) {F_Take : FF} (c_Take : Cal P w K mg base k "_law_take" ["_law_bag_here", "_law_many"] F_Take) : Cal P w K mg base (k + 1) "_law_places" ["_law_bag_here"] (fPlaces F_Take) := calPlaces D m_range m_set m_sorted m_tuple c_Take ends_of
abbrev sThing : Stmt := topS 37
theorem scThing : FnScope nThing ["_law_bag_here"] (defScope sThing) := ⟨rfl, rfl, rfl, by decide +kernel, rfl, by decide +kernel, by decide +kernel⟩
theorem calThing {P : Program} {w : World} {K : PySem.W.Frag} {mg : Str → Option Value} {base : Heap} {k : Nat} {f : Addr} {fd : FuncData} (D : Df K mg "_law_thing" ["_law_bag_here"] sThing f fd) {F_Some : FF} (c_Some : Cal P w K mg base k "_law_some" ["_law_bag_here", "_law_things"] F_Some) {F_Take : FF} (c_Take : Cal P w K mg base k "_law_take" ["_law_bag_here", "_law_many"] F_Take) {F_Lot : FF} (c_Lot : Cal P w K mg base k "_law_lot" ["_law_bag_here"] F_Lot) {F_Places : FF} (c_Places : Cal P w K mg base k "_law_places" ["_law_bag_here"] F_Places) {F_Value : FF} (c_Value : Cal P w K mg base k "_law_value" ["_law_bag_here", "_law_deep"] F_Value) {Fn : FF}
    (hF : ∀ args s v s', args.length = 1 → Fn args s = some (v, s') → EndsD (gThing F_Some F_Take F_Lot F_Places F_Value) (startD nThing args) s v s') : Cal P w K mg base (k + 1) "_law_thing" ["_law_bag_here"] Fn :=
  okD D scThing (fun cdv A outer s H E hg hr => ⟨_, (qs_cons (qs_par (i := 1) (j := 2) (qa_cons (q_call c_Take rfl hg hr (qa_cons (q_var 0 (pv 0)) (qa_cons q_int qa_nil rfl) rfl) rfl (by decide) rfl rfl) (qa_cons (q_call c_Some rfl hg hr (qa_cons (q_var 0 (pv 0)) (qa_cons (q_lst (qa_cons q_int (qa_cons q_int (qa_cons q_int (qa_cons (q_op so_sub op_sub (q_op so_pow op_pow q_int q_int) q_int) (qa_cons (q_op so_pow op_pow q_int q_int) (qa_cons (q_call c_Take rfl hg hr (qa_cons (q_var 0 (pv 0)) (qa_cons (q_op so_pow op_pow q_int q_int) qa_nil rfl) rfl) rfl (by decide) rfl rfl) qa_nil rfl) rfl) rfl) rfl) rfl) rfl)) qa_nil rfl) rfl) rfl (by decide) rfl rfl) qa_nil rfl) rfl) rfl scThing.nd rfl rfl (by decide) rfl rfl rfl rfl)
      (qs_cons (qs_if (qb_cmp (so_cm _) (op_ltD hr.units) (q_var 1 (pv 1)) q_int (nomark _))
        (qs_one (qs_ret (q_call c_Some rfl hg hr (qa_cons (q_var 0 (pv 0)) (qa_cons (q_lst (qa_cons (q_var 2 (pv 2)) (qa_cons (q_op so_sub op_sub q_int (q_var 2 (pv 2))) (qa_cons (q_call c_Lot rfl hg hr (qa_cons (q_var 0 (pv 0)) qa_nil rfl) rfl (by decide) rfl rfl) qa_nil rfl) rfl) rfl)) qa_nil rfl) rfl) rfl (by decide) rfl rfl)))
        qs_nil)
      (qs_cons (qs_if (qb_cmp so_eq (Dl.op_eqD hr.units) (q_var 1 (pv 1)) q_int (nomark _))
        (qs_one (qs_ret (q_tup (qa_cons (q_call c_Take rfl hg hr (qa_cons (q_var 0 (pv 0)) (qa_cons q_int qa_nil rfl) rfl) rfl (by decide) rfl rfl) (qa_cons (q_call c_Some rfl hg hr (qa_cons (q_var 0 (pv 0)) (qa_cons (q_lst (qa_cons q_int (qa_cons q_int (qa_cons (q_var 2 (pv 2)) qa_nil rfl) rfl) rfl)) qa_nil rfl) rfl) rfl (by decide) rfl rfl) qa_nil rfl) rfl))))
        qs_nil)
      (qs_cons (qs_if (qb_cmp (so_cm _) (op_ltD hr.units) (q_var 1 (pv 1)) q_int (nomark _))
        (qs_one (qs_ret (q_tup (qa_cons (q_call c_Lot rfl hg hr (qa_cons (q_var 0 (pv 0)) qa_nil rfl) rfl (by decide) rfl rfl) (qa_cons (q_var 2 (pv 2)) qa_nil rfl) rfl))))
        qs_nil)
      (qs_cons (qs_if (qb_cmp (so_cm _) (op_ltD hr.units) (q_var 1 (pv 1)) q_int (nomark _))
        (qs_cons (qs_par (i := 3) (j := 2) (qa_cons (q_call c_Some rfl hg hr (qa_cons (q_var 0 (pv 0)) (qa_cons (q_lst (qa_cons q_str (qa_cons q_str (qa_cons q_str qa_nil rfl) rfl) rfl)) qa_nil rfl) rfl) rfl (by decide) rfl rfl) (qa_cons (q_call c_Some rfl hg hr (qa_cons (q_var 0 (pv 0)) (qa_cons (q_lst (qa_cons (q_var 2 (pv 2)) (qa_cons (q_op so_sub op_sub q_int (q_var 2 (pv 2))) qa_nil rfl) rfl)) qa_nil rfl) rfl) rfl (by decide) rfl rfl) qa_nil rfl) rfl) rfl scThing.nd rfl rfl (by decide) rfl rfl rfl rfl)
      (qs_one (qs_ret (q_tup (qa_cons (q_var 2 (pv 2)) (qa_cons (q_var 3 (pv 3)) (qa_cons (q_call c_Places rfl hg hr (qa_cons (q_var 0 (pv 0)) qa_nil rfl) rfl (by decide) rfl rfl) (qa_cons (q_if (qb_w (qw_or (qb_cmp so_eq (Dl.op_eqD hr.units) (q_var 3 (pv 3)) q_str (nomark _)) (qw_or1 (qb_cmp so_eq (Dl.op_eqD hr.units) (q_call c_Take rfl hg hr (qa_cons (q_var 0 (pv 0)) (qa_cons q_int qa_nil rfl) rfl) rfl (by decide) rfl rfl) q_int (nomark _))))) (q_call c_Places rfl hg hr (qa_cons (q_var 0 (pv 0)) qa_nil rfl) rfl (by decide) rfl rfl) (q_tup qa_nil)) qa_nil rfl) rfl) rfl) rfl)))))
        qs_nil)
      (qs_one (qs_ret (q_call c_Value rfl hg hr (qa_cons (q_var 0 (pv 0)) (qa_cons q_int qa_nil rfl) rfl) rfl (by decide) rfl rfl))))))))⟩) hF
theorem isThing {P : Program} {w : World} {K : PySem.W.Frag} {mg : Str → Option Value} {base : Heap} {k : Nat} {f : Addr} {fd : FuncData} (D : Df K mg "_law_thing" ["_law_bag_here"] sThing f fd) {F_Some : FF} (c_Some : Cal P w K mg base k "_law_some" ["_law_bag_here", "_law_things"] F_Some) {F_Take : FF} (c_Take : Cal P w K mg base k "_law_take" ["_law_bag_here", "_law_many"] F_Take) {F_Lot : FF} (c_Lot : Cal P w K mg base k "_law_lot" ["_law_bag_here"] F_Lot) {F_Places : FF} (c_Places : Cal P w K mg base k "_law_places" ["_law_bag_here"] F_Places) {F_Value : FF} (c_Value : Cal P w K mg base k "_law_value" ["_law_bag_here", "_law_deep"] F_Value) : Cal P w K mg base (k + 1) "_law_thing" ["_law_bag_here"] (fThing F_Some F_Take F_Lot F_Places F_Value) := calThing D c_Some c_Take c_Lot c_Places c_Value ends_of
abbrev sAreStrangers : Stmt := topS 38
theorem scAreStrangers : FnScope nAreStrangers ["_law_one", "_law_other", "_law_third"] (defScope sAreStrangers) := ⟨rfl, rfl, rfl, by decide +kernel, rfl, by decide +kernel, by decide +kernel⟩
theorem calAreStrangers {P : Program} {w : World} {K : PySem.W.Frag} {mg : Str → Option Value} {base : Heap} {k : Nat} {f : Addr} {fd : FuncData} (D : Df K mg "_law_are_strangers" ["_law_one", "_law_other", "_law_third"] sAreStrangers f fd) {F_Alike : FF} (c_Alike : Cal P w K mg base k "_law_alike" ["_law_found", "_law_due"] F_Alike) {F_PIsCell : FF} (c_PIsCell : Cal P w K mg base k "is_cell" ["thing"] F_PIsCell) {F_PIsTicket : FF} (c_PIsTicket : Cal P w K mg base k "is_ticket" ["thing"] F_PIsTicket) {F_PIsPlace : FF} (c_PIsPlace : Cal P w K mg base k "is_place" ["thing"] F_PIsPlace) {F_PIsLot : FF} (c_PIsLot : Cal P w K mg base k "is_lot" ["thing"] F_PIsLot) {F_PIsInteger : FF} (c_PIsInteger : Cal P w K mg base k "is_integer" ["thing"] F_PIsInteger) {Fn : FF}
    (hF : ∀ args s v s', args.length = 3 → Fn args s = some (v, s') → EndsD (gAreStrangers F_Alike F_PIsCell F_PIsTicket F_PIsPlace F_PIsLot F_PIsInteger) (startD nAreStrangers args) s v s') : Cal P w K mg base (k + 1) "_law_are_strangers" ["_law_one", "_law_other", "_law_third"] Fn :=
  okD D scAreStrangers (fun cdv A outer s H E hg hr => ⟨_, (qs_cons (qs_for PassesOwn.never rfl (qi_data rfl (q_tup (qa_cons (q_var 0 (pv 0)) (qa_cons (q_var 1 (pv 1)) (qa_cons (q_tup (qa_cons (q_var 2 (pv 2)) qa_nil rfl)) (qa_cons (q_tup (qa_cons q_int (qa_cons (q_var 0 (pv 0)) qa_nil rfl) rfl)) (qa_cons (q_tup (qa_cons (q_var 1 (pv 1)) (qa_cons q_int qa_nil rfl) rfl)) (qa_cons (q_tup (qa_cons (q_tup (qa_cons q_int (qa_cons (q_var 2 (pv 2)) qa_nil rfl) rfl)) (qa_cons q_int qa_nil rfl) rfl)) (qa_cons (q_tup (qa_cons (q_tup (qa_cons (q_var 1 (pv 1)) qa_nil rfl)) (qa_cons q_int qa_nil rfl) rfl)) (qa_cons (q_tup (qa_cons (q_tup (qa_cons q_int qa_nil rfl)) (qa_cons (q_var 0 (pv 0)) qa_nil rfl) rfl)) qa_nil rfl) rfl) rfl) rfl) rfl) rfl) rfl) rfl))) (qg_nm (pg_name (i := 3) scAreStrangers.nd rfl (by first | exact Or.inl rfl | exact Or.inr rfl)))
        (qs_cons (qs_set (i := 5) (q_lst (qa_cons (q_call c_PIsInteger rfl hg hr (qa_cons (q_var 3 (pv 3)) qa_nil rfl) rfl (by decide) rfl rfl) (qa_cons (q_call c_PIsLot rfl hg hr (qa_cons (q_var 3 (pv 3)) qa_nil rfl) rfl (by decide) rfl rfl) (qa_cons (q_call c_PIsPlace rfl hg hr (qa_cons (q_var 3 (pv 3)) qa_nil rfl) rfl (by decide) rfl rfl) (qa_cons (q_call c_PIsTicket rfl hg hr (qa_cons (q_var 3 (pv 3)) qa_nil rfl) rfl (by decide) rfl rfl) (qa_cons (q_call c_PIsCell rfl hg hr (qa_cons (q_var 3 (pv 3)) qa_nil rfl) rfl (by decide) rfl rfl) qa_nil rfl) rfl) rfl) rfl) rfl)) scAreStrangers.nd rfl (by first | exact Or.inl rfl | exact Or.inr rfl) rfl (by first | exact .inl rfl | exact .inr rfl))
      (qs_one (qs_if (qb_not (qb_tru rfl (q_call c_Alike rfl hg hr (qa_cons (q_var 5 (pv 5)) (qa_cons (q_op so_mul op_mulD (q_lst (qa_cons q_bl qa_nil rfl)) q_int) qa_nil rfl) rfl) rfl (by decide) rfl rfl) (fun _ => rfl)))
        (qs_one (qs_ret q_bl))
        qs_nil))) (fun _ => rfl))
      (qs_cons (qs_set (i := 4) (q_lst (qa_cons (q_tup (qa_cons (q_var 0 (pv 0)) (qa_cons q_str (qa_cons (q_tup (qa_cons (q_tup (qa_cons q_int (qa_cons q_int qa_nil rfl) rfl)) qa_nil rfl)) (qa_cons (q_tup qa_nil) qa_nil rfl) rfl) rfl) rfl)) (qa_cons (q_tup (qa_cons q_int (qa_cons (q_var 1 (pv 1)) (qa_cons (q_tup (qa_cons (q_tup (qa_cons q_int (qa_cons q_int qa_nil rfl) rfl)) qa_nil rfl)) (qa_cons (q_tup qa_nil) qa_nil rfl) rfl) rfl) rfl)) (qa_cons (q_tup (qa_cons q_int (qa_cons q_str (qa_cons (q_var 2 (pv 2)) (qa_cons (q_tup qa_nil) qa_nil rfl) rfl) rfl) rfl)) (qa_cons (q_tup (qa_cons q_int (qa_cons q_str (qa_cons (q_tup (qa_cons (q_tup (qa_cons q_int (qa_cons (q_var 0 (pv 0)) qa_nil rfl) rfl)) qa_nil rfl)) (qa_cons (q_tup qa_nil) qa_nil rfl) rfl) rfl) rfl)) qa_nil rfl) rfl) rfl) rfl)) scAreStrangers.nd rfl (by first | exact Or.inl rfl | exact Or.inr rfl) rfl (by first | exact .inl rfl | exact .inr rfl))
      (qs_cons (qs_for PassesOwn.never rfl (qi_data rfl (q_var 4 (pv 4))) (qg_nm (pg_name (i := 3) scAreStrangers.nd rfl (by first | exact Or.inl rfl | exact Or.inr rfl)))
        (qs_one (qs_if (qb_not (qb_tru rfl (q_call c_Alike rfl hg hr (qa_cons (q_call c_PIsCell rfl hg hr (qa_cons (q_var 3 (pv 3)) qa_nil rfl) rfl (by decide) rfl rfl) (qa_cons q_bl qa_nil rfl) rfl) rfl (by decide) rfl rfl) (fun _ => rfl)))
        (qs_one (qs_ret q_bl))
        qs_nil)) (fun _ => rfl))
      (qs_one (qs_ret q_bl)))))⟩) hF
theorem isAreStrangers {P : Program} {w : World} {K : PySem.W.Frag} {mg : Str → Option Value} {base : Heap} {k : Nat} {f : Addr} {fd : FuncData} (D : Df K mg "_law_are_strangers" ["_law_one", "_law_other", "_law_third"] sAreStrangers f fd) {F_Alike : FF} (c_Alike : Cal P w K mg base k "_law_alike" ["_law_found", "_law_due"] F_Alike) {F_PIsCell : FF} (c_PIsCell : Cal P w K mg base k "is_cell" ["thing"] F_PIsCell) {F_PIsTicket : FF} (c_PIsTicket : Cal P w K mg base k "is_ticket" ["thing"] F_PIsTicket) {F_PIsPlace : FF} (c_PIsPlace : Cal P w K mg base k "is_place" ["thing"] F_PIsPlace) {F_PIsLot : FF} (c_PIsLot : Cal P w K mg base k "is_lot" ["thing"] F_PIsLot) {F_PIsInteger : FF} (c_PIsInteger : Cal P w K mg base k "is_integer" ["thing"] F_PIsInteger) : Cal P w K mg base (k + 1) "_law_are_strangers" ["_law_one", "_law_other", "_law_third"] (fAreStrangers F_Alike F_PIsCell F_PIsTicket F_PIsPlace F_PIsLot F_PIsInteger) := calAreStrangers D c_Alike c_PIsCell c_PIsTicket c_PIsPlace c_PIsLot c_PIsInteger ends_of
-- not yet: law
end D01

set_option Elab.async false
set_option linter.all false
set_option maxRecDepth 100000
set_option maxHeartbeats 4000000
namespace D01
open PySem PySem.Spec PyProof.Rows L2 Pg Dl
def bagR (h s p : Int) (C : List PyData) : Cell := .lst [.d (.int h), .d (.int s), .d (.int p), .d (.list C)]
def bagC (h s p : Int) (cs : List Int) : Cell := bagR h s p (cs.map .int)
structure BagOk (h s p : Int) (cs : List Int) : Prop where
  h0 : 0 ≤ h
  s0 : 0 ≤ s
  s1 : s < 2147483647
  p0 : 0 ≤ p
  pos : ∀ n ∈ cs, 0 ≤ n
  few : cs.length ≤ 63
theorem at4_0 {α : Type} (a b c d : α) : atI [a, b, c, d] 0 = some a := rfl
theorem at4_1 {α : Type} (a b c d : α) : atI [a, b, c, d] 1 = some b := rfl
theorem at4_2 {α : Type} (a b c d : α) : atI [a, b, c, d] 2 = some c := rfl
theorem at4_3 {α : Type} (a b c d : α) : atI [a, b, c, d] 3 = some d := rfl
theorem ix4_0 : ixN 4 0 = some 0 := rfl
theorem ix4_1 : ixN 4 1 = some 1 := rfl
theorem ix4_2 : ixN 4 2 = some 2 := rfl
theorem sl0 : HT.sIx 0 0 none = 0 := rfl
/-- the first cell from p on, 0 behind them -/
def cellAt (cs : List Int) (p : Int) : Int := ((cs.drop (HT.sIx cs.length 0 (some p))) ++ [0]).headD 0
theorem gSl_map (cs : List Int) (lo : Option Int) : gSl lo none (.list (cs.map .int)) = some (.list ((cs.drop (HT.sIx cs.length 0 lo)).map .int)) := by
  show some (PyData.list (Dl.cutD (cs.map .int) lo none)) = _
  unfold Dl.cutD
  rw [List.length_map, ← List.map_drop, ← List.map_take]
  have : HT.sIx cs.length cs.length none = cs.length := rfl
  rw [this, List.take_of_length_le]
  rw [List.length_drop]
  exact Nat.le_refl _
theorem cell_ex {cs : List Int} (pos : ∀ n ∈ cs, 0 ≤ n) (k : Nat) : ∃ c : Int, 0 ≤ c ∧ atI ((cs.drop k).map PyData.int ++ [.int 0]) 0 = some (.int c) := by
  cases hd : cs.drop k with
  | nil => exact ⟨0, Int.le_refl 0, rfl⟩
  | cons c r => exact ⟨c, pos c (List.mem_of_mem_drop (by rw [hd]; exact List.mem_cons_self)), by rw [List.map_cons, List.cons_append]; exact atI_zero _ _⟩
theorem take1 {h s p : Int} {cs : List Int} {many : Vd} {rest : Sto} (ok : BagOk h s p cs) :
    ∃ h' s' p' u v, gTake_1 [some (.r 0), some many, none, none, none, none, none] (bagC h s p cs :: rest) = some (.nx [some (.r 0), some many, none, none, u, v, none] (bagC h' s' p' cs :: rest)) ∧ BagOk h' s' p' cs := by
  obtain ⟨h0, s0, s1, p0, pos, few⟩ := ok
  unfold bagC
  by_cases hh : h = 0
  · subst hh
    obtain ⟨L, c, c0, hl, hs, hc⟩ : ∃ (L : List PyData) (c : Int), 0 ≤ c ∧ gSl (some p) none (.list (cs.map .int)) = some (.list L) ∧ gAdd (.list L) (.list [.int 0]) = some (.list (L ++ [.int 0])) ∧ atI (L ++ [.int 0]) 0 = some (.int c) := by
      obtain ⟨c, c0, hc⟩ := cell_ex pos (HT.sIx cs.length 0 (some p))
      exact ⟨_, c, c0, gSl_map cs _, gAdd_fit (by simp; omega), hc⟩
    have mk : ∀ h' s' p', 0 ≤ h' → 0 ≤ s' → s' < 2147483647 → 0 ≤ p' → BagOk h' s' p' cs := fun _ _ _ a b c d => ⟨a, b, c, d, pos, few⟩
    generalize cs.map PyData.int = C at hl ⊢
    have k1 : gMulD (.int s) (.int 48271) = some (.int (s * 48271)) := gMul_r (by decide)
    have k2 : gMulD (.int 7919) (.int (p + 1)) = some (.int (7919 * (p + 1))) := gMul_l (by decide)
    have k3 : ∀ i : Int, gMod (.int i) (.int 2147483647) = some (.int (i % 2147483647)) := fun i => gMod_int (by decide)
    have k4 : gPow (.int 10) (.int 18) = some (.int (10 ^ 18)) := gPow_int (by decide) (by decide) (by decide)
    have one : 1 ≤ sizeLine := by decide
    by_cases hb : c < 1000000000000000000
    · refine ⟨0, (s * 48271 + c % 2147483647 + 7919 * (p + 1)) % 2147483647, p + 1, some (.d (.int c)), some (.d (.int (s * 48271 + c % 2147483647 + 7919 * (p + 1)))), ?_, mk _ _ _ h0 (Int.emod_nonneg _ (by decide)) (Int.emod_lt_of_pos _ (by decide)) (by omega)⟩
      simp [gTake_1, sSeq, sIf, sRet, sAsg, sDrop, sNext, sAugI, sAug, sFor, forD, sPar, sAsgT, eVar, eC, eOp, eFz, bVal, bTru, truD, bAnd, bOr, bNot, eIf, eAnd, eOr, eNot, aNil, aCons, eTup, eLst, eLstN, eIxC, eSl, oNo, oSome, eCB, looks, lookR, datas, eIs, eCall, eNeg, tNm, tTp, tsNil, tsCons, tPut, iData, iRange1, iRange2, iEnumL, iZipF, eComp, eCompN, bYes, startD, gEq_int, gIx, bagR, at4_0, at4_1, at4_2, at4_3, ix4_0, ix4_1, ix4_2, hl, gCm_int, lt_int_, hs, hc, k1, k2, k3, k4, gAdd_int, one, hb, gInt]
    · refine ⟨c, (s * 48271 + c % 2147483647 + 7919 * (p + 1)) % 2147483647, p + 1, some (.d (.int c)), some (.d (.int (s * 48271 + c % 2147483647 + 7919 * (p + 1)))), ?_, mk _ _ _ c0 (Int.emod_nonneg _ (by decide)) (Int.emod_lt_of_pos _ (by decide)) (by omega)⟩
      simp [gTake_1, sSeq, sIf, sRet, sAsg, sDrop, sNext, sAugI, sAug, sFor, forD, sPar, sAsgT, eVar, eC, eOp, eFz, bVal, bTru, truD, bAnd, bOr, bNot, eIf, eAnd, eOr, eNot, aNil, aCons, eTup, eLst, eLstN, eIxC, eSl, oNo, oSome, eCB, looks, lookR, datas, eIs, eCall, eNeg, tNm, tTp, tsNil, tsCons, tPut, iData, iRange1, iRange2, iEnumL, iZipF, eComp, eCompN, bYes, startD, gEq_int, gIx, bagR, at4_0, at4_1, at4_2, at4_3, ix4_0, ix4_1, ix4_2, hl, gCm_int, lt_int_, hs, hc, k1, k2, k3, k4, gAdd_int, one, hb, gInt]
  · refine ⟨h, s, p, none, none, ?_, ⟨h0, s0, s1, p0, pos, few⟩⟩
    simp [gTake_1, sSeq, sIf, sRet, sAsg, sDrop, sNext, sAugI, sAug, sFor, forD, sPar, sAsgT, eVar, eC, eOp, eFz, bVal, bTru, truD, bAnd, bOr, bNot, eIf, eAnd, eOr, eNot, aNil, aCons, eTup, eLst, eLstN, eIxC, eSl, oNo, oSome, eCB, looks, lookR, datas, eIs, eCall, eNeg, tNm, tTp, tsNil, tsCons, tPut, iData, iRange1, iRange2, iEnumL, iZipF, eComp, eCompN, bYes, startD, gEq_int, bagR, at4_0, hh]
theorem take_ev {h s p : Int} {cs : List Int} {many : Int} {rest : Sto} (ok : BagOk h s p cs) (m0 : 0 < many) (m1 : many < 2 ^ 60) :
    ∃ z h' s' p', fTake [.r 0, .d (.int many)] (bagC h s p cs :: rest) = some (.d (.int z), bagC h' s' p' cs :: rest) ∧ BagOk h' s' p' cs ∧ 0 ≤ z ∧ z < many := by
  obtain ⟨h1, s1, p1, u, v, e1, ok1⟩ := take1 (many := .d (.int many)) (rest := rest) ok
  have dm : gDiv (.int h1) (.int many) = some (.int (h1 / many)) := gDiv_int m0 (Nat.lt_of_lt_of_le (log2_le (k := 60) (by omega) (by decide)) (by decide))
  have mm : ∀ i : Int, gMod (.int i) (.int many) = some (.int (i % many)) := fun i => gMod_int m0
  have start : startD nTake [.r 0, .d (.int many)] = [some (.r 0), some (.d (.int many)), none, none, none, none, none] := rfl
  obtain ⟨h0, s0, s2, p0, pos, few⟩ := ok1
  have fin : ∀ z c', gTake (startD nTake [.r 0, .d (.int many)]) (bagC h s p cs :: rest) = some (.rt (.d (.int z)) (c' :: rest)) → fTake [.r 0, .d (.int many)] (bagC h s p cs :: rest) = some (.d (.int z), c' :: rest) := fun z c' e => fnOf_eq e (by simp)
  have mk : ∀ h' s' p', 0 ≤ h' → 0 ≤ s' → s' < 2147483647 → 0 ≤ p' → BagOk h' s' p' cs := fun _ _ _ a b c d => ⟨a, b, c, d, pos, few⟩
  by_cases hp : 0 < h1
  · refine ⟨h1 % many, h1 / many, s1, p1, fin _ _ ?_, mk _ _ _ (Int.ediv_nonneg h0 (by omega)) s0 s2 p0, Int.emod_nonneg _ (by omega), Int.emod_lt_of_pos _ m0⟩
    rw [start]
    unfold gTake
    rw [ev_seq e1]
    unfold bagC
    generalize cs.map PyData.int = C
    simp [gTake_2, sSeq, sIf, sRet, sAsg, sDrop, sNext, sAugI, sAug, sFor, forD, sPar, sAsgT, eVar, eC, eOp, eFz, bVal, bTru, truD, bAnd, bOr, bNot, eIf, eAnd, eOr, eNot, aNil, aCons, eTup, eLst, eLstN, eIxC, eSl, oNo, oSome, eCB, looks, lookR, datas, eIs, eCall, eNeg, tNm, tTp, tsNil, tsCons, tPut, iData, iRange1, iRange2, iEnumL, iZipF, eComp, eCompN, bYes, startD, gIx, bagR, at4_0, ix4_0, gCm_int, lt_int_, hp, gInt, mm, dm]
  · have k1 : ∀ i : Int, gMulD (.int i) (.int 39373) = some (.int (i * 39373)) := fun i => gMul_r (by decide)
    have k2 : ∀ i : Int, gMulD (.int i) (.int 30011) = some (.int (i * 30011)) := fun i => gMul_r (by decide)
    have k3 : ∀ i : Int, gMod (.int i) (.int 1000000007) = some (.int (i % 1000000007)) := fun i => gMod_int (by decide)
    have k4 : ∀ i : Int, gMod (.int i) (.int 998244353) = some (.int (i % 998244353)) := fun i => gMod_int (by decide)
    have k5 : ∀ i : Int, gDiv (.int i) (.int 7) = some (.int (i / 7)) := fun i => gDiv_int (by decide) (by decide)
    have k6 : gMulD (.int ((s1 + 1) * 39373 % 1000000007)) (.int ((s1 + 1) * 39373 % 1000000007)) = some (.int ((s1 + 1) * 39373 % 1000000007 * ((s1 + 1) * 39373 % 1000000007))) := by
      have a := Int.emod_nonneg ((s1 + 1) * 39373) (b := 1000000007) (by decide)
      have b := Int.emod_lt_of_pos ((s1 + 1) * 39373) (b := 1000000007) (by decide)
      exact gMul_l (by omega)
    refine ⟨_, h1, s1, p1, fin ((s1 + 1) * 39373 % 1000000007 * ((s1 + 1) * 39373 % 1000000007) % 998244353 * 30011 % 998244353 / 7 % many) _ ?_, mk _ _ _ h0 s0 s2 p0, Int.emod_nonneg _ (by omega), Int.emod_lt_of_pos _ m0⟩
    rw [start]
    unfold gTake
    rw [ev_seq e1]
    unfold bagC
    generalize cs.map PyData.int = C
    simp [gTake_2, gTake_3, gTake_4, gTake_5, sSeq, sIf, sRet, sAsg, sDrop, sNext, sAugI, sAug, sFor, forD, sPar, sAsgT, eVar, eC, eOp, eFz, bVal, bTru, truD, bAnd, bOr, bNot, eIf, eAnd, eOr, eNot, aNil, aCons, eTup, eLst, eLstN, eIxC, eSl, oNo, oSome, eCB, looks, lookR, datas, eIs, eCall, eNeg, tNm, tTp, tsNil, tsCons, tPut, iData, iRange1, iRange2, iEnumL, iZipF, eComp, eCompN, bYes, startD, gIx, bagR, at4_0, at4_1, ix4_0, gCm_int, lt_int_, hp, gInt, mm, k1, k2, k3, k4, k5, k6, gAdd_int]
end D01

set_option Elab.async false
set_option linter.all false
set_option maxRecDepth 100000
set_option maxHeartbeats 4000000
namespace D01
open PySem PySem.Spec PyProof.Rows L2 Pg Dl
def BagS (rest st : Sto) : Prop := ∃ h s p cs, st = bagC h s p cs :: rest ∧ BagOk h s p cs
theorem BagS.len {rest st : Sto} (h : BagS rest st) : st.length = rest.length + 1 := by
  obtain ⟨_, _, _, _, rfl, _⟩ := h
  rfl
variable {rest st : Sto}
theorem take_sp {many : Int} (m0 : 0 < many) (m1 : many < 2 ^ 60) (h : BagS rest st) : R2 (fTake [.r 0, .d (.int many)] st) fun v s => (∃ z, v = .d (.int z) ∧ 0 ≤ z ∧ z < many) ∧ BagS rest s := by
  obtain ⟨h, s, p, cs, rfl, ok⟩ := h
  obtain ⟨z, h', s', p', e, ok', z0, z1⟩ := take_ev (rest := rest) ok m0 m1
  exact ⟨_, _, e, ⟨z, rfl, z0, z1⟩, _, _, _, _, rfl, ok'⟩
theorem gLen_list (xs : List PyData) : gLen [.list xs] = some (.int xs.length) := rfl
theorem gLen_tuple (xs : List PyData) : gLen [.tuple xs] = some (.int xs.length) := rfl
theorem gIx_list (xs : List PyData) (i : Int) : gIx (.list xs) (.int i) = atI xs i := rfl
theorem gIx_tuple (xs : List PyData) (i : Int) : gIx (.tuple xs) (.int i) = atI xs i := rfl
theorem at_in {α : Type} {xs : List α} {z : Int} (h0 : 0 ≤ z) (h1 : z < xs.length) : ∃ x ∈ xs, atI xs z = some x := by
  obtain ⟨n, rfl⟩ := Int.eq_ofNat_of_zero_le h0
  rw [atI_nat_]
  have : n < xs.length := by omega
  exact ⟨xs[n], List.getElem_mem this, List.getElem?_eq_getElem this⟩
theorem some_sp {xs : List PyData} (m0 : 0 < xs.length) (m1 : xs.length < 2 ^ 60) (h : BagS rest st) : R2 (fSome fTake [.r 0, .d (.list xs)] st) fun v s => (∃ x ∈ xs, v = .d x) ∧ BagS rest s := by
  refine rf_of ?_
  unfold gSome
  try simp only [r1_some, r2_some, r1_none, r_var, r_c, r_op, r_fz, r_bval, r_btru, r_band, r_bor, r_bnot, r_if, r_and, r_or, r_not, r_nil, r_cons, r_tup, r_lst, r_lstN, r_cb, r_is, r_call, r_neg, r_chain, r_ixC, ro_no, ro_some, r_sl, rt_nm, rs_next, rs_ret, rs_seq, rs_if, rs_asg, rs_asgT, rs_par, rt_nil, rt_cons, rt_tp, ri_data, ri_range1, ri_range2, ri_enum, r_comp, startD, look_d, looks_nil, looks_d, datas_nil, datas_d, tru_b, tru_i, List.length_cons, List.length_nil, List.getElem?_cons_zero, List.getElem?_cons_succ, List.set_cons_zero, List.set_cons_succ, Option.map_some, List.map_cons, List.map_nil, Nat.reduceAdd, Nat.reduceSub, Nat.reduceEqDiff, List.reduceReplicate, List.cons_append, List.nil_append, List.append_nil, true_and, and_true, gLen_list]
  refine (take_sp (by omega) (by omega) h).mono fun v s hv => ?_
  obtain ⟨⟨z, rfl, z0, z1⟩, hs⟩ := hv
  try simp only [r1_some, r2_some, r1_none, r_var, r_c, r_op, r_fz, r_bval, r_btru, r_band, r_bor, r_bnot, r_if, r_and, r_or, r_not, r_nil, r_cons, r_tup, r_lst, r_lstN, r_cb, r_is, r_call, r_neg, r_chain, r_ixC, ro_no, ro_some, r_sl, rt_nm, rs_next, rs_ret, rs_seq, rs_if, rs_asg, rs_asgT, rs_par, rt_nil, rt_cons, rt_tp, ri_data, ri_range1, ri_range2, ri_enum, r_comp, startD, look_d, looks_nil, looks_d, datas_nil, datas_d, tru_b, tru_i, List.length_cons, List.length_nil, List.getElem?_cons_zero, List.getElem?_cons_succ, List.set_cons_zero, List.set_cons_succ, Option.map_some, List.map_cons, List.map_nil, Nat.reduceAdd, Nat.reduceSub, Nat.reduceEqDiff, List.reduceReplicate, List.cons_append, List.nil_append, List.append_nil, true_and, and_true, gLen_list]
  obtain ⟨x, hx, e⟩ := at_in z0 z1
  try simp only [r1_some, r2_some, r1_none, r_var, r_c, r_op, r_fz, r_bval, r_btru, r_band, r_bor, r_bnot, r_if, r_and, r_or, r_not, r_nil, r_cons, r_tup, r_lst, r_lstN, r_cb, r_is, r_call, r_neg, r_chain, r_ixC, ro_no, ro_some, r_sl, rt_nm, rs_next, rs_ret, rs_seq, rs_if, rs_asg, rs_asgT, rs_par, rt_nil, rt_cons, rt_tp, ri_data, ri_range1, ri_range2, ri_enum, r_comp, startD, look_d, looks_nil, looks_d, datas_nil, datas_d, tru_b, tru_i, List.length_cons, List.length_nil, List.getElem?_cons_zero, List.getElem?_cons_succ, List.set_cons_zero, List.set_cons_succ, Option.map_some, List.map_cons, List.map_nil, Nat.reduceAdd, Nat.reduceSub, Nat.reduceEqDiff, List.reduceReplicate, List.cons_append, List.nil_append, List.append_nil, true_and, and_true, gIx_list, e, gLen_list]
  exact ⟨by rw [h.len, hs.len]; omega, ⟨x, hx, rfl⟩, hs⟩
theorem alike_sp {d : PyData} {t : Str} (hr : gRepr [d] = some (.str t)) (hd : d.depth ≤ 60) : R2 (fAlike [.d d, .d d] st) fun v s => v = .d (.bool true) ∧ s = st := by
  refine rf_of ?_
  unfold gAlike
  try simp only [r1_some, r2_some, r1_none, r_var, r_c, r_op, r_fz, r_bval, r_btru, r_band, r_bor, r_bnot, r_if, r_and, r_or, r_not, r_nil, r_cons, r_tup, r_lst, r_lstN, r_cb, r_is, r_call, r_neg, r_chain, r_ixC, ro_no, ro_some, r_sl, rt_nm, rs_next, rs_ret, rs_seq, rs_if, rs_asg, rs_asgT, rs_par, rt_nil, rt_cons, rt_tp, ri_data, ri_range1, ri_range2, ri_enum, r_comp, startD, look_d, looks_nil, looks_d, datas_nil, datas_d, tru_b, tru_i, List.length_cons, List.length_nil, List.getElem?_cons_zero, List.getElem?_cons_succ, List.set_cons_zero, List.set_cons_succ, Option.map_some, List.map_cons, List.map_nil, Nat.reduceAdd, Nat.reduceSub, Nat.reduceEqDiff, List.reduceReplicate, List.cons_append, List.nil_append, List.append_nil, true_and, and_true, hr, gEq_self hd, gEq_self (d := .str t) (by simp [PyData.depth])]
  exact Nat.le_refl _
theorem pages_sp {many : Int} (m0 : 0 ≤ many) (m1 : many < 1000) (h : BagS rest st) : R2 (fPages (fSome fTake) [.r 0, .d (.int many)] st) fun v s => (∃ a b : Int, 0 ≤ a ∧ a ≤ 40 ∧ 1 ≤ b ∧ b ≤ 7 ∧ v = .d (.list ((List.range many.toNat).map fun i : Nat => .int (a + b * i)))) ∧ BagS rest s := by
  refine rf_of ?_
  unfold gPages gPages_1 gPages_2
  have one : (5 : Nat) ≤ sizeLine := by decide
  try simp only [r1_some, r2_some, r1_none, r_var, r_c, r_op, r_fz, r_bval, r_btru, r_band, r_bor, r_bnot, r_if, r_and, r_or, r_not, r_nil, r_cons, r_tup, r_lst, r_lstN, r_cb, r_is, r_call, r_neg, r_chain, r_ixC, ro_no, ro_some, r_sl, rt_nm, rs_next, rs_ret, rs_seq, rs_if, rs_asg, rs_asgT, rs_par, rt_nil, rt_cons, rt_tp, ri_data, ri_range1, ri_range2, ri_enum, r_comp, startD, look_d, looks_nil, looks_d, datas_nil, datas_d, tru_b, tru_i, List.length_cons, List.length_nil, List.getElem?_cons_zero, List.getElem?_cons_succ, List.set_cons_zero, List.set_cons_succ, Option.map_some, List.map_cons, List.map_nil, Nat.reduceAdd, Nat.reduceSub, Nat.reduceEqDiff, List.reduceReplicate, List.cons_append, List.nil_append, List.append_nil, true_and, and_true, one]
  refine (some_sp (by decide) (by decide) h).mono fun v s hv => ?_
  obtain ⟨⟨x, hx, rfl⟩, hs⟩ := hv
  try simp only [r1_some, r2_some, r1_none, r_var, r_c, r_op, r_fz, r_bval, r_btru, r_band, r_bor, r_bnot, r_if, r_and, r_or, r_not, r_nil, r_cons, r_tup, r_lst, r_lstN, r_cb, r_is, r_call, r_neg, r_chain, r_ixC, ro_no, ro_some, r_sl, rt_nm, rs_next, rs_ret, rs_seq, rs_if, rs_asg, rs_asgT, rs_par, rt_nil, rt_cons, rt_tp, ri_data, ri_range1, ri_range2, ri_enum, r_comp, startD, look_d, looks_nil, looks_d, datas_nil, datas_d, tru_b, tru_i, List.length_cons, List.length_nil, List.getElem?_cons_zero, List.getElem?_cons_succ, List.set_cons_zero, List.set_cons_succ, Option.map_some, List.map_cons, List.map_nil, Nat.reduceAdd, Nat.reduceSub, Nat.reduceEqDiff, List.reduceReplicate, List.cons_append, List.nil_append, List.append_nil, true_and, and_true, one]
  refine (some_sp (by decide) (by decide) hs).mono fun v s hv => ?_
  obtain ⟨⟨y, hy, rfl⟩, hs⟩ := hv
  try simp only [r1_some, r2_some, r1_none, r_var, r_c, r_op, r_fz, r_bval, r_btru, r_band, r_bor, r_bnot, r_if, r_and, r_or, r_not, r_nil, r_cons, r_tup, r_lst, r_lstN, r_cb, r_is, r_call, r_neg, r_chain, r_ixC, ro_no, ro_some, r_sl, rt_nm, rs_next, rs_ret, rs_seq, rs_if, rs_asg, rs_asgT, rs_par, rt_nil, rt_cons, rt_tp, ri_data, ri_range1, ri_range2, ri_enum, r_comp, startD, look_d, looks_nil, looks_d, datas_nil, datas_d, tru_b, tru_i, List.length_cons, List.length_nil, List.getElem?_cons_zero, List.getElem?_cons_succ, List.set_cons_zero, List.set_cons_succ, Option.map_some, List.map_cons, List.map_nil, Nat.reduceAdd, Nat.reduceSub, Nat.reduceEqDiff, List.reduceReplicate, List.cons_append, List.nil_append, List.append_nil, true_and, and_true, one]
  obtain ⟨a, rfl, a0, a1⟩ : ∃ a : Int, x = .int a ∧ 0 ≤ a ∧ a ≤ 40 := by
    simp only [List.mem_cons, List.not_mem_nil, or_false] at hx
    rcases hx with rfl | rfl | rfl | rfl | rfl <;> exact ⟨_, rfl, by decide, by decide⟩
  obtain ⟨b, rfl, b0, b1⟩ : ∃ b : Int, y = .int b ∧ 1 ≤ b ∧ b ≤ 7 := by
    simp only [List.mem_cons, List.not_mem_nil, or_false] at hy
    rcases hy with rfl | rfl | rfl | rfl | rfl <;> exact ⟨_, rfl, by decide, by decide⟩
  refine ⟨by decide, by omega, by omega, ?_⟩
  have e := comp_told (st := s) (t := tNm 4) (a := eOp gAdd (eVar 2) (eOp gMulD (eVar 3) (eVar 4))) (ρ := wipeD [some (.r 0), some (.d (.int many)), some (.d (.int a)), some (.d (.int b)), none] [4])
    (h := fun v => match v with
      | .d (.int k) => .int (a + b * k)
      | _ => .none) (items := (List.range many.toNat).map fun i : Nat => Dl.vInt i 0) fun v hv => by
    obtain ⟨i, _, rfl⟩ := List.mem_map.mp hv
    simp only [wipeD, Dl.vInt, Int.zero_add, r1_some, r2_some, r1_none, r_var, r_c, r_op, r_fz, r_bval, r_btru, r_band, r_bor, r_bnot, r_if, r_and, r_or, r_not, r_nil, r_cons, r_tup, r_lst, r_lstN, r_cb, r_is, r_call, r_neg, r_chain, r_ixC, ro_no, ro_some, r_sl, rt_nm, rs_next, rs_ret, rs_seq, rs_if, rs_asg, rs_asgT, rs_par, rt_nil, rt_cons, rt_tp, ri_data, ri_range1, ri_range2, ri_enum, r_comp, startD, look_d, looks_nil, looks_d, datas_nil, datas_d, tru_b, tru_i, List.length_cons, List.length_nil, List.getElem?_cons_zero, List.getElem?_cons_succ, List.set_cons_zero, List.set_cons_succ, Option.map_some, List.map_cons, List.map_nil, Nat.reduceAdd, Nat.reduceSub, Nat.reduceEqDiff, List.reduceReplicate, List.cons_append, List.nil_append, List.append_nil, true_and, and_true, gMul_l (i := b) (by omega), gAdd_int, one]
  rw [e, r2_some, datas_map, r1_some]
  try simp only [r1_some, r2_some, r1_none, r_var, r_c, r_op, r_fz, r_bval, r_btru, r_band, r_bor, r_bnot, r_if, r_and, r_or, r_not, r_nil, r_cons, r_tup, r_lst, r_lstN, r_cb, r_is, r_call, r_neg, r_chain, r_ixC, ro_no, ro_some, r_sl, rt_nm, rs_next, rs_ret, rs_seq, rs_if, rs_asg, rs_asgT, rs_par, rt_nil, rt_cons, rt_tp, ri_data, ri_range1, ri_range2, ri_enum, r_comp, startD, look_d, looks_nil, looks_d, datas_nil, datas_d, tru_b, tru_i, List.length_cons, List.length_nil, List.getElem?_cons_zero, List.getElem?_cons_succ, List.set_cons_zero, List.set_cons_succ, Option.map_some, List.map_cons, List.map_nil, Nat.reduceAdd, Nat.reduceSub, Nat.reduceEqDiff, List.reduceReplicate, List.cons_append, List.nil_append, List.append_nil, true_and, and_true, one]
  refine ⟨by simp; omega, by rw [h.len, hs.len]; omega, ⟨a, b, a0, a1, b0, b1, ?_⟩, hs⟩
  rw [List.map_map]
  simp [Dl.vInt, Function.comp_def]
end D01

set_option Elab.async false
set_option linter.all false
set_option maxRecDepth 100000
set_option maxHeartbeats 4000000
namespace D01
open PySem PySem.Spec PyProof.Rows L2 Pg Dl
variable {rest st s : Sto}
noncomputable def fVal : Nat → FF
  | 0 => fun _ _ => none
  | n + 1 => fValue fTake (fSome fTake) (fVal n)
def vw (n : Nat) : Nat := 310 * 4 ^ n
theorem vw_ge (n : Nat) : 310 ≤ vw n := by
  have : 1 ≤ 4 ^ n := Nat.pow_pos (by decide)
  unfold vw
  omega
theorem leaf_ok {n : Nat} {d : PyData} (h : (gd 0 d && d.depth == 0 && decide (d.weight ≤ 310)) = true) : Nic 0 (n + 1) (vw n) d := by
  simp only [Bool.and_eq_true, beq_iff_eq, decide_eq_true_eq] at h
  exact Nic.leaf h.1.1 h.1.2 (Nat.le_trans h.2 (vw_ge n))
def VQ (st rest : Sto) (n : Nat) (o : Out) : Prop := match o with
  | .rt v s => st.length ≤ s.length ∧ (∃ d, v = .d d ∧ Nic 0 (n + 1) (vw n) d) ∧ BagS rest s
  | _ => False
theorem p39 : gPow (.int 10) (.int 39) = some (.int 1000000000000000000000000000000000000000) := gPow_int (by decide) (by decide) (by decide)
theorem p9 : gPow (.int 10) (.int 9) = some (.int 1000000000) := gPow_int (by decide) (by decide) (by decide)
theorem a300 : gMulD (.str "a") (.int 300) = some (.str (repStr "a" 300)) := gMul_str (by decide)
theorem empty_ok {n : Nat} {d : PyData} (h : (gd 0 d && decide (d.depth ≤ 1) && decide (d.weight ≤ 310)) = true) : Nic 0 (n + 1) (vw n) d := by
  simp only [Bool.and_eq_true, decide_eq_true_eq] at h
  exact ⟨h.1.1, by omega, Nat.le_trans h.2 (vw_ge n)⟩
theorem nic_a300 {n : Nat} : Nic 0 (n + 1) (vw n) (.str (repStr "a" 300)) := leaf_ok (by decide +kernel)
theorem small {k n W : Nat} {z : Int} (h0 : 0 ≤ z) (h1 : z < 1000000000) (hW : 30 ≤ W) : Nic k n W (.int z) := by
  refine ⟨?_, by simp [PyData.depth], ?_⟩
  · simp only [gd, decide_eq_true_eq]
    have : (10 : Nat) ^ 39 = 1000000000000000000000000000000000000000 := by decide
    omega
  · simp only [PyData.weight]
    have : z.natAbs.log2 < 30 := log2_le (by have : (2 : Nat) ^ 30 = 1073741824 := by decide
                                             omega) (by decide)
    split <;> omega
/-- behind the drawing of the way -/
noncomputable def valTail (F : FF) : SF := (sSeq (gValue_2 fTake (fSome fTake) F) (sSeq (gValue_3 fTake (fSome fTake) F) (sSeq (gValue_4 fTake (fSome fTake) F) (sSeq (gValue_5 fTake (fSome fTake) F) (sSeq (gValue_6 fTake (fSome fTake) F) (sSeq (gValue_7 fTake (fSome fTake) F) (gValue_8 fTake (fSome fTake) F)))))))
/-- the values without parts -/
theorem val_low {n : Nat} {way : Int} {F : FF} (hb : BagS rest st) (h : BagS rest s) (w0 : 0 ≤ way) (w1 : way < 9) :
    R1 (valTail F [some (.r 0), some (.d (.int n)), some (.d (.int way)), none, none, none] s) (VQ st rest n) := by
  have i9 : (9 : Nat) ≤ sizeLine := by decide
  have i3 : (3 : Nat) ≤ sizeLine := by decide
  have i0 : (0 : Nat) ≤ sizeLine := by decide
  unfold valTail
  by_cases h4 : way < 4
  · unfold gValue_2
    try simp only [r1_some, r2_some, r1_none, r_var, r_c, r_op, r_fz, r_bval, r_btru, r_band, r_bor, r_bnot, r_if, r_and, r_or, r_not, r_nil, r_cons, r_tup, r_lst, r_lstN, r_cb, r_is, r_call, r_neg, r_chain, r_ixC, ro_no, ro_some, r_sl, rt_nm, rs_next, rs_ret, rs_seq, rs_if, rs_asg, rs_asgT, rs_par, rt_nil, rt_cons, rt_tp, ri_data, ri_range1, ri_range2, ri_enum, r_comp, startD, look_d, looks_nil, looks_d, datas_nil, datas_d, tru_b, tru_i, List.length_cons, List.length_nil, List.getElem?_cons_zero, List.getElem?_cons_succ, List.set_cons_zero, List.set_cons_succ, Option.map_some, List.map_cons, List.map_nil, Nat.reduceAdd, Nat.reduceSub, Nat.reduceEqDiff, List.reduceReplicate, List.cons_append, List.nil_append, List.append_nil, true_and, and_true, gCm_int, lt_int_, h4, decide_true, p39, p9, gSub_int, i9]
    refine (take_sp (by decide) (by decide) h).mono fun v s hv => ?_
    obtain ⟨⟨z, rfl, z0, z1⟩, hs⟩ := hv
    try simp only [r1_some, r2_some, r1_none, r_var, r_c, r_op, r_fz, r_bval, r_btru, r_band, r_bor, r_bnot, r_if, r_and, r_or, r_not, r_nil, r_cons, r_tup, r_lst, r_lstN, r_cb, r_is, r_call, r_neg, r_chain, r_ixC, ro_no, ro_some, r_sl, rt_nm, rs_next, rs_ret, rs_seq, rs_if, rs_asg, rs_asgT, rs_par, rt_nil, rt_cons, rt_tp, ri_data, ri_range1, ri_range2, ri_enum, r_comp, startD, look_d, looks_nil, looks_d, datas_nil, datas_d, tru_b, tru_i, List.length_cons, List.length_nil, List.getElem?_cons_zero, List.getElem?_cons_succ, List.set_cons_zero, List.set_cons_succ, Option.map_some, List.map_cons, List.map_nil, Nat.reduceAdd, Nat.reduceSub, Nat.reduceEqDiff, List.reduceReplicate, List.cons_append, List.nil_append, List.append_nil, true_and, and_true, i9, gCm_int, lt_int_, h4, decide_true, p39, p9, gSub_int]
    refine (some_sp (by simp) (by simp) hs).mono fun v s hv => ?_
    obtain ⟨⟨x, hx, rfl⟩, hs⟩ := hv
    try simp only [r1_some, r2_some, r1_none, r_var, r_c, r_op, r_fz, r_bval, r_btru, r_band, r_bor, r_bnot, r_if, r_and, r_or, r_not, r_nil, r_cons, r_tup, r_lst, r_lstN, r_cb, r_is, r_call, r_neg, r_chain, r_ixC, ro_no, ro_some, r_sl, rt_nm, rs_next, rs_ret, rs_seq, rs_if, rs_asg, rs_asgT, rs_par, rt_nil, rt_cons, rt_tp, ri_data, ri_range1, ri_range2, ri_enum, r_comp, startD, look_d, looks_nil, looks_d, datas_nil, datas_d, tru_b, tru_i, List.length_cons, List.length_nil, List.getElem?_cons_zero, List.getElem?_cons_succ, List.set_cons_zero, List.set_cons_succ, Option.map_some, List.map_cons, List.map_nil, Nat.reduceAdd, Nat.reduceSub, Nat.reduceEqDiff, List.reduceReplicate, List.cons_append, List.nil_append, List.append_nil, true_and, and_true, gCm_int, lt_int_, h4, decide_true, p39, p9, gSub_int, i9]
    refine ⟨by rw [hb.len, hs.len]; omega, ⟨x, rfl, ?_⟩, hs⟩
    simp only [List.mem_cons, List.not_mem_nil, or_false] at hx
    rcases hx with rfl | rfl | rfl | rfl | rfl | rfl | rfl | rfl | rfl
    case inr.inr.inr.inr.inr.inr.inr.inl => exact small z0 z1 (Nat.le_trans (by decide) (vw_ge n))
    all_goals exact leaf_ok (by decide +kernel)
  · by_cases h8 : way < 8
    · unfold gValue_2 gValue_3
      try simp only [r1_some, r2_some, r1_none, r_var, r_c, r_op, r_fz, r_bval, r_btru, r_band, r_bor, r_bnot, r_if, r_and, r_or, r_not, r_nil, r_cons, r_tup, r_lst, r_lstN, r_cb, r_is, r_call, r_neg, r_chain, r_ixC, ro_no, ro_some, r_sl, rt_nm, rs_next, rs_ret, rs_seq, rs_if, rs_asg, rs_asgT, rs_par, rt_nil, rt_cons, rt_tp, ri_data, ri_range1, ri_range2, ri_enum, r_comp, startD, look_d, looks_nil, looks_d, datas_nil, datas_d, tru_b, tru_i, List.length_cons, List.length_nil, List.getElem?_cons_zero, List.getElem?_cons_succ, List.set_cons_zero, List.set_cons_succ, Option.map_some, List.map_cons, List.map_nil, Nat.reduceAdd, Nat.reduceSub, Nat.reduceEqDiff, List.reduceReplicate, List.cons_append, List.nil_append, List.append_nil, true_and, and_true, gCm_int, lt_int_, h4, h8, decide_true, decide_false, a300, i9]
      refine (some_sp (by simp) (by simp) h).mono fun v s hv => ?_
      obtain ⟨⟨x, hx, rfl⟩, hs⟩ := hv
      try simp only [r1_some, r2_some, r1_none, r_var, r_c, r_op, r_fz, r_bval, r_btru, r_band, r_bor, r_bnot, r_if, r_and, r_or, r_not, r_nil, r_cons, r_tup, r_lst, r_lstN, r_cb, r_is, r_call, r_neg, r_chain, r_ixC, ro_no, ro_some, r_sl, rt_nm, rs_next, rs_ret, rs_seq, rs_if, rs_asg, rs_asgT, rs_par, rt_nil, rt_cons, rt_tp, ri_data, ri_range1, ri_range2, ri_enum, r_comp, startD, look_d, looks_nil, looks_d, datas_nil, datas_d, tru_b, tru_i, List.length_cons, List.length_nil, List.getElem?_cons_zero, List.getElem?_cons_succ, List.set_cons_zero, List.set_cons_succ, Option.map_some, List.map_cons, List.map_nil, Nat.reduceAdd, Nat.reduceSub, Nat.reduceEqDiff, List.reduceReplicate, List.cons_append, List.nil_append, List.append_nil, true_and, and_true, gCm_int, lt_int_, h4, h8, decide_true, decide_false, a300, i9]
      refine ⟨by rw [hb.len, hs.len]; omega, ⟨x, rfl, ?_⟩, hs⟩
      simp only [List.mem_cons, List.not_mem_nil, or_false] at hx
      rcases hx with rfl | rfl | rfl | rfl | rfl | rfl | rfl | rfl | rfl
      all_goals exact leaf_ok (by decide +kernel)
    · obtain rfl : way = 8 := by omega
      unfold gValue_2 gValue_3 gValue_4
      try simp only [r1_some, r2_some, r1_none, r_var, r_c, r_op, r_fz, r_bval, r_btru, r_band, r_bor, r_bnot, r_if, r_and, r_or, r_not, r_nil, r_cons, r_tup, r_lst, r_lstN, r_cb, r_is, r_call, r_neg, r_chain, r_ixC, ro_no, ro_some, r_sl, rt_nm, rs_next, rs_ret, rs_seq, rs_if, rs_asg, rs_asgT, rs_par, rt_nil, rt_cons, rt_tp, ri_data, ri_range1, ri_range2, ri_enum, r_comp, startD, look_d, looks_nil, looks_d, datas_nil, datas_d, tru_b, tru_i, List.length_cons, List.length_nil, List.getElem?_cons_zero, List.getElem?_cons_succ, List.set_cons_zero, List.set_cons_succ, Option.map_some, List.map_cons, List.map_nil, Nat.reduceAdd, Nat.reduceSub, Nat.reduceEqDiff, List.reduceReplicate, List.cons_append, List.nil_append, List.append_nil, true_and, and_true, gCm_int, lt_int_, gEq_int, decide_true, decide_false, i3, i0, show ¬ (8 : Int) < 4 by decide, show ¬ (8 : Int) < 8 by decide]
      refine (some_sp (by simp) (by simp) h).mono fun v s hv => ?_
      obtain ⟨⟨x, hx, rfl⟩, hs⟩ := hv
      try simp only [r1_some, r2_some, r1_none, r_var, r_c, r_op, r_fz, r_bval, r_btru, r_band, r_bor, r_bnot, r_if, r_and, r_or, r_not, r_nil, r_cons, r_tup, r_lst, r_lstN, r_cb, r_is, r_call, r_neg, r_chain, r_ixC, ro_no, ro_some, r_sl, rt_nm, rs_next, rs_ret, rs_seq, rs_if, rs_asg, rs_asgT, rs_par, rt_nil, rt_cons, rt_tp, ri_data, ri_range1, ri_range2, ri_enum, r_comp, startD, look_d, looks_nil, looks_d, datas_nil, datas_d, tru_b, tru_i, List.length_cons, List.length_nil, List.getElem?_cons_zero, List.getElem?_cons_succ, List.set_cons_zero, List.set_cons_succ, Option.map_some, List.map_cons, List.map_nil, Nat.reduceAdd, Nat.reduceSub, Nat.reduceEqDiff, List.reduceReplicate, List.cons_append, List.nil_append, List.append_nil, true_and, and_true, gCm_int, lt_int_, gEq_int, decide_true, decide_false, i3, i0, show ¬ (8 : Int) < 4 by decide, show ¬ (8 : Int) < 8 by decide]
      refine ⟨by rw [hb.len, hs.len]; omega, ⟨x, rfl, ?_⟩, hs⟩
      simp only [List.mem_cons, List.not_mem_nil, or_false] at hx
      rcases hx with rfl | rfl | rfl
      all_goals exact empty_ok (by decide +kernel)
theorem enum_zip : ∀ (xs : List PyData) (n : Nat), enumD n xs = (xs.zipIdx n).map fun p => .d (.tuple [.int (p.2 : Int), p.1])
  | [], _ => rfl
  | x :: xs, n => by
    unfold enumD
    rw [List.zipIdx_cons, List.map_cons, enum_zip xs (n + 1)]
def pairH (v : Vd) : PyData := match v with
  | .d (.tuple [.int k, x]) => .tuple [.str (toString k), x]
  | _ => .none
theorem w_0 : PyData.weight (.str "0") = 1 := by decide +kernel
theorem w_1 : PyData.weight (.str "1") = 1 := by decide +kernel
theorem w_2 : PyData.weight (.str "2") = 1 := by decide +kernel
theorem keys_ok {kvs : List (PyData × PyData)} (h : (kvs.map (·.1)).all (fun d => gd 0 d && d.depth == 0) = true) : ∀ p ∈ kvs, gd 0 p.1 = true ∧ p.1.depth = 0 ∧ p.2 ∈ kvs.map (·.2) := fun p hp => by
  have := List.all_eq_true.mp h p.1 (List.mem_map_of_mem hp)
  simp only [Bool.and_eq_true, beq_iff_eq] at this
  exact ⟨this.1, this.2, List.mem_map_of_mem hp⟩
theorem dict_few : ∀ xs : List PyData, xs.length ≤ 3 → ∃ kvs : List (PyData × PyData), gDictOf [.list ((enumD 0 xs).map pairH)] = some (.dict kvs) ∧ (∀ p ∈ kvs, gd 0 p.1 = true ∧ p.1.depth = 0 ∧ p.2 ∈ xs) ∧ PyData.weightKv kvs = PyData.weightAll xs + 2 * xs.length
  | [], _ => ⟨[], rfl, (fun _ h => nomatch h), rfl⟩
  | [a], _ => ⟨[(.str "0", a)], by rfl, keys_ok (by show ([.str "0"] : List PyData).all (fun d => gd 0 d && d.depth == 0) = true; decide +kernel), by simp [PyData.weightKv, PyData.weightAll, w_0]; omega⟩
  | [a, b], _ => ⟨[(.str "0", a), (.str "1", b)], by rfl, keys_ok (by show ([.str "0", .str "1"] : List PyData).all (fun d => gd 0 d && d.depth == 0) = true; decide +kernel), by simp [PyData.weightKv, PyData.weightAll, w_0, w_1]; omega⟩
  | [a, b, c], _ => ⟨[(.str "0", a), (.str "1", b), (.str "2", c)], by rfl, keys_ok (by show ([.str "0", .str "1", .str "2"] : List PyData).all (fun d => gd 0 d && d.depth == 0) = true; decide +kernel), by simp [PyData.weightKv, PyData.weightAll, w_0, w_1, w_2]; omega⟩
  | _ :: _ :: _ :: _ :: _, h => by simp at h
/-- .. and with parts -/
theorem val_high {n : Nat} {way : Int} {F : FF} (hb : BagS rest st) (h : BagS rest s) (w0 : 9 ≤ way) (w1 : way < 14)
    (ih : ∀ s, BagS rest s → R2 (F [.r 0, .d (.int n)] s) fun v s => (∃ d, v = .d d ∧ Nic 0 (n + 1) (vw n) d) ∧ BagS rest s) :
    R1 (valTail F [some (.r 0), some (.d (.int ((n + 1 : Nat) : Int))), some (.d (.int way)), none, none, none] s) (VQ st rest (n + 1)) := by
  unfold valTail gValue_2 gValue_3 gValue_4 gValue_5
  have h1 : ¬ way < 4 := by omega
  have h2 : ¬ way < 8 := by omega
  have h3 : ¬ way = 8 := by omega
  try simp only [r1_some, r2_some, r1_none, r_var, r_c, r_op, r_fz, r_bval, r_btru, r_band, r_bor, r_bnot, r_if, r_and, r_or, r_not, r_nil, r_cons, r_tup, r_lst, r_lstN, r_cb, r_is, r_call, r_neg, r_chain, r_ixC, ro_no, ro_some, r_sl, rt_nm, rs_next, rs_ret, rs_seq, rs_if, rs_asg, rs_asgT, rs_par, rt_nil, rt_cons, rt_tp, ri_data, ri_range1, ri_range2, ri_enum, r_comp, startD, look_d, looks_nil, looks_d, datas_nil, datas_d, tru_b, tru_i, List.length_cons, List.length_nil, List.getElem?_cons_zero, List.getElem?_cons_succ, List.set_cons_zero, List.set_cons_succ, Option.map_some, List.map_cons, List.map_nil, Nat.reduceAdd, Nat.reduceSub, Nat.reduceEqDiff, List.reduceReplicate, List.cons_append, List.nil_append, List.append_nil, true_and, and_true, gCm_int, lt_int_, gEq_int, decide_true, decide_false, h1, h2, h3]
  refine (take_sp (by decide) (by decide) h).mono fun v s hv => ?_
  obtain ⟨⟨z, rfl, z0, z1⟩, hs⟩ := hv
  try simp only [r1_some, r2_some, r1_none, r_var, r_c, r_op, r_fz, r_bval, r_btru, r_band, r_bor, r_bnot, r_if, r_and, r_or, r_not, r_nil, r_cons, r_tup, r_lst, r_lstN, r_cb, r_is, r_call, r_neg, r_chain, r_ixC, ro_no, ro_some, r_sl, rt_nm, rs_next, rs_ret, rs_seq, rs_if, rs_asg, rs_asgT, rs_par, rt_nil, rt_cons, rt_tp, ri_data, ri_range1, ri_range2, ri_enum, r_comp, startD, look_d, looks_nil, looks_d, datas_nil, datas_d, tru_b, tru_i, List.length_cons, List.length_nil, List.getElem?_cons_zero, List.getElem?_cons_succ, List.set_cons_zero, List.set_cons_succ, Option.map_some, List.map_cons, List.map_nil, Nat.reduceAdd, Nat.reduceSub, Nat.reduceEqDiff, List.reduceReplicate, List.cons_append, List.nil_append, List.append_nil, true_and, and_true, gCm_int, lt_int_, gEq_int, decide_true, decide_false, h1, h2, h3]
  refine ⟨by omega, by omega, (comp_inv (P := Nic 0 (n + 1) (vw n)) (I := BagS rest) (fun v hv s hs => ?_) hs).mono fun ws s hw => ?_⟩
  · simp only [wipeD, r1_some, r2_some, r1_none, r_var, r_c, r_op, r_fz, r_bval, r_btru, r_band, r_bor, r_bnot, r_if, r_and, r_or, r_not, r_nil, r_cons, r_tup, r_lst, r_lstN, r_cb, r_is, r_call, r_neg, r_chain, r_ixC, ro_no, ro_some, r_sl, rt_nm, rs_next, rs_ret, rs_seq, rs_if, rs_asg, rs_asgT, rs_par, rt_nil, rt_cons, rt_tp, ri_data, ri_range1, ri_range2, ri_enum, r_comp, startD, look_d, looks_nil, looks_d, datas_nil, datas_d, tru_b, tru_i, List.length_cons, List.length_nil, List.getElem?_cons_zero, List.getElem?_cons_succ, List.set_cons_zero, List.set_cons_succ, Option.map_some, List.map_cons, List.map_nil, Nat.reduceAdd, Nat.reduceSub, Nat.reduceEqDiff, List.reduceReplicate, List.cons_append, List.nil_append, List.append_nil, true_and, and_true, gSub_int, show ((n + 1 : Nat) : Int) - 1 = n by omega, gCm_int, lt_int_, gEq_int, decide_true, decide_false, h1, h2, h3]
    exact ih s hs
  · obtain ⟨⟨xs, rfl, px, hl⟩, hs⟩ := hw
    rw [List.length_map, List.length_range] at hl
    have l3 : xs.length ≤ 3 := by omega
    have wt : PyData.weightAll xs + 6 ≤ vw (n + 1) := by
      have e := weightAll_le (w := vw n) fun x hx => (px x hx).wt
      have e2 : xs.length * (vw n + 1) ≤ 3 * (vw n + 1) := Nat.mul_le_mul_right _ l3
      have e3 : vw (n + 1) = 4 * vw n := by
        unfold vw
        rw [Nat.pow_succ]
        omega
      have := vw_ge n
      omega
    rw [datas_map, r1_some]
    try simp only [r1_some, r2_some, r1_none, r_var, r_c, r_op, r_fz, r_bval, r_btru, r_band, r_bor, r_bnot, r_if, r_and, r_or, r_not, r_nil, r_cons, r_tup, r_lst, r_lstN, r_cb, r_is, r_call, r_neg, r_chain, r_ixC, ro_no, ro_some, r_sl, rt_nm, rs_next, rs_ret, rs_seq, rs_if, rs_asg, rs_asgT, rs_par, rt_nil, rt_cons, rt_tp, ri_data, ri_range1, ri_range2, ri_enum, r_comp, startD, look_d, looks_nil, looks_d, datas_nil, datas_d, tru_b, tru_i, List.length_cons, List.length_nil, List.getElem?_cons_zero, List.getElem?_cons_succ, List.set_cons_zero, List.set_cons_succ, Option.map_some, List.map_cons, List.map_nil, Nat.reduceAdd, Nat.reduceSub, Nat.reduceEqDiff, List.reduceReplicate, List.cons_append, List.nil_append, List.append_nil, true_and, and_true, gCm_int, lt_int_, gEq_int, decide_true, decide_false, h1, h2, h3]
    refine ⟨by omega, ?_⟩
    by_cases h12 : way < 12
    · unfold gValue_6
      try simp only [r1_some, r2_some, r1_none, r_var, r_c, r_op, r_fz, r_bval, r_btru, r_band, r_bor, r_bnot, r_if, r_and, r_or, r_not, r_nil, r_cons, r_tup, r_lst, r_lstN, r_cb, r_is, r_call, r_neg, r_chain, r_ixC, ro_no, ro_some, r_sl, rt_nm, rs_next, rs_ret, rs_seq, rs_if, rs_asg, rs_asgT, rs_par, rt_nil, rt_cons, rt_tp, ri_data, ri_range1, ri_range2, ri_enum, r_comp, startD, look_d, looks_nil, looks_d, datas_nil, datas_d, tru_b, tru_i, List.length_cons, List.length_nil, List.getElem?_cons_zero, List.getElem?_cons_succ, List.set_cons_zero, List.set_cons_succ, Option.map_some, List.map_cons, List.map_nil, Nat.reduceAdd, Nat.reduceSub, Nat.reduceEqDiff, List.reduceReplicate, List.cons_append, List.nil_append, List.append_nil, true_and, and_true, gCm_int, lt_int_, h12, decide_true, gTupleOf, gEq_int, decide_false, h1, h2, h3]
      exact ⟨by rw [hb.len, hs.len]; omega, ⟨_, rfl, Nic.tup (fun d hd => ⟨(px d hd).g, (px d hd).dp⟩) (by omega)⟩, hs⟩
    · by_cases e12 : way = 12
      · subst e12
        unfold gValue_6 gValue_7
        try simp only [r1_some, r2_some, r1_none, r_var, r_c, r_op, r_fz, r_bval, r_btru, r_band, r_bor, r_bnot, r_if, r_and, r_or, r_not, r_nil, r_cons, r_tup, r_lst, r_lstN, r_cb, r_is, r_call, r_neg, r_chain, r_ixC, ro_no, ro_some, r_sl, rt_nm, rs_next, rs_ret, rs_seq, rs_if, rs_asg, rs_asgT, rs_par, rt_nil, rt_cons, rt_tp, ri_data, ri_range1, ri_range2, ri_enum, r_comp, startD, look_d, looks_nil, looks_d, datas_nil, datas_d, tru_b, tru_i, List.length_cons, List.length_nil, List.getElem?_cons_zero, List.getElem?_cons_succ, List.set_cons_zero, List.set_cons_succ, Option.map_some, List.map_cons, List.map_nil, Nat.reduceAdd, Nat.reduceSub, Nat.reduceEqDiff, List.reduceReplicate, List.cons_append, List.nil_append, List.append_nil, true_and, and_true, gCm_int, lt_int_, gEq_int, decide_true, decide_false, show ¬ (12 : Int) < 12 by decide, h1, h2, h3]
        exact ⟨by rw [hb.len, hs.len]; omega, ⟨_, rfl, Nic.list (fun d hd => ⟨(px d hd).g, (px d hd).dp⟩) (by omega)⟩, hs⟩
      · unfold gValue_6 gValue_7 gValue_8
        have hk : enumD 0 xs = xs.zipIdx.map fun p => .d (.tuple [.int (p.2 : Int), p.1]) := enum_zip xs 0
        try simp only [r1_some, r2_some, r1_none, r_var, r_c, r_op, r_fz, r_bval, r_btru, r_band, r_bor, r_bnot, r_if, r_and, r_or, r_not, r_nil, r_cons, r_tup, r_lst, r_lstN, r_cb, r_is, r_call, r_neg, r_chain, r_ixC, ro_no, ro_some, r_sl, rt_nm, rs_next, rs_ret, rs_seq, rs_if, rs_asg, rs_asgT, rs_par, rt_nil, rt_cons, rt_tp, ri_data, ri_range1, ri_range2, ri_enum, r_comp, startD, look_d, looks_nil, looks_d, datas_nil, datas_d, tru_b, tru_i, List.length_cons, List.length_nil, List.getElem?_cons_zero, List.getElem?_cons_succ, List.set_cons_zero, List.set_cons_succ, Option.map_some, List.map_cons, List.map_nil, Nat.reduceAdd, Nat.reduceSub, Nat.reduceEqDiff, List.reduceReplicate, List.cons_append, List.nil_append, List.append_nil, true_and, and_true, gCm_int, lt_int_, gEq_int, decide_true, decide_false, h12, e12, h1, h2, h3]
        have e := comp_told (st := s) (t := tTp 2 (tsCons (tNm 4) (tsCons (tNm 5) tsNil))) (a := eTup (aCons (eCB gStr (aCons (eVar 4) aNil)) (aCons (eVar 5) aNil)))
          (ρ := wipeD [some (.r 0), some (.d (.int ((n + 1 : Nat) : Int))), some (.d (.int way)), some (.d (.list xs)), none, none] [4, 5])
          (h := pairH) (items := enumD 0 xs) fun v hv => by
          rw [hk] at hv
          obtain ⟨p, hp, rfl⟩ := List.mem_map.mp hv
          have i2 : (2 : Nat) ≤ sizeLine := by decide
          have hp2 : p.2 < 3 := by
            have := (List.mem_zipIdx hp).2.1
            omega
          have hg : gStr [.int (p.2 : Int)] = some (.str (toString (p.2 : Int))) := if_pos (Nat.lt_of_lt_of_le (log2_le (k := 2) (by omega) (by decide)) (by decide))
          simp only [wipeD, r1_some, r2_some, r1_none, r_var, r_c, r_op, r_fz, r_bval, r_btru, r_band, r_bor, r_bnot, r_if, r_and, r_or, r_not, r_nil, r_cons, r_tup, r_lst, r_lstN, r_cb, r_is, r_call, r_neg, r_chain, r_ixC, ro_no, ro_some, r_sl, rt_nm, rs_next, rs_ret, rs_seq, rs_if, rs_asg, rs_asgT, rs_par, rt_nil, rt_cons, rt_tp, ri_data, ri_range1, ri_range2, ri_enum, r_comp, startD, look_d, looks_nil, looks_d, datas_nil, datas_d, tru_b, tru_i, List.length_cons, List.length_nil, List.getElem?_cons_zero, List.getElem?_cons_succ, List.set_cons_zero, List.set_cons_succ, Option.map_some, List.map_cons, List.map_nil, Nat.reduceAdd, Nat.reduceSub, Nat.reduceEqDiff, List.reduceReplicate, List.cons_append, List.nil_append, List.append_nil, true_and, and_true, hg, i2, gCm_int, lt_int_, gEq_int, decide_true, decide_false, h1, h2, h3, h12, e12]
          rfl
        rw [e, r2_some, datas_map, r1_some]
        try simp only [r1_some, r2_some, r1_none, r_var, r_c, r_op, r_fz, r_bval, r_btru, r_band, r_bor, r_bnot, r_if, r_and, r_or, r_not, r_nil, r_cons, r_tup, r_lst, r_lstN, r_cb, r_is, r_call, r_neg, r_chain, r_ixC, ro_no, ro_some, r_sl, rt_nm, rs_next, rs_ret, rs_seq, rs_if, rs_asg, rs_asgT, rs_par, rt_nil, rt_cons, rt_tp, ri_data, ri_range1, ri_range2, ri_enum, r_comp, startD, look_d, looks_nil, looks_d, datas_nil, datas_d, tru_b, tru_i, List.length_cons, List.length_nil, List.getElem?_cons_zero, List.getElem?_cons_succ, List.set_cons_zero, List.set_cons_succ, Option.map_some, List.map_cons, List.map_nil, Nat.reduceAdd, Nat.reduceSub, Nat.reduceEqDiff, List.reduceReplicate, List.cons_append, List.nil_append, List.append_nil, true_and, and_true, gCm_int, lt_int_, gEq_int, decide_true, decide_false, h1, h2, h3, h12, e12]
        obtain ⟨kvs, h1, h2, h3⟩ := dict_few xs l3
        try simp only [r1_some, r2_some, r1_none, r_var, r_c, r_op, r_fz, r_bval, r_btru, r_band, r_bor, r_bnot, r_if, r_and, r_or, r_not, r_nil, r_cons, r_tup, r_lst, r_lstN, r_cb, r_is, r_call, r_neg, r_chain, r_ixC, ro_no, ro_some, r_sl, rt_nm, rs_next, rs_ret, rs_seq, rs_if, rs_asg, rs_asgT, rs_par, rt_nil, rt_cons, rt_tp, ri_data, ri_range1, ri_range2, ri_enum, r_comp, startD, look_d, looks_nil, looks_d, datas_nil, datas_d, tru_b, tru_i, List.length_cons, List.length_nil, List.getElem?_cons_zero, List.getElem?_cons_succ, List.set_cons_zero, List.set_cons_succ, Option.map_some, List.map_cons, List.map_nil, Nat.reduceAdd, Nat.reduceSub, Nat.reduceEqDiff, List.reduceReplicate, List.cons_append, List.nil_append, List.append_nil, true_and, and_true, h1, gCm_int, lt_int_, gEq_int, decide_true, decide_false, h2, h3, h12, e12]
        exact ⟨by rw [List.length_map, hk, List.length_map, List.length_zipIdx]; omega, by rw [hb.len, hs.len]; omega, ⟨_, rfl, Nic.dict (fun p hp => ⟨⟨(h2 p hp).1, (h2 p hp).2.1⟩, (px _ (h2 p hp).2.2).g, (px _ (h2 p hp).2.2).dp⟩) (by omega)⟩, hs⟩
/-- any drawn value -/
theorem value_sp : ∀ (n : Nat) (st : Sto), BagS rest st → R2 (fVal (n + 1) [.r 0, .d (.int n)] st) fun v s => (∃ d, v = .d d ∧ Nic 0 (n + 1) (vw n) d) ∧ BagS rest s := by
  intro n
  induction n with
  | zero =>
    intro st h
    refine rf_of ?_
    show R1 (sSeq (gValue_1 fTake (fSome fTake) (fVal 0)) (valTail (fVal 0)) (startD nValue [.r 0, .d (.int (0 : Nat))]) st) _
    unfold gValue_1
    try simp only [r1_some, r2_some, r1_none, r_var, r_c, r_op, r_fz, r_bval, r_btru, r_band, r_bor, r_bnot, r_if, r_and, r_or, r_not, r_nil, r_cons, r_tup, r_lst, r_lstN, r_cb, r_is, r_call, r_neg, r_chain, r_ixC, ro_no, ro_some, r_sl, rt_nm, rs_next, rs_ret, rs_seq, rs_if, rs_asg, rs_asgT, rs_par, rt_nil, rt_cons, rt_tp, ri_data, ri_range1, ri_range2, ri_enum, r_comp, startD, look_d, looks_nil, looks_d, datas_nil, datas_d, tru_b, tru_i, List.length_cons, List.length_nil, List.getElem?_cons_zero, List.getElem?_cons_succ, List.set_cons_zero, List.set_cons_succ, Option.map_some, List.map_cons, List.map_nil, Nat.reduceAdd, Nat.reduceSub, Nat.reduceEqDiff, List.reduceReplicate, List.cons_append, List.nil_append, List.append_nil, true_and, and_true, gCm_int, lt_int_, show decide (0 < ((0 : Nat) : Int)) = false from rfl]
    refine (take_sp (by decide) (by decide) h).mono fun v s hv => ?_
    obtain ⟨⟨z, rfl, z0, z1⟩, hs⟩ := hv
    try simp only [r1_some, r2_some, r1_none, r_var, r_c, r_op, r_fz, r_bval, r_btru, r_band, r_bor, r_bnot, r_if, r_and, r_or, r_not, r_nil, r_cons, r_tup, r_lst, r_lstN, r_cb, r_is, r_call, r_neg, r_chain, r_ixC, ro_no, ro_some, r_sl, rt_nm, rs_next, rs_ret, rs_seq, rs_if, rs_asg, rs_asgT, rs_par, rt_nil, rt_cons, rt_tp, ri_data, ri_range1, ri_range2, ri_enum, r_comp, startD, look_d, looks_nil, looks_d, datas_nil, datas_d, tru_b, tru_i, List.length_cons, List.length_nil, List.getElem?_cons_zero, List.getElem?_cons_succ, List.set_cons_zero, List.set_cons_succ, Option.map_some, List.map_cons, List.map_nil, Nat.reduceAdd, Nat.reduceSub, Nat.reduceEqDiff, List.reduceReplicate, List.cons_append, List.nil_append, List.append_nil, true_and, and_true, gCm_int, lt_int_, show decide (0 < ((0 : Nat) : Int)) = false from rfl]
    refine (val_low (F := fVal 0) (n := 0) h hs z0 z1).mono fun o ho => ?_
    cases o <;> first | exact ho | exact ho.elim
  | succ n ih =>
    intro st h
    refine rf_of ?_
    show R1 (sSeq (gValue_1 fTake (fSome fTake) (fVal (n + 1))) (valTail (fVal (n + 1))) (startD nValue [.r 0, .d (.int ((n + 1 : Nat) : Int))]) st) _
    unfold gValue_1
    have pos : decide (0 < ((n + 1 : Nat) : Int)) = true := decide_eq_true (by omega)
    try simp only [r1_some, r2_some, r1_none, r_var, r_c, r_op, r_fz, r_bval, r_btru, r_band, r_bor, r_bnot, r_if, r_and, r_or, r_not, r_nil, r_cons, r_tup, r_lst, r_lstN, r_cb, r_is, r_call, r_neg, r_chain, r_ixC, ro_no, ro_some, r_sl, rt_nm, rs_next, rs_ret, rs_seq, rs_if, rs_asg, rs_asgT, rs_par, rt_nil, rt_cons, rt_tp, ri_data, ri_range1, ri_range2, ri_enum, r_comp, startD, look_d, looks_nil, looks_d, datas_nil, datas_d, tru_b, tru_i, List.length_cons, List.length_nil, List.getElem?_cons_zero, List.getElem?_cons_succ, List.set_cons_zero, List.set_cons_succ, Option.map_some, List.map_cons, List.map_nil, Nat.reduceAdd, Nat.reduceSub, Nat.reduceEqDiff, List.reduceReplicate, List.cons_append, List.nil_append, List.append_nil, true_and, and_true, gCm_int, lt_int_, pos]
    refine (take_sp (by decide) (by decide) h).mono fun v s hv => ?_
    obtain ⟨⟨z, rfl, z0, z1⟩, hs⟩ := hv
    try simp only [r1_some, r2_some, r1_none, r_var, r_c, r_op, r_fz, r_bval, r_btru, r_band, r_bor, r_bnot, r_if, r_and, r_or, r_not, r_nil, r_cons, r_tup, r_lst, r_lstN, r_cb, r_is, r_call, r_neg, r_chain, r_ixC, ro_no, ro_some, r_sl, rt_nm, rs_next, rs_ret, rs_seq, rs_if, rs_asg, rs_asgT, rs_par, rt_nil, rt_cons, rt_tp, ri_data, ri_range1, ri_range2, ri_enum, r_comp, startD, look_d, looks_nil, looks_d, datas_nil, datas_d, tru_b, tru_i, List.length_cons, List.length_nil, List.getElem?_cons_zero, List.getElem?_cons_succ, List.set_cons_zero, List.set_cons_succ, Option.map_some, List.map_cons, List.map_nil, Nat.reduceAdd, Nat.reduceSub, Nat.reduceEqDiff, List.reduceReplicate, List.cons_append, List.nil_append, List.append_nil, true_and, and_true, gCm_int, lt_int_, pos]
    by_cases h9 : z < 9
    · refine (val_low (F := fVal (n + 1)) (n := n + 1) h hs z0 h9).mono fun o ho => ?_
      cases o <;> first | exact ho | exact ho.elim
    · refine (val_high (F := fVal (n + 1)) h hs (by omega) z1 (fun s hs => ih s hs)).mono fun o ho => ?_
      cases o <;> first | exact ho | exact ho.elim
end D01

set_option Elab.async false
set_option linter.all false
set_option maxRecDepth 100000
set_option maxHeartbeats 4000000
namespace D01
open PySem PySem.Spec PyProof.Rows L2 Pg Dl
variable {rest st s : Sto}
def isTup : PyData → Bool
  | .tuple _ => true
  | _ => false
def isWh : PyData → Bool
  | .int _ => true
  | _ => false
theorem isK_tup (d : PyData) : isK .tuple d = isTup d := by cases d <;> rfl
theorem whole_sp {d : PyData} : R2 (fIsWhole [.d d] st) fun v s => v = .d (.bool (isWh d)) ∧ s = st := by
  refine rf_of ?_
  unfold gIsWhole
  cases d <;> (simp only [r1_some, r2_some, r1_none, r_var, r_c, r_op, r_fz, r_bval, r_btru, r_band, r_bor, r_bnot, r_if, r_and, r_or, r_not, r_nil, r_cons, r_tup, r_lst, r_lstN, r_cb, r_is, r_call, r_neg, r_chain, r_ixC, ro_no, ro_some, r_sl, rt_nm, rs_next, rs_ret, rs_seq, rs_if, rs_asg, rs_asgT, rs_par, rt_nil, rt_cons, rt_tp, ri_data, ri_range1, ri_range2, ri_enum, r_comp, startD, look_d, looks_nil, looks_d, datas_nil, datas_d, tru_b, tru_i, List.length_cons, List.length_nil, List.getElem?_cons_zero, List.getElem?_cons_succ, List.set_cons_zero, List.set_cons_succ, Option.map_some, List.map_cons, List.map_nil, Nat.reduceAdd, Nat.reduceSub, Nat.reduceEqDiff, List.reduceReplicate, List.cons_append, List.nil_append, List.append_nil, true_and, and_true, isK, isWh]; simp)
noncomputable def fBen : Nat → FF
  | 0 => fun _ _ => none
  | n + 1 => fBent fTake (fBen n) (fSome fTake) fIsWhole
def BQ (st rest : Sto) (k n W : Nat) (o : Out) : Prop := match o with
  | .rt v s => st.length ≤ s.length ∧ (∃ d, v = .d d ∧ Nic k n W d) ∧ BagS rest s
  | _ => False
noncomputable def benTail (F : FF) : SF := (sSeq (gBent_3 fTake F (fSome fTake) fIsWhole) (gBent_4 fTake F (fSome fTake) fIsWhole))
theorem gStr_ok {i : Int} (h : i.natAbs.log2 < 1920) : gStr [.int i] = some (.str (toString i)) := if_pos h
/-- what is no tuple -/
theorem bent_leaf {F : FF} {k n W m : Nat} {d : PyData} (hb : BagS rest st) (h : BagS rest s) (hk : k ≤ 50) (ht : isTup d = false) (ok : Nic k n W d) :
    R1 (benTail F [some (.r 0), some (.d d), some (.d (.int m)), none, none, none, none, none, none, none] s) (BQ st rest (k + 2) (n + 1) (2 * W + 500)) := by
  have i13 : (13 : Nat) ≤ sizeLine := by decide
  have i7 : (7 : Nat) ≤ sizeLine := by decide
  have i6 : (6 : Nat) ≤ sizeLine := by decide
  have i1 : (1 : Nat) ≤ sizeLine := by decide
  have i0 : (0 : Nat) ≤ sizeLine := by decide
  unfold benTail gBent_3
  try simp only [r1_some, r2_some, r1_none, r_var, r_c, r_op, r_fz, r_bval, r_btru, r_band, r_bor, r_bnot, r_if, r_and, r_or, r_not, r_nil, r_cons, r_tup, r_lst, r_lstN, r_cb, r_is, r_call, r_neg, r_chain, r_ixC, ro_no, ro_some, r_sl, rt_nm, rs_next, rs_ret, rs_seq, rs_if, rs_asg, rs_asgT, rs_par, rt_nil, rt_cons, rt_tp, ri_data, ri_range1, ri_range2, ri_enum, r_comp, startD, look_d, looks_nil, looks_d, datas_nil, datas_d, tru_b, tru_i, List.length_cons, List.length_nil, List.getElem?_cons_zero, List.getElem?_cons_succ, List.set_cons_zero, List.set_cons_succ, Option.map_some, List.map_cons, List.map_nil, Nat.reduceAdd, Nat.reduceSub, Nat.reduceEqDiff, List.reduceReplicate, List.cons_append, List.nil_append, List.append_nil, true_and, and_true]
  refine whole_sp.mono fun v s1 hv => ?_
  obtain ⟨rfl, rfl⟩ := hv
  try simp only [r1_some, r2_some, r1_none, r_var, r_c, r_op, r_fz, r_bval, r_btru, r_band, r_bor, r_bnot, r_if, r_and, r_or, r_not, r_nil, r_cons, r_tup, r_lst, r_lstN, r_cb, r_is, r_call, r_neg, r_chain, r_ixC, ro_no, ro_some, r_sl, rt_nm, rs_next, rs_ret, rs_seq, rs_if, rs_asg, rs_asgT, rs_par, rt_nil, rt_cons, rt_tp, ri_data, ri_range1, ri_range2, ri_enum, r_comp, startD, look_d, looks_nil, looks_d, datas_nil, datas_d, tru_b, tru_i, List.length_cons, List.length_nil, List.getElem?_cons_zero, List.getElem?_cons_succ, List.set_cons_zero, List.set_cons_succ, Option.map_some, List.map_cons, List.map_nil, Nat.reduceAdd, Nat.reduceSub, Nat.reduceEqDiff, List.reduceReplicate, List.cons_append, List.nil_append, List.append_nil, true_and, and_true]
  cases hw : isWh d with
  | false =>
    unfold gBent_4
    try simp only [r1_some, r2_some, r1_none, r_var, r_c, r_op, r_fz, r_bval, r_btru, r_band, r_bor, r_bnot, r_if, r_and, r_or, r_not, r_nil, r_cons, r_tup, r_lst, r_lstN, r_cb, r_is, r_call, r_neg, r_chain, r_ixC, ro_no, ro_some, r_sl, rt_nm, rs_next, rs_ret, rs_seq, rs_if, rs_asg, rs_asgT, rs_par, rt_nil, rt_cons, rt_tp, ri_data, ri_range1, ri_range2, ri_enum, r_comp, startD, look_d, looks_nil, looks_d, datas_nil, datas_d, tru_b, tru_i, List.length_cons, List.length_nil, List.getElem?_cons_zero, List.getElem?_cons_succ, List.set_cons_zero, List.set_cons_succ, Option.map_some, List.map_cons, List.map_nil, Nat.reduceAdd, Nat.reduceSub, Nat.reduceEqDiff, List.reduceReplicate, List.cons_append, List.nil_append, List.append_nil, true_and, and_true, i13, i0, i1]
    refine (some_sp (by simp) (by simp) h).mono fun v s hv => ?_
    obtain ⟨⟨x, hx, rfl⟩, hs⟩ := hv
    try simp only [r1_some, r2_some, r1_none, r_var, r_c, r_op, r_fz, r_bval, r_btru, r_band, r_bor, r_bnot, r_if, r_and, r_or, r_not, r_nil, r_cons, r_tup, r_lst, r_lstN, r_cb, r_is, r_call, r_neg, r_chain, r_ixC, ro_no, ro_some, r_sl, rt_nm, rs_next, rs_ret, rs_seq, rs_if, rs_asg, rs_asgT, rs_par, rt_nil, rt_cons, rt_tp, ri_data, ri_range1, ri_range2, ri_enum, r_comp, startD, look_d, looks_nil, looks_d, datas_nil, datas_d, tru_b, tru_i, List.length_cons, List.length_nil, List.getElem?_cons_zero, List.getElem?_cons_succ, List.set_cons_zero, List.set_cons_succ, Option.map_some, List.map_cons, List.map_nil, Nat.reduceAdd, Nat.reduceSub, Nat.reduceEqDiff, List.reduceReplicate, List.cons_append, List.nil_append, List.append_nil, true_and, and_true, i13, i0, i1]
    refine ⟨by rw [hb.len, hs.len]; omega, ⟨x, rfl, ?_⟩, hs⟩
    have all : ([.str "own", .str "common", .str "Own", .str "", .str "owns", .str "common ", .none, .int 0, .tuple [], .list [.str "own"], .bool true, .str "drop", .str "exit"] : List PyData).all (fun d => gd 0 d && decide (d.depth ≤ 1) && decide (d.weight ≤ 500)) = true := by decide +kernel
    have := List.all_eq_true.mp all x hx
    simp only [Bool.and_eq_true, decide_eq_true_eq] at this
    exact ⟨gd_up (Nat.zero_le _) _ this.1.1, by omega, by omega⟩
  | true =>
    cases d with
    | int i =>
      have hg := ok.g
      simp only [gd, decide_eq_true_eq] at hg
      have l := log2_39 (by omega) hg
      try simp only [r1_some, r2_some, r1_none, r_var, r_c, r_op, r_fz, r_bval, r_btru, r_band, r_bor, r_bnot, r_if, r_and, r_or, r_not, r_nil, r_cons, r_tup, r_lst, r_lstN, r_cb, r_is, r_call, r_neg, r_chain, r_ixC, ro_no, ro_some, r_sl, rt_nm, rs_next, rs_ret, rs_seq, rs_if, rs_asg, rs_asgT, rs_par, rt_nil, rt_cons, rt_tp, ri_data, ri_range1, ri_range2, ri_enum, r_comp, startD, look_d, looks_nil, looks_d, datas_nil, datas_d, tru_b, tru_i, List.length_cons, List.length_nil, List.getElem?_cons_zero, List.getElem?_cons_succ, List.set_cons_zero, List.set_cons_succ, Option.map_some, List.map_cons, List.map_nil, Nat.reduceAdd, Nat.reduceSub, Nat.reduceEqDiff, List.reduceReplicate, List.cons_append, List.nil_append, List.append_nil, true_and, and_true, i6, i1, i7, gStr_ok (Nat.lt_trans l (by decide)), gAdd_int, gSub_int, p39] 
      rw [gAdd_fit (by simp), r1_some]
      try simp only [r1_some, r2_some, r1_none, r_var, r_c, r_op, r_fz, r_bval, r_btru, r_band, r_bor, r_bnot, r_if, r_and, r_or, r_not, r_nil, r_cons, r_tup, r_lst, r_lstN, r_cb, r_is, r_call, r_neg, r_chain, r_ixC, ro_no, ro_some, r_sl, rt_nm, rs_next, rs_ret, rs_seq, rs_if, rs_asg, rs_asgT, rs_par, rt_nil, rt_cons, rt_tp, ri_data, ri_range1, ri_range2, ri_enum, r_comp, startD, look_d, looks_nil, looks_d, datas_nil, datas_d, tru_b, tru_i, List.length_cons, List.length_nil, List.getElem?_cons_zero, List.getElem?_cons_succ, List.set_cons_zero, List.set_cons_succ, Option.map_some, List.map_cons, List.map_nil, Nat.reduceAdd, Nat.reduceSub, Nat.reduceEqDiff, List.reduceReplicate, List.cons_append, List.nil_append, List.append_nil, true_and, and_true, i6, i1, i7, gStr_ok (Nat.lt_trans l (by decide)), gAdd_int, gSub_int, p39]
      refine (some_sp (by simp) (by simp) h).mono fun v s hv => ?_
      obtain ⟨⟨x, hx, rfl⟩, hs⟩ := hv
      try simp only [r1_some, r2_some, r1_none, r_var, r_c, r_op, r_fz, r_bval, r_btru, r_band, r_bor, r_bnot, r_if, r_and, r_or, r_not, r_nil, r_cons, r_tup, r_lst, r_lstN, r_cb, r_is, r_call, r_neg, r_chain, r_ixC, ro_no, ro_some, r_sl, rt_nm, rs_next, rs_ret, rs_seq, rs_if, rs_asg, rs_asgT, rs_par, rt_nil, rt_cons, rt_tp, ri_data, ri_range1, ri_range2, ri_enum, r_comp, startD, look_d, looks_nil, looks_d, datas_nil, datas_d, tru_b, tru_i, List.length_cons, List.length_nil, List.getElem?_cons_zero, List.getElem?_cons_succ, List.set_cons_zero, List.set_cons_succ, Option.map_some, List.map_cons, List.map_nil, Nat.reduceAdd, Nat.reduceSub, Nat.reduceEqDiff, List.reduceReplicate, List.cons_append, List.nil_append, List.append_nil, true_and, and_true, i6, i1, i7, gStr_ok (Nat.lt_trans l (by decide)), gAdd_int, gSub_int, p39]
      refine ⟨by rw [hb.len, hs.len]; omega, ⟨x, rfl, ?_⟩, hs⟩
      have int_ok : ∀ j : Int, j.natAbs ≤ 10 ^ 39 + (k + 2) → Nic (k + 2) (n + 1) (2 * W + 500) (.int j) := fun j hj => by
        refine ⟨by simpa only [gd, decide_eq_true_eq] using hj, by simp [PyData.depth], ?_⟩
        have := log2_39 (by omega) hj
        simp only [PyData.weight]
        split <;> omega
      have part_ok : gd (k + 2) (.int i) = true ∧ PyData.weight (.int i) ≤ 200 := by
        refine ⟨by simp only [gd, decide_eq_true_eq]; omega, ?_⟩
        simp only [PyData.weight]
        split <;> omega
      simp only [List.cons_append, List.nil_append, List.mem_cons, List.not_mem_nil, or_false] at hx
      rcases hx with rfl | rfl | rfl | rfl | rfl | rfl | rfl | rfl | rfl | rfl | rfl | rfl | rfl
      · exact int_ok _ (by omega)
      · exact int_ok _ (by omega)
      · exact int_ok _ (by omega)
      · exact int_ok _ (by omega)
      · exact int_ok _ (Nat.zero_le _)
      · exact int_ok _ (by omega)
      · exact int_ok _ (by omega)
      · exact ⟨rfl, by simp [PyData.depth], by simp [PyData.weight]⟩
      · exact ⟨rfl, by simp [PyData.depth], by simp [PyData.weight]⟩
      · exact ⟨rfl, by simp [PyData.depth], by simp [PyData.weight]⟩
      · refine ⟨by simp only [gd]; exact strOk_text _, by simp [PyData.depth], ?_⟩
        have := int_text_length_le10 (a := i) (k := 40) (by decide) (Nat.lt_of_le_of_lt hg (by omega))
        simp only [PyData.weight, size_text]
        omega
      · exact ⟨by simp only [gd, gdA, Bool.and_true]; exact part_ok.1, by simp [PyData.depth, PyData.depthAll], by have := part_ok.2; simp only [PyData.weight, PyData.weightAll] at this ⊢; omega⟩
      · exact ⟨by simp only [gd, gdA, Bool.and_true]; exact part_ok.1, by simp [PyData.depth, PyData.depthAll], by have := part_ok.2; simp only [PyData.weight, PyData.weightAll] at this ⊢; omega⟩
    | _ => cases hw
/-- a tuple changed at its own level -/
theorem bent_here {F : FF} {k n W m : Nat} {ds : List PyData} (hb : BagS rest st) (h : BagS rest s) (hk : k ≤ 50) (hW : W ≤ 1000000) (ok : Nic k n W (.tuple ds)) :
    R1 (sSeq (gBent_2 fTake F (fSome fTake) fIsWhole) (benTail F) [some (.r 0), some (.d (.tuple ds)), some (.d (.int m)), none, none, none, none, none, none, none] s) (BQ st rest (k + 2) (n + 1) (2 * W + 500)) := by
  obtain ⟨j, rfl, parts, wt⟩ := ok.parts
  have len : ds.length ≤ 1000000 := Nat.le_trans len_weight (Nat.le_trans wt hW)
  have i9 : (9 : Nat) ≤ sizeLine := by decide
  have i7 : (7 : Nat) ≤ sizeLine := by decide
  have i2 : (2 : Nat) ≤ sizeLine := by decide
  have i1 : (1 : Nat) ≤ sizeLine := by decide
  have i0 : (0 : Nat) ≤ sizeLine := by decide
  unfold gBent_2
  try simp only [r1_some, r2_some, r1_none, r_var, r_c, r_op, r_fz, r_bval, r_btru, r_band, r_bor, r_bnot, r_if, r_and, r_or, r_not, r_nil, r_cons, r_tup, r_lst, r_lstN, r_cb, r_is, r_call, r_neg, r_chain, r_ixC, ro_no, ro_some, r_sl, rt_nm, rs_next, rs_ret, rs_seq, rs_if, rs_asg, rs_asgT, rs_par, rt_nil, rt_cons, rt_tp, ri_data, ri_range1, ri_range2, ri_enum, r_comp, startD, look_d, looks_nil, looks_d, datas_nil, datas_d, tru_b, tru_i, List.length_cons, List.length_nil, List.getElem?_cons_zero, List.getElem?_cons_succ, List.set_cons_zero, List.set_cons_succ, Option.map_some, List.map_cons, List.map_nil, Nat.reduceAdd, Nat.reduceSub, Nat.reduceEqDiff, List.reduceReplicate, List.cons_append, List.nil_append, List.append_nil, true_and, and_true, isK, gLen_tuple, gAdd_int, i9, i2, i1, i0]
  refine (take_sp (by omega) (by omega) h).mono fun v s hv => ?_
  obtain ⟨⟨z, rfl, z0, z1⟩, hs⟩ := hv
  try simp only [r1_some, r2_some, r1_none, r_var, r_c, r_op, r_fz, r_bval, r_btru, r_band, r_bor, r_bnot, r_if, r_and, r_or, r_not, r_nil, r_cons, r_tup, r_lst, r_lstN, r_cb, r_is, r_call, r_neg, r_chain, r_ixC, ro_no, ro_some, r_sl, rt_nm, rs_next, rs_ret, rs_seq, rs_if, rs_asg, rs_asgT, rs_par, rt_nil, rt_cons, rt_tp, ri_data, ri_range1, ri_range2, ri_enum, r_comp, startD, look_d, looks_nil, looks_d, datas_nil, datas_d, tru_b, tru_i, List.length_cons, List.length_nil, List.getElem?_cons_zero, List.getElem?_cons_succ, List.set_cons_zero, List.set_cons_succ, Option.map_some, List.map_cons, List.map_nil, Nat.reduceAdd, Nat.reduceSub, Nat.reduceEqDiff, List.reduceReplicate, List.cons_append, List.nil_append, List.append_nil, true_and, and_true, isK, gLen_tuple, gAdd_int, i9, i2, i1, i0]
  obtain ⟨z, rfl⟩ := Int.eq_ofNat_of_zero_le z0
  try simp only [r1_some, r2_some, r1_none, r_var, r_c, r_op, r_fz, r_bval, r_btru, r_band, r_bor, r_bnot, r_if, r_and, r_or, r_not, r_nil, r_cons, r_tup, r_lst, r_lstN, r_cb, r_is, r_call, r_neg, r_chain, r_ixC, ro_no, ro_some, r_sl, rt_nm, rs_next, rs_ret, rs_seq, rs_if, rs_asg, rs_asgT, rs_par, rt_nil, rt_cons, rt_tp, ri_data, ri_range1, ri_range2, ri_enum, r_comp, startD, look_d, looks_nil, looks_d, datas_nil, datas_d, tru_b, tru_i, List.length_cons, List.length_nil, List.getElem?_cons_zero, List.getElem?_cons_succ, List.set_cons_zero, List.set_cons_succ, Option.map_some, List.map_cons, List.map_nil, Nat.reduceAdd, Nat.reduceSub, Nat.reduceEqDiff, List.reduceReplicate, List.cons_append, List.nil_append, List.append_nil, true_and, and_true, isK, gLen_tuple, gAdd_int, i9, i2, i1, i0]
  refine (some_sp (by simp) (by simp) hs).mono fun v s hv => ?_
  obtain ⟨⟨odd, hodd, rfl⟩, hs⟩ := hv
  try simp only [r1_some, r2_some, r1_none, r_var, r_c, r_op, r_fz, r_bval, r_btru, r_band, r_bor, r_bnot, r_if, r_and, r_or, r_not, r_nil, r_cons, r_tup, r_lst, r_lstN, r_cb, r_is, r_call, r_neg, r_chain, r_ixC, ro_no, ro_some, r_sl, rt_nm, rs_next, rs_ret, rs_seq, rs_if, rs_asg, rs_asgT, rs_par, rt_nil, rt_cons, rt_tp, ri_data, ri_range1, ri_range2, ri_enum, r_comp, startD, look_d, looks_nil, looks_d, datas_nil, datas_d, tru_b, tru_i, List.length_cons, List.length_nil, List.getElem?_cons_zero, List.getElem?_cons_succ, List.set_cons_zero, List.set_cons_succ, Option.map_some, List.map_cons, List.map_nil, Nat.reduceAdd, Nat.reduceSub, Nat.reduceEqDiff, List.reduceReplicate, List.cons_append, List.nil_append, List.append_nil, true_and, and_true, isK, gLen_tuple, gAdd_int, i9, i2, i1, i0]
  have odd_ok : gd 0 odd = true ∧ odd.depth ≤ 1 ∧ odd.weight ≤ 100 := by
    have all : ([.int 0, .int (-1), .none, .bool true, .tuple [], .tuple [.int 0, .int 0], .tuple [.int 0], .int 3, .str "own"] : List PyData).all (fun d => gd 0 d && decide (d.depth ≤ 1) && decide (d.weight ≤ 100)) = true := by decide +kernel
    have := List.all_eq_true.mp all odd hodd
    simp only [Bool.and_eq_true, decide_eq_true_eq] at this
    exact ⟨this.1.1, this.1.2, this.2⟩
  have e1 : ((z : Int) + 1) = ((z + 1 : Nat) : Int) := by omega
  try simp only [r1_some, r2_some, r1_none, r_var, r_c, r_op, r_fz, r_bval, r_btru, r_band, r_bor, r_bnot, r_if, r_and, r_or, r_not, r_nil, r_cons, r_tup, r_lst, r_lstN, r_cb, r_is, r_call, r_neg, r_chain, r_ixC, ro_no, ro_some, r_sl, rt_nm, rs_next, rs_ret, rs_seq, rs_if, rs_asg, rs_asgT, rs_par, rt_nil, rt_cons, rt_tp, ri_data, ri_range1, ri_range2, ri_enum, r_comp, startD, look_d, looks_nil, looks_d, datas_nil, datas_d, tru_b, tru_i, List.length_cons, List.length_nil, List.getElem?_cons_zero, List.getElem?_cons_succ, List.set_cons_zero, List.set_cons_succ, Option.map_some, List.map_cons, List.map_nil, Nat.reduceAdd, Nat.reduceSub, Nat.reduceEqDiff, List.reduceReplicate, List.cons_append, List.nil_append, List.append_nil, true_and, and_true, e1, gSl_toT, gSl_fromT, i1, isK, gLen_tuple, gAdd_int, i9, i2, i0]
  rw [gAdd_fitT (by rw [List.length_take, List.length_singleton]; omega), r1_some]
  try simp only [r1_some, r2_some, r1_none, r_var, r_c, r_op, r_fz, r_bval, r_btru, r_band, r_bor, r_bnot, r_if, r_and, r_or, r_not, r_nil, r_cons, r_tup, r_lst, r_lstN, r_cb, r_is, r_call, r_neg, r_chain, r_ixC, ro_no, ro_some, r_sl, rt_nm, rs_next, rs_ret, rs_seq, rs_if, rs_asg, rs_asgT, rs_par, rt_nil, rt_cons, rt_tp, ri_data, ri_range1, ri_range2, ri_enum, r_comp, startD, look_d, looks_nil, looks_d, datas_nil, datas_d, tru_b, tru_i, List.length_cons, List.length_nil, List.getElem?_cons_zero, List.getElem?_cons_succ, List.set_cons_zero, List.set_cons_succ, Option.map_some, List.map_cons, List.map_nil, Nat.reduceAdd, Nat.reduceSub, Nat.reduceEqDiff, List.reduceReplicate, List.cons_append, List.nil_append, List.append_nil, true_and, and_true, isK, gLen_tuple, gAdd_int, i9, i2, i1, i0, e1, gSl_toT, gSl_fromT]
  rw [gAdd_fitT (by rw [List.length_append, List.length_take, List.length_drop, List.length_singleton]; omega), r1_some]
  try simp only [r1_some, r2_some, r1_none, r_var, r_c, r_op, r_fz, r_bval, r_btru, r_band, r_bor, r_bnot, r_if, r_and, r_or, r_not, r_nil, r_cons, r_tup, r_lst, r_lstN, r_cb, r_is, r_call, r_neg, r_chain, r_ixC, ro_no, ro_some, r_sl, rt_nm, rs_next, rs_ret, rs_seq, rs_if, rs_asg, rs_asgT, rs_par, rt_nil, rt_cons, rt_tp, ri_data, ri_range1, ri_range2, ri_enum, r_comp, startD, look_d, looks_nil, looks_d, datas_nil, datas_d, tru_b, tru_i, List.length_cons, List.length_nil, List.getElem?_cons_zero, List.getElem?_cons_succ, List.set_cons_zero, List.set_cons_succ, Option.map_some, List.map_cons, List.map_nil, Nat.reduceAdd, Nat.reduceSub, Nat.reduceEqDiff, List.reduceReplicate, List.cons_append, List.nil_append, List.append_nil, true_and, and_true, gAdd_int, e1, gSl_toT, gSl_fromT, isK, gLen_tuple, i9, i2, i1, i0]
  rw [gAdd_fitT (by rw [List.length_take, List.length_drop]; omega), r1_some]
  try simp only [r1_some, r2_some, r1_none, r_var, r_c, r_op, r_fz, r_bval, r_btru, r_band, r_bor, r_bnot, r_if, r_and, r_or, r_not, r_nil, r_cons, r_tup, r_lst, r_lstN, r_cb, r_is, r_call, r_neg, r_chain, r_ixC, ro_no, ro_some, r_sl, rt_nm, rs_next, rs_ret, rs_seq, rs_if, rs_asg, rs_asgT, rs_par, rt_nil, rt_cons, rt_tp, ri_data, ri_range1, ri_range2, ri_enum, r_comp, startD, look_d, looks_nil, looks_d, datas_nil, datas_d, tru_b, tru_i, List.length_cons, List.length_nil, List.getElem?_cons_zero, List.getElem?_cons_succ, List.set_cons_zero, List.set_cons_succ, Option.map_some, List.map_cons, List.map_nil, Nat.reduceAdd, Nat.reduceSub, Nat.reduceEqDiff, List.reduceReplicate, List.cons_append, List.nil_append, List.append_nil, true_and, and_true, isK, gLen_tuple, gAdd_int, i9, i2, i1, i0, e1, gSl_toT, gSl_fromT]
  rw [gAdd_fitT (by rw [List.length_take, List.length_drop]; omega), r1_some]
  try simp only [r1_some, r2_some, r1_none, r_var, r_c, r_op, r_fz, r_bval, r_btru, r_band, r_bor, r_bnot, r_if, r_and, r_or, r_not, r_nil, r_cons, r_tup, r_lst, r_lstN, r_cb, r_is, r_call, r_neg, r_chain, r_ixC, ro_no, ro_some, r_sl, rt_nm, rs_next, rs_ret, rs_seq, rs_if, rs_asg, rs_asgT, rs_par, rt_nil, rt_cons, rt_tp, ri_data, ri_range1, ri_range2, ri_enum, r_comp, startD, look_d, looks_nil, looks_d, datas_nil, datas_d, tru_b, tru_i, List.length_cons, List.length_nil, List.getElem?_cons_zero, List.getElem?_cons_succ, List.set_cons_zero, List.set_cons_succ, Option.map_some, List.map_cons, List.map_nil, Nat.reduceAdd, Nat.reduceSub, Nat.reduceEqDiff, List.reduceReplicate, List.cons_append, List.nil_append, List.append_nil, true_and, and_true, isK, gLen_tuple, gAdd_int, i9, i2, i1, i0, e1, gSl_toT, gSl_fromT]
  rw [r_rev rfl]
  try simp only [r1_some, r2_some, r1_none, r_var, r_c, r_op, r_fz, r_bval, r_btru, r_band, r_bor, r_bnot, r_if, r_and, r_or, r_not, r_nil, r_cons, r_tup, r_lst, r_lstN, r_cb, r_is, r_call, r_neg, r_chain, r_ixC, ro_no, ro_some, r_sl, rt_nm, rs_next, rs_ret, rs_seq, rs_if, rs_asg, rs_asgT, rs_par, rt_nil, rt_cons, rt_tp, ri_data, ri_range1, ri_range2, ri_enum, r_comp, startD, look_d, looks_nil, looks_d, datas_nil, datas_d, tru_b, tru_i, List.length_cons, List.length_nil, List.getElem?_cons_zero, List.getElem?_cons_succ, List.set_cons_zero, List.set_cons_succ, Option.map_some, List.map_cons, List.map_nil, Nat.reduceAdd, Nat.reduceSub, Nat.reduceEqDiff, List.reduceReplicate, List.cons_append, List.nil_append, List.append_nil, true_and, and_true, gListOf, i2, i7, isK, gLen_tuple, gAdd_int, i9, i1, i0, e1, gSl_toT, gSl_fromT]
  rw [gAdd_fitT (by rw [List.length_take, List.length_drop]; omega), r1_some]
  try simp only [r1_some, r2_some, r1_none, r_var, r_c, r_op, r_fz, r_bval, r_btru, r_band, r_bor, r_bnot, r_if, r_and, r_or, r_not, r_nil, r_cons, r_tup, r_lst, r_lstN, r_cb, r_is, r_call, r_neg, r_chain, r_ixC, ro_no, ro_some, r_sl, rt_nm, rs_next, rs_ret, rs_seq, rs_if, rs_asg, rs_asgT, rs_par, rt_nil, rt_cons, rt_tp, ri_data, ri_range1, ri_range2, ri_enum, r_comp, startD, look_d, looks_nil, looks_d, datas_nil, datas_d, tru_b, tru_i, List.length_cons, List.length_nil, List.getElem?_cons_zero, List.getElem?_cons_succ, List.set_cons_zero, List.set_cons_succ, Option.map_some, List.map_cons, List.map_nil, Nat.reduceAdd, Nat.reduceSub, Nat.reduceEqDiff, List.reduceReplicate, List.cons_append, List.nil_append, List.append_nil, true_and, and_true, isK, gLen_tuple, gAdd_int, i9, i2, i1, i0, e1, gSl_toT, gSl_fromT, gListOf, i7]
  rw [gAdd_fit (by simp), r1_some]
  try simp only [r1_some, r2_some, r1_none, r_var, r_c, r_op, r_fz, r_bval, r_btru, r_band, r_bor, r_bnot, r_if, r_and, r_or, r_not, r_nil, r_cons, r_tup, r_lst, r_lstN, r_cb, r_is, r_call, r_neg, r_chain, r_ixC, ro_no, ro_some, r_sl, rt_nm, rs_next, rs_ret, rs_seq, rs_if, rs_asg, rs_asgT, rs_par, rt_nil, rt_cons, rt_tp, ri_data, ri_range1, ri_range2, ri_enum, r_comp, startD, look_d, looks_nil, looks_d, datas_nil, datas_d, tru_b, tru_i, List.length_cons, List.length_nil, List.getElem?_cons_zero, List.getElem?_cons_succ, List.set_cons_zero, List.set_cons_succ, Option.map_some, List.map_cons, List.map_nil, Nat.reduceAdd, Nat.reduceSub, Nat.reduceEqDiff, List.reduceReplicate, List.cons_append, List.nil_append, List.append_nil, true_and, and_true, isK, gLen_tuple, gAdd_int, i9, i2, i1, i0, e1, gSl_toT, gSl_fromT, gListOf, i7]
  refine (some_sp (by simp) (by simp) hs).mono fun v s hv => ?_
  obtain ⟨⟨x, hx, rfl⟩, hs⟩ := hv
  try simp only [r1_some, r2_some, r1_none, r_var, r_c, r_op, r_fz, r_bval, r_btru, r_band, r_bor, r_bnot, r_if, r_and, r_or, r_not, r_nil, r_cons, r_tup, r_lst, r_lstN, r_cb, r_is, r_call, r_neg, r_chain, r_ixC, ro_no, ro_some, r_sl, rt_nm, rs_next, rs_ret, rs_seq, rs_if, rs_asg, rs_asgT, rs_par, rt_nil, rt_cons, rt_tp, ri_data, ri_range1, ri_range2, ri_enum, r_comp, startD, look_d, looks_nil, looks_d, datas_nil, datas_d, tru_b, tru_i, List.length_cons, List.length_nil, List.getElem?_cons_zero, List.getElem?_cons_succ, List.set_cons_zero, List.set_cons_succ, Option.map_some, List.map_cons, List.map_nil, Nat.reduceAdd, Nat.reduceSub, Nat.reduceEqDiff, List.reduceReplicate, List.cons_append, List.nil_append, List.append_nil, true_and, and_true, isK, gLen_tuple, gAdd_int, i9, i2, i1, i0, e1, gSl_toT, gSl_fromT, gListOf, i7]
  refine ⟨by rw [hb.len, hs.len]; omega, ⟨x, rfl, ?_⟩, hs⟩
  have mk : ∀ ys : List PyData, (∀ y ∈ ys, y ∈ ds ∨ y = odd) → PyData.weightAll ys ≤ 2 * W + 500 → Nic (k + 2) (j + 1 + 1) (2 * W + 500) (.tuple ys) := fun ys hy hw => by
    refine Nic.tup (fun d hd => ?_) hw
    rcases hy d hd with h | rfl
    · exact ⟨gd_up (by omega) _ (parts d h).1, by have := (parts d h).2; omega⟩
    · exact ⟨gd_up (by omega) _ odd_ok.1, by have := odd_ok.2.1; omega⟩
  have wt1 := weight_take ds z
  have wt2 := weight_drop ds z
  have wt3 := weight_take ds (z + 1)
  have wt4 := weight_drop ds (z + 1)
  have wodd : PyData.weightAll [odd] ≤ 101 := by
    have := odd_ok.2.2
    simp only [PyData.weightAll]
    omega
  have tk : ∀ z y, y ∈ ds.take z → y ∈ ds ∨ y = odd := fun z y h => .inl (List.mem_of_mem_take h)
  have dr : ∀ z y, y ∈ ds.drop z → y ∈ ds ∨ y = odd := fun z y h => .inl (List.mem_of_mem_drop h)
  simp only [List.cons_append, List.nil_append, List.mem_cons, List.not_mem_nil, or_false] at hx
  rcases hx with rfl | rfl | rfl | rfl | rfl | rfl | rfl | rfl | rfl
  · exact mk _ (fun y hy => .inl (List.mem_reverse.mp hy)) (by rw [weight_rev]; omega)
  · exact mk _ (fun y hy => (List.mem_append.mp hy).elim (dr _ y) (tk _ y)) (by rw [weightAll_app]; omega)
  · refine mk _ (fun y hy => ?_) (by rw [weightAll_app, weightAll_app]; omega)
    rcases List.mem_append.mp hy with hy | hy
    · rcases List.mem_append.mp hy with hy | hy
      · exact tk _ y hy
      · exact .inr (List.mem_singleton.mp hy)
    · exact dr _ y hy
  · exact mk _ (fun y hy => (List.mem_append.mp hy).elim (tk _ y) (dr _ y)) (by rw [weightAll_app]; omega)
  · exact mk _ (fun y hy => (List.mem_append.mp hy).elim (tk _ y) (dr _ y)) (by rw [weightAll_app]; omega)
  · exact Nic.list (fun d hd => ⟨gd_up (by omega) _ (parts d hd).1, by have := (parts d hd).2; omega⟩) (by omega)
  · refine Nic.tup (fun d hd => ?_) ?_
    · obtain rfl := List.mem_singleton.mp hd
      exact ⟨gd_up (by omega) _ ok.g, ok.dp⟩
    · simp only [PyData.weightAll, PyData.weight]
      omega
  · exact ⟨rfl, by simp [PyData.depth], by simp [PyData.weight]⟩
  · exact ⟨rfl, by simp [PyData.depth, PyData.depthKv], by simp [PyData.weight, PyData.weightKv]⟩
/-- the first statement: a part is changed, or it goes on -/
theorem bent_first {F : FF} {g : SF} {k n W m : Nat} {d : PyData} (h : BagS rest st) (hW : W ≤ 1000000) (ok : Nic k n W d)
    (fin : ∀ s, BagS rest s → R1 (g [some (.r 0), some (.d d), some (.d (.int m)), none, none, none, none, none, none, none] s) (BQ st rest (k + 2) (n + 1) (2 * W + 500)))
    (deep : ∀ ds, d = .tuple ds → ds ≠ [] → 0 < m → ∀ x ∈ ds, ∀ s, BagS rest s → R2 (F [.r 0, .d x, .d (.int ((m : Int) - 1))] s) fun v s => (∃ y, v = .d y ∧ gd (k + 2) y = true ∧ y.depth ≤ n ∧ y.weight ≤ 2 * x.weight + 500) ∧ BagS rest s) :
    R1 (sSeq (gBent_1 fTake F (fSome fTake) fIsWhole) g [some (.r 0), some (.d d), some (.d (.int m)), none, none, none, none, none, none, none] st) (BQ st rest (k + 2) (n + 1) (2 * W + 500)) := by
  have i1 : (1 : Nat) ≤ sizeLine := by decide
  have i0 : (0 : Nat) ≤ sizeLine := by decide
  unfold gBent_1
  cases ht : isTup d with
  | false =>
    try simp only [r1_some, r2_some, r1_none, r_var, r_c, r_op, r_fz, r_bval, r_btru, r_band, r_bor, r_bnot, r_if, r_and, r_or, r_not, r_nil, r_cons, r_tup, r_lst, r_lstN, r_cb, r_is, r_call, r_neg, r_chain, r_ixC, ro_no, ro_some, r_sl, rt_nm, rs_next, rs_ret, rs_seq, rs_if, rs_asg, rs_asgT, rs_par, rt_nil, rt_cons, rt_tp, ri_data, ri_range1, ri_range2, ri_enum, r_comp, startD, look_d, looks_nil, looks_d, datas_nil, datas_d, tru_b, tru_i, List.length_cons, List.length_nil, List.getElem?_cons_zero, List.getElem?_cons_succ, List.set_cons_zero, List.set_cons_succ, Option.map_some, List.map_cons, List.map_nil, Nat.reduceAdd, Nat.reduceSub, Nat.reduceEqDiff, List.reduceReplicate, List.cons_append, List.nil_append, List.append_nil, true_and, and_true, isK_tup, ht]
    exact fin _ h
  | true =>
    cases d with
    | tuple ds =>
      try simp only [r1_some, r2_some, r1_none, r_var, r_c, r_op, r_fz, r_bval, r_btru, r_band, r_bor, r_bnot, r_if, r_and, r_or, r_not, r_nil, r_cons, r_tup, r_lst, r_lstN, r_cb, r_is, r_call, r_neg, r_chain, r_ixC, ro_no, ro_some, r_sl, rt_nm, rs_next, rs_ret, rs_seq, rs_if, rs_asg, rs_asgT, rs_par, rt_nil, rt_cons, rt_tp, ri_data, ri_range1, ri_range2, ri_enum, r_comp, startD, look_d, looks_nil, looks_d, datas_nil, datas_d, tru_b, tru_i, List.length_cons, List.length_nil, List.getElem?_cons_zero, List.getElem?_cons_succ, List.set_cons_zero, List.set_cons_succ, Option.map_some, List.map_cons, List.map_nil, Nat.reduceAdd, Nat.reduceSub, Nat.reduceEqDiff, List.reduceReplicate, List.cons_append, List.nil_append, List.append_nil, true_and, and_true, isK_tup, ht, i0, gNe_nilT]
      cases ds with
      | nil =>
        simp only [List.isEmpty_nil, Bool.not_true]
        exact fin _ h
      | cons x0 xs =>
        simp only [List.isEmpty_cons, Bool.not_false, gCm_int, lt_int_, r1_some, r2_some, r1_none, r_var, r_c, r_op, r_fz, r_bval, r_btru, r_band, r_bor, r_bnot, r_if, r_and, r_or, r_not, r_nil, r_cons, r_tup, r_lst, r_lstN, r_cb, r_is, r_call, r_neg, r_chain, r_ixC, ro_no, ro_some, r_sl, rt_nm, rs_next, rs_ret, rs_seq, rs_if, rs_asg, rs_asgT, rs_par, rt_nil, rt_cons, rt_tp, ri_data, ri_range1, ri_range2, ri_enum, r_comp, startD, look_d, looks_nil, looks_d, datas_nil, datas_d, tru_b, tru_i, List.length_cons, List.length_nil, List.getElem?_cons_zero, List.getElem?_cons_succ, List.set_cons_zero, List.set_cons_succ, Option.map_some, List.map_cons, List.map_nil, Nat.reduceAdd, Nat.reduceSub, Nat.reduceEqDiff, List.reduceReplicate, List.cons_append, List.nil_append, List.append_nil, true_and, and_true, isK_tup, ht, i0, gNe_nilT]
        by_cases hm : 0 < m
        · simp only [show decide ((0 : Int) < (m : Int)) = true from decide_eq_true (by omega)]
          refine (take_sp (by decide) (by decide) h).mono fun v s hv => ?_
          obtain ⟨⟨z, rfl, z0, z1⟩, hs⟩ := hv
          try simp only [r1_some, r2_some, r1_none, r_var, r_c, r_op, r_fz, r_bval, r_btru, r_band, r_bor, r_bnot, r_if, r_and, r_or, r_not, r_nil, r_cons, r_tup, r_lst, r_lstN, r_cb, r_is, r_call, r_neg, r_chain, r_ixC, ro_no, ro_some, r_sl, rt_nm, rs_next, rs_ret, rs_seq, rs_if, rs_asg, rs_asgT, rs_par, rt_nil, rt_cons, rt_tp, ri_data, ri_range1, ri_range2, ri_enum, r_comp, startD, look_d, looks_nil, looks_d, datas_nil, datas_d, tru_b, tru_i, List.length_cons, List.length_nil, List.getElem?_cons_zero, List.getElem?_cons_succ, List.set_cons_zero, List.set_cons_succ, Option.map_some, List.map_cons, List.map_nil, Nat.reduceAdd, Nat.reduceSub, Nat.reduceEqDiff, List.reduceReplicate, List.cons_append, List.nil_append, List.append_nil, true_and, and_true, gCm_int, lt_int_, isK_tup, ht, i0, gNe_nilT, List.isEmpty_cons, Bool.not_false]
          by_cases hz : 0 < z
          · generalize hds : x0 :: xs = ds at *
            obtain ⟨j, rfl, parts, wt⟩ := ok.parts
            have len : ds.length ≤ 1000000 := Nat.le_trans len_weight (Nat.le_trans wt hW)
            have pos : 0 < ds.length := by rw [← hds]; simp
            simp only [hz, decide_true, gLen_tuple, r1_some, r2_some, r1_none, r_var, r_c, r_op, r_fz, r_bval, r_btru, r_band, r_bor, r_bnot, r_if, r_and, r_or, r_not, r_nil, r_cons, r_tup, r_lst, r_lstN, r_cb, r_is, r_call, r_neg, r_chain, r_ixC, ro_no, ro_some, r_sl, rt_nm, rs_next, rs_ret, rs_seq, rs_if, rs_asg, rs_asgT, rs_par, rt_nil, rt_cons, rt_tp, ri_data, ri_range1, ri_range2, ri_enum, r_comp, startD, look_d, looks_nil, looks_d, datas_nil, datas_d, tru_b, tru_i, List.length_cons, List.length_nil, List.getElem?_cons_zero, List.getElem?_cons_succ, List.set_cons_zero, List.set_cons_succ, Option.map_some, List.map_cons, List.map_nil, Nat.reduceAdd, Nat.reduceSub, Nat.reduceEqDiff, List.reduceReplicate, List.cons_append, List.nil_append, List.append_nil, true_and, and_true, isK_tup, ht, i0, gNe_nilT, List.isEmpty_cons, Bool.not_false, gCm_int, lt_int_]
            refine (take_sp (by omega) (by omega) hs).mono fun v s hv => ?_
            obtain ⟨⟨z, rfl, z0, z1⟩, hs⟩ := hv
            try simp only [r1_some, r2_some, r1_none, r_var, r_c, r_op, r_fz, r_bval, r_btru, r_band, r_bor, r_bnot, r_if, r_and, r_or, r_not, r_nil, r_cons, r_tup, r_lst, r_lstN, r_cb, r_is, r_call, r_neg, r_chain, r_ixC, ro_no, ro_some, r_sl, rt_nm, rs_next, rs_ret, rs_seq, rs_if, rs_asg, rs_asgT, rs_par, rt_nil, rt_cons, rt_tp, ri_data, ri_range1, ri_range2, ri_enum, r_comp, startD, look_d, looks_nil, looks_d, datas_nil, datas_d, tru_b, tru_i, List.length_cons, List.length_nil, List.getElem?_cons_zero, List.getElem?_cons_succ, List.set_cons_zero, List.set_cons_succ, Option.map_some, List.map_cons, List.map_nil, Nat.reduceAdd, Nat.reduceSub, Nat.reduceEqDiff, List.reduceReplicate, List.cons_append, List.nil_append, List.append_nil, true_and, and_true, isK_tup, ht, i0, gNe_nilT, List.isEmpty_cons, Bool.not_false, gCm_int, lt_int_, hz, decide_true, gLen_tuple]
            obtain ⟨z, rfl⟩ := Int.eq_ofNat_of_zero_le z0
            have hz' : z < ds.length := by omega
            have e1 : ((z : Int) + 1) = ((z + 1 : Nat) : Int) := by omega
            have at_ : atI ds (z : Int) = some ds[z] := by rw [atI_nat_, List.getElem?_eq_getElem hz']
            try simp only [r1_some, r2_some, r1_none, r_var, r_c, r_op, r_fz, r_bval, r_btru, r_band, r_bor, r_bnot, r_if, r_and, r_or, r_not, r_nil, r_cons, r_tup, r_lst, r_lstN, r_cb, r_is, r_call, r_neg, r_chain, r_ixC, ro_no, ro_some, r_sl, rt_nm, rs_next, rs_ret, rs_seq, rs_if, rs_asg, rs_asgT, rs_par, rt_nil, rt_cons, rt_tp, ri_data, ri_range1, ri_range2, ri_enum, r_comp, startD, look_d, looks_nil, looks_d, datas_nil, datas_d, tru_b, tru_i, List.length_cons, List.length_nil, List.getElem?_cons_zero, List.getElem?_cons_succ, List.set_cons_zero, List.set_cons_succ, Option.map_some, List.map_cons, List.map_nil, Nat.reduceAdd, Nat.reduceSub, Nat.reduceEqDiff, List.reduceReplicate, List.cons_append, List.nil_append, List.append_nil, true_and, and_true, gSl_toT, gIx_tuple, at_, gSub_int, isK_tup, ht, i0, gNe_nilT, List.isEmpty_cons, Bool.not_false, gCm_int, lt_int_, hz, decide_true, gLen_tuple]
            refine (deep ds rfl (by rw [← hds]; simp) hm ds[z] (List.getElem_mem hz') s hs).mono fun v s hv => ?_
            obtain ⟨⟨y, rfl, yg, yd, yw⟩, hs⟩ := hv
            try simp only [r1_some, r2_some, r1_none, r_var, r_c, r_op, r_fz, r_bval, r_btru, r_band, r_bor, r_bnot, r_if, r_and, r_or, r_not, r_nil, r_cons, r_tup, r_lst, r_lstN, r_cb, r_is, r_call, r_neg, r_chain, r_ixC, ro_no, ro_some, r_sl, rt_nm, rs_next, rs_ret, rs_seq, rs_if, rs_asg, rs_asgT, rs_par, rt_nil, rt_cons, rt_tp, ri_data, ri_range1, ri_range2, ri_enum, r_comp, startD, look_d, looks_nil, looks_d, datas_nil, datas_d, tru_b, tru_i, List.length_cons, List.length_nil, List.getElem?_cons_zero, List.getElem?_cons_succ, List.set_cons_zero, List.set_cons_succ, Option.map_some, List.map_cons, List.map_nil, Nat.reduceAdd, Nat.reduceSub, Nat.reduceEqDiff, List.reduceReplicate, List.cons_append, List.nil_append, List.append_nil, true_and, and_true, i1, isK_tup, ht, i0, gNe_nilT, List.isEmpty_cons, Bool.not_false, gCm_int, lt_int_, hz, decide_true, gLen_tuple, gSl_toT, gIx_tuple, at_, gSub_int]
            rw [gAdd_fitT (by rw [List.length_take, List.length_singleton]; omega), r1_some]
            try simp only [r1_some, r2_some, r1_none, r_var, r_c, r_op, r_fz, r_bval, r_btru, r_band, r_bor, r_bnot, r_if, r_and, r_or, r_not, r_nil, r_cons, r_tup, r_lst, r_lstN, r_cb, r_is, r_call, r_neg, r_chain, r_ixC, ro_no, ro_some, r_sl, rt_nm, rs_next, rs_ret, rs_seq, rs_if, rs_asg, rs_asgT, rs_par, rt_nil, rt_cons, rt_tp, ri_data, ri_range1, ri_range2, ri_enum, r_comp, startD, look_d, looks_nil, looks_d, datas_nil, datas_d, tru_b, tru_i, List.length_cons, List.length_nil, List.getElem?_cons_zero, List.getElem?_cons_succ, List.set_cons_zero, List.set_cons_succ, Option.map_some, List.map_cons, List.map_nil, Nat.reduceAdd, Nat.reduceSub, Nat.reduceEqDiff, List.reduceReplicate, List.cons_append, List.nil_append, List.append_nil, true_and, and_true, gAdd_int, e1, gSl_fromT, isK_tup, ht, i0, gNe_nilT, List.isEmpty_cons, Bool.not_false, gCm_int, lt_int_, hz, decide_true, gLen_tuple, gSl_toT, gIx_tuple, at_, gSub_int, i1]
            rw [gAdd_fitT (by rw [List.length_append, List.length_take, List.length_drop, List.length_singleton]; omega), r1_some]
            try simp only [r1_some, r2_some, r1_none, r_var, r_c, r_op, r_fz, r_bval, r_btru, r_band, r_bor, r_bnot, r_if, r_and, r_or, r_not, r_nil, r_cons, r_tup, r_lst, r_lstN, r_cb, r_is, r_call, r_neg, r_chain, r_ixC, ro_no, ro_some, r_sl, rt_nm, rs_next, rs_ret, rs_seq, rs_if, rs_asg, rs_asgT, rs_par, rt_nil, rt_cons, rt_tp, ri_data, ri_range1, ri_range2, ri_enum, r_comp, startD, look_d, looks_nil, looks_d, datas_nil, datas_d, tru_b, tru_i, List.length_cons, List.length_nil, List.getElem?_cons_zero, List.getElem?_cons_succ, List.set_cons_zero, List.set_cons_succ, Option.map_some, List.map_cons, List.map_nil, Nat.reduceAdd, Nat.reduceSub, Nat.reduceEqDiff, List.reduceReplicate, List.cons_append, List.nil_append, List.append_nil, true_and, and_true, isK_tup, ht, i0, gNe_nilT, List.isEmpty_cons, Bool.not_false, gCm_int, lt_int_, hz, decide_true, gLen_tuple, gSl_toT, gIx_tuple, at_, gSub_int, i1, gAdd_int, e1, gSl_fromT]
            refine ⟨by rw [h.len, hs.len]; omega, ⟨_, rfl, Nic.tup (fun d hd => ?_) ?_⟩, hs⟩
            · rcases List.mem_append.mp hd with hd | hd
              · rcases List.mem_append.mp hd with hd | hd
                · have := parts d (List.mem_of_mem_take hd)
                  exact ⟨gd_up (by omega) _ this.1, by omega⟩
                · obtain rfl := List.mem_singleton.mp hd
                  exact ⟨yg, yd⟩
              · have := parts d (List.mem_of_mem_drop hd)
                exact ⟨gd_up (by omega) _ this.1, by omega⟩
            · have sp := weight_split ds z
              rw [List.drop_eq_getElem_cons hz'] at sp
              simp only [PyData.weightAll] at sp
              rw [weightAll_app, weightAll_app]
              simp only [PyData.weightAll]
              omega
          · simp only [hz, decide_false]
            exact fin _ hs
        · simp only [show decide ((0 : Int) < (m : Int)) = false from decide_eq_false (by omega)]
          exact fin _ h
    | _ => cases ht
/-- any value, changed -/
theorem bent_sp : ∀ (m : Nat) (st : Sto) (k n W : Nat) (d : PyData), k ≤ 50 → W ≤ 1000000 → BagS rest st → Nic k n W d → R2 (fBen (m + 1) [.r 0, .d d, .d (.int m)] st) fun v s => (∃ d, v = .d d ∧ Nic (k + 2) (n + 1) (2 * W + 500) d) ∧ BagS rest s := by
  intro m
  have tail : ∀ (F : FF) (m k n W : Nat) (d : PyData) (st s : Sto), k ≤ 50 → W ≤ 1000000 → BagS rest st → BagS rest s → Nic k n W d → R1 (sSeq (gBent_2 fTake F (fSome fTake) fIsWhole) (benTail F) [some (.r 0), some (.d d), some (.d (.int m)), none, none, none, none, none, none, none] s) (BQ st rest (k + 2) (n + 1) (2 * W + 500)) := by
    intro F m k n W d st s hk hW h hs ok
    cases ht : isTup d with
    | true =>
      cases d with
      | tuple ds => exact bent_here h hs hk hW ok
      | _ => cases ht
    | false =>
      unfold gBent_2
      try simp only [r1_some, r2_some, r1_none, r_var, r_c, r_op, r_fz, r_bval, r_btru, r_band, r_bor, r_bnot, r_if, r_and, r_or, r_not, r_nil, r_cons, r_tup, r_lst, r_lstN, r_cb, r_is, r_call, r_neg, r_chain, r_ixC, ro_no, ro_some, r_sl, rt_nm, rs_next, rs_ret, rs_seq, rs_if, rs_asg, rs_asgT, rs_par, rt_nil, rt_cons, rt_tp, ri_data, ri_range1, ri_range2, ri_enum, r_comp, startD, look_d, looks_nil, looks_d, datas_nil, datas_d, tru_b, tru_i, List.length_cons, List.length_nil, List.getElem?_cons_zero, List.getElem?_cons_succ, List.set_cons_zero, List.set_cons_succ, Option.map_some, List.map_cons, List.map_nil, Nat.reduceAdd, Nat.reduceSub, Nat.reduceEqDiff, List.reduceReplicate, List.cons_append, List.nil_append, List.append_nil, true_and, and_true, isK_tup, ht]
      exact bent_leaf h hs hk ht ok
  induction m with
  | zero =>
    intro st k n W d hk hW h ok
    refine rf_of ?_
    show R1 (sSeq (gBent_1 fTake (fBen 0) (fSome fTake) fIsWhole) (sSeq (gBent_2 fTake (fBen 0) (fSome fTake) fIsWhole) (benTail (fBen 0))) (startD nBent [.r 0, .d d, .d (.int (0 : Nat))]) st) _
    refine (bent_first (m := 0) h hW ok (fun s hs => tail (fBen 0) 0 k n W d st s hk hW h hs ok) ?_).mono fun o ho => by cases o <;> first | exact ho | exact ho.elim
    intro _ _ _ hm
    omega
  | succ m ih =>
    intro st k n W d hk hW h ok
    refine rf_of ?_
    show R1 (sSeq (gBent_1 fTake (fBen (m + 1)) (fSome fTake) fIsWhole) (sSeq (gBent_2 fTake (fBen (m + 1)) (fSome fTake) fIsWhole) (benTail (fBen (m + 1)))) (startD nBent [.r 0, .d d, .d (.int ((m + 1 : Nat) : Int))]) st) _
    refine (bent_first (m := m + 1) h hW ok (fun s hs => tail (fBen (m + 1)) (m + 1) k n W d st s hk hW h hs ok) ?_).mono fun o ho => by cases o <;> first | exact ho | exact ho.elim
    intro ds hd _ _ x hx s hs
    subst hd
    obtain ⟨j, rfl, parts, wt⟩ := ok.parts
    have wx := weight_mem hx
    rw [show ((m + 1 : Nat) : Int) - 1 = (m : Int) by omega]
    refine (ih s k j x.weight x hk (by omega) hs ⟨(parts x hx).1, (parts x hx).2, Nat.le_refl _⟩).mono fun v s hv => ?_
    obtain ⟨⟨y, rfl, oy⟩, hs⟩ := hv
    exact ⟨⟨y, rfl, oy.g, oy.dp, oy.wt⟩, hs⟩
end D01

set_option Elab.async false
set_option linter.all false
set_option maxRecDepth 100000
set_option maxHeartbeats 4000000
namespace D01
open PySem PySem.Spec PyProof.Rows L2 Pg Dl
variable {rest st s : Sto}
/-! the integers 0 and 1 in nested tuples -/
mutual
def un : PyData → Nat
  | .int i => if 0 ≤ i ∧ i ≤ 1 then 1 else 0
  | .tuple xs => unA xs
  | _ => 0
def unA : List PyData → Nat
  | [] => 0
  | x :: xs => un x + unA xs
end
mutual
theorem un_le : ∀ d : PyData, un d ≤ d.weight + 1
  | .int i => by
    simp only [un]
    split <;> omega
  | .tuple xs => by
    have := unA_le xs
    simp only [un, PyData.weight]
    omega
  | .none => by simp [un]
  | .bool _ => by simp [un]
  | .str _ => by simp [un]
  | .list _ => by simp [un]
  | .dict _ => by simp [un]
theorem unA_le : ∀ xs : List PyData, unA xs ≤ PyData.weightAll xs
  | [] => by simp [unA]
  | x :: xs => by
    have h1 := un_le x
    have h2 := unA_le xs
    simp only [unA, PyData.weightAll]
    omega
end
theorem intsD_map (ns : List Int) : intsD (ns.map .int) = some ns := by
  induction ns with
  | nil => rfl
  | cons n ns ih =>
    show (intsD (ns.map .int)).map (n :: ·) = _
    rw [ih]
    rfl
theorem unA_sum : ∀ xs : List PyData, (xs.map fun x => (un x : Int)).sum = (unA xs : Int)
  | [] => rfl
  | x :: xs => by
    rw [List.map_cons, List.sum_cons, unA_sum xs]
    simp only [unA]
    omega
noncomputable def fUn : Nat → FF
  | 0 => fun _ _ => none
  | n + 1 => fUnits (fUn n) fIsWhole
theorem whole_le (i : Int) : gCm (fun d e => !PySem.W.dataLt e d) (.int 0) (.int i) = some (.bool (decide (0 ≤ i))) := by
  rw [gCm_int, lt_int_]
  by_cases h : i < 0
  · rw [decide_eq_true h, decide_eq_false (by omega)]
    rfl
  · rw [decide_eq_false h, decide_eq_true (by omega)]
    rfl
theorem le_one (i : Int) : gCm (fun d e => !PySem.W.dataLt e d) (.int i) (.int 1) = some (.bool (decide (i ≤ 1))) := by
  rw [gCm_int, lt_int_]
  by_cases h : 1 < i
  · rw [decide_eq_true h, decide_eq_false (by omega)]
    rfl
  · rw [decide_eq_false h, decide_eq_true (by omega)]
    rfl
theorem units_leaf {F : FF} {d : PyData} (ht : isTup d = false) : R1 (gUnits F fIsWhole [some (.d d), none] st) fun o => o = .rt (.d (.int (un d))) st := by
  unfold gUnits gUnits_1 gUnits_2
  try simp only [r1_some, r2_some, r1_none, r_var, r_c, r_op, r_fz, r_bval, r_btru, r_band, r_bor, r_bnot, r_if, r_and, r_or, r_not, r_nil, r_cons, r_tup, r_lst, r_lstN, r_cb, r_is, r_call, r_neg, r_chain, r_ixC, ro_no, ro_some, r_sl, rt_nm, rs_next, rs_ret, rs_seq, rs_if, rs_asg, rs_asgT, rs_par, rt_nil, rt_cons, rt_tp, ri_data, ri_range1, ri_range2, ri_enum, r_comp, startD, look_d, looks_nil, looks_d, datas_nil, datas_d, tru_b, tru_i, List.length_cons, List.length_nil, List.getElem?_cons_zero, List.getElem?_cons_succ, List.set_cons_zero, List.set_cons_succ, Option.map_some, List.map_cons, List.map_nil, Nat.reduceAdd, Nat.reduceSub, Nat.reduceEqDiff, List.reduceReplicate, List.cons_append, List.nil_append, List.append_nil, true_and, and_true, isK_tup, ht]
  refine whole_sp.mono fun v s1 hv => ?_
  obtain ⟨rfl, rfl⟩ := hv
  try simp only [r1_some, r2_some, r1_none, r_var, r_c, r_op, r_fz, r_bval, r_btru, r_band, r_bor, r_bnot, r_if, r_and, r_or, r_not, r_nil, r_cons, r_tup, r_lst, r_lstN, r_cb, r_is, r_call, r_neg, r_chain, r_ixC, ro_no, ro_some, r_sl, rt_nm, rs_next, rs_ret, rs_seq, rs_if, rs_asg, rs_asgT, rs_par, rt_nil, rt_cons, rt_tp, ri_data, ri_range1, ri_range2, ri_enum, r_comp, startD, look_d, looks_nil, looks_d, datas_nil, datas_d, tru_b, tru_i, List.length_cons, List.length_nil, List.getElem?_cons_zero, List.getElem?_cons_succ, List.set_cons_zero, List.set_cons_succ, Option.map_some, List.map_cons, List.map_nil, Nat.reduceAdd, Nat.reduceSub, Nat.reduceEqDiff, List.reduceReplicate, List.cons_append, List.nil_append, List.append_nil, true_and, and_true, isK_tup, ht]
  cases d with
  | int i =>
    try simp only [r1_some, r2_some, r1_none, r_var, r_c, r_op, r_fz, r_bval, r_btru, r_band, r_bor, r_bnot, r_if, r_and, r_or, r_not, r_nil, r_cons, r_tup, r_lst, r_lstN, r_cb, r_is, r_call, r_neg, r_chain, r_ixC, ro_no, ro_some, r_sl, rt_nm, rs_next, rs_ret, rs_seq, rs_if, rs_asg, rs_asgT, rs_par, rt_nil, rt_cons, rt_tp, ri_data, ri_range1, ri_range2, ri_enum, r_comp, startD, look_d, looks_nil, looks_d, datas_nil, datas_d, tru_b, tru_i, List.length_cons, List.length_nil, List.getElem?_cons_zero, List.getElem?_cons_succ, List.set_cons_zero, List.set_cons_succ, Option.map_some, List.map_cons, List.map_nil, Nat.reduceAdd, Nat.reduceSub, Nat.reduceEqDiff, List.reduceReplicate, List.cons_append, List.nil_append, List.append_nil, true_and, and_true, isWh, whole_le, le_one, isK_tup, ht]
    by_cases h0 : 0 ≤ i
    · try simp only [r1_some, r2_some, r1_none, r_var, r_c, r_op, r_fz, r_bval, r_btru, r_band, r_bor, r_bnot, r_if, r_and, r_or, r_not, r_nil, r_cons, r_tup, r_lst, r_lstN, r_cb, r_is, r_call, r_neg, r_chain, r_ixC, ro_no, ro_some, r_sl, rt_nm, rs_next, rs_ret, rs_seq, rs_if, rs_asg, rs_asgT, rs_par, rt_nil, rt_cons, rt_tp, ri_data, ri_range1, ri_range2, ri_enum, r_comp, startD, look_d, looks_nil, looks_d, datas_nil, datas_d, tru_b, tru_i, List.length_cons, List.length_nil, List.getElem?_cons_zero, List.getElem?_cons_succ, List.set_cons_zero, List.set_cons_succ, Option.map_some, List.map_cons, List.map_nil, Nat.reduceAdd, Nat.reduceSub, Nat.reduceEqDiff, List.reduceReplicate, List.cons_append, List.nil_append, List.append_nil, true_and, and_true, h0, decide_true, le_one, gInt, isK_tup, ht, isWh, whole_le]
      by_cases h1 : i ≤ 1 <;> simp [un, h0, h1]
    · try simp only [r1_some, r2_some, r1_none, r_var, r_c, r_op, r_fz, r_bval, r_btru, r_band, r_bor, r_bnot, r_if, r_and, r_or, r_not, r_nil, r_cons, r_tup, r_lst, r_lstN, r_cb, r_is, r_call, r_neg, r_chain, r_ixC, ro_no, ro_some, r_sl, rt_nm, rs_next, rs_ret, rs_seq, rs_if, rs_asg, rs_asgT, rs_par, rt_nil, rt_cons, rt_tp, ri_data, ri_range1, ri_range2, ri_enum, r_comp, startD, look_d, looks_nil, looks_d, datas_nil, datas_d, tru_b, tru_i, List.length_cons, List.length_nil, List.getElem?_cons_zero, List.getElem?_cons_succ, List.set_cons_zero, List.set_cons_succ, Option.map_some, List.map_cons, List.map_nil, Nat.reduceAdd, Nat.reduceSub, Nat.reduceEqDiff, List.reduceReplicate, List.cons_append, List.nil_append, List.append_nil, true_and, and_true, h0, decide_false, gInt, isK_tup, ht, isWh, whole_le, le_one]
      simp [un, h0]
  | tuple _ => cases ht
  | _ => 
    try simp only [r1_some, r2_some, r1_none, r_var, r_c, r_op, r_fz, r_bval, r_btru, r_band, r_bor, r_bnot, r_if, r_and, r_or, r_not, r_nil, r_cons, r_tup, r_lst, r_lstN, r_cb, r_is, r_call, r_neg, r_chain, r_ixC, ro_no, ro_some, r_sl, rt_nm, rs_next, rs_ret, rs_seq, rs_if, rs_asg, rs_asgT, rs_par, rt_nil, rt_cons, rt_tp, ri_data, ri_range1, ri_range2, ri_enum, r_comp, startD, look_d, looks_nil, looks_d, datas_nil, datas_d, tru_b, tru_i, List.length_cons, List.length_nil, List.getElem?_cons_zero, List.getElem?_cons_succ, List.set_cons_zero, List.set_cons_succ, Option.map_some, List.map_cons, List.map_nil, Nat.reduceAdd, Nat.reduceSub, Nat.reduceEqDiff, List.reduceReplicate, List.cons_append, List.nil_append, List.append_nil, true_and, and_true, isWh, gInt, isK_tup, ht]
    simp [un]
theorem units_sp : ∀ (n : Nat) (d : PyData) (st : Sto), d.depth < n → d.weight ≤ 1000000 → R2 (fUn n [.d d] st) fun v s => v = .d (.int (un d)) ∧ s = st := by
  intro n
  induction n with
  | zero => intro d st h _; omega
  | succ n ih =>
    intro d st h hw
    refine rf_of ?_
    show R1 (gUnits (fUn n) fIsWhole [some (.d d), none] st) _
    cases ht : isTup d with
    | false => exact (units_leaf ht).mono fun o ho => by subst ho; exact ⟨Nat.le_refl _, rfl, rfl⟩
    | true =>
      cases d with
      | tuple xs =>
        unfold gUnits gUnits_1
        try simp only [r1_some, r2_some, r1_none, r_var, r_c, r_op, r_fz, r_bval, r_btru, r_band, r_bor, r_bnot, r_if, r_and, r_or, r_not, r_nil, r_cons, r_tup, r_lst, r_lstN, r_cb, r_is, r_call, r_neg, r_chain, r_ixC, ro_no, ro_some, r_sl, rt_nm, rs_next, rs_ret, rs_seq, rs_if, rs_asg, rs_asgT, rs_par, rt_nil, rt_cons, rt_tp, ri_data, ri_range1, ri_range2, ri_enum, r_comp, startD, look_d, looks_nil, looks_d, datas_nil, datas_d, tru_b, tru_i, List.length_cons, List.length_nil, List.getElem?_cons_zero, List.getElem?_cons_succ, List.set_cons_zero, List.set_cons_succ, Option.map_some, List.map_cons, List.map_nil, Nat.reduceAdd, Nat.reduceSub, Nat.reduceEqDiff, List.reduceReplicate, List.cons_append, List.nil_append, List.append_nil, true_and, and_true, isK_tup, ht]
        have dep : ∀ x ∈ xs, x.depth < n := fun x hx => by
          simp only [PyData.depth] at h
          have := depthAll_iff.mp (Nat.le_refl (PyData.depthAll xs)) x hx
          omega
        have e := comp_told (st := st) (t := tNm 1) (a := eCall 1 (fUn n) (aCons (eVar 1) aNil)) (ρ := wipeD [some (.d (.tuple xs)), none] [1])
          (h := fun v => match v with
            | .d x => .int (un x)
            | _ => .none) (items := xs.map .d) fun v hv => by
          obtain ⟨x, hx, rfl⟩ := List.mem_map.mp hv
          simp only [wipeD, r1_some, r2_some, r1_none, r_var, r_c, r_op, r_fz, r_bval, r_btru, r_band, r_bor, r_bnot, r_if, r_and, r_or, r_not, r_nil, r_cons, r_tup, r_lst, r_lstN, r_cb, r_is, r_call, r_neg, r_chain, r_ixC, ro_no, ro_some, r_sl, rt_nm, rs_next, rs_ret, rs_seq, rs_if, rs_asg, rs_asgT, rs_par, rt_nil, rt_cons, rt_tp, ri_data, ri_range1, ri_range2, ri_enum, r_comp, startD, look_d, looks_nil, looks_d, datas_nil, datas_d, tru_b, tru_i, List.length_cons, List.length_nil, List.getElem?_cons_zero, List.getElem?_cons_succ, List.set_cons_zero, List.set_cons_succ, Option.map_some, List.map_cons, List.map_nil, Nat.reduceAdd, Nat.reduceSub, Nat.reduceEqDiff, List.reduceReplicate, List.cons_append, List.nil_append, List.append_nil, true_and, and_true, isK_tup, ht]
          have := weight_mem hx
          simp only [PyData.weight] at hw
          exact ih x st (dep x hx) (by omega)
        rw [e, r2_some, datas_map, r1_some]
        try simp only [r1_some, r2_some, r1_none, r_var, r_c, r_op, r_fz, r_bval, r_btru, r_band, r_bor, r_bnot, r_if, r_and, r_or, r_not, r_nil, r_cons, r_tup, r_lst, r_lstN, r_cb, r_is, r_call, r_neg, r_chain, r_ixC, ro_no, ro_some, r_sl, rt_nm, rs_next, rs_ret, rs_seq, rs_if, rs_asg, rs_asgT, rs_par, rt_nil, rt_cons, rt_tp, ri_data, ri_range1, ri_range2, ri_enum, r_comp, startD, look_d, looks_nil, looks_d, datas_nil, datas_d, tru_b, tru_i, List.length_cons, List.length_nil, List.getElem?_cons_zero, List.getElem?_cons_succ, List.set_cons_zero, List.set_cons_succ, Option.map_some, List.map_cons, List.map_nil, Nat.reduceAdd, Nat.reduceSub, Nat.reduceEqDiff, List.reduceReplicate, List.cons_append, List.nil_append, List.append_nil, true_and, and_true, isK_tup, ht]
        have len : xs.length ≤ 1000000 := Nat.le_trans len_weight (by simpa only [PyData.weight] using hw)
        have g : gSum [.list ((xs.map Vd.d).map fun v => match v with
            | .d x => .int (un x)
            | _ => .none)] = some (.int (unA xs)) := by
          have : ((xs.map Vd.d).map fun v => match v with
            | .d x => PyData.int (un x)
            | _ => .none) = (xs.map fun x => (un x : Int)).map .int := by
            rw [List.map_map, List.map_map]
            rfl
          rw [this]
          unfold gSum
          dsimp only
          rw [intsD_map, ← unA_sum]
          rfl
        refine ⟨by rw [List.length_map, List.length_map]; omega, ?_⟩
        try simp only [r1_some, r2_some, r1_none, r_var, r_c, r_op, r_fz, r_bval, r_btru, r_band, r_bor, r_bnot, r_if, r_and, r_or, r_not, r_nil, r_cons, r_tup, r_lst, r_lstN, r_cb, r_is, r_call, r_neg, r_chain, r_ixC, ro_no, ro_some, r_sl, rt_nm, rs_next, rs_ret, rs_seq, rs_if, rs_asg, rs_asgT, rs_par, rt_nil, rt_cons, rt_tp, ri_data, ri_range1, ri_range2, ri_enum, r_comp, startD, look_d, looks_nil, looks_d, datas_nil, datas_d, tru_b, tru_i, List.length_cons, List.length_nil, List.getElem?_cons_zero, List.getElem?_cons_succ, List.set_cons_zero, List.set_cons_succ, Option.map_some, List.map_cons, List.map_nil, Nat.reduceAdd, Nat.reduceSub, Nat.reduceEqDiff, List.reduceReplicate, List.cons_append, List.nil_append, List.append_nil, true_and, and_true, g, isK_tup, ht]
        exact ⟨Nat.le_refl _, by simp only [un]⟩
      | _ => cases ht
/-! one of them as a truth -/
noncomputable def fWt : Nat → FF
  | 0 => fun _ _ => none
  | n + 1 => fWithTruth (fWt n) fIsWhole
def WT (k : Nat) (c : Nat) (d : PyData) (st : Sto) (v : Vd) (s : Sto) : Prop := (∃ e, v = .d e ∧ gd k e = true ∧ e.depth ≤ d.depth ∧ e.weight ≤ d.weight) ∧ ∃ z : Int, s = st.set c (.lst [.d (.int z)])
theorem truth_leaf {F : FF} {k c : Nat} {z : Int} {d : PyData} (ht : isTup d = false) (hg : gd k d = true) (hc : st[c]? = some (.lst [.d (.int z)])) :
    R1 (gWithTruth F fIsWhole [some (.d d), some (.r c), none] st) fun o => match o with
      | .rt v s => st.length ≤ s.length ∧ WT k c d st v s
      | _ => False := by
  have same : ∃ z : Int, st = st.set c (.lst [.d (.int z)]) := by
    obtain ⟨h, e⟩ := List.getElem?_eq_some_iff.mp hc
    exact ⟨z, by rw [← e, List.set_getElem_self]⟩
  have hlen : c < st.length := (List.getElem?_eq_some_iff.mp hc).1
  unfold gWithTruth gWithTruth_1 gWithTruth_2 gWithTruth_3
  try simp only [r1_some, r2_some, r1_none, r_var, r_c, r_op, r_fz, r_bval, r_btru, r_band, r_bor, r_bnot, r_if, r_and, r_or, r_not, r_nil, r_cons, r_tup, r_lst, r_lstN, r_cb, r_is, r_call, r_neg, r_chain, r_ixC, ro_no, ro_some, r_sl, rt_nm, rs_next, rs_ret, rs_seq, rs_if, rs_asg, rs_asgT, rs_par, rt_nil, rt_cons, rt_tp, ri_data, ri_range1, ri_range2, ri_enum, r_comp, startD, look_d, looks_nil, looks_d, datas_nil, datas_d, tru_b, tru_i, List.length_cons, List.length_nil, List.getElem?_cons_zero, List.getElem?_cons_succ, List.set_cons_zero, List.set_cons_succ, Option.map_some, List.map_cons, List.map_nil, Nat.reduceAdd, Nat.reduceSub, Nat.reduceEqDiff, List.reduceReplicate, List.cons_append, List.nil_append, List.append_nil, true_and, and_true, isK_tup, ht]
  refine whole_sp.mono fun v s1 hv => ?_
  obtain ⟨rfl, rfl⟩ := hv
  try simp only [r1_some, r2_some, r1_none, r_var, r_c, r_op, r_fz, r_bval, r_btru, r_band, r_bor, r_bnot, r_if, r_and, r_or, r_not, r_nil, r_cons, r_tup, r_lst, r_lstN, r_cb, r_is, r_call, r_neg, r_chain, r_ixC, ro_no, ro_some, r_sl, rt_nm, rs_next, rs_ret, rs_seq, rs_if, rs_asg, rs_asgT, rs_par, rt_nil, rt_cons, rt_tp, ri_data, ri_range1, ri_range2, ri_enum, r_comp, startD, look_d, looks_nil, looks_d, datas_nil, datas_d, tru_b, tru_i, List.length_cons, List.length_nil, List.getElem?_cons_zero, List.getElem?_cons_succ, List.set_cons_zero, List.set_cons_succ, Option.map_some, List.map_cons, List.map_nil, Nat.reduceAdd, Nat.reduceSub, Nat.reduceEqDiff, List.reduceReplicate, List.cons_append, List.nil_append, List.append_nil, true_and, and_true, isK_tup, ht]
  have stay : WT k c d s1 (.d d) s1 := ⟨⟨d, rfl, hg, Nat.le_refl _, Nat.le_refl _⟩, same⟩
  cases d with
  | int i =>
    try simp only [r1_some, r2_some, r1_none, r_var, r_c, r_op, r_fz, r_bval, r_btru, r_band, r_bor, r_bnot, r_if, r_and, r_or, r_not, r_nil, r_cons, r_tup, r_lst, r_lstN, r_cb, r_is, r_call, r_neg, r_chain, r_ixC, ro_no, ro_some, r_sl, rt_nm, rs_next, rs_ret, rs_seq, rs_if, rs_asg, rs_asgT, rs_par, rt_nil, rt_cons, rt_tp, ri_data, ri_range1, ri_range2, ri_enum, r_comp, startD, look_d, looks_nil, looks_d, datas_nil, datas_d, tru_b, tru_i, List.length_cons, List.length_nil, List.getElem?_cons_zero, List.getElem?_cons_succ, List.set_cons_zero, List.set_cons_succ, Option.map_some, List.map_cons, List.map_nil, Nat.reduceAdd, Nat.reduceSub, Nat.reduceEqDiff, List.reduceReplicate, List.cons_append, List.nil_append, List.append_nil, true_and, and_true, isWh, whole_le, le_one, isK_tup, ht]
    by_cases h0 : 0 ≤ i
    · try simp only [r1_some, r2_some, r1_none, r_var, r_c, r_op, r_fz, r_bval, r_btru, r_band, r_bor, r_bnot, r_if, r_and, r_or, r_not, r_nil, r_cons, r_tup, r_lst, r_lstN, r_cb, r_is, r_call, r_neg, r_chain, r_ixC, ro_no, ro_some, r_sl, rt_nm, rs_next, rs_ret, rs_seq, rs_if, rs_asg, rs_asgT, rs_par, rt_nil, rt_cons, rt_tp, ri_data, ri_range1, ri_range2, ri_enum, r_comp, startD, look_d, looks_nil, looks_d, datas_nil, datas_d, tru_b, tru_i, List.length_cons, List.length_nil, List.getElem?_cons_zero, List.getElem?_cons_succ, List.set_cons_zero, List.set_cons_succ, Option.map_some, List.map_cons, List.map_nil, Nat.reduceAdd, Nat.reduceSub, Nat.reduceEqDiff, List.reduceReplicate, List.cons_append, List.nil_append, List.append_nil, true_and, and_true, h0, decide_true, le_one, isK_tup, ht, isWh, whole_le]
      by_cases h1 : i ≤ 1
      · try simp only [r1_some, r2_some, r1_none, r_var, r_c, r_op, r_fz, r_bval, r_btru, r_band, r_bor, r_bnot, r_if, r_and, r_or, r_not, r_nil, r_cons, r_tup, r_lst, r_lstN, r_cb, r_is, r_call, r_neg, r_chain, r_ixC, ro_no, ro_some, r_sl, rt_nm, rs_next, rs_ret, rs_seq, rs_if, rs_asg, rs_asgT, rs_par, rt_nil, rt_cons, rt_tp, ri_data, ri_range1, ri_range2, ri_enum, r_comp, startD, look_d, looks_nil, looks_d, datas_nil, datas_d, tru_b, tru_i, List.length_cons, List.length_nil, List.getElem?_cons_zero, List.getElem?_cons_succ, List.set_cons_zero, List.set_cons_succ, Option.map_some, List.map_cons, List.map_nil, Nat.reduceAdd, Nat.reduceSub, Nat.reduceEqDiff, List.reduceReplicate, List.cons_append, List.nil_append, List.append_nil, true_and, and_true, h1, decide_true, isK_tup, ht, isWh, whole_le, le_one, h0]
        rw [rs_augI (n := c) (j := 0) (i := 0) (u := z) (w := 1) (s1 := s1) (s2 := s1) (xs := [.d (.int z)]) rfl rfl hc rfl rfl rfl]
        have at_ : (s1.set c (.lst [Vd.d (.int (z - 1))]))[c]? = some (.lst [.d (.int (z - 1))]) := by
          rw [List.getElem?_set_self hlen]
        try simp only [r1_some, r2_some, r1_none, r_var, r_c, r_op, r_fz, r_bval, r_btru, r_band, r_bor, r_bnot, r_if, r_and, r_or, r_not, r_nil, r_cons, r_tup, r_lst, r_lstN, r_cb, r_is, r_call, r_neg, r_chain, r_ixC, ro_no, ro_some, r_sl, rt_nm, rs_next, rs_ret, rs_seq, rs_if, rs_asg, rs_asgT, rs_par, rt_nil, rt_cons, rt_tp, ri_data, ri_range1, ri_range2, ri_enum, r_comp, startD, look_d, looks_nil, looks_d, datas_nil, datas_d, tru_b, tru_i, List.length_cons, List.length_nil, List.getElem?_cons_zero, List.getElem?_cons_succ, List.set_cons_zero, List.set_cons_succ, Option.map_some, List.map_cons, List.map_nil, Nat.reduceAdd, Nat.reduceSub, Nat.reduceEqDiff, List.reduceReplicate, List.cons_append, List.nil_append, List.append_nil, true_and, and_true, at_, atI_zero, gEq_int, isK_tup, ht, isWh, whole_le, le_one, h0, decide_true, h1]
        by_cases hz : z - 1 = -1
        · try simp only [r1_some, r2_some, r1_none, r_var, r_c, r_op, r_fz, r_bval, r_btru, r_band, r_bor, r_bnot, r_if, r_and, r_or, r_not, r_nil, r_cons, r_tup, r_lst, r_lstN, r_cb, r_is, r_call, r_neg, r_chain, r_ixC, ro_no, ro_some, r_sl, rt_nm, rs_next, rs_ret, rs_seq, rs_if, rs_asg, rs_asgT, rs_par, rt_nil, rt_cons, rt_tp, ri_data, ri_range1, ri_range2, ri_enum, r_comp, startD, look_d, looks_nil, looks_d, datas_nil, datas_d, tru_b, tru_i, List.length_cons, List.length_nil, List.getElem?_cons_zero, List.getElem?_cons_succ, List.set_cons_zero, List.set_cons_succ, Option.map_some, List.map_cons, List.map_nil, Nat.reduceAdd, Nat.reduceSub, Nat.reduceEqDiff, List.reduceReplicate, List.cons_append, List.nil_append, List.append_nil, true_and, and_true, hz, decide_true, gEq_int, isK_tup, ht, isWh, whole_le, le_one, h0, h1, at_, atI_zero]
          exact ⟨by rw [List.length_set]; exact Nat.le_refl _, ⟨_, rfl, rfl, by simp [PyData.depth], by simp [PyData.weight]⟩, -1, rfl⟩
        · try simp only [r1_some, r2_some, r1_none, r_var, r_c, r_op, r_fz, r_bval, r_btru, r_band, r_bor, r_bnot, r_if, r_and, r_or, r_not, r_nil, r_cons, r_tup, r_lst, r_lstN, r_cb, r_is, r_call, r_neg, r_chain, r_ixC, ro_no, ro_some, r_sl, rt_nm, rs_next, rs_ret, rs_seq, rs_if, rs_asg, rs_asgT, rs_par, rt_nil, rt_cons, rt_tp, ri_data, ri_range1, ri_range2, ri_enum, r_comp, startD, look_d, looks_nil, looks_d, datas_nil, datas_d, tru_b, tru_i, List.length_cons, List.length_nil, List.getElem?_cons_zero, List.getElem?_cons_succ, List.set_cons_zero, List.set_cons_succ, Option.map_some, List.map_cons, List.map_nil, Nat.reduceAdd, Nat.reduceSub, Nat.reduceEqDiff, List.reduceReplicate, List.cons_append, List.nil_append, List.append_nil, true_and, and_true, hz, decide_false, isK_tup, ht, isWh, whole_le, le_one, h0, decide_true, h1, at_, atI_zero, gEq_int]
          exact ⟨by rw [List.length_set]; exact Nat.le_refl _, ⟨_, rfl, hg, Nat.le_refl _, Nat.le_refl _⟩, z - 1, rfl⟩
      · try simp only [r1_some, r2_some, r1_none, r_var, r_c, r_op, r_fz, r_bval, r_btru, r_band, r_bor, r_bnot, r_if, r_and, r_or, r_not, r_nil, r_cons, r_tup, r_lst, r_lstN, r_cb, r_is, r_call, r_neg, r_chain, r_ixC, ro_no, ro_some, r_sl, rt_nm, rs_next, rs_ret, rs_seq, rs_if, rs_asg, rs_asgT, rs_par, rt_nil, rt_cons, rt_tp, ri_data, ri_range1, ri_range2, ri_enum, r_comp, startD, look_d, looks_nil, looks_d, datas_nil, datas_d, tru_b, tru_i, List.length_cons, List.length_nil, List.getElem?_cons_zero, List.getElem?_cons_succ, List.set_cons_zero, List.set_cons_succ, Option.map_some, List.map_cons, List.map_nil, Nat.reduceAdd, Nat.reduceSub, Nat.reduceEqDiff, List.reduceReplicate, List.cons_append, List.nil_append, List.append_nil, true_and, and_true, h1, decide_false, isK_tup, ht, isWh, whole_le, le_one, h0, decide_true]
        exact ⟨Nat.le_refl _, stay⟩
    · try simp only [r1_some, r2_some, r1_none, r_var, r_c, r_op, r_fz, r_bval, r_btru, r_band, r_bor, r_bnot, r_if, r_and, r_or, r_not, r_nil, r_cons, r_tup, r_lst, r_lstN, r_cb, r_is, r_call, r_neg, r_chain, r_ixC, ro_no, ro_some, r_sl, rt_nm, rs_next, rs_ret, rs_seq, rs_if, rs_asg, rs_asgT, rs_par, rt_nil, rt_cons, rt_tp, ri_data, ri_range1, ri_range2, ri_enum, r_comp, startD, look_d, looks_nil, looks_d, datas_nil, datas_d, tru_b, tru_i, List.length_cons, List.length_nil, List.getElem?_cons_zero, List.getElem?_cons_succ, List.set_cons_zero, List.set_cons_succ, Option.map_some, List.map_cons, List.map_nil, Nat.reduceAdd, Nat.reduceSub, Nat.reduceEqDiff, List.reduceReplicate, List.cons_append, List.nil_append, List.append_nil, true_and, and_true, h0, decide_false, isK_tup, ht, isWh, whole_le, le_one]
      exact ⟨Nat.le_refl _, stay⟩
  | tuple _ => cases ht
  | _ =>
    try simp only [r1_some, r2_some, r1_none, r_var, r_c, r_op, r_fz, r_bval, r_btru, r_band, r_bor, r_bnot, r_if, r_and, r_or, r_not, r_nil, r_cons, r_tup, r_lst, r_lstN, r_cb, r_is, r_call, r_neg, r_chain, r_ixC, ro_no, ro_some, r_sl, rt_nm, rs_next, rs_ret, rs_seq, rs_if, rs_asg, rs_asgT, rs_par, rt_nil, rt_cons, rt_tp, ri_data, ri_range1, ri_range2, ri_enum, r_comp, startD, look_d, looks_nil, looks_d, datas_nil, datas_d, tru_b, tru_i, List.length_cons, List.length_nil, List.getElem?_cons_zero, List.getElem?_cons_succ, List.set_cons_zero, List.set_cons_succ, Option.map_some, List.map_cons, List.map_nil, Nat.reduceAdd, Nat.reduceSub, Nat.reduceEqDiff, List.reduceReplicate, List.cons_append, List.nil_append, List.append_nil, true_and, and_true, isWh, isK_tup, ht]
    exact ⟨Nat.le_refl _, stay⟩
theorem truth_sp : ∀ (n k c : Nat) (z : Int) (d : PyData) (st : Sto), d.depth < n → d.weight ≤ 1000000 → gd k d = true → st[c]? = some (.lst [.d (.int z)]) → R2 (fWt n [.d d, .r c] st) (WT k c d st) := by
  intro n
  induction n with
  | zero => intro k c z d st h; omega
  | succ n ih =>
    intro k c z d st h hw hg hc
    refine rf_of ?_
    show R1 (gWithTruth (fWt n) fIsWhole [some (.d d), some (.r c), none] st) _
    cases ht : isTup d with
    | false => exact (truth_leaf ht hg hc).mono fun o ho => by cases o <;> first | exact ho | exact ho.elim
    | true =>
      cases d with
      | tuple xs =>
        have hlen : c < st.length := (List.getElem?_eq_some_iff.mp hc).1
        have len : xs.length ≤ 1000000 := Nat.le_trans len_weight (by simpa only [PyData.weight] using hw)
        have dep : ∀ x ∈ xs, x.depth ≤ PyData.depthAll xs := depthAll_iff.mp (Nat.le_refl _)
        simp only [PyData.depth] at h
        simp only [PyData.weight] at hw
        simp only [gd] at hg
        unfold gWithTruth gWithTruth_1
        try simp only [r1_some, r2_some, r1_none, r_var, r_c, r_op, r_fz, r_bval, r_btru, r_band, r_bor, r_bnot, r_if, r_and, r_or, r_not, r_nil, r_cons, r_tup, r_lst, r_lstN, r_cb, r_is, r_call, r_neg, r_chain, r_ixC, ro_no, ro_some, r_sl, rt_nm, rs_next, rs_ret, rs_seq, rs_if, rs_asg, rs_asgT, rs_par, rt_nil, rt_cons, rt_tp, ri_data, ri_range1, ri_range2, ri_enum, r_comp, startD, look_d, looks_nil, looks_d, datas_nil, datas_d, tru_b, tru_i, List.length_cons, List.length_nil, List.getElem?_cons_zero, List.getElem?_cons_succ, List.set_cons_zero, List.set_cons_succ, Option.map_some, List.map_cons, List.map_nil, Nat.reduceAdd, Nat.reduceSub, Nat.reduceEqDiff, List.reduceReplicate, List.cons_append, List.nil_append, List.append_nil, true_and, and_true, isK_tup, ht]
        refine (comp_go (xs := []) (I := fun done left s => (∃ ys : List PyData, left = ys.map .d ∧ (∀ y ∈ ys, y ∈ xs) ∧ PyData.weightAll done + PyData.weightAll ys ≤ PyData.weightAll xs ∧ done.length + ys.length = xs.length) ∧ (∀ x ∈ done, gd k x = true ∧ x.depth ≤ PyData.depthAll xs) ∧ ∃ z : Int, s = st.set c (.lst [.d (.int z)])) (fun done v vs s hI => ?_) ⟨⟨xs, rfl, fun _ h => h, by simp [PyData.weightAll], by simp⟩, (fun _ h => nomatch h), z, by
          obtain ⟨h, e⟩ := List.getElem?_eq_some_iff.mp hc
          rw [← e, List.set_getElem_self]⟩).mono fun ws s hw => ?_
        · obtain ⟨⟨ys, e1, hin, hwt, hl⟩, hd, z, rfl⟩ := hI
          cases ys with
          | nil => cases e1
          | cons y ys =>
            cases e1
            have hy := hin y List.mem_cons_self
            have wy := weight_mem hy
            simp only [wipeD, r1_some, r2_some, r1_none, r_var, r_c, r_op, r_fz, r_bval, r_btru, r_band, r_bor, r_bnot, r_if, r_and, r_or, r_not, r_nil, r_cons, r_tup, r_lst, r_lstN, r_cb, r_is, r_call, r_neg, r_chain, r_ixC, ro_no, ro_some, r_sl, rt_nm, rs_next, rs_ret, rs_seq, rs_if, rs_asg, rs_asgT, rs_par, rt_nil, rt_cons, rt_tp, ri_data, ri_range1, ri_range2, ri_enum, r_comp, startD, look_d, looks_nil, looks_d, datas_nil, datas_d, tru_b, tru_i, List.length_cons, List.length_nil, List.getElem?_cons_zero, List.getElem?_cons_succ, List.set_cons_zero, List.set_cons_succ, Option.map_some, List.map_cons, List.map_nil, Nat.reduceAdd, Nat.reduceSub, Nat.reduceEqDiff, List.reduceReplicate, List.cons_append, List.nil_append, List.append_nil, true_and, and_true, isK_tup, ht]
            refine (ih k c z y _ (by have := dep y hy; omega) (by omega) (gdA_iff.mp hg y hy) (List.getElem?_set_self hlen)).mono fun v s hv => ?_
            obtain ⟨⟨e, rfl, eg, ed, ew⟩, z2, rfl⟩ := hv
            try simp only [r1_some, r2_some, r1_none, r_var, r_c, r_op, r_fz, r_bval, r_btru, r_band, r_bor, r_bnot, r_if, r_and, r_or, r_not, r_nil, r_cons, r_tup, r_lst, r_lstN, r_cb, r_is, r_call, r_neg, r_chain, r_ixC, ro_no, ro_some, r_sl, rt_nm, rs_next, rs_ret, rs_seq, rs_if, rs_asg, rs_asgT, rs_par, rt_nil, rt_cons, rt_tp, ri_data, ri_range1, ri_range2, ri_enum, r_comp, startD, look_d, looks_nil, looks_d, datas_nil, datas_d, tru_b, tru_i, List.length_cons, List.length_nil, List.getElem?_cons_zero, List.getElem?_cons_succ, List.set_cons_zero, List.set_cons_succ, Option.map_some, List.map_cons, List.map_nil, Nat.reduceAdd, Nat.reduceSub, Nat.reduceEqDiff, List.reduceReplicate, List.cons_append, List.nil_append, List.append_nil, true_and, and_true, isK_tup, ht, wipeD]
            refine ⟨e, rfl, ⟨ys, rfl, fun u hu => hin u (List.mem_cons_of_mem _ hu), ?_, ?_⟩, ?_, z2, List.set_set ..⟩
            · rw [weightAll_app]
              simp only [PyData.weightAll] at hwt ⊢
              omega
            · rw [List.length_append]
              simp only [List.length_cons, List.length_nil] at hl ⊢
              omega
            · intro x hx
              rcases List.mem_append.mp hx with hx | hx
              · exact hd x hx
              · obtain rfl := List.mem_singleton.mp hx
                exact ⟨eg, Nat.le_trans ed (dep y hy)⟩
        · obtain ⟨ys, rfl, ⟨zs, e1, _, hwt, hl⟩, hd, z2, rfl⟩ := hw
          have hz : zs = [] := by
            cases zs with
            | nil => rfl
            | cons _ _ => cases e1
          subst hz
          simp only [List.nil_append] at hwt hl hd
          rw [datas_map, r1_some]
          try simp only [r1_some, r2_some, r1_none, r_var, r_c, r_op, r_fz, r_bval, r_btru, r_band, r_bor, r_bnot, r_if, r_and, r_or, r_not, r_nil, r_cons, r_tup, r_lst, r_lstN, r_cb, r_is, r_call, r_neg, r_chain, r_ixC, ro_no, ro_some, r_sl, rt_nm, rs_next, rs_ret, rs_seq, rs_if, rs_asg, rs_asgT, rs_par, rt_nil, rt_cons, rt_tp, ri_data, ri_range1, ri_range2, ri_enum, r_comp, startD, look_d, looks_nil, looks_d, datas_nil, datas_d, tru_b, tru_i, List.length_cons, List.length_nil, List.getElem?_cons_zero, List.getElem?_cons_succ, List.set_cons_zero, List.set_cons_succ, Option.map_some, List.map_cons, List.map_nil, Nat.reduceAdd, Nat.reduceSub, Nat.reduceEqDiff, List.reduceReplicate, List.cons_append, List.nil_append, List.append_nil, true_and, and_true, isK_tup, ht]
          refine ⟨by simp only [List.length_nil] at hl; omega, ?_⟩
          try simp only [r1_some, r2_some, r1_none, r_var, r_c, r_op, r_fz, r_bval, r_btru, r_band, r_bor, r_bnot, r_if, r_and, r_or, r_not, r_nil, r_cons, r_tup, r_lst, r_lstN, r_cb, r_is, r_call, r_neg, r_chain, r_ixC, ro_no, ro_some, r_sl, rt_nm, rs_next, rs_ret, rs_seq, rs_if, rs_asg, rs_asgT, rs_par, rt_nil, rt_cons, rt_tp, ri_data, ri_range1, ri_range2, ri_enum, r_comp, startD, look_d, looks_nil, looks_d, datas_nil, datas_d, tru_b, tru_i, List.length_cons, List.length_nil, List.getElem?_cons_zero, List.getElem?_cons_succ, List.set_cons_zero, List.set_cons_succ, Option.map_some, List.map_cons, List.map_nil, Nat.reduceAdd, Nat.reduceSub, Nat.reduceEqDiff, List.reduceReplicate, List.cons_append, List.nil_append, List.append_nil, true_and, and_true, gTupleOf, isK_tup, ht]
          refine ⟨by rw [List.length_set]; exact Nat.le_refl _, ⟨_, rfl, ?_, ?_, ?_⟩, z2, rfl⟩
          · simp only [gd]
            exact gdA_iff.mpr fun x hx => (hd x hx).1
          · simp only [PyData.depth]
            exact Nat.succ_le_succ (depthAll_iff.mpr fun x hx => (hd x hx).2)
          · simp only [PyData.weight]
            simp only [PyData.weightAll] at hwt
            omega
      | _ => cases ht
theorem clo_bag (hr : ∀ c ∈ rest, CloC (rest.length + 1) c) (h : BagS rest s) : Clo s.length s := by
  obtain ⟨a, b, c, cs, rfl, _⟩ := h
  intro k hk
  rcases List.mem_cons.mp hk with rfl | hk
  · intro x hx
    simp only [List.mem_cons, List.not_mem_nil, or_false] at hx
    rcases hx with rfl | rfl | rfl | rfl <;> trivial
  · exact hr k hk
theorem truthed_sp {k n W N : Nat} {d : PyData} (hr : ∀ c ∈ rest, CloC (rest.length + 1) c) (hN : n < N) (hW : W ≤ 1000000) (h : BagS rest st) (ok : Nic k n W d) :
    R2 (fTruthed (fUn N) (fWt N) fTake [.r 0, .d d] st) fun v s => (∃ d, v = .d d ∧ Nic k n W d) ∧ BagS rest s := by
  have i1 : (1 : Nat) ≤ sizeLine := by decide
  have hd := ok.dp
  have hw := ok.wt
  refine rf_cut ?_
  unfold gTruthed gTruthed_1 gTruthed_2
  try simp only [r1_some, r2_some, r1_none, r_var, r_c, r_op, r_fz, r_bval, r_btru, r_band, r_bor, r_bnot, r_if, r_and, r_or, r_not, r_nil, r_cons, r_tup, r_lst, r_lstN, r_cb, r_is, r_call, r_neg, r_chain, r_ixC, ro_no, ro_some, r_sl, rt_nm, rs_next, rs_ret, rs_seq, rs_if, rs_asg, rs_asgT, rs_par, rt_nil, rt_cons, rt_tp, ri_data, ri_range1, ri_range2, ri_enum, r_comp, startD, look_d, looks_nil, looks_d, datas_nil, datas_d, tru_b, tru_i, List.length_cons, List.length_nil, List.getElem?_cons_zero, List.getElem?_cons_succ, List.set_cons_zero, List.set_cons_succ, Option.map_some, List.map_cons, List.map_nil, Nat.reduceAdd, Nat.reduceSub, Nat.reduceEqDiff, List.reduceReplicate, List.cons_append, List.nil_append, List.append_nil, true_and, and_true]
  refine (units_sp N d st (by omega) (by omega)).mono fun v s hv => ?_
  obtain ⟨rfl, rfl⟩ := hv
  try simp only [r1_some, r2_some, r1_none, r_var, r_c, r_op, r_fz, r_bval, r_btru, r_band, r_bor, r_bnot, r_if, r_and, r_or, r_not, r_nil, r_cons, r_tup, r_lst, r_lstN, r_cb, r_is, r_call, r_neg, r_chain, r_ixC, ro_no, ro_some, r_sl, rt_nm, rs_next, rs_ret, rs_seq, rs_if, rs_asg, rs_asgT, rs_par, rt_nil, rt_cons, rt_tp, ri_data, ri_range1, ri_range2, ri_enum, r_comp, startD, look_d, looks_nil, looks_d, datas_nil, datas_d, tru_b, tru_i, List.length_cons, List.length_nil, List.getElem?_cons_zero, List.getElem?_cons_succ, List.set_cons_zero, List.set_cons_succ, Option.map_some, List.map_cons, List.map_nil, Nat.reduceAdd, Nat.reduceSub, Nat.reduceEqDiff, List.reduceReplicate, List.cons_append, List.nil_append, List.append_nil, true_and, and_true, gCm_int, lt_int_]
  have ule := un_le d
  by_cases hu : (0 : Int) < (un d : Int)
  · try simp only [r1_some, r2_some, r1_none, r_var, r_c, r_op, r_fz, r_bval, r_btru, r_band, r_bor, r_bnot, r_if, r_and, r_or, r_not, r_nil, r_cons, r_tup, r_lst, r_lstN, r_cb, r_is, r_call, r_neg, r_chain, r_ixC, ro_no, ro_some, r_sl, rt_nm, rs_next, rs_ret, rs_seq, rs_if, rs_asg, rs_asgT, rs_par, rt_nil, rt_cons, rt_tp, ri_data, ri_range1, ri_range2, ri_enum, r_comp, startD, look_d, looks_nil, looks_d, datas_nil, datas_d, tru_b, tru_i, List.length_cons, List.length_nil, List.getElem?_cons_zero, List.getElem?_cons_succ, List.set_cons_zero, List.set_cons_succ, Option.map_some, List.map_cons, List.map_nil, Nat.reduceAdd, Nat.reduceSub, Nat.reduceEqDiff, List.reduceReplicate, List.cons_append, List.nil_append, List.append_nil, true_and, and_true, hu, decide_true, i1, gCm_int, lt_int_]
    refine (take_sp hu (by omega) h).mono fun v s hv => ?_
    obtain ⟨⟨z, rfl, z0, z1⟩, hs⟩ := hv
    try simp only [r1_some, r2_some, r1_none, r_var, r_c, r_op, r_fz, r_bval, r_btru, r_band, r_bor, r_bnot, r_if, r_and, r_or, r_not, r_nil, r_cons, r_tup, r_lst, r_lstN, r_cb, r_is, r_call, r_neg, r_chain, r_ixC, ro_no, ro_some, r_sl, rt_nm, rs_next, rs_ret, rs_seq, rs_if, rs_asg, rs_asgT, rs_par, rt_nil, rt_cons, rt_tp, ri_data, ri_range1, ri_range2, ri_enum, r_comp, startD, look_d, looks_nil, looks_d, datas_nil, datas_d, tru_b, tru_i, List.length_cons, List.length_nil, List.getElem?_cons_zero, List.getElem?_cons_succ, List.set_cons_zero, List.set_cons_succ, Option.map_some, List.map_cons, List.map_nil, Nat.reduceAdd, Nat.reduceSub, Nat.reduceEqDiff, List.reduceReplicate, List.cons_append, List.nil_append, List.append_nil, true_and, and_true, gCm_int, lt_int_, hu, decide_true, i1]
    refine (truth_sp N k s.length z d _ (by omega) (by omega) ok.g (by rw [List.getElem?_append_right (Nat.le_refl _), Nat.sub_self]; rfl)).mono fun v s2 hv => ?_
    obtain ⟨⟨e, rfl, eg, ed, ew⟩, z2, rfl⟩ := hv
    try simp only [r1_some, r2_some, r1_none, r_var, r_c, r_op, r_fz, r_bval, r_btru, r_band, r_bor, r_bnot, r_if, r_and, r_or, r_not, r_nil, r_cons, r_tup, r_lst, r_lstN, r_cb, r_is, r_call, r_neg, r_chain, r_ixC, ro_no, ro_some, r_sl, rt_nm, rs_next, rs_ret, rs_seq, rs_if, rs_asg, rs_asgT, rs_par, rt_nil, rt_cons, rt_tp, ri_data, ri_range1, ri_range2, ri_enum, r_comp, startD, look_d, looks_nil, looks_d, datas_nil, datas_d, tru_b, tru_i, List.length_cons, List.length_nil, List.getElem?_cons_zero, List.getElem?_cons_succ, List.set_cons_zero, List.set_cons_succ, Option.map_some, List.map_cons, List.map_nil, Nat.reduceAdd, Nat.reduceSub, Nat.reduceEqDiff, List.reduceReplicate, List.cons_append, List.nil_append, List.append_nil, true_and, and_true, gCm_int, lt_int_, hu, decide_true, i1]
    refine ⟨s, [.lst [.d (.int z2)]], ?_, by rw [h.len, hs.len], clo_bag hr hs, trivial, ⟨_, rfl, eg, by omega, by omega⟩, hs⟩
    rw [List.set_append_right _ _ (Nat.le_refl _), Nat.sub_self]
    rfl
  · try simp only [r1_some, r2_some, r1_none, r_var, r_c, r_op, r_fz, r_bval, r_btru, r_band, r_bor, r_bnot, r_if, r_and, r_or, r_not, r_nil, r_cons, r_tup, r_lst, r_lstN, r_cb, r_is, r_call, r_neg, r_chain, r_ixC, ro_no, ro_some, r_sl, rt_nm, rs_next, rs_ret, rs_seq, rs_if, rs_asg, rs_asgT, rs_par, rt_nil, rt_cons, rt_tp, ri_data, ri_range1, ri_range2, ri_enum, r_comp, startD, look_d, looks_nil, looks_d, datas_nil, datas_d, tru_b, tru_i, List.length_cons, List.length_nil, List.getElem?_cons_zero, List.getElem?_cons_succ, List.set_cons_zero, List.set_cons_succ, Option.map_some, List.map_cons, List.map_nil, Nat.reduceAdd, Nat.reduceSub, Nat.reduceEqDiff, List.reduceReplicate, List.cons_append, List.nil_append, List.append_nil, true_and, and_true, hu, decide_false, gCm_int, lt_int_]
    exact ⟨s, [], by rw [List.append_nil], rfl, clo_bag hr h, trivial, ⟨_, rfl, ok⟩, h⟩
end D01

set_option Elab.async false
set_option linter.all false
set_option maxRecDepth 100000
set_option maxHeartbeats 4000000
namespace D01
open PySem PySem.Spec PyProof.Rows L2 Pg Dl
variable {rest st s : Sto}
/-- small data of the drawn things -/
def Sm (n W : Nat) (d : PyData) : Prop := Nic 0 n W d
theorem lot_sp (h : BagS rest st) : R2 (fLot (fPages (fSome fTake)) fTake [.r 0] st) fun v s => (∃ xs, v = .d (.tuple xs) ∧ Nic 0 1 200 (.tuple xs)) ∧ BagS rest s := by
  refine rf_of ?_
  unfold gLot
  try simp only [r1_some, r2_some, r1_none, r_var, r_c, r_op, r_fz, r_bval, r_btru, r_band, r_bor, r_bnot, r_if, r_and, r_or, r_not, r_nil, r_cons, r_tup, r_lst, r_lstN, r_cb, r_is, r_call, r_neg, r_chain, r_ixC, ro_no, ro_some, r_sl, rt_nm, rs_next, rs_ret, rs_seq, rs_if, rs_asg, rs_asgT, rs_par, rt_nil, rt_cons, rt_tp, ri_data, ri_range1, ri_range2, ri_enum, r_comp, startD, look_d, looks_nil, looks_d, datas_nil, datas_d, tru_b, tru_i, List.length_cons, List.length_nil, List.getElem?_cons_zero, List.getElem?_cons_succ, List.set_cons_zero, List.set_cons_succ, Option.map_some, List.map_cons, List.map_nil, Nat.reduceAdd, Nat.reduceSub, Nat.reduceEqDiff, List.reduceReplicate, List.cons_append, List.nil_append, List.append_nil, true_and, and_true]
  refine (take_sp (by decide) (by decide) h).mono fun v s hv => ?_
  obtain ⟨⟨z, rfl, z0, z1⟩, hs⟩ := hv
  try simp only [r1_some, r2_some, r1_none, r_var, r_c, r_op, r_fz, r_bval, r_btru, r_band, r_bor, r_bnot, r_if, r_and, r_or, r_not, r_nil, r_cons, r_tup, r_lst, r_lstN, r_cb, r_is, r_call, r_neg, r_chain, r_ixC, ro_no, ro_some, r_sl, rt_nm, rs_next, rs_ret, rs_seq, rs_if, rs_asg, rs_asgT, rs_par, rt_nil, rt_cons, rt_tp, ri_data, ri_range1, ri_range2, ri_enum, r_comp, startD, look_d, looks_nil, looks_d, datas_nil, datas_d, tru_b, tru_i, List.length_cons, List.length_nil, List.getElem?_cons_zero, List.getElem?_cons_succ, List.set_cons_zero, List.set_cons_succ, Option.map_some, List.map_cons, List.map_nil, Nat.reduceAdd, Nat.reduceSub, Nat.reduceEqDiff, List.reduceReplicate, List.cons_append, List.nil_append, List.append_nil, true_and, and_true]
  refine (pages_sp z0 (by omega) hs).mono fun v s hv => ?_
  obtain ⟨⟨a, b, a0, a1, b0, b1, rfl⟩, hs⟩ := hv
  try simp only [r1_some, r2_some, r1_none, r_var, r_c, r_op, r_fz, r_bval, r_btru, r_band, r_bor, r_bnot, r_if, r_and, r_or, r_not, r_nil, r_cons, r_tup, r_lst, r_lstN, r_cb, r_is, r_call, r_neg, r_chain, r_ixC, ro_no, ro_some, r_sl, rt_nm, rs_next, rs_ret, rs_seq, rs_if, rs_asg, rs_asgT, rs_par, rt_nil, rt_cons, rt_tp, ri_data, ri_range1, ri_range2, ri_enum, r_comp, startD, look_d, looks_nil, looks_d, datas_nil, datas_d, tru_b, tru_i, List.length_cons, List.length_nil, List.getElem?_cons_zero, List.getElem?_cons_succ, List.set_cons_zero, List.set_cons_succ, Option.map_some, List.map_cons, List.map_nil, Nat.reduceAdd, Nat.reduceSub, Nat.reduceEqDiff, List.reduceReplicate, List.cons_append, List.nil_append, List.append_nil, true_and, and_true, gTupleOf]
  refine ⟨by rw [h.len, hs.len]; omega, ⟨_, rfl, ?_⟩, hs⟩
  have each : ∀ x ∈ (List.range z.toNat).map (fun i : Nat => PyData.int (a + b * i)), Nic 0 0 30 x := fun x hx => by
    obtain ⟨i, hi, rfl⟩ := List.mem_map.mp hx
    have := List.mem_range.mp hi
    have h1 : 0 ≤ b * (i : Int) := Int.mul_nonneg (by omega) (by omega)
    have h2 : b * (i : Int) ≤ 7 * 6 := Int.mul_le_mul b1 (by omega) (by omega) (by omega)
    exact small (by omega) (by omega) (Nat.le_refl _)
  refine Nic.tup (fun x hx => ⟨(each x hx).g, (each x hx).dp⟩) ?_
  have := weightAll_le (w := 30) fun x hx => (each x hx).wt
  rw [List.length_map, List.length_range] at this
  have : z.toNat * (30 + 1) ≤ 5 * 31 := Nat.mul_le_mul_right _ (by omega)
  omega
theorem places_sp (h : BagS rest st) : R2 (fPlaces fTake [.r 0] st) fun v s => (∃ xs, v = .d (.tuple xs) ∧ Nic 0 2 300 (.tuple xs)) ∧ BagS rest s := by
  have i2 : (2 : Nat) ≤ sizeLine := by decide
  refine rf_of ?_
  unfold gPlaces gPlaces_1 gPlaces_2
  try simp only [r1_some, r2_some, r1_none, r_var, r_c, r_op, r_fz, r_bval, r_btru, r_band, r_bor, r_bnot, r_if, r_and, r_or, r_not, r_nil, r_cons, r_tup, r_lst, r_lstN, r_cb, r_is, r_call, r_neg, r_chain, r_ixC, ro_no, ro_some, r_sl, rt_nm, rs_next, rs_ret, rs_seq, rs_if, rs_asg, rs_asgT, rs_par, rt_nil, rt_cons, rt_tp, ri_data, ri_range1, ri_range2, ri_enum, r_comp, startD, look_d, looks_nil, looks_d, datas_nil, datas_d, tru_b, tru_i, List.length_cons, List.length_nil, List.getElem?_cons_zero, List.getElem?_cons_succ, List.set_cons_zero, List.set_cons_succ, Option.map_some, List.map_cons, List.map_nil, Nat.reduceAdd, Nat.reduceSub, Nat.reduceEqDiff, List.reduceReplicate, List.cons_append, List.nil_append, List.append_nil, true_and, and_true]
  refine (take_sp (by decide) (by decide) h).mono fun v s hv => ?_
  obtain ⟨⟨z, rfl, z0, z1⟩, hs⟩ := hv
  try simp only [r1_some, r2_some, r1_none, r_var, r_c, r_op, r_fz, r_bval, r_btru, r_band, r_bor, r_bnot, r_if, r_and, r_or, r_not, r_nil, r_cons, r_tup, r_lst, r_lstN, r_cb, r_is, r_call, r_neg, r_chain, r_ixC, ro_no, ro_some, r_sl, rt_nm, rs_next, rs_ret, rs_seq, rs_if, rs_asg, rs_asgT, rs_par, rt_nil, rt_cons, rt_tp, ri_data, ri_range1, ri_range2, ri_enum, r_comp, startD, look_d, looks_nil, looks_d, datas_nil, datas_d, tru_b, tru_i, List.length_cons, List.length_nil, List.getElem?_cons_zero, List.getElem?_cons_succ, List.set_cons_zero, List.set_cons_succ, Option.map_some, List.map_cons, List.map_nil, Nat.reduceAdd, Nat.reduceSub, Nat.reduceEqDiff, List.reduceReplicate, List.cons_append, List.nil_append, List.append_nil, true_and, and_true]
  refine ⟨by omega, by omega, (comp_inv (P := fun d => ∃ x y : Int, d = tupI [x, y] ∧ 0 ≤ x ∧ x < 4 ∧ 0 ≤ y ∧ y < 4) (I := BagS rest) (fun v hv s hs => ?_) hs).mono fun ws s hw => ?_⟩
  · simp only [wipeD, r1_some, r2_some, r1_none, r_var, r_c, r_op, r_fz, r_bval, r_btru, r_band, r_bor, r_bnot, r_if, r_and, r_or, r_not, r_nil, r_cons, r_tup, r_lst, r_lstN, r_cb, r_is, r_call, r_neg, r_chain, r_ixC, ro_no, ro_some, r_sl, rt_nm, rs_next, rs_ret, rs_seq, rs_if, rs_asg, rs_asgT, rs_par, rt_nil, rt_cons, rt_tp, ri_data, ri_range1, ri_range2, ri_enum, r_comp, startD, look_d, looks_nil, looks_d, datas_nil, datas_d, tru_b, tru_i, List.length_cons, List.length_nil, List.getElem?_cons_zero, List.getElem?_cons_succ, List.set_cons_zero, List.set_cons_succ, Option.map_some, List.map_cons, List.map_nil, Nat.reduceAdd, Nat.reduceSub, Nat.reduceEqDiff, List.reduceReplicate, List.cons_append, List.nil_append, List.append_nil, true_and, and_true]
    refine (take_sp (by decide) (by decide) hs).mono fun v s hv => ?_
    obtain ⟨⟨x, rfl, x0, x1⟩, hs⟩ := hv
    try simp only [r1_some, r2_some, r1_none, r_var, r_c, r_op, r_fz, r_bval, r_btru, r_band, r_bor, r_bnot, r_if, r_and, r_or, r_not, r_nil, r_cons, r_tup, r_lst, r_lstN, r_cb, r_is, r_call, r_neg, r_chain, r_ixC, ro_no, ro_some, r_sl, rt_nm, rs_next, rs_ret, rs_seq, rs_if, rs_asg, rs_asgT, rs_par, rt_nil, rt_cons, rt_tp, ri_data, ri_range1, ri_range2, ri_enum, r_comp, startD, look_d, looks_nil, looks_d, datas_nil, datas_d, tru_b, tru_i, List.length_cons, List.length_nil, List.getElem?_cons_zero, List.getElem?_cons_succ, List.set_cons_zero, List.set_cons_succ, Option.map_some, List.map_cons, List.map_nil, Nat.reduceAdd, Nat.reduceSub, Nat.reduceEqDiff, List.reduceReplicate, List.cons_append, List.nil_append, List.append_nil, true_and, and_true, wipeD]
    refine (take_sp (by decide) (by decide) hs).mono fun v s hv => ?_
    obtain ⟨⟨y, rfl, y0, y1⟩, hs⟩ := hv
    try simp only [r1_some, r2_some, r1_none, r_var, r_c, r_op, r_fz, r_bval, r_btru, r_band, r_bor, r_bnot, r_if, r_and, r_or, r_not, r_nil, r_cons, r_tup, r_lst, r_lstN, r_cb, r_is, r_call, r_neg, r_chain, r_ixC, ro_no, ro_some, r_sl, rt_nm, rs_next, rs_ret, rs_seq, rs_if, rs_asg, rs_asgT, rs_par, rt_nil, rt_cons, rt_tp, ri_data, ri_range1, ri_range2, ri_enum, r_comp, startD, look_d, looks_nil, looks_d, datas_nil, datas_d, tru_b, tru_i, List.length_cons, List.length_nil, List.getElem?_cons_zero, List.getElem?_cons_succ, List.set_cons_zero, List.set_cons_succ, Option.map_some, List.map_cons, List.map_nil, Nat.reduceAdd, Nat.reduceSub, Nat.reduceEqDiff, List.reduceReplicate, List.cons_append, List.nil_append, List.append_nil, true_and, and_true, i2, wipeD]
    exact ⟨⟨_, rfl, x, y, rfl, x0, by omega, y0, by omega⟩, hs⟩
  · obtain ⟨⟨xs, rfl, px, hl⟩, hs⟩ := hw
    rw [List.length_map, List.length_range] at hl
    rw [datas_map, r1_some]
    try simp only [r1_some, r2_some, r1_none, r_var, r_c, r_op, r_fz, r_bval, r_btru, r_band, r_bor, r_bnot, r_if, r_and, r_or, r_not, r_nil, r_cons, r_tup, r_lst, r_lstN, r_cb, r_is, r_call, r_neg, r_chain, r_ixC, ro_no, ro_some, r_sl, rt_nm, rs_next, rs_ret, rs_seq, rs_if, rs_asg, rs_asgT, rs_par, rt_nil, rt_cons, rt_tp, ri_data, ri_range1, ri_range2, ri_enum, r_comp, startD, look_d, looks_nil, looks_d, datas_nil, datas_d, tru_b, tru_i, List.length_cons, List.length_nil, List.getElem?_cons_zero, List.getElem?_cons_succ, List.set_cons_zero, List.set_cons_succ, Option.map_some, List.map_cons, List.map_nil, Nat.reduceAdd, Nat.reduceSub, Nat.reduceEqDiff, List.reduceReplicate, List.cons_append, List.nil_append, List.append_nil, true_and, and_true]
    obtain ⟨ks, rfl, hks⟩ : ∃ ks : List (List Int), xs = ks.map tupI ∧ ∀ k ∈ ks, k.length = 2 ∧ TS.Bd 4 k := by
      clear hl
      induction xs with
      | nil => exact ⟨[], rfl, fun _ h => nomatch h⟩
      | cons d xs ih =>
        obtain ⟨ks, rfl, hks⟩ := ih fun x hx => px x (List.mem_cons_of_mem _ hx)
        obtain ⟨x, y, rfl, x0, x1, y0, y1⟩ := px d List.mem_cons_self
        refine ⟨[x, y] :: ks, rfl, fun k hk => ?_⟩
        rcases List.mem_cons.mp hk with rfl | hk
        · refine ⟨rfl, fun m hm => ?_⟩
          simp only [List.mem_cons, List.not_mem_nil, or_false] at hm
          rcases hm with rfl | rfl <;> omega
        · exact hks k hk
    rw [List.length_map] at hl
    try simp only [r1_some, r2_some, r1_none, r_var, r_c, r_op, r_fz, r_bval, r_btru, r_band, r_bor, r_bnot, r_if, r_and, r_or, r_not, r_nil, r_cons, r_tup, r_lst, r_lstN, r_cb, r_is, r_call, r_neg, r_chain, r_ixC, ro_no, ro_some, r_sl, rt_nm, rs_next, rs_ret, rs_seq, rs_if, rs_asg, rs_asgT, rs_par, rt_nil, rt_cons, rt_tp, ri_data, ri_range1, ri_range2, ri_enum, r_comp, startD, look_d, looks_nil, looks_d, datas_nil, datas_d, tru_b, tru_i, List.length_cons, List.length_nil, List.getElem?_cons_zero, List.getElem?_cons_succ, List.set_cons_zero, List.set_cons_succ, Option.map_some, List.map_cons, List.map_nil, Nat.reduceAdd, Nat.reduceSub, Nat.reduceEqDiff, List.reduceReplicate, List.cons_append, List.nil_append, List.append_nil, true_and, and_true, gSSet_eq (d := 2) (B := 4) (show ks.length < 64 by omega) (by decide) hks]
    refine ⟨by rw [List.length_map]; omega, by rw [h.len, hs.len]; omega, ⟨_, rfl, ?_⟩, hs⟩
    have num : ∀ m : Int, 0 ≤ m → m < 4 → gd 0 (.int m) = true ∧ PyData.weight (.int m) ≤ 2 := fun m m0 m1 => by
      have : m = 0 ∨ m = 1 ∨ m = 2 ∨ m = 3 := by omega
      rcases this with rfl | rfl | rfl | rfl <;> exact ⟨by decide +kernel, by decide +kernel⟩
    have each : ∀ d ∈ (sortU ks).map tupI, Nic 0 1 20 d := fun d hd => by
      obtain ⟨k, hk, rfl⟩ := List.mem_map.mp hd
      obtain ⟨h1, h2⟩ := hks k (mem_sortU.mp hk)
      refine Nic.tup (fun x hx => ?_) ?_
      · obtain ⟨m, hm, rfl⟩ := List.mem_map.mp hx
        exact ⟨(num m (h2 m hm).1 (h2 m hm).2).1, by simp [PyData.depth]⟩
      · have := weightAll_le (w := 2) (xs := k.map .int) fun x hx => by
          obtain ⟨m, hm, rfl⟩ := List.mem_map.mp hx
          exact (num m (h2 m hm).1 (h2 m hm).2).2
        rw [List.length_map, h1] at this
        omega
    refine Nic.tup (fun x hx => ⟨(each x hx).g, (each x hx).dp⟩) ?_
    have := weightAll_le (w := 20) fun x hx => (each x hx).wt
    have l2 := len_sortU (l := ks)
    rw [List.length_map] at this
    have : (sortU ks).length * (20 + 1) ≤ 3 * 21 := Nat.mul_le_mul_right _ (by omega)
    omega
theorem p20 : gPow (.int 10) (.int 20) = some (.int 100000000000000000000) := gPow_int (by decide) (by decide) (by decide)
noncomputable abbrev fThg : FF := fThing (fSome fTake) fTake (fLot (fPages (fSome fTake)) fTake) (fPlaces fTake) (fVal 4)
noncomputable def thgTail : SF := (sSeq (gThing_2 (fSome fTake) fTake (fLot (fPages (fSome fTake)) fTake) (fPlaces fTake) (fVal 4)) (sSeq (gThing_3 (fSome fTake) fTake (fLot (fPages (fSome fTake)) fTake) (fPlaces fTake) (fVal 4)) (sSeq (gThing_4 (fSome fTake) fTake (fLot (fPages (fSome fTake)) fTake) (fPlaces fTake) (fVal 4)) (sSeq (gThing_5 (fSome fTake) fTake (fLot (fPages (fSome fTake)) fTake) (fPlaces fTake) (fVal 4)) (gThing_6 (fSome fTake) fTake (fLot (fPages (fSome fTake)) fTake) (fPlaces fTake) (fVal 4))))))
/-- a drawn number -/
def Num (x : PyData) : Prop := ∃ i : Int, x = .int i ∧ i.natAbs ≤ 10 ^ 39
theorem Num.nic {x : PyData} (h : Num x) (n : Nat) : Nic 0 n 200 x := by
  obtain ⟨i, rfl, hi⟩ := h
  refine ⟨by simpa only [gd, decide_eq_true_eq] using hi, by simp [PyData.depth], ?_⟩
  have := log2_39 (k := 0) (by omega) hi
  simp only [PyData.weight]
  split <;> omega
def TQ (st rest : Sto) (o : Out) : Prop := match o with
  | .rt v s => st.length ≤ s.length ∧ (∃ d, v = .d d ∧ Nic 0 4 20000 d) ∧ BagS rest s
  | _ => False
theorem TQ.end_ {d : PyData} (hb : BagS rest st) (h : BagS rest s) (ok : Nic 0 4 20000 d) : TQ st rest (.rt (.d d) s) := ⟨by rw [hb.len, h.len]; omega, ⟨d, rfl, ok⟩, h⟩
theorem pair_nic {x y : PyData} {n W V : Nat} (hx : Nic 0 n W x) (hy : Nic 0 n V y) : Nic 0 (n + 1) (W + V + 2) (.tuple [x, y]) := by
  refine Nic.tup (fun d hd => ?_) ?_
  · simp only [List.mem_cons, List.not_mem_nil, or_false] at hd
    rcases hd with rfl | rfl
    · exact ⟨hx.g, hx.dp⟩
    · exact ⟨hy.g, hy.dp⟩
  · have := hx.wt
    have := hy.wt
    simp only [PyData.weightAll]
    omega
theorem gEq_own : gEq (.str "own") (.str "own") = some (.bool true) := gEq_self (by simp [PyData.depth])
theorem gEq_common : gEq (.str "common") (.str "own") = some (.bool false) := by
  have h1 : SeqAt.shaped (.str "common") = true := by decide +kernel
  have h2 : SeqAt.shaped (.str "own") = true := by decide +kernel
  have h3 : PyData.eqv (.str "common") (.str "own") = false := by decide +kernel
  unfold gEq
  rw [if_pos ⟨h1, h2⟩, h3]
theorem thing_sp (h : BagS rest st) : R2 (fThg [.r 0] st) fun v s => (∃ d, v = .d d ∧ Nic 0 4 20000 d) ∧ BagS rest s := by
  have i6 : (6 : Nat) ≤ sizeLine := by decide
  have i3 : (3 : Nat) ≤ sizeLine := by decide
  have i2 : (2 : Nat) ≤ sizeLine := by decide
  have i4 : (4 : Nat) ≤ sizeLine := by decide
  have i0 : (0 : Nat) ≤ sizeLine := by decide
  refine rf_of ?_
  show R1 (sSeq (gThing_1 (fSome fTake) fTake (fLot (fPages (fSome fTake)) fTake) (fPlaces fTake) (fVal 4)) thgTail (startD nThing [.r 0]) st) _
  unfold gThing_1
  try simp only [r1_some, r2_some, r1_none, r_var, r_c, r_op, r_fz, r_bval, r_btru, r_band, r_bor, r_bnot, r_if, r_and, r_or, r_not, r_nil, r_cons, r_tup, r_lst, r_lstN, r_cb, r_is, r_call, r_neg, r_chain, r_ixC, ro_no, ro_some, r_sl, rt_nm, rs_next, rs_ret, rs_seq, rs_if, rs_asg, rs_asgT, rs_par, rt_nil, rt_cons, rt_tp, ri_data, ri_range1, ri_range2, ri_enum, r_comp, startD, look_d, looks_nil, looks_d, datas_nil, datas_d, tru_b, tru_i, List.length_cons, List.length_nil, List.getElem?_cons_zero, List.getElem?_cons_succ, List.set_cons_zero, List.set_cons_succ, Option.map_some, List.map_cons, List.map_nil, Nat.reduceAdd, Nat.reduceSub, Nat.reduceEqDiff, List.reduceReplicate, List.cons_append, List.nil_append, List.append_nil, true_and, and_true, p20, p39, p9, gSub_int, i6]
  refine (take_sp (by decide) (by decide) h).mono fun v s hv => ?_
  obtain ⟨⟨way, rfl, w0, w1⟩, hs⟩ := hv
  try simp only [r1_some, r2_some, r1_none, r_var, r_c, r_op, r_fz, r_bval, r_btru, r_band, r_bor, r_bnot, r_if, r_and, r_or, r_not, r_nil, r_cons, r_tup, r_lst, r_lstN, r_cb, r_is, r_call, r_neg, r_chain, r_ixC, ro_no, ro_some, r_sl, rt_nm, rs_next, rs_ret, rs_seq, rs_if, rs_asg, rs_asgT, rs_par, rt_nil, rt_cons, rt_tp, ri_data, ri_range1, ri_range2, ri_enum, r_comp, startD, look_d, looks_nil, looks_d, datas_nil, datas_d, tru_b, tru_i, List.length_cons, List.length_nil, List.getElem?_cons_zero, List.getElem?_cons_succ, List.set_cons_zero, List.set_cons_succ, Option.map_some, List.map_cons, List.map_nil, Nat.reduceAdd, Nat.reduceSub, Nat.reduceEqDiff, List.reduceReplicate, List.cons_append, List.nil_append, List.append_nil, true_and, and_true, p20, p39, p9, gSub_int, i6]
  refine (take_sp (by decide) (by decide) hs).mono fun v s hv => ?_
  obtain ⟨⟨z, rfl, z0, z1⟩, hs⟩ := hv
  try simp only [r1_some, r2_some, r1_none, r_var, r_c, r_op, r_fz, r_bval, r_btru, r_band, r_bor, r_bnot, r_if, r_and, r_or, r_not, r_nil, r_cons, r_tup, r_lst, r_lstN, r_cb, r_is, r_call, r_neg, r_chain, r_ixC, ro_no, ro_some, r_sl, rt_nm, rs_next, rs_ret, rs_seq, rs_if, rs_asg, rs_asgT, rs_par, rt_nil, rt_cons, rt_tp, ri_data, ri_range1, ri_range2, ri_enum, r_comp, startD, look_d, looks_nil, looks_d, datas_nil, datas_d, tru_b, tru_i, List.length_cons, List.length_nil, List.getElem?_cons_zero, List.getElem?_cons_succ, List.set_cons_zero, List.set_cons_succ, Option.map_some, List.map_cons, List.map_nil, Nat.reduceAdd, Nat.reduceSub, Nat.reduceEqDiff, List.reduceReplicate, List.cons_append, List.nil_append, List.append_nil, true_and, and_true, p20, p39, p9, gSub_int, i6]
  refine (some_sp (by simp) (by simp) hs).mono fun v s hv => ?_
  obtain ⟨⟨x, hx, rfl⟩, hs⟩ := hv
  try simp only [r1_some, r2_some, r1_none, r_var, r_c, r_op, r_fz, r_bval, r_btru, r_band, r_bor, r_bnot, r_if, r_and, r_or, r_not, r_nil, r_cons, r_tup, r_lst, r_lstN, r_cb, r_is, r_call, r_neg, r_chain, r_ixC, ro_no, ro_some, r_sl, rt_nm, rs_next, rs_ret, rs_seq, rs_if, rs_asg, rs_asgT, rs_par, rt_nil, rt_cons, rt_tp, ri_data, ri_range1, ri_range2, ri_enum, r_comp, startD, look_d, looks_nil, looks_d, datas_nil, datas_d, tru_b, tru_i, List.length_cons, List.length_nil, List.getElem?_cons_zero, List.getElem?_cons_succ, List.set_cons_zero, List.set_cons_succ, Option.map_some, List.map_cons, List.map_nil, Nat.reduceAdd, Nat.reduceSub, Nat.reduceEqDiff, List.reduceReplicate, List.cons_append, List.nil_append, List.append_nil, true_and, and_true, p20, p39, p9, gSub_int, i6]
  obtain ⟨i, rfl, hi⟩ : Num x := by
    simp only [List.mem_cons, List.not_mem_nil, or_false] at hx
    rcases hx with rfl | rfl | rfl | rfl | rfl | rfl <;> exact ⟨_, rfl, by omega⟩
  have ni : Num (.int i) := ⟨i, rfl, hi⟩
  have n0 : Num (.int (0 - i)) := ⟨_, rfl, by omega⟩
  suffices hh : R1 (thgTail [some (.r 0), some (.d (.int way)), some (.d (.int i)), none] s) (TQ st rest) by
    refine hh.mono fun o ho => ?_
    cases o <;> first | exact ho | exact ho.elim
  unfold thgTail
  by_cases h2 : way < 2
  · unfold gThing_2
    try simp only [r1_some, r2_some, r1_none, r_var, r_c, r_op, r_fz, r_bval, r_btru, r_band, r_bor, r_bnot, r_if, r_and, r_or, r_not, r_nil, r_cons, r_tup, r_lst, r_lstN, r_cb, r_is, r_call, r_neg, r_chain, r_ixC, ro_no, ro_some, r_sl, rt_nm, rs_next, rs_ret, rs_seq, rs_if, rs_asg, rs_asgT, rs_par, rt_nil, rt_cons, rt_tp, ri_data, ri_range1, ri_range2, ri_enum, r_comp, startD, look_d, looks_nil, looks_d, datas_nil, datas_d, tru_b, tru_i, List.length_cons, List.length_nil, List.getElem?_cons_zero, List.getElem?_cons_succ, List.set_cons_zero, List.set_cons_succ, Option.map_some, List.map_cons, List.map_nil, Nat.reduceAdd, Nat.reduceSub, Nat.reduceEqDiff, List.reduceReplicate, List.cons_append, List.nil_append, List.append_nil, true_and, and_true, gCm_int, lt_int_, h2, decide_true, gSub_int, p20, p39, p9, i6]
    refine (lot_sp hs).mono fun v s hv => ?_
    obtain ⟨⟨xs, rfl, ok⟩, hs⟩ := hv
    try simp only [r1_some, r2_some, r1_none, r_var, r_c, r_op, r_fz, r_bval, r_btru, r_band, r_bor, r_bnot, r_if, r_and, r_or, r_not, r_nil, r_cons, r_tup, r_lst, r_lstN, r_cb, r_is, r_call, r_neg, r_chain, r_ixC, ro_no, ro_some, r_sl, rt_nm, rs_next, rs_ret, rs_seq, rs_if, rs_asg, rs_asgT, rs_par, rt_nil, rt_cons, rt_tp, ri_data, ri_range1, ri_range2, ri_enum, r_comp, startD, look_d, looks_nil, looks_d, datas_nil, datas_d, tru_b, tru_i, List.length_cons, List.length_nil, List.getElem?_cons_zero, List.getElem?_cons_succ, List.set_cons_zero, List.set_cons_succ, Option.map_some, List.map_cons, List.map_nil, Nat.reduceAdd, Nat.reduceSub, Nat.reduceEqDiff, List.reduceReplicate, List.cons_append, List.nil_append, List.append_nil, true_and, and_true, i3, p20, p39, p9, gSub_int, i6, gCm_int, lt_int_, h2, decide_true]
    refine (some_sp (by simp) (by simp) hs).mono fun v s hv => ?_
    obtain ⟨⟨y, hy, rfl⟩, hs⟩ := hv
    try simp only [r1_some, r2_some, r1_none, r_var, r_c, r_op, r_fz, r_bval, r_btru, r_band, r_bor, r_bnot, r_if, r_and, r_or, r_not, r_nil, r_cons, r_tup, r_lst, r_lstN, r_cb, r_is, r_call, r_neg, r_chain, r_ixC, ro_no, ro_some, r_sl, rt_nm, rs_next, rs_ret, rs_seq, rs_if, rs_asg, rs_asgT, rs_par, rt_nil, rt_cons, rt_tp, ri_data, ri_range1, ri_range2, ri_enum, r_comp, startD, look_d, looks_nil, looks_d, datas_nil, datas_d, tru_b, tru_i, List.length_cons, List.length_nil, List.getElem?_cons_zero, List.getElem?_cons_succ, List.set_cons_zero, List.set_cons_succ, Option.map_some, List.map_cons, List.map_nil, Nat.reduceAdd, Nat.reduceSub, Nat.reduceEqDiff, List.reduceReplicate, List.cons_append, List.nil_append, List.append_nil, true_and, and_true, p20, p39, p9, gSub_int, i6, gCm_int, lt_int_, h2, decide_true, i3]
    refine TQ.end_ h hs ?_
    simp only [List.mem_cons, List.not_mem_nil, or_false] at hy
    rcases hy with rfl | rfl | rfl
    · exact (ni.nic 4).up (Nat.le_refl _) (Nat.le_refl _) (by decide)
    · exact (n0.nic 4).up (Nat.le_refl _) (Nat.le_refl _) (by decide)
    · exact ok.up (Nat.le_refl _) (by decide) (by decide)
  · by_cases e2 : way = 2
    · subst e2
      unfold gThing_2 gThing_3
      try simp only [r1_some, r2_some, r1_none, r_var, r_c, r_op, r_fz, r_bval, r_btru, r_band, r_bor, r_bnot, r_if, r_and, r_or, r_not, r_nil, r_cons, r_tup, r_lst, r_lstN, r_cb, r_is, r_call, r_neg, r_chain, r_ixC, ro_no, ro_some, r_sl, rt_nm, rs_next, rs_ret, rs_seq, rs_if, rs_asg, rs_asgT, rs_par, rt_nil, rt_cons, rt_tp, ri_data, ri_range1, ri_range2, ri_enum, r_comp, startD, look_d, looks_nil, looks_d, datas_nil, datas_d, tru_b, tru_i, List.length_cons, List.length_nil, List.getElem?_cons_zero, List.getElem?_cons_succ, List.set_cons_zero, List.set_cons_succ, Option.map_some, List.map_cons, List.map_nil, Nat.reduceAdd, Nat.reduceSub, Nat.reduceEqDiff, List.reduceReplicate, List.cons_append, List.nil_append, List.append_nil, true_and, and_true, gCm_int, lt_int_, gEq_int, decide_true, decide_false, show ¬ (2 : Int) < 2 by decide, i3, p20, p39, p9, gSub_int, i6]
      refine (take_sp (by decide) (by decide) hs).mono fun v s hv => ?_
      obtain ⟨⟨z, rfl, z0, z1⟩, hs⟩ := hv
      try simp only [r1_some, r2_some, r1_none, r_var, r_c, r_op, r_fz, r_bval, r_btru, r_band, r_bor, r_bnot, r_if, r_and, r_or, r_not, r_nil, r_cons, r_tup, r_lst, r_lstN, r_cb, r_is, r_call, r_neg, r_chain, r_ixC, ro_no, ro_some, r_sl, rt_nm, rs_next, rs_ret, rs_seq, rs_if, rs_asg, rs_asgT, rs_par, rt_nil, rt_cons, rt_tp, ri_data, ri_range1, ri_range2, ri_enum, r_comp, startD, look_d, looks_nil, looks_d, datas_nil, datas_d, tru_b, tru_i, List.length_cons, List.length_nil, List.getElem?_cons_zero, List.getElem?_cons_succ, List.set_cons_zero, List.set_cons_succ, Option.map_some, List.map_cons, List.map_nil, Nat.reduceAdd, Nat.reduceSub, Nat.reduceEqDiff, List.reduceReplicate, List.cons_append, List.nil_append, List.append_nil, true_and, and_true, i3, p20, p39, p9, gSub_int, i6, gCm_int, lt_int_, gEq_int, decide_true, decide_false, show ¬ (2 : Int) < 2 by decide]
      refine (some_sp (by simp) (by simp) hs).mono fun v s hv => ?_
      obtain ⟨⟨y, hy, rfl⟩, hs⟩ := hv
      try simp only [r1_some, r2_some, r1_none, r_var, r_c, r_op, r_fz, r_bval, r_btru, r_band, r_bor, r_bnot, r_if, r_and, r_or, r_not, r_nil, r_cons, r_tup, r_lst, r_lstN, r_cb, r_is, r_call, r_neg, r_chain, r_ixC, ro_no, ro_some, r_sl, rt_nm, rs_next, rs_ret, rs_seq, rs_if, rs_asg, rs_asgT, rs_par, rt_nil, rt_cons, rt_tp, ri_data, ri_range1, ri_range2, ri_enum, r_comp, startD, look_d, looks_nil, looks_d, datas_nil, datas_d, tru_b, tru_i, List.length_cons, List.length_nil, List.getElem?_cons_zero, List.getElem?_cons_succ, List.set_cons_zero, List.set_cons_succ, Option.map_some, List.map_cons, List.map_nil, Nat.reduceAdd, Nat.reduceSub, Nat.reduceEqDiff, List.reduceReplicate, List.cons_append, List.nil_append, List.append_nil, true_and, and_true, i2, p20, p39, p9, gSub_int, i6, gCm_int, lt_int_, gEq_int, decide_true, decide_false, show ¬ (2 : Int) < 2 by decide, i3]
      have ny : Num y := by
        simp only [List.mem_cons, List.not_mem_nil, or_false] at hy
        rcases hy with rfl | rfl | rfl
        · exact ⟨_, rfl, by decide⟩
        · exact ⟨_, rfl, by decide⟩
        · exact ni
      have nz : Num (.int z) := ⟨z, rfl, by omega⟩
      exact TQ.end_ h hs ((pair_nic (nz.nic 0) (ny.nic 0)).up (Nat.le_refl _) (by decide) (by decide))
    · by_cases h5 : way < 5
      · unfold gThing_2 gThing_3 gThing_4
        try simp only [r1_some, r2_some, r1_none, r_var, r_c, r_op, r_fz, r_bval, r_btru, r_band, r_bor, r_bnot, r_if, r_and, r_or, r_not, r_nil, r_cons, r_tup, r_lst, r_lstN, r_cb, r_is, r_call, r_neg, r_chain, r_ixC, ro_no, ro_some, r_sl, rt_nm, rs_next, rs_ret, rs_seq, rs_if, rs_asg, rs_asgT, rs_par, rt_nil, rt_cons, rt_tp, ri_data, ri_range1, ri_range2, ri_enum, r_comp, startD, look_d, looks_nil, looks_d, datas_nil, datas_d, tru_b, tru_i, List.length_cons, List.length_nil, List.getElem?_cons_zero, List.getElem?_cons_succ, List.set_cons_zero, List.set_cons_succ, Option.map_some, List.map_cons, List.map_nil, Nat.reduceAdd, Nat.reduceSub, Nat.reduceEqDiff, List.reduceReplicate, List.cons_append, List.nil_append, List.append_nil, true_and, and_true, gCm_int, lt_int_, gEq_int, h2, e2, h5, decide_true, decide_false, p20, p39, p9, gSub_int, i6]
        refine (lot_sp hs).mono fun v s hv => ?_
        obtain ⟨⟨xs, rfl, ok⟩, hs⟩ := hv
        try simp only [r1_some, r2_some, r1_none, r_var, r_c, r_op, r_fz, r_bval, r_btru, r_band, r_bor, r_bnot, r_if, r_and, r_or, r_not, r_nil, r_cons, r_tup, r_lst, r_lstN, r_cb, r_is, r_call, r_neg, r_chain, r_ixC, ro_no, ro_some, r_sl, rt_nm, rs_next, rs_ret, rs_seq, rs_if, rs_asg, rs_asgT, rs_par, rt_nil, rt_cons, rt_tp, ri_data, ri_range1, ri_range2, ri_enum, r_comp, startD, look_d, looks_nil, looks_d, datas_nil, datas_d, tru_b, tru_i, List.length_cons, List.length_nil, List.getElem?_cons_zero, List.getElem?_cons_succ, List.set_cons_zero, List.set_cons_succ, Option.map_some, List.map_cons, List.map_nil, Nat.reduceAdd, Nat.reduceSub, Nat.reduceEqDiff, List.reduceReplicate, List.cons_append, List.nil_append, List.append_nil, true_and, and_true, i2, p20, p39, p9, gSub_int, i6, gCm_int, lt_int_, gEq_int, h2, e2, h5, decide_true, decide_false]
        exact TQ.end_ h hs ((pair_nic ok (ni.nic 1)).up (Nat.le_refl _) (by decide) (by decide))
      · by_cases h7 : way < 7
        · unfold gThing_2 gThing_3 gThing_4 gThing_5
          try simp only [r1_some, r2_some, r1_none, r_var, r_c, r_op, r_fz, r_bval, r_btru, r_band, r_bor, r_bnot, r_if, r_and, r_or, r_not, r_nil, r_cons, r_tup, r_lst, r_lstN, r_cb, r_is, r_call, r_neg, r_chain, r_ixC, ro_no, ro_some, r_sl, rt_nm, rs_next, rs_ret, rs_seq, rs_if, rs_asg, rs_asgT, rs_par, rt_nil, rt_cons, rt_tp, ri_data, ri_range1, ri_range2, ri_enum, r_comp, startD, look_d, looks_nil, looks_d, datas_nil, datas_d, tru_b, tru_i, List.length_cons, List.length_nil, List.getElem?_cons_zero, List.getElem?_cons_succ, List.set_cons_zero, List.set_cons_succ, Option.map_some, List.map_cons, List.map_nil, Nat.reduceAdd, Nat.reduceSub, Nat.reduceEqDiff, List.reduceReplicate, List.cons_append, List.nil_append, List.append_nil, true_and, and_true, gCm_int, lt_int_, gEq_int, h2, e2, h5, h7, decide_true, decide_false, gSub_int, i3, i2, p20, p39, p9, i6]
          refine (some_sp (by simp) (by simp) hs).mono fun v s hv => ?_
          obtain ⟨⟨y, hy, rfl⟩, hs⟩ := hv
          try simp only [r1_some, r2_some, r1_none, r_var, r_c, r_op, r_fz, r_bval, r_btru, r_band, r_bor, r_bnot, r_if, r_and, r_or, r_not, r_nil, r_cons, r_tup, r_lst, r_lstN, r_cb, r_is, r_call, r_neg, r_chain, r_ixC, ro_no, ro_some, r_sl, rt_nm, rs_next, rs_ret, rs_seq, rs_if, rs_asg, rs_asgT, rs_par, rt_nil, rt_cons, rt_tp, ri_data, ri_range1, ri_range2, ri_enum, r_comp, startD, look_d, looks_nil, looks_d, datas_nil, datas_d, tru_b, tru_i, List.length_cons, List.length_nil, List.getElem?_cons_zero, List.getElem?_cons_succ, List.set_cons_zero, List.set_cons_succ, Option.map_some, List.map_cons, List.map_nil, Nat.reduceAdd, Nat.reduceSub, Nat.reduceEqDiff, List.reduceReplicate, List.cons_append, List.nil_append, List.append_nil, true_and, and_true, p20, p39, p9, gSub_int, i6, gCm_int, lt_int_, gEq_int, h2, e2, h5, h7, decide_true, decide_false, i3, i2]
          refine (some_sp (by simp) (by simp) hs).mono fun v s hv => ?_
          obtain ⟨⟨u, hu, rfl⟩, hs⟩ := hv
          try simp only [r1_some, r2_some, r1_none, r_var, r_c, r_op, r_fz, r_bval, r_btru, r_band, r_bor, r_bnot, r_if, r_and, r_or, r_not, r_nil, r_cons, r_tup, r_lst, r_lstN, r_cb, r_is, r_call, r_neg, r_chain, r_ixC, ro_no, ro_some, r_sl, rt_nm, rs_next, rs_ret, rs_seq, rs_if, rs_asg, rs_asgT, rs_par, rt_nil, rt_cons, rt_tp, ri_data, ri_range1, ri_range2, ri_enum, r_comp, startD, look_d, looks_nil, looks_d, datas_nil, datas_d, tru_b, tru_i, List.length_cons, List.length_nil, List.getElem?_cons_zero, List.getElem?_cons_succ, List.set_cons_zero, List.set_cons_succ, Option.map_some, List.map_cons, List.map_nil, Nat.reduceAdd, Nat.reduceSub, Nat.reduceEqDiff, List.reduceReplicate, List.cons_append, List.nil_append, List.append_nil, true_and, and_true, p20, p39, p9, gSub_int, i6, gCm_int, lt_int_, gEq_int, h2, e2, h5, h7, decide_true, decide_false, i3, i2]
          have nu : Num u := by
            simp only [List.mem_cons, List.not_mem_nil, or_false] at hu
            rcases hu with rfl | rfl
            · exact ni
            · exact n0
          obtain ⟨yb, ye, yn⟩ : ∃ b, gEq y (.str "own") = some (.bool b) ∧ Nic 0 0 10 y := by
            simp only [List.mem_cons, List.not_mem_nil, or_false] at hy
            rcases hy with rfl | rfl | rfl
            · exact ⟨true, gEq_own, ⟨by decide +kernel, by decide +kernel, by decide +kernel⟩⟩
            · exact ⟨true, gEq_own, ⟨by decide +kernel, by decide +kernel, by decide +kernel⟩⟩
            · exact ⟨false, gEq_common, ⟨by decide +kernel, by decide +kernel, by decide +kernel⟩⟩
          refine (places_sp hs).mono fun v s hv => ?_
          obtain ⟨⟨ps, rfl, pok⟩, hs⟩ := hv
          try simp only [r1_some, r2_some, r1_none, r_var, r_c, r_op, r_fz, r_bval, r_btru, r_band, r_bor, r_bnot, r_if, r_and, r_or, r_not, r_nil, r_cons, r_tup, r_lst, r_lstN, r_cb, r_is, r_call, r_neg, r_chain, r_ixC, ro_no, ro_some, r_sl, rt_nm, rs_next, rs_ret, rs_seq, rs_if, rs_asg, rs_asgT, rs_par, rt_nil, rt_cons, rt_tp, ri_data, ri_range1, ri_range2, ri_enum, r_comp, startD, look_d, looks_nil, looks_d, datas_nil, datas_d, tru_b, tru_i, List.length_cons, List.length_nil, List.getElem?_cons_zero, List.getElem?_cons_succ, List.set_cons_zero, List.set_cons_succ, Option.map_some, List.map_cons, List.map_nil, Nat.reduceAdd, Nat.reduceSub, Nat.reduceEqDiff, List.reduceReplicate, List.cons_append, List.nil_append, List.append_nil, true_and, and_true, p20, p39, p9, gSub_int, i6, gCm_int, lt_int_, gEq_int, h2, e2, h5, h7, decide_true, decide_false, i3, i2]
          have cell : ∀ qs, Nic 0 2 300 (.tuple qs) → Nic 0 4 20000 (.tuple [u, y, .tuple ps, .tuple qs]) := fun qs qok => by
            refine Nic.tup (fun d hd => ?_) ?_
            · simp only [List.mem_cons, List.not_mem_nil, or_false] at hd
              rcases hd with rfl | rfl | rfl | rfl
              · exact ⟨(nu.nic 3).g, (nu.nic 3).dp⟩
              · exact ⟨yn.g, Nat.le_trans yn.dp (by decide)⟩
              · exact ⟨pok.g, Nat.le_trans pok.dp (by decide)⟩
              · exact ⟨qok.g, Nat.le_trans qok.dp (by decide)⟩
            · have a1 := (nu.nic 3).wt
              have a2 := yn.wt
              have a3 := pok.wt
              have a4 := qok.wt
              simp only [PyData.weightAll]
              omega
          try simp only [r1_some, r2_some, r1_none, r_var, r_c, r_op, r_fz, r_bval, r_btru, r_band, r_bor, r_bnot, r_if, r_and, r_or, r_not, r_nil, r_cons, r_tup, r_lst, r_lstN, r_cb, r_is, r_call, r_neg, r_chain, r_ixC, ro_no, ro_some, r_sl, rt_nm, rs_next, rs_ret, rs_seq, rs_if, rs_asg, rs_asgT, rs_par, rt_nil, rt_cons, rt_tp, ri_data, ri_range1, ri_range2, ri_enum, r_comp, startD, look_d, looks_nil, looks_d, datas_nil, datas_d, tru_b, tru_i, List.length_cons, List.length_nil, List.getElem?_cons_zero, List.getElem?_cons_succ, List.set_cons_zero, List.set_cons_succ, Option.map_some, List.map_cons, List.map_nil, Nat.reduceAdd, Nat.reduceSub, Nat.reduceEqDiff, List.reduceReplicate, List.cons_append, List.nil_append, List.append_nil, true_and, and_true, ye, p20, p39, p9, gSub_int, i6, gCm_int, lt_int_, gEq_int, h2, e2, h5, h7, decide_true, decide_false, i3, i2]
          cases yb with
          | true =>
            refine (places_sp hs).mono fun v s hv => ?_
            obtain ⟨⟨qs, rfl, qok⟩, hs⟩ := hv
            try simp only [r1_some, r2_some, r1_none, r_var, r_c, r_op, r_fz, r_bval, r_btru, r_band, r_bor, r_bnot, r_if, r_and, r_or, r_not, r_nil, r_cons, r_tup, r_lst, r_lstN, r_cb, r_is, r_call, r_neg, r_chain, r_ixC, ro_no, ro_some, r_sl, rt_nm, rs_next, rs_ret, rs_seq, rs_if, rs_asg, rs_asgT, rs_par, rt_nil, rt_cons, rt_tp, ri_data, ri_range1, ri_range2, ri_enum, r_comp, startD, look_d, looks_nil, looks_d, datas_nil, datas_d, tru_b, tru_i, List.length_cons, List.length_nil, List.getElem?_cons_zero, List.getElem?_cons_succ, List.set_cons_zero, List.set_cons_succ, Option.map_some, List.map_cons, List.map_nil, Nat.reduceAdd, Nat.reduceSub, Nat.reduceEqDiff, List.reduceReplicate, List.cons_append, List.nil_append, List.append_nil, true_and, and_true, i4, p20, p39, p9, gSub_int, i6, gCm_int, lt_int_, gEq_int, h2, e2, h5, h7, decide_true, decide_false, i3, i2, ye]
            exact TQ.end_ h hs (cell qs qok)
          | false =>
            refine (take_sp (by decide) (by decide) hs).mono fun v s hv => ?_
            obtain ⟨⟨z, rfl, z0, z1⟩, hs⟩ := hv
            try simp only [r1_some, r2_some, r1_none, r_var, r_c, r_op, r_fz, r_bval, r_btru, r_band, r_bor, r_bnot, r_if, r_and, r_or, r_not, r_nil, r_cons, r_tup, r_lst, r_lstN, r_cb, r_is, r_call, r_neg, r_chain, r_ixC, ro_no, ro_some, r_sl, rt_nm, rs_next, rs_ret, rs_seq, rs_if, rs_asg, rs_asgT, rs_par, rt_nil, rt_cons, rt_tp, ri_data, ri_range1, ri_range2, ri_enum, r_comp, startD, look_d, looks_nil, looks_d, datas_nil, datas_d, tru_b, tru_i, List.length_cons, List.length_nil, List.getElem?_cons_zero, List.getElem?_cons_succ, List.set_cons_zero, List.set_cons_succ, Option.map_some, List.map_cons, List.map_nil, Nat.reduceAdd, Nat.reduceSub, Nat.reduceEqDiff, List.reduceReplicate, List.cons_append, List.nil_append, List.append_nil, true_and, and_true, gEq_int, p20, p39, p9, gSub_int, i6, gCm_int, lt_int_, h2, e2, h5, h7, decide_true, decide_false, i3, i2, ye]
            by_cases hz : z = 0
            · try simp only [r1_some, r2_some, r1_none, r_var, r_c, r_op, r_fz, r_bval, r_btru, r_band, r_bor, r_bnot, r_if, r_and, r_or, r_not, r_nil, r_cons, r_tup, r_lst, r_lstN, r_cb, r_is, r_call, r_neg, r_chain, r_ixC, ro_no, ro_some, r_sl, rt_nm, rs_next, rs_ret, rs_seq, rs_if, rs_asg, rs_asgT, rs_par, rt_nil, rt_cons, rt_tp, ri_data, ri_range1, ri_range2, ri_enum, r_comp, startD, look_d, looks_nil, looks_d, datas_nil, datas_d, tru_b, tru_i, List.length_cons, List.length_nil, List.getElem?_cons_zero, List.getElem?_cons_succ, List.set_cons_zero, List.set_cons_succ, Option.map_some, List.map_cons, List.map_nil, Nat.reduceAdd, Nat.reduceSub, Nat.reduceEqDiff, List.reduceReplicate, List.cons_append, List.nil_append, List.append_nil, true_and, and_true, hz, decide_true, p20, p39, p9, gSub_int, i6, gCm_int, lt_int_, gEq_int, h2, e2, h5, h7, decide_false, i3, i2, ye]
              refine (places_sp hs).mono fun v s hv => ?_
              obtain ⟨⟨qs, rfl, qok⟩, hs⟩ := hv
              try simp only [r1_some, r2_some, r1_none, r_var, r_c, r_op, r_fz, r_bval, r_btru, r_band, r_bor, r_bnot, r_if, r_and, r_or, r_not, r_nil, r_cons, r_tup, r_lst, r_lstN, r_cb, r_is, r_call, r_neg, r_chain, r_ixC, ro_no, ro_some, r_sl, rt_nm, rs_next, rs_ret, rs_seq, rs_if, rs_asg, rs_asgT, rs_par, rt_nil, rt_cons, rt_tp, ri_data, ri_range1, ri_range2, ri_enum, r_comp, startD, look_d, looks_nil, looks_d, datas_nil, datas_d, tru_b, tru_i, List.length_cons, List.length_nil, List.getElem?_cons_zero, List.getElem?_cons_succ, List.set_cons_zero, List.set_cons_succ, Option.map_some, List.map_cons, List.map_nil, Nat.reduceAdd, Nat.reduceSub, Nat.reduceEqDiff, List.reduceReplicate, List.cons_append, List.nil_append, List.append_nil, true_and, and_true, i4, p20, p39, p9, gSub_int, i6, gCm_int, lt_int_, gEq_int, h2, e2, h5, h7, decide_true, decide_false, i3, i2, ye, hz]
              exact TQ.end_ h hs (cell qs qok)
            · try simp only [r1_some, r2_some, r1_none, r_var, r_c, r_op, r_fz, r_bval, r_btru, r_band, r_bor, r_bnot, r_if, r_and, r_or, r_not, r_nil, r_cons, r_tup, r_lst, r_lstN, r_cb, r_is, r_call, r_neg, r_chain, r_ixC, ro_no, ro_some, r_sl, rt_nm, rs_next, rs_ret, rs_seq, rs_if, rs_asg, rs_asgT, rs_par, rt_nil, rt_cons, rt_tp, ri_data, ri_range1, ri_range2, ri_enum, r_comp, startD, look_d, looks_nil, looks_d, datas_nil, datas_d, tru_b, tru_i, List.length_cons, List.length_nil, List.getElem?_cons_zero, List.getElem?_cons_succ, List.set_cons_zero, List.set_cons_succ, Option.map_some, List.map_cons, List.map_nil, Nat.reduceAdd, Nat.reduceSub, Nat.reduceEqDiff, List.reduceReplicate, List.cons_append, List.nil_append, List.append_nil, true_and, and_true, hz, decide_false, i0, i4, p20, p39, p9, gSub_int, i6, gCm_int, lt_int_, gEq_int, h2, e2, h5, h7, decide_true, i3, i2, ye]
              exact TQ.end_ h hs (cell [] ⟨rfl, by decide, by decide⟩)
        · unfold gThing_2 gThing_3 gThing_4 gThing_5 gThing_6
          try simp only [r1_some, r2_some, r1_none, r_var, r_c, r_op, r_fz, r_bval, r_btru, r_band, r_bor, r_bnot, r_if, r_and, r_or, r_not, r_nil, r_cons, r_tup, r_lst, r_lstN, r_cb, r_is, r_call, r_neg, r_chain, r_ixC, ro_no, ro_some, r_sl, rt_nm, rs_next, rs_ret, rs_seq, rs_if, rs_asg, rs_asgT, rs_par, rt_nil, rt_cons, rt_tp, ri_data, ri_range1, ri_range2, ri_enum, r_comp, startD, look_d, looks_nil, looks_d, datas_nil, datas_d, tru_b, tru_i, List.length_cons, List.length_nil, List.getElem?_cons_zero, List.getElem?_cons_succ, List.set_cons_zero, List.set_cons_succ, Option.map_some, List.map_cons, List.map_nil, Nat.reduceAdd, Nat.reduceSub, Nat.reduceEqDiff, List.reduceReplicate, List.cons_append, List.nil_append, List.append_nil, true_and, and_true, gCm_int, lt_int_, gEq_int, h2, e2, h5, h7, decide_true, decide_false, p20, p39, p9, gSub_int, i6]
          refine (value_sp 3 s hs).mono fun v s hv => ?_
          obtain ⟨⟨d, rfl, ok⟩, hs⟩ := hv
          try simp only [r1_some, r2_some, r1_none, r_var, r_c, r_op, r_fz, r_bval, r_btru, r_band, r_bor, r_bnot, r_if, r_and, r_or, r_not, r_nil, r_cons, r_tup, r_lst, r_lstN, r_cb, r_is, r_call, r_neg, r_chain, r_ixC, ro_no, ro_some, r_sl, rt_nm, rs_next, rs_ret, rs_seq, rs_if, rs_asg, rs_asgT, rs_par, rt_nil, rt_cons, rt_tp, ri_data, ri_range1, ri_range2, ri_enum, r_comp, startD, look_d, looks_nil, looks_d, datas_nil, datas_d, tru_b, tru_i, List.length_cons, List.length_nil, List.getElem?_cons_zero, List.getElem?_cons_succ, List.set_cons_zero, List.set_cons_succ, Option.map_some, List.map_cons, List.map_nil, Nat.reduceAdd, Nat.reduceSub, Nat.reduceEqDiff, List.reduceReplicate, List.cons_append, List.nil_append, List.append_nil, true_and, and_true, p20, p39, p9, gSub_int, i6, gCm_int, lt_int_, gEq_int, h2, e2, h5, h7, decide_true, decide_false]
          exact TQ.end_ h hs (ok.up (Nat.le_refl _) (by decide) (by decide))
end D01

set_option Elab.async false
set_option linter.all false
set_option maxRecDepth 100000
set_option maxHeartbeats 4000000
namespace D01
open PySem PySem.Spec PyProof.Rows L2 Pg Dl
variable {rest st s : Sto}
/-! ### the forms, as truths on data -/
def isNat : PyData → Bool
  | .int i => decide (0 ≤ i)
  | _ => false
def ltAt (xs : List PyData) (i : Nat) : Bool := PySem.W.dataLt (xs.getD i .none) (xs.getD (i + 1) .none)
def ascB (xs : List PyData) : Bool := (List.range (xs.length - 1)).all (ltAt xs)
def isPair : PyData → Bool
  | .tuple [a, b] => isNat a && isNat b
  | _ => false
def lotOf (p : PyData → Bool) : PyData → Bool
  | .tuple xs => xs.all p && ascB xs
  | _ => false
def nonT : PyData → Bool
  | .tuple [] => false
  | _ => true
def isTick : PyData → Bool
  | .tuple [l, m] => lotOf isNat l && nonT l && isNat m
  | _ => false
theorem le0 (i : Int) : gCm (fun d e => !PySem.W.dataLt d e) (.int i) (.int 0) = some (.bool (decide (0 ≤ i))) := by
  rw [gCm_int, lt_int_]
  by_cases h : i < 0
  · rw [decide_eq_true h, decide_eq_false (by omega)]
    rfl
  · rw [decide_eq_false h, decide_eq_true (by omega)]
    rfl
/-- the program's -/
theorem pint_sp {d : PyData} : R2 (fPIsInteger [.d d] st) fun v s => v = .d (.bool (isWh d)) ∧ s = st := by
  refine rf_of ?_
  unfold gPIsInteger
  cases d <;> (simp only [r1_some, r2_some, r1_none, r_var, r_c, r_op, r_fz, r_bval, r_btru, r_band, r_bor, r_bnot, r_if, r_and, r_or, r_not, r_nil, r_cons, r_tup, r_lst, r_lstN, r_cb, r_is, r_call, r_neg, r_chain, r_ixC, ro_no, ro_some, r_sl, rt_nm, rs_next, rs_ret, rs_seq, rs_if, rs_asg, rs_asgT, rs_par, rt_nil, rt_cons, rt_tp, ri_data, ri_range1, ri_range2, ri_enum, r_comp, startD, look_d, looks_nil, looks_d, datas_nil, datas_d, tru_b, tru_i, List.length_cons, List.length_nil, List.getElem?_cons_zero, List.getElem?_cons_succ, List.set_cons_zero, List.set_cons_succ, Option.map_some, List.map_cons, List.map_nil, Nat.reduceAdd, Nat.reduceSub, Nat.reduceEqDiff, List.reduceReplicate, List.cons_append, List.nil_append, List.append_nil, true_and, and_true, isK, isWh]; simp)
theorem pnum_sp {d : PyData} : R2 (fPIsNumber fPIsInteger [.d d] st) fun v s => v = .d (.bool (isNat d)) ∧ s = st := by
  refine rf_of ?_
  unfold gPIsNumber
  try simp only [r1_some, r2_some, r1_none, r_var, r_c, r_op, r_fz, r_bval, r_btru, r_band, r_bor, r_bnot, r_if, r_and, r_or, r_not, r_nil, r_cons, r_tup, r_lst, r_lstN, r_cb, r_is, r_call, r_neg, r_chain, r_ixC, ro_no, ro_some, r_sl, rt_nm, rs_next, rs_ret, rs_seq, rs_if, rs_asg, rs_asgT, rs_par, rt_nil, rt_cons, rt_tp, ri_data, ri_range1, ri_range2, ri_enum, r_comp, startD, look_d, looks_nil, looks_d, datas_nil, datas_d, tru_b, tru_i, List.length_cons, List.length_nil, List.getElem?_cons_zero, List.getElem?_cons_succ, List.set_cons_zero, List.set_cons_succ, Option.map_some, List.map_cons, List.map_nil, Nat.reduceAdd, Nat.reduceSub, Nat.reduceEqDiff, List.reduceReplicate, List.cons_append, List.nil_append, List.append_nil, true_and, and_true]
  refine pint_sp.mono fun v s1 hv => ?_
  obtain ⟨rfl, rfl⟩ := hv
  cases d <;> (simp only [r1_some, r2_some, r1_none, r_var, r_c, r_op, r_fz, r_bval, r_btru, r_band, r_bor, r_bnot, r_if, r_and, r_or, r_not, r_nil, r_cons, r_tup, r_lst, r_lstN, r_cb, r_is, r_call, r_neg, r_chain, r_ixC, ro_no, ro_some, r_sl, rt_nm, rs_next, rs_ret, rs_seq, rs_if, rs_asg, rs_asgT, rs_par, rt_nil, rt_cons, rt_tp, ri_data, ri_range1, ri_range2, ri_enum, r_comp, startD, look_d, looks_nil, looks_d, datas_nil, datas_d, tru_b, tru_i, List.length_cons, List.length_nil, List.getElem?_cons_zero, List.getElem?_cons_succ, List.set_cons_zero, List.set_cons_succ, Option.map_some, List.map_cons, List.map_nil, Nat.reduceAdd, Nat.reduceSub, Nat.reduceEqDiff, List.reduceReplicate, List.cons_append, List.nil_append, List.append_nil, true_and, and_true, isWh, isNat, le0]; simp)
/-- what may be compared: numbers, pairs of numbers -/
def Cmp (p : PyData → Bool) : Prop := ∀ x y, p x = true → p y = true → PySem.W.alike x y = true ∧ isNon x = false ∧ x.depth ≤ 1
theorem gCm_of {p : PyData → Bool} (hp : Cmp p) {x y : PyData} (f : PyData → PyData → Bool) (hx : p x = true) (hy : p y = true) : gCm f x y = some (.bool (f x y)) := by
  obtain ⟨h1, h2, h3⟩ := hp x y hx hy
  unfold gCm
  rw [if_pos]
  simp only [h1, h2, Bool.not_false, Bool.and_true, Bool.true_and, decide_eq_true_eq]
  omega
theorem boolsD_map (bs : List Bool) : boolsD (bs.map .bool) = some bs := by
  induction bs with
  | nil => rfl
  | cons n ns ih =>
    show (boolsD (ns.map .bool)).map (n :: ·) = _
    rw [ih]
    rfl
theorem gAll_map (bs : List Bool) : gAll [.list (bs.map .bool)] = some (.bool (bs.all id)) := by
  unfold gAll
  dsimp only
  rw [boolsD_map]
  rfl
theorem pasc_sp {p : PyData → Bool} (hp : Cmp p) {xs : List PyData} (few : xs.length ≤ 1000000) (hx : xs.all p = true) : R2 (fPAscends [.d (.tuple xs)] st) fun v s => v = .d (.bool (ascB xs)) ∧ s = st := by
  refine rf_of ?_
  unfold gPAscends
  try simp only [r1_some, r2_some, r1_none, r_var, r_c, r_op, r_fz, r_bval, r_btru, r_band, r_bor, r_bnot, r_if, r_and, r_or, r_not, r_nil, r_cons, r_tup, r_lst, r_lstN, r_cb, r_is, r_call, r_neg, r_chain, r_ixC, ro_no, ro_some, r_sl, rt_nm, rs_next, rs_ret, rs_seq, rs_if, rs_asg, rs_asgT, rs_par, rt_nil, rt_cons, rt_tp, ri_data, ri_range1, ri_range2, ri_enum, r_comp, startD, look_d, looks_nil, looks_d, datas_nil, datas_d, tru_b, tru_i, List.length_cons, List.length_nil, List.getElem?_cons_zero, List.getElem?_cons_succ, List.set_cons_zero, List.set_cons_succ, Option.map_some, List.map_cons, List.map_nil, Nat.reduceAdd, Nat.reduceSub, Nat.reduceEqDiff, List.reduceReplicate, List.cons_append, List.nil_append, List.append_nil, true_and, and_true, gLen_tuple, gSub_int]
  refine ⟨by omega, by omega, ?_⟩
  have hn : ((xs.length : Int) - 1).toNat = xs.length - 1 := by omega
  have e := comp_told (st := st) (t := tNm 1) (a := eOp (gCm PySem.W.dataLt) (eOp gIx (eVar 0) (eVar 1)) (eOp gIx (eVar 0) (eOp gAdd (eVar 1) (eC (.int 1))))) (ρ := wipeD [some (.d (.tuple xs)), none] [1])
    (h := fun v => match v with
      | .d (.int k) => .bool (ltAt xs k.toNat)
      | _ => .none) (items := (List.range (xs.length - 1)).map fun i : Nat => Dl.vInt i 0) fun v hv => by
    obtain ⟨i, hi, rfl⟩ := List.mem_map.mp hv
    have hi' := List.mem_range.mp hi
    have e1 : ((i : Int) + 1) = ((i + 1 : Nat) : Int) := by omega
    have at0 : atI xs (i : Int) = some xs[i] := by rw [atI_nat_, List.getElem?_eq_getElem (by omega)]
    have at1 : atI xs ((i + 1 : Nat) : Int) = some xs[i + 1] := by rw [atI_nat_, List.getElem?_eq_getElem (by omega)]
    have c := gCm_of hp PySem.W.dataLt (List.all_eq_true.mp hx xs[i] (List.getElem_mem (by omega))) (List.all_eq_true.mp hx xs[i + 1] (List.getElem_mem (by omega)))
    simp only [wipeD, Dl.vInt, Int.zero_add, r1_some, r2_some, r1_none, r_var, r_c, r_op, r_fz, r_bval, r_btru, r_band, r_bor, r_bnot, r_if, r_and, r_or, r_not, r_nil, r_cons, r_tup, r_lst, r_lstN, r_cb, r_is, r_call, r_neg, r_chain, r_ixC, ro_no, ro_some, r_sl, rt_nm, rs_next, rs_ret, rs_seq, rs_if, rs_asg, rs_asgT, rs_par, rt_nil, rt_cons, rt_tp, ri_data, ri_range1, ri_range2, ri_enum, r_comp, startD, look_d, looks_nil, looks_d, datas_nil, datas_d, tru_b, tru_i, List.length_cons, List.length_nil, List.getElem?_cons_zero, List.getElem?_cons_succ, List.set_cons_zero, List.set_cons_succ, Option.map_some, List.map_cons, List.map_nil, Nat.reduceAdd, Nat.reduceSub, Nat.reduceEqDiff, List.reduceReplicate, List.cons_append, List.nil_append, List.append_nil, true_and, and_true, gAdd_int, e1, gIx_tuple, at0, at1, c, gLen_tuple, gSub_int]
    simp [ltAt, List.getD, List.getElem?_eq_getElem (show i < xs.length by omega), List.getElem?_eq_getElem (show i + 1 < xs.length by omega)]
  rw [hn, e, r2_some, datas_map, r1_some]
  try simp only [r1_some, r2_some, r1_none, r_var, r_c, r_op, r_fz, r_bval, r_btru, r_band, r_bor, r_bnot, r_if, r_and, r_or, r_not, r_nil, r_cons, r_tup, r_lst, r_lstN, r_cb, r_is, r_call, r_neg, r_chain, r_ixC, ro_no, ro_some, r_sl, rt_nm, rs_next, rs_ret, rs_seq, rs_if, rs_asg, rs_asgT, rs_par, rt_nil, rt_cons, rt_tp, ri_data, ri_range1, ri_range2, ri_enum, r_comp, startD, look_d, looks_nil, looks_d, datas_nil, datas_d, tru_b, tru_i, List.length_cons, List.length_nil, List.getElem?_cons_zero, List.getElem?_cons_succ, List.set_cons_zero, List.set_cons_succ, Option.map_some, List.map_cons, List.map_nil, Nat.reduceAdd, Nat.reduceSub, Nat.reduceEqDiff, List.reduceReplicate, List.cons_append, List.nil_append, List.append_nil, true_and, and_true, gLen_tuple, gSub_int]
  have m : ((List.range (xs.length - 1)).map fun i : Nat => Dl.vInt i 0).map (fun v => match v with
      | .d (.int k) => PyData.bool (ltAt xs k.toNat)
      | _ => .none) = ((List.range (xs.length - 1)).map (ltAt xs)).map .bool := by
    rw [List.map_map, List.map_map]
    refine List.map_congr_left fun i _ => ?_
    simp [Dl.vInt]
  rw [m]
  refine ⟨by simp; omega, ?_⟩
  try simp only [r1_some, r2_some, r1_none, r_var, r_c, r_op, r_fz, r_bval, r_btru, r_band, r_bor, r_bnot, r_if, r_and, r_or, r_not, r_nil, r_cons, r_tup, r_lst, r_lstN, r_cb, r_is, r_call, r_neg, r_chain, r_ixC, ro_no, ro_some, r_sl, rt_nm, rs_next, rs_ret, rs_seq, rs_if, rs_asg, rs_asgT, rs_par, rt_nil, rt_cons, rt_tp, ri_data, ri_range1, ri_range2, ri_enum, r_comp, startD, look_d, looks_nil, looks_d, datas_nil, datas_d, tru_b, tru_i, List.length_cons, List.length_nil, List.getElem?_cons_zero, List.getElem?_cons_succ, List.set_cons_zero, List.set_cons_succ, Option.map_some, List.map_cons, List.map_nil, Nat.reduceAdd, Nat.reduceSub, Nat.reduceEqDiff, List.reduceReplicate, List.cons_append, List.nil_append, List.append_nil, true_and, and_true, gAll_map, gLen_tuple, gSub_int]
  refine ⟨Nat.le_refl _, ?_⟩
  rw [List.all_map]
  rfl
end D01
namespace D01
open PySem PySem.Spec PyProof.Rows L2 Pg Dl
variable {rest st s : Sto}
/-- a def that tells a truth of data and leaves the store -/
def Tells (F : FF) (p : PyData → Bool) : Prop := ∀ (d : PyData) (st : Sto), R2 (F [.d d] st) fun v s => v = .d (.bool (p d)) ∧ s = st
/-- .. of data of bounded size -/
def TellsW (F : FF) (p : PyData → Bool) : Prop := ∀ (d : PyData) (st : Sto), d.weight ≤ 1000000 → R2 (F [.d d] st) fun v s => v = .d (.bool (p d)) ∧ s = st
theorem Tells.w {F : FF} {p : PyData → Bool} (h : Tells F p) : TellsW F p := fun d st _ => h d st
theorem all_comp {F : FF} {p : PyData → Bool} (hF : TellsW F p) {xs : List PyData} {ρ : Dl.Env} {j : Nat} (hρ : (ρ.set j (some (.d .none)))[j]? = some (some (.d .none))) (hw : PyData.weightAll xs ≤ 1000000) :
    compD (tNm j) bYes (eCall 1 F (aCons (eVar j) aNil)) ρ (xs.map .d) st = some (((xs.map p).map PyData.bool).map .d, st) := by
  have hj : j < ρ.length := by
    have := (List.getElem?_eq_some_iff.mp hρ).1
    simpa using this
  have e := comp_told (st := st) (t := tNm j) (a := eCall 1 F (aCons (eVar j) aNil)) (ρ := ρ)
    (h := fun v => match v with
      | .d x => .bool (p x)
      | _ => .none) (items := xs.map .d) fun v hv => by
    obtain ⟨x, hx, rfl⟩ := List.mem_map.mp hv
    have := weight_mem hx
    have at_ : (ρ.set j (some (.d x)))[j]? = some (some (.d x)) := List.getElem?_set_self hj
    try simp only [r1_some, r2_some, r1_none, r_var, r_c, r_op, r_fz, r_bval, r_btru, r_band, r_bor, r_bnot, r_if, r_and, r_or, r_not, r_nil, r_cons, r_tup, r_lst, r_lstN, r_cb, r_is, r_call, r_neg, r_chain, r_ixC, ro_no, ro_some, r_sl, rt_nm, rs_next, rs_ret, rs_seq, rs_if, rs_asg, rs_asgT, rs_par, rt_nil, rt_cons, rt_tp, ri_data, ri_range1, ri_range2, ri_enum, r_comp, startD, look_d, looks_nil, looks_d, datas_nil, datas_d, tru_b, tru_i, List.length_cons, List.length_nil, List.getElem?_cons_zero, List.getElem?_cons_succ, List.set_cons_zero, List.set_cons_succ, Option.map_some, List.map_cons, List.map_nil, Nat.reduceAdd, Nat.reduceSub, Nat.reduceEqDiff, List.reduceReplicate, List.cons_append, List.nil_append, List.append_nil, true_and, and_true, at_]
    exact hF x st (by omega)
  rw [e]
  congr 3
  rw [List.map_map, List.map_map]
  rfl
theorem weight_tup {xs : List PyData} : PyData.weight (.tuple xs) = PyData.weightAll xs := by simp only [PyData.weight]
theorem plot_body {F A : FF} {p : PyData → Bool} (hp : Cmp p) (hF : TellsW F p) (hA : ∀ (xs : List PyData) (st : Sto), xs.length ≤ 1000000 → xs.all p = true → R2 (A [.d (.tuple xs)] st) fun v s => v = .d (.bool (ascB xs)) ∧ s = st)
    {d : PyData} (hw : d.weight ≤ 1000000) : R1 (gPIsLot F A [some (.d d), none] st) fun o => o = .rt (.d (.bool (lotOf p d))) st := by
  unfold gPIsLot
  cases ht : isTup d with
  | false =>
    try simp only [r1_some, r2_some, r1_none, r_var, r_c, r_op, r_fz, r_bval, r_btru, r_band, r_bor, r_bnot, r_if, r_and, r_or, r_not, r_nil, r_cons, r_tup, r_lst, r_lstN, r_cb, r_is, r_call, r_neg, r_chain, r_ixC, ro_no, ro_some, r_sl, rt_nm, rs_next, rs_ret, rs_seq, rs_if, rs_asg, rs_asgT, rs_par, rt_nil, rt_cons, rt_tp, ri_data, ri_range1, ri_range2, ri_enum, r_comp, startD, look_d, looks_nil, looks_d, datas_nil, datas_d, tru_b, tru_i, List.length_cons, List.length_nil, List.getElem?_cons_zero, List.getElem?_cons_succ, List.set_cons_zero, List.set_cons_succ, Option.map_some, List.map_cons, List.map_nil, Nat.reduceAdd, Nat.reduceSub, Nat.reduceEqDiff, List.reduceReplicate, List.cons_append, List.nil_append, List.append_nil, true_and, and_true, isK_tup, ht]
    cases d <;> first | rfl | cases ht
  | true =>
    cases d with
    | tuple xs =>
      rw [weight_tup] at hw
      have len : xs.length ≤ 1000000 := Nat.le_trans len_weight hw
      try simp only [r1_some, r2_some, r1_none, r_var, r_c, r_op, r_fz, r_bval, r_btru, r_band, r_bor, r_bnot, r_if, r_and, r_or, r_not, r_nil, r_cons, r_tup, r_lst, r_lstN, r_cb, r_is, r_call, r_neg, r_chain, r_ixC, ro_no, ro_some, r_sl, rt_nm, rs_next, rs_ret, rs_seq, rs_if, rs_asg, rs_asgT, rs_par, rt_nil, rt_cons, rt_tp, ri_data, ri_range1, ri_range2, ri_enum, r_comp, startD, look_d, looks_nil, looks_d, datas_nil, datas_d, tru_b, tru_i, List.length_cons, List.length_nil, List.getElem?_cons_zero, List.getElem?_cons_succ, List.set_cons_zero, List.set_cons_succ, Option.map_some, List.map_cons, List.map_nil, Nat.reduceAdd, Nat.reduceSub, Nat.reduceEqDiff, List.reduceReplicate, List.cons_append, List.nil_append, List.append_nil, true_and, and_true, isK_tup, ht]
      rw [all_comp hF (ρ := wipeD [some (.d (.tuple xs)), none] [1]) rfl hw, r2_some, datas_map, r1_some]
      try simp only [r1_some, r2_some, r1_none, r_var, r_c, r_op, r_fz, r_bval, r_btru, r_band, r_bor, r_bnot, r_if, r_and, r_or, r_not, r_nil, r_cons, r_tup, r_lst, r_lstN, r_cb, r_is, r_call, r_neg, r_chain, r_ixC, ro_no, ro_some, r_sl, rt_nm, rs_next, rs_ret, rs_seq, rs_if, rs_asg, rs_asgT, rs_par, rt_nil, rt_cons, rt_tp, ri_data, ri_range1, ri_range2, ri_enum, r_comp, startD, look_d, looks_nil, looks_d, datas_nil, datas_d, tru_b, tru_i, List.length_cons, List.length_nil, List.getElem?_cons_zero, List.getElem?_cons_succ, List.set_cons_zero, List.set_cons_succ, Option.map_some, List.map_cons, List.map_nil, Nat.reduceAdd, Nat.reduceSub, Nat.reduceEqDiff, List.reduceReplicate, List.cons_append, List.nil_append, List.append_nil, true_and, and_true, isK_tup, ht]
      refine ⟨by rw [List.length_map, List.length_map]; omega, ?_⟩
      try simp only [r1_some, r2_some, r1_none, r_var, r_c, r_op, r_fz, r_bval, r_btru, r_band, r_bor, r_bnot, r_if, r_and, r_or, r_not, r_nil, r_cons, r_tup, r_lst, r_lstN, r_cb, r_is, r_call, r_neg, r_chain, r_ixC, ro_no, ro_some, r_sl, rt_nm, rs_next, rs_ret, rs_seq, rs_if, rs_asg, rs_asgT, rs_par, rt_nil, rt_cons, rt_tp, ri_data, ri_range1, ri_range2, ri_enum, r_comp, startD, look_d, looks_nil, looks_d, datas_nil, datas_d, tru_b, tru_i, List.length_cons, List.length_nil, List.getElem?_cons_zero, List.getElem?_cons_succ, List.set_cons_zero, List.set_cons_succ, Option.map_some, List.map_cons, List.map_nil, Nat.reduceAdd, Nat.reduceSub, Nat.reduceEqDiff, List.reduceReplicate, List.cons_append, List.nil_append, List.append_nil, true_and, and_true, gAll_map, isK_tup, ht]
      have ha : (xs.map p).all id = xs.all p := by rw [List.all_map]; rfl
      rw [ha]
      cases hx : xs.all p with
      | false => simp only [lotOf, hx, Bool.false_and]
      | true =>
        refine (hA xs st len hx).mono fun v s hv => ?_
        obtain ⟨rfl, rfl⟩ := hv
        simp only [lotOf, hx, Bool.true_and]
    | _ => cases ht
theorem cmp_nat : Cmp isNat := fun x y hx hy => by
  cases x <;> cases y <;> first | cases hx; done | cases hy; done | exact ⟨alike_int _ _, rfl, by simp [PyData.depth]⟩
theorem plot_sp : TellsW (fPIsLot (fPIsNumber fPIsInteger) fPAscends) (lotOf isNat) := fun d st hw => by
  refine rf_of ?_
  refine (plot_body (st := st) cmp_nat (Tells.w fun d st => pnum_sp) (fun xs st few hx => pasc_sp cmp_nat few hx) hw).mono fun o ho => ?_
  subst ho
  exact ⟨Nat.le_refl _, rfl, rfl⟩
/-- the law's -/
theorem nat_sp : Tells (fIsNatural fIsWhole) isNat := fun d st => by
  refine rf_of ?_
  unfold gIsNatural
  try simp only [r1_some, r2_some, r1_none, r_var, r_c, r_op, r_fz, r_bval, r_btru, r_band, r_bor, r_bnot, r_if, r_and, r_or, r_not, r_nil, r_cons, r_tup, r_lst, r_lstN, r_cb, r_is, r_call, r_neg, r_chain, r_ixC, ro_no, ro_some, r_sl, rt_nm, rs_next, rs_ret, rs_seq, rs_if, rs_asg, rs_asgT, rs_par, rt_nil, rt_cons, rt_tp, ri_data, ri_range1, ri_range2, ri_enum, r_comp, startD, look_d, looks_nil, looks_d, datas_nil, datas_d, tru_b, tru_i, List.length_cons, List.length_nil, List.getElem?_cons_zero, List.getElem?_cons_succ, List.set_cons_zero, List.set_cons_succ, Option.map_some, List.map_cons, List.map_nil, Nat.reduceAdd, Nat.reduceSub, Nat.reduceEqDiff, List.reduceReplicate, List.cons_append, List.nil_append, List.append_nil, true_and, and_true]
  refine whole_sp.mono fun v s1 hv => ?_
  obtain ⟨rfl, rfl⟩ := hv
  cases d <;> (simp only [r1_some, r2_some, r1_none, r_var, r_c, r_op, r_fz, r_bval, r_btru, r_band, r_bor, r_bnot, r_if, r_and, r_or, r_not, r_nil, r_cons, r_tup, r_lst, r_lstN, r_cb, r_is, r_call, r_neg, r_chain, r_ixC, ro_no, ro_some, r_sl, rt_nm, rs_next, rs_ret, rs_seq, rs_if, rs_asg, rs_asgT, rs_par, rt_nil, rt_cons, rt_tp, ri_data, ri_range1, ri_range2, ri_enum, r_comp, startD, look_d, looks_nil, looks_d, datas_nil, datas_d, tru_b, tru_i, List.length_cons, List.length_nil, List.getElem?_cons_zero, List.getElem?_cons_succ, List.set_cons_zero, List.set_cons_succ, Option.map_some, List.map_cons, List.map_nil, Nat.reduceAdd, Nat.reduceSub, Nat.reduceEqDiff, List.reduceReplicate, List.cons_append, List.nil_append, List.append_nil, true_and, and_true, isWh, isNat, le0]; simp)
theorem filter_none {α : Type} (q : α → Bool) : ∀ xs : List α, (xs.filter fun x => !q x).isEmpty = xs.all q
  | [] => rfl
  | x :: xs => by
    rw [List.filter_cons, List.all_cons]
    cases h : q x with
    | true => simpa using filter_none q xs
    | false => rfl
theorem lot_body {F : FF} {p : PyData → Bool} (hp : Cmp p) (hF : TellsW F p) {d : PyData} (hw : d.weight ≤ 1000000) : R1 (gIsLot F [some (.d d), none, none] st) fun o => o = .rt (.d (.bool (lotOf p d))) st := by
  unfold gIsLot gIsLot_1
  have i0 : (0 : Nat) ≤ sizeLine := by decide
  cases ht : isTup d with
  | false =>
    try simp only [r1_some, r2_some, r1_none, r_var, r_c, r_op, r_fz, r_bval, r_btru, r_band, r_bor, r_bnot, r_if, r_and, r_or, r_not, r_nil, r_cons, r_tup, r_lst, r_lstN, r_cb, r_is, r_call, r_neg, r_chain, r_ixC, ro_no, ro_some, r_sl, rt_nm, rs_next, rs_ret, rs_seq, rs_if, rs_asg, rs_asgT, rs_par, rt_nil, rt_cons, rt_tp, ri_data, ri_range1, ri_range2, ri_enum, r_comp, startD, look_d, looks_nil, looks_d, datas_nil, datas_d, tru_b, tru_i, List.length_cons, List.length_nil, List.getElem?_cons_zero, List.getElem?_cons_succ, List.set_cons_zero, List.set_cons_succ, Option.map_some, List.map_cons, List.map_nil, Nat.reduceAdd, Nat.reduceSub, Nat.reduceEqDiff, List.reduceReplicate, List.cons_append, List.nil_append, List.append_nil, true_and, and_true, isK_tup, ht]
    cases d <;> first | rfl | cases ht
  | true =>
    cases d with
    | tuple xs =>
      rw [weight_tup] at hw
      have len : xs.length ≤ 1000000 := Nat.le_trans len_weight hw
      try simp only [r1_some, r2_some, r1_none, r_var, r_c, r_op, r_fz, r_bval, r_btru, r_band, r_bor, r_bnot, r_if, r_and, r_or, r_not, r_nil, r_cons, r_tup, r_lst, r_lstN, r_cb, r_is, r_call, r_neg, r_chain, r_ixC, ro_no, ro_some, r_sl, rt_nm, rs_next, rs_ret, rs_seq, rs_if, rs_asg, rs_asgT, rs_par, rt_nil, rt_cons, rt_tp, ri_data, ri_range1, ri_range2, ri_enum, r_comp, startD, look_d, looks_nil, looks_d, datas_nil, datas_d, tru_b, tru_i, List.length_cons, List.length_nil, List.getElem?_cons_zero, List.getElem?_cons_succ, List.set_cons_zero, List.set_cons_succ, Option.map_some, List.map_cons, List.map_nil, Nat.reduceAdd, Nat.reduceSub, Nat.reduceEqDiff, List.reduceReplicate, List.cons_append, List.nil_append, List.append_nil, true_and, and_true, isK_tup, ht]
      have e := comp_sieve (st := st) (t := tNm 2) (c := bNot (bTru (eCall 1 F (aCons (eVar 2) aNil)))) (a := eVar 2) (ρ := wipeD [some (.d (.tuple xs)), none, none] [2])
        (h := fun v => match v with
          | .d x => x
          | _ => .none) (p := fun v => match v with
          | .d x => !p x
          | _ => false) (items := xs.map .d) fun v hv => by
        obtain ⟨x, hx, rfl⟩ := List.mem_map.mp hv
        have := weight_mem hx
        simp only [wipeD, r1_some, r2_some, r1_none, r_var, r_c, r_op, r_fz, r_bval, r_btru, r_band, r_bor, r_bnot, r_if, r_and, r_or, r_not, r_nil, r_cons, r_tup, r_lst, r_lstN, r_cb, r_is, r_call, r_neg, r_chain, r_ixC, ro_no, ro_some, r_sl, rt_nm, rs_next, rs_ret, rs_seq, rs_if, rs_asg, rs_asgT, rs_par, rt_nil, rt_cons, rt_tp, ri_data, ri_range1, ri_range2, ri_enum, r_comp, startD, look_d, looks_nil, looks_d, datas_nil, datas_d, tru_b, tru_i, List.length_cons, List.length_nil, List.getElem?_cons_zero, List.getElem?_cons_succ, List.set_cons_zero, List.set_cons_succ, Option.map_some, List.map_cons, List.map_nil, Nat.reduceAdd, Nat.reduceSub, Nat.reduceEqDiff, List.reduceReplicate, List.cons_append, List.nil_append, List.append_nil, true_and, and_true, isK_tup, ht]
        refine (hF x st (by omega)).mono fun v s hv => ?_
        obtain ⟨rfl, rfl⟩ := hv
        try simp only [r1_some, r2_some, r1_none, r_var, r_c, r_op, r_fz, r_bval, r_btru, r_band, r_bor, r_bnot, r_if, r_and, r_or, r_not, r_nil, r_cons, r_tup, r_lst, r_lstN, r_cb, r_is, r_call, r_neg, r_chain, r_ixC, ro_no, ro_some, r_sl, rt_nm, rs_next, rs_ret, rs_seq, rs_if, rs_asg, rs_asgT, rs_par, rt_nil, rt_cons, rt_tp, ri_data, ri_range1, ri_range2, ri_enum, r_comp, startD, look_d, looks_nil, looks_d, datas_nil, datas_d, tru_b, tru_i, List.length_cons, List.length_nil, List.getElem?_cons_zero, List.getElem?_cons_succ, List.set_cons_zero, List.set_cons_succ, Option.map_some, List.map_cons, List.map_nil, Nat.reduceAdd, Nat.reduceSub, Nat.reduceEqDiff, List.reduceReplicate, List.cons_append, List.nil_append, List.append_nil, true_and, and_true, isK_tup, ht, wipeD]
      have m : ((xs.map Vd.d).filter (fun v => match v with
          | .d x => !p x
          | _ => false)).map (fun v => match v with
          | .d x => x
          | _ => PyData.none) = xs.filter fun x => !p x := by
        rw [List.filter_map, List.map_map]
        exact List.map_id _
      rw [m] at e
      simp only [Bool.not_true]
      rw [e, r2_some, datas_map, r1_some]
      try simp only [r1_some, r2_some, r1_none, r_var, r_c, r_op, r_fz, r_bval, r_btru, r_band, r_bor, r_bnot, r_if, r_and, r_or, r_not, r_nil, r_cons, r_tup, r_lst, r_lstN, r_cb, r_is, r_call, r_neg, r_chain, r_ixC, ro_no, ro_some, r_sl, rt_nm, rs_next, rs_ret, rs_seq, rs_if, rs_asg, rs_asgT, rs_par, rt_nil, rt_cons, rt_tp, ri_data, ri_range1, ri_range2, ri_enum, r_comp, startD, look_d, looks_nil, looks_d, datas_nil, datas_d, tru_b, tru_i, List.length_cons, List.length_nil, List.getElem?_cons_zero, List.getElem?_cons_succ, List.set_cons_zero, List.set_cons_succ, Option.map_some, List.map_cons, List.map_nil, Nat.reduceAdd, Nat.reduceSub, Nat.reduceEqDiff, List.reduceReplicate, List.cons_append, List.nil_append, List.append_nil, true_and, and_true, isK_tup, ht]
      refine ⟨Nat.le_trans (List.length_filter_le _ _) (by omega), i0, ?_⟩
      rw [gNe_nilL, r1_some, filter_none]
      cases hx : xs.all p with
      | false => simp only [r1_some, r2_some, r1_none, r_var, r_c, r_op, r_fz, r_bval, r_btru, r_band, r_bor, r_bnot, r_if, r_and, r_or, r_not, r_nil, r_cons, r_tup, r_lst, r_lstN, r_cb, r_is, r_call, r_neg, r_chain, r_ixC, ro_no, ro_some, r_sl, rt_nm, rs_next, rs_ret, rs_seq, rs_if, rs_asg, rs_asgT, rs_par, rt_nil, rt_cons, rt_tp, ri_data, ri_range1, ri_range2, ri_enum, r_comp, startD, look_d, looks_nil, looks_d, datas_nil, datas_d, tru_b, tru_i, List.length_cons, List.length_nil, List.getElem?_cons_zero, List.getElem?_cons_succ, List.set_cons_zero, List.set_cons_succ, Option.map_some, List.map_cons, List.map_nil, Nat.reduceAdd, Nat.reduceSub, Nat.reduceEqDiff, List.reduceReplicate, List.cons_append, List.nil_append, List.append_nil, true_and, and_true, Bool.not_false, lotOf, hx, Bool.false_and]
      | true =>
        simp only [Bool.not_true]
        unfold gIsLot_2
        try simp only [r1_some, r2_some, r1_none, r_var, r_c, r_op, r_fz, r_bval, r_btru, r_band, r_bor, r_bnot, r_if, r_and, r_or, r_not, r_nil, r_cons, r_tup, r_lst, r_lstN, r_cb, r_is, r_call, r_neg, r_chain, r_ixC, ro_no, ro_some, r_sl, rt_nm, rs_next, rs_ret, rs_seq, rs_if, rs_asg, rs_asgT, rs_par, rt_nil, rt_cons, rt_tp, ri_data, ri_range1, ri_range2, ri_enum, r_comp, startD, look_d, looks_nil, looks_d, datas_nil, datas_d, tru_b, tru_i, List.length_cons, List.length_nil, List.getElem?_cons_zero, List.getElem?_cons_succ, List.set_cons_zero, List.set_cons_succ, Option.map_some, List.map_cons, List.map_nil, Nat.reduceAdd, Nat.reduceSub, Nat.reduceEqDiff, List.reduceReplicate, List.cons_append, List.nil_append, List.append_nil, true_and, and_true, gLen_tuple, i0, isK_tup, ht]
        refine ⟨by omega, by omega, by omega, by omega, ?_⟩
        have hn : ((xs.length : Int) - 1).toNat = xs.length - 1 := by omega
        have e := comp_sieve (st := st) (t := tNm 1) (c := bVal (eOp (gCm fun d e => !PySem.W.dataLt d e) (eOp gIx (eVar 0) (eOp Dl.gSub (eVar 1) (eC (.int 1)))) (eOp gIx (eVar 0) (eVar 1)))) (a := eVar 1) (ρ := wipeD [some (.d (.tuple xs)), none, none] [1])
          (h := fun v => match v with
            | .d x => x
            | _ => .none) (p := fun v => match v with
            | .d (.int k) => !ltAt xs (k.toNat - 1)
            | _ => false) (items := (List.range (xs.length - 1)).map fun k : Nat => Dl.vInt k 1) fun v hv => by
          obtain ⟨i, hi, rfl⟩ := List.mem_map.mp hv
          have hi' := List.mem_range.mp hi
          have e1 : (1 + (i : Int)) = ((i + 1 : Nat) : Int) := by omega
          have e2 : ((i + 1 : Nat) : Int) - 1 = (i : Int) := by omega
          have at0 : atI xs (i : Int) = some xs[i] := by rw [atI_nat_, List.getElem?_eq_getElem (by omega)]
          have at1 : atI xs ((i + 1 : Nat) : Int) = some xs[i + 1] := by rw [atI_nat_, List.getElem?_eq_getElem (by omega)]
          have c := gCm_of hp (fun d e => !PySem.W.dataLt d e) (List.all_eq_true.mp hx xs[i] (List.getElem_mem (by omega))) (List.all_eq_true.mp hx xs[i + 1] (List.getElem_mem (by omega)))
          simp only [wipeD, Dl.vInt, e1, r1_some, r2_some, r1_none, r_var, r_c, r_op, r_fz, r_bval, r_btru, r_band, r_bor, r_bnot, r_if, r_and, r_or, r_not, r_nil, r_cons, r_tup, r_lst, r_lstN, r_cb, r_is, r_call, r_neg, r_chain, r_ixC, ro_no, ro_some, r_sl, rt_nm, rs_next, rs_ret, rs_seq, rs_if, rs_asg, rs_asgT, rs_par, rt_nil, rt_cons, rt_tp, ri_data, ri_range1, ri_range2, ri_enum, r_comp, startD, look_d, looks_nil, looks_d, datas_nil, datas_d, tru_b, tru_i, List.length_cons, List.length_nil, List.getElem?_cons_zero, List.getElem?_cons_succ, List.set_cons_zero, List.set_cons_succ, Option.map_some, List.map_cons, List.map_nil, Nat.reduceAdd, Nat.reduceSub, Nat.reduceEqDiff, List.reduceReplicate, List.cons_append, List.nil_append, List.append_nil, true_and, and_true, gSub_int, e2, gIx_tuple, at0, at1, c, isK_tup, ht, gLen_tuple, i0]
          simp [ltAt, List.getD, List.getElem?_eq_getElem (show i < xs.length by omega), List.getElem?_eq_getElem (show i + 1 < xs.length by omega)]
        rw [hn, e, r2_some, datas_map, r1_some]
        try simp only [r1_some, r2_some, r1_none, r_var, r_c, r_op, r_fz, r_bval, r_btru, r_band, r_bor, r_bnot, r_if, r_and, r_or, r_not, r_nil, r_cons, r_tup, r_lst, r_lstN, r_cb, r_is, r_call, r_neg, r_chain, r_ixC, ro_no, ro_some, r_sl, rt_nm, rs_next, rs_ret, rs_seq, rs_if, rs_asg, rs_asgT, rs_par, rt_nil, rt_cons, rt_tp, ri_data, ri_range1, ri_range2, ri_enum, r_comp, startD, look_d, looks_nil, looks_d, datas_nil, datas_d, tru_b, tru_i, List.length_cons, List.length_nil, List.getElem?_cons_zero, List.getElem?_cons_succ, List.set_cons_zero, List.set_cons_succ, Option.map_some, List.map_cons, List.map_nil, Nat.reduceAdd, Nat.reduceSub, Nat.reduceEqDiff, List.reduceReplicate, List.cons_append, List.nil_append, List.append_nil, true_and, and_true, isK_tup, ht, gLen_tuple, i0]
        refine ⟨?_, ?_⟩
        · rw [List.length_map]
          refine Nat.le_trans (List.length_filter_le _ _) ?_
          rw [List.length_map, List.length_range]
          omega
        · have m : ((((List.range (xs.length - 1)).map fun k : Nat => Dl.vInt k 1).filter (fun v => match v with
            | .d (.int k) => !ltAt xs (k.toNat - 1)
            | _ => false)).map (fun v => match v with
            | .d x => x
            | _ => PyData.none)).isEmpty = ascB xs := by
            rw [List.isEmpty_map, List.filter_map, List.isEmpty_map]
            have : ((fun v => match v with
              | Vd.d (.int k) => !ltAt xs (k.toNat - 1)
              | _ => false) ∘ fun k : Nat => Dl.vInt k 1) = fun i => !ltAt xs i := by
              funext i
              simp [Dl.vInt, show (1 + (i : Int)).toNat - 1 = i by omega]
            rw [this]
            exact filter_none _ _
          try simp only [r1_some, r2_some, r1_none, r_var, r_c, r_op, r_fz, r_bval, r_btru, r_band, r_bor, r_bnot, r_if, r_and, r_or, r_not, r_nil, r_cons, r_tup, r_lst, r_lstN, r_cb, r_is, r_call, r_neg, r_chain, r_ixC, ro_no, ro_some, r_sl, rt_nm, rs_next, rs_ret, rs_seq, rs_if, rs_asg, rs_asgT, rs_par, rt_nil, rt_cons, rt_tp, ri_data, ri_range1, ri_range2, ri_enum, r_comp, startD, look_d, looks_nil, looks_d, datas_nil, datas_d, tru_b, tru_i, List.length_cons, List.length_nil, List.getElem?_cons_zero, List.getElem?_cons_succ, List.set_cons_zero, List.set_cons_succ, Option.map_some, List.map_cons, List.map_nil, Nat.reduceAdd, Nat.reduceSub, Nat.reduceEqDiff, List.reduceReplicate, List.cons_append, List.nil_append, List.append_nil, true_and, and_true, gEq_nilL, m, lotOf, hx, Bool.true_and, isK_tup, ht, gLen_tuple, i0]
    | _ => cases ht
theorem lot_law : TellsW (fIsLot (fIsNatural fIsWhole)) (lotOf isNat) := fun d st hw => by
  refine rf_of ?_
  refine (lot_body (st := st) cmp_nat nat_sp.w hw).mono fun o ho => ?_
  subst ho
  exact ⟨Nat.le_refl _, rfl, rfl⟩
end D01

set_option Elab.async false
set_option linter.all false
set_option maxRecDepth 100000
set_option maxHeartbeats 4000000
namespace D01
open PySem PySem.Spec PyProof.Rows L2 Pg Dl
variable {rest st s : Sto}
def row (n : Nat) : PyData → Bool
  | .tuple xs => decide (xs.length = n)
  | _ => false
theorem row_sp {d : PyData} {n : Nat} : R2 (fPIsRow [.d d, .d (.int n)] st) fun v s => v = .d (.bool (row n d)) ∧ s = st := by
  refine rf_of ?_
  unfold gPIsRow
  cases ht : isTup d with
  | false =>
    try simp only [r1_some, r2_some, r1_none, r_var, r_c, r_op, r_fz, r_bval, r_btru, r_band, r_bor, r_bnot, r_if, r_and, r_or, r_not, r_nil, r_cons, r_tup, r_lst, r_lstN, r_cb, r_is, r_call, r_neg, r_chain, r_ixC, ro_no, ro_some, r_sl, rt_nm, rs_next, rs_ret, rs_seq, rs_if, rs_asg, rs_asgT, rs_par, rt_nil, rt_cons, rt_tp, ri_data, ri_range1, ri_range2, ri_enum, r_comp, startD, look_d, looks_nil, looks_d, datas_nil, datas_d, tru_b, tru_i, List.length_cons, List.length_nil, List.getElem?_cons_zero, List.getElem?_cons_succ, List.set_cons_zero, List.set_cons_succ, Option.map_some, List.map_cons, List.map_nil, Nat.reduceAdd, Nat.reduceSub, Nat.reduceEqDiff, List.reduceReplicate, List.cons_append, List.nil_append, List.append_nil, true_and, and_true, isK_tup, ht]
    cases d <;> first | (simp [row]; done) | cases ht
  | true =>
    cases d with
    | tuple xs =>
      try simp only [r1_some, r2_some, r1_none, r_var, r_c, r_op, r_fz, r_bval, r_btru, r_band, r_bor, r_bnot, r_if, r_and, r_or, r_not, r_nil, r_cons, r_tup, r_lst, r_lstN, r_cb, r_is, r_call, r_neg, r_chain, r_ixC, ro_no, ro_some, r_sl, rt_nm, rs_next, rs_ret, rs_seq, rs_if, rs_asg, rs_asgT, rs_par, rt_nil, rt_cons, rt_tp, ri_data, ri_range1, ri_range2, ri_enum, r_comp, startD, look_d, looks_nil, looks_d, datas_nil, datas_d, tru_b, tru_i, List.length_cons, List.length_nil, List.getElem?_cons_zero, List.getElem?_cons_succ, List.set_cons_zero, List.set_cons_succ, Option.map_some, List.map_cons, List.map_nil, Nat.reduceAdd, Nat.reduceSub, Nat.reduceEqDiff, List.reduceReplicate, List.cons_append, List.nil_append, List.append_nil, true_and, and_true, isK_tup, ht, gLen_tuple, gEq_int]
      refine ⟨Nat.le_refl _, ?_⟩
      have : decide ((xs.length : Int) = (n : Int)) = decide (xs.length = n) := by
        rw [decide_eq_decide]
        omega
      simp only [row, this]
    | _ => cases ht
theorem row2 {d : PyData} (h : row 2 d = true) : ∃ a b, d = .tuple [a, b] := by
  cases d with
  | tuple xs =>
    have := of_decide_eq_true h
    match xs, this with
    | [a, b], _ => exact ⟨a, b, rfl⟩
  | _ => cases h
theorem row4 {d : PyData} (h : row 4 d = true) : ∃ a b c e, d = .tuple [a, b, c, e] := by
  cases d with
  | tuple xs =>
    have := of_decide_eq_true h
    match xs, this with
    | [a, b, c, e], _ => exact ⟨a, b, c, e, rfl⟩
  | _ => cases h
theorem at2_0 {α : Type} (a b : α) : atI [a, b] 0 = some a := rfl
theorem at2_1 {α : Type} (a b : α) : atI [a, b] 1 = some b := rfl
theorem not_pair {d : PyData} (h : row 2 d = false) : isPair d = false ∧ isTick d = false := by
  cases d with
  | tuple xs =>
    match xs with
    | [] => exact ⟨rfl, rfl⟩
    | [_] => exact ⟨rfl, rfl⟩
    | [_, _] => cases h
    | _ :: _ :: _ :: _ => exact ⟨rfl, rfl⟩
  | _ => exact ⟨rfl, rfl⟩
theorem ppair_sp : Tells (fPIsNumberPair fPIsRow (fPIsNumber fPIsInteger)) isPair := fun d st => by
  refine rf_of ?_
  unfold gPIsNumberPair
  try simp only [r1_some, r2_some, r1_none, r_var, r_c, r_op, r_fz, r_bval, r_btru, r_band, r_bor, r_bnot, r_if, r_and, r_or, r_not, r_nil, r_cons, r_tup, r_lst, r_lstN, r_cb, r_is, r_call, r_neg, r_chain, r_ixC, ro_no, ro_some, r_sl, rt_nm, rs_next, rs_ret, rs_seq, rs_if, rs_asg, rs_asgT, rs_par, rt_nil, rt_cons, rt_tp, ri_data, ri_range1, ri_range2, ri_enum, r_comp, startD, look_d, looks_nil, looks_d, datas_nil, datas_d, tru_b, tru_i, List.length_cons, List.length_nil, List.getElem?_cons_zero, List.getElem?_cons_succ, List.set_cons_zero, List.set_cons_succ, Option.map_some, List.map_cons, List.map_nil, Nat.reduceAdd, Nat.reduceSub, Nat.reduceEqDiff, List.reduceReplicate, List.cons_append, List.nil_append, List.append_nil, true_and, and_true]
  refine (row_sp (n := 2)).mono fun v s1 hv => ?_
  obtain ⟨rfl, rfl⟩ := hv
  try simp only [r1_some, r2_some, r1_none, r_var, r_c, r_op, r_fz, r_bval, r_btru, r_band, r_bor, r_bnot, r_if, r_and, r_or, r_not, r_nil, r_cons, r_tup, r_lst, r_lstN, r_cb, r_is, r_call, r_neg, r_chain, r_ixC, ro_no, ro_some, r_sl, rt_nm, rs_next, rs_ret, rs_seq, rs_if, rs_asg, rs_asgT, rs_par, rt_nil, rt_cons, rt_tp, ri_data, ri_range1, ri_range2, ri_enum, r_comp, startD, look_d, looks_nil, looks_d, datas_nil, datas_d, tru_b, tru_i, List.length_cons, List.length_nil, List.getElem?_cons_zero, List.getElem?_cons_succ, List.set_cons_zero, List.set_cons_succ, Option.map_some, List.map_cons, List.map_nil, Nat.reduceAdd, Nat.reduceSub, Nat.reduceEqDiff, List.reduceReplicate, List.cons_append, List.nil_append, List.append_nil, true_and, and_true]
  cases hr : row 2 d with
  | false => simp [(not_pair hr).1]
  | true =>
    obtain ⟨a, b, rfl⟩ := row2 hr
    try simp only [r1_some, r2_some, r1_none, r_var, r_c, r_op, r_fz, r_bval, r_btru, r_band, r_bor, r_bnot, r_if, r_and, r_or, r_not, r_nil, r_cons, r_tup, r_lst, r_lstN, r_cb, r_is, r_call, r_neg, r_chain, r_ixC, ro_no, ro_some, r_sl, rt_nm, rs_next, rs_ret, rs_seq, rs_if, rs_asg, rs_asgT, rs_par, rt_nil, rt_cons, rt_tp, ri_data, ri_range1, ri_range2, ri_enum, r_comp, startD, look_d, looks_nil, looks_d, datas_nil, datas_d, tru_b, tru_i, List.length_cons, List.length_nil, List.getElem?_cons_zero, List.getElem?_cons_succ, List.set_cons_zero, List.set_cons_succ, Option.map_some, List.map_cons, List.map_nil, Nat.reduceAdd, Nat.reduceSub, Nat.reduceEqDiff, List.reduceReplicate, List.cons_append, List.nil_append, List.append_nil, true_and, and_true, gIx_tuple, at2_0, at2_1]
    refine pnum_sp.mono fun v s2 hv => ?_
    obtain ⟨rfl, rfl⟩ := hv
    try simp only [r1_some, r2_some, r1_none, r_var, r_c, r_op, r_fz, r_bval, r_btru, r_band, r_bor, r_bnot, r_if, r_and, r_or, r_not, r_nil, r_cons, r_tup, r_lst, r_lstN, r_cb, r_is, r_call, r_neg, r_chain, r_ixC, ro_no, ro_some, r_sl, rt_nm, rs_next, rs_ret, rs_seq, rs_if, rs_asg, rs_asgT, rs_par, rt_nil, rt_cons, rt_tp, ri_data, ri_range1, ri_range2, ri_enum, r_comp, startD, look_d, looks_nil, looks_d, datas_nil, datas_d, tru_b, tru_i, List.length_cons, List.length_nil, List.getElem?_cons_zero, List.getElem?_cons_succ, List.set_cons_zero, List.set_cons_succ, Option.map_some, List.map_cons, List.map_nil, Nat.reduceAdd, Nat.reduceSub, Nat.reduceEqDiff, List.reduceReplicate, List.cons_append, List.nil_append, List.append_nil, true_and, and_true, gIx_tuple, at2_0, at2_1]
    cases ha : isNat a with
    | false => simp [isPair, ha]
    | true =>
      refine pnum_sp.mono fun v s3 hv => ?_
      obtain ⟨rfl, rfl⟩ := hv
      try simp only [r1_some, r2_some, r1_none, r_var, r_c, r_op, r_fz, r_bval, r_btru, r_band, r_bor, r_bnot, r_if, r_and, r_or, r_not, r_nil, r_cons, r_tup, r_lst, r_lstN, r_cb, r_is, r_call, r_neg, r_chain, r_ixC, ro_no, ro_some, r_sl, rt_nm, rs_next, rs_ret, rs_seq, rs_if, rs_asg, rs_asgT, rs_par, rt_nil, rt_cons, rt_tp, ri_data, ri_range1, ri_range2, ri_enum, r_comp, startD, look_d, looks_nil, looks_d, datas_nil, datas_d, tru_b, tru_i, List.length_cons, List.length_nil, List.getElem?_cons_zero, List.getElem?_cons_succ, List.set_cons_zero, List.set_cons_succ, Option.map_some, List.map_cons, List.map_nil, Nat.reduceAdd, Nat.reduceSub, Nat.reduceEqDiff, List.reduceReplicate, List.cons_append, List.nil_append, List.append_nil, true_and, and_true, gIx_tuple, at2_0, at2_1]
      simp [isPair, ha]
theorem pplace_sp : Tells (fPIsPlace (fPIsNumberPair fPIsRow (fPIsNumber fPIsInteger))) isPair := fun d st => by
  refine rf_of ?_
  unfold gPIsPlace
  try simp only [r1_some, r2_some, r1_none, r_var, r_c, r_op, r_fz, r_bval, r_btru, r_band, r_bor, r_bnot, r_if, r_and, r_or, r_not, r_nil, r_cons, r_tup, r_lst, r_lstN, r_cb, r_is, r_call, r_neg, r_chain, r_ixC, ro_no, ro_some, r_sl, rt_nm, rs_next, rs_ret, rs_seq, rs_if, rs_asg, rs_asgT, rs_par, rt_nil, rt_cons, rt_tp, ri_data, ri_range1, ri_range2, ri_enum, r_comp, startD, look_d, looks_nil, looks_d, datas_nil, datas_d, tru_b, tru_i, List.length_cons, List.length_nil, List.getElem?_cons_zero, List.getElem?_cons_succ, List.set_cons_zero, List.set_cons_succ, Option.map_some, List.map_cons, List.map_nil, Nat.reduceAdd, Nat.reduceSub, Nat.reduceEqDiff, List.reduceReplicate, List.cons_append, List.nil_append, List.append_nil, true_and, and_true]
  refine (ppair_sp d st).mono fun v s1 hv => ?_
  obtain ⟨rfl, rfl⟩ := hv
  try simp only [r1_some, r2_some, r1_none, r_var, r_c, r_op, r_fz, r_bval, r_btru, r_band, r_bor, r_bnot, r_if, r_and, r_or, r_not, r_nil, r_cons, r_tup, r_lst, r_lstN, r_cb, r_is, r_call, r_neg, r_chain, r_ixC, ro_no, ro_some, r_sl, rt_nm, rs_next, rs_ret, rs_seq, rs_if, rs_asg, rs_asgT, rs_par, rt_nil, rt_cons, rt_tp, ri_data, ri_range1, ri_range2, ri_enum, r_comp, startD, look_d, looks_nil, looks_d, datas_nil, datas_d, tru_b, tru_i, List.length_cons, List.length_nil, List.getElem?_cons_zero, List.getElem?_cons_succ, List.set_cons_zero, List.set_cons_succ, Option.map_some, List.map_cons, List.map_nil, Nat.reduceAdd, Nat.reduceSub, Nat.reduceEqDiff, List.reduceReplicate, List.cons_append, List.nil_append, List.append_nil, true_and, and_true]
  first | exact ⟨Nat.le_refl _, rfl, rfl⟩ | exact Nat.le_refl _
theorem place_sp : Tells (fIsPlace (fIsNatural fIsWhole)) isPair := fun d st => by
  refine rf_of ?_
  unfold gIsPlace
  cases ht : isTup d with
  | false =>
    try simp only [r1_some, r2_some, r1_none, r_var, r_c, r_op, r_fz, r_bval, r_btru, r_band, r_bor, r_bnot, r_if, r_and, r_or, r_not, r_nil, r_cons, r_tup, r_lst, r_lstN, r_cb, r_is, r_call, r_neg, r_chain, r_ixC, ro_no, ro_some, r_sl, rt_nm, rs_next, rs_ret, rs_seq, rs_if, rs_asg, rs_asgT, rs_par, rt_nil, rt_cons, rt_tp, ri_data, ri_range1, ri_range2, ri_enum, r_comp, startD, look_d, looks_nil, looks_d, datas_nil, datas_d, tru_b, tru_i, List.length_cons, List.length_nil, List.getElem?_cons_zero, List.getElem?_cons_succ, List.set_cons_zero, List.set_cons_succ, Option.map_some, List.map_cons, List.map_nil, Nat.reduceAdd, Nat.reduceSub, Nat.reduceEqDiff, List.reduceReplicate, List.cons_append, List.nil_append, List.append_nil, true_and, and_true, isK_tup, ht]
    cases d <;> first | (simp [isPair]; done) | cases ht
  | true =>
    cases d with
    | tuple xs =>
      try simp only [r1_some, r2_some, r1_none, r_var, r_c, r_op, r_fz, r_bval, r_btru, r_band, r_bor, r_bnot, r_if, r_and, r_or, r_not, r_nil, r_cons, r_tup, r_lst, r_lstN, r_cb, r_is, r_call, r_neg, r_chain, r_ixC, ro_no, ro_some, r_sl, rt_nm, rs_next, rs_ret, rs_seq, rs_if, rs_asg, rs_asgT, rs_par, rt_nil, rt_cons, rt_tp, ri_data, ri_range1, ri_range2, ri_enum, r_comp, startD, look_d, looks_nil, looks_d, datas_nil, datas_d, tru_b, tru_i, List.length_cons, List.length_nil, List.getElem?_cons_zero, List.getElem?_cons_succ, List.set_cons_zero, List.set_cons_succ, Option.map_some, List.map_cons, List.map_nil, Nat.reduceAdd, Nat.reduceSub, Nat.reduceEqDiff, List.reduceReplicate, List.cons_append, List.nil_append, List.append_nil, true_and, and_true, isK_tup, ht, gLen_tuple, gEq_int]
      cases hr : decide ((xs.length : Int) = 2) with
      | false =>
        have h2 := of_decide_eq_false hr
        have : row 2 (.tuple xs) = false := decide_eq_false (by omega)
        simp [(not_pair this).1]
      | true =>
        have h2 := of_decide_eq_true hr
        obtain ⟨a, b, e⟩ := row2 (d := .tuple xs) (decide_eq_true (by omega))
        cases e
        try simp only [r1_some, r2_some, r1_none, r_var, r_c, r_op, r_fz, r_bval, r_btru, r_band, r_bor, r_bnot, r_if, r_and, r_or, r_not, r_nil, r_cons, r_tup, r_lst, r_lstN, r_cb, r_is, r_call, r_neg, r_chain, r_ixC, ro_no, ro_some, r_sl, rt_nm, rs_next, rs_ret, rs_seq, rs_if, rs_asg, rs_asgT, rs_par, rt_nil, rt_cons, rt_tp, ri_data, ri_range1, ri_range2, ri_enum, r_comp, startD, look_d, looks_nil, looks_d, datas_nil, datas_d, tru_b, tru_i, List.length_cons, List.length_nil, List.getElem?_cons_zero, List.getElem?_cons_succ, List.set_cons_zero, List.set_cons_succ, Option.map_some, List.map_cons, List.map_nil, Nat.reduceAdd, Nat.reduceSub, Nat.reduceEqDiff, List.reduceReplicate, List.cons_append, List.nil_append, List.append_nil, true_and, and_true, gIx_tuple, at2_0, at2_1, isK_tup, ht, gLen_tuple, gEq_int]
        refine (nat_sp a st).mono fun v s2 hv => ?_
        obtain ⟨rfl, rfl⟩ := hv
        try simp only [r1_some, r2_some, r1_none, r_var, r_c, r_op, r_fz, r_bval, r_btru, r_band, r_bor, r_bnot, r_if, r_and, r_or, r_not, r_nil, r_cons, r_tup, r_lst, r_lstN, r_cb, r_is, r_call, r_neg, r_chain, r_ixC, ro_no, ro_some, r_sl, rt_nm, rs_next, rs_ret, rs_seq, rs_if, rs_asg, rs_asgT, rs_par, rt_nil, rt_cons, rt_tp, ri_data, ri_range1, ri_range2, ri_enum, r_comp, startD, look_d, looks_nil, looks_d, datas_nil, datas_d, tru_b, tru_i, List.length_cons, List.length_nil, List.getElem?_cons_zero, List.getElem?_cons_succ, List.set_cons_zero, List.set_cons_succ, Option.map_some, List.map_cons, List.map_nil, Nat.reduceAdd, Nat.reduceSub, Nat.reduceEqDiff, List.reduceReplicate, List.cons_append, List.nil_append, List.append_nil, true_and, and_true, isK_tup, ht, gLen_tuple, gEq_int, gIx_tuple, at2_0, at2_1]
        cases ha : isNat a with
        | false => simp [isPair, ha]
        | true =>
          refine (nat_sp b _).mono fun v s3 hv => ?_
          obtain ⟨rfl, rfl⟩ := hv
          try simp only [r1_some, r2_some, r1_none, r_var, r_c, r_op, r_fz, r_bval, r_btru, r_band, r_bor, r_bnot, r_if, r_and, r_or, r_not, r_nil, r_cons, r_tup, r_lst, r_lstN, r_cb, r_is, r_call, r_neg, r_chain, r_ixC, ro_no, ro_some, r_sl, rt_nm, rs_next, rs_ret, rs_seq, rs_if, rs_asg, rs_asgT, rs_par, rt_nil, rt_cons, rt_tp, ri_data, ri_range1, ri_range2, ri_enum, r_comp, startD, look_d, looks_nil, looks_d, datas_nil, datas_d, tru_b, tru_i, List.length_cons, List.length_nil, List.getElem?_cons_zero, List.getElem?_cons_succ, List.set_cons_zero, List.set_cons_succ, Option.map_some, List.map_cons, List.map_nil, Nat.reduceAdd, Nat.reduceSub, Nat.reduceEqDiff, List.reduceReplicate, List.cons_append, List.nil_append, List.append_nil, true_and, and_true, isK_tup, ht, gLen_tuple, gEq_int, gIx_tuple, at2_0, at2_1]
          simp [isPair, ha]
    | _ => cases ht
theorem cmp_pair : Cmp isPair := fun x y hx hy => by
  obtain ⟨a, b, rfl⟩ : ∃ a b : Int, x = .tuple [.int a, .int b] := by
    cases hr : row 2 x with
    | false => rw [(not_pair hr).1] at hx; cases hx
    | true =>
      obtain ⟨a, b, rfl⟩ := row2 hr
      simp only [isPair, Bool.and_eq_true] at hx
      cases a <;> cases b <;> first | exact ⟨_, _, rfl⟩ | (obtain ⟨h1, h2⟩ := hx; first | cases h1; done | cases h2; done)
  obtain ⟨c, d, rfl⟩ : ∃ a b : Int, y = .tuple [.int a, .int b] := by
    cases hr : row 2 y with
    | false => rw [(not_pair hr).1] at hy; cases hy
    | true =>
      obtain ⟨a, b, rfl⟩ := row2 hr
      simp only [isPair, Bool.and_eq_true] at hy
      cases a <;> cases b <;> first | exact ⟨_, _, rfl⟩ | (obtain ⟨h1, h2⟩ := hy; first | cases h1; done | cases h2; done)
  refine ⟨?_, rfl, by simp [PyData.depth, PyData.depthAll]⟩
  simp [PySem.W.alike, PySem.W.alikeAll]
theorem ppls_sp : TellsW (fPIsLotOfPairs (fPIsNumberPair fPIsRow (fPIsNumber fPIsInteger)) fPAscends) (lotOf isPair) := fun d st hw => by
  refine rf_of ?_
  refine (plot_body (st := st) cmp_pair ppair_sp.w (fun xs st few hx => pasc_sp cmp_pair few hx) hw).mono fun o ho => ?_
  subst ho
  first | exact ⟨Nat.le_refl _, rfl, rfl⟩ | exact Nat.le_refl _
theorem pls_sp : TellsW (fArePlaces (fIsPlace (fIsNatural fIsWhole))) (lotOf isPair) := fun d st hw => by
  refine rf_of ?_
  refine (lot_body (st := st) cmp_pair place_sp.w hw).mono fun o ho => ?_
  subst ho
  first | exact ⟨Nat.le_refl _, rfl, rfl⟩ | exact Nat.le_refl _
theorem lot_tup {p : PyData → Bool} {d : PyData} (h : lotOf p d = true) : ∃ xs, d = .tuple xs := by
  cases d with
  | tuple xs => exact ⟨xs, rfl⟩
  | _ => cases h
theorem somelot_sp {d : PyData} (hw : d.weight ≤ 1000000) : R2 (fPIsSomeLot (fPIsLot (fPIsNumber fPIsInteger) fPAscends) [.d d] st) fun v s => v = .d (.bool (lotOf isNat d && nonT d)) ∧ s = st := by
  refine rf_of ?_
  unfold gPIsSomeLot
  try simp only [r1_some, r2_some, r1_none, r_var, r_c, r_op, r_fz, r_bval, r_btru, r_band, r_bor, r_bnot, r_if, r_and, r_or, r_not, r_nil, r_cons, r_tup, r_lst, r_lstN, r_cb, r_is, r_call, r_neg, r_chain, r_ixC, ro_no, ro_some, r_sl, rt_nm, rs_next, rs_ret, rs_seq, rs_if, rs_asg, rs_asgT, rs_par, rt_nil, rt_cons, rt_tp, ri_data, ri_range1, ri_range2, ri_enum, r_comp, startD, look_d, looks_nil, looks_d, datas_nil, datas_d, tru_b, tru_i, List.length_cons, List.length_nil, List.getElem?_cons_zero, List.getElem?_cons_succ, List.set_cons_zero, List.set_cons_succ, Option.map_some, List.map_cons, List.map_nil, Nat.reduceAdd, Nat.reduceSub, Nat.reduceEqDiff, List.reduceReplicate, List.cons_append, List.nil_append, List.append_nil, true_and, and_true]
  refine (plot_sp d st hw).mono fun v s1 hv => ?_
  obtain ⟨rfl, rfl⟩ := hv
  try simp only [r1_some, r2_some, r1_none, r_var, r_c, r_op, r_fz, r_bval, r_btru, r_band, r_bor, r_bnot, r_if, r_and, r_or, r_not, r_nil, r_cons, r_tup, r_lst, r_lstN, r_cb, r_is, r_call, r_neg, r_chain, r_ixC, ro_no, ro_some, r_sl, rt_nm, rs_next, rs_ret, rs_seq, rs_if, rs_asg, rs_asgT, rs_par, rt_nil, rt_cons, rt_tp, ri_data, ri_range1, ri_range2, ri_enum, r_comp, startD, look_d, looks_nil, looks_d, datas_nil, datas_d, tru_b, tru_i, List.length_cons, List.length_nil, List.getElem?_cons_zero, List.getElem?_cons_succ, List.set_cons_zero, List.set_cons_succ, Option.map_some, List.map_cons, List.map_nil, Nat.reduceAdd, Nat.reduceSub, Nat.reduceEqDiff, List.reduceReplicate, List.cons_append, List.nil_append, List.append_nil, true_and, and_true]
  cases hl : lotOf isNat d with
  | false => simp
  | true =>
    obtain ⟨xs, rfl⟩ := lot_tup hl
    try simp only [r1_some, r2_some, r1_none, r_var, r_c, r_op, r_fz, r_bval, r_btru, r_band, r_bor, r_bnot, r_if, r_and, r_or, r_not, r_nil, r_cons, r_tup, r_lst, r_lstN, r_cb, r_is, r_call, r_neg, r_chain, r_ixC, ro_no, ro_some, r_sl, rt_nm, rs_next, rs_ret, rs_seq, rs_if, rs_asg, rs_asgT, rs_par, rt_nil, rt_cons, rt_tp, ri_data, ri_range1, ri_range2, ri_enum, r_comp, startD, look_d, looks_nil, looks_d, datas_nil, datas_d, tru_b, tru_i, List.length_cons, List.length_nil, List.getElem?_cons_zero, List.getElem?_cons_succ, List.set_cons_zero, List.set_cons_succ, Option.map_some, List.map_cons, List.map_nil, Nat.reduceAdd, Nat.reduceSub, Nat.reduceEqDiff, List.reduceReplicate, List.cons_append, List.nil_append, List.append_nil, true_and, and_true, gLen_tuple, gCm_int, lt_int_]
    cases xs with
    | nil => simp [nonT]
    | cons x xs => simp [nonT]; try omega
theorem tick_eq {l m : PyData} : isTick (.tuple [l, m]) = (lotOf isNat l && nonT l && isNat m) := rfl
theorem ptick_sp : TellsW (fPIsTicket fPIsRow (fPIsSomeLot (fPIsLot (fPIsNumber fPIsInteger) fPAscends)) (fPIsNumber fPIsInteger)) isTick := fun d st hw => by
  refine rf_of ?_
  unfold gPIsTicket
  try simp only [r1_some, r2_some, r1_none, r_var, r_c, r_op, r_fz, r_bval, r_btru, r_band, r_bor, r_bnot, r_if, r_and, r_or, r_not, r_nil, r_cons, r_tup, r_lst, r_lstN, r_cb, r_is, r_call, r_neg, r_chain, r_ixC, ro_no, ro_some, r_sl, rt_nm, rs_next, rs_ret, rs_seq, rs_if, rs_asg, rs_asgT, rs_par, rt_nil, rt_cons, rt_tp, ri_data, ri_range1, ri_range2, ri_enum, r_comp, startD, look_d, looks_nil, looks_d, datas_nil, datas_d, tru_b, tru_i, List.length_cons, List.length_nil, List.getElem?_cons_zero, List.getElem?_cons_succ, List.set_cons_zero, List.set_cons_succ, Option.map_some, List.map_cons, List.map_nil, Nat.reduceAdd, Nat.reduceSub, Nat.reduceEqDiff, List.reduceReplicate, List.cons_append, List.nil_append, List.append_nil, true_and, and_true]
  refine (row_sp (n := 2)).mono fun v s1 hv => ?_
  obtain ⟨rfl, rfl⟩ := hv
  try simp only [r1_some, r2_some, r1_none, r_var, r_c, r_op, r_fz, r_bval, r_btru, r_band, r_bor, r_bnot, r_if, r_and, r_or, r_not, r_nil, r_cons, r_tup, r_lst, r_lstN, r_cb, r_is, r_call, r_neg, r_chain, r_ixC, ro_no, ro_some, r_sl, rt_nm, rs_next, rs_ret, rs_seq, rs_if, rs_asg, rs_asgT, rs_par, rt_nil, rt_cons, rt_tp, ri_data, ri_range1, ri_range2, ri_enum, r_comp, startD, look_d, looks_nil, looks_d, datas_nil, datas_d, tru_b, tru_i, List.length_cons, List.length_nil, List.getElem?_cons_zero, List.getElem?_cons_succ, List.set_cons_zero, List.set_cons_succ, Option.map_some, List.map_cons, List.map_nil, Nat.reduceAdd, Nat.reduceSub, Nat.reduceEqDiff, List.reduceReplicate, List.cons_append, List.nil_append, List.append_nil, true_and, and_true]
  cases hr : row 2 d with
  | false => simp [(not_pair hr).2]
  | true =>
    obtain ⟨a, b, rfl⟩ := row2 hr
    simp only [PyData.weight, PyData.weightAll] at hw
    try simp only [r1_some, r2_some, r1_none, r_var, r_c, r_op, r_fz, r_bval, r_btru, r_band, r_bor, r_bnot, r_if, r_and, r_or, r_not, r_nil, r_cons, r_tup, r_lst, r_lstN, r_cb, r_is, r_call, r_neg, r_chain, r_ixC, ro_no, ro_some, r_sl, rt_nm, rs_next, rs_ret, rs_seq, rs_if, rs_asg, rs_asgT, rs_par, rt_nil, rt_cons, rt_tp, ri_data, ri_range1, ri_range2, ri_enum, r_comp, startD, look_d, looks_nil, looks_d, datas_nil, datas_d, tru_b, tru_i, List.length_cons, List.length_nil, List.getElem?_cons_zero, List.getElem?_cons_succ, List.set_cons_zero, List.set_cons_succ, Option.map_some, List.map_cons, List.map_nil, Nat.reduceAdd, Nat.reduceSub, Nat.reduceEqDiff, List.reduceReplicate, List.cons_append, List.nil_append, List.append_nil, true_and, and_true, gIx_tuple, at2_0, at2_1]
    refine (somelot_sp (by omega)).mono fun v s2 hv => ?_
    obtain ⟨rfl, rfl⟩ := hv
    try simp only [r1_some, r2_some, r1_none, r_var, r_c, r_op, r_fz, r_bval, r_btru, r_band, r_bor, r_bnot, r_if, r_and, r_or, r_not, r_nil, r_cons, r_tup, r_lst, r_lstN, r_cb, r_is, r_call, r_neg, r_chain, r_ixC, ro_no, ro_some, r_sl, rt_nm, rs_next, rs_ret, rs_seq, rs_if, rs_asg, rs_asgT, rs_par, rt_nil, rt_cons, rt_tp, ri_data, ri_range1, ri_range2, ri_enum, r_comp, startD, look_d, looks_nil, looks_d, datas_nil, datas_d, tru_b, tru_i, List.length_cons, List.length_nil, List.getElem?_cons_zero, List.getElem?_cons_succ, List.set_cons_zero, List.set_cons_succ, Option.map_some, List.map_cons, List.map_nil, Nat.reduceAdd, Nat.reduceSub, Nat.reduceEqDiff, List.reduceReplicate, List.cons_append, List.nil_append, List.append_nil, true_and, and_true, gIx_tuple, at2_0, at2_1]
    rw [tick_eq]
    cases ha : (lotOf isNat a && nonT a) with
    | false => simp
    | true =>
      refine pnum_sp.mono fun v s3 hv => ?_
      obtain ⟨rfl, rfl⟩ := hv
      try simp only [r1_some, r2_some, r1_none, r_var, r_c, r_op, r_fz, r_bval, r_btru, r_band, r_bor, r_bnot, r_if, r_and, r_or, r_not, r_nil, r_cons, r_tup, r_lst, r_lstN, r_cb, r_is, r_call, r_neg, r_chain, r_ixC, ro_no, ro_some, r_sl, rt_nm, rs_next, rs_ret, rs_seq, rs_if, rs_asg, rs_asgT, rs_par, rt_nil, rt_cons, rt_tp, ri_data, ri_range1, ri_range2, ri_enum, r_comp, startD, look_d, looks_nil, looks_d, datas_nil, datas_d, tru_b, tru_i, List.length_cons, List.length_nil, List.getElem?_cons_zero, List.getElem?_cons_succ, List.set_cons_zero, List.set_cons_succ, Option.map_some, List.map_cons, List.map_nil, Nat.reduceAdd, Nat.reduceSub, Nat.reduceEqDiff, List.reduceReplicate, List.cons_append, List.nil_append, List.append_nil, true_and, and_true, gIx_tuple, at2_0, at2_1]
      simp
theorem tick_sp : TellsW (fIsTicket (fIsLot (fIsNatural fIsWhole)) (fIsNatural fIsWhole)) isTick := fun d st hw => by
  have i0 : (0 : Nat) ≤ sizeLine := by decide
  refine rf_of ?_
  unfold gIsTicket gIsTicket_1
  cases ht : isTup d with
  | false =>
    try simp only [r1_some, r2_some, r1_none, r_var, r_c, r_op, r_fz, r_bval, r_btru, r_band, r_bor, r_bnot, r_if, r_and, r_or, r_not, r_nil, r_cons, r_tup, r_lst, r_lstN, r_cb, r_is, r_call, r_neg, r_chain, r_ixC, ro_no, ro_some, r_sl, rt_nm, rs_next, rs_ret, rs_seq, rs_if, rs_asg, rs_asgT, rs_par, rt_nil, rt_cons, rt_tp, ri_data, ri_range1, ri_range2, ri_enum, r_comp, startD, look_d, looks_nil, looks_d, datas_nil, datas_d, tru_b, tru_i, List.length_cons, List.length_nil, List.getElem?_cons_zero, List.getElem?_cons_succ, List.set_cons_zero, List.set_cons_succ, Option.map_some, List.map_cons, List.map_nil, Nat.reduceAdd, Nat.reduceSub, Nat.reduceEqDiff, List.reduceReplicate, List.cons_append, List.nil_append, List.append_nil, true_and, and_true, isK_tup, ht]
    cases d <;> first | (simp [isTick]; done) | cases ht
  | true =>
    cases d with
    | tuple xs =>
      try simp only [r1_some, r2_some, r1_none, r_var, r_c, r_op, r_fz, r_bval, r_btru, r_band, r_bor, r_bnot, r_if, r_and, r_or, r_not, r_nil, r_cons, r_tup, r_lst, r_lstN, r_cb, r_is, r_call, r_neg, r_chain, r_ixC, ro_no, ro_some, r_sl, rt_nm, rs_next, rs_ret, rs_seq, rs_if, rs_asg, rs_asgT, rs_par, rt_nil, rt_cons, rt_tp, ri_data, ri_range1, ri_range2, ri_enum, r_comp, startD, look_d, looks_nil, looks_d, datas_nil, datas_d, tru_b, tru_i, List.length_cons, List.length_nil, List.getElem?_cons_zero, List.getElem?_cons_succ, List.set_cons_zero, List.set_cons_succ, Option.map_some, List.map_cons, List.map_nil, Nat.reduceAdd, Nat.reduceSub, Nat.reduceEqDiff, List.reduceReplicate, List.cons_append, List.nil_append, List.append_nil, true_and, and_true, isK_tup, ht, gLen_tuple, gNe_int, Bool.not_true]
      cases hr : decide ((xs.length : Int) = 2) with
      | false =>
        have h2 := of_decide_eq_false hr
        have : row 2 (.tuple xs) = false := decide_eq_false (by omega)
        simp [(not_pair this).2]
      | true =>
        have h2 := of_decide_eq_true hr
        obtain ⟨a, b, e⟩ := row2 (d := .tuple xs) (decide_eq_true (by omega))
        cases e
        unfold gIsTicket_2
        simp only [PyData.weight, PyData.weightAll] at hw
        try simp only [r1_some, r2_some, r1_none, r_var, r_c, r_op, r_fz, r_bval, r_btru, r_band, r_bor, r_bnot, r_if, r_and, r_or, r_not, r_nil, r_cons, r_tup, r_lst, r_lstN, r_cb, r_is, r_call, r_neg, r_chain, r_ixC, ro_no, ro_some, r_sl, rt_nm, rs_next, rs_ret, rs_seq, rs_if, rs_asg, rs_asgT, rs_par, rt_nil, rt_cons, rt_tp, ri_data, ri_range1, ri_range2, ri_enum, r_comp, startD, look_d, looks_nil, looks_d, datas_nil, datas_d, tru_b, tru_i, List.length_cons, List.length_nil, List.getElem?_cons_zero, List.getElem?_cons_succ, List.set_cons_zero, List.set_cons_succ, Option.map_some, List.map_cons, List.map_nil, Nat.reduceAdd, Nat.reduceSub, Nat.reduceEqDiff, List.reduceReplicate, List.cons_append, List.nil_append, List.append_nil, true_and, and_true, gIx_tuple, at2_0, at2_1, Bool.not_true, isK_tup, ht, gLen_tuple, gNe_int]
        refine (lot_law a st (by omega)).mono fun v s2 hv => ?_
        obtain ⟨rfl, rfl⟩ := hv
        try simp only [r1_some, r2_some, r1_none, r_var, r_c, r_op, r_fz, r_bval, r_btru, r_band, r_bor, r_bnot, r_if, r_and, r_or, r_not, r_nil, r_cons, r_tup, r_lst, r_lstN, r_cb, r_is, r_call, r_neg, r_chain, r_ixC, ro_no, ro_some, r_sl, rt_nm, rs_next, rs_ret, rs_seq, rs_if, rs_asg, rs_asgT, rs_par, rt_nil, rt_cons, rt_tp, ri_data, ri_range1, ri_range2, ri_enum, r_comp, startD, look_d, looks_nil, looks_d, datas_nil, datas_d, tru_b, tru_i, List.length_cons, List.length_nil, List.getElem?_cons_zero, List.getElem?_cons_succ, List.set_cons_zero, List.set_cons_succ, Option.map_some, List.map_cons, List.map_nil, Nat.reduceAdd, Nat.reduceSub, Nat.reduceEqDiff, List.reduceReplicate, List.cons_append, List.nil_append, List.append_nil, true_and, and_true, isK_tup, ht, gLen_tuple, gNe_int, Bool.not_true, gIx_tuple, at2_0, at2_1]
        rw [tick_eq]
        cases ha : lotOf isNat a with
        | false => simp
        | true =>
          obtain ⟨ys, rfl⟩ := lot_tup ha
          try simp only [r1_some, r2_some, r1_none, r_var, r_c, r_op, r_fz, r_bval, r_btru, r_band, r_bor, r_bnot, r_if, r_and, r_or, r_not, r_nil, r_cons, r_tup, r_lst, r_lstN, r_cb, r_is, r_call, r_neg, r_chain, r_ixC, ro_no, ro_some, r_sl, rt_nm, rs_next, rs_ret, rs_seq, rs_if, rs_asg, rs_asgT, rs_par, rt_nil, rt_cons, rt_tp, ri_data, ri_range1, ri_range2, ri_enum, r_comp, startD, look_d, looks_nil, looks_d, datas_nil, datas_d, tru_b, tru_i, List.length_cons, List.length_nil, List.getElem?_cons_zero, List.getElem?_cons_succ, List.set_cons_zero, List.set_cons_succ, Option.map_some, List.map_cons, List.map_nil, Nat.reduceAdd, Nat.reduceSub, Nat.reduceEqDiff, List.reduceReplicate, List.cons_append, List.nil_append, List.append_nil, true_and, and_true, gIx_tuple, at2_0, at2_1, gNe_nilT, i0, isK_tup, ht, gLen_tuple, gNe_int, Bool.not_true]
          cases ys with
          | nil => simp [nonT]
          | cons y ys =>
            simp only [List.isEmpty_cons, Bool.not_false]
            refine (nat_sp b _).mono fun v s3 hv => ?_
            obtain ⟨rfl, rfl⟩ := hv
            try simp only [r1_some, r2_some, r1_none, r_var, r_c, r_op, r_fz, r_bval, r_btru, r_band, r_bor, r_bnot, r_if, r_and, r_or, r_not, r_nil, r_cons, r_tup, r_lst, r_lstN, r_cb, r_is, r_call, r_neg, r_chain, r_ixC, ro_no, ro_some, r_sl, rt_nm, rs_next, rs_ret, rs_seq, rs_if, rs_asg, rs_asgT, rs_par, rt_nil, rt_cons, rt_tp, ri_data, ri_range1, ri_range2, ri_enum, r_comp, startD, look_d, looks_nil, looks_d, datas_nil, datas_d, tru_b, tru_i, List.length_cons, List.length_nil, List.getElem?_cons_zero, List.getElem?_cons_succ, List.set_cons_zero, List.set_cons_succ, Option.map_some, List.map_cons, List.map_nil, Nat.reduceAdd, Nat.reduceSub, Nat.reduceEqDiff, List.reduceReplicate, List.cons_append, List.nil_append, List.append_nil, true_and, and_true, isK_tup, ht, gLen_tuple, gNe_int, Bool.not_true, gIx_tuple, at2_0, at2_1, gNe_nilT, i0]
            simp [nonT]
    | _ => cases ht
end D01

set_option Elab.async false
set_option linter.all false
set_option maxRecDepth 100000
set_option maxHeartbeats 4000000
namespace D01
open PySem PySem.Spec PyProof.Rows L2 Pg Dl
variable {rest st s : Sto}
def isStr : PyData → Bool
  | .str _ => true
  | _ => false
theorem isK_str (d : PyData) : isK .str d = isStr d := by cases d <;> rfl
theorem isK_str' {z : Str} : isK .str (.str z) = true := rfl
/-- what a CELL shows of its parts -/
def celOf (z : Str) (p r : PyData) : Bool := (lotOf isPair p && lotOf isPair r) && (if (z == ("common" : Str)) = true then nonT p && !nonT r else (z == ("own" : Str)) && (nonT p || nonT r))
def isCel : PyData → Bool
  | .tuple [n, .str z, p, r] => isWh n && celOf z p r
  | _ => false
theorem at4a {α : Type} (a b c d : α) : atI [a, b, c, d] 0 = some a := rfl
theorem at4b {α : Type} (a b c d : α) : atI [a, b, c, d] 1 = some b := rfl
theorem at4c {α : Type} (a b c d : α) : atI [a, b, c, d] 2 = some c := rfl
theorem at4d {α : Type} (a b c d : α) : atI [a, b, c, d] 3 = some d := rfl
theorem not_cel {d : PyData} (h : row 4 d = false) : isCel d = false := by
  unfold isCel
  split
  · simp [row] at h
  · rfl
theorem cel_nostr {n y p r : PyData} (h : isStr y = false) : isCel (.tuple [n, y, p, r]) = false := by
  cases y <;> first | rfl | cases h
theorem cel_nowh {n y p r : PyData} (h : isWh n = false) : isCel (.tuple [n, y, p, r]) = false := by
  cases y <;> first | rfl | simp [isCel, h]
theorem gEq_str {z y : Str} (hz : PyData.strOk z = true) (hy : PyData.strOk y = true) : gEq (.str z) (.str y) = some (.bool (z == y)) := by
  unfold gEq
  rw [if_pos ⟨shaped_str hz, shaped_str hy⟩]
  simp only [PyData.eqv]
theorem own_ok : PyData.strOk ("own" : Str) = true := by decide +kernel
theorem common_ok : PyData.strOk ("common" : Str) = true := by decide +kernel
theorem own_common {z : Str} (h : (z == ("own" : Str)) = true) : (z == ("common" : Str)) = false := by
  have := eq_of_beq h
  subst this
  decide +kernel
theorem nonT_tup {xs : List PyData} : nonT (.tuple xs) = !xs.isEmpty := by cases xs <;> rfl
theorem gSl_1 {xs : List PyData} : gSl (some 1) none (.tuple xs) = some (.tuple (xs.drop 1)) := gSl_fromT (z := 1)
theorem pcell_sp {k : Nat} {d : PyData} (hw : d.weight ≤ 1000000) (hg : gd k d = true) : R2 (fPIsCell fPIsRow fPIsInteger (fPIsLotOfPairs (fPIsNumberPair fPIsRow (fPIsNumber fPIsInteger)) fPAscends) [.d d] st) fun v s => v = .d (.bool (isCel d)) ∧ s = st := by
  have i0 : (0 : Nat) ≤ sizeLine := by decide
  refine rf_of ?_
  unfold gPIsCell gPIsCell_1
  try simp only [r1_some, r2_some, r1_none, r_var, r_c, r_op, r_fz, r_bval, r_btru, r_band, r_bor, r_bnot, r_if, r_and, r_or, r_not, r_nil, r_cons, r_tup, r_lst, r_lstN, r_cb, r_is, r_call, r_neg, r_chain, r_ixC, ro_no, ro_some, r_sl, rt_nm, rs_next, rs_ret, rs_seq, rs_if, rs_asg, rs_asgT, rs_par, rt_nil, rt_cons, rt_tp, ri_data, ri_range1, ri_range2, ri_enum, r_comp, startD, look_d, looks_nil, looks_d, datas_nil, datas_d, tru_b, tru_i, List.length_cons, List.length_nil, List.getElem?_cons_zero, List.getElem?_cons_succ, List.set_cons_zero, List.set_cons_succ, Option.map_some, List.map_cons, List.map_nil, Nat.reduceAdd, Nat.reduceSub, Nat.reduceEqDiff, List.reduceReplicate, List.cons_append, List.nil_append, List.append_nil, true_and, and_true]
  refine (row_sp (n := 4)).mono fun v s1 hv => ?_
  obtain ⟨rfl, rfl⟩ := hv
  try simp only [r1_some, r2_some, r1_none, r_var, r_c, r_op, r_fz, r_bval, r_btru, r_band, r_bor, r_bnot, r_if, r_and, r_or, r_not, r_nil, r_cons, r_tup, r_lst, r_lstN, r_cb, r_is, r_call, r_neg, r_chain, r_ixC, ro_no, ro_some, r_sl, rt_nm, rs_next, rs_ret, rs_seq, rs_if, rs_asg, rs_asgT, rs_par, rt_nil, rt_cons, rt_tp, ri_data, ri_range1, ri_range2, ri_enum, r_comp, startD, look_d, looks_nil, looks_d, datas_nil, datas_d, tru_b, tru_i, List.length_cons, List.length_nil, List.getElem?_cons_zero, List.getElem?_cons_succ, List.set_cons_zero, List.set_cons_succ, Option.map_some, List.map_cons, List.map_nil, Nat.reduceAdd, Nat.reduceSub, Nat.reduceEqDiff, List.reduceReplicate, List.cons_append, List.nil_append, List.append_nil, true_and, and_true]
  cases hr : row 4 d with
  | false => simp [not_cel hr]
  | true =>
    obtain ⟨n, y, p, r, rfl⟩ := row4 hr
    simp only [PyData.weight, PyData.weightAll] at hw
    simp only [gd, gdA, Bool.and_true, Bool.and_eq_true] at hg
    try simp only [r1_some, r2_some, r1_none, r_var, r_c, r_op, r_fz, r_bval, r_btru, r_band, r_bor, r_bnot, r_if, r_and, r_or, r_not, r_nil, r_cons, r_tup, r_lst, r_lstN, r_cb, r_is, r_call, r_neg, r_chain, r_ixC, ro_no, ro_some, r_sl, rt_nm, rs_next, rs_ret, rs_seq, rs_if, rs_asg, rs_asgT, rs_par, rt_nil, rt_cons, rt_tp, ri_data, ri_range1, ri_range2, ri_enum, r_comp, startD, look_d, looks_nil, looks_d, datas_nil, datas_d, tru_b, tru_i, List.length_cons, List.length_nil, List.getElem?_cons_zero, List.getElem?_cons_succ, List.set_cons_zero, List.set_cons_succ, Option.map_some, List.map_cons, List.map_nil, Nat.reduceAdd, Nat.reduceSub, Nat.reduceEqDiff, List.reduceReplicate, List.cons_append, List.nil_append, List.append_nil, true_and, and_true, gIx_tuple, at4a, at4b, at4c, at4d, Bool.not_true]
    refine pint_sp.mono fun v s2 hv => ?_
    obtain ⟨rfl, rfl⟩ := hv
    try simp only [r1_some, r2_some, r1_none, r_var, r_c, r_op, r_fz, r_bval, r_btru, r_band, r_bor, r_bnot, r_if, r_and, r_or, r_not, r_nil, r_cons, r_tup, r_lst, r_lstN, r_cb, r_is, r_call, r_neg, r_chain, r_ixC, ro_no, ro_some, r_sl, rt_nm, rs_next, rs_ret, rs_seq, rs_if, rs_asg, rs_asgT, rs_par, rt_nil, rt_cons, rt_tp, ri_data, ri_range1, ri_range2, ri_enum, r_comp, startD, look_d, looks_nil, looks_d, datas_nil, datas_d, tru_b, tru_i, List.length_cons, List.length_nil, List.getElem?_cons_zero, List.getElem?_cons_succ, List.set_cons_zero, List.set_cons_succ, Option.map_some, List.map_cons, List.map_nil, Nat.reduceAdd, Nat.reduceSub, Nat.reduceEqDiff, List.reduceReplicate, List.cons_append, List.nil_append, List.append_nil, true_and, and_true, gIx_tuple, at4a, at4b, at4c, at4d, Bool.not_true]
    cases hn : isWh n with
    | false => simp [cel_nowh hn]
    | true =>
      try simp only [r1_some, r2_some, r1_none, r_var, r_c, r_op, r_fz, r_bval, r_btru, r_band, r_bor, r_bnot, r_if, r_and, r_or, r_not, r_nil, r_cons, r_tup, r_lst, r_lstN, r_cb, r_is, r_call, r_neg, r_chain, r_ixC, ro_no, ro_some, r_sl, rt_nm, rs_next, rs_ret, rs_seq, rs_if, rs_asg, rs_asgT, rs_par, rt_nil, rt_cons, rt_tp, ri_data, ri_range1, ri_range2, ri_enum, r_comp, startD, look_d, looks_nil, looks_d, datas_nil, datas_d, tru_b, tru_i, List.length_cons, List.length_nil, List.getElem?_cons_zero, List.getElem?_cons_succ, List.set_cons_zero, List.set_cons_succ, Option.map_some, List.map_cons, List.map_nil, Nat.reduceAdd, Nat.reduceSub, Nat.reduceEqDiff, List.reduceReplicate, List.cons_append, List.nil_append, List.append_nil, true_and, and_true, gIx_tuple, at4a, at4b, at4c, at4d, Bool.not_true, isK_str]
      cases hy : isStr y with
      | false => simp [cel_nostr hy]
      | true =>
        cases y with
        | str z =>
          have hz : PyData.strOk z = true := by simpa only [gd] using hg.2.1
          unfold gPIsCell_2 gPIsCell_3
          try simp only [r1_some, r2_some, r1_none, r_var, r_c, r_op, r_fz, r_bval, r_btru, r_band, r_bor, r_bnot, r_if, r_and, r_or, r_not, r_nil, r_cons, r_tup, r_lst, r_lstN, r_cb, r_is, r_call, r_neg, r_chain, r_ixC, ro_no, ro_some, r_sl, rt_nm, rs_next, rs_ret, rs_seq, rs_if, rs_asg, rs_asgT, rs_par, rt_nil, rt_cons, rt_tp, ri_data, ri_range1, ri_range2, ri_enum, r_comp, startD, look_d, looks_nil, looks_d, datas_nil, datas_d, tru_b, tru_i, List.length_cons, List.length_nil, List.getElem?_cons_zero, List.getElem?_cons_succ, List.set_cons_zero, List.set_cons_succ, Option.map_some, List.map_cons, List.map_nil, Nat.reduceAdd, Nat.reduceSub, Nat.reduceEqDiff, List.reduceReplicate, List.cons_append, List.nil_append, List.append_nil, true_and, and_true, gSl_1, List.drop_succ_cons, List.drop_zero, Bool.not_true, gIx_tuple, at4a, at4b, at4c, at4d, isK_str]
          have ic : isCel (.tuple [n, .str z, p, r]) = celOf z p r := by simp only [isCel, hn, Bool.true_and]
          rw [ic]
          refine (ppls_sp p s2 (by omega)).mono fun v s3 hv => ?_
          obtain ⟨rfl, rfl⟩ := hv
          try simp only [r1_some, r2_some, r1_none, r_var, r_c, r_op, r_fz, r_bval, r_btru, r_band, r_bor, r_bnot, r_if, r_and, r_or, r_not, r_nil, r_cons, r_tup, r_lst, r_lstN, r_cb, r_is, r_call, r_neg, r_chain, r_ixC, ro_no, ro_some, r_sl, rt_nm, rs_next, rs_ret, rs_seq, rs_if, rs_asg, rs_asgT, rs_par, rt_nil, rt_cons, rt_tp, ri_data, ri_range1, ri_range2, ri_enum, r_comp, startD, look_d, looks_nil, looks_d, datas_nil, datas_d, tru_b, tru_i, List.length_cons, List.length_nil, List.getElem?_cons_zero, List.getElem?_cons_succ, List.set_cons_zero, List.set_cons_succ, Option.map_some, List.map_cons, List.map_nil, Nat.reduceAdd, Nat.reduceSub, Nat.reduceEqDiff, List.reduceReplicate, List.cons_append, List.nil_append, List.append_nil, true_and, and_true, gIx_tuple, at4a, at4b, at4c, at4d, Bool.not_true, isK_str, gSl_1, List.drop_succ_cons, List.drop_zero]
          cases hp : lotOf isPair p with
          | false => simp [celOf, hp]
          | true =>
            simp only [Bool.not_true, r1_some, r2_some, r1_none, r_var, r_c, r_op, r_fz, r_bval, r_btru, r_band, r_bor, r_bnot, r_if, r_and, r_or, r_not, r_nil, r_cons, r_tup, r_lst, r_lstN, r_cb, r_is, r_call, r_neg, r_chain, r_ixC, ro_no, ro_some, r_sl, rt_nm, rs_next, rs_ret, rs_seq, rs_if, rs_asg, rs_asgT, rs_par, rt_nil, rt_cons, rt_tp, ri_data, ri_range1, ri_range2, ri_enum, r_comp, startD, look_d, looks_nil, looks_d, datas_nil, datas_d, tru_b, tru_i, List.length_cons, List.length_nil, List.getElem?_cons_zero, List.getElem?_cons_succ, List.set_cons_zero, List.set_cons_succ, Option.map_some, List.map_cons, List.map_nil, Nat.reduceAdd, Nat.reduceSub, Nat.reduceEqDiff, List.reduceReplicate, List.cons_append, List.nil_append, List.append_nil, true_and, and_true, gIx_tuple, at4a, at4b, at4c, at4d, isK_str, gSl_1, List.drop_succ_cons, List.drop_zero]
            refine (ppls_sp r _ (by omega)).mono fun v s4 hv => ?_
            obtain ⟨rfl, rfl⟩ := hv
            try simp only [r1_some, r2_some, r1_none, r_var, r_c, r_op, r_fz, r_bval, r_btru, r_band, r_bor, r_bnot, r_if, r_and, r_or, r_not, r_nil, r_cons, r_tup, r_lst, r_lstN, r_cb, r_is, r_call, r_neg, r_chain, r_ixC, ro_no, ro_some, r_sl, rt_nm, rs_next, rs_ret, rs_seq, rs_if, rs_asg, rs_asgT, rs_par, rt_nil, rt_cons, rt_tp, ri_data, ri_range1, ri_range2, ri_enum, r_comp, startD, look_d, looks_nil, looks_d, datas_nil, datas_d, tru_b, tru_i, List.length_cons, List.length_nil, List.getElem?_cons_zero, List.getElem?_cons_succ, List.set_cons_zero, List.set_cons_succ, Option.map_some, List.map_cons, List.map_nil, Nat.reduceAdd, Nat.reduceSub, Nat.reduceEqDiff, List.reduceReplicate, List.cons_append, List.nil_append, List.append_nil, true_and, and_true, gIx_tuple, at4a, at4b, at4c, at4d, Bool.not_true, isK_str, gSl_1, List.drop_succ_cons, List.drop_zero]
            cases hrr : lotOf isPair r with
            | false => simp [celOf, hp, hrr]
            | true =>
              obtain ⟨ps, rfl⟩ := lot_tup hp
              obtain ⟨rs, rfl⟩ := lot_tup hrr
              simp only [Bool.not_true, r1_some, r2_some, r1_none, r_var, r_c, r_op, r_fz, r_bval, r_btru, r_band, r_bor, r_bnot, r_if, r_and, r_or, r_not, r_nil, r_cons, r_tup, r_lst, r_lstN, r_cb, r_is, r_call, r_neg, r_chain, r_ixC, ro_no, ro_some, r_sl, rt_nm, rs_next, rs_ret, rs_seq, rs_if, rs_asg, rs_asgT, rs_par, rt_nil, rt_cons, rt_tp, ri_data, ri_range1, ri_range2, ri_enum, r_comp, startD, look_d, looks_nil, looks_d, datas_nil, datas_d, tru_b, tru_i, List.length_cons, List.length_nil, List.getElem?_cons_zero, List.getElem?_cons_succ, List.set_cons_zero, List.set_cons_succ, Option.map_some, List.map_cons, List.map_nil, Nat.reduceAdd, Nat.reduceSub, Nat.reduceEqDiff, List.reduceReplicate, List.cons_append, List.nil_append, List.append_nil, true_and, and_true, gIx_tuple, at4a, at4b, at4c, at4d, isK_str, gSl_1, List.drop_succ_cons, List.drop_zero]
              unfold gPIsCell_4 gPIsCell_5
              try simp only [r1_some, r2_some, r1_none, r_var, r_c, r_op, r_fz, r_bval, r_btru, r_band, r_bor, r_bnot, r_if, r_and, r_or, r_not, r_nil, r_cons, r_tup, r_lst, r_lstN, r_cb, r_is, r_call, r_neg, r_chain, r_ixC, ro_no, ro_some, r_sl, rt_nm, rs_next, rs_ret, rs_seq, rs_if, rs_asg, rs_asgT, rs_par, rt_nil, rt_cons, rt_tp, ri_data, ri_range1, ri_range2, ri_enum, r_comp, startD, look_d, looks_nil, looks_d, datas_nil, datas_d, tru_b, tru_i, List.length_cons, List.length_nil, List.getElem?_cons_zero, List.getElem?_cons_succ, List.set_cons_zero, List.set_cons_succ, Option.map_some, List.map_cons, List.map_nil, Nat.reduceAdd, Nat.reduceSub, Nat.reduceEqDiff, List.reduceReplicate, List.cons_append, List.nil_append, List.append_nil, true_and, and_true, gEq_str hz common_ok, gEq_str hz own_ok, gNe_nilT, gEq_nilT, i0, gIx_tuple, at4a, at4b, at4c, at4d, Bool.not_true, isK_str, gSl_1, List.drop_succ_cons, List.drop_zero]
              cases hc : (z == ("common" : Str)) with
              | true =>
                cases ps <;> cases rs <;> simp [celOf, hp, hrr, hc, nonT]
              | false =>
                cases ho : (z == ("own" : Str)) <;> cases ps <;> cases rs <;> simp [celOf, hp, hrr, hc, ho, nonT]
        | _ => cases hy
theorem own_in {z : Str} (hz : PyData.strOk z = true) : gIn true (.str z) (.tuple [.str "own", .str "common"]) = some (.bool (!((z == ("own" : Str)) || (z == ("common" : Str))))) := by
  unfold gIn
  dsimp only
  rw [if_pos ⟨shaped_str hz, by decide +kernel⟩]
  simp only [List.any_cons, List.any_nil, PyData.eqv, Bool.or_false]
  have c1 : (("own" : Str) == z) = (z == ("own" : Str)) := BEq.comm
  have c2 : (("common" : Str) == z) = (z == ("common" : Str)) := BEq.comm
  rw [c1, c2]
  cases (z == ("own" : Str)) <;> cases (z == ("common" : Str)) <;> rfl
theorem cell_sp {k : Nat} {d : PyData} (hw : d.weight ≤ 1000000) (hg : gd k d = true) : R2 (fIsCell fIsWhole (fArePlaces (fIsPlace (fIsNatural fIsWhole))) [.d d] st) fun v s => v = .d (.bool (isCel d)) ∧ s = st := by
  have i0 : (0 : Nat) ≤ sizeLine := by decide
  have i2 : (2 : Nat) ≤ sizeLine := by decide
  refine rf_of ?_
  unfold gIsCell gIsCell_1
  cases ht : isTup d with
  | false =>
    try simp only [r1_some, r2_some, r1_none, r_var, r_c, r_op, r_fz, r_bval, r_btru, r_band, r_bor, r_bnot, r_if, r_and, r_or, r_not, r_nil, r_cons, r_tup, r_lst, r_lstN, r_cb, r_is, r_call, r_neg, r_chain, r_ixC, ro_no, ro_some, r_sl, rt_nm, rs_next, rs_ret, rs_seq, rs_if, rs_asg, rs_asgT, rs_par, rt_nil, rt_cons, rt_tp, ri_data, ri_range1, ri_range2, ri_enum, r_comp, startD, look_d, looks_nil, looks_d, datas_nil, datas_d, tru_b, tru_i, List.length_cons, List.length_nil, List.getElem?_cons_zero, List.getElem?_cons_succ, List.set_cons_zero, List.set_cons_succ, Option.map_some, List.map_cons, List.map_nil, Nat.reduceAdd, Nat.reduceSub, Nat.reduceEqDiff, List.reduceReplicate, List.cons_append, List.nil_append, List.append_nil, true_and, and_true, isK_tup, ht]
    have : row 4 d = false := by cases d <;> first | rfl | cases ht
    simp [not_cel this]
  | true =>
    cases d with
    | tuple xs =>
      try simp only [r1_some, r2_some, r1_none, r_var, r_c, r_op, r_fz, r_bval, r_btru, r_band, r_bor, r_bnot, r_if, r_and, r_or, r_not, r_nil, r_cons, r_tup, r_lst, r_lstN, r_cb, r_is, r_call, r_neg, r_chain, r_ixC, ro_no, ro_some, r_sl, rt_nm, rs_next, rs_ret, rs_seq, rs_if, rs_asg, rs_asgT, rs_par, rt_nil, rt_cons, rt_tp, ri_data, ri_range1, ri_range2, ri_enum, r_comp, startD, look_d, looks_nil, looks_d, datas_nil, datas_d, tru_b, tru_i, List.length_cons, List.length_nil, List.getElem?_cons_zero, List.getElem?_cons_succ, List.set_cons_zero, List.set_cons_succ, Option.map_some, List.map_cons, List.map_nil, Nat.reduceAdd, Nat.reduceSub, Nat.reduceEqDiff, List.reduceReplicate, List.cons_append, List.nil_append, List.append_nil, true_and, and_true, isK_tup, ht, gLen_tuple, gNe_int, Bool.not_true]
      cases hr : decide ((xs.length : Int) = 4) with
      | false =>
        have h2 := of_decide_eq_false hr
        have : row 4 (.tuple xs) = false := decide_eq_false (by omega)
        simp [not_cel this]
      | true =>
        have h2 := of_decide_eq_true hr
        obtain ⟨n, y, p, r, e⟩ := row4 (d := .tuple xs) (decide_eq_true (by omega))
        cases e
        simp only [PyData.weight, PyData.weightAll] at hw
        simp only [gd, gdA, Bool.and_true, Bool.and_eq_true] at hg
        try simp only [r1_some, r2_some, r1_none, r_var, r_c, r_op, r_fz, r_bval, r_btru, r_band, r_bor, r_bnot, r_if, r_and, r_or, r_not, r_nil, r_cons, r_tup, r_lst, r_lstN, r_cb, r_is, r_call, r_neg, r_chain, r_ixC, ro_no, ro_some, r_sl, rt_nm, rs_next, rs_ret, rs_seq, rs_if, rs_asg, rs_asgT, rs_par, rt_nil, rt_cons, rt_tp, ri_data, ri_range1, ri_range2, ri_enum, r_comp, startD, look_d, looks_nil, looks_d, datas_nil, datas_d, tru_b, tru_i, List.length_cons, List.length_nil, List.getElem?_cons_zero, List.getElem?_cons_succ, List.set_cons_zero, List.set_cons_succ, Option.map_some, List.map_cons, List.map_nil, Nat.reduceAdd, Nat.reduceSub, Nat.reduceEqDiff, List.reduceReplicate, List.cons_append, List.nil_append, List.append_nil, true_and, and_true, gIx_tuple, at4a, at4b, at4c, at4d, Bool.not_true, isK_tup, ht, gLen_tuple, gNe_int]
        refine whole_sp.mono fun v s2 hv => ?_
        obtain ⟨rfl, rfl⟩ := hv
        try simp only [r1_some, r2_some, r1_none, r_var, r_c, r_op, r_fz, r_bval, r_btru, r_band, r_bor, r_bnot, r_if, r_and, r_or, r_not, r_nil, r_cons, r_tup, r_lst, r_lstN, r_cb, r_is, r_call, r_neg, r_chain, r_ixC, ro_no, ro_some, r_sl, rt_nm, rs_next, rs_ret, rs_seq, rs_if, rs_asg, rs_asgT, rs_par, rt_nil, rt_cons, rt_tp, ri_data, ri_range1, ri_range2, ri_enum, r_comp, startD, look_d, looks_nil, looks_d, datas_nil, datas_d, tru_b, tru_i, List.length_cons, List.length_nil, List.getElem?_cons_zero, List.getElem?_cons_succ, List.set_cons_zero, List.set_cons_succ, Option.map_some, List.map_cons, List.map_nil, Nat.reduceAdd, Nat.reduceSub, Nat.reduceEqDiff, List.reduceReplicate, List.cons_append, List.nil_append, List.append_nil, true_and, and_true, isK_tup, ht, gLen_tuple, gNe_int, Bool.not_true, gIx_tuple, at4a, at4b, at4c, at4d]
        cases hn : isWh n with
        | false => simp [cel_nowh hn]
        | true =>
          try simp only [r1_some, r2_some, r1_none, r_var, r_c, r_op, r_fz, r_bval, r_btru, r_band, r_bor, r_bnot, r_if, r_and, r_or, r_not, r_nil, r_cons, r_tup, r_lst, r_lstN, r_cb, r_is, r_call, r_neg, r_chain, r_ixC, ro_no, ro_some, r_sl, rt_nm, rs_next, rs_ret, rs_seq, rs_if, rs_asg, rs_asgT, rs_par, rt_nil, rt_cons, rt_tp, ri_data, ri_range1, ri_range2, ri_enum, r_comp, startD, look_d, looks_nil, looks_d, datas_nil, datas_d, tru_b, tru_i, List.length_cons, List.length_nil, List.getElem?_cons_zero, List.getElem?_cons_succ, List.set_cons_zero, List.set_cons_succ, Option.map_some, List.map_cons, List.map_nil, Nat.reduceAdd, Nat.reduceSub, Nat.reduceEqDiff, List.reduceReplicate, List.cons_append, List.nil_append, List.append_nil, true_and, and_true, gIx_tuple, at4a, at4b, at4c, at4d, Bool.not_true, isK_str, isK_tup, ht, gLen_tuple, gNe_int]
          cases hy : isStr y with
          | false => simp [cel_nostr hy]
          | true =>
            cases y with
            | str z =>
              have hz : PyData.strOk z = true := by simpa only [gd] using hg.2.1
              have ic : isCel (.tuple [n, .str z, p, r]) = celOf z p r := by simp only [isCel, hn, Bool.true_and]
              rw [ic]
              unfold gIsCell_2
              try simp only [r1_some, r2_some, r1_none, r_var, r_c, r_op, r_fz, r_bval, r_btru, r_band, r_bor, r_bnot, r_if, r_and, r_or, r_not, r_nil, r_cons, r_tup, r_lst, r_lstN, r_cb, r_is, r_call, r_neg, r_chain, r_ixC, ro_no, ro_some, r_sl, rt_nm, rs_next, rs_ret, rs_seq, rs_if, rs_asg, rs_asgT, rs_par, rt_nil, rt_cons, rt_tp, ri_data, ri_range1, ri_range2, ri_enum, r_comp, startD, look_d, looks_nil, looks_d, datas_nil, datas_d, tru_b, tru_i, List.length_cons, List.length_nil, List.getElem?_cons_zero, List.getElem?_cons_succ, List.set_cons_zero, List.set_cons_succ, Option.map_some, List.map_cons, List.map_nil, Nat.reduceAdd, Nat.reduceSub, Nat.reduceEqDiff, List.reduceReplicate, List.cons_append, List.nil_append, List.append_nil, true_and, and_true, gIx_tuple, at4a, at4b, at4c, at4d, Bool.not_true, i2, own_in hz, isK_tup, ht, gLen_tuple, gNe_int, isK_str]
              have key : ((z == ("own" : Str)) || (z == ("common" : Str))) = false → celOf z p r = false := fun h => by
                rw [Bool.or_eq_false_iff] at h
                simp [celOf, h.1, h.2]
              cases hin : ((z == ("own" : Str)) || (z == ("common" : Str))) with
              | false => simp [key hin]
              | true =>
                simp only [Bool.not_true]
                refine (pls_sp p s2 (by omega)).mono fun v s3 hv => ?_
                obtain ⟨rfl, rfl⟩ := hv
                try simp only [r1_some, r2_some, r1_none, r_var, r_c, r_op, r_fz, r_bval, r_btru, r_band, r_bor, r_bnot, r_if, r_and, r_or, r_not, r_nil, r_cons, r_tup, r_lst, r_lstN, r_cb, r_is, r_call, r_neg, r_chain, r_ixC, ro_no, ro_some, r_sl, rt_nm, rs_next, rs_ret, rs_seq, rs_if, rs_asg, rs_asgT, rs_par, rt_nil, rt_cons, rt_tp, ri_data, ri_range1, ri_range2, ri_enum, r_comp, startD, look_d, looks_nil, looks_d, datas_nil, datas_d, tru_b, tru_i, List.length_cons, List.length_nil, List.getElem?_cons_zero, List.getElem?_cons_succ, List.set_cons_zero, List.set_cons_succ, Option.map_some, List.map_cons, List.map_nil, Nat.reduceAdd, Nat.reduceSub, Nat.reduceEqDiff, List.reduceReplicate, List.cons_append, List.nil_append, List.append_nil, true_and, and_true, isK_tup, ht, gLen_tuple, gNe_int, Bool.not_true, gIx_tuple, at4a, at4b, at4c, at4d, isK_str, i2, own_in hz]
                cases hp : lotOf isPair p with
                | false => simp [celOf, hp]
                | true =>
                  simp only [Bool.not_true, r1_some, r2_some, r1_none, r_var, r_c, r_op, r_fz, r_bval, r_btru, r_band, r_bor, r_bnot, r_if, r_and, r_or, r_not, r_nil, r_cons, r_tup, r_lst, r_lstN, r_cb, r_is, r_call, r_neg, r_chain, r_ixC, ro_no, ro_some, r_sl, rt_nm, rs_next, rs_ret, rs_seq, rs_if, rs_asg, rs_asgT, rs_par, rt_nil, rt_cons, rt_tp, ri_data, ri_range1, ri_range2, ri_enum, r_comp, startD, look_d, looks_nil, looks_d, datas_nil, datas_d, tru_b, tru_i, List.length_cons, List.length_nil, List.getElem?_cons_zero, List.getElem?_cons_succ, List.set_cons_zero, List.set_cons_succ, Option.map_some, List.map_cons, List.map_nil, Nat.reduceAdd, Nat.reduceSub, Nat.reduceEqDiff, List.reduceReplicate, List.cons_append, List.nil_append, List.append_nil, true_and, and_true, gIx_tuple, at4a, at4b, at4c, at4d, isK_tup, ht, gLen_tuple, gNe_int, isK_str, i2, own_in hz]
                  refine (pls_sp r _ (by omega)).mono fun v s4 hv => ?_
                  obtain ⟨rfl, rfl⟩ := hv
                  try simp only [r1_some, r2_some, r1_none, r_var, r_c, r_op, r_fz, r_bval, r_btru, r_band, r_bor, r_bnot, r_if, r_and, r_or, r_not, r_nil, r_cons, r_tup, r_lst, r_lstN, r_cb, r_is, r_call, r_neg, r_chain, r_ixC, ro_no, ro_some, r_sl, rt_nm, rs_next, rs_ret, rs_seq, rs_if, rs_asg, rs_asgT, rs_par, rt_nil, rt_cons, rt_tp, ri_data, ri_range1, ri_range2, ri_enum, r_comp, startD, look_d, looks_nil, looks_d, datas_nil, datas_d, tru_b, tru_i, List.length_cons, List.length_nil, List.getElem?_cons_zero, List.getElem?_cons_succ, List.set_cons_zero, List.set_cons_succ, Option.map_some, List.map_cons, List.map_nil, Nat.reduceAdd, Nat.reduceSub, Nat.reduceEqDiff, List.reduceReplicate, List.cons_append, List.nil_append, List.append_nil, true_and, and_true, isK_tup, ht, gLen_tuple, gNe_int, Bool.not_true, gIx_tuple, at4a, at4b, at4c, at4d, isK_str, i2, own_in hz]
                  cases hrr : lotOf isPair r with
                  | false => simp [celOf, hp, hrr]
                  | true =>
                    obtain ⟨ps, rfl⟩ := lot_tup hp
                    obtain ⟨rs, rfl⟩ := lot_tup hrr
                    simp only [Bool.not_true, r1_some, r2_some, r1_none, r_var, r_c, r_op, r_fz, r_bval, r_btru, r_band, r_bor, r_bnot, r_if, r_and, r_or, r_not, r_nil, r_cons, r_tup, r_lst, r_lstN, r_cb, r_is, r_call, r_neg, r_chain, r_ixC, ro_no, ro_some, r_sl, rt_nm, rs_next, rs_ret, rs_seq, rs_if, rs_asg, rs_asgT, rs_par, rt_nil, rt_cons, rt_tp, ri_data, ri_range1, ri_range2, ri_enum, r_comp, startD, look_d, looks_nil, looks_d, datas_nil, datas_d, tru_b, tru_i, List.length_cons, List.length_nil, List.getElem?_cons_zero, List.getElem?_cons_succ, List.set_cons_zero, List.set_cons_succ, Option.map_some, List.map_cons, List.map_nil, Nat.reduceAdd, Nat.reduceSub, Nat.reduceEqDiff, List.reduceReplicate, List.cons_append, List.nil_append, List.append_nil, true_and, and_true, isK_tup, ht, gLen_tuple, gNe_int, gIx_tuple, at4a, at4b, at4c, at4d, isK_str, i2, own_in hz]
                    unfold gIsCell_3
                    try simp only [r1_some, r2_some, r1_none, r_var, r_c, r_op, r_fz, r_bval, r_btru, r_band, r_bor, r_bnot, r_if, r_and, r_or, r_not, r_nil, r_cons, r_tup, r_lst, r_lstN, r_cb, r_is, r_call, r_neg, r_chain, r_ixC, ro_no, ro_some, r_sl, rt_nm, rs_next, rs_ret, rs_seq, rs_if, rs_asg, rs_asgT, rs_par, rt_nil, rt_cons, rt_tp, ri_data, ri_range1, ri_range2, ri_enum, r_comp, startD, look_d, looks_nil, looks_d, datas_nil, datas_d, tru_b, tru_i, List.length_cons, List.length_nil, List.getElem?_cons_zero, List.getElem?_cons_succ, List.set_cons_zero, List.set_cons_succ, Option.map_some, List.map_cons, List.map_nil, Nat.reduceAdd, Nat.reduceSub, Nat.reduceEqDiff, List.reduceReplicate, List.cons_append, List.nil_append, List.append_nil, true_and, and_true, gIx_tuple, at4a, at4b, at4c, at4d, gEq_str hz own_ok, gNe_nilT, gEq_nilT, i0, isK_tup, ht, gLen_tuple, gNe_int, Bool.not_true, isK_str, i2, own_in hz]
                    cases ho : (z == ("own" : Str)) with
                    | true =>
                      have hc := own_common ho
                      cases ps <;> cases rs <;> simp [celOf, hp, hrr, hc, ho, nonT]
                    | false =>
                      have hc : (z == ("common" : Str)) = true := by simpa [ho] using hin
                      cases ps <;> cases rs <;> simp [celOf, hp, hrr, hc, ho, nonT]
            | _ => cases hy
    | _ => cases ht
end D01

set_option Elab.async false
set_option linter.all false
set_option maxRecDepth 100000
set_option maxHeartbeats 4000000
namespace Dl
open PySem PySem.Spec PyProof.Rows L2 Pg
theorem rs_for {src : IF} {t : TF} {body : SF} {ρ : Env} {st : Sto} {Qs : Out → Prop} : R1 (sFor src t body ρ st) Qs ↔ R2 (src ρ st) fun items s1 => R1 (forD t body items ρ s1) Qs := by
  unfold sFor
  constructor
  · rintro ⟨o, e, q⟩
    revert e
    split
    · rename_i items s1 e1
      exact fun e => ⟨_, _, e1, o, e, q⟩
    · intro e; cases e
  · rintro ⟨items, s1, e1, o, e2, q⟩
    exact ⟨o, by simp only [e1, e2], q⟩
/-- a loop that runs to its end, with what holds behind each turn -/
theorem for_cnt {t : TF} {body : SF} {n : Nat} {I : Nat → Env → Sto → Prop} (f : ∀ i v ρ st, i < n → I i ρ st → R2 (t v ρ st) fun ρ1 s1 => R1 (body ρ1 s1) fun o => match o with
    | .nx ρ2 s2 => I (i + 1) ρ2 s2
    | .ct ρ2 s2 => I (i + 1) ρ2 s2
    | _ => False) : ∀ {items : List Vd} {i : Nat} {ρ : Env} {st : Sto}, i + items.length = n → I i ρ st → R1 (forD t body items ρ st) fun o => match o with
    | .nx ρ2 s2 => I n ρ2 s2
    | _ => False
  | [], i, ρ, st, hn, h => r1_some.mpr (by
      have : i = n := by simpa using hn
      exact this ▸ h)
  | v :: vs, i, ρ, st, hn, h => by
    rw [List.length_cons] at hn
    obtain ⟨ρ1, s1, e1, o, e2, q⟩ := f i v ρ st (by omega) h
    have go : ∀ ρ2 s2, I (i + 1) ρ2 s2 → (forD t body (v :: vs) ρ st = forD t body vs ρ2 s2) → R1 (forD t body (v :: vs) ρ st) fun o => match o with
        | .nx ρ2 s2 => I n ρ2 s2
        | _ => False := fun ρ2 s2 h2 e => by
      have ih := for_cnt f (items := vs) (by omega) h2
      rw [← e] at ih
      exact ih
    cases o with
    | nx ρ2 s2 => exact go ρ2 s2 q (by simp only [forD, e1, e2])
    | ct ρ2 s2 => exact go ρ2 s2 q (by simp only [forD, e1, e2])
    | _ => exact q.elim
end Dl
namespace D01
open PySem PySem.Spec PyProof.Rows L2 Pg Dl
variable {rest st s : Sto}
theorem bag_sp (ns : List Int) : R2 (fBag [.d (.list (ns.map .int))] []) fun v s => v = .r 0 ∧ BagS [] s := by
  refine rf_of ?_
  unfold gBag
  have sl : gSl none (some 63) (.list (ns.map .int)) = some (.list ((ns.map PyData.int).take 63)) := gSl_toL (z := 63)
  try simp only [r1_some, r2_some, r1_none, r_var, r_c, r_op, r_fz, r_bval, r_btru, r_band, r_bor, r_bnot, r_if, r_and, r_or, r_not, r_nil, r_cons, r_tup, r_lst, r_lstN, r_cb, r_is, r_call, r_neg, r_chain, r_ixC, ro_no, ro_some, r_sl, rt_nm, rs_next, rs_ret, rs_seq, rs_if, rs_asg, rs_asgT, rs_par, rt_nil, rt_cons, rt_tp, ri_data, ri_range1, ri_range2, ri_enum, r_comp, startD, look_d, looks_nil, looks_d, datas_nil, datas_d, tru_b, tru_i, List.length_cons, List.length_nil, List.getElem?_cons_zero, List.getElem?_cons_succ, List.set_cons_zero, List.set_cons_succ, Option.map_some, List.map_cons, List.map_nil, Nat.reduceAdd, Nat.reduceSub, Nat.reduceEqDiff, List.reduceReplicate, List.cons_append, List.nil_append, List.append_nil, true_and, and_true, sl]
  have e := comp_told (st := []) (t := tNm 1) (a := eCB gAbs (aCons (eVar 1) aNil)) (ρ := wipeD [some (.d (.list (ns.map .int))), none] [1])
    (h := fun v => match v with
      | .d (.int k) => .int (if k < 0 then -k else k)
      | _ => .none) (items := ((ns.map PyData.int).take 63).map .d) fun v hv => by
    obtain ⟨x, hx, rfl⟩ := List.mem_map.mp hv
    obtain ⟨k, _, rfl⟩ := List.mem_map.mp (List.mem_of_mem_take hx)
    simp only [wipeD, r1_some, r2_some, r1_none, r_var, r_c, r_op, r_fz, r_bval, r_btru, r_band, r_bor, r_bnot, r_if, r_and, r_or, r_not, r_nil, r_cons, r_tup, r_lst, r_lstN, r_cb, r_is, r_call, r_neg, r_chain, r_ixC, ro_no, ro_some, r_sl, rt_nm, rs_next, rs_ret, rs_seq, rs_if, rs_asg, rs_asgT, rs_par, rt_nil, rt_cons, rt_tp, ri_data, ri_range1, ri_range2, ri_enum, r_comp, startD, look_d, looks_nil, looks_d, datas_nil, datas_d, tru_b, tru_i, List.length_cons, List.length_nil, List.getElem?_cons_zero, List.getElem?_cons_succ, List.set_cons_zero, List.set_cons_succ, Option.map_some, List.map_cons, List.map_nil, Nat.reduceAdd, Nat.reduceSub, Nat.reduceEqDiff, List.reduceReplicate, List.cons_append, List.nil_append, List.append_nil, true_and, and_true, gAbs, sl]
  rw [e, r2_some, datas_map, r1_some]
  try simp only [r1_some, r2_some, r1_none, r_var, r_c, r_op, r_fz, r_bval, r_btru, r_band, r_bor, r_bnot, r_if, r_and, r_or, r_not, r_nil, r_cons, r_tup, r_lst, r_lstN, r_cb, r_is, r_call, r_neg, r_chain, r_ixC, ro_no, ro_some, r_sl, rt_nm, rs_next, rs_ret, rs_seq, rs_if, rs_asg, rs_asgT, rs_par, rt_nil, rt_cons, rt_tp, ri_data, ri_range1, ri_range2, ri_enum, r_comp, startD, look_d, looks_nil, looks_d, datas_nil, datas_d, tru_b, tru_i, List.length_cons, List.length_nil, List.getElem?_cons_zero, List.getElem?_cons_succ, List.set_cons_zero, List.set_cons_succ, Option.map_some, List.map_cons, List.map_nil, Nat.reduceAdd, Nat.reduceSub, Nat.reduceEqDiff, List.reduceReplicate, List.cons_append, List.nil_append, List.append_nil, true_and, and_true, sl]
  have m : ((((ns.map PyData.int).take 63).map Vd.d).map fun v => match v with
      | .d (.int k) => PyData.int (if k < 0 then -k else k)
      | _ => .none) = ((ns.take 63).map fun k => if k < 0 then -k else k).map .int := by
    rw [← List.map_take, List.map_map, List.map_map, List.map_map]
    rfl
  rw [m]
  refine ⟨by simp; omega, ?_⟩
  have i4 : (4 : Nat) ≤ sizeLine := by decide
  try simp only [r1_some, r2_some, r1_none, r_var, r_c, r_op, r_fz, r_bval, r_btru, r_band, r_bor, r_bnot, r_if, r_and, r_or, r_not, r_nil, r_cons, r_tup, r_lst, r_lstN, r_cb, r_is, r_call, r_neg, r_chain, r_ixC, ro_no, ro_some, r_sl, rt_nm, rs_next, rs_ret, rs_seq, rs_if, rs_asg, rs_asgT, rs_par, rt_nil, rt_cons, rt_tp, ri_data, ri_range1, ri_range2, ri_enum, r_comp, startD, look_d, looks_nil, looks_d, datas_nil, datas_d, tru_b, tru_i, List.length_cons, List.length_nil, List.getElem?_cons_zero, List.getElem?_cons_succ, List.set_cons_zero, List.set_cons_succ, Option.map_some, List.map_cons, List.map_nil, Nat.reduceAdd, Nat.reduceSub, Nat.reduceEqDiff, List.reduceReplicate, List.cons_append, List.nil_append, List.append_nil, true_and, and_true, i4, sl]
  refine ⟨by simp, 0, 1234567891, 0, (ns.take 63).map fun k => if k < 0 then -k else k, rfl, ⟨by decide, by decide, by decide, by decide, fun n hn => ?_, by simp; omega⟩⟩
  obtain ⟨k, _, rfl⟩ := List.mem_map.mp hn
  split <;> omega
/-! the turns -/
noncomputable abbrev fBnt : FF := fBen 4
noncomputable abbrev fTrd : FF := fTruthed (fUn 20) (fWt 20) fTake
noncomputable abbrev fPIL : FF := fPIsLot (fPIsNumber fPIsInteger) fPAscends
noncomputable abbrev fPIP : FF := fPIsPlace (fPIsNumberPair fPIsRow (fPIsNumber fPIsInteger))
noncomputable abbrev fPIT : FF := fPIsTicket fPIsRow (fPIsSomeLot fPIL) (fPIsNumber fPIsInteger)
noncomputable abbrev fPIC : FF := fPIsCell fPIsRow fPIsInteger (fPIsLotOfPairs (fPIsNumberPair fPIsRow (fPIsNumber fPIsInteger)) fPAscends)
noncomputable abbrev fLIL : FF := fIsLot (fIsNatural fIsWhole)
noncomputable abbrev fLIP : FF := fIsPlace (fIsNatural fIsWhole)
noncomputable abbrev fLIT : FF := fIsTicket fLIL (fIsNatural fIsWhole)
noncomputable abbrev fLIC : FF := fIsCell fIsWhole (fArePlaces fLIP)
noncomputable def law1 : SF := gLaw_1 fBag fAlike fPIC fPIT fPIP fPIL fPIsInteger fLIC fLIT fLIP fLIL fIsWhole (fSome fTake) fTake fBnt fTrd fThg
noncomputable def law2 : SF := gLaw_2 fBag fAlike fPIC fPIT fPIP fPIL fPIsInteger fLIC fLIT fLIP fLIL fIsWhole (fSome fTake) fTake fBnt fTrd fThg
/-- how far a thing may have grown after j changes -/
def wj : Nat → Nat
  | 0 => 20000
  | j + 1 => 2 * wj j + 500
def shows (d : PyData) : PyData := .list [.bool (isWh d), .bool (lotOf isNat d), .bool (isPair d), .bool (isTick d), .bool (isCel d)]
theorem turns {scr a b c d e f : Option Vd} (h : BagS [] st) : R1 (law2 [scr, some (.r 0), a, b, c, d, e, f] st) fun o => ∃ a b c d e f s, o = .nx [scr, some (.r 0), a, b, c, d, e, f] s ∧ BagS [] s := by
  have i5 : (5 : Nat) ≤ sizeLine := by decide
  have i4 : (4 : Nat) ≤ sizeLine := by decide
  have i3 : (3 : Nat) ≤ sizeLine := by decide
  have i2 : (2 : Nat) ≤ sizeLine := by decide
  unfold law2 gLaw_2
  rw [rs_for]
  try simp only [r1_some, r2_some, r1_none, r_var, r_c, r_op, r_fz, r_bval, r_btru, r_band, r_bor, r_bnot, r_if, r_and, r_or, r_not, r_nil, r_cons, r_tup, r_lst, r_lstN, r_cb, r_is, r_call, r_neg, r_chain, r_ixC, ro_no, ro_some, r_sl, rt_nm, rs_next, rs_ret, rs_seq, rs_if, rs_asg, rs_asgT, rs_par, rt_nil, rt_cons, rt_tp, ri_data, ri_range1, ri_range2, ri_enum, r_comp, startD, look_d, looks_nil, looks_d, datas_nil, datas_d, tru_b, tru_i, List.length_cons, List.length_nil, List.getElem?_cons_zero, List.getElem?_cons_succ, List.set_cons_zero, List.set_cons_succ, Option.map_some, List.map_cons, List.map_nil, Nat.reduceAdd, Nat.reduceSub, Nat.reduceEqDiff, List.reduceReplicate, List.cons_append, List.nil_append, List.append_nil, true_and, and_true]
  refine ⟨by decide, by decide, (for_cnt (n := 40) (I := fun _ ρ s => ∃ a b c d e f, ρ = [scr, some (.r 0), a, b, c, d, e, f] ∧ BagS [] s) (fun i v ρ st _ hI => ?_) (i := 0) (by simp) ⟨a, b, c, d, e, f, rfl, h⟩).mono fun o ho => ?_⟩
  · obtain ⟨a, b, c, d, e, f, rfl, h⟩ := hI
    try simp only [r1_some, r2_some, r1_none, r_var, r_c, r_op, r_fz, r_bval, r_btru, r_band, r_bor, r_bnot, r_if, r_and, r_or, r_not, r_nil, r_cons, r_tup, r_lst, r_lstN, r_cb, r_is, r_call, r_neg, r_chain, r_ixC, ro_no, ro_some, r_sl, rt_nm, rs_next, rs_ret, rs_seq, rs_if, rs_asg, rs_asgT, rs_par, rt_nil, rt_cons, rt_tp, ri_data, ri_range1, ri_range2, ri_enum, r_comp, startD, look_d, looks_nil, looks_d, datas_nil, datas_d, tru_b, tru_i, List.length_cons, List.length_nil, List.getElem?_cons_zero, List.getElem?_cons_succ, List.set_cons_zero, List.set_cons_succ, Option.map_some, List.map_cons, List.map_nil, Nat.reduceAdd, Nat.reduceSub, Nat.reduceEqDiff, List.reduceReplicate, List.cons_append, List.nil_append, List.append_nil, true_and, and_true]
    refine (thing_sp h).mono fun u s hv => ?_
    obtain ⟨⟨x, rfl, ok⟩, hs⟩ := hv
    try simp only [r1_some, r2_some, r1_none, r_var, r_c, r_op, r_fz, r_bval, r_btru, r_band, r_bor, r_bnot, r_if, r_and, r_or, r_not, r_nil, r_cons, r_tup, r_lst, r_lstN, r_cb, r_is, r_call, r_neg, r_chain, r_ixC, ro_no, ro_some, r_sl, rt_nm, rs_next, rs_ret, rs_seq, rs_if, rs_asg, rs_asgT, rs_par, rt_nil, rt_cons, rt_tp, ri_data, ri_range1, ri_range2, ri_enum, r_comp, startD, look_d, looks_nil, looks_d, datas_nil, datas_d, tru_b, tru_i, List.length_cons, List.length_nil, List.getElem?_cons_zero, List.getElem?_cons_succ, List.set_cons_zero, List.set_cons_succ, Option.map_some, List.map_cons, List.map_nil, Nat.reduceAdd, Nat.reduceSub, Nat.reduceEqDiff, List.reduceReplicate, List.cons_append, List.nil_append, List.append_nil, true_and, and_true]
    rw [rs_for]
    try simp only [r1_some, r2_some, r1_none, r_var, r_c, r_op, r_fz, r_bval, r_btru, r_band, r_bor, r_bnot, r_if, r_and, r_or, r_not, r_nil, r_cons, r_tup, r_lst, r_lstN, r_cb, r_is, r_call, r_neg, r_chain, r_ixC, ro_no, ro_some, r_sl, rt_nm, rs_next, rs_ret, rs_seq, rs_if, rs_asg, rs_asgT, rs_par, rt_nil, rt_cons, rt_tp, ri_data, ri_range1, ri_range2, ri_enum, r_comp, startD, look_d, looks_nil, looks_d, datas_nil, datas_d, tru_b, tru_i, List.length_cons, List.length_nil, List.getElem?_cons_zero, List.getElem?_cons_succ, List.set_cons_zero, List.set_cons_succ, Option.map_some, List.map_cons, List.map_nil, Nat.reduceAdd, Nat.reduceSub, Nat.reduceEqDiff, List.reduceReplicate, List.cons_append, List.nil_append, List.append_nil, true_and, and_true, i4]
    refine (some_sp (by simp) (by simp) hs).mono fun u s hv => ?_
    obtain ⟨⟨m, hm, rfl⟩, hs⟩ := hv
    try simp only [r1_some, r2_some, r1_none, r_var, r_c, r_op, r_fz, r_bval, r_btru, r_band, r_bor, r_bnot, r_if, r_and, r_or, r_not, r_nil, r_cons, r_tup, r_lst, r_lstN, r_cb, r_is, r_call, r_neg, r_chain, r_ixC, ro_no, ro_some, r_sl, rt_nm, rs_next, rs_ret, rs_seq, rs_if, rs_asg, rs_asgT, rs_par, rt_nil, rt_cons, rt_tp, ri_data, ri_range1, ri_range2, ri_enum, r_comp, startD, look_d, looks_nil, looks_d, datas_nil, datas_d, tru_b, tru_i, List.length_cons, List.length_nil, List.getElem?_cons_zero, List.getElem?_cons_succ, List.set_cons_zero, List.set_cons_succ, Option.map_some, List.map_cons, List.map_nil, Nat.reduceAdd, Nat.reduceSub, Nat.reduceEqDiff, List.reduceReplicate, List.cons_append, List.nil_append, List.append_nil, true_and, and_true, i4]
    obtain ⟨m, rfl, m0, m2⟩ : ∃ k : Int, m = .int k ∧ 0 ≤ k ∧ k ≤ 2 := by
      simp only [List.mem_cons, List.not_mem_nil, or_false] at hm
      rcases hm with rfl | rfl | rfl | rfl <;> exact ⟨_, rfl, by decide, by decide⟩
    try simp only [r1_some, r2_some, r1_none, r_var, r_c, r_op, r_fz, r_bval, r_btru, r_band, r_bor, r_bnot, r_if, r_and, r_or, r_not, r_nil, r_cons, r_tup, r_lst, r_lstN, r_cb, r_is, r_call, r_neg, r_chain, r_ixC, ro_no, ro_some, r_sl, rt_nm, rs_next, rs_ret, rs_seq, rs_if, rs_asg, rs_asgT, rs_par, rt_nil, rt_cons, rt_tp, ri_data, ri_range1, ri_range2, ri_enum, r_comp, startD, look_d, looks_nil, looks_d, datas_nil, datas_d, tru_b, tru_i, List.length_cons, List.length_nil, List.getElem?_cons_zero, List.getElem?_cons_succ, List.set_cons_zero, List.set_cons_succ, Option.map_some, List.map_cons, List.map_nil, Nat.reduceAdd, Nat.reduceSub, Nat.reduceEqDiff, List.reduceReplicate, List.cons_append, List.nil_append, List.append_nil, true_and, and_true, i4]
    refine ⟨by omega, by omega, (for_cnt (n := m.toNat) (I := fun j ρ s => ∃ c x, ρ = [scr, some (.r 0), some v, some (.d x), c, d, e, f] ∧ Nic (2 * j) (4 + j) (wj j) x ∧ BagS [] s) (fun j u ρ st hj hI => ?_) (i := 0) (by simp) ⟨c, x, rfl, ok, hs⟩).mono fun o ho => ?_⟩
    · obtain ⟨c, x, rfl, ok, hs⟩ := hI
      have hw : wj j ≤ 40500 := by
        have : j = 0 ∨ j = 1 := by omega
        rcases this with rfl | rfl <;> decide
      try simp only [r1_some, r2_some, r1_none, r_var, r_c, r_op, r_fz, r_bval, r_btru, r_band, r_bor, r_bnot, r_if, r_and, r_or, r_not, r_nil, r_cons, r_tup, r_lst, r_lstN, r_cb, r_is, r_call, r_neg, r_chain, r_ixC, ro_no, ro_some, r_sl, rt_nm, rs_next, rs_ret, rs_seq, rs_if, rs_asg, rs_asgT, rs_par, rt_nil, rt_cons, rt_tp, ri_data, ri_range1, ri_range2, ri_enum, r_comp, startD, look_d, looks_nil, looks_d, datas_nil, datas_d, tru_b, tru_i, List.length_cons, List.length_nil, List.getElem?_cons_zero, List.getElem?_cons_succ, List.set_cons_zero, List.set_cons_succ, Option.map_some, List.map_cons, List.map_nil, Nat.reduceAdd, Nat.reduceSub, Nat.reduceEqDiff, List.reduceReplicate, List.cons_append, List.nil_append, List.append_nil, true_and, and_true, i4]
      refine (take_sp (by decide) (by decide) hs).mono fun u s hv => ?_
      obtain ⟨⟨z, rfl, z0, z1⟩, hs⟩ := hv
      try simp only [r1_some, r2_some, r1_none, r_var, r_c, r_op, r_fz, r_bval, r_btru, r_band, r_bor, r_bnot, r_if, r_and, r_or, r_not, r_nil, r_cons, r_tup, r_lst, r_lstN, r_cb, r_is, r_call, r_neg, r_chain, r_ixC, ro_no, ro_some, r_sl, rt_nm, rs_next, rs_ret, rs_seq, rs_if, rs_asg, rs_asgT, rs_par, rt_nil, rt_cons, rt_tp, ri_data, ri_range1, ri_range2, ri_enum, r_comp, startD, look_d, looks_nil, looks_d, datas_nil, datas_d, tru_b, tru_i, List.length_cons, List.length_nil, List.getElem?_cons_zero, List.getElem?_cons_succ, List.set_cons_zero, List.set_cons_succ, Option.map_some, List.map_cons, List.map_nil, Nat.reduceAdd, Nat.reduceSub, Nat.reduceEqDiff, List.reduceReplicate, List.cons_append, List.nil_append, List.append_nil, true_and, and_true, gCm_int, lt_int_, i4]
      by_cases hz : 0 < z
      · try simp only [r1_some, r2_some, r1_none, r_var, r_c, r_op, r_fz, r_bval, r_btru, r_band, r_bor, r_bnot, r_if, r_and, r_or, r_not, r_nil, r_cons, r_tup, r_lst, r_lstN, r_cb, r_is, r_call, r_neg, r_chain, r_ixC, ro_no, ro_some, r_sl, rt_nm, rs_next, rs_ret, rs_seq, rs_if, rs_asg, rs_asgT, rs_par, rt_nil, rt_cons, rt_tp, ri_data, ri_range1, ri_range2, ri_enum, r_comp, startD, look_d, looks_nil, looks_d, datas_nil, datas_d, tru_b, tru_i, List.length_cons, List.length_nil, List.getElem?_cons_zero, List.getElem?_cons_succ, List.set_cons_zero, List.set_cons_succ, Option.map_some, List.map_cons, List.map_nil, Nat.reduceAdd, Nat.reduceSub, Nat.reduceEqDiff, List.reduceReplicate, List.cons_append, List.nil_append, List.append_nil, true_and, and_true, hz, decide_true, i4, gCm_int, lt_int_]
        refine (bent_sp 3 s (2 * j) (4 + j) (wj j) x (by omega) (by omega) hs ok).mono fun u s hv => ?_
        obtain ⟨⟨y, rfl, oy⟩, hs⟩ := hv
        try simp only [r1_some, r2_some, r1_none, r_var, r_c, r_op, r_fz, r_bval, r_btru, r_band, r_bor, r_bnot, r_if, r_and, r_or, r_not, r_nil, r_cons, r_tup, r_lst, r_lstN, r_cb, r_is, r_call, r_neg, r_chain, r_ixC, ro_no, ro_some, r_sl, rt_nm, rs_next, rs_ret, rs_seq, rs_if, rs_asg, rs_asgT, rs_par, rt_nil, rt_cons, rt_tp, ri_data, ri_range1, ri_range2, ri_enum, r_comp, startD, look_d, looks_nil, looks_d, datas_nil, datas_d, tru_b, tru_i, List.length_cons, List.length_nil, List.getElem?_cons_zero, List.getElem?_cons_succ, List.set_cons_zero, List.set_cons_succ, Option.map_some, List.map_cons, List.map_nil, Nat.reduceAdd, Nat.reduceSub, Nat.reduceEqDiff, List.reduceReplicate, List.cons_append, List.nil_append, List.append_nil, true_and, and_true, i4, gCm_int, lt_int_, hz, decide_true]
        exact ⟨_, y, rfl, oy.up (by omega) (by omega) (Nat.le_refl _), hs⟩
      · try simp only [r1_some, r2_some, r1_none, r_var, r_c, r_op, r_fz, r_bval, r_btru, r_band, r_bor, r_bnot, r_if, r_and, r_or, r_not, r_nil, r_cons, r_tup, r_lst, r_lstN, r_cb, r_is, r_call, r_neg, r_chain, r_ixC, ro_no, ro_some, r_sl, rt_nm, rs_next, rs_ret, rs_seq, rs_if, rs_asg, rs_asgT, rs_par, rt_nil, rt_cons, rt_tp, ri_data, ri_range1, ri_range2, ri_enum, r_comp, startD, look_d, looks_nil, looks_d, datas_nil, datas_d, tru_b, tru_i, List.length_cons, List.length_nil, List.getElem?_cons_zero, List.getElem?_cons_succ, List.set_cons_zero, List.set_cons_succ, Option.map_some, List.map_cons, List.map_nil, Nat.reduceAdd, Nat.reduceSub, Nat.reduceEqDiff, List.reduceReplicate, List.cons_append, List.nil_append, List.append_nil, true_and, and_true, hz, decide_false, i4, gCm_int, lt_int_]
        refine (truthed_sp (N := 20) (by simp) (by omega) (by omega) hs ok).mono fun u s hv => ?_
        obtain ⟨⟨y, rfl, oy⟩, hs⟩ := hv
        try simp only [r1_some, r2_some, r1_none, r_var, r_c, r_op, r_fz, r_bval, r_btru, r_band, r_bor, r_bnot, r_if, r_and, r_or, r_not, r_nil, r_cons, r_tup, r_lst, r_lstN, r_cb, r_is, r_call, r_neg, r_chain, r_ixC, ro_no, ro_some, r_sl, rt_nm, rs_next, rs_ret, rs_seq, rs_if, rs_asg, rs_asgT, rs_par, rt_nil, rt_cons, rt_tp, ri_data, ri_range1, ri_range2, ri_enum, r_comp, startD, look_d, looks_nil, looks_d, datas_nil, datas_d, tru_b, tru_i, List.length_cons, List.length_nil, List.getElem?_cons_zero, List.getElem?_cons_succ, List.set_cons_zero, List.set_cons_succ, Option.map_some, List.map_cons, List.map_nil, Nat.reduceAdd, Nat.reduceSub, Nat.reduceEqDiff, List.reduceReplicate, List.cons_append, List.nil_append, List.append_nil, true_and, and_true, i4, gCm_int, lt_int_, hz, decide_false]
        refine ⟨_, y, rfl, oy.up (by omega) (by omega) ?_, hs⟩
        simp only [wj]
        omega
    · cases o with
      | nx ρ s =>
        obtain ⟨c, x, rfl, ok, hs⟩ : ∃ c x, ρ = [scr, some (.r 0), some v, some (.d x), c, d, e, f] ∧ Nic (2 * m.toNat) (4 + m.toNat) (wj m.toNat) x ∧ BagS [] s := ho
        have hw : wj m.toNat ≤ 81500 := by
          have : m.toNat = 0 ∨ m.toNat = 1 ∨ m.toNat = 2 := by omega
          rcases this with h | h | h <;> rw [h] <;> decide
        have hx : x.weight ≤ 1000000 := Nat.le_trans ok.wt (by omega)
        have hr := ok.repr (by omega) (by omega) (by omega)
        try simp only [r1_some, r2_some, r1_none, r_var, r_c, r_op, r_fz, r_bval, r_btru, r_band, r_bor, r_bnot, r_if, r_and, r_or, r_not, r_nil, r_cons, r_tup, r_lst, r_lstN, r_cb, r_is, r_call, r_neg, r_chain, r_ixC, ro_no, ro_some, r_sl, rt_nm, rs_next, rs_ret, rs_seq, rs_if, rs_asg, rs_asgT, rs_par, rt_nil, rt_cons, rt_tp, ri_data, ri_range1, ri_range2, ri_enum, r_comp, startD, look_d, looks_nil, looks_d, datas_nil, datas_d, tru_b, tru_i, List.length_cons, List.length_nil, List.getElem?_cons_zero, List.getElem?_cons_succ, List.set_cons_zero, List.set_cons_succ, Option.map_some, List.map_cons, List.map_nil, Nat.reduceAdd, Nat.reduceSub, Nat.reduceEqDiff, List.reduceReplicate, List.cons_append, List.nil_append, List.append_nil, true_and, and_true, i4]
        refine whole_sp.mono fun u s1 hv => ?_
        obtain ⟨rfl, rfl⟩ := hv
        try simp only [r1_some, r2_some, r1_none, r_var, r_c, r_op, r_fz, r_bval, r_btru, r_band, r_bor, r_bnot, r_if, r_and, r_or, r_not, r_nil, r_cons, r_tup, r_lst, r_lstN, r_cb, r_is, r_call, r_neg, r_chain, r_ixC, ro_no, ro_some, r_sl, rt_nm, rs_next, rs_ret, rs_seq, rs_if, rs_asg, rs_asgT, rs_par, rt_nil, rt_cons, rt_tp, ri_data, ri_range1, ri_range2, ri_enum, r_comp, startD, look_d, looks_nil, looks_d, datas_nil, datas_d, tru_b, tru_i, List.length_cons, List.length_nil, List.getElem?_cons_zero, List.getElem?_cons_succ, List.set_cons_zero, List.set_cons_succ, Option.map_some, List.map_cons, List.map_nil, Nat.reduceAdd, Nat.reduceSub, Nat.reduceEqDiff, List.reduceReplicate, List.cons_append, List.nil_append, List.append_nil, true_and, and_true, i4]
        refine (lot_law x _ hx).mono fun u s1 hv => ?_
        obtain ⟨rfl, rfl⟩ := hv
        try simp only [r1_some, r2_some, r1_none, r_var, r_c, r_op, r_fz, r_bval, r_btru, r_band, r_bor, r_bnot, r_if, r_and, r_or, r_not, r_nil, r_cons, r_tup, r_lst, r_lstN, r_cb, r_is, r_call, r_neg, r_chain, r_ixC, ro_no, ro_some, r_sl, rt_nm, rs_next, rs_ret, rs_seq, rs_if, rs_asg, rs_asgT, rs_par, rt_nil, rt_cons, rt_tp, ri_data, ri_range1, ri_range2, ri_enum, r_comp, startD, look_d, looks_nil, looks_d, datas_nil, datas_d, tru_b, tru_i, List.length_cons, List.length_nil, List.getElem?_cons_zero, List.getElem?_cons_succ, List.set_cons_zero, List.set_cons_succ, Option.map_some, List.map_cons, List.map_nil, Nat.reduceAdd, Nat.reduceSub, Nat.reduceEqDiff, List.reduceReplicate, List.cons_append, List.nil_append, List.append_nil, true_and, and_true, i4]
        refine (place_sp x _).mono fun u s1 hv => ?_
        obtain ⟨rfl, rfl⟩ := hv
        try simp only [r1_some, r2_some, r1_none, r_var, r_c, r_op, r_fz, r_bval, r_btru, r_band, r_bor, r_bnot, r_if, r_and, r_or, r_not, r_nil, r_cons, r_tup, r_lst, r_lstN, r_cb, r_is, r_call, r_neg, r_chain, r_ixC, ro_no, ro_some, r_sl, rt_nm, rs_next, rs_ret, rs_seq, rs_if, rs_asg, rs_asgT, rs_par, rt_nil, rt_cons, rt_tp, ri_data, ri_range1, ri_range2, ri_enum, r_comp, startD, look_d, looks_nil, looks_d, datas_nil, datas_d, tru_b, tru_i, List.length_cons, List.length_nil, List.getElem?_cons_zero, List.getElem?_cons_succ, List.set_cons_zero, List.set_cons_succ, Option.map_some, List.map_cons, List.map_nil, Nat.reduceAdd, Nat.reduceSub, Nat.reduceEqDiff, List.reduceReplicate, List.cons_append, List.nil_append, List.append_nil, true_and, and_true, i3, i4]
        refine (tick_sp x _ hx).mono fun u s1 hv => ?_
        obtain ⟨rfl, rfl⟩ := hv
        try simp only [r1_some, r2_some, r1_none, r_var, r_c, r_op, r_fz, r_bval, r_btru, r_band, r_bor, r_bnot, r_if, r_and, r_or, r_not, r_nil, r_cons, r_tup, r_lst, r_lstN, r_cb, r_is, r_call, r_neg, r_chain, r_ixC, ro_no, ro_some, r_sl, rt_nm, rs_next, rs_ret, rs_seq, rs_if, rs_asg, rs_asgT, rs_par, rt_nil, rt_cons, rt_tp, ri_data, ri_range1, ri_range2, ri_enum, r_comp, startD, look_d, looks_nil, looks_d, datas_nil, datas_d, tru_b, tru_i, List.length_cons, List.length_nil, List.getElem?_cons_zero, List.getElem?_cons_succ, List.set_cons_zero, List.set_cons_succ, Option.map_some, List.map_cons, List.map_nil, Nat.reduceAdd, Nat.reduceSub, Nat.reduceEqDiff, List.reduceReplicate, List.cons_append, List.nil_append, List.append_nil, true_and, and_true, i4, i3]
        refine (cell_sp hx ok.g).mono fun u s1 hv => ?_
        obtain ⟨rfl, rfl⟩ := hv
        try simp only [r1_some, r2_some, r1_none, r_var, r_c, r_op, r_fz, r_bval, r_btru, r_band, r_bor, r_bnot, r_if, r_and, r_or, r_not, r_nil, r_cons, r_tup, r_lst, r_lstN, r_cb, r_is, r_call, r_neg, r_chain, r_ixC, ro_no, ro_some, r_sl, rt_nm, rs_next, rs_ret, rs_seq, rs_if, rs_asg, rs_asgT, rs_par, rt_nil, rt_cons, rt_tp, ri_data, ri_range1, ri_range2, ri_enum, r_comp, startD, look_d, looks_nil, looks_d, datas_nil, datas_d, tru_b, tru_i, List.length_cons, List.length_nil, List.getElem?_cons_zero, List.getElem?_cons_succ, List.set_cons_zero, List.set_cons_succ, Option.map_some, List.map_cons, List.map_nil, Nat.reduceAdd, Nat.reduceSub, Nat.reduceEqDiff, List.reduceReplicate, List.cons_append, List.nil_append, List.append_nil, true_and, and_true, i2, i4, i3]
        rw [gAdd_fit (by simp), r1_some]
        try simp only [r1_some, r2_some, r1_none, r_var, r_c, r_op, r_fz, r_bval, r_btru, r_band, r_bor, r_bnot, r_if, r_and, r_or, r_not, r_nil, r_cons, r_tup, r_lst, r_lstN, r_cb, r_is, r_call, r_neg, r_chain, r_ixC, ro_no, ro_some, r_sl, rt_nm, rs_next, rs_ret, rs_seq, rs_if, rs_asg, rs_asgT, rs_par, rt_nil, rt_cons, rt_tp, ri_data, ri_range1, ri_range2, ri_enum, r_comp, startD, look_d, looks_nil, looks_d, datas_nil, datas_d, tru_b, tru_i, List.length_cons, List.length_nil, List.getElem?_cons_zero, List.getElem?_cons_succ, List.set_cons_zero, List.set_cons_succ, Option.map_some, List.map_cons, List.map_nil, Nat.reduceAdd, Nat.reduceSub, Nat.reduceEqDiff, List.reduceReplicate, List.cons_append, List.nil_append, List.append_nil, true_and, and_true, hr, i4, i3, i2]
        rw [rs_for]
        try simp only [r1_some, r2_some, r1_none, r_var, r_c, r_op, r_fz, r_bval, r_btru, r_band, r_bor, r_bnot, r_if, r_and, r_or, r_not, r_nil, r_cons, r_tup, r_lst, r_lstN, r_cb, r_is, r_call, r_neg, r_chain, r_ixC, ro_no, ro_some, r_sl, rt_nm, rs_next, rs_ret, rs_seq, rs_if, rs_asg, rs_asgT, rs_par, rt_nil, rt_cons, rt_tp, ri_data, ri_range1, ri_range2, ri_enum, r_comp, startD, look_d, looks_nil, looks_d, datas_nil, datas_d, tru_b, tru_i, List.length_cons, List.length_nil, List.getElem?_cons_zero, List.getElem?_cons_succ, List.set_cons_zero, List.set_cons_succ, Option.map_some, List.map_cons, List.map_nil, Nat.reduceAdd, Nat.reduceSub, Nat.reduceEqDiff, List.reduceReplicate, List.cons_append, List.nil_append, List.append_nil, true_and, and_true, i4, i3, i2, hr]
        have hb : Nic 0 1 100 (shows x) := by
          refine Nic.list (fun d hd => ?_) (by simp [PyData.weightAll, PyData.weight])
          simp only [List.mem_cons, List.not_mem_nil, or_false] at hd
          rcases hd with rfl | rfl | rfl | rfl | rfl <;> exact ⟨rfl, by simp [PyData.depth]⟩
        have hbr := hb.repr (by omega) (by omega) (by omega)
        refine ⟨by decide, by decide, (for_cnt (n := 2) (I := fun _ ρ s => (∃ c g, ρ = [scr, some (.r 0), some v, some (.d x), c, some (.d (shows x)), some (.d (.str x.shown)), g]) ∧ BagS [] s) (fun j u ρ st hj hI => ?_) (i := 0) (by simp) ⟨⟨c, f, rfl⟩, hs⟩).mono fun o ho => ?_⟩
        · obtain ⟨⟨c, g, rfl⟩, hs⟩ := hI
          try simp only [r1_some, r2_some, r1_none, r_var, r_c, r_op, r_fz, r_bval, r_btru, r_band, r_bor, r_bnot, r_if, r_and, r_or, r_not, r_nil, r_cons, r_tup, r_lst, r_lstN, r_cb, r_is, r_call, r_neg, r_chain, r_ixC, ro_no, ro_some, r_sl, rt_nm, rs_next, rs_ret, rs_seq, rs_if, rs_asg, rs_asgT, rs_par, rt_nil, rt_cons, rt_tp, ri_data, ri_range1, ri_range2, ri_enum, r_comp, startD, look_d, looks_nil, looks_d, datas_nil, datas_d, tru_b, tru_i, List.length_cons, List.length_nil, List.getElem?_cons_zero, List.getElem?_cons_succ, List.set_cons_zero, List.set_cons_succ, Option.map_some, List.map_cons, List.map_nil, Nat.reduceAdd, Nat.reduceSub, Nat.reduceEqDiff, List.reduceReplicate, List.cons_append, List.nil_append, List.append_nil, true_and, and_true, i4, i3, i2, hr]
          refine pint_sp.mono fun u s1 hv => ?_
          obtain ⟨rfl, rfl⟩ := hv
          try simp only [r1_some, r2_some, r1_none, r_var, r_c, r_op, r_fz, r_bval, r_btru, r_band, r_bor, r_bnot, r_if, r_and, r_or, r_not, r_nil, r_cons, r_tup, r_lst, r_lstN, r_cb, r_is, r_call, r_neg, r_chain, r_ixC, ro_no, ro_some, r_sl, rt_nm, rs_next, rs_ret, rs_seq, rs_if, rs_asg, rs_asgT, rs_par, rt_nil, rt_cons, rt_tp, ri_data, ri_range1, ri_range2, ri_enum, r_comp, startD, look_d, looks_nil, looks_d, datas_nil, datas_d, tru_b, tru_i, List.length_cons, List.length_nil, List.getElem?_cons_zero, List.getElem?_cons_succ, List.set_cons_zero, List.set_cons_succ, Option.map_some, List.map_cons, List.map_nil, Nat.reduceAdd, Nat.reduceSub, Nat.reduceEqDiff, List.reduceReplicate, List.cons_append, List.nil_append, List.append_nil, true_and, and_true, i4, i3, i2, hr]
          refine (plot_sp x _ hx).mono fun u s1 hv => ?_
          obtain ⟨rfl, rfl⟩ := hv
          try simp only [r1_some, r2_some, r1_none, r_var, r_c, r_op, r_fz, r_bval, r_btru, r_band, r_bor, r_bnot, r_if, r_and, r_or, r_not, r_nil, r_cons, r_tup, r_lst, r_lstN, r_cb, r_is, r_call, r_neg, r_chain, r_ixC, ro_no, ro_some, r_sl, rt_nm, rs_next, rs_ret, rs_seq, rs_if, rs_asg, rs_asgT, rs_par, rt_nil, rt_cons, rt_tp, ri_data, ri_range1, ri_range2, ri_enum, r_comp, startD, look_d, looks_nil, looks_d, datas_nil, datas_d, tru_b, tru_i, List.length_cons, List.length_nil, List.getElem?_cons_zero, List.getElem?_cons_succ, List.set_cons_zero, List.set_cons_succ, Option.map_some, List.map_cons, List.map_nil, Nat.reduceAdd, Nat.reduceSub, Nat.reduceEqDiff, List.reduceReplicate, List.cons_append, List.nil_append, List.append_nil, true_and, and_true, i4, i3, i2, hr]
          refine (pplace_sp x _).mono fun u s1 hv => ?_
          obtain ⟨rfl, rfl⟩ := hv
          try simp only [r1_some, r2_some, r1_none, r_var, r_c, r_op, r_fz, r_bval, r_btru, r_band, r_bor, r_bnot, r_if, r_and, r_or, r_not, r_nil, r_cons, r_tup, r_lst, r_lstN, r_cb, r_is, r_call, r_neg, r_chain, r_ixC, ro_no, ro_some, r_sl, rt_nm, rs_next, rs_ret, rs_seq, rs_if, rs_asg, rs_asgT, rs_par, rt_nil, rt_cons, rt_tp, ri_data, ri_range1, ri_range2, ri_enum, r_comp, startD, look_d, looks_nil, looks_d, datas_nil, datas_d, tru_b, tru_i, List.length_cons, List.length_nil, List.getElem?_cons_zero, List.getElem?_cons_succ, List.set_cons_zero, List.set_cons_succ, Option.map_some, List.map_cons, List.map_nil, Nat.reduceAdd, Nat.reduceSub, Nat.reduceEqDiff, List.reduceReplicate, List.cons_append, List.nil_append, List.append_nil, true_and, and_true, i4, i3, i2, hr]
          refine (ptick_sp x _ hx).mono fun u s1 hv => ?_
          obtain ⟨rfl, rfl⟩ := hv
          try simp only [r1_some, r2_some, r1_none, r_var, r_c, r_op, r_fz, r_bval, r_btru, r_band, r_bor, r_bnot, r_if, r_and, r_or, r_not, r_nil, r_cons, r_tup, r_lst, r_lstN, r_cb, r_is, r_call, r_neg, r_chain, r_ixC, ro_no, ro_some, r_sl, rt_nm, rs_next, rs_ret, rs_seq, rs_if, rs_asg, rs_asgT, rs_par, rt_nil, rt_cons, rt_tp, ri_data, ri_range1, ri_range2, ri_enum, r_comp, startD, look_d, looks_nil, looks_d, datas_nil, datas_d, tru_b, tru_i, List.length_cons, List.length_nil, List.getElem?_cons_zero, List.getElem?_cons_succ, List.set_cons_zero, List.set_cons_succ, Option.map_some, List.map_cons, List.map_nil, Nat.reduceAdd, Nat.reduceSub, Nat.reduceEqDiff, List.reduceReplicate, List.cons_append, List.nil_append, List.append_nil, true_and, and_true, i4, i3, i2, hr]
          refine (pcell_sp hx ok.g).mono fun u s1 hv => ?_
          obtain ⟨rfl, rfl⟩ := hv
          try simp only [r1_some, r2_some, r1_none, r_var, r_c, r_op, r_fz, r_bval, r_btru, r_band, r_bor, r_bnot, r_if, r_and, r_or, r_not, r_nil, r_cons, r_tup, r_lst, r_lstN, r_cb, r_is, r_call, r_neg, r_chain, r_ixC, ro_no, ro_some, r_sl, rt_nm, rs_next, rs_ret, rs_seq, rs_if, rs_asg, rs_asgT, rs_par, rt_nil, rt_cons, rt_tp, ri_data, ri_range1, ri_range2, ri_enum, r_comp, startD, look_d, looks_nil, looks_d, datas_nil, datas_d, tru_b, tru_i, List.length_cons, List.length_nil, List.getElem?_cons_zero, List.getElem?_cons_succ, List.set_cons_zero, List.set_cons_succ, Option.map_some, List.map_cons, List.map_nil, Nat.reduceAdd, Nat.reduceSub, Nat.reduceEqDiff, List.reduceReplicate, List.cons_append, List.nil_append, List.append_nil, true_and, and_true, i5, i4, i3, i2, hr]
          refine (alike_sp (d := shows x) hbr (Nat.le_trans hb.dp (by decide))).mono fun u s1 hv => ?_
          obtain ⟨rfl, rfl⟩ := hv
          try simp only [r1_some, r2_some, r1_none, r_var, r_c, r_op, r_fz, r_bval, r_btru, r_band, r_bor, r_bnot, r_if, r_and, r_or, r_not, r_nil, r_cons, r_tup, r_lst, r_lstN, r_cb, r_is, r_call, r_neg, r_chain, r_ixC, ro_no, ro_some, r_sl, rt_nm, rs_next, rs_ret, rs_seq, rs_if, rs_asg, rs_asgT, rs_par, rt_nil, rt_cons, rt_tp, ri_data, ri_range1, ri_range2, ri_enum, r_comp, startD, look_d, looks_nil, looks_d, datas_nil, datas_d, tru_b, tru_i, List.length_cons, List.length_nil, List.getElem?_cons_zero, List.getElem?_cons_succ, List.set_cons_zero, List.set_cons_succ, Option.map_some, List.map_cons, List.map_nil, Nat.reduceAdd, Nat.reduceSub, Nat.reduceEqDiff, List.reduceReplicate, List.cons_append, List.nil_append, List.append_nil, true_and, and_true, hr, Bool.not_true, i4, i3, i2, i5]
          rw [gNe_str rfl, r1_some]
          try simp only [r1_some, r2_some, r1_none, r_var, r_c, r_op, r_fz, r_bval, r_btru, r_band, r_bor, r_bnot, r_if, r_and, r_or, r_not, r_nil, r_cons, r_tup, r_lst, r_lstN, r_cb, r_is, r_call, r_neg, r_chain, r_ixC, ro_no, ro_some, r_sl, rt_nm, rs_next, rs_ret, rs_seq, rs_if, rs_asg, rs_asgT, rs_par, rt_nil, rt_cons, rt_tp, ri_data, ri_range1, ri_range2, ri_enum, r_comp, startD, look_d, looks_nil, looks_d, datas_nil, datas_d, tru_b, tru_i, List.length_cons, List.length_nil, List.getElem?_cons_zero, List.getElem?_cons_succ, List.set_cons_zero, List.set_cons_succ, Option.map_some, List.map_cons, List.map_nil, Nat.reduceAdd, Nat.reduceSub, Nat.reduceEqDiff, List.reduceReplicate, List.cons_append, List.nil_append, List.append_nil, true_and, and_true, i4, i3, i2, hr, i5, Bool.not_true]
          exact ⟨⟨_, _, rfl⟩, hs⟩
        · cases o with
          | nx ρ s =>
            obtain ⟨⟨c, g, rfl⟩, hs⟩ : (∃ c g, ρ = [scr, some (.r 0), some v, some (.d x), c, some (.d (shows x)), some (.d (.str x.shown)), g]) ∧ BagS [] s := ho
            exact ⟨_, _, _, _, _, _, rfl, hs⟩
          | _ => exact ho.elim
      | _ => exact ho.elim
  · cases o with
    | nx ρ s =>
      obtain ⟨a, b, c, d, e, f, rfl, h⟩ : ∃ a b c d e f, ρ = [scr, some (.r 0), a, b, c, d, e, f] ∧ BagS [] s := ho
      exact ⟨a, b, c, d, e, f, s, rfl, h⟩
    | _ => exact ho.elim
end D01

set_option Elab.async false
set_option linter.all false
set_option maxRecDepth 100000
set_option maxHeartbeats 4000000
namespace Pg
open PySem PySem.Spec PyProof.Rows L2
/-! ### own exceptions as values: made, looked into, asked for their class -/
/-- what the written part says of such a class at C -/
structure XCls (K : PySem.W.Frag) (C : Addr) : Prop where
  ox : OexC K C
  fld : XfC K C
  cl : (PySem.W.clsIn K C).isSome = true
  ha : PySem.W.findIn K (.ref C) "__class__" = some (some (.builtin "object.__class__"))
  hn : PySem.W.specialIn K (.builtin "object.__class__") "__get__" = some (some (.builtin "getset_descriptor.__get__"))
  htk : PySem.W.takesIn K (.builtin "object.__class__") = some true
  hm : PySem.W.mroIn K C (.type "object") = some true
/-- its own __init__ -/
structure XIni (K : PySem.W.Frag) (C fI : Addr) : Prop where
  iC : PySem.W.findIn K (.ref C) "__init__" = some (some (.ref fI))
  tI : PySem.W.typeIn K (.ref fI) = some (.type "function")
def tMkV (C : Addr) (sp : Sp) (ta : TA) : TE := fun σ H Q => ta σ H fun vs H1 => vs.length ≤ 1000 ∧ ∀ e, H1 e = none → sp (.ref e :: vs) (upd H1 e (exo e C none)) (fun v H2 => v = .non ∧ Q (.ref e) H2) E0
section
variable {X : Cx} {pins : List (Addr × Obj)} {σ : L2.St} {H : Hp} {s : Shared} {C fI : Addr} {k : Nat} {fd : FuncData} {ps : List Str} {sp : Sp}
theorem run_mkV {Q : VK} {us : List Value} {vs : List V} (T : OexC X.K C) (N : XIni X.K C fI) (F : FnOk X.prog X.w X.K X.mg X.base CX0 k fI fd ps sp) (hr : Room (k + 1) X.A) (hb : Binds X.K fd ps [])
    (I : Inv X pins σ H s) (r : Vals vs us) (hz : vs.length ≤ 1000) (q : ∀ e, H e = none → sp (.ref e :: vs) (upd H e (exo e C none)) (fun v H2 => v = .non ∧ Q (.ref e) H2) E0) :
    wpAny (model X.prog X.w) X.A (call (.ref C) us) (EP X pins σ Q) X.xe s := by
  obtain ⟨nm, qn, ns, bs, bm, sn, sub, ab, col, dd, k0, k1, k2, k3, k5, hC, hbm⟩ := T.cls
  obtain ⟨hp, g, dr, tk, os⟩ := s
  have big : hp.objs.size ≤ hp.objs.size + 1 := Nat.le_succ _
  have hn : H (hp.objs.size + 1) = none := I.hok.fresh big
  have hq := q (hp.objs.size + 1) hn
  have kept : ∀ b o, hp.get? b = some o → ((hp.push (PySem.W.kdv_tup us)).push (PySem.HandSPX.excO C hp.objs.size)).get? b = some o := fun b o z => Heap.get?_push_of_some _ (Heap.get?_push_of_some _ z)
  have there : ((hp.push (PySem.W.kdv_tup us)).push (PySem.HandSPX.excO C hp.objs.size)).get? (hp.objs.size + 1) = some (PySem.HandSPX.excO C hp.objs.size) := by heap_get
  have J : Inv X pins σ (upd H (hp.objs.size + 1) (exo (hp.objs.size + 1) C none)) ⟨(hp.push (PySem.W.kdv_tup us)).push (PySem.HandSPX.excO C hp.objs.size), g, dr, tk, os⟩ :=
    I.laid (t' := tk) kept big (exo_ok there)
  have r2 : Vals (V.ref (hp.objs.size + 1) :: vs) (Value.ref (hp.objs.size + 1) :: us) := .cons rfl r
  have hl : (Value.ref (hp.objs.size + 1) :: us ++ []).length = ps.length := by
    rw [List.append_nil, ← r2.length]
    exact F.len _ _ _ _ hq
  have hb' := hb ⟨(hp.push (PySem.W.kdv_tup us)).push (PySem.HandSPX.excO C hp.objs.size), g, dr, tk, os⟩ (Value.ref (hp.objs.size + 1) :: us) J.kIn hl
  rw [List.append_nil] at hb'
  have few : us.length ≤ sizeLine := by
    rw [← Paired.length r, sizeLine_eq]
    omega
  refine wpAny_call (PySem.HandSPX.call_own PySem.F.excBase_ValueError (fun Y => PySem.HandSPX.refsVE_contains Y bm hbm) (I.kIn _ _ hC) (PySem.W.looks_findIn I.kIn N.iC) (fun self => PySem.W.bind_fn I.kIn self N.tI) few ?_)
  refine codeAny_mono (F.run _ X.stack _ _ ⟨Value.ref (hp.objs.size + 1) :: us, []⟩ (Value.ref (hp.objs.size + 1) :: us) _ _ E0 (hr.make C us []) (J.env0.make C us []) hb' r2 hq) fun r' s' h' => ?_
  cases r' with
  | error er => exact False.elim h'
  | ok fl =>
    cases fl with
    | ret u =>
      obtain ⟨v, H', I3, rv, ev, q3⟩ := J.after h'
      subst ev
      exact ⟨rv, .ref (hp.objs.size + 1), H', I3, rfl, q3⟩
    | next => exact False.elim h'
    | brk => exact False.elim h'
    | cont => exact False.elim h'
variable {x : Str} {p pos : Pos} {e : Expr} {es : List Expr} {ta : TA}
theorem pe_mkV (T : OexC X.K C) (N : XIni X.K C fI) (F : FnOk X.prog X.w X.K X.mg X.base CX0 k fI fd ps sp) (hr : Room (k + 1) X.A) (hb : Binds X.K fd ps []) (hg : Gl X x) (hm : X.mg x = some (.ref C)) (ha : PA X (e :: es) ta)
    (hdb : (x == ("__debug__" : Str)) = false := by decide) (he : starEach (e :: es) X.env = (false, eval e X.env) :: starEach es X.env := by rfl) (hpl : (backTo pos (starEach es X.env)).any (·.1) = false := by rfl) :
    PE X (.Call (.Name x p) (e :: es) [] pos) (tMkV C sp ta) := by
  refine ⟨fun pins s σ H Q I h => ?_⟩
  refine wpAny_Call_Name_kw (ld_glob I hg hm ?_ hdb)
  refine PySem.W.callWith_K (h₀ := X.base) I.ok.mod.kin T.kC (thn (ha.run pos pins s σ H _ I h) fun us s1 ⟨vs, H1, I1, r1, hz, q1⟩ => ⟨I1.kIn, ?_⟩) he hpl
  exact run_mkV T N F hr hb I1 r1 hz q1
theorem pe_mkV0 (T : OexC X.K C) (N : XIni X.K C fI) (F : FnOk X.prog X.w X.K X.mg X.base CX0 k fI fd ps sp) (hr : Room (k + 1) X.A) (hb : Binds X.K fd ps []) (hg : Gl X x) (hm : X.mg x = some (.ref C))
    (hdb : (x == ("__debug__" : Str)) = false := by decide) : PE X (.Call (.Name x p) [] [] pos) (tMkV C sp tNil) := by
  refine ⟨fun pins s σ H Q I h => ?_⟩
  refine wpAny_Call_Name_kw (ld_glob I hg hm ?_ hdb)
  exact PySem.W.callWith_K0 I.kIn T.kC (run_mkV (us := []) T N F hr hb I .nil h.1 h.2)
/-- e.f of such an exception -/
def tXV (K : PySem.W.Frag) (f : Str) (te : TE) : TE := fun σ H Q => te σ H fun x H1 => ∃ (e C d : Addr) (fs : List (Str × V)) (v : V), x = .ref e ∧ XfC K C ∧ PySem.W.findIn K (.ref C) f = some none ∧ H1 e = some (exo e C (some d)) ∧ H1 d = some (exd d fs) ∧ fs.lookup f = some v ∧ Q v H1
theorem pe_xv {o : Expr} {te : TE} {f : Str} (he : PE X o te) (hb : attributeBase o f X.env (eval o X.env) = eval o X.env := by rfl) : PE X (.Attribute o f pos) (tXV X.K f te) := by
  refine ⟨fun pins s σ H Q I h => ?_⟩
  refine attr_of hb (thn (he.run pins s σ H _ I h) fun u s1 ⟨x, H1, I1, rx, e, C, d, fs, v, ex, T, hno, h1, h2, hl, q⟩ => ?_)
  subst ex
  cases rx
  obtain ⟨t1, ho⟩ := exo_at I1.hok h1
  obtain ⟨mA, hns, rel⟩ := exd_at I1.hok h2
  obtain ⟨od, hod, look⟩ := lookIn_ns hns
  obtain ⟨u, hu, ru⟩ := RelO.some_of (v := v) (o := mA f) (by rw [← hl]; exact rel f)
  exact HandSPX.exc_get I1.kIn ⟨ho, rfl, rfl, hod⟩ T.ga T.gg T.exC (PySem.W.findObj_own T.hdC hno rfl (by rw [look, hu])) (handed_of ru) ⟨v, H1, I1.tok _, ru, q⟩
/-- isinstance(e, c) of such an exception -/
def rXI (K : PySem.W.Frag) : List V → Hp → VK → Prop := fun xs H Q => ∃ (e D : Addr) (d : Option Addr) (c : V) (cv : Value) (b : Bool), xs = [.ref e, c] ∧ H e = some (exo e D d) ∧ (∀ z, d = some z → ∃ fs, H z = some (exd z fs)) ∧ XCls K D ∧ (∀ u, RelV c u → u = cv) ∧ PySem.W.kitOne K (.ref D) cv = some b ∧ Q (.bl b) H
theorem call_xi : CallR X (.builtin "isinstance") (rXI X.K) := by
  intro pins s σ H xs us Q I r h
  obtain ⟨e, D, d, c, cv, b, rfl, h1, h2, T, hcv, hk, q⟩ := h
  obtain ⟨u1, u2, rfl, r1, r2⟩ := vals2 r
  cases r1
  have ec := hcv _ r2
  subst ec
  obtain ⟨t1, ho⟩ := exo_at I.hok h1
  have Z : ∀ od, PySem.W.KitX X.K (.ref e) (.ref D) (fun h => PySem.W.InstAt h e _ D od) := fun od =>
    PySem.W.kitx_exc (ox := ({ cls := .ref D, dict := d, data := .fields #[.ref t1, .none, .none, .none, .bool false, .none] } : Obj)) (od := od) T.cl T.fld.ga T.fld.gg T.fld.exC T.ha T.hn T.htk T.hm
  cases d with
  | none => exact PySem.W.kia_one (Z none) I.kIn ⟨ho, rfl, rfl, trivial⟩ hk (fun z => nomatch z) fun tk => ⟨.bl b, H, I.tok tk, rfl, q⟩
  | some z =>
    obtain ⟨fs, hz⟩ := h2 z rfl
    obtain ⟨mA, hns, rel⟩ := exd_at I.hok hz
    obtain ⟨od, hod, look⟩ := lookIn_ns hns
    exact PySem.W.kia_one (Z (some od)) I.kIn ⟨ho, rfl, rfl, hod⟩ hk (fun z => nomatch z) fun tk => ⟨.bl b, H, I.tok tk, rfl, q⟩
end
/-- __init__ that keeps one thing, two things, nothing -/
def spIni1 (C : Addr) (f : Str) : Sp := fun vs H Q _ => ∃ (a : Addr) (v : V), vs = [.ref a, v] ∧ H a = some (exo a C none) ∧ ∀ dx, H dx = none → dx ≠ a → Q .non (upd (upd H dx (exd dx [(f, v)])) a (exo a C (some dx)))
def spIni2 (C : Addr) (f g : Str) : Sp := fun vs H Q _ => ∃ (a : Addr) (v z : V), vs = [.ref a, v, z] ∧ H a = some (exo a C none) ∧ ∀ dx H', H dx = none → dx ≠ a → (∀ b o, b ≠ a → H b = some o → H' b = some o) → H' a = some (exo a C (some dx)) → H' dx = some (exd dx [(g, z), (f, v)]) → (∀ b, H' b = none → H b = none) → Q .non H'
def spIni0 : Sp := fun vs H Q _ => ∃ a : Addr, vs = [.ref a] ∧ Q .non H
/-- e is an exception of the class at C with the fields fs -/
def ErrIs (H : Hp) (e C : Addr) : Option (List (Str × V)) → Prop
  | none => H e = some (exo e C none)
  | some fs => ∃ d, H e = some (exo e C (some d)) ∧ H d = some (exd d fs)
theorem ErrIs.same {H H' : Hp} {e C : Addr} (s : Same H H') : ∀ {fs : Option (List (Str × V))}, ErrIs H e C fs → ErrIs H' e C fs
  | none, h => s _ _ h
  | some _, ⟨d, h1, h2⟩ => ⟨d, s _ _ h1, s _ _ h2⟩
theorem ErrIs.some_of {H : Hp} {e C : Addr} : ∀ {fs : Option (List (Str × V))}, ErrIs H e C fs → ∃ d, H e = some (exo e C d) ∧ ∀ z, d = some z → ∃ gs, H z = some (exd z gs)
  | none, h => ⟨none, h, fun _ z => nomatch z⟩
  | some fs, ⟨d, h1, h2⟩ => ⟨some d, h1, fun z e => by cases e; exact ⟨fs, h2⟩⟩
theorem PE_imp {X : Cx} {e : Expr} {t t' : TE} (h : PE X e t) (i : ∀ σ H Q, t' σ H Q → t σ H Q) : PE X e t' := ⟨fun pins s σ H Q I q => h.run pins s σ H Q I (i σ H Q q)⟩
/-- C(a): a new exception -/
def tMk1 (C : Addr) (f : Str) (ta : TA) : TE := fun σ H Q => ta σ H fun vs H1 => ∃ v, vs = [v] ∧ ∀ e H2, Same H1 H2 → ErrIs H2 e C (some [(f, v)]) → Q (.ref e) H2
def tMk2 (C : Addr) (f g : Str) (ta : TA) : TE := fun σ H Q => ta σ H fun vs H1 => ∃ v z, vs = [v, z] ∧ ∀ e H2, Same H1 H2 → ErrIs H2 e C (some [(g, z), (f, v)]) → Q (.ref e) H2
def tMk0 (C : Addr) : TE := fun _ H Q => ∀ e H2, Same H H2 → ErrIs H2 e C none → Q (.ref e) H2
section
variable {X : Cx} {C fI : Addr} {k : Nat} {fd : FuncData} {ps : List Str} {x f g : Str} {p pos : Pos} {e : Expr} {es : List Expr} {ta : TA}
/-- TA is monotone where it is a list of names: given apart -/
theorem pe_mk1 {i : Nat} (T : OexC X.K C) (N : XIni X.K C fI) (F : FnOk X.prog X.w X.K X.mg X.base CX0 k fI fd ps (spIni1 C f)) (hr : Room (k + 1) X.A) (hb : Binds X.K fd ps []) (hg : Gl X x) (hm : X.mg x = some (.ref C)) (ha : PE X e (tVar i))
    (hdb : (x == ("__debug__" : Str)) = false := by decide) (he : starEach [e] X.env = (false, eval e X.env) :: starEach [] X.env := by rfl) (hpl : (backTo pos (starEach [] X.env)).any (·.1) = false := by rfl) :
    PE X (.Call (.Name x p) [e] [] pos) (tMk1 C f (tCons (tVar i) tNil)) := by
  refine PE_imp (pe_mkV T N F hr hb hg hm (pa_cons ha pa_nil (hs := he)) hdb he hpl) fun σ H Q h => ?_
  obtain ⟨v, e0, v', e1, q⟩ := h
  cases e1
  refine ⟨v, e0, by show 1 ≤ 1000; decide, fun a na => ⟨a, v, rfl, upd_same, fun dx nx ne => ⟨rfl, q a _ (fun b o hb => ?_) ⟨dx, upd_same, by rw [upd_ne ne]; exact upd_same⟩⟩⟩⟩
  have hd : H dx = none := by
    rw [upd_ne ne] at nx
    exact nx
  rw [upd_ne (ne_of_none hb na), upd_ne (ne_of_none hb hd), upd_ne (ne_of_none hb na)]
  exact hb
theorem pe_mk2 {i j : Nat} {e' : Expr} (T : OexC X.K C) (N : XIni X.K C fI) (F : FnOk X.prog X.w X.K X.mg X.base CX0 k fI fd ps (spIni2 C f g)) (hr : Room (k + 1) X.A) (hb : Binds X.K fd ps []) (hg : Gl X x) (hm : X.mg x = some (.ref C)) (ha : PE X e (tVar i)) (ha' : PE X e' (tVar j))
    (hdb : (x == ("__debug__" : Str)) = false := by decide) (he : starEach [e, e'] X.env = (false, eval e X.env) :: starEach [e'] X.env := by rfl) (hpl : (backTo pos (starEach [e'] X.env)).any (·.1) = false := by rfl)
    (he2 : starEach [e'] X.env = (false, eval e' X.env) :: starEach [] X.env := by rfl) :
    PE X (.Call (.Name x p) [e, e'] [] pos) (tMk2 C f g (tCons (tVar i) (tCons (tVar j) tNil))) := by
  refine PE_imp (pe_mkV T N F hr hb hg hm (pa_cons ha (pa_cons ha' pa_nil (hs := he2)) (hs := he)) hdb he hpl) fun σ H Q h => ?_
  obtain ⟨v, e0, z, e1, v', z', e2, q⟩ := h
  cases e2
  refine ⟨v, e0, z, e1, by show 2 ≤ 1000; decide, fun a na => ⟨a, v, z, rfl, upd_same, fun dx H' nx ne keep h1 h2 _ => ⟨rfl, q a _ (fun b o hb => ?_) ⟨dx, h1, h2⟩⟩⟩⟩
  exact keep b o (ne_of_none hb na) (by rw [upd_ne (ne_of_none hb na)]; exact hb)
theorem pe_mk0 (T : OexC X.K C) (N : XIni X.K C fI) (F : FnOk X.prog X.w X.K X.mg X.base CX0 k fI fd ps spIni0) (hr : Room (k + 1) X.A) (hb : Binds X.K fd ps []) (hg : Gl X x) (hm : X.mg x = some (.ref C))
    (hdb : (x == ("__debug__" : Str)) = false := by decide) : PE X (.Call (.Name x p) [] [] pos) (tMk0 C) := by
  refine PE_imp (pe_mkV0 T N F hr hb hg hm hdb) fun σ H Q q => ?_
  refine ⟨by show 0 ≤ 1000; decide, fun a na => ⟨a, rfl, rfl, q a _ (fun b o hb => ?_) upd_same⟩⟩
  rw [upd_ne (ne_of_none hb na)]
  exact hb
end
end Pg

set_option Elab.async false
set_option linter.all false
set_option maxRecDepth 100000
set_option maxHeartbeats 4000000
namespace Pg
open PySem PySem.Spec PyProof.Rows L2
/-! ### what a form may ask of a value -/
inductive Th
  | non | bl (b : Bool) | int (i : Int) | str (x : Str) | lst | dic | obj | tup (ts : List Th)
inductive Kd | int | bool | str | tuple
def Kd.nm : Kd → String
  | .int => "int" | .bool => "bool" | .str => "str" | .tuple => "tuple"
def isT : Kd → Th → Bool
  | .int, .int _ => true
  | .int, .bl _ => true
  | .bool, .bl _ => true
  | .str, .str _ => true
  | .tuple, .tup _ => true
  | _, _ => false
mutual
inductive Tv (K : PySem.W.Frag) (H : Hp) : V → Th → Prop
  | non : Tv K H .non .non
  | bl (b : Bool) : Tv K H (.bl b) (.bl b)
  | int (i : Int) : Tv K H (.int i) (.int i)
  | str (x : Str) : Tv K H (.str x) (.str x)
  | lst {a : Addr} {xs : List V} (q : SqL K H a xs) : Tv K H (.ref a) .lst
  | dic {a : Addr} {kvs : List (Key × V)} (q : H a = some (.dK kvs)) : Tv K H (.ref a) .dic
  | obj {e C : Addr} {d : Option Addr} (h : H e = some (exo e C d)) (hd : ∀ z, d = some z → ∃ fs, H z = some (exd z fs)) (T : XCls K C) (f : ∀ k : Kd, PySem.W.kitOne K (.ref C) (.type k.nm) = some false) : Tv K H (.ref e) .obj
  | tup {a : Addr} {xs : List V} {ts : List Th} (q : SqT K H a xs) (l : xs.length ≤ 2000000) (r : Tvs K H xs ts) : Tv K H (.ref a) (.tup ts)
inductive Tvs (K : PySem.W.Frag) (H : Hp) : List V → List Th → Prop
  | nil : Tvs K H [] []
  | cons {v : V} {vs : List V} {d : Th} {ds : List Th} (h : Tv K H v d) (r : Tvs K H vs ds) : Tvs K H (v :: vs) (d :: ds)
end
mutual
theorem Tv.up {K : PySem.W.Frag} {H H' : Hp} (e : Same H H') : ∀ (d : Th) (v : V), Tv K H v d → Tv K H' v d
  | .non, _, h => by cases h; exact .non
  | .bl b, _, h => by cases h; exact .bl b
  | .int i, _, h => by cases h; exact .int i
  | .str x, _, h => by cases h; exact .str x
  | .lst, _, h => by
    cases h with
    | lst q => exact .lst (e.seq q)
  | .dic, _, h => by
    cases h with
    | dic q => exact .dic (e _ _ q)
  | .obj, _, h => by
    cases h with
    | obj h hd T f => exact .obj (e _ _ h) (fun z k => (hd z k).elim fun fs q => ⟨fs, e _ _ q⟩) T f
  | .tup ts, _, h => by
    cases h with
    | tup q l r => exact .tup (same_seqT e q) l (Tvs.up e ts _ r)
theorem Tvs.up {K : PySem.W.Frag} {H H' : Hp} (e : Same H H') : ∀ (ds : List Th) (vs : List V), Tvs K H vs ds → Tvs K H' vs ds
  | [], _, h => by cases h; exact .nil
  | d :: ds, _, h => by
    cases h with
    | cons h r => exact .cons (Tv.up e d _ h) (Tvs.up e ds _ r)
end
theorem Tvs.len {K : PySem.W.Frag} {H : Hp} : ∀ {vs : List V} {ds : List Th}, Tvs K H vs ds → vs.length = ds.length
  | _, _, .nil => rfl
  | _, _, .cons _ r => by rw [List.length_cons, List.length_cons, Tvs.len r]
theorem Tvs.at_ {K : PySem.W.Frag} {H : Hp} : ∀ (ds : List Th) (vs : List V) (i : Nat) (v : V), Tvs K H vs ds → vs[i]? = some v → ∃ d, ds[i]? = some d ∧ Tv K H v d
  | [], vs, i, v, h, e => by
    cases h
    cases e
  | d :: ds, vs, 0, v, h, e => by
    cases h with
    | cons h r => cases e; exact ⟨_, rfl, h⟩
  | d :: ds, vs, i + 1, v, h, e => by
    cases h with
    | cons h r =>
      rw [List.getElem?_cons_succ] at e
      exact Tvs.at_ ds _ i v r e
theorem Tvs.get {K : PySem.W.Frag} {H : Hp} {vs : List V} {ds : List Th} {i : Nat} {v : V} (h : Tvs K H vs ds) (e : vs[i]? = some v) : ∃ d, ds[i]? = some d ∧ Tv K H v d := Tvs.at_ ds vs i v h e
/-- isinstance(x, int), (x, bool), (x, str), (x, tuple) of anything -/
def rIst (K : PySem.W.Frag) : List V → Hp → VK → Prop := fun xs H Q => ∃ (x : V) (d : Th) (k : Kd), xs = [x, .ty k.nm] ∧ Tv K H x d ∧ Q (.bl (isT k d)) H
theorem call_ist {X : Cx} : CallR X (.builtin "isinstance") (rIst X.K) := by
  intro pins s σ H xs us Q I r h
  obtain ⟨x, d, k, rfl, hv, q⟩ := h
  have go : ∀ t : String, TyX X.K H x (.type t) → kitB t k.nm = some (isT k d) → wpAny (model X.prog X.w) X.A (call (.builtin "isinstance") us) (EP X pins σ Q) X.xe s := fun t ht hk =>
    call_isi pins s σ H _ us Q I r ⟨x, _, _, _, _, rfl, .ty _, ht, kit_ty hk, q⟩
  cases hv with
  | non => exact go "NoneType" (.base .non) (by cases k <;> decide +kernel)
  | bl b => exact go "bool" (.base (.bl b)) (by cases k <;> rfl)
  | int i => exact go "int" (.base (.int i)) (by cases k <;> rfl)
  | str z => exact go "str" (.base (.str z)) (by cases k <;> rfl)
  | lst p => exact go "list" (tyX_list p) (by cases k <;> decide +kernel)
  | dic p => exact go "dict" (.base (.dK p)) (by cases k <;> decide +kernel)
  | tup p _ _ => exact go "tuple" (tyX_tup p) (by cases k <;> rfl)
  | obj h hd T f =>
    have e : isT k .obj = false := by cases k <;> rfl
    rw [e] at q
    exact call_xi pins s σ H _ us Q I r ⟨_, _, _, _, _, _, rfl, h, hd, T, (fun u hu => hu), f k, q⟩
/-! ### order of integers, and of tuples of integers -/
inductive Uv (K : PySem.W.Frag) (H : Hp) : Bool → V → List Int → Prop
  | int (i : Int) : Uv K H false (.int i) [i]
  | tup {a : Addr} {ns : List Int} (q : SqT K H a (ns.map V.int)) : Uv K H true (.ref a) ns
def rLtU (K : PySem.W.Frag) : R2 := fun x y H Q => ∃ (k : Bool) (ns ms : List Int), Uv K H k x ns ∧ Uv K H k y ms ∧ Q (.bl (HT.lexLt ns ms)) H
def rGeU (K : PySem.W.Frag) : R2 := fun x y H Q => ∃ (k : Bool) (ns ms : List Int), Uv K H k x ns ∧ Uv K H k y ms ∧ ns.length = ms.length ∧ Q (.bl (!HT.lexLt ns ms)) H
theorem lexLt_one (i j : Int) : HT.lexLt [i] [j] = decide (i < j) := by
  by_cases h : i = j
  · subst h
    simp [HT.lexLt]
  · simp [HT.lexLt, h]
theorem op_ltU {X : Cx} (hu : X.A.units < cLine) : OpR X (compareOp .Lt) (rLtU X.K) := by
  intro pins s σ H x y v u Q I rx ry h
  obtain ⟨k, ns, ms, h1, h2, q⟩ := h
  cases h1 with
  | int i =>
    cases h2 with
    | int j => exact op_lt pins s σ H _ _ v u Q I rx ry ⟨i, j, rfl, rfl, by dsimp only; rw [← lexLt_one]; exact q⟩
  | tup p =>
    cases h2 with
    | tup p2 => exact op_ltT hu pins s σ H _ _ v u Q I rx ry ⟨_, _, ns, ms, rfl, rfl, p, p2, q⟩
theorem lexAt_ge : ∀ (ns ms : List Int) (e r : Nat → Bool) (z : Bool) (c : Nat), ns.length = ms.length → z = true →
    (∀ j (h1 : j < ns.length) (h2 : j < ms.length), e (c + j) = decide (ns[j] = ms[j])) → (∀ j (h1 : j < ns.length) (h2 : j < ms.length), r (c + j) = decide (ms[j] ≤ ns[j])) →
    Ob.lexAt e r z c ns.length = !HT.lexLt ns ms
  | [], [], _, _, _, _, _, hz, _, _ => by rw [hz]; rfl
  | n :: ns, m :: ms, e, r, z, c, hl, hz, he, hr => by
    rw [List.length_cons, Ob.lexAt_succ]
    have h0 := he 0 (by simp) (by simp)
    have h1 := hr 0 (by simp) (by simp)
    simp only [Nat.add_zero, List.getElem_cons_zero] at h0 h1
    by_cases k : n = m
    · rw [if_pos (by rw [h0]; exact decide_eq_true k), lexAt_ge ns ms e r z (c + 1) (by simpa using hl) hz (fun j a b => ?_) (fun j a b => ?_)]
      · subst k
        simp [HT.lexLt]
      · have := he (j + 1) (by simpa using a) (by simpa using b)
        rw [show c + 1 + j = c + (j + 1) by omega]
        simpa using this
      · have := hr (j + 1) (by simpa using a) (by simpa using b)
        rw [show c + 1 + j = c + (j + 1) by omega]
        simpa using this
    · rw [if_neg (by rw [h0]; simpa using k), h1]
      simp only [HT.lexLt, if_neg k]
      by_cases w : n < m
      · simp [w]
      · simp [w]
        omega
theorem op_geU {X : Cx} (hu : X.A.units < cLine) : OpR X (compareOp .GtE) (rGeU X.K) := by
  intro pins s σ H x y v u Q I rx ry h
  obtain ⟨k, ns, ms, h1, h2, hl, q⟩ := h
  cases h1 with
  | int i =>
    cases h2 with
    | int j =>
      refine op_ge pins s σ H _ _ v u Q I rx ry ⟨i, j, rfl, rfl, ?_⟩
      have e : (!HT.lexLt [i] [j]) = decide (j ≤ i) := by
        rw [lexLt_one]
        by_cases w : i < j
        · simp [w]
        · simp [w]
          omega
      dsimp only
      rw [← e]
      exact q
  | tup p =>
    cases h2 with
    | tup p2 =>
      cases rx; cases ry
      obtain ⟨us, r1, ⟨o1, g1, c1, n1, t1⟩, _⟩ := I.tuple p
      obtain ⟨vs, r2, ⟨o2, g2, c2, n2, t2⟩, _⟩ := I.tuple p2
      have i1 : IntsAre us ns := ints_of_vals r1
      have i2 : IntsAre vs ms := ints_of_vals r2
      have l1 : us.length = ns.length := by rw [← r1.length, List.length_map]
      have l2 : vs.length = ms.length := by rw [← r2.length, List.length_map]
      have at1 : ∀ j (a : j < us.length), ∃ t, us[j] = Value.int (ns[j]'(by omega)) t := fun j a => by
        obtain ⟨w, e1, e2⟩ := r1.get (i := j) (x := V.int (ns[j]'(by omega))) (by rw [List.getElem?_map, List.getElem?_eq_getElem (by omega)]; rfl)
        rw [List.getElem?_eq_getElem a] at e1
        cases e1
        exact e2
      have at2 : ∀ j (a : j < vs.length), ∃ t, vs[j] = Value.int (ms[j]'(by omega)) t := fun j a => by
        obtain ⟨w, e1, e2⟩ := r2.get (i := j) (x := V.int (ms[j]'(by omega))) (by rw [List.getElem?_map, List.getElem?_eq_getElem (by omega)]; rfl)
        rw [List.getElem?_eq_getElem a] at e1
        cases e1
        exact e2
      have main := Ob.RcOp.tuples_ge (A := X.A) (s := s) (e := fun j => ns.getD j 0 == ms.getD j 0) (r := fun j => decide (ms.getD j 0 ≤ ns.getD j 0)) ⟨o1, g1, c1, n1, t1⟩ ⟨o2, g2, c2, n2, t2⟩ hu (fun j a b => ?_) (fun j a b _ => ?_)
      · refine main X.prog X.w X.xe _ ?_
        have e : Ob.lexAt (fun j => ns.getD j 0 == ms.getD j 0) (fun j => decide (ms.getD j 0 ≤ ns.getD j 0)) (decide (us.toArray.size ≥ vs.toArray.size)) 0 (min us.toArray.size vs.toArray.size) = !HT.lexLt ns ms := by
          rw [show min us.toArray.size vs.toArray.size = ns.length by simp only [List.size_toArray]; omega]
          refine lexAt_ge ns ms _ _ _ 0 hl (decide_eq_true (by simp only [List.size_toArray]; omega)) (fun j a b => ?_) (fun j a b => ?_)
          · simp [List.getD, a, b]
            rfl
          · simp [List.getD, a, b]
        rw [e]
        exact ⟨.bl _, H, I, rfl, q⟩
      · obtain ⟨t, e1⟩ := at1 j (by simpa using a)
        obtain ⟨t', e2⟩ := at2 j (by simpa using b)
        simp only [List.getElem_toArray, e1, e2]
        have a' : j < ns.length := by simpa [l1] using a
        have b' : j < ms.length := by simpa [l2] using b
        simpa [List.getD, a', b'] using SeqAt.EqAt.int_int (A := X.A.in1) (s := s) ns[j] t ms[j] t'
      · obtain ⟨t, e1⟩ := at1 j (by simpa using a)
        obtain ⟨t', e2⟩ := at2 j (by simpa using b)
        simp only [List.getElem_toArray, e1, e2]
        have a' : j < ns.length := by simpa [l1] using a
        have b' : j < ms.length := by simpa [l2] using b
        simpa [List.getD, a', b'] using Ob.RcOp.ge_int (A := X.A.in1) (s := s) ns[j] ms[j] t t'
/-! ### == and != with [] or () -/
def SqB (K : PySem.W.Frag) (H : Hp) (k : Bool) (a : Addr) (xs : List V) : Prop := if k then SqT K H a xs else SqL K H a xs
def rNoE (K : PySem.W.Frag) (neg : Bool) : R2 := fun x y H Q => ∃ (k : Bool) (a b : Addr) (xs : List V), x = .ref a ∧ y = .ref b ∧ SqB K H k a xs ∧ SqB K H k b [] ∧ Q (.bl (xs.isEmpty != neg)) H
theorem op_eqE {X : Cx} (hu : X.A.units < cLine) : OpR X (compareOp .Eq) (rNoE X.K false) := by
  intro pins s σ H x y v u Q I rx ry h
  obtain ⟨k, a, b, xs, rfl, rfl, h1, h2, q⟩ := h
  cases rx; cases ry
  have fin : EP X pins σ Q (.bool xs.isEmpty) s := ⟨.bl _, H, I, rfl, by simpa using q⟩
  cases k with
  | true =>
    obtain ⟨us, r1, ⟨⟨c1, d1, t1, s1⟩, o1, e1, n1, k1⟩, _⟩ := I.tuple (show SqT X.K H a xs from h1)
    obtain ⟨vs, r2, ⟨⟨c2, d2, t2, s2⟩, o2, e2, n2, k2⟩, _⟩ := I.tuple (show SqT X.K H b [] from h2)
    simp only at e1 k1 e2 k2
    subst e1 k1 e2 k2
    cases r2
    have ta : s.TypeIs (.ref a) "tuple" := ⟨_, o1, rfl⟩
    have tb : s.TypeIs (.ref b) "tuple" := ⟨_, o2, rfl⟩
    refine wpAny_richCompare_same_room (op := .Eq) ta tb F.slot_tuple_eq (call_meets F.slot_tuple_eq ta F.entry_tuple_eq (F.args_tuple_eq_2 _ _) (SeqAt.tuple_eqAt a b us.toArray #[] n1 n2 d1 d2 s1 s2 (fun _ => true)) ⟨o1, o2, (fun j _ z => absurd z (by simp)), ?_⟩) hu
    refine ⟨(fun x => nomatch x), ?_⟩
    have e : ((List.range (min us.toArray.size (#[] : Array Value).size)).all (fun _ => true) && us.toArray.size == (#[] : Array Value).size) = xs.isEmpty := by
      have l1 := r1.length
      cases xs with
      | nil => cases r1; rfl
      | cons z zs => cases r1; simp
    rw [e]
    exact fin
  | false =>
    obtain ⟨us, r1, p1, _⟩ := I.list (show SqL X.K H a xs from h1)
    obtain ⟨⟨c1, d1, t1, s1⟩, o1, e1, n1, k1⟩ := p1.isList
    obtain ⟨vs, r2, p2, _⟩ := I.list (show SqL X.K H b [] from h2)
    obtain ⟨⟨c2, d2, t2, s2⟩, o2, e2, n2, k2⟩ := p2.isList
    simp only at e1 k1 e2 k2
    subst e1 k1 e2 k2
    cases r2
    have ta : s.TypeIs (.ref a) "list" := ⟨_, o1, rfl⟩
    have tb : s.TypeIs (.ref b) "list" := ⟨_, o2, rfl⟩
    cases xs with
    | nil =>
      cases r1
      refine wpAny_richCompare_same_room (op := .Eq) ta tb F.slot_list_eq (call_meets F.slot_list_eq ta F.entry_list_eq (F.args_list_eq_2 _ _) (SeqAt.list_eqAt a b #[] #[] n1 n2 d1 d2 s1 s2 rfl (fun _ => true)) ⟨o1, o2, (fun j _ z => absurd z (by simp)), ?_⟩) hu
      exact ⟨(fun x => nomatch x), fin⟩
    | cons z zs =>
      cases r1 with
      | @cons _ w _ ws _ _ =>
        refine wpAny_richCompare_same_room (op := .Eq) ta tb F.slot_list_eq (call_meets F.slot_list_eq ta F.entry_list_eq (F.args_list_eq_2 _ _) (SeqAt.list_eq_lengthsAt a b (w :: ws).toArray #[] n1 n2 d1 d2 s1 s2 (by simp)) ⟨o1, o2, ?_⟩) hu
        exact ⟨(fun x => nomatch x), fin⟩
theorem op_neE {X : Cx} (hu : X.A.units < cLine) : OpR X (compareOp .NotEq) (rNoE X.K true) := by
  intro pins s σ H x y v u Q I rx ry h
  obtain ⟨k, a, b, xs, rfl, rfl, h1, h2, q⟩ := h
  cases rx; cases ry
  have fin : EP X pins σ Q (.bool (!xs.isEmpty)) s := ⟨.bl _, H, I, rfl, by simpa using q⟩
  cases k with
  | true =>
    obtain ⟨us, r1, ⟨⟨c1, d1, t1, s1⟩, o1, e1, n1, k1⟩, _⟩ := I.tuple (show SqT X.K H a xs from h1)
    obtain ⟨vs, r2, ⟨⟨c2, d2, t2, s2⟩, o2, e2, n2, k2⟩, _⟩ := I.tuple (show SqT X.K H b [] from h2)
    simp only at e1 k1 e2 k2
    subst e1 k1 e2 k2
    cases r2
    have ta : s.TypeIs (.ref a) "tuple" := ⟨_, o1, rfl⟩
    have tb : s.TypeIs (.ref b) "tuple" := ⟨_, o2, rfl⟩
    refine wpAny_richCompare_same_room (op := .NotEq) ta tb F.slot_tuple_ne (call_meets F.slot_tuple_ne ta F.entry_tuple_ne (F.args_tuple_ne_2 _ _) (SeqAt.tuple_neAt a b us.toArray #[] n1 n2 d1 d2 s1 s2 (fun _ => true)) ⟨o1, o2, (fun j _ z => absurd z (by simp)), ?_⟩) hu
    refine ⟨(fun x => nomatch x), ?_⟩
    have e : (!((List.range (min us.toArray.size (#[] : Array Value).size)).all (fun _ => true) && us.toArray.size == (#[] : Array Value).size)) = !xs.isEmpty := by
      cases xs with
      | nil => cases r1; rfl
      | cons z zs => cases r1; simp
    rw [e]
    exact fin
  | false =>
    obtain ⟨us, r1, p1, _⟩ := I.list (show SqL X.K H a xs from h1)
    obtain ⟨⟨c1, d1, t1, s1⟩, o1, e1, n1, k1⟩ := p1.isList
    obtain ⟨vs, r2, p2, _⟩ := I.list (show SqL X.K H b [] from h2)
    obtain ⟨⟨c2, d2, t2, s2⟩, o2, e2, n2, k2⟩ := p2.isList
    simp only at e1 k1 e2 k2
    subst e1 k1 e2 k2
    cases r2
    have ta : s.TypeIs (.ref a) "list" := ⟨_, o1, rfl⟩
    have tb : s.TypeIs (.ref b) "list" := ⟨_, o2, rfl⟩
    cases xs with
    | nil =>
      cases r1
      refine wpAny_richCompare_same_room (op := .NotEq) ta tb F.slot_list_ne (call_meets F.slot_list_ne ta F.entry_list_ne (F.args_list_ne_2 _ _) (SeqAt.list_neAt a b #[] #[] n1 n2 d1 d2 s1 s2 rfl (fun _ => true)) ⟨o1, o2, (fun j _ z => absurd z (by simp)), ?_⟩) hu
      exact ⟨(fun x => nomatch x), fin⟩
    | cons z zs =>
      cases r1 with
      | @cons _ w _ ws _ _ =>
        refine wpAny_richCompare_same_room (op := .NotEq) ta tb F.slot_list_ne (call_meets F.slot_list_ne ta F.entry_list_ne (F.args_list_ne_2 _ _) (SeqAt.list_ne_lengthsAt a b (w :: ws).toArray #[] n1 n2 d1 d2 s1 s2 (by simp)) ⟨o1, o2, ?_⟩) hu
        exact ⟨(fun x => nomatch x), fin⟩
end Pg

set_option Elab.async false
set_option linter.all false
set_option maxRecDepth 100000
set_option maxHeartbeats 4000000
namespace Pg
open PySem PySem.Spec PyProof.Rows L2
/-! ### comprehensions whose parts leave what stood -/
theorem same_newK {H H1 : Hp} {p : Addr} {o : HO} (s : Same H H1) (np : H1 p = none) : Same H (upd H1 p o) := fun b u e => by
  rw [upd_ne (ne_of_none (s b u e) np)]
  exact s b u e
theorem same_at {H H1 : Hp} {p : Addr} {o : HO} (s : Same H H1) (np : H p = none) : Same H (upd H1 p o) := fun b u e => by
  rw [upd_ne (ne_of_none e np)]
  exact s b u e
theorem lc_map {J : It} {n : Nat} {xv rv : Nat → V} {σ : L2.St} {vs : List Nat} {j : Nat} {te : TE} {H : Hp} {Qd : Addr → Hp → Prop} (few : n ≤ 3000000)
    (hgo : ∀ i H', i < n → Same H H' → J.go i H') (hst : ∀ H', Same H H' → J.stop n H') (hy : ∀ i x H' H'', i < n → Same H H' → J.yld i H' x H'' → H'' = H' ∧ x = xv i)
    (hw : ∀ x, wipe ((wipe σ vs).set j (some x)) vs = wipe σ vs)
    (step : ∀ i H' Q, i < n → Same H H' → (∀ H'', Same H' H'' → Q (rv i) H'') → te ((wipe σ vs).set j (some (xv i))) H' Q)
    (fin : ∀ D H', H D = none → Same H H' → H' D = some (.lst ((List.range n).map rv)) → Qd D H') :
    ∀ D, H D = none → ∃ W : Nat → Nat → Hp → Prop, (∃ m, W 0 m (upd H D (.lst []))) ∧ ∀ i m G, W i m G → (J.stop i G ∧ Qd D G) ∨ (J.go i G ∧ ∃ Nx : Hp → Prop, (∀ G', Nx G' → ∃ m', m' < m ∧ W (i + 1) m' G') ∧ ∀ x G', J.yld i G x G' → gName j x (wipe σ vs) G' fun σ2 G2 => wipe σ2 vs = wipe σ vs ∧ tYes σ2 G2 fun b G3 => if b = true then te σ2 G3 fun y G4 => ∃ acc, G4 D = some (.lst acc) ∧ acc.length < sizeLine ∧ Nx (upd G4 D (.lst (acc ++ [y]))) else Nx G3) := fun D nD => by
  refine ⟨fun i m G => i + m = n ∧ Same H G ∧ G D = some (.lst ((List.range i).map rv)), ⟨n, by omega, same_at (Same.refl H) nD, upd_same⟩, fun i m G hW => ?_⟩
  obtain ⟨h1, h2, h3⟩ := hW
  cases m with
  | zero =>
    have e : i = n := by omega
    subst e
    exact .inl ⟨hst G h2, fin D G nD h2 h3⟩
  | succ m =>
    have hi : i < n := by omega
    refine .inr ⟨hgo i G hi h2, fun G' => Same H G' ∧ G' D = some (.lst ((List.range (i + 1)).map rv)), fun G' hN => ⟨m, by omega, by omega, hN.1, hN.2⟩, fun x G' hx => ?_⟩
    obtain ⟨rfl, rfl⟩ := hy i x G G' hi h2 hx
    refine ⟨hw _, ?_⟩
    show te _ _ _
    refine step i G' _ hi h2 fun H'' h4 => ⟨_, h4 _ _ h3, ?_, ?_, ?_⟩
    · rw [List.length_map, List.length_range, sizeLine_eq]
      omega
    · exact same_at (fun b o e => h4 b o (h2 b o e)) nD
    · rw [upd_same, List.range_succ, List.map_append]
      rfl
theorem lc_sieve {J : It} {n : Nat} {xv : Nat → V} {bad : Nat → Bool} {σ : L2.St} {vs : List Nat} {j : Nat} {tt : TT} {te : TE} {H : Hp} {Qd : Addr → Hp → Prop} (few : n ≤ 3000000)
    (hgo : ∀ i H', i < n → Same H H' → J.go i H') (hst : ∀ H', Same H H' → J.stop n H') (hy : ∀ i x H' H'', i < n → Same H H' → J.yld i H' x H'' → H'' = H' ∧ x = xv i)
    (hw : ∀ x, wipe ((wipe σ vs).set j (some x)) vs = wipe σ vs)
    (step : ∀ i H' (Q : Bool → Hp → Prop), i < n → Same H H' → (∀ H'', Same H' H'' → Q (bad i) H'') → tt ((wipe σ vs).set j (some (xv i))) H' Q)
    (elt : ∀ i H' Q, i < n → Same H H' → Q (xv i) H' → te ((wipe σ vs).set j (some (xv i))) H' Q)
    (fin : ∀ D H' acc, H D = none → Same H H' → H' D = some (.lst acc) → (acc.isEmpty = (List.range n).all fun i => !bad i) → Qd D H') :
    ∀ D, H D = none → ∃ W : Nat → Nat → Hp → Prop, (∃ m, W 0 m (upd H D (.lst []))) ∧ ∀ i m G, W i m G → (J.stop i G ∧ Qd D G) ∨ (J.go i G ∧ ∃ Nx : Hp → Prop, (∀ G', Nx G' → ∃ m', m' < m ∧ W (i + 1) m' G') ∧ ∀ x G', J.yld i G x G' → gName j x (wipe σ vs) G' fun σ2 G2 => wipe σ2 vs = wipe σ vs ∧ tt σ2 G2 fun b G3 => if b = true then te σ2 G3 fun y G4 => ∃ acc, G4 D = some (.lst acc) ∧ acc.length < sizeLine ∧ Nx (upd G4 D (.lst (acc ++ [y]))) else Nx G3) := fun D nD => by
  refine ⟨fun i m G => i + m = n ∧ Same H G ∧ ∃ acc, G D = some (.lst acc) ∧ acc.length ≤ i ∧ acc.isEmpty = (List.range i).all fun i => !bad i, ⟨n, by omega, same_at (Same.refl H) nD, [], upd_same, Nat.le_refl _, rfl⟩, fun i m G hW => ?_⟩
  obtain ⟨h1, h2, acc, h3, h5, h6⟩ := hW
  cases m with
  | zero =>
    have e : i = n := by omega
    subst e
    exact .inl ⟨hst G h2, fin D G acc nD h2 h3 h6⟩
  | succ m =>
    have hi : i < n := by omega
    refine .inr ⟨hgo i G hi h2, fun G' => Same H G' ∧ ∃ acc, G' D = some (.lst acc) ∧ acc.length ≤ i + 1 ∧ acc.isEmpty = (List.range (i + 1)).all fun i => !bad i, fun G' hN => ⟨m, by omega, by omega, hN.1, hN.2⟩, fun x G' hx => ?_⟩
    obtain ⟨rfl, rfl⟩ := hy i x G G' hi h2 hx
    refine ⟨hw _, step i G' _ hi h2 fun H'' h4 => ?_⟩
    have h8 : Same H H'' := fun b o e => h4 b o (h2 b o e)
    cases hb : bad i with
    | true =>
      rw [if_pos rfl]
      refine elt i H'' _ hi h8 ⟨acc, h4 _ _ h3, ?_, same_at h8 nD, _, upd_same, by simpa using h5, ?_⟩
      · rw [sizeLine_eq]
        omega
      · rw [List.range_succ, List.all_append]
        simp [hb]
    | false =>
      rw [if_neg (by simp)]
      refine ⟨h8, acc, h4 _ _ h3, by omega, ?_⟩
      rw [List.range_succ, List.all_append, h6]
      simp [hb]
section
variable {K : PySem.W.Frag} {H : Hp} {a : Addr} {xs : List V}
theorem itt_go (h : SqT K H a xs) : ∀ i H', i < xs.length → Same H H' → (Itt K a).go i H' := fun i H' hi s => ⟨xs, xs[i], same_seqT s h, List.getElem?_eq_getElem hi⟩
theorem itt_stop (h : SqT K H a xs) : ∀ H', Same H H' → (Itt K a).stop xs.length H' := fun H' s => ⟨xs, same_seqT s h, Nat.le_refl _⟩
theorem itt_yld (h : SqT K H a xs) : ∀ i x H' H'', i < xs.length → Same H H' → (Itt K a).yld i H' x H'' → H'' = H' ∧ x = xs.getD i .non := fun i x H' H'' hi s y =>
  ⟨y.1, by
    have := y.2 xs (same_seqT s h)
    rw [List.getD_eq_getElem?_getD, this]
    rfl⟩
end
theorem itr_go {lo : Int} {n : Nat} {H : Hp} : ∀ i H', i < n → Same H H' → (Itr lo n).go i H' := fun i H' hi _ => hi
theorem itr_stop {lo : Int} {n : Nat} {H : Hp} : ∀ H', Same H H' → (Itr lo n).stop n H' := fun _ _ => Nat.le_refl _
theorem itr_yld {lo : Int} {n : Nat} {H : Hp} : ∀ i x H' H'', i < n → Same H H' → (Itr lo n).yld i H' x H'' → H'' = H' ∧ x = .int (lo + i) := fun i x H' H'' _ _ y => y

/-! ### the forms, as functions -/
def isInt : Th → Bool
  | .int _ => true
  | _ => false
def isNat : Th → Bool
  | .int i => decide (0 ≤ i)
  | _ => false
def isRow (n : Nat) : Th → Bool
  | .tup ts => ts.length == n
  | _ => false
def key1 : Th → List Int
  | .int i => [i]
  | _ => []
def key2 : Th → List Int
  | .tup [.int a, .int b] => [a, b]
  | _ => []
def asc (ks : List (List Int)) : Bool := (List.range (ks.length - 1)).all fun i => HT.lexLt (ks.getD i []) (ks.getD (i + 1) [])
def isLot : Th → Bool
  | .tup ts => ts.all isNat && asc (ts.map key1)
  | _ => false
def emp : Th → Bool
  | .tup ts => ts.isEmpty
  | _ => false
def isSome : Th → Bool := fun d => isLot d && !emp d
def isPair : Th → Bool
  | .tup [a, b] => isNat a && isNat b
  | _ => false
def isPairs : Th → Bool
  | .tup ts => ts.all isPair && asc (ts.map key2)
  | _ => false
def isTicket : Th → Bool
  | .tup [a, b] => isSome a && isNat b
  | _ => false
def isCell : Th → Bool
  | .tup [c, .str x, p, r] => isInt c && isPairs p && isPairs r && (if x = ("common" : Str) then !emp p && emp r else decide (x = ("own" : Str)) && (!emp p || !emp r))
  | _ => false
/-- a function that asks f of anything -/
def spF (K : PySem.W.Frag) (f : Th → Bool) : Sp := fun vs H Q _ => ∃ v d, vs = [v] ∧ Tv K H v d ∧ ∀ H', Same H H' → Q (.bl (f d)) H'
def spRow (K : PySem.W.Frag) : Sp := fun vs H Q _ => ∃ v d, ∃ n : Nat, vs = [v, .int n] ∧ Tv K H v d ∧ Q (.bl (isRow n d)) H
/-- ascends: of a tuple of integers, or of tuples of integers -/
def spAsc (K : PySem.W.Frag) : Sp := fun vs H Q _ => ∃ (a : Addr) (xs : List V) (k : Bool) (ks : List (List Int)), vs = [.ref a] ∧ SqT K H a xs ∧ xs.length ≤ 2000000 ∧ ks.length = xs.length ∧ (∀ i x, xs[i]? = some x → Uv K H k x (ks.getD i [])) ∧ ∀ H', Same H H' → Q (.bl (asc ks)) H'
theorem Uv.up {K : PySem.W.Frag} {H H' : Hp} (s : Same H H') {k : Bool} {x : V} {ns : List Int} (h : Uv K H k x ns) : Uv K H' k x ns := by
  cases h with
  | int i => exact .int i
  | tup q => exact .tup (same_seqT s q)
theorem uv1 {K : PySem.W.Frag} {H : Hp} {x : V} {d : Th} (h : Tv K H x d) (hn : isNat d = true) : Uv K H false x (key1 d) := by
  cases h with
  | int i => exact .int i
  | _ => cases hn
theorem uv2 {K : PySem.W.Frag} {H : Hp} {x : V} {d : Th} (h : Tv K H x d) (hn : isPair d = true) : Uv K H true x (key2 d) := by
  cases h with
  | tup q l r =>
    cases r with
    | nil => cases hn
    | cons h1 r =>
      cases r with
      | nil => cases hn
      | cons h2 r =>
        cases r with
        | cons => cases hn
        | nil =>
          simp only [isPair, Bool.and_eq_true] at hn
          cases h1 with
          | int i =>
            cases h2 with
            | int j => exact .tup q
            | _ => cases hn.2
          | _ => cases hn.1
  | _ => cases hn
theorem Tvs.getD_ {K : PySem.W.Frag} {H : Hp} {xs : List V} {ts : List Th} (h : Tvs K H xs ts) {i : Nat} (hi : i < xs.length) : Tv K H (xs.getD i .non) (ts.getD i .non) := by
  obtain ⟨d, e, hd⟩ := h.get (List.getElem?_eq_getElem hi)
  rw [List.getD_eq_getElem?_getD, List.getD_eq_getElem?_getD, e, List.getElem?_eq_getElem hi]
  exact hd
theorem all_range_getD (ts : List Th) (f : Th → Bool) : ((List.range ts.length).all fun i => f (ts.getD i .non)) = ts.all f := by
  rw [Bool.eq_iff_iff, List.all_eq_true, List.all_eq_true]
  constructor
  · intro h x hx
    obtain ⟨i, hi, e⟩ := List.getElem_of_mem hx
    have := h i (List.mem_range.mpr hi)
    rw [List.getD_eq_getElem?_getD, List.getElem?_eq_getElem hi, e] at this
    exact this
  · intro h i hi
    have hi' := List.mem_range.mp hi
    rw [List.getD_eq_getElem?_getD, List.getElem?_eq_getElem hi']
    exact h _ (List.getElem_mem hi')
theorem getD_map_keys {K : PySem.W.Frag} {H : Hp} {xs : List V} {ts : List Th} {f : Th → Bool} {key : Th → List Int} {k : Bool} (r : Tvs K H xs ts) (ha : ts.all f = true) (hk : ∀ x d, Tv K H x d → f d = true → Uv K H k x (key d)) :
    ∀ i x, xs[i]? = some x → Uv K H k x ((ts.map key).getD i []) := fun i x e => by
  obtain ⟨d, e1, hd⟩ := r.get e
  have := List.all_eq_true.mp ha d (List.mem_of_getElem? e1)
  rw [List.getD_eq_getElem?_getD, List.getElem?_map, e1]
  exact hk x d hd this
theorem row_two {K : PySem.W.Frag} {H : Hp} {v : V} {d : Th} (h : Tv K H v d) (c : isRow 2 d = true) : ∃ a x y dx dy, v = .ref a ∧ d = .tup [dx, dy] ∧ SqT K H a [x, y] ∧ Tv K H x dx ∧ Tv K H y dy := by
  cases h with
  | tup q l r =>
    cases r with
    | nil => cases c
    | cons h1 r =>
      cases r with
      | nil => cases c
      | cons h2 r =>
        cases r with
        | cons => cases c
        | nil => exact ⟨_, _, _, _, _, rfl, rfl, q, h1, h2⟩
  | _ => cases c
theorem row_four {K : PySem.W.Frag} {H : Hp} {v : V} {d : Th} (h : Tv K H v d) (c : isRow 4 d = true) : ∃ a x y z u dx dy dz du, v = .ref a ∧ d = .tup [dx, dy, dz, du] ∧ SqT K H a [x, y, z, u] ∧ Tv K H x dx ∧ Tv K H y dy ∧ Tv K H z dz ∧ Tv K H u du := by
  cases h with
  | tup q l r =>
    cases r with
    | nil => cases c
    | cons h1 r =>
      cases r with
      | nil => cases c
      | cons h2 r =>
        cases r with
        | nil => cases c
        | cons h3 r =>
          cases r with
          | nil => cases c
          | cons h4 r =>
            cases r with
            | cons => cases c
            | nil => exact ⟨_, _, _, _, _, _, _, _, _, rfl, rfl, q, h1, h2, h3, h4⟩
  | _ => cases c
theorem row_not {n : Nat} {ts : List Th} (c : isRow n (.tup ts) = false) : ts.length ≠ n := fun e => by
  simp [isRow, e] at c
end Pg

set_option Elab.async false
set_option linter.all false
set_option maxRecDepth 100000
set_option maxHeartbeats 4000000
namespace K01
open PySem PySem.Spec PyProof.Rows L2 Pg
def topS (i : Nat) : Stmt := PySem.Challenge.pw_pagesworn_k01_forms_of_any_value.main.body.getD i (.Pass ⟨0, 0, 0, 0⟩)
abbrev sInt : Stmt := topS 6
abbrev sNum : Stmt := topS 7
abbrev sRow : Stmt := topS 8
abbrev sAsc : Stmt := topS 9
abbrev sLot : Stmt := topS 10
abbrev sSomeLot : Stmt := topS 11
abbrev sPair : Stmt := topS 12
abbrev sPlace : Stmt := topS 13
abbrev sPairs : Stmt := topS 14
abbrev sTicket : Stmt := topS 15
abbrev sCell : Stmt := topS 16
theorem scInt : FnScope ["thing"] ["thing"] (defScope sInt) := ⟨rfl, rfl, rfl, by decide +kernel, rfl, by decide +kernel, by decide +kernel⟩
theorem scNum : FnScope ["thing"] ["thing"] (defScope sNum) := ⟨rfl, rfl, rfl, by decide +kernel, rfl, by decide +kernel, by decide +kernel⟩
theorem scRow : FnScope ["thing", "many"] ["thing", "many"] (defScope sRow) := ⟨rfl, rfl, rfl, by decide +kernel, rfl, by decide +kernel, by decide +kernel⟩
theorem scAsc : FnScope ["things", "index"] ["things"] (defScope sAsc) := ⟨rfl, rfl, rfl, by decide +kernel, rfl, by decide +kernel, by decide +kernel⟩
theorem scLot : FnScope ["thing", "item"] ["thing"] (defScope sLot) := ⟨rfl, rfl, rfl, by decide +kernel, rfl, by decide +kernel, by decide +kernel⟩
theorem scSomeLot : FnScope ["thing"] ["thing"] (defScope sSomeLot) := ⟨rfl, rfl, rfl, by decide +kernel, rfl, by decide +kernel, by decide +kernel⟩
theorem scPair : FnScope ["thing"] ["thing"] (defScope sPair) := ⟨rfl, rfl, rfl, by decide +kernel, rfl, by decide +kernel, by decide +kernel⟩
theorem scPlace : FnScope ["thing"] ["thing"] (defScope sPlace) := ⟨rfl, rfl, rfl, by decide +kernel, rfl, by decide +kernel, by decide +kernel⟩
theorem scPairs : FnScope ["thing", "item"] ["thing"] (defScope sPairs) := ⟨rfl, rfl, rfl, by decide +kernel, rfl, by decide +kernel, by decide +kernel⟩
theorem scTicket : FnScope ["thing"] ["thing"] (defScope sTicket) := ⟨rfl, rfl, rfl, by decide +kernel, rfl, by decide +kernel, by decide +kernel⟩
theorem scCell : FnScope ["thing", "sort", "places", "readers"] ["thing"] (defScope sCell) := ⟨rfl, rfl, rfl, by decide +kernel, rfl, by decide +kernel, by decide +kernel⟩
section
variable {P : Program} {w : World} {K : PySem.W.Frag} {mg : Str → Option Value} {base : Heap}
theorem tvRef {H : Hp} {v : V} {ts : List Th} (h : Tv K H v (.tup ts)) : ∃ a xs, v = .ref a ∧ SqT K H a xs ∧ xs.length ≤ 2000000 ∧ Tvs K H xs ts := by
  cases h with
  | tup q l r => exact ⟨_, _, rfl, q, l, r⟩
theorem okInt {f : Addr} {fd : FuncData} {k : Nat} (F : Fun K "is_integer" "is_integer" sInt f fd) (mi : mg "isinstance" = none) (mn : mg "int" = none) (mb : mg "bool" = none) : FnOk P w K mg base CX0 (k + 1) f fd ["thing"] (spF K isInt) := by
  refine F.ok scInt (fun vs H Q E h => ?_) (fun cdv A outer s H vs Q E hr h => ?_)
  · obtain ⟨a, _, rfl, _⟩ := h
    rfl
  · obtain ⟨v, d, rfl, hv, q⟩ := h
    refine ⟨_, pss_one (ps_ret (pe_and (pe_callB call_ist (by rfl) mi (by decide +kernel) (pa_cons (pv 0) (pa_cons (pe_bltn (v := .ty "int") (by rfl) mn (by decide +kernel) rfl) pa_nil)))
      (pe_one (pe_not (pe_callB call_ist (by rfl) mi (by decide +kernel) (pa_cons (pv 0) (pa_cons (pe_bltn (v := .ty "bool") (by rfl) mb (by decide +kernel) rfl) pa_nil))))))), ?_⟩
    refine ⟨v, rfl, v, d, .int, rfl, hv, _, rfl, ?_⟩
    have q' := q H (Same.refl H)
    cases e : isT .int d with
    | false =>
      rw [if_neg (by simp)]
      have : isInt d = false := by cases d <;> first | rfl | cases e
      rw [this] at q'
      exact q'
    | true =>
      rw [if_pos rfl]
      refine ⟨v, rfl, v, d, .bool, rfl, hv, _, rfl, ?_⟩
      have : (!isT .bool d) = isInt d := by cases d <;> first | rfl | cases e
      rw [this]
      exact q'
theorem okNum {f fI : Addr} {fd fdI : FuncData} {k : Nat} (F : Fun K "is_number" "is_number" sNum f fd) (G : FnOk P w K mg base CX0 k fI fdI ["thing"] (spF K isInt)) (b : Binds K fdI ["thing"] []) (g : mg "is_integer" = some (.ref fI)) (kp : PySem.W.keepIn K (.ref fI) = true) :
    FnOk P w K mg base CX0 (k + 1) f fd ["thing"] (spF K isNat) := by
  refine F.ok scNum (fun vs H Q E h => ?_) (fun cdv A outer s H vs Q E hr h => ?_)
  · obtain ⟨a, _, rfl, _⟩ := h
    rfl
  · obtain ⟨v, d, rfl, hv, q⟩ := h
    refine ⟨_, pss_one (ps_ret (pe_and (pe_call G hr (by rfl) g kp b .nil pass0 (pa_cons (pv 0) pa_nil)) (pe_one (pe_cmpR op_ge (pv 0) pe_int (nomark _))))), ?_⟩
    refine ⟨v, rfl, v, d, rfl, hv, fun H' s => ⟨_, rfl, ?_⟩⟩
    have q' := q H' s
    cases hv with
    | int i => exact ⟨.int i, rfl, i, 0, rfl, rfl, q'⟩
    | _ => exact q'
theorem okRow {f : Addr} {fd : FuncData} {k : Nat} (F : Fun K "is_row" "is_row" sRow f fd) (mi : mg "isinstance" = none) (mt : mg "tuple" = none) (ml : mg "len" = none) : FnOk P w K mg base CX0 (k + 1) f fd ["thing", "many"] (spRow K) := by
  refine F.ok scRow (fun vs H Q E h => ?_) (fun cdv A outer s H vs Q E hr h => ?_)
  · obtain ⟨a, _, _, rfl, _⟩ := h
    rfl
  · obtain ⟨v, d, n, rfl, hv, q⟩ := h
    refine ⟨_, pss_one (ps_ret (pe_and (pe_callB call_ist (by rfl) mi (by decide +kernel) (pa_cons (pv 0) (pa_cons (pe_bltn (v := .ty "tuple") (by rfl) mt (by decide +kernel) rfl) pa_nil)))
      (pe_one (pe_cmpR op_eq (pe_callB call_len_seq (by rfl) ml PySem.boot_len (pa_cons (pv 0) pa_nil)) (pv 1) (nomark _))))), ?_⟩
    refine ⟨v, rfl, v, d, .tuple, rfl, hv, _, rfl, ?_⟩
    cases hv with
    | @tup a xs ts p l r =>
      refine ⟨_, rfl, a, xs, rfl, .inr p, .int n, rfl, rfl, ?_⟩
      have e : decide (V.int ↑xs.length = V.int ↑n) = isRow n (.tup ts) := by
        rw [r.len]
        simp only [isRow, V.int.injEq, Int.natCast_inj]
        by_cases k : ts.length = n <;> simp [k]
      rw [e]
      exact q
    | _ => exact q
theorem okAsc {f : Addr} {fd : FuncData} {k : Nat} (F : Fun K "ascends" "ascends" sAsc f fd) (ma : mg "all" = none) (ml : mg "len" = none) (mr : mg "range" = none) : FnOk P w K mg base CX0 (k + 1) f fd ["things"] (spAsc K) := by
  refine F.ok scAsc (fun vs H Q E h => ?_) (fun cdv A outer s H vs Q E hr h => ?_)
  · obtain ⟨a, _, _, _, rfl, _⟩ := h
    rfl
  · obtain ⟨a, xs, kk, ks, rfl, hx, few, hl, hu, q⟩ := h
    refine ⟨_, pss_one (ps_ret (pe_callB (cr_all rfl) (by rfl) ma (by decide +kernel) (pa_cons
      (pe_lc (own := [("index", 1)]) (g := gName 1) (tt := tYes) rfl scAsc.nd (pi_range1 (by rfl) mr (pa_cons (pe_op op_sub (pe_callB call_len_seq (by rfl) ml PySem.boot_len (pa_cons (pv 0) pa_nil)) pe_int) pa_nil))
        (blkOk_by (N := ["things", "index"]) (sc := defScope sAsc) (by decide +kernel)) (fun _ _ _ _ _ => pg_name (i := 1) scAsc.nd rfl (Or.inl rfl)) (fun _ _ _ _ _ => pts_nil)
        (fun _ _ _ _ _ => pe_cmpR (op_ltU (Nat.lt_of_le_of_lt (Nat.le_add_right _ 64) hr.units) : OpR _ _ (rLtU K)) (pe_ix (ix_tup : IxR _ (rIxT K)) (pv 0) (pv 1) (fun _ _ => rfl)) (pe_ix (ix_tup : IxR _ (rIxT K)) (pv 0) (pe_op op_add (pv 1) pe_int) (fun _ _ => rfl)) (nomark _))) pa_nil))), ?_⟩
    refine ⟨.ref a, rfl, a, xs, rfl, .inr hx, _, _, rfl, rfl, _, rfl, by omega, by omega, ?_⟩
    refine lc_map (xv := fun i => .int (0 + (i : Int))) (rv := fun i => .bl (HT.lexLt (ks.getD i []) (ks.getD (i + 1) []))) (by omega) itr_go itr_stop itr_yld (fun _ => rfl) (fun i H' Q' hi s hq => ?_) (fun D H' nD s hD => ?_)
    · have h1 : i < xs.length := by omega
      have h2 : i + 1 < xs.length := by omega
      refine ⟨.ref a, rfl, .int (0 + (i : Int)), rfl, a, xs, _, xs[i], rfl, rfl, same_seqT s hx, at_of (by omega) (List.getElem?_eq_getElem h1), .ref a, rfl, .int (0 + (i : Int)), rfl, _, _, rfl, rfl, a, xs, _, xs[i + 1], rfl, rfl, same_seqT s hx, at_of (by omega) (List.getElem?_eq_getElem h2), ?_⟩
      exact ⟨kk, _, _, (hu i _ (List.getElem?_eq_getElem h1)).up s, (hu (i + 1) _ (List.getElem?_eq_getElem h2)).up s, hq H' (Same.refl H')⟩
    · refine ⟨D, (List.range ((xs.length : Int) - 1).toNat).map fun i => HT.lexLt (ks.getD i []) (ks.getD (i + 1) []), rfl, SqL.of ?_, ?_⟩
      · rw [hD, List.map_map]
        rfl
      · have e : ((List.range ((xs.length : Int) - 1).toNat).map fun i => HT.lexLt (ks.getD i []) (ks.getD (i + 1) [])).all id = asc ks := by
          rw [List.all_map, show ((xs.length : Int) - 1).toNat = ks.length - 1 by omega]
          rfl
        rw [e]
        exact q H' s
theorem okLot {f fN fA : Addr} {fd fdN fdA : FuncData} {k : Nat} (F : Fun K "is_lot" "is_lot" sLot f fd) (G : FnOk P w K mg base CX0 k fN fdN ["thing"] (spF K isNat)) (b : Binds K fdN ["thing"] []) (g : mg "is_number" = some (.ref fN)) (kp : PySem.W.keepIn K (.ref fN) = true)
    (GA : FnOk P w K mg base CX0 k fA fdA ["things"] (spAsc K)) (bA : Binds K fdA ["things"] []) (gA : mg "ascends" = some (.ref fA)) (kA : PySem.W.keepIn K (.ref fA) = true)
    (mi : mg "isinstance" = none) (mt : mg "tuple" = none) (ma : mg "all" = none) : FnOk P w K mg base CX0 (k + 1) f fd ["thing"] (spF K isLot) := by
  refine F.ok scLot (fun vs H Q E h => ?_) (fun cdv A outer s H vs Q E hr h => ?_)
  · obtain ⟨a, _, rfl, _⟩ := h
    rfl
  · obtain ⟨v, d, rfl, hv, q⟩ := h
    refine ⟨_, pss_one (ps_ret (pe_and (pe_callB call_ist (by rfl) mi (by decide +kernel) (pa_cons (pv 0) (pa_cons (pe_bltn (v := .ty "tuple") (by rfl) mt (by decide +kernel) rfl) pa_nil)))
      (pe_and (pe_callB (cr_all rfl) (by rfl) ma (by decide +kernel) (pa_cons
        (pe_lc (own := [("item", 1)]) (g := gName 1) (tt := tYes) rfl scLot.nd (pi_tup (pv 0)) (blkOk_by (N := ["thing", "item"]) (sc := defScope sLot) (by decide +kernel)) (fun _ _ _ _ _ => pg_name (i := 1) scLot.nd rfl (Or.inl rfl)) (fun _ _ _ _ _ => pts_nil)
          (fun _ _ _ _ _ => pe_call G hr (by rfl) g kp b .nil pass0 (pa_cons (pv 1) pa_nil))) pa_nil))
      (pe_one (pe_call GA hr (by rfl) gA kA bA .nil pass0 (pa_cons (pv 0) pa_nil)))))), ?_⟩
    refine ⟨v, rfl, v, d, .tuple, rfl, hv, _, rfl, ?_⟩
    cases hv with
    | @tup a xs ts p l r =>
      refine ⟨.ref a, rfl, a, rfl, ⟨xs, p⟩, lc_map (n := xs.length) (xv := fun i => xs.getD i .non) (rv := fun i => .bl (isNat (ts.getD i .non))) (by omega) (itt_go p) (itt_stop p) (itt_yld p) (fun _ => rfl) (fun i H' Q' hi s hq => ?_) (fun D H' nD s hD => ?_)⟩
      · exact ⟨_, rfl, _, _, rfl, (r.getD_ hi).up s _ _, hq⟩
      · refine ⟨D, (List.range xs.length).map fun i => isNat (ts.getD i .non), rfl, SqL.of ?_, _, rfl, ?_⟩
        · rw [hD, List.map_map]
          rfl
        · have e : ((List.range xs.length).map fun i => isNat (ts.getD i .non)).all id = ts.all isNat := by
            rw [List.all_map, r.len]
            exact all_range_getD ts isNat
          rw [e]
          cases c : ts.all isNat with
          | false =>
            have q' := q H' s
            rw [show isLot (.tup ts) = (ts.all isNat && asc (ts.map key1)) from rfl, c] at q'
            exact q'
          | true =>
            refine ⟨.ref a, rfl, a, xs, false, ts.map key1, rfl, same_seqT s p, l, by rw [List.length_map, r.len], getD_map_keys (Tvs.up s _ _ r) c fun x d => uv1, fun H'' s2 => ?_⟩
            have q' := q H'' fun b o e => s2 b o (s b o e)
            rw [show isLot (.tup ts) = (ts.all isNat && asc (ts.map key1)) from rfl, c] at q'
            exact q'
    | _ => exact q H (Same.refl H)
theorem okPairs {f fN fA : Addr} {fd fdN fdA : FuncData} {k : Nat} (F : Fun K "is_lot_of_pairs" "is_lot_of_pairs" sPairs f fd) (G : FnOk P w K mg base CX0 k fN fdN ["thing"] (spF K isPair)) (b : Binds K fdN ["thing"] []) (g : mg "is_number_pair" = some (.ref fN)) (kp : PySem.W.keepIn K (.ref fN) = true)
    (GA : FnOk P w K mg base CX0 k fA fdA ["things"] (spAsc K)) (bA : Binds K fdA ["things"] []) (gA : mg "ascends" = some (.ref fA)) (kA : PySem.W.keepIn K (.ref fA) = true)
    (mi : mg "isinstance" = none) (mt : mg "tuple" = none) (ma : mg "all" = none) : FnOk P w K mg base CX0 (k + 1) f fd ["thing"] (spF K isPairs) := by
  refine F.ok scPairs (fun vs H Q E h => ?_) (fun cdv A outer s H vs Q E hr h => ?_)
  · obtain ⟨a, _, rfl, _⟩ := h
    rfl
  · obtain ⟨v, d, rfl, hv, q⟩ := h
    refine ⟨_, pss_one (ps_ret (pe_and (pe_callB call_ist (by rfl) mi (by decide +kernel) (pa_cons (pv 0) (pa_cons (pe_bltn (v := .ty "tuple") (by rfl) mt (by decide +kernel) rfl) pa_nil)))
      (pe_and (pe_callB (cr_all rfl) (by rfl) ma (by decide +kernel) (pa_cons
        (pe_lc (own := [("item", 1)]) (g := gName 1) (tt := tYes) rfl scPairs.nd (pi_tup (pv 0)) (blkOk_by (N := ["thing", "item"]) (sc := defScope sPairs) (by decide +kernel)) (fun _ _ _ _ _ => pg_name (i := 1) scPairs.nd rfl (Or.inl rfl)) (fun _ _ _ _ _ => pts_nil)
          (fun _ _ _ _ _ => pe_call G hr (by rfl) g kp b .nil pass0 (pa_cons (pv 1) pa_nil))) pa_nil))
      (pe_one (pe_call GA hr (by rfl) gA kA bA .nil pass0 (pa_cons (pv 0) pa_nil)))))), ?_⟩
    refine ⟨v, rfl, v, d, .tuple, rfl, hv, _, rfl, ?_⟩
    cases hv with
    | @tup a xs ts p l r =>
      refine ⟨.ref a, rfl, a, rfl, ⟨xs, p⟩, lc_map (n := xs.length) (xv := fun i => xs.getD i .non) (rv := fun i => .bl (isPair (ts.getD i .non))) (by omega) (itt_go p) (itt_stop p) (itt_yld p) (fun _ => rfl) (fun i H' Q' hi s hq => ?_) (fun D H' nD s hD => ?_)⟩
      · exact ⟨_, rfl, _, _, rfl, (r.getD_ hi).up s _ _, hq⟩
      · refine ⟨D, (List.range xs.length).map fun i => isPair (ts.getD i .non), rfl, SqL.of ?_, _, rfl, ?_⟩
        · rw [hD, List.map_map]
          rfl
        · have e : ((List.range xs.length).map fun i => isPair (ts.getD i .non)).all id = ts.all isPair := by
            rw [List.all_map, r.len]
            exact all_range_getD ts isPair
          rw [e]
          cases c : ts.all isPair with
          | false =>
            have q' := q H' s
            rw [show isPairs (.tup ts) = (ts.all isPair && asc (ts.map key2)) from rfl, c] at q'
            exact q'
          | true =>
            refine ⟨.ref a, rfl, a, xs, true, ts.map key2, rfl, same_seqT s p, l, by rw [List.length_map, r.len], getD_map_keys (Tvs.up s _ _ r) c fun x d => uv2, fun H'' s2 => ?_⟩
            have q' := q H'' fun b o e => s2 b o (s b o e)
            rw [show isPairs (.tup ts) = (ts.all isPair && asc (ts.map key2)) from rfl, c] at q'
            exact q'
    | _ => exact q H (Same.refl H)
theorem okSomeLot {f fN : Addr} {fd fdN : FuncData} {k : Nat} (F : Fun K "is_some_lot" "is_some_lot" sSomeLot f fd) (G : FnOk P w K mg base CX0 k fN fdN ["thing"] (spF K isLot)) (b : Binds K fdN ["thing"] []) (g : mg "is_lot" = some (.ref fN)) (kp : PySem.W.keepIn K (.ref fN) = true) (ml : mg "len" = none) :
    FnOk P w K mg base CX0 (k + 1) f fd ["thing"] (spF K isSome) := by
  refine F.ok scSomeLot (fun vs H Q E h => ?_) (fun cdv A outer s H vs Q E hr h => ?_)
  · obtain ⟨a, _, rfl, _⟩ := h
    rfl
  · obtain ⟨v, d, rfl, hv, q⟩ := h
    refine ⟨_, pss_one (ps_ret (pe_and (pe_call G hr (by rfl) g kp b .nil pass0 (pa_cons (pv 0) pa_nil)) (pe_one (pe_cmpR op_gt (pe_callB call_len_seq (by rfl) ml PySem.boot_len (pa_cons (pv 0) pa_nil)) pe_int (nomark _))))), ?_⟩
    refine ⟨v, rfl, v, d, rfl, hv, fun H' s => ⟨_, rfl, ?_⟩⟩
    have q' := q H' s
    unfold isSome at q'
    cases c : isLot d with
    | false =>
      rw [c] at q'
      exact q'
    | true =>
      rw [c] at q'
      cases hv with
      | @tup a xs ts p l r =>
        refine ⟨.ref a, rfl, a, xs, rfl, .inr (same_seqT s p), _, _, rfl, rfl, ?_⟩
        dsimp only
        rw [show decide ((0 : Int) < (xs.length : Int)) = (true && !emp (.tup ts)) by
          rw [r.len]
          cases ts <;> simp [emp]]
        exact q'
      | _ => cases c
theorem okPair {f fR fN : Addr} {fd fdR fdN : FuncData} {k : Nat} (F : Fun K "is_number_pair" "is_number_pair" sPair f fd) (G : FnOk P w K mg base CX0 k fN fdN ["thing"] (spF K isNat)) (b : Binds K fdN ["thing"] []) (g : mg "is_number" = some (.ref fN)) (kp : PySem.W.keepIn K (.ref fN) = true)
    (GR : FnOk P w K mg base CX0 k fR fdR ["thing", "many"] (spRow K)) (bR : Binds K fdR ["thing", "many"] []) (gR : mg "is_row" = some (.ref fR)) (kR : PySem.W.keepIn K (.ref fR) = true) :
    FnOk P w K mg base CX0 (k + 1) f fd ["thing"] (spF K isPair) := by
  refine F.ok scPair (fun vs H Q E h => ?_) (fun cdv A outer s H vs Q E hr h => ?_)
  · obtain ⟨a, _, rfl, _⟩ := h
    rfl
  · obtain ⟨v, d, rfl, hv, q⟩ := h
    refine ⟨_, pss_one (ps_ret (pe_and (pe_call GR hr (by rfl) gR kR bR .nil pass0 (pa_cons (pv 0) (pa_cons pe_int pa_nil)))
      (pe_and (pe_call G hr (by rfl) g kp b .nil pass0 (pa_cons (pe_ix ix_tup (pv 0) pe_int (fun _ _ => rfl)) pa_nil)) (pe_one (pe_call G hr (by rfl) g kp b .nil pass0 (pa_cons (pe_ix ix_tup (pv 0) pe_int (fun _ _ => rfl)) pa_nil)))))), ?_⟩
    refine ⟨v, rfl, v, d, 2, rfl, hv, _, rfl, ?_⟩
    have q0 := q H (Same.refl H)
    cases c : isRow 2 d with
    | false =>
      rw [show isPair d = false by
        cases d with
        | tup ts =>
          match ts, c with
          | [_, _], c => cases c
          | [], _ => rfl
          | [_], _ => rfl
          | _ :: _ :: _ :: _, _ => rfl
        | _ => rfl] at q0
      exact q0
    | true =>
      obtain ⟨a, x, y, dx, dy, rfl, rfl, p, hx, hy⟩ := row_two hv c
      · · refine ⟨.ref a, rfl, a, _, 0, x, rfl, rfl, p, rfl, x, dx, rfl, hx, fun H1 s1 => ⟨_, rfl, ?_⟩⟩
          cases c1 : isNat dx with
          | false =>
            have q1 := q H1 s1
            rw [show isPair (.tup [dx, dy]) = (isNat dx && isNat dy) from rfl, c1] at q1
            exact q1
          | true =>
            refine ⟨.ref a, rfl, a, _, 1, y, rfl, rfl, same_seqT s1 p, rfl, y, dy, rfl, hy.up s1 _ _, fun H2 s2 => ?_⟩
            have q1 := q H2 fun b o e => s2 b o (s1 b o e)
            rw [show isPair (.tup [dx, dy]) = (isNat dx && isNat dy) from rfl, c1] at q1
            exact q1
theorem okPlace {f fN : Addr} {fd fdN : FuncData} {k : Nat} (F : Fun K "is_place" "is_place" sPlace f fd) (G : FnOk P w K mg base CX0 k fN fdN ["thing"] (spF K isPair)) (b : Binds K fdN ["thing"] []) (g : mg "is_number_pair" = some (.ref fN)) (kp : PySem.W.keepIn K (.ref fN) = true) :
    FnOk P w K mg base CX0 (k + 1) f fd ["thing"] (spF K isPair) := by
  refine F.ok scPlace (fun vs H Q E h => ?_) (fun cdv A outer s H vs Q E hr h => ?_)
  · obtain ⟨a, _, rfl, _⟩ := h
    rfl
  · obtain ⟨v, d, rfl, hv, q⟩ := h
    exact ⟨_, pss_one (ps_ret (pe_call G hr (by rfl) g kp b .nil pass0 (pa_cons (pv 0) pa_nil))), v, rfl, v, d, rfl, hv, q⟩
theorem okTicket {f fR fN fS : Addr} {fd fdR fdN fdS : FuncData} {k : Nat} (F : Fun K "is_ticket" "is_ticket" sTicket f fd) (G : FnOk P w K mg base CX0 k fN fdN ["thing"] (spF K isNat)) (b : Binds K fdN ["thing"] []) (g : mg "is_number" = some (.ref fN)) (kp : PySem.W.keepIn K (.ref fN) = true)
    (GS : FnOk P w K mg base CX0 k fS fdS ["thing"] (spF K isSome)) (bS : Binds K fdS ["thing"] []) (gS : mg "is_some_lot" = some (.ref fS)) (kS : PySem.W.keepIn K (.ref fS) = true)
    (GR : FnOk P w K mg base CX0 k fR fdR ["thing", "many"] (spRow K)) (bR : Binds K fdR ["thing", "many"] []) (gR : mg "is_row" = some (.ref fR)) (kR : PySem.W.keepIn K (.ref fR) = true) :
    FnOk P w K mg base CX0 (k + 1) f fd ["thing"] (spF K isTicket) := by
  refine F.ok scTicket (fun vs H Q E h => ?_) (fun cdv A outer s H vs Q E hr h => ?_)
  · obtain ⟨a, _, rfl, _⟩ := h
    rfl
  · obtain ⟨v, d, rfl, hv, q⟩ := h
    refine ⟨_, pss_one (ps_ret (pe_and (pe_call GR hr (by rfl) gR kR bR .nil pass0 (pa_cons (pv 0) (pa_cons pe_int pa_nil)))
      (pe_and (pe_call GS hr (by rfl) gS kS bS .nil pass0 (pa_cons (pe_ix ix_tup (pv 0) pe_int (fun _ _ => rfl)) pa_nil)) (pe_one (pe_call G hr (by rfl) g kp b .nil pass0 (pa_cons (pe_ix ix_tup (pv 0) pe_int (fun _ _ => rfl)) pa_nil)))))), ?_⟩
    refine ⟨v, rfl, v, d, 2, rfl, hv, _, rfl, ?_⟩
    have q0 := q H (Same.refl H)
    cases c : isRow 2 d with
    | false =>
      rw [show isTicket d = false by
        cases d with
        | tup ts =>
          match ts, c with
          | [_, _], c => cases c
          | [], _ => rfl
          | [_], _ => rfl
          | _ :: _ :: _ :: _, _ => rfl
        | _ => rfl] at q0
      exact q0
    | true =>
      obtain ⟨a, x, y, dx, dy, rfl, rfl, p, hx, hy⟩ := row_two hv c
      · · refine ⟨.ref a, rfl, a, _, 0, x, rfl, rfl, p, rfl, x, dx, rfl, hx, fun H1 s1 => ⟨_, rfl, ?_⟩⟩
          cases c1 : isSome dx with
          | false =>
            have q1 := q H1 s1
            rw [show isTicket (.tup [dx, dy]) = (isSome dx && isNat dy) from rfl, c1] at q1
            exact q1
          | true =>
            refine ⟨.ref a, rfl, a, _, 1, y, rfl, rfl, same_seqT s1 p, rfl, y, dy, rfl, hy.up s1 _ _, fun H2 s2 => ?_⟩
            have q1 := q H2 fun b o e => s2 b o (s1 b o e)
            rw [show isTicket (.tup [dx, dy]) = (isSome dx && isNat dy) from rfl, c1] at q1
            exact q1
theorem emp_of {H : Hp} {v : V} {d : Th} (h : Tv K H v d) (hp : isPairs d = true) : ∃ a xs, v = .ref a ∧ SqT K H a xs ∧ xs.isEmpty = emp d := by
  cases h with
  | @tup a xs ts q l r =>
    refine ⟨a, xs, rfl, q, ?_⟩
    cases r <;> rfl
  | _ => cases hp
theorem okCell {f fR fI fP : Addr} {fd fdR fdI fdP : FuncData} {k : Nat} (F : Fun K "is_cell" "is_cell" sCell f fd) (G : FnOk P w K mg base CX0 k fI fdI ["thing"] (spF K isInt)) (b : Binds K fdI ["thing"] []) (g : mg "is_integer" = some (.ref fI)) (kp : PySem.W.keepIn K (.ref fI) = true)
    (GP : FnOk P w K mg base CX0 k fP fdP ["thing"] (spF K isPairs)) (bP : Binds K fdP ["thing"] []) (gP : mg "is_lot_of_pairs" = some (.ref fP)) (kP : PySem.W.keepIn K (.ref fP) = true)
    (GR : FnOk P w K mg base CX0 k fR fdR ["thing", "many"] (spRow K)) (bR : Binds K fdR ["thing", "many"] []) (gR : mg "is_row" = some (.ref fR)) (kR : PySem.W.keepIn K (.ref fR) = true)
    (mi : mg "isinstance" = none) (mt : mg "str" = none) :
    FnOk P w K mg base CX0 (k + 1) f fd ["thing"] (spF K isCell) := by
  refine F.ok scCell (fun vs H Q E h => ?_) (fun cdv A outer s H vs Q E hr h => ?_)
  · obtain ⟨a, _, rfl, _⟩ := h
    rfl
  · obtain ⟨v, d, rfl, hv, q⟩ := h
    have hu := Nat.lt_of_le_of_lt (Nat.le_add_right _ 64) hr.units
    refine ⟨_, pss_cons (ps_if (PW.pt (pw_or (pt_not (pt_val (pe_call GR hr (by rfl) gR kR bR .nil pass0 (pa_cons (pv 0) (pa_cons pe_int pa_nil)))))
        (pw_or (pt_not (pt_val (pe_call G hr (by rfl) g kp b .nil pass0 (pa_cons (pe_ix ix_tup (pv 0) pe_int (fun _ _ => rfl)) pa_nil))))
          (pw_or1 (pt_not (pt_val (pe_callB call_ist (by rfl) mi (by decide +kernel) (pa_cons (pe_ix ix_tup (pv 0) pe_int (fun _ _ => rfl)) (pa_cons (pe_bltn (v := .ty "str") (by rfl) mt (by decide +kernel) rfl) pa_nil))))))))) (pss_one (ps_ret pe_bl)) pss_nil)
      (pss_cons (ps_asg (pe_slice sl_tupA (pv 0) (po_some pe_int) po_none) (pg_tup rfl (pgs_cons (pg_name (i := 1) scCell.nd rfl (.inl rfl)) (pgs_cons (pg_name (i := 2) scCell.nd rfl (.inl rfl)) (pgs_cons (pg_name (i := 3) scCell.nd rfl (.inl rfl)) pgs_nil)))))
      (pss_cons (ps_if (PW.pt (pw_or (pt_not (pt_val (pe_call GP hr (by rfl) gP kP bP .nil pass0 (pa_cons (pv 2) pa_nil)))) (pw_or1 (pt_not (pt_val (pe_call GP hr (by rfl) gP kP bP .nil pass0 (pa_cons (pv 3) pa_nil))))))) (pss_one (ps_ret pe_bl)) pss_nil)
      (pss_cons (ps_if (pt_cmpR op_eq (pv 1) pe_str (nomark _)) (pss_one (ps_ret (pe_and (pe_cmpR (op_neE hu) (pv 2) (pe_tup pa_nil) (nomark _)) (pe_one (pe_cmpR (op_eqE hu) (pv 3) (pe_tup pa_nil) (nomark _)))))) pss_nil)
      (pss_one (ps_ret (pe_and (pe_cmpR op_eq (pv 1) pe_str (nomark _)) (pe_one (pe_or (pe_cmpR (op_neE hu) (pv 2) (pe_tup pa_nil) (nomark _)) (pe_one (pe_cmpR (op_neE hu) (pv 3) (pe_tup pa_nil) (nomark _))))))))))), ?_⟩
    refine ⟨v, rfl, v, d, 4, rfl, hv, _, rfl, ?_⟩
    cases c : isRow 4 d with
    | false =>
      have q0 := q H (Same.refl H)
      rw [show isCell d = false by
        cases d with
        | tup ts =>
          match ts, c with
          | [_, _, _, _], c => cases c
          | [], _ => rfl
          | [_], _ => rfl
          | [_, x], _ => cases x <;> rfl
          | [_, x, _], _ => cases x <;> rfl
          | _ :: x :: _ :: _ :: _ :: _, _ => cases x <;> rfl
        | _ => rfl] at q0
      exact q0
    | true =>
      obtain ⟨a, x, y, z, u, dx, dy, dz, du, rfl, rfl, p, hx, hy, hz, hu4⟩ := row_four hv c
      refine ⟨.ref a, rfl, a, _, 0, x, rfl, rfl, p, rfl, x, dx, rfl, hx, fun H1 s1 => ⟨_, rfl, ?_⟩⟩
      have no1 : isInt dx = false → isCell (.tup [dx, dy, dz, du]) = false := fun e => by
        cases dy <;> first | rfl | simp [isCell, e]
      cases c1 : isInt dx with
      | false =>
        have q0 := q H1 s1
        rw [no1 c1] at q0
        exact q0
      | true =>
        refine ⟨.ref a, rfl, a, _, 1, y, rfl, rfl, same_seqT s1 p, rfl, y, dy, .str, rfl, hy.up s1 _ _, _, rfl, ?_⟩
        have q1 := q H1 s1
        cases hy with
        | str t =>
          refine ⟨.ref a, rfl, 1, rfl, a, _, rfl, same_seqT s1 p, (fun e => absurd e.1 (by show ¬ HT.sIx 4 0 (some 1) = 0; decide)), fun _ l nl => ⟨l, [.str t, z, u], rfl, SqT.of upd_same, rfl, .str t, _, rfl, z, _, rfl, u, _, rfl, rfl, ?_⟩⟩
          have s2 := same_newK (o := .tup [.str t, z, u]) s1 nl
          refine ⟨z, rfl, z, dz, rfl, hz.up s2 _ _, fun H3 s3 => ⟨_, rfl, ?_⟩⟩
          have t3 : Same H H3 := fun b o e => s3 b o (s2 b o e)
          have q3 := q H3 t3
          have ec : isCell (.tup [dx, .str t, dz, du]) = (isPairs dz && isPairs du && (if t = ("common" : Str) then !emp dz && emp du else decide (t = ("own" : Str)) && (!emp dz || !emp du))) := by
            simp [isCell, c1]
          cases c3 : isPairs dz with
          | false =>
            rw [ec, c3] at q3
            exact q3
          | true =>
            refine ⟨u, rfl, u, du, rfl, hu4.up t3 _ _, fun H4 s4 => ⟨_, rfl, ?_⟩⟩
            have t4 : Same H H4 := fun b o e => s4 b o (t3 b o e)
            have q4 := q H4 t4
            cases c4 : isPairs du with
            | false =>
              rw [ec, c3, c4] at q4
              exact q4
            | true =>
              have qq : ∀ H', Same H4 H' → Q (.bl (if t = ("common" : Str) then !emp dz && emp du else decide (t = ("own" : Str)) && (!emp dz || !emp du))) H' := fun H' s' => by
                have := q H' fun b o e => s' b o (t4 b o e)
                rw [ec, c3, c4] at this
                exact this
              obtain ⟨az, xz, rfl, pz, ez⟩ := emp_of (hz.up t4 _ _) c3
              obtain ⟨au, xu, rfl, pu, eu⟩ := emp_of (hu4.up t4 _ _) c4
              refine ⟨.str t, rfl, rfl, _, rfl, ite2 (fun h1 => ?_) (fun h1 => ?_)⟩
              · have et : t = ("common" : Str) := by simpa using h1
                rw [if_pos et] at qq
                refine ⟨.ref az, rfl, Nat.zero_le _, fun l2 n2 => ⟨true, az, l2, xz, rfl, rfl, same_seqT (same_newK (Same.refl H4) n2) pz, SqT.of upd_same, _, rfl, ?_⟩⟩
                have s5 := same_newK (o := .tup []) (Same.refl H4) n2
                rw [ez]
                cases c5 : emp dz with
                | true =>
                  have := qq _ s5
                  rw [c5] at this
                  exact this
                | false =>
                  refine ⟨.ref au, rfl, Nat.zero_le _, fun l3 n3 => ⟨true, au, l3, xu, rfl, rfl, same_seqT (same_newK s5 n3) pu, SqT.of upd_same, ?_⟩⟩
                  have := qq _ (same_newK (o := .tup []) s5 n3)
                  rw [c5] at this
                  rw [eu]
                  simpa using this
              · have et : ¬ t = ("common" : Str) := by simpa using h1
                rw [if_neg et] at qq
                refine ⟨.str t, rfl, rfl, _, rfl, ?_⟩
                have e6 : decide (V.str t = V.str "own") = decide (t = ("own" : Str)) := by simp
                rw [e6]
                cases c6 : decide (t = ("own" : Str)) with
                | false =>
                  have := qq _ (Same.refl H4)
                  rw [c6] at this
                  exact this
                | true =>
                  rw [c6] at qq
                  refine ⟨.ref az, rfl, Nat.zero_le _, fun l2 n2 => ⟨true, az, l2, xz, rfl, rfl, same_seqT (same_newK (Same.refl H4) n2) pz, SqT.of upd_same, _, rfl, ?_⟩⟩
                  have s5 := same_newK (o := .tup []) (Same.refl H4) n2
                  rw [ez]
                  cases c5 : emp dz with
                  | false =>
                    have := qq _ s5
                    rw [c5] at this
                    exact this
                  | true =>
                    refine ⟨.ref au, rfl, Nat.zero_le _, fun l3 n3 => ⟨true, au, l3, xu, rfl, rfl, same_seqT (same_newK s5 n3) pu, SqT.of upd_same, ?_⟩⟩
                    have := qq _ (same_newK (o := .tup []) s5 n3)
                    rw [c5] at this
                    rw [eu]
                    simpa using this
        | _ => exact q1
end
end K01

set_option Elab.async false
set_option linter.all false
set_option maxRecDepth 100000
set_option maxHeartbeats 4000000
namespace Pg
open PySem PySem.Spec PyProof.Rows L2
theorem tv_new {K : PySem.W.Frag} {H : Hp} {p : Addr} {xs : List V} {ts : List Th} (np : H p = none) (r : Tvs K H xs ts) (l : xs.length ≤ 2000000) : Tv K (upd H p (.tup xs)) (.ref p) (.tup ts) :=
  .tup (SqT.of upd_same) l (Tvs.up (same_newK (Same.refl H) np) ts _ r)
section
variable {K : PySem.W.Frag} {H : Hp} {a : Addr} {xs : List V}
theorem itl_go (h : H a = some (.lst xs)) : ∀ i H', i < xs.length → Same H H' → (Itl K a).go i H' := fun i H' hi s => ⟨xs, xs[i], SqL.of (s _ _ h), List.getElem?_eq_getElem hi⟩
theorem itl_stop (h : H a = some (.lst xs)) : ∀ H', Same H H' → (Itl K a).stop xs.length H' := fun H' s => ⟨xs, SqL.of (s _ _ h), Nat.le_refl _⟩
theorem itl_yld (h : H a = some (.lst xs)) : ∀ i x H' H'', i < xs.length → Same H H' → (Itl K a).yld i H' x H'' → H'' = H' ∧ x = xs.getD i .non := fun i x H' H'' hi s y =>
  ⟨y.1, by
    have := y.2 xs (SqL.of (s _ _ h))
    rw [List.getD_eq_getElem?_getD, this]
    rfl⟩
end
/-- a loop whose turns leave what stood -/
theorem for_same {J : It} {n : Nat} {xv : Nat → V} {g : TG} {tb : TS} {D : Ends} {σ : L2.St} {H : Hp} (I : L2.St → Prop)
    (hgo : ∀ i H', i < n → Same H H' → J.go i H') (hst : ∀ H', Same H H' → J.stop n H') (hy : ∀ i x H' H'', i < n → Same H H' → J.yld i H' x H'' → H'' = H' ∧ x = xv i)
    (h0 : I σ) (fin : ∀ σ' H', Same H H' → I σ' → D.nx σ' H')
    (step : ∀ i σ' H', i < n → Same H H' → I σ' → g (xv i) σ' H' fun σ2 H2 => tb { D with nx := fun σ3 H3 => Same H H3 ∧ I σ3, ct := fun σ3 H3 => Same H H3 ∧ I σ3, bk := D.nx } σ2 H2) :
    ∃ W : Nat → Nat → L2.St → Hp → Prop, (∃ m, W 0 m σ H) ∧ ∀ i m σ H, W i m σ H → (J.stop i H ∧ D.nx σ H) ∨ (J.go i H ∧ ∃ N : L2.St → Hp → Prop, (∀ σ' H', N σ' H' → ∃ m', m' < m ∧ W (i + 1) m' σ' H') ∧ ∀ x H', J.yld i H x H' → g x σ H' fun σ2 H2 => tb { D with nx := N, ct := N, bk := D.nx } σ2 H2) := by
  refine ⟨fun i m σ' H' => i + m = n ∧ Same H H' ∧ I σ', ⟨n, by omega, Same.refl H, h0⟩, fun i m σ' H' ⟨e, s, hI⟩ => ?_⟩
  cases m with
  | zero =>
    have e' : i = n := by omega
    subst e'
    exact .inl ⟨hst H' s, fin σ' H' s hI⟩
  | succ m =>
    have hi : i < n := by omega
    refine .inr ⟨hgo i H' hi s, fun σ3 H3 => Same H H3 ∧ I σ3, fun σ3 H3 h3 => ⟨m, by omega, by omega, h3.1, h3.2⟩, fun x H'' hx => ?_⟩
    obtain ⟨rfl, rfl⟩ := hy i x H' H'' hi s hx
    exact step i σ' H'' hi s hI
/-- a statement, then M between it and the rest -/
theorem seqM {tA tR : TS} {D : Ends} {σ : L2.St} {H : Hp} (M : L2.St → Hp → Prop) (h1 : ∀ nx : L2.St → Hp → Prop, (∀ σ' H', M σ' H' → nx σ' H') → tA { D with nx := nx } σ H) (h2 : ∀ σ' H', M σ' H' → tR D σ' H') : tSeq tA tR D σ H := h1 _ h2
def FitD (d : PyData) : Prop := d.depth ≤ 60 ∧ d.showable = true ∧ d.shown.length ≤ sizeLine
def spAlikeD (K : PySem.W.Frag) : Sp := fun vs H Q _ => ∃ x y d, vs = [x, y] ∧ Dd K H x d ∧ Dd K H y d ∧ FitD d ∧ ∀ H', Same H H' → Q (.bl true) H'
def spStr (K : PySem.W.Frag) : Sp := fun vs H Q _ => ∃ a b c, vs = [a, b, c] ∧ Tv K H a .obj ∧ Tv K H b .obj ∧ Tv K H c .obj ∧ ∀ H', Same H H' → Q (.bl true) H'
end Pg
namespace K01
open PySem PySem.Spec PyProof.Rows L2 Pg
section
variable {P : Program} {w : World} {K : PySem.W.Frag} {mg : Str → Option Value} {base : Heap}
abbrev sN0 : Stmt := inClass (topS 4) 0
abbrev sN1 : Stmt := inClass (topS 3) 0
abbrev sN2 : Stmt := inClass (topS 2) 0
theorem scN0 : FnScope ["self"] ["self"] (defScope sN0) := ⟨rfl, rfl, rfl, by decide +kernel, rfl, by decide +kernel, by decide +kernel⟩
theorem scN1 : FnScope ["self", "process"] ["self", "process"] (defScope sN1) := ⟨rfl, rfl, rfl, by decide +kernel, rfl, by decide +kernel, by decide +kernel⟩
theorem scN2 : FnScope ["self", "process", "page"] ["self", "process", "page"] (defScope sN2) := ⟨rfl, rfl, rfl, by decide +kernel, rfl, by decide +kernel, by decide +kernel⟩
theorem okN0 {f : Addr} {fd : FuncData} {k : Nat} (F : Fun K "__init__" "Nothing.__init__" sN0 f fd) : FnOk P w K mg base CX0 (k + 1) f fd ["self"] spIni0 := by
  refine F.ok scN0 (fun vs H Q E h => ?_) (fun cdv A outer s H vs Q E hr h => ?_)
  · obtain ⟨a, rfl, _⟩ := h
    rfl
  · obtain ⟨a, rfl, q⟩ := h
    exact ⟨_, pss_one ps_pass, q⟩
theorem okN1 {f : Addr} {fd : FuncData} {k : Nat} {C : Addr} (F : Fun K "__init__" "NoProcess.__init__" sN1 f fd) (T : OexC K C) (hno : PySem.W.findIn K (.ref C) "process" = some none) : FnOk P w K mg base CX0 (k + 1) f fd ["self", "process"] (spIni1 C "process") := by
  refine F.ok scN1 (fun vs H Q E h => ?_) (fun cdv A outer s H vs Q E hr h => ?_)
  · obtain ⟨a, v, rfl, _⟩ := h
    rfl
  · obtain ⟨a, v, rfl, ha, q⟩ := h
    exact ⟨_, pss_one (ps_ost (pv 0) (pv 1)), v, rfl, .ref a, rfl, a, C, rfl, T, hno, .inl ⟨ha, fun dx n ne => q dx n ne⟩⟩
theorem okN2 {f : Addr} {fd : FuncData} {k : Nat} {C : Addr} (F : Fun K "__init__" "NoPlace.__init__" sN2 f fd) (T : OexC K C) (hna : PySem.W.findIn K (.ref C) "process" = some none) (hnb : PySem.W.findIn K (.ref C) "page" = some none) :
    FnOk P w K mg base CX0 (k + 1) f fd ["self", "process", "page"] (spIni2 C "process" "page") := by
  refine F.ok scN2 (fun vs H Q E h => ?_) (fun cdv A outer s H vs Q E hr h => ?_)
  · obtain ⟨a, v, z, rfl, _⟩ := h
    rfl
  · obtain ⟨a, v, z, rfl, ha, q⟩ := h
    refine ⟨_, pss_cons (ps_ost (pv 0) (pv 1)) (pss_one (ps_ost (pv 0) (pv 2))), v, rfl, .ref a, rfl, a, C, rfl, T, hna, .inl ⟨ha, fun dx n ne => ?_⟩⟩
    refine ⟨z, rfl, .ref a, rfl, a, C, rfl, T, hnb, .inr ⟨dx, _, upd_same, by rw [upd_ne ne]; exact upd_same, by show 1 ≤ 900; decide, q dx _ n ne (fun b o hb e => ?_) ?_ upd_same fun b hb => ?_⟩⟩
    · rw [upd_ne (ne_of_none e n), upd_ne hb, upd_ne (ne_of_none e n)]
      exact e
    · rw [upd_ne ne.symm]
      exact upd_same
    · by_cases e1 : b = dx
      · rw [e1]
        exact n
      · rw [upd_ne e1] at hb
        by_cases e2 : b = a
        · rw [e2, upd_same] at hb
          cases hb
        · rw [upd_ne e2, upd_ne e1] at hb
          exact hb
abbrev sAlk : Stmt := topS 21
theorem scAlk : FnScope ["_law_found", "_law_due"] ["_law_found", "_law_due"] (defScope sAlk) := ⟨rfl, rfl, rfl, by decide +kernel, rfl, by decide +kernel, by decide +kernel⟩
theorem okAlk {f : Addr} {fd : FuncData} {k : Nat} (F : Fun K "_law_alike" "_law_alike" sAlk f fd) (mr : mg "repr" = none) : FnG P w K mg base (k + 1) f fd ["_law_found", "_law_due"] (spAlikeD K) := by
  refine okG F scAlk (fun vs H Q E h => ?_) (fun cdv A outer s H vs Q E hg hr h => ?_)
  · obtain ⟨x, y, d, rfl, _⟩ := h
    rfl
  · obtain ⟨x, y, d, rfl, h1, h2, hf, q⟩ := h
    refine ⟨_, pss_one (ps_ret (pe_and (pe_cmpR (op_alike hr.units) (pv 0) (pv 1) (nomark _))
      (pe_one (pe_cmpR L2.op_eq (pe_callB (call_reprD hg hr.units) (by rfl) mr (by decide +kernel) (pa_cons (pv 0) pa_nil)) (pe_callB (call_reprD hg hr.units) (by rfl) mr (by decide +kernel) (pa_cons (pv 1) pa_nil)) (nomark _))))), ?_⟩
    refine ⟨x, rfl, y, rfl, d, h1, h2, hf.1, true, rfl, ?_⟩
    refine iteT (B := _) ?_
    refine ⟨x, rfl, x, d, rfl, h1, hf.1, hf.2.1, hf.2.2, y, rfl, y, d, rfl, h2, hf.1, hf.2.1, hf.2.2, rfl, ?_⟩
    rw [decide_eq_true rfl]
    exact q H (Same.refl H)
end
end K01

set_option Elab.async false
set_option linter.all false
set_option maxRecDepth 100000
set_option maxHeartbeats 4000000
namespace K01
open PySem PySem.Spec PyProof.Rows L2 Pg
section
variable {P : Program} {w : World} {K : PySem.W.Frag} {mg : Str → Option Value} {base : Heap}
abbrev sStr : Stmt := topS 38
theorem scStr : FnScope ["_law_one", "_law_other", "_law_third", "_law_thing_here", "_law_found", "_law_cells"] ["_law_one", "_law_other", "_law_third"] (defScope sStr) := ⟨rfl, rfl, rfl, by decide +kernel, rfl, by decide +kernel, by decide +kernel⟩
def ts8 : List Th := [.obj, .obj, .tup [.obj], .tup [.int 0, .obj], .tup [.obj, .int 0], .tup [.tup [.int 0, .obj], .int 1], .tup [.tup [.obj], .int 1], .tup [.tup [.int 0], .obj]]
def ts4 : List Th := [.tup [.obj, .str "own", .tup [.tup [.int 0, .int 0]], .tup []], .tup [.int 0, .obj, .tup [.tup [.int 0, .int 0]], .tup []], .tup [.int 0, .str "own", .obj, .tup []], .tup [.int 0, .str "own", .tup [.tup [.int 0, .obj]], .tup []]]
theorem ts8_no : ∀ i, i < 8 → isInt (ts8.getD i .non) = false ∧ isLot (ts8.getD i .non) = false ∧ isPair (ts8.getD i .non) = false ∧ isTicket (ts8.getD i .non) = false ∧ isCell (ts8.getD i .non) = false := fun i hi =>
  match i, hi with
  | 0, _ => ⟨rfl, rfl, rfl, rfl, rfl⟩
  | 1, _ => ⟨rfl, rfl, rfl, rfl, rfl⟩
  | 2, _ => ⟨rfl, rfl, rfl, rfl, rfl⟩
  | 3, _ => ⟨rfl, rfl, rfl, rfl, rfl⟩
  | 4, _ => ⟨rfl, rfl, rfl, rfl, rfl⟩
  | 5, _ => ⟨rfl, rfl, rfl, rfl, rfl⟩
  | 6, _ => ⟨rfl, rfl, rfl, rfl, rfl⟩
  | 7, _ => ⟨rfl, rfl, rfl, rfl, rfl⟩
theorem ts4_no : ∀ i, i < 4 → isCell (ts4.getD i .non) = false := fun i hi =>
  match i, hi with
  | 0, _ => rfl
  | 1, _ => rfl
  | 2, _ => rfl
  | 3, _ => rfl
theorem okStr {f fI fL fP fT fC fA : Addr} {fd fdI fdL fdP fdT fdC fdA : FuncData} {k : Nat} (F : Fun K "_law_are_strangers" "_law_are_strangers" sStr f fd)
    (GI : FnOk P w K mg base CX0 k fI fdI ["thing"] (spF K isInt)) (bI : Binds K fdI ["thing"] []) (gI : mg "is_integer" = some (.ref fI)) (kI : PySem.W.keepIn K (.ref fI) = true)
    (GL : FnOk P w K mg base CX0 k fL fdL ["thing"] (spF K isLot)) (bL : Binds K fdL ["thing"] []) (gL : mg "is_lot" = some (.ref fL)) (kL : PySem.W.keepIn K (.ref fL) = true)
    (GP : FnOk P w K mg base CX0 k fP fdP ["thing"] (spF K isPair)) (bP : Binds K fdP ["thing"] []) (gP : mg "is_place" = some (.ref fP)) (kP : PySem.W.keepIn K (.ref fP) = true)
    (GT : FnOk P w K mg base CX0 k fT fdT ["thing"] (spF K isTicket)) (bT : Binds K fdT ["thing"] []) (gT : mg "is_ticket" = some (.ref fT)) (kT : PySem.W.keepIn K (.ref fT) = true)
    (GC : FnOk P w K mg base CX0 k fC fdC ["thing"] (spF K isCell)) (bC : Binds K fdC ["thing"] []) (gC : mg "is_cell" = some (.ref fC)) (kC : PySem.W.keepIn K (.ref fC) = true)
    (GA : FnG P w K mg base k fA fdA ["_law_found", "_law_due"] (spAlikeD K)) (bA : Binds K fdA ["_law_found", "_law_due"] []) (gA : mg "_law_alike" = some (.ref fA)) (kA : PySem.W.keepIn K (.ref fA) = true) :
    FnG P w K mg base (k + 1) f fd ["_law_one", "_law_other", "_law_third"] (spStr K) := by
  refine okG F scStr (fun vs H Q E h => ?_) (fun cdv A outer s H vs Q E hg hr h => ?_)
  · obtain ⟨a, b, c, rfl, _⟩ := h
    rfl
  · obtain ⟨one, other, third, rfl, h1, h2, h3, q⟩ := h
    have nd := scStr.nd
    refine ⟨_, pss_cons (ps_for PassesOwn.never rfl (pi_tup (pe_tup (pa_cons (pv 0) (pa_cons (pv 1) (pa_cons (pe_tup (pa_cons (pv 2) pa_nil)) (pa_cons (pe_tup (pa_cons pe_int (pa_cons (pv 0) pa_nil))) (pa_cons (pe_tup (pa_cons (pv 1) (pa_cons pe_int pa_nil)))
          (pa_cons (pe_tup (pa_cons (pe_tup (pa_cons pe_int (pa_cons (pv 2) pa_nil))) (pa_cons pe_int pa_nil))) (pa_cons (pe_tup (pa_cons (pe_tup (pa_cons (pv 1) pa_nil)) (pa_cons pe_int pa_nil))) (pa_cons (pe_tup (pa_cons (pe_tup (pa_cons pe_int pa_nil)) (pa_cons (pv 0) pa_nil))) pa_nil)))))))))) (pg_name (i := 3) nd rfl (Or.inl rfl))
        (pss_cons (ps_set (i := 4) nd rfl (.inl rfl) (pe_lst (pa_cons (pe_call GI hr (by rfl) gI kI bI .nil pass0 (pa_cons (pv 3) pa_nil)) (pa_cons (pe_call GL hr (by rfl) gL kL bL .nil pass0 (pa_cons (pv 3) pa_nil)) (pa_cons (pe_call GP hr (by rfl) gP kP bP .nil pass0 (pa_cons (pv 3) pa_nil)) (pa_cons (pe_call GT hr (by rfl) gT kT bT .nil pass0 (pa_cons (pv 3) pa_nil)) (pa_cons (pe_call GC hr (by rfl) gC kC bC .nil pass0 (pa_cons (pv 3) pa_nil)) pa_nil)))))))
        (pss_one (ps_if (pt_not (pt_val (callG GA hg hr (by rfl) gA kA bA (pa_cons (pv 4) (pa_cons (pe_op op_rep (pe_lst (pa_cons pe_bl pa_nil)) pe_int) pa_nil))))) (pss_one (ps_ret pe_bl)) pss_nil))))
      (pss_cons (ps_set (i := 5) nd rfl (.inl rfl) (pe_lst (pa_cons (pe_tup (pa_cons (pv 0) (pa_cons pe_str (pa_cons (pe_tup (pa_cons (pe_tup (pa_cons pe_int (pa_cons pe_int pa_nil))) pa_nil)) (pa_cons (pe_tup pa_nil) pa_nil)))))
        (pa_cons (pe_tup (pa_cons pe_int (pa_cons (pv 1) (pa_cons (pe_tup (pa_cons (pe_tup (pa_cons pe_int (pa_cons pe_int pa_nil))) pa_nil)) (pa_cons (pe_tup pa_nil) pa_nil)))))
        (pa_cons (pe_tup (pa_cons pe_int (pa_cons pe_str (pa_cons (pv 2) (pa_cons (pe_tup pa_nil) pa_nil)))))
        (pa_cons (pe_tup (pa_cons pe_int (pa_cons pe_str (pa_cons (pe_tup (pa_cons (pe_tup (pa_cons pe_int (pa_cons (pv 0) pa_nil))) pa_nil)) (pa_cons (pe_tup pa_nil) pa_nil))))) pa_nil))))))
      (pss_cons (ps_for PassesOwn.never rfl (pi_list (pv 5)) (pg_name (i := 3) nd rfl (Or.inl rfl))
        (pss_one (ps_if (pt_not (pt_val (callG GA hg hr (by rfl) gA kA bA (pa_cons (pe_call GC hr (by rfl) gC kC bC .nil pass0 (pa_cons (pv 3) pa_nil)) (pa_cons pe_bl pa_nil))))) (pss_one (ps_ret pe_bl)) pss_nil)))
      (pss_one (ps_ret pe_bl)))), ?_⟩
    have sz : ∀ {n : Nat}, n ≤ 10 → n ≤ sizeLine := fun h => Nat.le_trans h (by decide)
    refine seqM (fun σ' H' => ∃ x3 x4, σ' = [some one, some other, some third, x3, x4, none] ∧ Same H H') (fun nx hnx => ?_) fun σ' H' hM => ?_
    · refine ⟨one, rfl, other, rfl, third, rfl, sz (Nat.le_of_ble_eq_true rfl), fun p1 n1 => ⟨one, rfl, sz (Nat.le_of_ble_eq_true rfl), fun p2 n2 => ⟨other, rfl, sz (Nat.le_of_ble_eq_true rfl), fun p3 n3 => ⟨third, rfl, sz (Nat.le_of_ble_eq_true rfl), fun p4 n4 => ⟨sz (Nat.le_of_ble_eq_true rfl), fun p5 n5 => ⟨other, rfl, sz (Nat.le_of_ble_eq_true rfl), fun p6 n6 => ⟨sz (Nat.le_of_ble_eq_true rfl), fun p7 n7 => ⟨sz (Nat.le_of_ble_eq_true rfl), fun p8 n8 => ⟨one, rfl, sz (Nat.le_of_ble_eq_true rfl), fun p9 n9 => ⟨sz (Nat.le_of_ble_eq_true rfl), fun p10 n10 => ?_⟩⟩⟩⟩⟩⟩⟩⟩⟩⟩
      have s1 := same_newK (o := .tup [third]) (Same.refl H) n1
      have t1 : Tv K _ (.ref p1) (.tup [.obj]) := tv_new n1 (.cons h3 .nil) (Nat.le_of_ble_eq_true rfl)
      have s2 := same_newK (o := .tup [.int 0, one]) (Same.refl _) n2
      have t2 : Tv K _ (.ref p2) (.tup [.int 0, .obj]) := tv_new n2 (.cons (.int 0) (.cons (h1.up s1) .nil)) (Nat.le_of_ble_eq_true rfl)
      have s3 := same_newK (o := .tup [other, .int 0]) (Same.refl _) n3
      have t3 : Tv K _ (.ref p3) (.tup [.obj, .int 0]) := tv_new n3 (.cons (h2.up (s1.trans s2)) (.cons (.int 0) .nil)) (Nat.le_of_ble_eq_true rfl)
      have s4 := same_newK (o := .tup [.int 0, third]) (Same.refl _) n4
      have t4 : Tv K _ (.ref p4) (.tup [.int 0, .obj]) := tv_new n4 (.cons (.int 0) (.cons (h3.up ((s1.trans s2).trans s3)) .nil)) (Nat.le_of_ble_eq_true rfl)
      have s5 := same_newK (o := .tup [.ref p4, .int 1]) (Same.refl _) n5
      have t5 : Tv K _ (.ref p5) (.tup [.tup [.int 0, .obj], .int 1]) := tv_new n5 (.cons t4 (.cons (.int 1) .nil)) (Nat.le_of_ble_eq_true rfl)
      have s6 := same_newK (o := .tup [other]) (Same.refl _) n6
      have t6 : Tv K _ (.ref p6) (.tup [.obj]) := tv_new n6 (.cons (h2.up ((((s1.trans s2).trans s3).trans s4).trans s5)) .nil) (Nat.le_of_ble_eq_true rfl)
      have s7 := same_newK (o := .tup [.ref p6, .int 1]) (Same.refl _) n7
      have t7 : Tv K _ (.ref p7) (.tup [.tup [.obj], .int 1]) := tv_new n7 (.cons t6 (.cons (.int 1) .nil)) (Nat.le_of_ble_eq_true rfl)
      have s8 := same_newK (o := .tup [.int 0]) (Same.refl _) n8
      have t8 : Tv K _ (.ref p8) (.tup [.int 0]) := tv_new n8 (.cons (.int 0) .nil) (Nat.le_of_ble_eq_true rfl)
      have s9 := same_newK (o := .tup [.ref p8, one]) (Same.refl _) n9
      have f8 := ((((((s1.trans s2).trans s3).trans s4).trans s5).trans s6).trans s7).trans s8
      have t9 : Tv K _ (.ref p9) (.tup [.tup [.int 0], .obj]) := tv_new n9 (.cons t8 (.cons (h1.up f8) .nil)) (Nat.le_of_ble_eq_true rfl)
      have f9 := f8.trans s9
      have s10 := same_newK (o := .tup [one, other, .ref p1, .ref p2, .ref p3, .ref p5, .ref p7, .ref p9]) (Same.refl _) n10
      have all : Tvs K _ [one, other, .ref p1, .ref p2, .ref p3, .ref p5, .ref p7, .ref p9] ts8 :=
        .cons (h1.up f9) (.cons (h2.up f9) (.cons (t1.up (((((((s2.trans s3).trans s4).trans s5).trans s6).trans s7).trans s8).trans s9)) (.cons (t2.up ((((((s3.trans s4).trans s5).trans s6).trans s7).trans s8).trans s9)) (.cons (t3.up (((((s4.trans s5).trans s6).trans s7).trans s8).trans s9))
          (.cons (t5.up (((s6.trans s7).trans s8).trans s9)) (.cons (t7.up (s8.trans s9)) (.cons t9 .nil)))))))
      have all' := Tvs.up s10 _ _ all
      have fH := f9.trans s10
      refine ⟨p10, rfl, ⟨_, SqT.of upd_same⟩, for_same (n := 8) (xv := fun i => [one, other, .ref p1, .ref p2, .ref p3, .ref p5, .ref p7, .ref p9].getD i .non) (fun σ' => ∃ x3 x4, σ' = [some one, some other, some third, x3, x4, none]) (itt_go (K := K) (xs := [one, other, .ref p1, .ref p2, .ref p3, .ref p5, .ref p7, .ref p9]) (SqT.of upd_same)) (itt_stop (K := K) (xs := [one, other, .ref p1, .ref p2, .ref p3, .ref p5, .ref p7, .ref p9]) (SqT.of upd_same)) (itt_yld (K := K) (xs := [one, other, .ref p1, .ref p2, .ref p3, .ref p5, .ref p7, .ref p9]) (SqT.of upd_same)) ⟨none, none, rfl⟩ (fun σ' H' s ⟨x3, x4, e⟩ => hnx _ _ ⟨x3, x4, e, fH.trans s⟩) fun i σ' H' hi s ⟨x3, x4, e⟩ => ?_⟩
      subst e
      obtain ⟨c1, c2, c3, c4, c5⟩ := ts8_no i hi
      have tv := Tvs.getD_ (i := i) all' hi
      have tv' := tv.up s
      refine ⟨_, rfl, _, _, rfl, tv', fun Ha sa => ⟨_, rfl, _, _, rfl, tv'.up sa, fun Hb sb => ⟨_, rfl, _, _, rfl, tv'.up (sa.trans sb), fun Hc sc => ⟨_, rfl, _, _, rfl, tv'.up ((sa.trans sb).trans sc), fun Hd sd => ⟨_, rfl, _, _, rfl, tv'.up (((sa.trans sb).trans sc).trans sd), fun He se => ⟨sz (Nat.le_of_ble_eq_true rfl), fun l nl => ?_⟩⟩⟩⟩⟩⟩
      rw [c1, c2, c3, c4, c5]
      refine ⟨.ref l, rfl, sz (Nat.le_of_ble_eq_true rfl), fun m nm => ⟨m, 5, [.bl false], rfl, rfl, upd_same, by decide, by decide, by decide, fun r nr => ?_⟩⟩
      have la : Same H' _ := (((sa.trans sb).trans sc).trans sd).trans se
      have sl := same_newK (o := .lst [.bl false, .bl false, .bl false, .bl false, .bl false]) (Same.refl _) nl
      have sm := same_newK (o := .lst [.bl false]) (Same.refl _) nm
      have sr := same_newK (o := .lst [.bl false, .bl false, .bl false, .bl false, .bl false]) (Same.refl _) nr
      have five : ∀ {H5 : Hp} {y : Addr}, H5 y = some (.lst [.bl false, .bl false, .bl false, .bl false, .bl false]) → Dd K H5 (.ref y) (.list [.bool false, .bool false, .bool false, .bool false, .bool false]) := fun h =>
        .lst (SqL.of h) (.cons (.bl _) (.cons (.bl _) (.cons (.bl _) (.cons (.bl _) (.cons (.bl _) .nil)))))
      refine ⟨.ref l, .ref r, _, rfl, five (sr _ _ (sm _ _ upd_same)), five upd_same, ⟨by decide +kernel, by decide +kernel, by decide +kernel⟩, fun Hf sf => ⟨true, rfl, ?_⟩⟩
      refine ⟨((((s.trans la).trans sl).trans sm).trans sr).trans sf, _, _, rfl⟩
    · obtain ⟨x3, x4, rfl, s0⟩ := hM
      have h1 := h1.up s0
      have h2 := h2.up s0
      have h3 := h3.up s0
      have q := fun H'' s => q H'' (s0.trans s)
      refine ⟨one, rfl, sz (Nat.le_of_ble_eq_true rfl), fun a1 n_a1 => ⟨sz (Nat.le_of_ble_eq_true rfl), fun a2 n_a2 => ⟨sz (Nat.le_of_ble_eq_true rfl), fun a3 n_a3 => ⟨sz (Nat.le_of_ble_eq_true rfl), fun a4 n_a4 => ⟨other, rfl, sz (Nat.le_of_ble_eq_true rfl), fun b1 n_b1 => ⟨sz (Nat.le_of_ble_eq_true rfl), fun b2 n_b2 => ⟨sz (Nat.le_of_ble_eq_true rfl), fun b3 n_b3 => ⟨sz (Nat.le_of_ble_eq_true rfl), fun b4 n_b4 => ⟨third, rfl, sz (Nat.le_of_ble_eq_true rfl), fun c1 n_c1 => ⟨sz (Nat.le_of_ble_eq_true rfl), fun c2 n_c2 => ⟨one, rfl, sz (Nat.le_of_ble_eq_true rfl), fun d1 n_d1 => ⟨sz (Nat.le_of_ble_eq_true rfl), fun d2 n_d2 => ⟨sz (Nat.le_of_ble_eq_true rfl), fun d3 n_d3 => ⟨sz (Nat.le_of_ble_eq_true rfl), fun d4 n_d4 => ⟨sz (Nat.le_of_ble_eq_true rfl), fun l nl => ?_⟩⟩⟩⟩⟩⟩⟩⟩⟩⟩⟩⟩⟩⟩⟩
      have s_a1 := same_newK (o := .tup [.int 0, .int 0]) (Same.refl _) n_a1
      have t_a1 : Tv K _ (.ref a1) (.tup [.int 0, .int 0]) := tv_new n_a1 (.cons (.int 0) (.cons (.int 0) .nil)) (Nat.le_of_ble_eq_true rfl)
      have s_a2 := same_newK (o := .tup [.ref a1]) (Same.refl _) n_a2
      have t_a2 : Tv K _ (.ref a2) (.tup [.tup [.int 0, .int 0]]) := tv_new n_a2 (.cons t_a1 .nil) (Nat.le_of_ble_eq_true rfl)
      have s_a3 := same_newK (o := .tup []) (Same.refl _) n_a3
      have t_a3 : Tv K _ (.ref a3) (.tup []) := tv_new n_a3 (.nil) (Nat.le_of_ble_eq_true rfl)
      have s_a4 := same_newK (o := .tup [one, .str "own", .ref a2, .ref a3]) (Same.refl _) n_a4
      have t_a4 : Tv K _ (.ref a4) (.tup [.obj, .str "own", .tup [.tup [.int 0, .int 0]], .tup []]) := tv_new n_a4 (.cons (h1.up ((s_a1.trans s_a2).trans s_a3)) (.cons (.str _) (.cons (t_a2.up s_a3) (.cons t_a3 .nil)))) (Nat.le_of_ble_eq_true rfl)
      have s_b1 := same_newK (o := .tup [.int 0, .int 0]) (Same.refl _) n_b1
      have t_b1 : Tv K _ (.ref b1) (.tup [.int 0, .int 0]) := tv_new n_b1 (.cons (.int 0) (.cons (.int 0) .nil)) (Nat.le_of_ble_eq_true rfl)
      have s_b2 := same_newK (o := .tup [.ref b1]) (Same.refl _) n_b2
      have t_b2 : Tv K _ (.ref b2) (.tup [.tup [.int 0, .int 0]]) := tv_new n_b2 (.cons t_b1 .nil) (Nat.le_of_ble_eq_true rfl)
      have s_b3 := same_newK (o := .tup []) (Same.refl _) n_b3
      have t_b3 : Tv K _ (.ref b3) (.tup []) := tv_new n_b3 (.nil) (Nat.le_of_ble_eq_true rfl)
      have s_b4 := same_newK (o := .tup [.int 0, other, .ref b2, .ref b3]) (Same.refl _) n_b4
      have t_b4 : Tv K _ (.ref b4) (.tup [.int 0, .obj, .tup [.tup [.int 0, .int 0]], .tup []]) := tv_new n_b4 (.cons (.int 0) (.cons (h2.up ((((((s_a1.trans s_a2).trans s_a3).trans s_a4).trans s_b1).trans s_b2).trans s_b3)) (.cons (t_b2.up s_b3) (.cons t_b3 .nil)))) (Nat.le_of_ble_eq_true rfl)
      have s_c1 := same_newK (o := .tup []) (Same.refl _) n_c1
      have t_c1 : Tv K _ (.ref c1) (.tup []) := tv_new n_c1 (.nil) (Nat.le_of_ble_eq_true rfl)
      have s_c2 := same_newK (o := .tup [.int 0, .str "own", third, .ref c1]) (Same.refl _) n_c2
      have t_c2 : Tv K _ (.ref c2) (.tup [.int 0, .str "own", .obj, .tup []]) := tv_new n_c2 (.cons (.int 0) (.cons (.str _) (.cons (h3.up ((((((((s_a1.trans s_a2).trans s_a3).trans s_a4).trans s_b1).trans s_b2).trans s_b3).trans s_b4).trans s_c1)) (.cons t_c1 .nil)))) (Nat.le_of_ble_eq_true rfl)
      have s_d1 := same_newK (o := .tup [.int 0, one]) (Same.refl _) n_d1
      have t_d1 : Tv K _ (.ref d1) (.tup [.int 0, .obj]) := tv_new n_d1 (.cons (.int 0) (.cons (h1.up (((((((((s_a1.trans s_a2).trans s_a3).trans s_a4).trans s_b1).trans s_b2).trans s_b3).trans s_b4).trans s_c1).trans s_c2)) .nil)) (Nat.le_of_ble_eq_true rfl)
      have s_d2 := same_newK (o := .tup [.ref d1]) (Same.refl _) n_d2
      have t_d2 : Tv K _ (.ref d2) (.tup [.tup [.int 0, .obj]]) := tv_new n_d2 (.cons t_d1 .nil) (Nat.le_of_ble_eq_true rfl)
      have s_d3 := same_newK (o := .tup []) (Same.refl _) n_d3
      have t_d3 : Tv K _ (.ref d3) (.tup []) := tv_new n_d3 (.nil) (Nat.le_of_ble_eq_true rfl)
      have s_d4 := same_newK (o := .tup [.int 0, .str "own", .ref d2, .ref d3]) (Same.refl _) n_d4
      have t_d4 : Tv K _ (.ref d4) (.tup [.int 0, .str "own", .tup [.tup [.int 0, .obj]], .tup []]) := tv_new n_d4 (.cons (.int 0) (.cons (.str _) (.cons (t_d2.up s_d3) (.cons t_d3 .nil)))) (Nat.le_of_ble_eq_true rfl)
      have s_l := same_newK (o := .lst [.ref a4, .ref b4, .ref c2, .ref d4]) (Same.refl _) nl
      have all : Tvs K _ [.ref a4, .ref b4, .ref c2, .ref d4] ts4 := .cons (t_a4.up (((((((((s_b1.trans s_b2).trans s_b3).trans s_b4).trans s_c1).trans s_c2).trans s_d1).trans s_d2).trans s_d3).trans s_d4)) (.cons (t_b4.up (((((s_c1.trans s_c2).trans s_d1).trans s_d2).trans s_d3).trans s_d4)) (.cons (t_c2.up (((s_d1.trans s_d2).trans s_d3).trans s_d4)) (.cons t_d4 .nil)))
      have all' := Tvs.up s_l _ _ all
      have fH := ((((((((((((((s_a1.trans s_a2).trans s_a3).trans s_a4).trans s_b1).trans s_b2).trans s_b3).trans s_b4).trans s_c1).trans s_c2).trans s_d1).trans s_d2).trans s_d3).trans s_d4).trans s_l)
      refine ⟨.ref l, rfl, l, rfl, ⟨_, SqL.of upd_same⟩, for_same (n := 4) (xv := fun i => [.ref a4, .ref b4, .ref c2, .ref d4].getD i .non) (fun σ' => ∃ x3 x4, σ' = [some one, some other, some third, x3, x4, some (.ref l)]) (itl_go (K := K) (xs := [.ref a4, .ref b4, .ref c2, .ref d4]) upd_same) (itl_stop (K := K) (xs := [.ref a4, .ref b4, .ref c2, .ref d4]) upd_same) (itl_yld (K := K) (xs := [.ref a4, .ref b4, .ref c2, .ref d4]) upd_same) ⟨x3, x4, rfl⟩ (fun σ' H' s _ => q H' (fH.trans s)) fun i σ' H' hi s ⟨x3, x4, e⟩ => ?_⟩
      subst e
      have tv := Tvs.getD_ (i := i) all' hi
      have tv' := tv.up s
      have no := ts4_no i hi
      refine ⟨_, rfl, _, _, rfl, tv', fun Ha sa => ?_⟩
      rw [no]
      exact ⟨.bl false, .bl false, .bool false, rfl, .bl _, .bl _, ⟨by decide +kernel, by decide +kernel, by decide +kernel⟩, fun Hb sb => ⟨true, rfl, (s.trans sa).trans sb, _, _, rfl⟩⟩
end
end K01

set_option Elab.async false
set_option linter.all false
set_option maxRecDepth 100000
set_option maxHeartbeats 4000000
namespace D01
open PySem PySem.Spec PyProof.Rows L2 Pg Dl
abbrev sLw : Stmt := K01.topS 39
theorem scLw : FnScope nLaw ["_law_script"] (defScope sLw) := ⟨rfl, rfl, rfl, by decide +kernel, rfl, by decide +kernel, by decide +kernel⟩
def lwS (i : Nat) : Stmt := (defBody sLw).getD i (.Pass ⟨0, 0, 0, 0⟩)
theorem lwS_is : defBody sLw = [lwS 0, lwS 1, lwS 2] := rfl
section
variable {P : Program} {w : World} {K : PySem.W.Frag} {mg : Str → Option Value} {base : Heap} {k : Nat}
theorem q3 {X : Cx} {a b : Stmt} {rest : List Stmt} {ts1 ts2 ts3 : TS} {f1 f2 : SF} (h1 : QS K X a ts1 f1) (h2 : QS K X b ts2 f2) (h3 : PSs X rest ts3) : PSs X (a :: b :: rest) (tSeq ts1 (tSeq ts2 ts3)) ∧ SS K ts1 f1 ∧ SS K ts2 f2 :=
  ⟨pss_cons h1.ps (pss_cons h2.ps h3), h1.ss, h2.ss⟩
theorem lw_all {f : Addr} {cdv : Value} {A : Around} {outer : List PySem.Env} {s : Shared} {H : Hp} {E : XK} {ts3 : TS} (hg : A.guards = some []) (hr : Room k (A.deeper (envOfC "law" (defScope sLw) s.heap.objs.size f cdv))) (m_range : mg "range" = none) (m_repr : mg "repr" = none) (c_Bag : Cal P w K mg base k "_law_bag" ["_law_script"] fBag) (c_Alike : Cal P w K mg base k "_law_alike" ["_law_found", "_law_due"] fAlike) (c_PIsCell : Cal P w K mg base k "is_cell" ["thing"] fPIC) (c_PIsTicket : Cal P w K mg base k "is_ticket" ["thing"] fPIT) (c_PIsPlace : Cal P w K mg base k "is_place" ["thing"] fPIP) (c_PIsLot : Cal P w K mg base k "is_lot" ["thing"] fPIL) (c_PIsInteger : Cal P w K mg base k "is_integer" ["thing"] fPIsInteger) (c_IsCell : Cal P w K mg base k "_law_is_cell" ["_law_thing_here"] fLIC) (c_IsTicket : Cal P w K mg base k "_law_is_ticket" ["_law_thing_here"] fLIT) (c_IsPlace : Cal P w K mg base k "_law_is_place" ["_law_thing_here"] fLIP) (c_IsLot : Cal P w K mg base k "_law_is_lot" ["_law_thing_here"] fLIL) (c_IsWhole : Cal P w K mg base k "_law_is_whole" ["_law_thing_here"] fIsWhole) (c_Some : Cal P w K mg base k "_law_some" ["_law_bag_here", "_law_things"] (fSome fTake)) (c_Take : Cal P w K mg base k "_law_take" ["_law_bag_here", "_law_many"] fTake) (c_Bent : Cal P w K mg base k "_law_bent" ["_law_bag_here", "_law_thing_here", "_law_deep"] fBnt) (c_Truthed : Cal P w K mg base k "_law_truthed" ["_law_bag_here", "_law_thing_here"] fTrd) (c_Thing : Cal P w K mg base k "_law_thing" ["_law_bag_here"] fThg)
    (h3 : PSs (cxOf CX0 P w K mg base nLaw "law" (defScope sLw) f cdv A outer s H E).nox [lwS 2] ts3) :
    ∃ ts1 ts2, PSs (cxOf CX0 P w K mg base nLaw "law" (defScope sLw) f cdv A outer s H E).nox (defBody sLw) (tSeq ts1 (tSeq ts2 ts3)) ∧ SS K ts1 law1 ∧ SS K ts2 law2 := by
  obtain ⟨ts1, ts2, f1, f2, h, e1, e2⟩ : ∃ ts1 ts2 f1 f2, (PSs (cxOf CX0 P w K mg base nLaw "law" (defScope sLw) f cdv A outer s H E).nox (defBody sLw) (tSeq ts1 (tSeq ts2 ts3)) ∧ SS K ts1 f1 ∧ SS K ts2 f2) ∧ f1 = law1 ∧ f2 = law2 := ⟨_, _, _, _, q3 (qs_set (i := 1) (q_call c_Bag rfl hg hr (qa_cons (q_var 0 (pv 0)) qa_nil rfl) rfl (by decide) rfl rfl) scLw.nd rfl (by first | exact Or.inl rfl | exact Or.inr rfl) rfl (by first | exact .inl rfl | exact .inr rfl))
    (qs_for PassesOwn.never rfl (qi_range1 m_range (qa_cons q_int qa_nil rfl) rfl rfl) (qg_nm (pg_name (i := 2) scLw.nd rfl (by first | exact Or.inl rfl | exact Or.inr rfl)))
        (qs_cons (qs_set (i := 3) (q_call c_Thing rfl hg hr (qa_cons (q_var 1 (pv 1)) qa_nil rfl) rfl (by decide) rfl rfl) scLw.nd rfl (by first | exact Or.inl rfl | exact Or.inr rfl) rfl (by first | exact .inl rfl | exact .inr rfl))
      (qs_cons (qs_for PassesOwn.never rfl (qi_range1 m_range (qa_cons (q_call c_Some rfl hg hr (qa_cons (q_var 1 (pv 1)) (qa_cons (q_lst (qa_cons q_int (qa_cons q_int (qa_cons q_int (qa_cons q_int qa_nil rfl) rfl) rfl) rfl)) qa_nil rfl) rfl) rfl (by decide) rfl rfl) qa_nil rfl) rfl rfl) (qg_nm (pg_name (i := 4) scLw.nd rfl (by first | exact Or.inl rfl | exact Or.inr rfl)))
        (qs_one (qs_set (i := 3) (q_if (qb_cmp (so_cm _) (op_gtD hr.units) (q_call c_Take rfl hg hr (qa_cons (q_var 1 (pv 1)) (qa_cons q_int qa_nil rfl) rfl) rfl (by decide) rfl rfl) q_int (nomark _)) (q_call c_Bent rfl hg hr (qa_cons (q_var 1 (pv 1)) (qa_cons (q_var 3 (pv 3)) (qa_cons q_int qa_nil rfl) rfl) rfl) rfl (by decide) rfl rfl) (q_call c_Truthed rfl hg hr (qa_cons (q_var 1 (pv 1)) (qa_cons (q_var 3 (pv 3)) qa_nil rfl) rfl) rfl (by decide) rfl rfl)) scLw.nd rfl (by first | exact Or.inl rfl | exact Or.inr rfl) rfl (by first | exact .inl rfl | exact .inr rfl))) (fun _ => rfl))
      (qs_cons (qs_set (i := 5) (q_lst (qa_cons (q_call c_IsWhole rfl hg hr (qa_cons (q_var 3 (pv 3)) qa_nil rfl) rfl (by decide) rfl rfl) (qa_cons (q_call c_IsLot rfl hg hr (qa_cons (q_var 3 (pv 3)) qa_nil rfl) rfl (by decide) rfl rfl) (qa_cons (q_call c_IsPlace rfl hg hr (qa_cons (q_var 3 (pv 3)) qa_nil rfl) rfl (by decide) rfl rfl) qa_nil rfl) rfl) rfl)) scLw.nd rfl (by first | exact Or.inl rfl | exact Or.inr rfl) rfl (by first | exact .inl rfl | exact .inr rfl))
      (qs_cons (qs_set (i := 5) (q_op so_add op_addD (q_var 5 (pv 5)) (q_lst (qa_cons (q_call c_IsTicket rfl hg hr (qa_cons (q_var 3 (pv 3)) qa_nil rfl) rfl (by decide) rfl rfl) (qa_cons (q_call c_IsCell rfl hg hr (qa_cons (q_var 3 (pv 3)) qa_nil rfl) rfl (by decide) rfl rfl) qa_nil rfl) rfl))) scLw.nd rfl (by first | exact Or.inl rfl | exact Or.inr rfl) rfl (by first | exact .inl rfl | exact .inr rfl))
      (qs_cons (qs_set (i := 6) (q_cb sc_repr (call_reprD hg hr.units) m_repr (by decide +kernel) (qa_cons (q_var 3 (pv 3)) qa_nil rfl) rfl (by decide) (by decide) rfl rfl) scLw.nd rfl (by first | exact Or.inl rfl | exact Or.inr rfl) rfl (by first | exact .inl rfl | exact .inr rfl))
      (qs_one (qs_for PassesOwn.never rfl (qi_range1 m_range (qa_cons q_int qa_nil rfl) rfl rfl) (qg_nm (pg_name (i := 4) scLw.nd rfl (by first | exact Or.inl rfl | exact Or.inr rfl)))
        (qs_cons (qs_set (i := 7) (q_lst (qa_cons (q_call c_PIsInteger rfl hg hr (qa_cons (q_var 3 (pv 3)) qa_nil rfl) rfl (by decide) rfl rfl) (qa_cons (q_call c_PIsLot rfl hg hr (qa_cons (q_var 3 (pv 3)) qa_nil rfl) rfl (by decide) rfl rfl) (qa_cons (q_call c_PIsPlace rfl hg hr (qa_cons (q_var 3 (pv 3)) qa_nil rfl) rfl (by decide) rfl rfl) (qa_cons (q_call c_PIsTicket rfl hg hr (qa_cons (q_var 3 (pv 3)) qa_nil rfl) rfl (by decide) rfl rfl) (qa_cons (q_call c_PIsCell rfl hg hr (qa_cons (q_var 3 (pv 3)) qa_nil rfl) rfl (by decide) rfl rfl) qa_nil rfl) rfl) rfl) rfl) rfl)) scLw.nd rfl (by first | exact Or.inl rfl | exact Or.inr rfl) rfl (by first | exact .inl rfl | exact .inr rfl))
      (qs_one (qs_if (qb_w (qw_or (qb_not (qb_tru rfl (q_call c_Alike rfl hg hr (qa_cons (q_var 7 (pv 7)) (qa_cons (q_var 5 (pv 5)) qa_nil rfl) rfl) rfl (by decide) rfl rfl) (fun _ => rfl))) (qw_or1 (qb_cmp so_ne (op_neA hr.units) (q_cb sc_repr (call_reprD hg hr.units) m_repr (by decide +kernel) (qa_cons (q_var 3 (pv 3)) qa_nil rfl) rfl (by decide) (by decide) rfl rfl) (q_var 6 (pv 6)) (nomark _)))))
        (qs_one (qs_ret q_bl))
        qs_nil))) (fun _ => rfl)))))))) (fun _ => rfl)) h3, rfl, rfl⟩
  subst e1 e2
  exact ⟨ts1, ts2, h⟩
end
end D01

set_option Elab.async false
set_option linter.all false
set_option maxRecDepth 100000
set_option maxHeartbeats 4000000
namespace Dl
open PySem PySem.Spec PyProof.Rows L2 Pg
def wd0 (H : Hp) : Wd := ⟨[], fun _ => False, [], H⟩
theorem wd0_at {H : Hp} {n : Nat} {c : Cell} {a : Addr} : ¬ (wd0 H).At n c a := fun h => by
  have := h.1
  simp [wd0] at this
theorem wd0_ok {K : PySem.W.Frag} {H : Hp} : (wd0 H).Ok K := ⟨rfl, fun h => (wd0_at h).elim, fun h => (wd0_at h).elim, fun a h => h.elim, fun h => (wd0_at h).elim⟩
theorem wd0_fr {H : Hp} : (wd0 H).fr = H := by
  funext a
  unfold Wd.fr
  rw [if_neg]
  · rfl
  · rintro (h | ⟨n, c, h⟩)
    · exact h
    · exact wd0_at h
end Dl
namespace D01
open PySem PySem.Spec PyProof.Rows L2 Pg Dl
def spLw (K : PySem.W.Frag) : Sp := fun vs H Q _ => ∃ (a : Addr) (ns : List Int), vs = [.ref a] ∧ SqL K H a (ns.map V.int) ∧ ns.length ≤ 63 ∧ ∀ H', Q (.bl true) H'
section
variable {P : Program} {w : World} {K : PySem.W.Frag} {mg : Str → Option Value} {base : Heap} {k : Nat}
theorem ref_d {K : PySem.W.Frag} {S : Wd} {x : V} {n : Int} (h : RV K S x (.d (.int n))) : x = .int n := by
  cases (show Dd K S.fr x (.int n) from h)
  rfl
theorem okLw {f fS f0 f1 f2 C0 C1 C2 : Addr} {fd fdS fd0 fd1 fd2 : FuncData} (F : Fun K "law" "law" sLw f fd) (m_range : mg "range" = none) (m_repr : mg "repr" = none) (c_Bag : Cal P w K mg base k "_law_bag" ["_law_script"] fBag) (c_Alike : Cal P w K mg base k "_law_alike" ["_law_found", "_law_due"] fAlike) (c_PIsCell : Cal P w K mg base k "is_cell" ["thing"] fPIC) (c_PIsTicket : Cal P w K mg base k "is_ticket" ["thing"] fPIT) (c_PIsPlace : Cal P w K mg base k "is_place" ["thing"] fPIP) (c_PIsLot : Cal P w K mg base k "is_lot" ["thing"] fPIL) (c_PIsInteger : Cal P w K mg base k "is_integer" ["thing"] fPIsInteger) (c_IsCell : Cal P w K mg base k "_law_is_cell" ["_law_thing_here"] fLIC) (c_IsTicket : Cal P w K mg base k "_law_is_ticket" ["_law_thing_here"] fLIT) (c_IsPlace : Cal P w K mg base k "_law_is_place" ["_law_thing_here"] fLIP) (c_IsLot : Cal P w K mg base k "_law_is_lot" ["_law_thing_here"] fLIL) (c_IsWhole : Cal P w K mg base k "_law_is_whole" ["_law_thing_here"] fIsWhole) (c_Some : Cal P w K mg base k "_law_some" ["_law_bag_here", "_law_things"] (fSome fTake)) (c_Take : Cal P w K mg base k "_law_take" ["_law_bag_here", "_law_many"] fTake) (c_Bent : Cal P w K mg base k "_law_bent" ["_law_bag_here", "_law_thing_here", "_law_deep"] fBnt) (c_Truthed : Cal P w K mg base k "_law_truthed" ["_law_bag_here", "_law_thing_here"] fTrd) (c_Thing : Cal P w K mg base k "_law_thing" ["_law_bag_here"] fThg)
    (GS : FnG P w K mg base (k + 1) fS fdS ["_law_one", "_law_other", "_law_third"] (spStr K)) (bS : Binds K fdS ["_law_one", "_law_other", "_law_third"] []) (gS : mg "_law_are_strangers" = some (.ref fS)) (kS : PySem.W.keepIn K (.ref fS) = true)
    (T0 : XCls K C0) (N0 : XIni K C0 f0) (G0 : FnOk P w K mg base CX0 k f0 fd0 ["self"] spIni0) (b0 : Binds K fd0 ["self"] []) (g0 : mg "Nothing" = some (.ref C0)) (t0 : ∀ q : Kd, PySem.W.kitOne K (.ref C0) (.type q.nm) = some false)
    (T1 : XCls K C1) (N1 : XIni K C1 f1) (G1 : FnOk P w K mg base CX0 k f1 fd1 ["self", "process"] (spIni1 C1 "process")) (b1 : Binds K fd1 ["self", "process"] []) (g1 : mg "NoProcess" = some (.ref C1)) (t1 : ∀ q : Kd, PySem.W.kitOne K (.ref C1) (.type q.nm) = some false)
    (T2 : XCls K C2) (N2 : XIni K C2 f2) (G2 : FnOk P w K mg base CX0 k f2 fd2 ["self", "process", "page"] (spIni2 C2 "process" "page")) (b2 : Binds K fd2 ["self", "process", "page"] []) (g2 : mg "NoPlace" = some (.ref C2)) (t2 : ∀ q : Kd, PySem.W.kitOne K (.ref C2) (.type q.nm) = some false) :
    FnG P w K mg base (k + 2) f fd ["_law_script"] (spLw K) := by
  refine okG F scLw (fun vs H Q E h => ?_) (fun cdv A outer s H vs Q E hg hr h => ?_)
  · obtain ⟨a, _, rfl, _⟩ := h
    rfl
  · obtain ⟨a, ns, rfl, hS, hl, q⟩ := h
    obtain ⟨t3, f3, p3, s3, e3⟩ : ∃ t3 f3, PSs (cxOf CX0 P w K mg base nLaw "law" (defScope sLw) f cdv A outer s H E).nox [lwS 2] (tRet (tCall (spStr K) [] E0 (tCons (tMkV C0 spIni0 tNil) (tCons (tMkV C1 (spIni1 C1 "process") (tCons t3 tNil)) (tCons (tMkV C2 (spIni2 C2 "process" "page") (tCons (tC (.int 0)) (tCons (tC (.int 1)) tNil))) tNil))))) ∧ SE K t3 f3 ∧ f3 = eCall 2 fTake (aCons (eVar 1) (aCons (eC (.int 2)) aNil)) := by
      refine' ⟨_, _, pss_one (ps_ret (callG GS hg hr (by rfl) gS kS bS (pa_cons (pe_mkV0 T0.ox N0 G0 hr b0 (by rfl) g0) (pa_cons (pe_mkV T1.ox N1 G1 hr b1 (by rfl) g1 (pa_cons (QE.pe ?h) pa_nil)) (pa_cons (pe_mkV T2.ox N2 G2 hr b2 (by rfl) g2 (pa_cons pe_int (pa_cons pe_int pa_nil))) pa_nil))))), QE.se ?h, ?e⟩
      case h => exact q_call c_Take rfl hg (hr.mono (Nat.le_succ k)) (qa_cons (q_var 1 (pv 1)) (qa_cons q_int qa_nil rfl) rfl) rfl (by decide) rfl rfl
      case e => rfl
    subst e3
    obtain ⟨u1, u2, p, k1, k2⟩ := lw_all hg (hr.mono (Nat.le_succ k)) m_range m_repr c_Bag c_Alike c_PIsCell c_PIsTicket c_PIsPlace c_PIsLot c_PIsInteger c_IsCell c_IsTicket c_IsPlace c_IsLot c_IsWhole c_Some c_Take c_Bent c_Truthed c_Thing p3
    refine ⟨_, p, ?_⟩
    have hd : RVs K (wd0 H) [.ref a] [.d (.list (ns.map .int))] := .cons (show Dd K (wd0 H).fr (.ref a) (.list (ns.map .int)) from by rw [wd0_fr]; exact .lst hS (ints_dds ns)) .nil
    have h1 : R1 (law1 (startD nLaw [.d (.list (ns.map .int))]) []) fun o => ∃ s, o = .nx [some (.d (.list (ns.map .int))), some (.r 0), none, none, none, none, none, none] s ∧ BagS [] s := by
      show R1 (law1 [some (.d (.list (ns.map .int))), none, none, none, none, none, none, none] []) _
      unfold law1 gLaw_1
      try simp only [r1_some, r2_some, r1_none, r_var, r_c, r_op, r_fz, r_bval, r_btru, r_band, r_bor, r_bnot, r_if, r_and, r_or, r_not, r_nil, r_cons, r_tup, r_lst, r_lstN, r_cb, r_is, r_call, r_neg, r_chain, r_ixC, ro_no, ro_some, r_sl, rt_nm, rs_next, rs_ret, rs_seq, rs_if, rs_asg, rs_asgT, rs_par, rt_nil, rt_cons, rt_tp, ri_data, ri_range1, ri_range2, ri_enum, r_comp, startD, look_d, looks_nil, looks_d, datas_nil, datas_d, tru_b, tru_i, List.length_cons, List.length_nil, List.getElem?_cons_zero, List.getElem?_cons_succ, List.set_cons_zero, List.set_cons_succ, Option.map_some, List.map_cons, List.map_nil, Nat.reduceAdd, Nat.reduceSub, Nat.reduceEqDiff, List.reduceReplicate, List.cons_append, List.nil_append, List.append_nil, true_and, and_true]
      refine (bag_sp ns).mono fun v s hv => ?_
      obtain ⟨rfl, hs⟩ := hv
      try simp only [r1_some, r2_some, r1_none, r_var, r_c, r_op, r_fz, r_bval, r_btru, r_band, r_bor, r_bnot, r_if, r_and, r_or, r_not, r_nil, r_cons, r_tup, r_lst, r_lstN, r_cb, r_is, r_call, r_neg, r_chain, r_ixC, ro_no, ro_some, r_sl, rt_nm, rs_next, rs_ret, rs_seq, rs_if, rs_asg, rs_asgT, rs_par, rt_nil, rt_cons, rt_tp, ri_data, ri_range1, ri_range2, ri_enum, r_comp, startD, look_d, looks_nil, looks_d, datas_nil, datas_d, tru_b, tru_i, List.length_cons, List.length_nil, List.getElem?_cons_zero, List.getElem?_cons_succ, List.set_cons_zero, List.set_cons_succ, Option.map_some, List.map_cons, List.map_nil, Nat.reduceAdd, Nat.reduceSub, Nat.reduceEqDiff, List.reduceReplicate, List.cons_append, List.nil_append, List.append_nil, true_and, and_true]
      exact ⟨s, rfl, hs⟩
    obtain ⟨o1, e1, s1, rfl, hb⟩ := h1
    refine k1 (wd0 H) _ _ _ wd0_ok (renv_start hd) e1 _ fun S1 σ1 l1 st1 x1 ok1 en1 => ?_
    subst st1
    obtain ⟨o2, e2, c1, c2, c3, c4, c5, c6, s2, rfl, hb2⟩ := turns (scr := some (.d (.list (ns.map .int)))) (a := none) (b := none) (c := none) (d := none) (e := none) (f := none) hb
    refine k2 S1 _ σ1 _ ok1 en1 e2 _ fun S2 σ2 l2 st2 x2 ok2 en2 => ?_
    subst st2
    refine ⟨by decide, fun e0 n0 => ⟨e0, rfl, rfl, ?_⟩⟩
    have okA := ok2.put n0 (exo e0 C0 none)
    have xA := ok2.ext_put n0 (exo e0 C0 none)
    have h3 : R2 (eCall 2 fTake (aCons (eVar 1) (aCons (eC (.int 2)) aNil)) [some (.d (.list (ns.map .int))), some (.r 0), c1, c2, c3, c4, c5, c6] (S2.put e0 (exo e0 C0 none)).st) fun v s => ∃ n : Int, v = .d (.int n) := by
      try simp only [r1_some, r2_some, r1_none, r_var, r_c, r_op, r_fz, r_bval, r_btru, r_band, r_bor, r_bnot, r_if, r_and, r_or, r_not, r_nil, r_cons, r_tup, r_lst, r_lstN, r_cb, r_is, r_call, r_neg, r_chain, r_ixC, ro_no, ro_some, r_sl, rt_nm, rs_next, rs_ret, rs_seq, rs_if, rs_asg, rs_asgT, rs_par, rt_nil, rt_cons, rt_tp, ri_data, ri_range1, ri_range2, ri_enum, r_comp, startD, look_d, looks_nil, looks_d, datas_nil, datas_d, tru_b, tru_i, List.length_cons, List.length_nil, List.getElem?_cons_zero, List.getElem?_cons_succ, List.set_cons_zero, List.set_cons_succ, Option.map_some, List.map_cons, List.map_nil, Nat.reduceAdd, Nat.reduceSub, Nat.reduceEqDiff, List.reduceReplicate, List.cons_append, List.nil_append, List.append_nil, true_and, and_true]
      refine (take_sp (by decide) (by decide) hb2).mono fun u s hv => ?_
      obtain ⟨⟨z, rfl, z0, z1⟩, hs⟩ := hv
      try simp only [r1_some, r2_some, r1_none, r_var, r_c, r_op, r_fz, r_bval, r_btru, r_band, r_bor, r_bnot, r_if, r_and, r_or, r_not, r_nil, r_cons, r_tup, r_lst, r_lstN, r_cb, r_is, r_call, r_neg, r_chain, r_ixC, ro_no, ro_some, r_sl, rt_nm, rs_next, rs_ret, rs_seq, rs_if, rs_asg, rs_asgT, rs_par, rt_nil, rt_cons, rt_tp, ri_data, ri_range1, ri_range2, ri_enum, r_comp, startD, look_d, looks_nil, looks_d, datas_nil, datas_d, tru_b, tru_i, List.length_cons, List.length_nil, List.getElem?_cons_zero, List.getElem?_cons_succ, List.set_cons_zero, List.set_cons_succ, Option.map_some, List.map_cons, List.map_nil, Nat.reduceAdd, Nat.reduceSub, Nat.reduceEqDiff, List.reduceReplicate, List.cons_append, List.nil_append, List.append_nil, true_and, and_true]
      exact ⟨z, rfl⟩
    obtain ⟨v3, s3', e3, n, rfl⟩ := h3
    refine s3 (S2.put e0 (exo e0 C0 none)) _ σ2 _ s3' okA (en2.up xA) e3 _ fun S3 y l3 st3 x3 ok3 r3 => ?_
    cases ref_d r3
    have a0 : S3.H e0 = some (exo e0 C0 none) := (fr_of (x3.keep _ _ (ok2.got n0))).2
    refine ⟨(by show 1 ≤ 1000; decide), fun e1' n1 => ⟨e1', .int n, rfl, upd_same, fun dx nx ne => ⟨rfl, ?_⟩⟩⟩
    refine ⟨by decide, fun e2' n2 => ⟨e2', .int 0, .int 1, rfl, upd_same, fun dx2 H4 nd ne2 keep a1 a2 _ => ⟨rfl, ?_⟩⟩⟩
    have ndx : S3.H dx = none := by
      rw [upd_ne ne] at nx
      exact nx
    have b0 : H4 e0 = some (exo e0 C0 none) := by
      have z : (upd (upd (upd S3.H e1' (exo e1' C1 none)) dx (exd dx [("process", V.int n)])) e1' (exo e1' C1 (some dx))) e0 = some (exo e0 C0 none) := by
        rw [upd_ne (ne_of_none a0 n1), upd_ne (ne_of_none a0 ndx), upd_ne (ne_of_none a0 n1)]
        exact a0
      exact keep _ _ (ne_of_none z n2) (by rw [upd_ne (ne_of_none z n2)]; exact z)
    have b1 : H4 e1' = some (exo e1' C1 (some dx)) := by
      have z : (upd (upd (upd S3.H e1' (exo e1' C1 none)) dx (exd dx [("process", V.int n)])) e1' (exo e1' C1 (some dx))) e1' = some (exo e1' C1 (some dx)) := upd_same
      exact keep _ _ (ne_of_none z n2) (by rw [upd_ne (ne_of_none z n2)]; exact z)
    have b1d : H4 dx = some (exd dx [("process", V.int n)]) := by
      have z : (upd (upd (upd S3.H e1' (exo e1' C1 none)) dx (exd dx [("process", V.int n)])) e1' (exo e1' C1 (some dx))) dx = some (exd dx [("process", V.int n)]) := by
        rw [upd_ne ne]
        exact upd_same
      exact keep _ _ (ne_of_none z n2) (by rw [upd_ne (ne_of_none z n2)]; exact z)
    exact ⟨.ref e0, .ref e1', .ref e2', rfl, .obj b0 (fun z h => nomatch h) T0 t0, .obj b1 (fun z h => by cases h; exact ⟨_, b1d⟩) T1 t1, .obj a1 (fun z h => by cases h; exact ⟨_, a2⟩) T2 t2, fun H' _ => q H'⟩
end
end D01

set_option Elab.async false
set_option linter.all false
set_option maxRecDepth 100000
set_option maxHeartbeats 16000000
namespace D01
open PySem PySem.Spec PyProof.Rows L2 Pg Dl
/-- what the top has written; the law's own head -/
theorem all_mk {P : Program} {w : World} {K : PySem.W.Frag} {h : Heap} {mg : Str → Option Value} {fa : Addr} (X : K.In h) (G : h.Ns mainGlobals mg) (hfa : mg "law" = some (.ref fa))
    {nm0 qn0 : Str} {N0 : Addr} {bs0 : List Value} {sn0 : List Str} {sub0 : List Value} {ab0 : Bool} {col0 : Option Bool} {dd0 : Option Addr} {m00 m10 m20 m30 m50 : Option Value} {C0 I0 : Addr}
    {od0 an0 : Option Addr} {sl0 : Array (Option Value)} {oc0 kV0 dc0 pm0 cd0 ct0 : Value}
    {nm1 qn1 : Str} {N1 : Addr} {bs1 : List Value} {sn1 : List Str} {sub1 : List Value} {ab1 : Bool} {col1 : Option Bool} {dd1 : Option Addr} {m01 m11 m21 m31 m51 : Option Value} {C1 I1 : Addr}
    {od1 an1 : Option Addr} {sl1 : Array (Option Value)} {oc1 kV1 dc1 pm1 cd1 ct1 : Value}
    {nm2 qn2 : Str} {N2 : Addr} {bs2 : List Value} {sn2 : List Str} {sub2 : List Value} {ab2 : Bool} {col2 : Option Bool} {dd2 : Option Addr} {m02 m12 m22 m32 m52 : Option Value} {C2 I2 : Addr}
    {od2 an2 : Option Addr} {sl2 : Array (Option Value)} {oc2 kV2 dc2 pm2 cd2 ct2 : Value}
    {sw : Addr}
    {uPIsInteger : Addr} {odPIsInteger anPIsInteger : Option Addr} {slPIsInteger : Array (Option Value)} {ocPIsInteger kVPIsInteger dcPIsInteger pmPIsInteger cdPIsInteger ctPIsInteger : Value}
    {uPIsNumber : Addr} {odPIsNumber anPIsNumber : Option Addr} {slPIsNumber : Array (Option Value)} {ocPIsNumber kVPIsNumber dcPIsNumber pmPIsNumber cdPIsNumber ctPIsNumber : Value}
    {uPIsRow : Addr} {odPIsRow anPIsRow : Option Addr} {slPIsRow : Array (Option Value)} {ocPIsRow kVPIsRow dcPIsRow pmPIsRow cdPIsRow ctPIsRow : Value}
    {uPAscends : Addr} {odPAscends anPAscends : Option Addr} {slPAscends : Array (Option Value)} {ocPAscends kVPAscends dcPAscends pmPAscends cdPAscends ctPAscends : Value}
    {uPIsLot : Addr} {odPIsLot anPIsLot : Option Addr} {slPIsLot : Array (Option Value)} {ocPIsLot kVPIsLot dcPIsLot pmPIsLot cdPIsLot ctPIsLot : Value}
    {uPIsSomeLot : Addr} {odPIsSomeLot anPIsSomeLot : Option Addr} {slPIsSomeLot : Array (Option Value)} {ocPIsSomeLot kVPIsSomeLot dcPIsSomeLot pmPIsSomeLot cdPIsSomeLot ctPIsSomeLot : Value}
    {uPIsNumberPair : Addr} {odPIsNumberPair anPIsNumberPair : Option Addr} {slPIsNumberPair : Array (Option Value)} {ocPIsNumberPair kVPIsNumberPair dcPIsNumberPair pmPIsNumberPair cdPIsNumberPair ctPIsNumberPair : Value}
    {uPIsPlace : Addr} {odPIsPlace anPIsPlace : Option Addr} {slPIsPlace : Array (Option Value)} {ocPIsPlace kVPIsPlace dcPIsPlace pmPIsPlace cdPIsPlace ctPIsPlace : Value}
    {uPIsLotOfPairs : Addr} {odPIsLotOfPairs anPIsLotOfPairs : Option Addr} {slPIsLotOfPairs : Array (Option Value)} {ocPIsLotOfPairs kVPIsLotOfPairs dcPIsLotOfPairs pmPIsLotOfPairs cdPIsLotOfPairs ctPIsLotOfPairs : Value}
    {uPIsTicket : Addr} {odPIsTicket anPIsTicket : Option Addr} {slPIsTicket : Array (Option Value)} {ocPIsTicket kVPIsTicket dcPIsTicket pmPIsTicket cdPIsTicket ctPIsTicket : Value}
    {uPIsCell : Addr} {odPIsCell anPIsCell : Option Addr} {slPIsCell : Array (Option Value)} {ocPIsCell kVPIsCell dcPIsCell pmPIsCell cdPIsCell ctPIsCell : Value}
    {uBag : Addr} {odBag anBag : Option Addr} {slBag : Array (Option Value)} {ocBag kVBag dcBag pmBag cdBag ctBag : Value}
    {uTake : Addr} {odTake anTake : Option Addr} {slTake : Array (Option Value)} {ocTake kVTake dcTake pmTake cdTake ctTake : Value}
    {uSome : Addr} {odSome anSome : Option Addr} {slSome : Array (Option Value)} {ocSome kVSome dcSome pmSome cdSome ctSome : Value}
    {uAlike : Addr} {odAlike anAlike : Option Addr} {slAlike : Array (Option Value)} {ocAlike kVAlike dcAlike pmAlike cdAlike ctAlike : Value}
    {uIsWhole : Addr} {odIsWhole anIsWhole : Option Addr} {slIsWhole : Array (Option Value)} {ocIsWhole kVIsWhole dcIsWhole pmIsWhole cdIsWhole ctIsWhole : Value}
    {uPages : Addr} {odPages anPages : Option Addr} {slPages : Array (Option Value)} {ocPages kVPages dcPages pmPages cdPages ctPages : Value}
    {uValue : Addr} {odValue anValue : Option Addr} {slValue : Array (Option Value)} {ocValue kVValue dcValue pmValue cdValue ctValue : Value}
    {uBent : Addr} {odBent anBent : Option Addr} {slBent : Array (Option Value)} {ocBent kVBent dcBent pmBent cdBent ctBent : Value}
    {uUnits : Addr} {odUnits anUnits : Option Addr} {slUnits : Array (Option Value)} {ocUnits kVUnits dcUnits pmUnits cdUnits ctUnits : Value}
    {uWithTruth : Addr} {odWithTruth anWithTruth : Option Addr} {slWithTruth : Array (Option Value)} {ocWithTruth kVWithTruth dcWithTruth pmWithTruth cdWithTruth ctWithTruth : Value}
    {uTruthed : Addr} {odTruthed anTruthed : Option Addr} {slTruthed : Array (Option Value)} {ocTruthed kVTruthed dcTruthed pmTruthed cdTruthed ctTruthed : Value}
    {uIsNatural : Addr} {odIsNatural anIsNatural : Option Addr} {slIsNatural : Array (Option Value)} {ocIsNatural kVIsNatural dcIsNatural pmIsNatural cdIsNatural ctIsNatural : Value}
    {uIsLot : Addr} {odIsLot anIsLot : Option Addr} {slIsLot : Array (Option Value)} {ocIsLot kVIsLot dcIsLot pmIsLot cdIsLot ctIsLot : Value}
    {uIsPlace : Addr} {odIsPlace anIsPlace : Option Addr} {slIsPlace : Array (Option Value)} {ocIsPlace kVIsPlace dcIsPlace pmIsPlace cdIsPlace ctIsPlace : Value}
    {uArePlaces : Addr} {odArePlaces anArePlaces : Option Addr} {slArePlaces : Array (Option Value)} {ocArePlaces kVArePlaces dcArePlaces pmArePlaces cdArePlaces ctArePlaces : Value}
    {uIsTicket : Addr} {odIsTicket anIsTicket : Option Addr} {slIsTicket : Array (Option Value)} {ocIsTicket kVIsTicket dcIsTicket pmIsTicket cdIsTicket ctIsTicket : Value}
    {uIsCell : Addr} {odIsCell anIsCell : Option Addr} {slIsCell : Array (Option Value)} {ocIsCell kVIsCell dcIsCell pmIsCell cdIsCell ctIsCell : Value}
    {uLot : Addr} {odLot anLot : Option Addr} {slLot : Array (Option Value)} {ocLot kVLot dcLot pmLot cdLot ctLot : Value}
    {uPlaces : Addr} {odPlaces anPlaces : Option Addr} {slPlaces : Array (Option Value)} {ocPlaces kVPlaces dcPlaces pmPlaces cdPlaces ctPlaces : Value}
    {uThing : Addr} {odThing anThing : Option Addr} {slThing : Array (Option Value)} {ocThing kVThing dcThing pmThing cdThing ctThing : Value}
    {uAreStrangers : Addr} {odAreStrangers anAreStrangers : Option Addr} {slAreStrangers : Array (Option Value)} {ocAreStrangers kVAreStrangers dcAreStrangers pmAreStrangers cdAreStrangers ctAreStrangers : Value}
    {uLaw : Addr} {odLaw anLaw : Option Addr} {slLaw : Array (Option Value)} {ocLaw kVLaw dcLaw pmLaw cdLaw ctLaw : Value}
    (sA : PySem.W.nsIn K mainGlobals "SwornError" = some (some (.ref sw)))
    (xA0 : PySem.W.nsIn K mainGlobals "Nothing" = some (some (.ref C0)))
    (xL0 : K.lookup C0 = some (excClassObj nm0 qn0 C0 N0 bs0 [.ref sw, .type "ValueError", .type "Exception", .type "BaseException", .type "object"] true sn0 sub0 ab0 col0 dd0 m00 m10 m20 m30 m50 "ValueError.__new__"))
    (xs0 : PySem.W.findIn K (.ref C0) "__setattr__" = some (some (.builtin "object.__setattr__")))
    (xg0 : PySem.W.findIn K (.ref C0) "__getattribute__" = some (some (.builtin "BaseException.__getattribute__")))
    (xh0 : PySem.W.findIn K (.ref C0) "__getattr__" = some none)
    (xc0 : PySem.W.findIn K (.ref C0) "__class__" = some (some (.builtin "object.__class__")))
    (xi0 : PySem.W.findIn K (.ref C0) "__init__" = some (some (.ref I0)))
    (xt0 : PySem.W.typeIn K (.ref I0) = some (.type "function"))
    (xl0 : K.lookup I0 = some ⟨oc0, od0, .func (PySem.W.fnOf "__init__" "Nothing.__init__" (defArgs K01.sN0) (defBody K01.sN0) (defScope K01.sN0) .none kV0 dc0 pm0 an0 cd0 ct0), sl0⟩)
    (xd0 : PySem.W.codeIn K cd0 "Nothing.__init__" = true)
    (xk0 : PySem.W.keepIn K (.ref I0) = true)
    (yk0 : PySem.W.keepIn K (.ref C0) = true)
    (ye0 : PySem.W.subIn K (.ref C0) (.type "BaseException") = some true)
    (yt0 : PySem.W.typeIn K (.ref C0) = some (.type "type"))
    (yh0 : PySem.W.hasDictIn K C0 = true)
    (yc0 : PySem.W.isClsIn K C0 = true)
    (ym0 : PySem.W.mroIn K C0 (.type "object") = some true)
    (kt0_int : PySem.W.kitOne K (.ref C0) (.type "int") = some false)
    (kt0_bool : PySem.W.kitOne K (.ref C0) (.type "bool") = some false)
    (kt0_str : PySem.W.kitOne K (.ref C0) (.type "str") = some false)
    (kt0_tuple : PySem.W.kitOne K (.ref C0) (.type "tuple") = some false)
    (xA1 : PySem.W.nsIn K mainGlobals "NoProcess" = some (some (.ref C1)))
    (xL1 : K.lookup C1 = some (excClassObj nm1 qn1 C1 N1 bs1 [.ref sw, .type "ValueError", .type "Exception", .type "BaseException", .type "object"] true sn1 sub1 ab1 col1 dd1 m01 m11 m21 m31 m51 "ValueError.__new__"))
    (xs1 : PySem.W.findIn K (.ref C1) "__setattr__" = some (some (.builtin "object.__setattr__")))
    (xg1 : PySem.W.findIn K (.ref C1) "__getattribute__" = some (some (.builtin "BaseException.__getattribute__")))
    (xh1 : PySem.W.findIn K (.ref C1) "__getattr__" = some none)
    (xc1 : PySem.W.findIn K (.ref C1) "__class__" = some (some (.builtin "object.__class__")))
    (xf1a : PySem.W.findIn K (.ref C1) "process" = some none)
    (xi1 : PySem.W.findIn K (.ref C1) "__init__" = some (some (.ref I1)))
    (xt1 : PySem.W.typeIn K (.ref I1) = some (.type "function"))
    (xl1 : K.lookup I1 = some ⟨oc1, od1, .func (PySem.W.fnOf "__init__" "NoProcess.__init__" (defArgs K01.sN1) (defBody K01.sN1) (defScope K01.sN1) .none kV1 dc1 pm1 an1 cd1 ct1), sl1⟩)
    (xd1 : PySem.W.codeIn K cd1 "NoProcess.__init__" = true)
    (xk1 : PySem.W.keepIn K (.ref I1) = true)
    (yk1 : PySem.W.keepIn K (.ref C1) = true)
    (ye1 : PySem.W.subIn K (.ref C1) (.type "BaseException") = some true)
    (yt1 : PySem.W.typeIn K (.ref C1) = some (.type "type"))
    (yh1 : PySem.W.hasDictIn K C1 = true)
    (yc1 : PySem.W.isClsIn K C1 = true)
    (ym1 : PySem.W.mroIn K C1 (.type "object") = some true)
    (kt1_int : PySem.W.kitOne K (.ref C1) (.type "int") = some false)
    (kt1_bool : PySem.W.kitOne K (.ref C1) (.type "bool") = some false)
    (kt1_str : PySem.W.kitOne K (.ref C1) (.type "str") = some false)
    (kt1_tuple : PySem.W.kitOne K (.ref C1) (.type "tuple") = some false)
    (xA2 : PySem.W.nsIn K mainGlobals "NoPlace" = some (some (.ref C2)))
    (xL2 : K.lookup C2 = some (excClassObj nm2 qn2 C2 N2 bs2 [.ref sw, .type "ValueError", .type "Exception", .type "BaseException", .type "object"] true sn2 sub2 ab2 col2 dd2 m02 m12 m22 m32 m52 "ValueError.__new__"))
    (xs2 : PySem.W.findIn K (.ref C2) "__setattr__" = some (some (.builtin "object.__setattr__")))
    (xg2 : PySem.W.findIn K (.ref C2) "__getattribute__" = some (some (.builtin "BaseException.__getattribute__")))
    (xh2 : PySem.W.findIn K (.ref C2) "__getattr__" = some none)
    (xc2 : PySem.W.findIn K (.ref C2) "__class__" = some (some (.builtin "object.__class__")))
    (xf2a : PySem.W.findIn K (.ref C2) "process" = some none)
    (xf2b : PySem.W.findIn K (.ref C2) "page" = some none)
    (xi2 : PySem.W.findIn K (.ref C2) "__init__" = some (some (.ref I2)))
    (xt2 : PySem.W.typeIn K (.ref I2) = some (.type "function"))
    (xl2 : K.lookup I2 = some ⟨oc2, od2, .func (PySem.W.fnOf "__init__" "NoPlace.__init__" (defArgs K01.sN2) (defBody K01.sN2) (defScope K01.sN2) .none kV2 dc2 pm2 an2 cd2 ct2), sl2⟩)
    (xd2 : PySem.W.codeIn K cd2 "NoPlace.__init__" = true)
    (xk2 : PySem.W.keepIn K (.ref I2) = true)
    (yk2 : PySem.W.keepIn K (.ref C2) = true)
    (ye2 : PySem.W.subIn K (.ref C2) (.type "BaseException") = some true)
    (yt2 : PySem.W.typeIn K (.ref C2) = some (.type "type"))
    (yh2 : PySem.W.hasDictIn K C2 = true)
    (yc2 : PySem.W.isClsIn K C2 = true)
    (ym2 : PySem.W.mroIn K C2 (.type "object") = some true)
    (kt2_int : PySem.W.kitOne K (.ref C2) (.type "int") = some false)
    (kt2_bool : PySem.W.kitOne K (.ref C2) (.type "bool") = some false)
    (kt2_str : PySem.W.kitOne K (.ref C2) (.type "str") = some false)
    (kt2_tuple : PySem.W.kitOne K (.ref C2) (.type "tuple") = some false)
    (zn : PySem.W.specialIn K (.builtin "object.__class__") "__get__" = some (some (.builtin "getset_descriptor.__get__")))
    (zt : PySem.W.takesIn K (.builtin "object.__class__") = some true)
    (aPIsInteger : PySem.W.nsIn K mainGlobals "is_integer" = some (some (.ref uPIsInteger)))
    (lPIsInteger : K.lookup uPIsInteger = some ⟨ocPIsInteger, odPIsInteger, .func (PySem.W.fnOf "is_integer" "is_integer" (defArgs sPIsInteger) (defBody sPIsInteger) (defScope sPIsInteger) .none kVPIsInteger dcPIsInteger pmPIsInteger anPIsInteger cdPIsInteger ctPIsInteger), slPIsInteger⟩)
    (cPIsInteger : PySem.W.codeIn K cdPIsInteger "is_integer" = true)
    (kPIsInteger : PySem.W.keepIn K (.ref uPIsInteger) = true)
    (aPIsNumber : PySem.W.nsIn K mainGlobals "is_number" = some (some (.ref uPIsNumber)))
    (lPIsNumber : K.lookup uPIsNumber = some ⟨ocPIsNumber, odPIsNumber, .func (PySem.W.fnOf "is_number" "is_number" (defArgs sPIsNumber) (defBody sPIsNumber) (defScope sPIsNumber) .none kVPIsNumber dcPIsNumber pmPIsNumber anPIsNumber cdPIsNumber ctPIsNumber), slPIsNumber⟩)
    (cPIsNumber : PySem.W.codeIn K cdPIsNumber "is_number" = true)
    (kPIsNumber : PySem.W.keepIn K (.ref uPIsNumber) = true)
    (aPIsRow : PySem.W.nsIn K mainGlobals "is_row" = some (some (.ref uPIsRow)))
    (lPIsRow : K.lookup uPIsRow = some ⟨ocPIsRow, odPIsRow, .func (PySem.W.fnOf "is_row" "is_row" (defArgs sPIsRow) (defBody sPIsRow) (defScope sPIsRow) .none kVPIsRow dcPIsRow pmPIsRow anPIsRow cdPIsRow ctPIsRow), slPIsRow⟩)
    (cPIsRow : PySem.W.codeIn K cdPIsRow "is_row" = true)
    (kPIsRow : PySem.W.keepIn K (.ref uPIsRow) = true)
    (aPAscends : PySem.W.nsIn K mainGlobals "ascends" = some (some (.ref uPAscends)))
    (lPAscends : K.lookup uPAscends = some ⟨ocPAscends, odPAscends, .func (PySem.W.fnOf "ascends" "ascends" (defArgs sPAscends) (defBody sPAscends) (defScope sPAscends) .none kVPAscends dcPAscends pmPAscends anPAscends cdPAscends ctPAscends), slPAscends⟩)
    (cPAscends : PySem.W.codeIn K cdPAscends "ascends" = true)
    (kPAscends : PySem.W.keepIn K (.ref uPAscends) = true)
    (aPIsLot : PySem.W.nsIn K mainGlobals "is_lot" = some (some (.ref uPIsLot)))
    (lPIsLot : K.lookup uPIsLot = some ⟨ocPIsLot, odPIsLot, .func (PySem.W.fnOf "is_lot" "is_lot" (defArgs sPIsLot) (defBody sPIsLot) (defScope sPIsLot) .none kVPIsLot dcPIsLot pmPIsLot anPIsLot cdPIsLot ctPIsLot), slPIsLot⟩)
    (cPIsLot : PySem.W.codeIn K cdPIsLot "is_lot" = true)
    (kPIsLot : PySem.W.keepIn K (.ref uPIsLot) = true)
    (aPIsSomeLot : PySem.W.nsIn K mainGlobals "is_some_lot" = some (some (.ref uPIsSomeLot)))
    (lPIsSomeLot : K.lookup uPIsSomeLot = some ⟨ocPIsSomeLot, odPIsSomeLot, .func (PySem.W.fnOf "is_some_lot" "is_some_lot" (defArgs sPIsSomeLot) (defBody sPIsSomeLot) (defScope sPIsSomeLot) .none kVPIsSomeLot dcPIsSomeLot pmPIsSomeLot anPIsSomeLot cdPIsSomeLot ctPIsSomeLot), slPIsSomeLot⟩)
    (cPIsSomeLot : PySem.W.codeIn K cdPIsSomeLot "is_some_lot" = true)
    (kPIsSomeLot : PySem.W.keepIn K (.ref uPIsSomeLot) = true)
    (aPIsNumberPair : PySem.W.nsIn K mainGlobals "is_number_pair" = some (some (.ref uPIsNumberPair)))
    (lPIsNumberPair : K.lookup uPIsNumberPair = some ⟨ocPIsNumberPair, odPIsNumberPair, .func (PySem.W.fnOf "is_number_pair" "is_number_pair" (defArgs sPIsNumberPair) (defBody sPIsNumberPair) (defScope sPIsNumberPair) .none kVPIsNumberPair dcPIsNumberPair pmPIsNumberPair anPIsNumberPair cdPIsNumberPair ctPIsNumberPair), slPIsNumberPair⟩)
    (cPIsNumberPair : PySem.W.codeIn K cdPIsNumberPair "is_number_pair" = true)
    (kPIsNumberPair : PySem.W.keepIn K (.ref uPIsNumberPair) = true)
    (aPIsPlace : PySem.W.nsIn K mainGlobals "is_place" = some (some (.ref uPIsPlace)))
    (lPIsPlace : K.lookup uPIsPlace = some ⟨ocPIsPlace, odPIsPlace, .func (PySem.W.fnOf "is_place" "is_place" (defArgs sPIsPlace) (defBody sPIsPlace) (defScope sPIsPlace) .none kVPIsPlace dcPIsPlace pmPIsPlace anPIsPlace cdPIsPlace ctPIsPlace), slPIsPlace⟩)
    (cPIsPlace : PySem.W.codeIn K cdPIsPlace "is_place" = true)
    (kPIsPlace : PySem.W.keepIn K (.ref uPIsPlace) = true)
    (aPIsLotOfPairs : PySem.W.nsIn K mainGlobals "is_lot_of_pairs" = some (some (.ref uPIsLotOfPairs)))
    (lPIsLotOfPairs : K.lookup uPIsLotOfPairs = some ⟨ocPIsLotOfPairs, odPIsLotOfPairs, .func (PySem.W.fnOf "is_lot_of_pairs" "is_lot_of_pairs" (defArgs sPIsLotOfPairs) (defBody sPIsLotOfPairs) (defScope sPIsLotOfPairs) .none kVPIsLotOfPairs dcPIsLotOfPairs pmPIsLotOfPairs anPIsLotOfPairs cdPIsLotOfPairs ctPIsLotOfPairs), slPIsLotOfPairs⟩)
    (cPIsLotOfPairs : PySem.W.codeIn K cdPIsLotOfPairs "is_lot_of_pairs" = true)
    (kPIsLotOfPairs : PySem.W.keepIn K (.ref uPIsLotOfPairs) = true)
    (aPIsTicket : PySem.W.nsIn K mainGlobals "is_ticket" = some (some (.ref uPIsTicket)))
    (lPIsTicket : K.lookup uPIsTicket = some ⟨ocPIsTicket, odPIsTicket, .func (PySem.W.fnOf "is_ticket" "is_ticket" (defArgs sPIsTicket) (defBody sPIsTicket) (defScope sPIsTicket) .none kVPIsTicket dcPIsTicket pmPIsTicket anPIsTicket cdPIsTicket ctPIsTicket), slPIsTicket⟩)
    (cPIsTicket : PySem.W.codeIn K cdPIsTicket "is_ticket" = true)
    (kPIsTicket : PySem.W.keepIn K (.ref uPIsTicket) = true)
    (aPIsCell : PySem.W.nsIn K mainGlobals "is_cell" = some (some (.ref uPIsCell)))
    (lPIsCell : K.lookup uPIsCell = some ⟨ocPIsCell, odPIsCell, .func (PySem.W.fnOf "is_cell" "is_cell" (defArgs sPIsCell) (defBody sPIsCell) (defScope sPIsCell) .none kVPIsCell dcPIsCell pmPIsCell anPIsCell cdPIsCell ctPIsCell), slPIsCell⟩)
    (cPIsCell : PySem.W.codeIn K cdPIsCell "is_cell" = true)
    (kPIsCell : PySem.W.keepIn K (.ref uPIsCell) = true)
    (aBag : PySem.W.nsIn K mainGlobals "_law_bag" = some (some (.ref uBag)))
    (lBag : K.lookup uBag = some ⟨ocBag, odBag, .func (PySem.W.fnOf "_law_bag" "_law_bag" (defArgs sBag) (defBody sBag) (defScope sBag) .none kVBag dcBag pmBag anBag cdBag ctBag), slBag⟩)
    (cBag : PySem.W.codeIn K cdBag "_law_bag" = true)
    (kBag : PySem.W.keepIn K (.ref uBag) = true)
    (aTake : PySem.W.nsIn K mainGlobals "_law_take" = some (some (.ref uTake)))
    (lTake : K.lookup uTake = some ⟨ocTake, odTake, .func (PySem.W.fnOf "_law_take" "_law_take" (defArgs sTake) (defBody sTake) (defScope sTake) .none kVTake dcTake pmTake anTake cdTake ctTake), slTake⟩)
    (cTake : PySem.W.codeIn K cdTake "_law_take" = true)
    (kTake : PySem.W.keepIn K (.ref uTake) = true)
    (aSome : PySem.W.nsIn K mainGlobals "_law_some" = some (some (.ref uSome)))
    (lSome : K.lookup uSome = some ⟨ocSome, odSome, .func (PySem.W.fnOf "_law_some" "_law_some" (defArgs sSome) (defBody sSome) (defScope sSome) .none kVSome dcSome pmSome anSome cdSome ctSome), slSome⟩)
    (cSome : PySem.W.codeIn K cdSome "_law_some" = true)
    (kSome : PySem.W.keepIn K (.ref uSome) = true)
    (aAlike : PySem.W.nsIn K mainGlobals "_law_alike" = some (some (.ref uAlike)))
    (lAlike : K.lookup uAlike = some ⟨ocAlike, odAlike, .func (PySem.W.fnOf "_law_alike" "_law_alike" (defArgs sAlike) (defBody sAlike) (defScope sAlike) .none kVAlike dcAlike pmAlike anAlike cdAlike ctAlike), slAlike⟩)
    (cAlike : PySem.W.codeIn K cdAlike "_law_alike" = true)
    (kAlike : PySem.W.keepIn K (.ref uAlike) = true)
    (aIsWhole : PySem.W.nsIn K mainGlobals "_law_is_whole" = some (some (.ref uIsWhole)))
    (lIsWhole : K.lookup uIsWhole = some ⟨ocIsWhole, odIsWhole, .func (PySem.W.fnOf "_law_is_whole" "_law_is_whole" (defArgs sIsWhole) (defBody sIsWhole) (defScope sIsWhole) .none kVIsWhole dcIsWhole pmIsWhole anIsWhole cdIsWhole ctIsWhole), slIsWhole⟩)
    (cIsWhole : PySem.W.codeIn K cdIsWhole "_law_is_whole" = true)
    (kIsWhole : PySem.W.keepIn K (.ref uIsWhole) = true)
    (aPages : PySem.W.nsIn K mainGlobals "_law_pages" = some (some (.ref uPages)))
    (lPages : K.lookup uPages = some ⟨ocPages, odPages, .func (PySem.W.fnOf "_law_pages" "_law_pages" (defArgs sPages) (defBody sPages) (defScope sPages) .none kVPages dcPages pmPages anPages cdPages ctPages), slPages⟩)
    (cPages : PySem.W.codeIn K cdPages "_law_pages" = true)
    (kPages : PySem.W.keepIn K (.ref uPages) = true)
    (aValue : PySem.W.nsIn K mainGlobals "_law_value" = some (some (.ref uValue)))
    (lValue : K.lookup uValue = some ⟨ocValue, odValue, .func (PySem.W.fnOf "_law_value" "_law_value" (defArgs sValue) (defBody sValue) (defScope sValue) .none kVValue dcValue pmValue anValue cdValue ctValue), slValue⟩)
    (cValue : PySem.W.codeIn K cdValue "_law_value" = true)
    (kValue : PySem.W.keepIn K (.ref uValue) = true)
    (aBent : PySem.W.nsIn K mainGlobals "_law_bent" = some (some (.ref uBent)))
    (lBent : K.lookup uBent = some ⟨ocBent, odBent, .func (PySem.W.fnOf "_law_bent" "_law_bent" (defArgs sBent) (defBody sBent) (defScope sBent) .none kVBent dcBent pmBent anBent cdBent ctBent), slBent⟩)
    (cBent : PySem.W.codeIn K cdBent "_law_bent" = true)
    (kBent : PySem.W.keepIn K (.ref uBent) = true)
    (aUnits : PySem.W.nsIn K mainGlobals "_law_units" = some (some (.ref uUnits)))
    (lUnits : K.lookup uUnits = some ⟨ocUnits, odUnits, .func (PySem.W.fnOf "_law_units" "_law_units" (defArgs sUnits) (defBody sUnits) (defScope sUnits) .none kVUnits dcUnits pmUnits anUnits cdUnits ctUnits), slUnits⟩)
    (cUnits : PySem.W.codeIn K cdUnits "_law_units" = true)
    (kUnits : PySem.W.keepIn K (.ref uUnits) = true)
    (aWithTruth : PySem.W.nsIn K mainGlobals "_law_with_truth" = some (some (.ref uWithTruth)))
    (lWithTruth : K.lookup uWithTruth = some ⟨ocWithTruth, odWithTruth, .func (PySem.W.fnOf "_law_with_truth" "_law_with_truth" (defArgs sWithTruth) (defBody sWithTruth) (defScope sWithTruth) .none kVWithTruth dcWithTruth pmWithTruth anWithTruth cdWithTruth ctWithTruth), slWithTruth⟩)
    (cWithTruth : PySem.W.codeIn K cdWithTruth "_law_with_truth" = true)
    (kWithTruth : PySem.W.keepIn K (.ref uWithTruth) = true)
    (aTruthed : PySem.W.nsIn K mainGlobals "_law_truthed" = some (some (.ref uTruthed)))
    (lTruthed : K.lookup uTruthed = some ⟨ocTruthed, odTruthed, .func (PySem.W.fnOf "_law_truthed" "_law_truthed" (defArgs sTruthed) (defBody sTruthed) (defScope sTruthed) .none kVTruthed dcTruthed pmTruthed anTruthed cdTruthed ctTruthed), slTruthed⟩)
    (cTruthed : PySem.W.codeIn K cdTruthed "_law_truthed" = true)
    (kTruthed : PySem.W.keepIn K (.ref uTruthed) = true)
    (aIsNatural : PySem.W.nsIn K mainGlobals "_law_is_natural" = some (some (.ref uIsNatural)))
    (lIsNatural : K.lookup uIsNatural = some ⟨ocIsNatural, odIsNatural, .func (PySem.W.fnOf "_law_is_natural" "_law_is_natural" (defArgs sIsNatural) (defBody sIsNatural) (defScope sIsNatural) .none kVIsNatural dcIsNatural pmIsNatural anIsNatural cdIsNatural ctIsNatural), slIsNatural⟩)
    (cIsNatural : PySem.W.codeIn K cdIsNatural "_law_is_natural" = true)
    (kIsNatural : PySem.W.keepIn K (.ref uIsNatural) = true)
    (aIsLot : PySem.W.nsIn K mainGlobals "_law_is_lot" = some (some (.ref uIsLot)))
    (lIsLot : K.lookup uIsLot = some ⟨ocIsLot, odIsLot, .func (PySem.W.fnOf "_law_is_lot" "_law_is_lot" (defArgs sIsLot) (defBody sIsLot) (defScope sIsLot) .none kVIsLot dcIsLot pmIsLot anIsLot cdIsLot ctIsLot), slIsLot⟩)
    (cIsLot : PySem.W.codeIn K cdIsLot "_law_is_lot" = true)
    (kIsLot : PySem.W.keepIn K (.ref uIsLot) = true)
    (aIsPlace : PySem.W.nsIn K mainGlobals "_law_is_place" = some (some (.ref uIsPlace)))
    (lIsPlace : K.lookup uIsPlace = some ⟨ocIsPlace, odIsPlace, .func (PySem.W.fnOf "_law_is_place" "_law_is_place" (defArgs sIsPlace) (defBody sIsPlace) (defScope sIsPlace) .none kVIsPlace dcIsPlace pmIsPlace anIsPlace cdIsPlace ctIsPlace), slIsPlace⟩)
    (cIsPlace : PySem.W.codeIn K cdIsPlace "_law_is_place" = true)
    (kIsPlace : PySem.W.keepIn K (.ref uIsPlace) = true)
    (aArePlaces : PySem.W.nsIn K mainGlobals "_law_are_places" = some (some (.ref uArePlaces)))
    (lArePlaces : K.lookup uArePlaces = some ⟨ocArePlaces, odArePlaces, .func (PySem.W.fnOf "_law_are_places" "_law_are_places" (defArgs sArePlaces) (defBody sArePlaces) (defScope sArePlaces) .none kVArePlaces dcArePlaces pmArePlaces anArePlaces cdArePlaces ctArePlaces), slArePlaces⟩)
    (cArePlaces : PySem.W.codeIn K cdArePlaces "_law_are_places" = true)
    (kArePlaces : PySem.W.keepIn K (.ref uArePlaces) = true)
    (aIsTicket : PySem.W.nsIn K mainGlobals "_law_is_ticket" = some (some (.ref uIsTicket)))
    (lIsTicket : K.lookup uIsTicket = some ⟨ocIsTicket, odIsTicket, .func (PySem.W.fnOf "_law_is_ticket" "_law_is_ticket" (defArgs sIsTicket) (defBody sIsTicket) (defScope sIsTicket) .none kVIsTicket dcIsTicket pmIsTicket anIsTicket cdIsTicket ctIsTicket), slIsTicket⟩)
    (cIsTicket : PySem.W.codeIn K cdIsTicket "_law_is_ticket" = true)
    (kIsTicket : PySem.W.keepIn K (.ref uIsTicket) = true)
    (aIsCell : PySem.W.nsIn K mainGlobals "_law_is_cell" = some (some (.ref uIsCell)))
    (lIsCell : K.lookup uIsCell = some ⟨ocIsCell, odIsCell, .func (PySem.W.fnOf "_law_is_cell" "_law_is_cell" (defArgs sIsCell) (defBody sIsCell) (defScope sIsCell) .none kVIsCell dcIsCell pmIsCell anIsCell cdIsCell ctIsCell), slIsCell⟩)
    (cIsCell : PySem.W.codeIn K cdIsCell "_law_is_cell" = true)
    (kIsCell : PySem.W.keepIn K (.ref uIsCell) = true)
    (aLot : PySem.W.nsIn K mainGlobals "_law_lot" = some (some (.ref uLot)))
    (lLot : K.lookup uLot = some ⟨ocLot, odLot, .func (PySem.W.fnOf "_law_lot" "_law_lot" (defArgs sLot) (defBody sLot) (defScope sLot) .none kVLot dcLot pmLot anLot cdLot ctLot), slLot⟩)
    (cLot : PySem.W.codeIn K cdLot "_law_lot" = true)
    (kLot : PySem.W.keepIn K (.ref uLot) = true)
    (aPlaces : PySem.W.nsIn K mainGlobals "_law_places" = some (some (.ref uPlaces)))
    (lPlaces : K.lookup uPlaces = some ⟨ocPlaces, odPlaces, .func (PySem.W.fnOf "_law_places" "_law_places" (defArgs sPlaces) (defBody sPlaces) (defScope sPlaces) .none kVPlaces dcPlaces pmPlaces anPlaces cdPlaces ctPlaces), slPlaces⟩)
    (cPlaces : PySem.W.codeIn K cdPlaces "_law_places" = true)
    (kPlaces : PySem.W.keepIn K (.ref uPlaces) = true)
    (aThing : PySem.W.nsIn K mainGlobals "_law_thing" = some (some (.ref uThing)))
    (lThing : K.lookup uThing = some ⟨ocThing, odThing, .func (PySem.W.fnOf "_law_thing" "_law_thing" (defArgs sThing) (defBody sThing) (defScope sThing) .none kVThing dcThing pmThing anThing cdThing ctThing), slThing⟩)
    (cThing : PySem.W.codeIn K cdThing "_law_thing" = true)
    (kThing : PySem.W.keepIn K (.ref uThing) = true)
    (aAreStrangers : PySem.W.nsIn K mainGlobals "_law_are_strangers" = some (some (.ref uAreStrangers)))
    (lAreStrangers : K.lookup uAreStrangers = some ⟨ocAreStrangers, odAreStrangers, .func (PySem.W.fnOf "_law_are_strangers" "_law_are_strangers" (defArgs sAreStrangers) (defBody sAreStrangers) (defScope sAreStrangers) .none kVAreStrangers dcAreStrangers pmAreStrangers anAreStrangers cdAreStrangers ctAreStrangers), slAreStrangers⟩)
    (cAreStrangers : PySem.W.codeIn K cdAreStrangers "_law_are_strangers" = true)
    (kAreStrangers : PySem.W.keepIn K (.ref uAreStrangers) = true)
    (aLaw : PySem.W.nsIn K mainGlobals "law" = some (some (.ref uLaw)))
    (lLaw : K.lookup uLaw = some ⟨ocLaw, odLaw, .func (PySem.W.fnOf "law" "law" (defArgs sLw) (defBody sLw) (defScope sLw) .none kVLaw dcLaw pmLaw anLaw cdLaw ctLaw), slLaw⟩)
    (cLaw : PySem.W.codeIn K cdLaw "law" = true)
    (kLaw : PySem.W.keepIn K (.ref uLaw) = true)
    (b_abs : PySem.W.nsIn K mainGlobals "abs" = some none)
    (b_all : PySem.W.nsIn K mainGlobals "all" = some none)
    (b_bool : PySem.W.nsIn K mainGlobals "bool" = some none)
    (b_dict : PySem.W.nsIn K mainGlobals "dict" = some none)
    (b_enumerate : PySem.W.nsIn K mainGlobals "enumerate" = some none)
    (b_int : PySem.W.nsIn K mainGlobals "int" = some none)
    (b_isinstance : PySem.W.nsIn K mainGlobals "isinstance" = some none)
    (b_len : PySem.W.nsIn K mainGlobals "len" = some none)
    (b_list : PySem.W.nsIn K mainGlobals "list" = some none)
    (b_range : PySem.W.nsIn K mainGlobals "range" = some none)
    (b_repr : PySem.W.nsIn K mainGlobals "repr" = some none)
    (b_set : PySem.W.nsIn K mainGlobals "set" = some none)
    (b_sorted : PySem.W.nsIn K mainGlobals "sorted" = some none)
    (b_str : PySem.W.nsIn K mainGlobals "str" = some none)
    (b_sum : PySem.W.nsIn K mainGlobals "sum" = some none)
    (b_tuple : PySem.W.nsIn K mainGlobals "tuple" = some none)
    : ∃ fd : FuncData, (∀ (s : Shared) (v : Value), BindsTo s fd ⟨[v], []⟩ [("_law_script", v)]) ∧ ∀ base : Heap, K.In base → base.Ns mainGlobals mg → FnG P w K mg base 40 fa fd ["_law_script"] (D01.spLw K) := by
  have e := hfa.symm.trans (PySem.W.mg_of X G aLaw)
  cases e
  have T0 : XCls K C0 := ⟨⟨⟨_, _, _, _, _, _, _, _, _, _, _, _, _, _, _, xL0, by first | decide +kernel | rfl⟩, xs0, ye0, yt0, yk0⟩, ⟨xg0, xh0, ye0, yh0⟩, yc0, xc0, zn, zt, ym0⟩
  have F0 := fun_mk (st := K01.sN0) xl0 xd0 xk0
  have B0 := F0.binds (ps := ["self"]) fun _ _ _ _ _ _ us hl => match us, hl with | [_], _ => rfl
  have t0 : ∀ q : Kd, PySem.W.kitOne K (.ref C0) (.type q.nm) = some false := fun q => match q with | .int => kt0_int | .bool => kt0_bool | .str => kt0_str | .tuple => kt0_tuple
  have T1 : XCls K C1 := ⟨⟨⟨_, _, _, _, _, _, _, _, _, _, _, _, _, _, _, xL1, by first | decide +kernel | rfl⟩, xs1, ye1, yt1, yk1⟩, ⟨xg1, xh1, ye1, yh1⟩, yc1, xc1, zn, zt, ym1⟩
  have F1 := fun_mk (st := K01.sN1) xl1 xd1 xk1
  have B1 := F1.binds (ps := ["self", "process"]) fun _ _ _ _ _ _ us hl => match us, hl with | [_, _], _ => rfl
  have t1 : ∀ q : Kd, PySem.W.kitOne K (.ref C1) (.type q.nm) = some false := fun q => match q with | .int => kt1_int | .bool => kt1_bool | .str => kt1_str | .tuple => kt1_tuple
  have T2 : XCls K C2 := ⟨⟨⟨_, _, _, _, _, _, _, _, _, _, _, _, _, _, _, xL2, by first | decide +kernel | rfl⟩, xs2, ye2, yt2, yk2⟩, ⟨xg2, xh2, ye2, yh2⟩, yc2, xc2, zn, zt, ym2⟩
  have F2 := fun_mk (st := K01.sN2) xl2 xd2 xk2
  have B2 := F2.binds (ps := ["self", "process", "page"]) fun _ _ _ _ _ _ us hl => match us, hl with | [_, _, _], _ => rfl
  have t2 : ∀ q : Kd, PySem.W.kitOne K (.ref C2) (.type q.nm) = some false := fun q => match q with | .int => kt2_int | .bool => kt2_bool | .str => kt2_str | .tuple => kt2_tuple
  have FPIsInteger := fun_mk (st := sPIsInteger) lPIsInteger cPIsInteger kPIsInteger
  have BPIsInteger := FPIsInteger.binds (ps := ["thing"]) fun _ _ _ _ _ _ us hl => match us, hl with | [_], _ => rfl
  have DPIsInteger : Df K mg "is_integer" ["thing"] sPIsInteger uPIsInteger _ := ⟨FPIsInteger, BPIsInteger, PySem.W.mg_of X G aPIsInteger⟩
  have FPIsNumber := fun_mk (st := sPIsNumber) lPIsNumber cPIsNumber kPIsNumber
  have BPIsNumber := FPIsNumber.binds (ps := ["thing"]) fun _ _ _ _ _ _ us hl => match us, hl with | [_], _ => rfl
  have DPIsNumber : Df K mg "is_number" ["thing"] sPIsNumber uPIsNumber _ := ⟨FPIsNumber, BPIsNumber, PySem.W.mg_of X G aPIsNumber⟩
  have FPIsRow := fun_mk (st := sPIsRow) lPIsRow cPIsRow kPIsRow
  have BPIsRow := FPIsRow.binds (ps := ["thing", "many"]) fun _ _ _ _ _ _ us hl => match us, hl with | [_, _], _ => rfl
  have DPIsRow : Df K mg "is_row" ["thing", "many"] sPIsRow uPIsRow _ := ⟨FPIsRow, BPIsRow, PySem.W.mg_of X G aPIsRow⟩
  have FPAscends := fun_mk (st := sPAscends) lPAscends cPAscends kPAscends
  have BPAscends := FPAscends.binds (ps := ["things"]) fun _ _ _ _ _ _ us hl => match us, hl with | [_], _ => rfl
  have DPAscends : Df K mg "ascends" ["things"] sPAscends uPAscends _ := ⟨FPAscends, BPAscends, PySem.W.mg_of X G aPAscends⟩
  have FPIsLot := fun_mk (st := sPIsLot) lPIsLot cPIsLot kPIsLot
  have BPIsLot := FPIsLot.binds (ps := ["thing"]) fun _ _ _ _ _ _ us hl => match us, hl with | [_], _ => rfl
  have DPIsLot : Df K mg "is_lot" ["thing"] sPIsLot uPIsLot _ := ⟨FPIsLot, BPIsLot, PySem.W.mg_of X G aPIsLot⟩
  have FPIsSomeLot := fun_mk (st := sPIsSomeLot) lPIsSomeLot cPIsSomeLot kPIsSomeLot
  have BPIsSomeLot := FPIsSomeLot.binds (ps := ["thing"]) fun _ _ _ _ _ _ us hl => match us, hl with | [_], _ => rfl
  have DPIsSomeLot : Df K mg "is_some_lot" ["thing"] sPIsSomeLot uPIsSomeLot _ := ⟨FPIsSomeLot, BPIsSomeLot, PySem.W.mg_of X G aPIsSomeLot⟩
  have FPIsNumberPair := fun_mk (st := sPIsNumberPair) lPIsNumberPair cPIsNumberPair kPIsNumberPair
  have BPIsNumberPair := FPIsNumberPair.binds (ps := ["thing"]) fun _ _ _ _ _ _ us hl => match us, hl with | [_], _ => rfl
  have DPIsNumberPair : Df K mg "is_number_pair" ["thing"] sPIsNumberPair uPIsNumberPair _ := ⟨FPIsNumberPair, BPIsNumberPair, PySem.W.mg_of X G aPIsNumberPair⟩
  have FPIsPlace := fun_mk (st := sPIsPlace) lPIsPlace cPIsPlace kPIsPlace
  have BPIsPlace := FPIsPlace.binds (ps := ["thing"]) fun _ _ _ _ _ _ us hl => match us, hl with | [_], _ => rfl
  have DPIsPlace : Df K mg "is_place" ["thing"] sPIsPlace uPIsPlace _ := ⟨FPIsPlace, BPIsPlace, PySem.W.mg_of X G aPIsPlace⟩
  have FPIsLotOfPairs := fun_mk (st := sPIsLotOfPairs) lPIsLotOfPairs cPIsLotOfPairs kPIsLotOfPairs
  have BPIsLotOfPairs := FPIsLotOfPairs.binds (ps := ["thing"]) fun _ _ _ _ _ _ us hl => match us, hl with | [_], _ => rfl
  have DPIsLotOfPairs : Df K mg "is_lot_of_pairs" ["thing"] sPIsLotOfPairs uPIsLotOfPairs _ := ⟨FPIsLotOfPairs, BPIsLotOfPairs, PySem.W.mg_of X G aPIsLotOfPairs⟩
  have FPIsTicket := fun_mk (st := sPIsTicket) lPIsTicket cPIsTicket kPIsTicket
  have BPIsTicket := FPIsTicket.binds (ps := ["thing"]) fun _ _ _ _ _ _ us hl => match us, hl with | [_], _ => rfl
  have DPIsTicket : Df K mg "is_ticket" ["thing"] sPIsTicket uPIsTicket _ := ⟨FPIsTicket, BPIsTicket, PySem.W.mg_of X G aPIsTicket⟩
  have FPIsCell := fun_mk (st := sPIsCell) lPIsCell cPIsCell kPIsCell
  have BPIsCell := FPIsCell.binds (ps := ["thing"]) fun _ _ _ _ _ _ us hl => match us, hl with | [_], _ => rfl
  have DPIsCell : Df K mg "is_cell" ["thing"] sPIsCell uPIsCell _ := ⟨FPIsCell, BPIsCell, PySem.W.mg_of X G aPIsCell⟩
  have FBag := fun_mk (st := sBag) lBag cBag kBag
  have BBag := FBag.binds (ps := ["_law_script"]) fun _ _ _ _ _ _ us hl => match us, hl with | [_], _ => rfl
  have DBag : Df K mg "_law_bag" ["_law_script"] sBag uBag _ := ⟨FBag, BBag, PySem.W.mg_of X G aBag⟩
  have FTake := fun_mk (st := sTake) lTake cTake kTake
  have BTake := FTake.binds (ps := ["_law_bag_here", "_law_many"]) fun _ _ _ _ _ _ us hl => match us, hl with | [_, _], _ => rfl
  have DTake : Df K mg "_law_take" ["_law_bag_here", "_law_many"] sTake uTake _ := ⟨FTake, BTake, PySem.W.mg_of X G aTake⟩
  have FSome := fun_mk (st := sSome) lSome cSome kSome
  have BSome := FSome.binds (ps := ["_law_bag_here", "_law_things"]) fun _ _ _ _ _ _ us hl => match us, hl with | [_, _], _ => rfl
  have DSome : Df K mg "_law_some" ["_law_bag_here", "_law_things"] sSome uSome _ := ⟨FSome, BSome, PySem.W.mg_of X G aSome⟩
  have FAlike := fun_mk (st := sAlike) lAlike cAlike kAlike
  have BAlike := FAlike.binds (ps := ["_law_found", "_law_due"]) fun _ _ _ _ _ _ us hl => match us, hl with | [_, _], _ => rfl
  have DAlike : Df K mg "_law_alike" ["_law_found", "_law_due"] sAlike uAlike _ := ⟨FAlike, BAlike, PySem.W.mg_of X G aAlike⟩
  have FIsWhole := fun_mk (st := sIsWhole) lIsWhole cIsWhole kIsWhole
  have BIsWhole := FIsWhole.binds (ps := ["_law_thing_here"]) fun _ _ _ _ _ _ us hl => match us, hl with | [_], _ => rfl
  have DIsWhole : Df K mg "_law_is_whole" ["_law_thing_here"] sIsWhole uIsWhole _ := ⟨FIsWhole, BIsWhole, PySem.W.mg_of X G aIsWhole⟩
  have FPages := fun_mk (st := sPages) lPages cPages kPages
  have BPages := FPages.binds (ps := ["_law_bag_here", "_law_many"]) fun _ _ _ _ _ _ us hl => match us, hl with | [_, _], _ => rfl
  have DPages : Df K mg "_law_pages" ["_law_bag_here", "_law_many"] sPages uPages _ := ⟨FPages, BPages, PySem.W.mg_of X G aPages⟩
  have FValue := fun_mk (st := sValue) lValue cValue kValue
  have BValue := FValue.binds (ps := ["_law_bag_here", "_law_deep"]) fun _ _ _ _ _ _ us hl => match us, hl with | [_, _], _ => rfl
  have DValue : Df K mg "_law_value" ["_law_bag_here", "_law_deep"] sValue uValue _ := ⟨FValue, BValue, PySem.W.mg_of X G aValue⟩
  have FBent := fun_mk (st := sBent) lBent cBent kBent
  have BBent := FBent.binds (ps := ["_law_bag_here", "_law_thing_here", "_law_deep"]) fun _ _ _ _ _ _ us hl => match us, hl with | [_, _, _], _ => rfl
  have DBent : Df K mg "_law_bent" ["_law_bag_here", "_law_thing_here", "_law_deep"] sBent uBent _ := ⟨FBent, BBent, PySem.W.mg_of X G aBent⟩
  have FUnits := fun_mk (st := sUnits) lUnits cUnits kUnits
  have BUnits := FUnits.binds (ps := ["_law_thing_here"]) fun _ _ _ _ _ _ us hl => match us, hl with | [_], _ => rfl
  have DUnits : Df K mg "_law_units" ["_law_thing_here"] sUnits uUnits _ := ⟨FUnits, BUnits, PySem.W.mg_of X G aUnits⟩
  have FWithTruth := fun_mk (st := sWithTruth) lWithTruth cWithTruth kWithTruth
  have BWithTruth := FWithTruth.binds (ps := ["_law_thing_here", "_law_left"]) fun _ _ _ _ _ _ us hl => match us, hl with | [_, _], _ => rfl
  have DWithTruth : Df K mg "_law_with_truth" ["_law_thing_here", "_law_left"] sWithTruth uWithTruth _ := ⟨FWithTruth, BWithTruth, PySem.W.mg_of X G aWithTruth⟩
  have FTruthed := fun_mk (st := sTruthed) lTruthed cTruthed kTruthed
  have BTruthed := FTruthed.binds (ps := ["_law_bag_here", "_law_thing_here"]) fun _ _ _ _ _ _ us hl => match us, hl with | [_, _], _ => rfl
  have DTruthed : Df K mg "_law_truthed" ["_law_bag_here", "_law_thing_here"] sTruthed uTruthed _ := ⟨FTruthed, BTruthed, PySem.W.mg_of X G aTruthed⟩
  have FIsNatural := fun_mk (st := sIsNatural) lIsNatural cIsNatural kIsNatural
  have BIsNatural := FIsNatural.binds (ps := ["_law_thing_here"]) fun _ _ _ _ _ _ us hl => match us, hl with | [_], _ => rfl
  have DIsNatural : Df K mg "_law_is_natural" ["_law_thing_here"] sIsNatural uIsNatural _ := ⟨FIsNatural, BIsNatural, PySem.W.mg_of X G aIsNatural⟩
  have FIsLot := fun_mk (st := sIsLot) lIsLot cIsLot kIsLot
  have BIsLot := FIsLot.binds (ps := ["_law_thing_here"]) fun _ _ _ _ _ _ us hl => match us, hl with | [_], _ => rfl
  have DIsLot : Df K mg "_law_is_lot" ["_law_thing_here"] sIsLot uIsLot _ := ⟨FIsLot, BIsLot, PySem.W.mg_of X G aIsLot⟩
  have FIsPlace := fun_mk (st := sIsPlace) lIsPlace cIsPlace kIsPlace
  have BIsPlace := FIsPlace.binds (ps := ["_law_thing_here"]) fun _ _ _ _ _ _ us hl => match us, hl with | [_], _ => rfl
  have DIsPlace : Df K mg "_law_is_place" ["_law_thing_here"] sIsPlace uIsPlace _ := ⟨FIsPlace, BIsPlace, PySem.W.mg_of X G aIsPlace⟩
  have FArePlaces := fun_mk (st := sArePlaces) lArePlaces cArePlaces kArePlaces
  have BArePlaces := FArePlaces.binds (ps := ["_law_thing_here"]) fun _ _ _ _ _ _ us hl => match us, hl with | [_], _ => rfl
  have DArePlaces : Df K mg "_law_are_places" ["_law_thing_here"] sArePlaces uArePlaces _ := ⟨FArePlaces, BArePlaces, PySem.W.mg_of X G aArePlaces⟩
  have FIsTicket := fun_mk (st := sIsTicket) lIsTicket cIsTicket kIsTicket
  have BIsTicket := FIsTicket.binds (ps := ["_law_thing_here"]) fun _ _ _ _ _ _ us hl => match us, hl with | [_], _ => rfl
  have DIsTicket : Df K mg "_law_is_ticket" ["_law_thing_here"] sIsTicket uIsTicket _ := ⟨FIsTicket, BIsTicket, PySem.W.mg_of X G aIsTicket⟩
  have FIsCell := fun_mk (st := sIsCell) lIsCell cIsCell kIsCell
  have BIsCell := FIsCell.binds (ps := ["_law_thing_here"]) fun _ _ _ _ _ _ us hl => match us, hl with | [_], _ => rfl
  have DIsCell : Df K mg "_law_is_cell" ["_law_thing_here"] sIsCell uIsCell _ := ⟨FIsCell, BIsCell, PySem.W.mg_of X G aIsCell⟩
  have FLot := fun_mk (st := sLot) lLot cLot kLot
  have BLot := FLot.binds (ps := ["_law_bag_here"]) fun _ _ _ _ _ _ us hl => match us, hl with | [_], _ => rfl
  have DLot : Df K mg "_law_lot" ["_law_bag_here"] sLot uLot _ := ⟨FLot, BLot, PySem.W.mg_of X G aLot⟩
  have FPlaces := fun_mk (st := sPlaces) lPlaces cPlaces kPlaces
  have BPlaces := FPlaces.binds (ps := ["_law_bag_here"]) fun _ _ _ _ _ _ us hl => match us, hl with | [_], _ => rfl
  have DPlaces : Df K mg "_law_places" ["_law_bag_here"] sPlaces uPlaces _ := ⟨FPlaces, BPlaces, PySem.W.mg_of X G aPlaces⟩
  have FThing := fun_mk (st := sThing) lThing cThing kThing
  have BThing := FThing.binds (ps := ["_law_bag_here"]) fun _ _ _ _ _ _ us hl => match us, hl with | [_], _ => rfl
  have DThing : Df K mg "_law_thing" ["_law_bag_here"] sThing uThing _ := ⟨FThing, BThing, PySem.W.mg_of X G aThing⟩
  have FAreStrangers := fun_mk (st := sAreStrangers) lAreStrangers cAreStrangers kAreStrangers
  have BAreStrangers := FAreStrangers.binds (ps := ["_law_one", "_law_other", "_law_third"]) fun _ _ _ _ _ _ us hl => match us, hl with | [_, _, _], _ => rfl
  have DAreStrangers : Df K mg "_law_are_strangers" ["_law_one", "_law_other", "_law_third"] sAreStrangers uAreStrangers _ := ⟨FAreStrangers, BAreStrangers, PySem.W.mg_of X G aAreStrangers⟩
  have FLaw := fun_mk (st := sLw) lLaw cLaw kLaw
  have BLaw := FLaw.binds (ps := ["_law_script"]) fun _ _ _ _ _ _ us hl => match us, hl with | [_], _ => rfl
  have m_abs := PySem.W.mg_none_of X G b_abs
  have m_all := PySem.W.mg_none_of X G b_all
  have m_bool := PySem.W.mg_none_of X G b_bool
  have m_dict := PySem.W.mg_none_of X G b_dict
  have m_enumerate := PySem.W.mg_none_of X G b_enumerate
  have m_int := PySem.W.mg_none_of X G b_int
  have m_isinstance := PySem.W.mg_none_of X G b_isinstance
  have m_len := PySem.W.mg_none_of X G b_len
  have m_list := PySem.W.mg_none_of X G b_list
  have m_range := PySem.W.mg_none_of X G b_range
  have m_repr := PySem.W.mg_none_of X G b_repr
  have m_set := PySem.W.mg_none_of X G b_set
  have m_sorted := PySem.W.mg_none_of X G b_sorted
  have m_str := PySem.W.mg_none_of X G b_str
  have m_sum := PySem.W.mg_none_of X G b_sum
  have m_tuple := PySem.W.mg_none_of X G b_tuple
  refine ⟨PySem.W.fnOf "law" "law" (defArgs sLw) (defBody sLw) (defScope sLw) .none kVLaw dcLaw pmLaw anLaw cdLaw ctLaw, fun s v => .of_eq rfl, fun base _ _ => ?_⟩
  have q_PIsInteger : Cal P w K mg base 1 "is_integer" ["thing"] fPIsInteger := isPIsInteger DPIsInteger m_bool m_int m_isinstance 
  have q_PIsNumber : Cal P w K mg base 2 "is_number" ["thing"] (fPIsNumber fPIsInteger) := isPIsNumber DPIsNumber  (q_PIsInteger.mono (show 1 ≤ 1 from by omega))
  have q_PIsRow : Cal P w K mg base 1 "is_row" ["thing", "many"] fPIsRow := isPIsRow DPIsRow m_isinstance m_len m_tuple 
  have q_PAscends : Cal P w K mg base 1 "ascends" ["things"] fPAscends := isPAscends DPAscends m_all m_len m_range 
  have q_PIsLot : Cal P w K mg base 3 "is_lot" ["thing"] (fPIsLot (fPIsNumber fPIsInteger) fPAscends) := isPIsLot DPIsLot m_all m_isinstance m_tuple (q_PIsNumber.mono (show 2 ≤ 2 from by omega)) (q_PAscends.mono (show 1 ≤ 2 from by omega))
  have q_PIsSomeLot : Cal P w K mg base 4 "is_some_lot" ["thing"] (fPIsSomeLot (fPIsLot (fPIsNumber fPIsInteger) fPAscends)) := isPIsSomeLot DPIsSomeLot m_len (q_PIsLot.mono (show 3 ≤ 3 from by omega))
  have q_PIsNumberPair : Cal P w K mg base 3 "is_number_pair" ["thing"] (fPIsNumberPair fPIsRow (fPIsNumber fPIsInteger)) := isPIsNumberPair DPIsNumberPair  (q_PIsRow.mono (show 1 ≤ 2 from by omega)) (q_PIsNumber.mono (show 2 ≤ 2 from by omega))
  have q_PIsPlace : Cal P w K mg base 4 "is_place" ["thing"] (fPIsPlace (fPIsNumberPair fPIsRow (fPIsNumber fPIsInteger))) := isPIsPlace DPIsPlace  (q_PIsNumberPair.mono (show 3 ≤ 3 from by omega))
  have q_PIsLotOfPairs : Cal P w K mg base 4 "is_lot_of_pairs" ["thing"] (fPIsLotOfPairs (fPIsNumberPair fPIsRow (fPIsNumber fPIsInteger)) fPAscends) := isPIsLotOfPairs DPIsLotOfPairs m_all m_isinstance m_tuple (q_PIsNumberPair.mono (show 3 ≤ 3 from by omega)) (q_PAscends.mono (show 1 ≤ 3 from by omega))
  have q_PIsTicket : Cal P w K mg base 5 "is_ticket" ["thing"] (fPIsTicket fPIsRow (fPIsSomeLot (fPIsLot (fPIsNumber fPIsInteger) fPAscends)) (fPIsNumber fPIsInteger)) := isPIsTicket DPIsTicket  (q_PIsRow.mono (show 1 ≤ 4 from by omega)) (q_PIsSomeLot.mono (show 4 ≤ 4 from by omega)) (q_PIsNumber.mono (show 2 ≤ 4 from by omega))
  have q_PIsCell : Cal P w K mg base 5 "is_cell" ["thing"] (fPIsCell fPIsRow fPIsInteger (fPIsLotOfPairs (fPIsNumberPair fPIsRow (fPIsNumber fPIsInteger)) fPAscends)) := isPIsCell DPIsCell m_isinstance m_str (q_PIsRow.mono (show 1 ≤ 4 from by omega)) (q_PIsInteger.mono (show 1 ≤ 4 from by omega)) (q_PIsLotOfPairs.mono (show 4 ≤ 4 from by omega))
  have q_Bag : Cal P w K mg base 1 "_law_bag" ["_law_script"] fBag := isBag DBag m_abs 
  have q_Take : Cal P w K mg base 1 "_law_take" ["_law_bag_here", "_law_many"] fTake := isTake DTake m_int 
  have q_Some : Cal P w K mg base 2 "_law_some" ["_law_bag_here", "_law_things"] (fSome fTake) := isSome DSome m_len (q_Take.mono (show 1 ≤ 1 from by omega))
  have q_Alike : Cal P w K mg base 1 "_law_alike" ["_law_found", "_law_due"] fAlike := isAlike DAlike m_repr 
  have q_IsWhole : Cal P w K mg base 1 "_law_is_whole" ["_law_thing_here"] fIsWhole := isIsWhole DIsWhole m_bool m_int m_isinstance 
  have q_Pages : Cal P w K mg base 3 "_law_pages" ["_law_bag_here", "_law_many"] (fPages (fSome fTake)) := isPages DPages m_range (q_Some.mono (show 2 ≤ 2 from by omega))
  have r_Value : ∀ n, Cal P w K mg base (2 + n) "_law_value" ["_law_bag_here", "_law_deep"] (fVal n) := fun n => by
    induction n with
    | zero => exact Cal.zero DValue
    | succ n ih => exact isValue DValue m_dict m_enumerate m_range m_str m_tuple (q_Take.mono (show 1 ≤ 2 + n from by omega)) (q_Some.mono (show 2 ≤ 2 + n from by omega)) ih
  have q_Value := r_Value 4
  have r_Bent : ∀ n, Cal P w K mg base (2 + n) "_law_bent" ["_law_bag_here", "_law_thing_here", "_law_deep"] (fBen n) := fun n => by
    induction n with
    | zero => exact Cal.zero DBent
    | succ n ih => exact isBent DBent m_isinstance m_len m_list m_str m_tuple (q_Take.mono (show 1 ≤ 2 + n from by omega)) ih (q_Some.mono (show 2 ≤ 2 + n from by omega)) (q_IsWhole.mono (show 1 ≤ 2 + n from by omega))
  have q_Bent := r_Bent 4
  have r_Units : ∀ n, Cal P w K mg base (1 + n) "_law_units" ["_law_thing_here"] (fUn n) := fun n => by
    induction n with
    | zero => exact Cal.zero DUnits
    | succ n ih => exact isUnits DUnits m_int m_isinstance m_sum m_tuple ih (q_IsWhole.mono (show 1 ≤ 1 + n from by omega))
  have q_Units := r_Units 20
  have r_WithTruth : ∀ n, Cal P w K mg base (1 + n) "_law_with_truth" ["_law_thing_here", "_law_left"] (fWt n) := fun n => by
    induction n with
    | zero => exact Cal.zero DWithTruth
    | succ n ih => exact isWithTruth DWithTruth m_isinstance m_tuple ih (q_IsWhole.mono (show 1 ≤ 1 + n from by omega))
  have q_WithTruth := r_WithTruth 20
  have q_Truthed : Cal P w K mg base 22 "_law_truthed" ["_law_bag_here", "_law_thing_here"] (fTruthed (fUn 20) (fWt 20) fTake) := isTruthed DTruthed  (q_Units.mono (show 21 ≤ 21 from by omega)) (q_WithTruth.mono (show 21 ≤ 21 from by omega)) (q_Take.mono (show 1 ≤ 21 from by omega))
  have q_IsNatural : Cal P w K mg base 2 "_law_is_natural" ["_law_thing_here"] (fIsNatural fIsWhole) := isIsNatural DIsNatural  (q_IsWhole.mono (show 1 ≤ 1 from by omega))
  have q_IsLot : Cal P w K mg base 3 "_law_is_lot" ["_law_thing_here"] (fIsLot (fIsNatural fIsWhole)) := isIsLot DIsLot m_isinstance m_len m_range m_tuple (q_IsNatural.mono (show 2 ≤ 2 from by omega))
  have q_IsPlace : Cal P w K mg base 3 "_law_is_place" ["_law_thing_here"] (fIsPlace (fIsNatural fIsWhole)) := isIsPlace DIsPlace m_isinstance m_len m_tuple (q_IsNatural.mono (show 2 ≤ 2 from by omega))
  have q_ArePlaces : Cal P w K mg base 4 "_law_are_places" ["_law_thing_here"] (fArePlaces (fIsPlace (fIsNatural fIsWhole))) := isArePlaces DArePlaces m_isinstance m_len m_range m_tuple (q_IsPlace.mono (show 3 ≤ 3 from by omega))
  have q_IsTicket : Cal P w K mg base 4 "_law_is_ticket" ["_law_thing_here"] (fIsTicket (fIsLot (fIsNatural fIsWhole)) (fIsNatural fIsWhole)) := isIsTicket DIsTicket m_isinstance m_len m_tuple (q_IsLot.mono (show 3 ≤ 3 from by omega)) (q_IsNatural.mono (show 2 ≤ 3 from by omega))
  have q_IsCell : Cal P w K mg base 5 "_law_is_cell" ["_law_thing_here"] (fIsCell fIsWhole (fArePlaces (fIsPlace (fIsNatural fIsWhole)))) := isIsCell DIsCell m_isinstance m_len m_str m_tuple (q_IsWhole.mono (show 1 ≤ 4 from by omega)) (q_ArePlaces.mono (show 4 ≤ 4 from by omega))
  have q_Lot : Cal P w K mg base 4 "_law_lot" ["_law_bag_here"] (fLot (fPages (fSome fTake)) fTake) := isLot DLot m_tuple (q_Pages.mono (show 3 ≤ 3 from by omega)) (q_Take.mono (show 1 ≤ 3 from by omega))
  have q_Places : Cal P w K mg base 2 "_law_places" ["_law_bag_here"] (fPlaces fTake) := isPlaces DPlaces m_range m_set m_sorted m_tuple (q_Take.mono (show 1 ≤ 1 from by omega))
  have q_Thing : Cal P w K mg base 7 "_law_thing" ["_law_bag_here"] (fThing (fSome fTake) fTake (fLot (fPages (fSome fTake)) fTake) (fPlaces fTake) (fVal 4)) := isThing DThing  (q_Some.mono (show 2 ≤ 6 from by omega)) (q_Take.mono (show 1 ≤ 6 from by omega)) (q_Lot.mono (show 4 ≤ 6 from by omega)) (q_Places.mono (show 2 ≤ 6 from by omega)) (q_Value.mono (show 6 ≤ 6 from by omega))
  have gI := K01.okInt (P := P) (w := w) (base := base) (k := 20) FPIsInteger m_isinstance m_int m_bool
  have gN := K01.okNum FPIsNumber gI BPIsInteger (PySem.W.mg_of X G aPIsInteger) kPIsInteger
  have gR := K01.okRow (P := P) (w := w) (base := base) (k := 20) FPIsRow m_isinstance m_tuple m_len
  have gA := K01.okAsc (P := P) (w := w) (base := base) (k := 20) FPAscends m_all m_len m_range
  have gL := K01.okLot FPIsLot gN BPIsNumber (PySem.W.mg_of X G aPIsNumber) kPIsNumber (gA.mono (by omega)) BPAscends (PySem.W.mg_of X G aPAscends) kPAscends m_isinstance m_tuple m_all
  have gSL := K01.okSomeLot FPIsSomeLot gL BPIsLot (PySem.W.mg_of X G aPIsLot) kPIsLot m_len
  have gP := K01.okPair FPIsNumberPair gN BPIsNumber (PySem.W.mg_of X G aPIsNumber) kPIsNumber (gR.mono (by omega)) BPIsRow (PySem.W.mg_of X G aPIsRow) kPIsRow
  have gPl := K01.okPlace FPIsPlace gP BPIsNumberPair (PySem.W.mg_of X G aPIsNumberPair) kPIsNumberPair
  have gPs := K01.okPairs FPIsLotOfPairs gP BPIsNumberPair (PySem.W.mg_of X G aPIsNumberPair) kPIsNumberPair (gA.mono (by omega)) BPAscends (PySem.W.mg_of X G aPAscends) kPAscends m_isinstance m_tuple m_all
  have gT := K01.okTicket FPIsTicket (gN.mono (by omega)) BPIsNumber (PySem.W.mg_of X G aPIsNumber) kPIsNumber gSL BPIsSomeLot (PySem.W.mg_of X G aPIsSomeLot) kPIsSomeLot (gR.mono (by omega)) BPIsRow (PySem.W.mg_of X G aPIsRow) kPIsRow
  have gC := K01.okCell FPIsCell (gI.mono (by omega)) BPIsInteger (PySem.W.mg_of X G aPIsInteger) kPIsInteger gPs BPIsLotOfPairs (PySem.W.mg_of X G aPIsLotOfPairs) kPIsLotOfPairs (gR.mono (by omega)) BPIsRow (PySem.W.mg_of X G aPIsRow) kPIsRow m_isinstance m_str
  have gK := K01.okAlk (P := P) (w := w) (base := base) (k := 37) FAlike m_repr
  have gS := K01.okStr (k := 38) FAreStrangers (gI.mono (by omega)) BPIsInteger (PySem.W.mg_of X G aPIsInteger) kPIsInteger (gL.mono (by omega)) BPIsLot (PySem.W.mg_of X G aPIsLot) kPIsLot (gPl.mono (by omega)) BPIsPlace (PySem.W.mg_of X G aPIsPlace) kPIsPlace (gT.mono (by omega)) BPIsTicket (PySem.W.mg_of X G aPIsTicket) kPIsTicket (gC.mono (by omega)) BPIsCell (PySem.W.mg_of X G aPIsCell) kPIsCell gK BAlike (PySem.W.mg_of X G aAlike) kAlike
  have i0 := K01.okN0 (P := P) (w := w) (mg := mg) (base := base) (k := 37) F0
  have i1 := K01.okN1 (P := P) (w := w) (mg := mg) (base := base) (k := 37) F1 T1.ox xf1a
  have i2 := K01.okN2 (P := P) (w := w) (mg := mg) (base := base) (k := 37) F2 T2.ox xf2a xf2b
  exact okLw (k := 38) FLaw m_range m_repr (q_Bag.mono (by omega)) (q_Alike.mono (by omega)) (q_PIsCell.mono (by omega)) (q_PIsTicket.mono (by omega)) (q_PIsPlace.mono (by omega)) (q_PIsLot.mono (by omega)) (q_PIsInteger.mono (by omega)) (q_IsCell.mono (by omega)) (q_IsTicket.mono (by omega)) (q_IsPlace.mono (by omega)) (q_IsLot.mono (by omega)) (q_IsWhole.mono (by omega)) (q_Some.mono (by omega)) (q_Take.mono (by omega)) (q_Bent.mono (by omega)) (q_Truthed.mono (by omega)) (q_Thing.mono (by omega)) gS BAreStrangers (PySem.W.mg_of X G aAreStrangers) kAreStrangers T0 ⟨xi0, xt0⟩ i0 B0 (PySem.W.mg_of X G xA0) t0 T1 ⟨xi1, xt1⟩ i1 B1 (PySem.W.mg_of X G xA1) t1 T2 ⟨xi2, xt2⟩ i2 B2 (PySem.W.mg_of X G xA2) t2
end D01
open PySem PySem.W PyProof.Rows
set_option maxHeartbeats 0 in
theorem PySem.Challenge.cw_pagesworn_k01_forms_of_any_value_holds : PySem.Challenge.rw_pagesworn_k01_forms_of_any_value.Holds := by
  w_on; o_law; k_head; (case hw => w_witness2)
  k_fill
  refine Pg.walkG (l := PySem.Challenge.rw_pagesworn_k01_forms_of_any_value) (n := 63) (k := 40) (x := "_law_script") (sp := D01.spLw) rfl (by decide) rfl ⟨rfl, by decide, by decide⟩ (fun w h Y => PySem.W.kIn_of Y) ?F (fun _ _ a ns hl hS => ⟨a, ns, rfl, hS, hl, fun _ => rfl⟩)
  case F =>
    intro w mg fa h KX G hmg
    refine' D01.all_mk KX G hmg ?sA ?xA0 ?xL0 ?xs0 ?xg0 ?xh0 ?xc0 ?xi0 ?xt0 ?xl0 ?xd0 ?xk0 ?yk0 ?ye0 ?yt0 ?yh0 ?yc0 ?ym0 ?kt0_int ?kt0_bool ?kt0_str ?kt0_tuple ?xA1 ?xL1 ?xs1 ?xg1 ?xh1 ?xc1 ?xf1a ?xi1 ?xt1 ?xl1 ?xd1 ?xk1 ?yk1 ?ye1 ?yt1 ?yh1 ?yc1 ?ym1 ?kt1_int ?kt1_bool ?kt1_str ?kt1_tuple ?xA2 ?xL2 ?xs2 ?xg2 ?xh2 ?xc2 ?xf2a ?xf2b ?xi2 ?xt2 ?xl2 ?xd2 ?xk2 ?yk2 ?ye2 ?yt2 ?yh2 ?yc2 ?ym2 ?kt2_int ?kt2_bool ?kt2_str ?kt2_tuple ?zn ?zt ?aPIsInteger ?lPIsInteger ?cPIsInteger ?kPIsInteger ?aPIsNumber ?lPIsNumber ?cPIsNumber ?kPIsNumber ?aPIsRow ?lPIsRow ?cPIsRow ?kPIsRow ?aPAscends ?lPAscends ?cPAscends ?kPAscends ?aPIsLot ?lPIsLot ?cPIsLot ?kPIsLot ?aPIsSomeLot ?lPIsSomeLot ?cPIsSomeLot ?kPIsSomeLot ?aPIsNumberPair ?lPIsNumberPair ?cPIsNumberPair ?kPIsNumberPair ?aPIsPlace ?lPIsPlace ?cPIsPlace ?kPIsPlace ?aPIsLotOfPairs ?lPIsLotOfPairs ?cPIsLotOfPairs ?kPIsLotOfPairs ?aPIsTicket ?lPIsTicket ?cPIsTicket ?kPIsTicket ?aPIsCell ?lPIsCell ?cPIsCell ?kPIsCell ?aBag ?lBag ?cBag ?kBag ?aTake ?lTake ?cTake ?kTake ?aSome ?lSome ?cSome ?kSome ?aAlike ?lAlike ?cAlike ?kAlike ?aIsWhole ?lIsWhole ?cIsWhole ?kIsWhole ?aPages ?lPages ?cPages ?kPages ?aValue ?lValue ?cValue ?kValue ?aBent ?lBent ?cBent ?kBent ?aUnits ?lUnits ?cUnits ?kUnits ?aWithTruth ?lWithTruth ?cWithTruth ?kWithTruth ?aTruthed ?lTruthed ?cTruthed ?kTruthed ?aIsNatural ?lIsNatural ?cIsNatural ?kIsNatural ?aIsLot ?lIsLot ?cIsLot ?kIsLot ?aIsPlace ?lIsPlace ?cIsPlace ?kIsPlace ?aArePlaces ?lArePlaces ?cArePlaces ?kArePlaces ?aIsTicket ?lIsTicket ?cIsTicket ?kIsTicket ?aIsCell ?lIsCell ?cIsCell ?kIsCell ?aLot ?lLot ?cLot ?kLot ?aPlaces ?lPlaces ?cPlaces ?kPlaces ?aThing ?lThing ?cThing ?kThing ?aAreStrangers ?lAreStrangers ?cAreStrangers ?kAreStrangers ?aLaw ?lLaw ?cLaw ?kLaw ?b_abs ?b_all ?b_bool ?b_dict ?b_enumerate ?b_int ?b_isinstance ?b_len ?b_list ?b_range ?b_repr ?b_set ?b_sorted ?b_str ?b_sum ?b_tuple
    (case sA => k_is); (case xA0 => k_is); (case xL0 => k_is); (case xs0 => k_is); (case xg0 => k_is); (case xh0 => k_is)
    (case xc0 => k_is); (case xi0 => k_is); (case xt0 => k_is); (case xl0 => k_is); (case xd0 => k_is); (case xk0 => k_is)
    (case yk0 => k_is); (case ye0 => k_is); (case yt0 => k_is); (case yh0 => k_is); (case yc0 => k_is); (case ym0 => k_is)
    (case kt0_int => first | kit_is | k_is); (case kt0_bool => first | kit_is | k_is); (case kt0_str => first | kit_is | k_is); (case kt0_tuple => first | kit_is | k_is); (case xA1 => k_is); (case xL1 => k_is)
    (case xs1 => k_is); (case xg1 => k_is); (case xh1 => k_is); (case xc1 => k_is); (case xf1a => k_is); (case xi1 => k_is)
    (case xt1 => k_is); (case xl1 => k_is); (case xd1 => k_is); (case xk1 => k_is); (case yk1 => k_is); (case ye1 => k_is)
    (case yt1 => k_is); (case yh1 => k_is); (case yc1 => k_is); (case ym1 => k_is); (case kt1_int => first | kit_is | k_is); (case kt1_bool => first | kit_is | k_is)
    (case kt1_str => first | kit_is | k_is); (case kt1_tuple => first | kit_is | k_is); (case xA2 => k_is); (case xL2 => k_is); (case xs2 => k_is); (case xg2 => k_is)
    (case xh2 => k_is); (case xc2 => k_is); (case xf2a => k_is); (case xf2b => k_is); (case xi2 => k_is); (case xt2 => k_is)
    (case xl2 => k_is); (case xd2 => k_is); (case xk2 => k_is); (case yk2 => k_is); (case ye2 => k_is); (case yt2 => k_is)
    (case yh2 => k_is); (case yc2 => k_is); (case ym2 => k_is); (case kt2_int => first | kit_is | k_is); (case kt2_bool => first | kit_is | k_is); (case kt2_str => first | kit_is | k_is)
    (case kt2_tuple => first | kit_is | k_is); (case zn => k_is); (case zt => k_is); (case aPIsInteger => k_is); (case lPIsInteger => k_is); (case cPIsInteger => k_is)
    (case kPIsInteger => k_is); (case aPIsNumber => k_is); (case lPIsNumber => k_is); (case cPIsNumber => k_is); (case kPIsNumber => k_is); (case aPIsRow => k_is)
    (case lPIsRow => k_is); (case cPIsRow => k_is); (case kPIsRow => k_is); (case aPAscends => k_is); (case lPAscends => k_is); (case cPAscends => k_is)
    (case kPAscends => k_is); (case aPIsLot => k_is); (case lPIsLot => k_is); (case cPIsLot => k_is); (case kPIsLot => k_is); (case aPIsSomeLot => k_is)
    (case lPIsSomeLot => k_is); (case cPIsSomeLot => k_is); (case kPIsSomeLot => k_is); (case aPIsNumberPair => k_is); (case lPIsNumberPair => k_is); (case cPIsNumberPair => k_is)
    (case kPIsNumberPair => k_is); (case aPIsPlace => k_is); (case lPIsPlace => k_is); (case cPIsPlace => k_is); (case kPIsPlace => k_is); (case aPIsLotOfPairs => k_is)
    (case lPIsLotOfPairs => k_is); (case cPIsLotOfPairs => k_is); (case kPIsLotOfPairs => k_is); (case aPIsTicket => k_is); (case lPIsTicket => k_is); (case cPIsTicket => k_is)
    (case kPIsTicket => k_is); (case aPIsCell => k_is); (case lPIsCell => k_is); (case cPIsCell => k_is); (case kPIsCell => k_is); (case aBag => k_is)
    (case lBag => k_is); (case cBag => k_is); (case kBag => k_is); (case aTake => k_is); (case lTake => k_is); (case cTake => k_is)
    (case kTake => k_is); (case aSome => k_is); (case lSome => k_is); (case cSome => k_is); (case kSome => k_is); (case aAlike => k_is)
    (case lAlike => k_is); (case cAlike => k_is); (case kAlike => k_is); (case aIsWhole => k_is); (case lIsWhole => k_is); (case cIsWhole => k_is)
    (case kIsWhole => k_is); (case aPages => k_is); (case lPages => k_is); (case cPages => k_is); (case kPages => k_is); (case aValue => k_is)
    (case lValue => k_is); (case cValue => k_is); (case kValue => k_is); (case aBent => k_is); (case lBent => k_is); (case cBent => k_is)
    (case kBent => k_is); (case aUnits => k_is); (case lUnits => k_is); (case cUnits => k_is); (case kUnits => k_is); (case aWithTruth => k_is)
    (case lWithTruth => k_is); (case cWithTruth => k_is); (case kWithTruth => k_is); (case aTruthed => k_is); (case lTruthed => k_is); (case cTruthed => k_is)
    (case kTruthed => k_is); (case aIsNatural => k_is); (case lIsNatural => k_is); (case cIsNatural => k_is); (case kIsNatural => k_is); (case aIsLot => k_is)
    (case lIsLot => k_is); (case cIsLot => k_is); (case kIsLot => k_is); (case aIsPlace => k_is); (case lIsPlace => k_is); (case cIsPlace => k_is)
    (case kIsPlace => k_is); (case aArePlaces => k_is); (case lArePlaces => k_is); (case cArePlaces => k_is); (case kArePlaces => k_is); (case aIsTicket => k_is)
    (case lIsTicket => k_is); (case cIsTicket => k_is); (case kIsTicket => k_is); (case aIsCell => k_is); (case lIsCell => k_is); (case cIsCell => k_is)
    (case kIsCell => k_is); (case aLot => k_is); (case lLot => k_is); (case cLot => k_is); (case kLot => k_is); (case aPlaces => k_is)
    (case lPlaces => k_is); (case cPlaces => k_is); (case kPlaces => k_is); (case aThing => k_is); (case lThing => k_is); (case cThing => k_is)
    (case kThing => k_is); (case aAreStrangers => k_is); (case lAreStrangers => k_is); (case cAreStrangers => k_is); (case kAreStrangers => k_is); (case aLaw => k_is)
    (case lLaw => k_is); (case cLaw => k_is); (case kLaw => k_is); (case b_abs => k_is); (case b_all => k_is); (case b_bool => k_is)
    (case b_dict => k_is); (case b_enumerate => k_is); (case b_int => k_is); (case b_isinstance => k_is); (case b_len => k_is); (case b_list => k_is)
    (case b_range => k_is); (case b_repr => k_is); (case b_set => k_is); (case b_sorted => k_is); (case b_str => k_is); (case b_sum => k_is)
    (case b_tuple => k_is)
