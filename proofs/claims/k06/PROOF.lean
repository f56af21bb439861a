import PyProof.Rows.All
import Wide.All
import OpenK.AllK
import Wide.FinOn
import PyProof.ReprRoads
import PyProof.ReprLen
import HandS.ForMost
import HandS.DeepEq
import HandS.Wide
import HandS.WordsList
import HandS.Flow
import HandS.Lambda
import HandS.TupAny
import HandS.Steps
import KE.DataCmp
import HandS.IsInst
import HandS.TupSets
import HandS.TupLe
import HandS.Zip
import KE.KRevSl
import KE.SortData
import PyProof.P3In
import PyProof.Rows.InDataRows
import KE.GoesMore
import KE.DataMinMax
import PyProof.Claim2Refuses
import HandS.Small
import HandS.SortKw
import KE.SortKeyHeap
import HandS.DictTup
import HandS.SetFor
import KE.DataFind
import HandS.Strs
import KE.KIndexOf
import HandS.More
import HandS.EndTab
import PySem.Challenge.RW_pagesworn_k06_tickets_of_a_page
set_option Elab.async false
set_option linter.all false
set_option maxRecDepth 100000
set_option maxHeartbeats 4000000
namespace Pg
open PySem PySem.Spec PyProof.Rows L2

/-! ### data at any depth, dicts too -/
def keyD : Key → PyData
  | .inl i => .int i
  | .inr x => .str x
mutual
inductive Dd (K : PySem.W.Frag) (H : Hp) : V → PyData → Prop
  | non : Dd K H .non .none
  | bl (b : Bool) : Dd K H (.bl b) (.bool b)
  | int (i : Int) : Dd K H (.int i) (.int i)
  | str (x : Str) : Dd K H (.str x) (.str x)
  | lst {a : Addr} {xs : List V} {ds : List PyData} (q : SqL K H a xs) (r : Dds K H xs ds) : Dd K H (.ref a) (.list ds)
  | tup {a : Addr} {xs : List V} {ds : List PyData} (q : SqT K H a xs) (r : Dds K H xs ds) : Dd K H (.ref a) (.tuple ds)
  | dic {a : Addr} {kvs : List (Key × V)} {ds : List (PyData × PyData)} (q : H a = some (.dK kvs)) (r : Ddk K H kvs ds) : Dd K H (.ref a) (.dict ds)
inductive Dds (K : PySem.W.Frag) (H : Hp) : List V → List PyData → Prop
  | nil : Dds K H [] []
  | cons {v : V} {vs : List V} {d : PyData} {ds : List PyData} (h : Dd K H v d) (r : Dds K H vs ds) : Dds K H (v :: vs) (d :: ds)
inductive Ddk (K : PySem.W.Frag) (H : Hp) : List (Key × V) → List (PyData × PyData) → Prop
  | nil : Ddk K H [] []
  | cons {k : Key} {v : V} {vs : List (Key × V)} {d : PyData} {ds : List (PyData × PyData)} (h : Dd K H v d) (r : Ddk K H vs ds) : Ddk K H ((k, v) :: vs) ((keyD k, d) :: ds)
end
theorem same_seqT {K : PySem.W.Frag} {H H' : Hp} {a : Addr} {xs : List V} (e : Same H H') (h : SqT K H a xs) : SqT K H' a xs :=
  h.elim (fun r => .inl (r.elim (fun z => .inl (e _ _ z)) fun ⟨o, z⟩ => .inr ⟨o, e _ _ z⟩)) .inr
mutual
theorem Dd.up {K : PySem.W.Frag} {H H' : Hp} (e : Same H H') : ∀ (d : PyData) (v : V), Dd K H v d → Dd K H' v d
  | .none, _, h => by cases h; exact .non
  | .bool b, _, h => by cases h; exact .bl b
  | .int i, _, h => by cases h; exact .int i
  | .str x, _, h => by cases h; exact .str x
  | .list ds, _, h => by
    cases h with
    | lst q r => exact .lst (e.seq q) (Dds.up e ds _ r)
  | .tuple ds, _, h => by
    cases h with
    | tup q r => exact .tup (same_seqT e q) (Dds.up e ds _ r)
  | .dict ds, _, h => by
    cases h with
    | dic q r => exact .dic (e _ _ q) (Ddk.up e ds _ r)
theorem Dds.up {K : PySem.W.Frag} {H H' : Hp} (e : Same H H') : ∀ (ds : List PyData) (vs : List V), Dds K H vs ds → Dds K H' vs ds
  | [], _, h => by cases h; exact .nil
  | d :: ds, _, h => by
    cases h with
    | cons h r => exact .cons (Dd.up e d _ h) (Dds.up e ds _ r)
theorem Ddk.up {K : PySem.W.Frag} {H H' : Hp} (e : Same H H') : ∀ (ds : List (PyData × PyData)) (vs : List (Key × V)), Ddk K H vs ds → Ddk K H' vs ds
  | [], _, h => by cases h; exact .nil
  | (k, d) :: ds, _, h => by
    cases h with
    | cons h r => exact .cons (Dd.up e d _ h) (Ddk.up e ds _ r)
end
theorem all_in {bs cs ds : List Addr} {P : Addr → Prop} (h1 : ∀ b ∈ bs, P b) (h2 : ∀ b ∈ cs, P b) : ∀ b ∈ bs ++ cs, P b := fun b hb =>
  (List.mem_append.mp hb).elim (h1 b) (h2 b)

theorem rm0 (h : Heap) (n : Nat) : ReadAtMost h n [] := fun _ z => by cases z
section
variable {X : Cx} {pins : List (Addr × Obj)} {σ : L2.St} {H : Hp} {s : Shared}
theorem key_say {k : Key} {u : Value} (h : keyIs k u = true) : Reads s.heap u (keyD k) [] ∧ (keyD k).depth = 0 ∧
    ((keyD k).showable = true → (keyD k).shown.length ≤ sizeLine → ∀ bs n, ReprK X.prog X.w bs s.heap n u (keyD k).shown) := by
  rcases keyIs_shape h with ⟨i, t, rfl, rfl⟩ | ⟨x, t, rfl, rfl⟩
  · refine ⟨.int i t, rfl, fun hs _ bs n => ?_⟩
    show ReprK X.prog X.w bs s.heap n _ (PyData.int i).shown
    rw [show (PyData.int i).shown = toString i by simp only [PyData.shown]]
    refine ReprK.of_is (ReprIs.int t ?_) bs _ n
    simpa [keyD, PyData.showable] using hs
  · refine ⟨.str x t, rfl, fun _ hz bs n => ?_⟩
    show ReprK X.prog X.w bs s.heap n _ (PyData.str x).shown
    rw [show (PyData.str x).shown = reprText x by simp only [PyData.shown]]
    refine ReprK.of_is (ReprIs.str x t ?_) bs _ n
    simpa [keyD, PyData.shown] using hz
mutual
/-- a value that stands for d reads as d, and its repr is the text of d -/
theorem dd_say (I : Inv X pins σ H s) : ∀ (d : PyData) (v : V) (u : Value), Dd X.K H v d → RelV v u →
    ∃ as, Reads s.heap u d as ∧ (d.showable = true → d.shown.length ≤ sizeLine → ∃ bs, ReadAtMost s.heap d.depth bs ∧ ReprK X.prog X.w bs s.heap d.depth u d.shown)
  | .none, _, _, h, r => by
    cases h; cases r
    exact ⟨_, .none, fun _ _ => ⟨[], rm0 _ _, by simp only [PyData.shown]; exact ReprK.of_is ReprIs.none _ _ _⟩⟩
  | .bool b, _, _, h, r => by
    cases h; cases r
    exact ⟨_, .bool b, fun _ _ => ⟨[], rm0 _ _, by simp only [PyData.shown]; exact ReprK.of_is (ReprIs.bool b) _ _ _⟩⟩
  | .int i, _, _, h, r => by
    cases h
    obtain ⟨t, rfl⟩ := r
    refine ⟨_, .int i t, fun hs _ => ⟨[], rm0 _ _, ?_⟩⟩
    simp only [PyData.shown]
    exact ReprK.of_is (ReprIs.int t (by simpa [PyData.showable] using hs)) _ _ _
  | .str x, _, _, h, r => by
    cases h
    obtain ⟨t, rfl⟩ := r
    refine ⟨_, .str x t, fun _ hz => ⟨[], rm0 _ _, ?_⟩⟩
    simp only [PyData.shown] at hz ⊢
    exact ReprK.of_is (ReprIs.str x t hz) _ _ _
  | .list ds, _, _, h, r => by
    cases h with
    | @lst a xs _ q rr =>
      cases r
      obtain ⟨its, rv, ⟨o, n, ho, hc, _, hd⟩, _⟩ := I.list q
      obtain ⟨as, hr, hk⟩ := dds_say I ds xs its rr rv
      have R : Reads s.heap (.ref a) (.list ds) (a :: as) := Reads.list ho hc hd hr
      refine ⟨_, R, fun hs hz => ?_⟩
      simp only [PyData.shown] at hz
      obtain ⟨bs, hb, kk⟩ := hk (by simpa [PyData.showable] using hs) fun t ht => Nat.le_trans (listText_mem_le ht) hz
      have hna : a ∉ bs := not_mem_of_deeper R (by simp only [PyData.depth]; omega) hb
      refine ⟨a :: bs, ReadAtMost.cons R (by simp only [PyData.depth]; omega) hb, ?_⟩
      simp only [PyData.depth, PyData.shown]
      cases its with
      | nil =>
        cases kk' : PyData.shownAll ds with
        | nil => rw [listText_nil]; exact ReprK.listEmpty ho hc hd
        | cons t ts =>
          rw [kk'] at kk
          exact nomatch kk
      | cons z its =>
        refine ReprK.list ho hc hd hna (by simpa using kk.length_eq) fun i y e => ?_
        exact kk.item i y (by simpa using e)
  | .tuple ds, _, _, h, r => by
    cases h with
    | @tup a xs _ q rr =>
      cases r
      obtain ⟨its, rv, ⟨o, ho, hc, n, hd⟩, _⟩ := I.tuple q
      obtain ⟨as, hr, hk⟩ := dds_say I ds xs its rr rv
      have R : Reads s.heap (.ref a) (.tuple ds) as := Reads.tuple ho hc hd hr
      refine ⟨_, R, fun hs hz => ?_⟩
      simp only [PyData.shown] at hz
      obtain ⟨bs, hb, kk⟩ := hk (by simpa [PyData.showable] using hs) fun t ht => Nat.le_trans (tupleText_mem_le ht) hz
      have hna : a ∉ bs := not_mem_of_deeper R (by simp only [PyData.depth]; omega) hb
      refine ⟨a :: bs, ReadAtMost.cons R (by simp only [PyData.depth]; omega) hb, ?_⟩
      simp only [PyData.depth, PyData.shown]
      exact ReprK.tuple ho hc hd hna kk
  | .dict ds, _, _, h, r => by
    cases h with
    | @dic a kvs _ q rr =>
      cases r
      obtain ⟨_, lo, vs, rel, o, es, ep, ho, hx, hd, _, hp, _⟩ := (show ObjOk X.prog X.w H s.heap a (.dK kvs) from I.hok a _ q)
      obtain ⟨as, cs, h1, h2, hk⟩ := ddk_say I ds kvs es.toList vs rr rel hp
      have R : Reads s.heap (.ref a) (.dict ds) (a :: as ++ cs) := Reads.dict ho hx.1 hd h1 h2
      refine ⟨_, R, fun hs hz => ?_⟩
      simp only [PyData.shown] at hz
      obtain ⟨bs, hb, kk⟩ := hk (by simpa [PyData.showable] using hs) fun t ht => Nat.le_trans (dictText_mem_le ht) hz
      have hna : a ∉ bs := not_mem_of_deeper R (by simp only [PyData.depth]; omega) hb
      refine ⟨a :: bs, ReadAtMost.cons R (by simp only [PyData.depth]; omega) hb, ?_⟩
      simp only [PyData.depth, PyData.shown]
      exact ReprK.dict ho hx.1 hd lo hna kk
theorem dds_say (I : Inv X pins σ H s) : ∀ (ds : List PyData) (vs : List V) (us : List Value), Dds X.K H vs ds → Vals vs us →
    ∃ as, ReadsAll s.heap us ds as ∧ (PyData.showableAll ds = true → (∀ t ∈ PyData.shownAll ds, t.length ≤ sizeLine) → ∃ bs, ReadAtMost s.heap (PyData.depthAll ds) bs ∧ ReprAllK X.prog X.w bs s.heap (PyData.depthAll ds) us (PyData.shownAll ds))
  | [], _, _, h, r => by
    cases h; cases r
    exact ⟨_, .nil, fun _ _ => ⟨[], rm0 _ _, by simp only [PyData.shownAll]; exact .nil⟩⟩
  | d :: ds, _, _, h, r => by
    cases h with
    | cons h1 h2 =>
      cases r with
      | cons r1 r2 =>
        obtain ⟨as, q1, k1⟩ := dd_say I d _ _ h1 r1
        obtain ⟨cs, q2, k2⟩ := dds_say I ds _ _ h2 r2
        refine ⟨_, .cons q1 q2, fun hs hz => ?_⟩
        have hs' : d.showable = true ∧ PyData.showableAll ds = true := by simpa [PyData.showableAll] using hs
        simp only [PyData.shownAll, List.mem_cons] at hz
        obtain ⟨b1, m1, j1⟩ := k1 hs'.1 (hz _ (.inl rfl))
        obtain ⟨b2, m2, j2⟩ := k2 hs'.2 fun t ht => hz t (.inr ht)
        refine ⟨b1 ++ b2, ?_, ?_⟩
        · simp only [PyData.depthAll]
          exact (m1.mono (Nat.le_max_left _ _)).append (m2.mono (Nat.le_max_right _ _))
        · simp only [PyData.depthAll, PyData.shownAll]
          refine .cons ((j1.more fun b hb => ?_).level_le (Nat.le_max_left _ _)) (j2.more_le (fun b hb => ?_) (Nat.le_max_right _ _))
          · exact List.mem_append.mpr (.inl hb)
          · exact List.mem_append.mpr (.inr hb)
theorem ddk_say (I : Inv X pins σ H s) : ∀ (ds : List (PyData × PyData)) (kvs : List (Key × V)) (es : List DictEntry) (vs : List (Key × Value)), Ddk X.K H kvs ds → KV kvs vs → Pairs (mixKind X.prog X.w) es vs →
    ∃ as cs, ReadsAll s.heap (es.map (·.key)) (ds.map (·.1)) as ∧ ReadsAll s.heap (es.map (·.val)) (ds.map (·.2)) cs ∧
      (PyData.showableKv ds = true → (∀ t ∈ PyData.shownKv ds, t.length ≤ sizeLine) → ∃ bs, ReadAtMost s.heap (PyData.depthKv ds) bs ∧ ReprEntriesK X.prog X.w bs s.heap (PyData.depthKv ds) es (PyData.shownKv ds))
  | [], _, _, _, h, r, p => by
    cases h; cases r; cases p
    exact ⟨_, _, .nil, .nil, fun _ _ => ⟨[], rm0 _ _, by simp only [PyData.shownKv]; exact .nil⟩⟩
  | (kd, d) :: ds, _, _, _, h, r, p => by
    cases h with
    | @cons k v vr _ _ h1 h2 =>
      cases r with
      | @cons _ kv _ vs r1 r2 =>
        cases p with
        | @cons e _ es _ pk pv pr =>
          obtain ⟨ke, rv⟩ := r1
          obtain ⟨k', u⟩ := kv
          have ek : k = k' := ke
          subst ek
          have ev : e.val = u := pv
          obtain ⟨ka, k0, kr⟩ := key_say (X := X) (s := s) (k := k) (u := e.key) pk
          obtain ⟨as, q1, j1⟩ := dd_say I d v e.val h1 (by rw [ev]; exact rv)
          obtain ⟨as2, cs2, q2, q3, j2⟩ := ddk_say I ds vr es vs h2 r2 pr
          refine ⟨_, _, .cons ka q2, .cons q1 q3, fun hs hz => ?_⟩
          have hs' : ((keyD k).showable = true ∧ d.showable = true) ∧ PyData.showableKv ds = true := by simpa [PyData.showableKv] using hs
          simp only [PyData.shownKv, List.mem_cons] at hz
          have hl := hz _ (.inl rfl)
          rw [strLen_append, strLen_append] at hl
          obtain ⟨b1, m1, g1⟩ := j1 hs'.1.2 (by omega)
          obtain ⟨b2, m2, g2⟩ := j2 hs'.2 fun t ht => hz t (.inr ht)
          refine ⟨b1 ++ b2, ?_, ?_⟩
          · simp only [PyData.depthKv]
            exact (m1.mono (by omega)).append (m2.mono (by omega))
          · simp only [PyData.depthKv, PyData.shownKv]
            refine .cons (kr hs'.1.1 (by omega) _ _) ((g1.more fun b hb => List.mem_append.mpr (.inl hb)).level_le (by omega)) ?_
            exact entries_more (fun b hb => List.mem_append.mpr (.inr hb)) (by omega) g2
theorem entries_more {prog : Program} {w : World} {h₀ : Heap} {as cs : List Addr} {m n : Nat} (hs : ∀ b ∈ as, b ∈ cs) (hn : m ≤ n) : ∀ {es : List DictEntry} {ps : List Str}, ReprEntriesK prog w as h₀ m es ps → ReprEntriesK prog w cs h₀ n es ps
  | _, _, .nil => .nil
  | _, _, .cons a b c => .cons ((a.more hs).level_le hn) ((b.more hs).level_le hn) (entries_more hs hn c)
end
end
end Pg

set_option Elab.async false
set_option linter.all false
set_option maxRecDepth 100000
set_option maxHeartbeats 4000000
namespace Pg
open PySem PySem.Spec PyProof.Rows L2

/-! ### == of two values that stand for the same data -/
section
open PySem.SeqAt PySem.AutoSeq1
variable {prog : Program} {w : World}
theorem tup_alike (l b : Addr) (xs ys : Array Value) (n n2 : Nat) (dd dd2 : Option Addr) (sl sl2 : Array (Option Value)) (hsz : xs.size = ys.size) :
    MeetsIn prog w (Builtin.«tuple.__eq__» ⟨[.ref l, .ref b], []⟩)
      (fun A R s => s.heap.get? l = some { cls := .type "tuple", dict := dd, data := .seq xs n, slots := sl } ∧
        s.heap.get? b = some { cls := .type "tuple", dict := dd2, data := .seq ys n2, slots := sl2 } ∧
        (∀ j (h1 : j < xs.size) (h2 : j < ys.size), EqP prog w A.in1 s xs[j] ys[j] true) ∧ R (.ok (.ret (.bool true))) s) := by
  intro A R s h
  obtain ⟨hp, g, d, tk, os⟩ := s
  obtain ⟨hl, hb, he, hR⟩ := h
  have f2 := PySem.AutoSeq1.sub_tuple_tuple
  have hZ : (xs.toList.zip ys.toList).length = xs.size := by simp; omega
  wp_walk using wpAny_loadPart' hl, wpAny_loadPart' hb, wpAny_forIn_list _ (fun rest z s' => z.1 = none ∧ s' = ⟨hp, g, d, tk, os⟩ ∧ ∃ i, rest = (xs.toList.zip ys.toList).drop i) _
  case turn =>
    rintro ⟨y, x⟩ rest z s' ⟨hz', rfl, i, hz⟩
    have hlt : i < (xs.toList.zip ys.toList).length := by
      rcases Nat.lt_or_ge i (xs.toList.zip ys.toList).length with k | k
      · exact k
      · rw [List.drop_of_length_le k] at hz
        cases hz
    have h1 : i < xs.size := by omega
    have h2 : i < ys.size := by omega
    rw [List.drop_eq_getElem_cons hlt] at hz
    injection hz with hyx hrest
    have hy : y = xs[i] := by simpa using congrArg Prod.fst hyx
    have hx : x = ys[i] := by simpa using congrArg Prod.snd hyx
    subst hy hx
    refine wpAny_bind (he i h1 h2 _ _ ?_)
    wp_walk
    exact ⟨rfl, rfl, i + 1, hrest⟩
  case fin =>
    rintro ⟨z1, z2⟩ s' ⟨hz', rfl, _⟩
    simp only at hz'
    subst hz'
    wp_walk
    simpa [Builtin.Tuple.tupleCompareSizes, hsz] using hR
  case h =>
    exact ⟨rfl, rfl, 0, rfl⟩
theorem rc_tuples {A : Around} {s : Shared} {l b : Addr} {xs ys : Array Value} (hl : s.heap.IsTuple l xs) (hb : s.heap.IsTuple b ys) (hsz : xs.size = ys.size) (hu : A.units < cLine)
    (he : ∀ j (h1 : j < xs.size) (h2 : j < ys.size), EqP prog w A.in1 s xs[j] ys[j] true) (E Q : Value → Shared → Prop) (h : Q (.bool true) s) : wpAny (model prog w) A (richCompare .Eq (.ref l) (.ref b)) Q E s := by
  obtain ⟨⟨c1, d1, t1, s1⟩, o1, e1, n1, k1⟩ := id hl
  obtain ⟨⟨c2, d2, t2, s2⟩, o2, e2, n2, k2⟩ := id hb
  simp only at e1 k1 e2 k2
  subst e1 k1 e2 k2
  have ta : s.TypeIs (.ref l) "tuple" := ⟨_, o1, rfl⟩
  have tb : s.TypeIs (.ref b) "tuple" := ⟨_, o2, rfl⟩
  refine wpAny_richCompare_same_room (op := .Eq) ta tb F.slot_tuple_eq (call_meetsIn F.slot_tuple_eq ta F.entry_tuple_eq (F.args_tuple_eq_2 _ _) (tup_alike l b xs ys n1 n2 d1 d2 s1 s2 hsz) ⟨o1, o2, he, ?_⟩) hu
  show Value.bool true ≠ Value.notImplemented ∧ Q (.bool true) s
  exact ⟨(fun x => nomatch x), h⟩
end

section
variable {X : Cx} {pins : List (Addr × Obj)} {σ : L2.St} {H : Hp} {s : Shared}
theorem rc_list (I : Inv X pins σ H s) (ds : List PyData) (A : Around) (a b : Addr) (xs ys : List V) (hu : A.units < cLine) (q1 : SqL X.K H a xs) (q2 : SqL X.K H b ys)
    (k : ∀ A' : Around, A'.units + PyData.depthAll ds < cLine → ∀ (us vs : List Value), Vals xs us → Vals ys vs → us.length = vs.length ∧ ∀ j (h1 : j < us.length) (h2 : j < vs.length), SeqAt.EqP X.prog X.w A' s us[j] vs[j] true)
    (hu2 : A.units + 1 + PyData.depthAll ds < cLine) (E Q : Value → Shared → Prop) (h : Q (.bool true) s) : wpAny (model X.prog X.w) A (richCompare .Eq (.ref a) (.ref b)) Q E s := by
  obtain ⟨us, r1, p1, _⟩ := I.list q1
  obtain ⟨vs, r2, p2, _⟩ := I.list q2
  obtain ⟨hl, hj⟩ := k A.in1 hu2 us vs r1 r2
  refine SeqAt.rcP_lists (e := fun _ => true) p1.isList p2.isList (by simpa using hl) hu (fun j h1 h2 => ?_) E Q ?_
  · simpa using hj j (by simpa using h1) (by simpa using h2)
  · rw [show ((List.range us.toArray.size).all fun _ => true) = true from List.all_eq_true.mpr fun _ _ => rfl]
    exact h
theorem rc_tup (I : Inv X pins σ H s) (ds : List PyData) (A : Around) (a b : Addr) (xs ys : List V) (hu : A.units < cLine) (q1 : SqT X.K H a xs) (q2 : SqT X.K H b ys)
    (k : ∀ A' : Around, A'.units + PyData.depthAll ds < cLine → ∀ (us vs : List Value), Vals xs us → Vals ys vs → us.length = vs.length ∧ ∀ j (h1 : j < us.length) (h2 : j < vs.length), SeqAt.EqP X.prog X.w A' s us[j] vs[j] true)
    (hu2 : A.units + 1 + PyData.depthAll ds < cLine) (E Q : Value → Shared → Prop) (h : Q (.bool true) s) : wpAny (model X.prog X.w) A (richCompare .Eq (.ref a) (.ref b)) Q E s := by
  obtain ⟨us, r1, p1, _⟩ := I.tuple q1
  obtain ⟨vs, r2, p2, _⟩ := I.tuple q2
  obtain ⟨hl, hj⟩ := k A.in1 hu2 us vs r1 r2
  obtain ⟨o1, g1, c1, n1, t1⟩ := p1
  obtain ⟨o2, g2, c2, n2, t2⟩ := p2
  refine rc_tuples ⟨o1, g1, c1, n1, t1⟩ ⟨o2, g2, c2, n2, t2⟩ (by simpa using hl) hu (fun j h1 h2 => ?_) E Q h
  simpa using hj j (by simpa using h1) (by simpa using h2)
theorem rc_dic (I : Inv X pins σ H s) (ds : List (PyData × PyData)) (A : Around) (a b : Addr) (ks ls : List (Key × V)) (hu : A.units < cLine) (q1 : H a = some (.dK ks)) (q2 : H b = some (.dK ls))
    (k : ∀ A' : Around, A'.units + PyData.depthKv ds < cLine → ∀ (vs ws pre : List (Key × Value)), KV ks vs → KV ls ws → ((pre ++ ws).map (·.1)).Nodup → vs.length = ws.length ∧ PySem.W.KeqHitsP X.prog X.w A' s (pre ++ ws) vs true)
    (hu2 : A.units + 1 + PyData.depthKv ds < cLine) (E Q : Value → Shared → Prop) (h : Q (.bool true) s) : wpAny (model X.prog X.w) A (richCompare .Eq (.ref a) (.ref b)) Q E s := by
  obtain ⟨_, ya, va, ra, da⟩ := (show ObjOk X.prog X.w H s.heap a (.dK ks) from I.hok a _ q1)
  obtain ⟨_, yb, vb, rb, db⟩ := (show ObjOk X.prog X.w H s.heap b (.dK ls) from I.hok b _ q2)
  obtain ⟨_, _, _, _, _, _, _, _, hn⟩ := id db
  obtain ⟨hl, hh⟩ := k A.in1 hu2 va vb [] ra rb hn
  refine PySem.W.rcP_dicts (knd := mixKind X.prog X.w) (r := true) ya yb da db hu (fun _ => hh) E Q ?_
  rw [show (va.length == vb.length && true) = true by rw [hl]; simp]
  exact h
theorem value_mid {k : Key} {y : Value} {pre r : List (Key × Value)} (h : ((pre ++ (k, y) :: r).map (·.1)).Nodup) : valueAt (pre ++ (k, y) :: r) k = some y := by
  have hn : pre.find? (fun kv => decide (kv.1 = k)) = none := by
    rw [List.find?_eq_none]
    intro z hz e
    have e' : z.1 = k := by simpa using e
    rw [List.map_append, List.nodup_append] at h
    exact h.2.2 z.1 (List.mem_map.mpr ⟨z, hz, rfl⟩) k (by simp) e'
  unfold valueAt
  rw [List.find?_append, hn]
  simp
mutual
theorem dd_eq (I : Inv X pins σ H s) : ∀ (d : PyData) (A : Around) (x y : V) (u v : Value), A.units + d.depth < cLine → Dd X.K H x d → Dd X.K H y d → RelV x u → RelV y v → SeqAt.EqP X.prog X.w A s u v true
  | .none, _, _, _, _, _, _, h1, h2, r1, r2 => by
    cases h1; cases h2
    exact (eqAt_same r1 r2 rfl).eqP
  | .bool _, _, _, _, _, _, _, h1, h2, r1, r2 => by
    cases h1; cases h2
    exact (eqAt_same r1 r2 rfl).eqP
  | .int _, _, _, _, _, _, _, h1, h2, r1, r2 => by
    cases h1; cases h2
    exact (eqAt_same r1 r2 rfl).eqP
  | .str _, _, _, _, _, _, _, h1, h2, r1, r2 => by
    cases h1; cases h2
    exact (eqAt_same r1 r2 rfl).eqP
  | .list ds, A, _, _, _, _, hu, h1, h2, r1, r2 => by
    have hd : PyData.depth (.list ds) = PyData.depthAll ds + 1 := by simp only [PyData.depth]
    cases h1 with
    | @lst a xs _ q1 k1 =>
      cases h2 with
      | @lst b ys _ q2 k2 =>
        cases r1; cases r2
        by_cases e : a = b
        · subst e
          exact (SeqAt.EqAt.same _).eqP
        · exact SeqAt.eqP_refs e fun E Q hq => rc_list I ds A a b xs ys (by omega) q1 q2 (fun A' hA' => dds_eq I ds A' xs ys hA' k1 k2) (by omega) E Q hq
  | .tuple ds, A, _, _, _, _, hu, h1, h2, r1, r2 => by
    have hd : PyData.depth (.tuple ds) = PyData.depthAll ds + 1 := by simp only [PyData.depth]
    cases h1 with
    | @tup a xs _ q1 k1 =>
      cases h2 with
      | @tup b ys _ q2 k2 =>
        cases r1; cases r2
        by_cases e : a = b
        · subst e
          exact (SeqAt.EqAt.same _).eqP
        · exact SeqAt.eqP_refs e fun E Q hq => rc_tup I ds A a b xs ys (by omega) q1 q2 (fun A' hA' => dds_eq I ds A' xs ys hA' k1 k2) (by omega) E Q hq
  | .dict ds, A, _, _, _, _, hu, h1, h2, r1, r2 => by
    have hd : PyData.depth (.dict ds) = PyData.depthKv ds + 1 := by simp only [PyData.depth]
    cases h1 with
    | @dic a ks _ q1 k1 =>
      cases h2 with
      | @dic b ls _ q2 k2 =>
        cases r1; cases r2
        by_cases e : a = b
        · subst e
          exact (SeqAt.EqAt.same _).eqP
        · exact SeqAt.eqP_refs e fun E Q hq => rc_dic I ds A a b ks ls (by omega) q1 q2 (fun A' hA' vs ws pre e1 e2 e3 => ddk_eq I ds A' ks ls vs ws pre hA' k1 k2 e1 e2 e3) (by omega) E Q hq
theorem dds_eq (I : Inv X pins σ H s) : ∀ (ds : List PyData) (A : Around) (xs ys : List V), A.units + PyData.depthAll ds < cLine → Dds X.K H xs ds → Dds X.K H ys ds →
    ∀ (us vs : List Value), Vals xs us → Vals ys vs → us.length = vs.length ∧ ∀ j (h1 : j < us.length) (h2 : j < vs.length), SeqAt.EqP X.prog X.w A s us[j] vs[j] true
  | [], _, _, _, _, h1, h2, _, _, r1, r2 => by
    cases h1; cases h2; cases r1; cases r2
    exact ⟨rfl, fun j h1 _ => absurd h1 (Nat.not_lt_zero j)⟩
  | d :: ds, A, _, _, hu, h1, h2, _, _, r1, r2 => by
    simp only [PyData.depthAll] at hu
    cases h1 with
    | cons a1 b1 =>
      cases h2 with
      | cons a2 b2 =>
        cases r1 with
        | cons c1 e1 =>
          cases r2 with
          | cons c2 e2 =>
            obtain ⟨hl, hj⟩ := dds_eq I ds A _ _ (by omega) b1 b2 _ _ e1 e2
            refine ⟨by rw [List.length_cons, List.length_cons, hl], fun j h1 h2 => ?_⟩
            cases j with
            | zero => exact dd_eq I d A _ _ _ _ (by omega) a1 a2 c1 c2
            | succ j => exact hj j (Nat.lt_of_succ_lt_succ h1) (Nat.lt_of_succ_lt_succ h2)
theorem ddk_eq (I : Inv X pins σ H s) : ∀ (ds : List (PyData × PyData)) (A : Around) (ks ls : List (Key × V)) (vs ws pre : List (Key × Value)), A.units + PyData.depthKv ds < cLine → Ddk X.K H ks ds → Ddk X.K H ls ds → KV ks vs → KV ls ws →
    ((pre ++ ws).map (·.1)).Nodup → vs.length = ws.length ∧ PySem.W.KeqHitsP X.prog X.w A s (pre ++ ws) vs true
  | [], _, _, _, _, _, _, _, h1, h2, r1, r2, _ => by
    cases h1; cases h2; cases r1; cases r2
    exact ⟨rfl, .nil⟩
  | (kd, d) :: ds, A, _, _, _, _, pre, hu, h1, h2, r1, r2, hn => by
    simp only [PyData.depthKv] at hu
    generalize hz : ((kd, d) :: ds : List (PyData × PyData)) = zs at h2
    cases h1 with
    | @cons k x xs _ _ a1 b1 =>
      cases h2 with
      | nil => cases hz
      | @cons k2 y ys d2 ds2 a2 b2 =>
        injection hz with hz1 hz2
        injection hz1 with hz3 hz4
        subst hz2 hz4
        have ek : k = k2 := by
          cases k <;> cases k2 <;> simp [keyD] at hz3 <;> simp [hz3]
        subst ek
        cases r1 with
        | @cons _ p1 _ vs c1 e1 =>
          cases r2 with
          | @cons _ p2 _ ws c2 e2 =>
            obtain ⟨f1, g1⟩ := c1
            obtain ⟨f2, g2⟩ := c2
            obtain ⟨k1, u⟩ := p1
            obtain ⟨k3, v⟩ := p2
            have m1 : k = k1 := f1
            have m2 : k = k3 := f2
            subst m1 m2
            have hn' : (((pre ++ [(k, v)]) ++ ws).map (·.1)).Nodup := by simpa using hn
            obtain ⟨hl, hh⟩ := ddk_eq I ds A _ _ _ _ (pre ++ [(k, v)]) (by omega) b1 b2 e1 e2 hn'
            have hh' : PySem.W.KeqHitsP X.prog X.w A s (pre ++ (k, v) :: ws) vs true := by simpa using hh
            refine ⟨by rw [List.length_cons, List.length_cons, hl], ?_⟩
            exact PySem.W.KeqHitsP.hit (e := true) (b := true) (value_mid hn) (dd_eq I d A _ _ _ _ (by omega) a1 a2 g1 g2) hh'
end
end

section
variable {X : Cx}
/-- x == y where both stand for the same data -/
def rAlike (K : PySem.W.Frag) : R2 := fun x y H Q => ∃ d, Dd K H x d ∧ Dd K H y d ∧ d.depth ≤ 60 ∧ Q (.bl true) H
theorem op_alike (hu : X.A.units + 64 < cLine) : OpR X (compareOp .Eq) (rAlike X.K) := by
  intro pins s σ H x y v u Q I rx ry h
  obtain ⟨d, h1, h2, hd, q⟩ := h
  have fin : EP X pins σ Q (.bool true) s := ⟨.bl true, H, I, rfl, q⟩
  have flat : ∀ z : V, x = z → y = z → scal z z = true → wpAny (model X.prog X.w) X.A (compareOp .Eq v u) (EP X pins σ Q) X.xe s := fun z e1 e2 e3 => by
    subst e1
    subst e2
    refine op_eq pins s σ H _ _ v u Q I rx ry ⟨e3, ?_⟩
    rw [decide_eq_true rfl]
    exact q
  cases d with
  | none => cases h1; cases h2; exact flat _ rfl rfl rfl
  | bool b => cases h1; cases h2; exact flat _ rfl rfl rfl
  | int i => cases h1; cases h2; exact flat _ rfl rfl rfl
  | str i => cases h1; cases h2; exact flat _ rfl rfl rfl
  | list ds =>
    simp only [PyData.depth] at hd
    cases h1 with
    | @lst a xs _ q1 k1 =>
      cases h2 with
      | @lst b ys _ q2 k2 =>
        cases rx; cases ry
        exact rc_list I ds X.A a b xs ys (by omega) q1 q2 (fun A' hA' => dds_eq I ds A' xs ys hA' k1 k2) (by omega) _ _ fin
  | tuple ds =>
    simp only [PyData.depth] at hd
    cases h1 with
    | @tup a xs _ q1 k1 =>
      cases h2 with
      | @tup b ys _ q2 k2 =>
        cases rx; cases ry
        exact rc_tup I ds X.A a b xs ys (by omega) q1 q2 (fun A' hA' => dds_eq I ds A' xs ys hA' k1 k2) (by omega) _ _ fin
  | dict ds =>
    simp only [PyData.depth] at hd
    cases h1 with
    | @dic a ks _ q1 k1 =>
      cases h2 with
      | @dic b ls _ q2 k2 =>
        cases rx; cases ry
        exact rc_dic I ds X.A a b ks ls (by omega) q1 q2 (fun A' hA' vs ws pre e1 e2 e3 => ddk_eq I ds A' ks ls vs ws pre hA' k1 k2 e1 e2 e3) (by omega) _ _ fin

/-! ### repr -/
def rRepr (K : PySem.W.Frag) : List V → Hp → VK → Prop := fun xs H Q => ∃ v d, xs = [v] ∧ Dd K H v d ∧ d.depth ≤ 60 ∧ d.showable = true ∧ d.shown.length ≤ sizeLine ∧ Q (.str d.shown) H
theorem call_reprD (hg : X.A.guards = some []) (hu : X.A.units + 64 < cLine) : CallR X (.builtin "repr") (rRepr X.K) := by
  intro pins s σ H xs us Q I r h
  obtain ⟨v, d, rfl, hd, hz, hs, hl, q⟩ := h
  obtain ⟨u, rfl, ru⟩ := vals1 r
  have fin : ∀ (h' : Heap) (tk : Tok) (t : Nat), (∀ b o, s.heap.get? b = some o → h'.get? b = some o) → EP X pins σ Q (.str d.shown tk) { s with heap := h', toks := t } :=
    fun h' tk t k => ⟨.str d.shown, H, I.kept (t' := t) k, ⟨_, rfl⟩, q⟩
  cases d with
  | none =>
    cases hd; cases ru
    have f := fin s.heap
    simp only [PyData.shown] at f
    exact PySem.P.repr_of_none (f _ _ fun _ _ e => e)
  | bool b =>
    cases hd; cases ru
    have f := fin s.heap
    simp only [PyData.shown] at f
    exact PySem.P.repr_of_bool (f _ _ fun _ _ e => e)
  | int i =>
    cases hd
    obtain ⟨t, rfl⟩ := ru
    have f := fin s.heap
    simp only [PyData.shown] at f
    exact PySem.P.repr_of_int (by simpa [PyData.showable] using hs) (f _ _ fun _ _ e => e)
  | str x =>
    cases hd
    obtain ⟨t, rfl⟩ := ru
    have f := fin s.heap
    simp only [PyData.shown] at f hl
    exact PySem.P.repr_of_str (f _ _ fun _ _ e => e) hl
  | list ds =>
    cases hd with
    | @lst a xs _ q1 k1 =>
      cases ru
      obtain ⟨its, rv, ⟨o, n, ho, hc, _, hd⟩, _⟩ := I.list q1
      obtain ⟨as, hr, hk⟩ := dds_say I ds xs its k1 rv
      have R : Reads s.heap (.ref a) (.list ds) (a :: as) := Reads.list ho hc hd hr
      simp only [PyData.shown] at hl fin
      obtain ⟨bs, hb, kk⟩ := hk (by simpa [PyData.showable] using hs) fun t ht => Nat.le_trans (listText_mem_le ht) hl
      have hna : a ∉ bs := not_mem_of_deeper R (by simp only [PyData.depth]; omega) hb
      simp only [PyData.depth] at hz
      refine call_repr_slot (by omega) ⟨o, ho, hc⟩ PySem.F.slot_list_repr.toG ?_
      cases its with
      | nil =>
        cases kk' : PyData.shownAll ds with
        | nil =>
          rw [kk', listText_nil] at fin
          exact call_list_repr_empty ⟨o, ho, hc⟩ ho hd ⟨_, _, rfl, fin s.heap _ _ fun _ _ e => e⟩
        | cons t ts =>
          rw [kk'] at kk
          exact nomatch kk
      | cons z its =>
        exact call_list_reprK ho hc hd hna (by simpa using kk.length_eq) (fun i y e => kk.item i y (by simpa using e)) hg (fun b _ => Clear.nil b) (by show X.A.units + 1 + _ < cLine; omega) (fun _ _ e => e) (fun h' u tk k => ⟨_, _, rfl, fin h' u tk k⟩) hl
  | tuple ds =>
    cases hd with
    | @tup a xs _ q1 k1 =>
      cases ru
      obtain ⟨its, rv, ⟨o, ho, hc, n, hd⟩, _⟩ := I.tuple q1
      obtain ⟨as, hr, hk⟩ := dds_say I ds xs its k1 rv
      have R : Reads s.heap (.ref a) (.tuple ds) as := Reads.tuple ho hc hd hr
      simp only [PyData.shown] at hl fin
      obtain ⟨bs, hb, kk⟩ := hk (by simpa [PyData.showable] using hs) fun t ht => Nat.le_trans (tupleText_mem_le ht) hl
      have hna : a ∉ bs := not_mem_of_deeper R (by simp only [PyData.depth]; omega) hb
      simp only [PyData.depth] at hz
      refine call_repr_slot (by omega) ⟨o, ho, hc⟩ PySem.F.slot_tuple_repr ?_
      exact call_tuple_reprK ho hc hd hna kk hg (fun b _ => Clear.nil b) (by show X.A.units + 1 + _ < cLine; omega) (fun _ _ e => e) (fun h' u tk k => ⟨_, _, rfl, fin h' u tk k⟩) hl
  | dict ds =>
    cases hd with
    | @dic a kvs _ q1 k1 =>
      cases ru
      obtain ⟨_, lo, vs, rel, o, es, ep, ho, hx, hd, _, hp, _⟩ := (show ObjOk X.prog X.w H s.heap a (.dK kvs) from I.hok a _ q1)
      obtain ⟨as, cs, h1, h2, hk⟩ := ddk_say I ds kvs es.toList vs k1 rel hp
      have R : Reads s.heap (.ref a) (.dict ds) (a :: as ++ cs) := Reads.dict ho hx.1 hd h1 h2
      simp only [PyData.shown] at hl fin
      obtain ⟨bs, hb, kk⟩ := hk (by simpa [PyData.showable] using hs) fun t ht => Nat.le_trans (dictText_mem_le ht) hl
      have hna : a ∉ bs := not_mem_of_deeper R (by simp only [PyData.depth]; omega) hb
      simp only [PyData.depth] at hz
      refine call_repr_slot (by omega) ⟨o, ho, hx.1⟩ PySem.F.slot_dict_repr ?_
      exact call_dict_reprK ho hx.1 hd lo hna kk hg (fun b _ => Clear.nil b) (by show X.A.units + 1 + _ < cLine; omega) (fun _ _ e => e) (fun h' u tk k => ⟨_, _, rfl, fin h' u tk k⟩) hl
end

/-! ### promises where no repr is under way -/
structure FnG (P : Program) (w : World) (K : PySem.W.Frag) (mg : Str → Option Value) (base : Heap) (k : Nat) (f : Addr) (fd : FuncData) (ps : List Str) (sp : Sp) : Prop where
  size : ∀ vs H Q E, sp vs H Q E → vs.length = ps.length
  goes : ∀ (A : Around) (outer : List Env) (s : Shared) (H : Hp) (args : Args) (us : List Value) (vs : List V) (Q : VK) (E : XK), A.guards = some [] → Room k A → Env0 P w K mg base A outer s H →
    BindsTo s fd args (ps.zip us) → Vals vs us → sp vs H Q E → codeAny (model P w) A (.call (.ref f) args) (CR CX0 outer P w H s Q E) s
section
variable {P : Program} {w : World} {K : PySem.W.Frag} {mg : Str → Option Value} {base : Heap}
theorem okG {x qual : Str} {st : Stmt} {f : Addr} {fd : FuncData} {N ps : List Str} {k : Nat} {sp : Sp} (F : Fun K x qual st f fd) (S : FnScope N ps (defScope st)) (size : ∀ vs H Q E, sp vs H Q E → vs.length = ps.length)
    (body : ∀ (cdv : Value) (A : Around) (outer : List Env) (s : Shared) (H : Hp) (vs : List V) (Q : VK) (E : XK), A.guards = some [] → Room k (A.deeper (envOfC qual (defScope st) s.heap.objs.size f cdv)) → sp vs H Q E →
      ∃ t, PSs (cxOf CX0 P w K mg base N qual (defScope st) f cdv A outer s H E).nox (defBody st) t ∧ t { nx := fun _ H' => Q .non H', rt := Q } (start N vs) H) : FnG P w K mg base (k + 1) f fd ps sp := by
  obtain ⟨c1, c2, c3, c4, c5, c6, cd, c7, c8, rfl, found, coded⟩ := F.ex
  refine ⟨size, fun A outer s H args us vs Q E hg hr e0 hb r hsp => ?_⟩
  have lens := size _ _ _ _ hsp
  have KX : K.In s.heap := e0.mod.kin.keeps fun b o e => (e0.bs b o e).1
  have lim : s.heap.NoLimit := e0.mod.nolimit.keeps fun b o e => (e0.bs b o e).1
  refine codeAny_call_function hr.depth (KX _ _ found) rfl S.co S.gen rfl (PySem.W.codeRec_of KX coded) (hb _ _ _ _ ?_)
  refine wpAny_newFunctionEnv_cells S.kind (fun ⟨n, v⟩ hy => ?_) fun env he s1 new => ?_
  · rcases S.par n (List.of_mem_zip hy).1 with q | q
    · exact .inl q
    · exact .inr ⟨q, PySem.W.cellsFrom_some _ _ _ (.inl q)⟩
  subst he
  refine ⟨lim.keeps new.toInCall.keep, codeAny_func ?_⟩
  obtain ⟨t, ht, hq⟩ := body cd A outer s H vs Q E hg (hr.deeper _) hsp
  have I : Inv (cxOf CX0 P w K mg base N qual (defScope st) f cd A outer s H E) [] (start N vs) H s1 := inv_start S hr.hd e0 lens r new
  refine wpAny_mono (ht.nox.run [] s1 (start N vs) H _ I hq) (fun fl s' hs => ?_) fun e s' hs => hs
  cases fl with
  | ret u =>
    obtain ⟨v, σ', H', J, rv, q⟩ := hs
    exact ⟨v, H', J.os, J.bare, J.base, J.hok, rv, q⟩
  | next =>
    obtain ⟨σ', H', J, q⟩ := hs
    exact ⟨V.non, H', J.os, J.bare, J.base, J.hok, rfl, q⟩
  | brk =>
    obtain ⟨_, _, _, q⟩ := hs
    exact q.elim
  | cont =>
    obtain ⟨_, _, _, q⟩ := hs
    exact q.elim
end
section
variable {X : Cx} {k : Nat} {f : Addr} {fd : FuncData} {ps : List Str} {sp : Sp} {x : Str} {p pos : Pos} {e : Expr} {es : List Expr} {t : TA}
theorem callG (F : FnG X.prog X.w X.K X.mg X.base k f fd ps sp) (hg : X.A.guards = some []) (hr : Room k X.A) (gl : Gl X x) (hm : X.mg x = some (.ref f)) (hk : PySem.W.keepIn X.K (.ref f) = true) (hb : Binds X.K fd ps [])
    (ha : PA X (e :: es) t) (hdb : (x == ("__debug__" : Str)) = false := by decide) (he : starEach (e :: es) X.env = (false, eval e X.env) :: starEach es X.env := by rfl) (hpl : (backTo pos (starEach es X.env)).any (·.1) = false := by rfl) :
    PE X (.Call (.Name x p) (e :: es) [] pos) (tCall sp [] E0 t) := by
  refine ⟨fun pins s σ H Q I h => ?_⟩
  refine wpAny_Call_Name_kw (ld_glob I gl hm ?_ hdb)
  refine PySem.W.callWith_K (h₀ := X.base) I.ok.mod.kin hk (thn (ha.run pos pins s σ H _ I h) fun us s1 ⟨vs, H1, I1, r, q⟩ => ⟨I1.kIn, ?_⟩) he hpl
  have q' : sp vs H1 Q E0 := by simpa using q
  have hl : (us ++ []).length = ps.length := by
    rw [List.append_nil, ← r.length]
    exact F.size _ _ _ _ q'
  have hb' : BindsTo s1 fd ⟨us, []⟩ (ps.zip us) := by simpa using hb s1 us I1.kIn hl
  refine wpAny_call (codeAny_mono (F.goes X.A X.stack s1 H1 ⟨us, []⟩ us vs Q E0 hg hr I1.env0 hb' r q') fun r s' hq => ?_)
  cases r with
  | error e => exact False.elim hq
  | ok fl =>
    cases fl with
    | ret u => exact I1.after hq
    | next => exact False.elim hq
    | brk => exact False.elim hq
    | cont => exact False.elim hq
end

/-! ### the end of a law's row -/
theorem law_goes {P : Program} {w : World} {K : PySem.W.Frag} {mg mb : Str → Option Value} {k : Nat} {fa a : Addr} {fd : FuncData} {x : Str} {sp : Sp} {s₁ : Shared} {vs : List Value} {ns : List Int}
    (KX : K.In s₁.heap) (hns : s₁.heap.Ns mainGlobals mg) (hb : s₁.heap.Ns builtinsNs mb) (hbb : ∀ x : Str, x ≠ "__name__" → mb x = bootBuiltins x) (hlim : s₁.heap.NoLimit) (hg : s₁.gens = #[])
    (ha : s₁.heap.get? a = some { cls := .type "list", data := .seq vs.toArray }) (hi : IntsAre vs ns) (hl : ns.length ≤ sizeLine) (hr : Room k callerA)
    (F : ∀ base : Heap, K.In base → base.Ns mainGlobals mg → FnG P w K mg base k fa fd [x] sp) (hbind : ∀ (s : Shared) (u : Value), BindsTo s fd ⟨[u], []⟩ [(x, u)])
    (hsp : ∀ H : Hp, SqL K H a (ns.map V.int) → sp [.ref a] H (fun v _ => v = .bl true) fun _ _ _ => False) :
    codeAny (model P w) callerA (.call (.ref fa) ⟨[.ref a], []⟩) (fun r s' => r = .ok (.ret (.bool true)) ∧ OldK s₁.heap s'.heap ∧ s'.os = s₁.os ∧ AllBare s'.gens) s₁ := by
  have rv := vals_ints hi
  -- H tracks the script at most, as a frozen thing
  have main : ∀ H : Hp, (∀ b, H b = none ∨ (b = a ∧ K.lookup a = none ∧ ∃ o xs, H b = some (.frz o (.lst xs)))) → SqL K H a (ns.map V.int) → HOk P w H s₁.heap →
      codeAny (model P w) callerA (.call (.ref fa) ⟨[.ref a], []⟩) (fun r s' => r = .ok (.ret (.bool true)) ∧ OldK s₁.heap s'.heap ∧ s'.os = s₁.os ∧ AllBare s'.gens) s₁ := by
    intro H hO hS ok
    have free : ∀ {b : Addr} {o : Obj} {es : Array DictEntry} {ep : Nat}, s₁.heap.get? b = some o → o.data = .dict es ep → H b = none := fun {b o es ep} e d => by
      rcases hO b with z | ⟨rfl, _, _⟩
      · exact z
      · rw [ha] at e
        cases e
        exact nomatch (show Data.seq vs.toArray _ = Data.dict es ep from d)
    have ns' : ∀ {b : Addr} {m : Str → Option Value}, s₁.heap.Ns b m → (hidT s₁.heap H).Ns b m := fun {b m} ⟨o, es, ep, e, d, r⟩ => ⟨o, es, ep, hidT_get e (free e d), d, r⟩
    have kb : K.In (hidT s₁.heap H) := fun b o e => hidT_get (KX b o e) (by
      rcases hO b with z | ⟨rfl, z, _⟩
      · exact z
      · rw [z] at e
        cases e)
    obtain ⟨mc, l1, l2⟩ := hlim
    have e0 : Env0 P w K mg (hidT s₁.heap H) callerA [] s₁ H :=
      { frames := rfl, mod := ⟨kb, ns' hns, ⟨mb, ns' hb, hbb⟩, ⟨mc, ns' l1, l2⟩⟩, bs := fun b o e => of_hidT e, bsz := Nat.le_of_eq (hidT_size _ _), funs := trivial, frf := fun b z => (by cases z), hok := ok, bare := .of_eq hg }
    refine codeAny_mono ((F _ kb (ns' hns)).goes callerA [] s₁ H ⟨[.ref a], []⟩ [.ref a] [.ref a] _ _ rfl hr e0 (hbind s₁ (.ref a)) (.cons rfl .nil) (hsp H hS)) fun r s' h => ?_
    cases r with
    | error e => exact False.elim h
    | ok fl =>
      cases fl with
      | next => exact False.elim h
      | brk => exact False.elim h
      | cont => exact False.elim h
      | ret u =>
        obtain ⟨v, H', os, bare, un, ok', r', q⟩ := h
        have q' : v = .bl true := q
        subst q'
        have eu : u = Value.bool true := r'
        subst eu
        refine ⟨rfl, OldK.of_keep fun b o e => ?_, os, bare⟩
        rcases hO b with z | ⟨rfl, _, ob, xs, z⟩
        · exact un.keep b o e z (fun m => nomatch m) (fun m => nomatch m)
        · have z2 := un.frzs _ ob _ z
          obtain ⟨e1, _⟩ := ok _ _ z
          obtain ⟨e2, _⟩ := ok' _ _ z2
          rw [e] at e1
          cases e1
          exact e2
  cases hk : K.lookup a with
  | some o =>
    have e := (KX a o hk).symm.trans ha
    cases e
    refine main (fun _ => none) (fun _ => .inl rfl) (.inr ⟨_, vs.toArray, _, hk, rfl, rfl, rfl, ?_, by simpa using rv⟩) fun b u z => nomatch (show (none : Option HO) = some u from z)
    rw [List.size_toArray, hi.length]
    exact hl
  | none =>
    let ob : Obj := { cls := .type "list", data := .seq vs.toArray }
    refine main (upd (fun _ => none) a (.frz ob (.lst (ns.map V.int)))) (fun b => ?_) (.inl (.inr ⟨ob, upd_same⟩)) fun b u z => ?_
    · by_cases e : b = a
      · exact .inr ⟨e, hk, ob, _, by rw [e]; exact upd_same⟩
      · exact .inl (by rw [upd_ne e])
    · by_cases e : b = a
      · subst e
        rw [upd_same] at z
        cases z
        exact ⟨ha, by rw [List.length_map]; exact hl, vs, _, rv, ha⟩
      · rw [upd_ne e] at z
        exact nomatch z
theorem walkG {l : PySem.W.OpenLaw} {n k : Nat} {q : Program} {loose : List Str} {XP : (Str → Option Value) → Heap → Prop} {YP : World → Heap → Prop} {d : DefRec} {K : Params → PySem.W.Frag} {sp : PySem.W.Frag → Sp} {x : Str}
    (hn : l.most = some n) (hn2 : n ≤ sizeLine) (hdf : d.params.defaults = []) (hr : Room k callerA)
    (hY : ∀ (w : World) (h : Heap), YP w h → (K w.params).In h)
    (F : ∀ (w : World) (mg : Str → Option Value) (fa : Addr) (h : Heap), (K w.params).In h → h.Ns mainGlobals mg → mg d.name = some (.ref fa) →
      ∃ fd : FuncData, (∀ (s : Shared) (u : Value), BindsTo s fd ⟨[u], []⟩ [(x, u)]) ∧
        ∀ base : Heap, (K w.params).In base → base.Ns mainGlobals mg → FnG l.prog w (K w.params) mg base k fa fd [x] (sp (K w.params)))
    (hsp : ∀ (K : PySem.W.Frag) (H : Hp) (a : Addr) (ns : List Int), ns.length ≤ n → SqL K H a (ns.map V.int) → sp K [.ref a] H (fun v _ => v = .bl true) fun _ _ _ => False) :
    PySem.W.WalkO q loose XP YP l.row.toRowW d [] (fun f vs => PySem.call f vs) := by
  refine Att.attach_call hn hdf fun w s₀ s₁ mg mb fa o pm cd doc a vs ns G Y ho hd hcd hmg hobj hints hlen hg => ?_
  have KX := hY w _ Y
  obtain ⟨fd, hb, hF⟩ := F w mg fa _ KX G.T.g hmg
  exact law_goes KX G.T.g G.T.b G.T.builtins G.T.nolimit hg hobj hints (Nat.le_trans hlen hn2) hr hF hb fun H hS => hsp _ H a ns hlen hS
end Pg

set_option Elab.async false
set_option linter.all false
set_option maxRecDepth 100000
set_option maxHeartbeats 4000000
namespace Dl
open PySem PySem.Spec PyProof.Rows L2 Pg
/-! ### a program's values as data: frozen data, or a number that tells a cell (a list, a dict that may still change) -/
inductive Vd where
  | d (x : PyData) | r (n : Nat) | t (xs : List PyData)
inductive Cell where
  | dead | lst (xs : List Vd) | dic (kvs : List (Key × Vd)) | dct (kvs : List (List Key × Vd)) | tbl (P : Addr) (q : Str)
abbrev Sto := List Cell
abbrev Env := List (Option Vd)
/-- the world of a moment: where the cells stand, what is set aside, the cells, the heap -/
structure Wd where
  m : List Addr
  L : Addr → Prop
  st : Sto
  H : Hp
def Wd.At (S : Wd) (n : Nat) (c : Cell) (a : Addr) : Prop := S.st[n]? = some c ∧ c ≠ .dead ∧ S.m[n]? = some a
def Wd.Lv (S : Wd) (a : Addr) : Prop := S.L a ∨ ∃ n c, S.At n c a
open Classical in
/-- the heap that stays as it is -/
noncomputable def Wd.fr (S : Wd) : Hp := fun a => if S.Lv a then none else S.H a
theorem fr_of {S : Wd} {a : Addr} {o : HO} (h : S.fr a = some o) : ¬ S.Lv a ∧ S.H a = some o := by
  unfold Wd.fr at h
  split at h
  · cases h
  · exact ⟨‹_›, h⟩
theorem fr_at {S : Wd} {a : Addr} {o : HO} (h : ¬ S.Lv a) (e : S.H a = some o) : S.fr a = some o := by
  unfold Wd.fr
  rw [if_neg h]
  exact e
theorem fr_same (S : Wd) : Same S.fr S.H := fun _ _ h => (fr_of h).2
def RV (K : PySem.W.Frag) (S : Wd) (x : V) : Vd → Prop
  | .d y => Dd K S.fr x y
  | .r n => ∃ a, S.m[n]? = some a ∧ x = .ref a
  | .t ds => ∃ (a : Addr) (vs : List V) (ob : Obj), x = .ref a ∧ S.fr a = some (.frz ob (.tup vs)) ∧ ob.dict = none ∧ Dds K S.fr vs ds
abbrev RVs (K : PySem.W.Frag) (S : Wd) : List V → List Vd → Prop := Paired (RV K S)
def tupD (k : List Key) : PyData := .tuple (k.map keyD)
def RCell (K : PySem.W.Frag) (S : Wd) (o : HO) : Cell → Prop
  | .dead => True
  | .lst xs => ∃ vs, o = .lst vs ∧ RVs K S vs xs
  | .dic kvs => ∃ ks : List (Key × V), o = .dK ks ∧ Paired (fun p q => p.1 = q.1 ∧ RV K S p.2 q.2) ks kvs
  | .dct kvs => ∃ ks : List (List Key × V), o = .dT ks ∧ Paired (fun p q => p.1 = q.1 ∧ RV K S p.2 q.2) ks kvs
  | .tbl _ q => ∃ ps : Array Value, o = .tbl ps ∧ TriplesOk ps.toList ∧ ∀ (pos : Pos) (cv : Value), codeAmong pos ps.toList = some cv → ∃ c, cv = .ref c ∧ S.fr c = some (LamX.CodeO c q)
structure Wd.Ok (K : PySem.W.Frag) (S : Wd) : Prop where
  len : S.m.length = S.st.length
  inj : ∀ {n n' c c' a}, S.At n c a → S.At n' c' a → n = n'
  nL : ∀ {n c a}, S.At n c a → ¬ S.L a
  hL : ∀ a, S.L a → ∃ o, S.H a = some o ∧ ∀ xs, o ≠ .tup xs
  cell : ∀ {n c a}, S.At n c a → ∃ o, S.H a = some o ∧ RCell K S o c
  tb : ∀ {n P q a}, S.At n (.tbl P q) a → a = P
structure Ext (S : Wd) (S' : Wd) : Prop where
  pre : ∀ (n : Nat) (a : Addr), S.m[n]? = some a → S'.m[n]? = some a
  keep : Same S.fr S'.fr
  lL : ∀ a, S.L a → S'.L a ∧ S'.H a = S.H a
theorem Ext.refl (S : Wd) : Ext S S := ⟨fun _ _ h => h, fun _ _ h => h, fun _ h => ⟨h, rfl⟩⟩
theorem Ext.trans {S S' S'' : Wd} (a : Ext S S') (b : Ext S' S'') : Ext S S'' :=
  ⟨fun n x h => b.pre n x (a.pre n x h), fun x o h => b.keep x o (a.keep x o h), fun x h => ⟨(b.lL x (a.lL x h).1).1, (b.lL x (a.lL x h).1).2.trans (a.lL x h).2⟩⟩
theorem RV.up {K : PySem.W.Frag} {S S' : Wd} (e : Ext S S') {x : V} {v : Vd} (h : RV K S x v) : RV K S' x v := by
  cases v with
  | d y => exact Dd.up e.keep y x h
  | r n =>
    obtain ⟨a, h1, h2⟩ := h
    exact ⟨a, e.pre n a h1, h2⟩
  | t ds =>
    obtain ⟨a, vs, ob, hx, h1, h2, h3⟩ := h
    exact ⟨a, vs, ob, hx, e.keep _ _ h1, h2, Dds.up e.keep _ _ h3⟩
theorem RVs.up {K : PySem.W.Frag} {S S' : Wd} (e : Ext S S') {xs : List V} {vs : List Vd} (h : RVs K S xs vs) : RVs K S' xs vs := Paired.mapP h fun _ _ => RV.up e
theorem RVs.len {K : PySem.W.Frag} {S : Wd} {xs : List V} {vs : List Vd} (h : RVs K S xs vs) : xs.length = vs.length := Paired.length h
section
variable {K : PySem.W.Frag} {S : Wd} {p a : Addr} {o : HO} {n : Nat} {c : Cell}
theorem Wd.Ok.lv (ok : S.Ok K) (h : S.Lv a) : ∃ o, S.H a = some o := by
  rcases h with h | ⟨n, c, h⟩
  · obtain ⟨o, e, _⟩ := ok.hL a h
    exact ⟨o, e⟩
  · obtain ⟨o, e, _⟩ := ok.cell h
    exact ⟨o, e⟩
theorem Wd.Ok.fresh (ok : S.Ok K) (hp : S.H p = none) : ¬ S.Lv p := fun h => by
  obtain ⟨o, e⟩ := ok.lv h
  rw [hp] at e
  cases e
theorem RCell.up {S' : Wd} (e : Ext S S') {o : HO} {c : Cell} (h : RCell K S o c) : RCell K S' o c := by
  cases c with
  | dead => trivial
  | lst xs =>
    obtain ⟨vs, h1, h2⟩ := h
    exact ⟨vs, h1, h2.up e⟩
  | dic kvs =>
    obtain ⟨ks, h1, h2⟩ := h
    exact ⟨ks, h1, Paired.mapP h2 fun _ _ z => ⟨z.1, z.2.up e⟩⟩
  | dct kvs =>
    obtain ⟨ks, h1, h2⟩ := h
    exact ⟨ks, h1, Paired.mapP h2 fun _ _ z => ⟨z.1, z.2.up e⟩⟩
  | tbl P q =>
    obtain ⟨ps, h1, h2, h3⟩ := h
    exact ⟨ps, h1, h2, fun pos cv hc => let ⟨c, e1, e2⟩ := h3 pos cv hc; ⟨c, e1, e.keep _ _ e2⟩⟩
/-- a new object that stays as it is -/
def Wd.put (S : Wd) (p : Addr) (o : HO) : Wd := { S with H := upd S.H p o }
theorem put_lv : (S.put p o).Lv a ↔ S.Lv a := Iff.rfl
theorem Wd.Ok.ext_put (ok : S.Ok K) (hp : S.H p = none) (o : HO) : Ext S (S.put p o) := by
  refine ⟨fun _ _ h => h, fun a u h => ?_, fun a h => ⟨h, ?_⟩⟩
  · obtain ⟨h1, h2⟩ := fr_of h
    refine fr_at h1 ?_
    show upd S.H p o a = some u
    rw [upd_ne (ne_of_none h2 hp)]
    exact h2
  · obtain ⟨u, e, nt⟩ := ok.hL a h
    show upd S.H p o a = S.H a
    rw [upd_ne (ne_of_none e hp)]
theorem Wd.Ok.put (ok : S.Ok K) (hp : S.H p = none) (o : HO) : (S.put p o).Ok K := by
  have e := ok.ext_put hp o
  refine ⟨ok.len, ok.inj, ok.nL, fun a h => ?_, fun {n c a} h => ?_, ok.tb⟩
  · obtain ⟨u, q, nt⟩ := ok.hL a h
    exact ⟨u, by rw [(e.lL a h).2]; exact q, nt⟩
  · obtain ⟨u, h1, h2⟩ := ok.cell h
    refine ⟨u, ?_, h2.up e⟩
    show upd S.H p o a = some u
    rw [upd_ne (ne_of_none h1 hp)]
    exact h1
theorem Wd.Ok.got (ok : S.Ok K) (hp : S.H p = none) : (S.put p o).fr p = some o := fr_at (fun h => ok.fresh hp h) upd_same
/-- a new cell -/
def Wd.more (S : Wd) (p : Addr) (o : HO) (c : Cell) : Wd := { m := S.m ++ [p], L := S.L, st := S.st ++ [c], H := upd S.H p o }
theorem Wd.Ok.more_at (ok : S.Ok K) (hc : c ≠ .dead) {n : Nat} {c' : Cell} {a : Addr} : (S.more p o c).At n c' a ↔ S.At n c' a ∨ (n = S.st.length ∧ c' = c ∧ a = p) := by
  have hl := ok.len
  unfold Wd.At Wd.more
  simp only
  constructor
  · rintro ⟨h1, h2, h3⟩
    by_cases hn : n < S.st.length
    · rw [List.getElem?_append_left hn] at h1
      rw [List.getElem?_append_left (by omega)] at h3
      exact .inl ⟨h1, h2, h3⟩
    · have hn' : n = S.st.length := by
        have := (List.getElem?_eq_some_iff.mp h1).1
        simp at this
        omega
      subst hn'
      rw [List.getElem?_append_right (Nat.le_refl _)] at h1
      rw [List.getElem?_append_right (by omega)] at h3
      simp at h1
      rw [hl] at h3
      simp at h3
      exact .inr ⟨rfl, h1.symm, h3.symm⟩
  · rintro (⟨h1, h2, h3⟩ | ⟨rfl, rfl, rfl⟩)
    · refine ⟨?_, h2, ?_⟩
      · rw [List.getElem?_append_left (List.getElem?_eq_some_iff.mp h1).1]; exact h1
      · rw [List.getElem?_append_left (List.getElem?_eq_some_iff.mp h3).1]; exact h3
    · refine ⟨by simp, hc, ?_⟩
      rw [← hl]
      simp
theorem Wd.Ok.more (ok : S.Ok K) (hp : S.H p = none) (hc : c ≠ .dead) (hr : RCell K S o c) (ht : ∀ P q, c = .tbl P q → p = P := by intro _ _ h; cases h) : Ext S (S.more p o c) ∧ (S.more p o c).Ok K := by
  have lv : ∀ a, (S.more p o c).Lv a ↔ S.Lv a ∨ a = p := fun a => by
    constructor
    · rintro (h | ⟨n, c', h⟩)
      · exact .inl (.inl h)
      · rcases (ok.more_at hc).mp h with h | ⟨_, _, h⟩
        · exact .inl (.inr ⟨n, c', h⟩)
        · exact .inr h
    · rintro ((h | ⟨n, c', h⟩) | h)
      · exact .inl h
      · exact .inr ⟨n, c', (ok.more_at hc).mpr (.inl h)⟩
      · exact .inr ⟨_, c, (ok.more_at hc).mpr (.inr ⟨rfl, rfl, h⟩)⟩
  have hl := ok.len
  have e : Ext S (S.more p o c) := by
    refine ⟨fun n a h => ?_, fun a u h => ?_, fun a h => ⟨h, ?_⟩⟩
    · show (S.m ++ [p])[n]? = some a
      rw [List.getElem?_append_left (List.getElem?_eq_some_iff.mp h).1]
      exact h
    · obtain ⟨h1, h2⟩ := fr_of h
      have np := ne_of_none h2 hp
      refine fr_at (fun z => ((lv a).mp z).elim h1 np) ?_
      show upd S.H p o a = some u
      rw [upd_ne np]
      exact h2
    · obtain ⟨u, q, nt⟩ := ok.hL a h
      show upd S.H p o a = S.H a
      rw [upd_ne (ne_of_none q hp)]
  have old : ∀ {n c' a}, S.At n c' a → a ≠ p := fun h => by
    obtain ⟨u, q, _⟩ := ok.cell h
    exact ne_of_none q hp
  refine ⟨e, by show (S.m ++ [p]).length = (S.st ++ [c]).length; simp [hl], fun {n n' c1 c2 a} h1 h2 => ?_, fun {n c' a} h => ?_, fun a h => ?_, fun {n c' a} h => ?_, fun {n P q a} h => ((ok.more_at hc).mp h).elim ok.tb fun z => z.2.2.trans (ht P q z.2.1.symm)⟩
  · rcases (ok.more_at hc).mp h1 with h1 | ⟨e1, _, q1⟩ <;> rcases (ok.more_at hc).mp h2 with h2 | ⟨e2, _, q2⟩
    · exact ok.inj h1 h2
    · exact absurd q2 (old h1)
    · exact absurd q1 (old h2)
    · rw [e1, e2]
  · rcases (ok.more_at hc).mp h with h | ⟨_, _, q⟩
    · exact ok.nL h
    · intro z
      obtain ⟨u, z, nt⟩ := ok.hL a z
      rw [q, hp] at z
      cases z
  · obtain ⟨u, q, nt⟩ := ok.hL a h
    exact ⟨u, by rw [(e.lL a h).2]; exact q, nt⟩
  · rcases (ok.more_at hc).mp h with h | ⟨_, e1, e2⟩
    · obtain ⟨u, h1, h2⟩ := ok.cell h
      refine ⟨u, ?_, h2.up e⟩
      show upd S.H p o a = some u
      rw [upd_ne (old h)]
      exact h1
    · rw [e1, e2]
      exact ⟨o, upd_same, hr.up e⟩
/-- a cell changes -/
def Wd.chg (S : Wd) (n : Nat) (a : Addr) (o : HO) (c : Cell) : Wd := { S with st := S.st.set n c, H := upd S.H a o }
theorem Wd.Ok.chg {c0 : Cell} (ok : S.Ok K) (h0 : S.At n c0 a) (hc : c ≠ .dead) (hr : RCell K S o c) (ht : ∀ P q, c = .tbl P q → a = P := by intro _ _ h; cases h) : Ext S (S.chg n a o c) ∧ (S.chg n a o c).Ok K := by
  have hn : n < S.st.length := (List.getElem?_eq_some_iff.mp h0.1).1
  have at_ : ∀ n' c' b, (S.chg n a o c).At n' c' b → (n' ≠ n ∧ S.At n' c' b) ∨ (n' = n ∧ c' = c ∧ b = a) := fun n' c' b ⟨h1, h2, h3⟩ => by
    by_cases e : n' = n
    · subst e
      have h1' : (S.st.set n' c)[n']? = some c' := h1
      rw [List.getElem?_set_self hn] at h1'
      have h3' : S.m[n']? = some b := h3
      rw [h0.2.2] at h3'
      exact .inr ⟨rfl, (Option.some.inj h1').symm, (Option.some.inj h3').symm⟩
    · have h1' : (S.st.set n c)[n']? = some c' := h1
      rw [List.getElem?_set_ne (Ne.symm e)] at h1'
      exact .inl ⟨e, h1', h2, h3⟩
  have at' : ∀ n' c' b, n' ≠ n → S.At n' c' b → (S.chg n a o c).At n' c' b := fun n' c' b e ⟨h1, h2, h3⟩ => by
    refine ⟨?_, h2, h3⟩
    show (S.st.set n c)[n']? = some c'
    rw [List.getElem?_set_ne (Ne.symm e)]
    exact h1
  have ata : (S.chg n a o c).At n c a := ⟨by show (S.st.set n c)[n]? = some c; rw [List.getElem?_set_self hn], hc, h0.2.2⟩
  have lv : ∀ b, (S.chg n a o c).Lv b ↔ S.Lv b := fun b => by
    constructor
    · rintro (h | ⟨n', c', h⟩)
      · exact .inl h
      · rcases at_ n' c' b h with ⟨_, h⟩ | ⟨_, _, e⟩
        · exact .inr ⟨n', c', h⟩
        · exact .inr ⟨n, c0, by rw [e]; exact h0⟩
    · rintro (h | ⟨n', c', h⟩)
      · exact .inl h
      · by_cases e : n' = n
        · subst e
          have := h.2.2
          rw [h0.2.2] at this
          refine .inr ⟨n', c, ?_⟩
          rw [← Option.some.inj this]
          exact ata
        · exact .inr ⟨n', c', at' n' c' b e h⟩
  have la : S.Lv a := .inr ⟨n, c0, h0⟩
  have e : Ext S (S.chg n a o c) := by
    refine ⟨fun _ _ h => h, fun b u h => ?_, fun b h => ⟨h, ?_⟩⟩
    · obtain ⟨h1, h2⟩ := fr_of h
      refine fr_at (fun z => h1 ((lv b).mp z)) ?_
      show upd S.H a o b = some u
      rw [upd_ne (show b ≠ a from fun z => h1 (by rw [z]; exact la))]
      exact h2
    · show upd S.H a o b = S.H b
      rw [upd_ne (show b ≠ a from fun z => ok.nL h0 (by rw [← z]; exact h))]
  refine ⟨e, by show S.m.length = (S.st.set n c).length; rw [List.length_set]; exact ok.len, fun {n1 n2 c1 c2 b} h1 h2 => ?_, fun {n1 c1 b} h => ?_, fun b h => ?_, fun {n1 c1 b} h => ?_, fun {n1 P q b} h => (at_ _ _ _ h).elim (fun z => ok.tb z.2) fun z => z.2.2.trans (ht P q z.2.1.symm)⟩
  · rcases at_ _ _ _ h1 with ⟨e1, h1⟩ | ⟨e1, _, q1⟩ <;> rcases at_ _ _ _ h2 with ⟨e2, h2⟩ | ⟨e2, _, q2⟩
    · exact ok.inj h1 h2
    · exact absurd (ok.inj h1 (by rw [q2]; exact h0)) e1
    · exact absurd (ok.inj h2 (by rw [q1]; exact h0)) e2
    · rw [e1, e2]
  · rcases at_ _ _ _ h with ⟨_, h⟩ | ⟨_, _, q⟩
    · exact ok.nL h
    · rw [q]; exact ok.nL h0
  · obtain ⟨u, q, nt⟩ := ok.hL b h
    exact ⟨u, by rw [(e.lL b h).2]; exact q, nt⟩
  · rcases at_ _ _ _ h with ⟨e1, h⟩ | ⟨_, q1, q2⟩
    · obtain ⟨u, h1, h2⟩ := ok.cell h
      refine ⟨u, ?_, h2.up e⟩
      show upd S.H a o b = some u
      rw [upd_ne fun z => e1 (ok.inj h (by rw [z]; exact h0))]
      exact h1
    · rw [q1, q2]
      exact ⟨o, upd_same, hr.up e⟩
/-- a cell is frozen: it changes no more -/
def Wd.frz (S : Wd) (n : Nat) : Wd := { S with st := S.st.set n .dead }
theorem Wd.Ok.frz {c0 : Cell} (ok : S.Ok K) (h0 : S.At n c0 a) : Ext S (S.frz n) ∧ (S.frz n).Ok K ∧ (∀ u, S.H a = some u → (S.frz n).fr a = some u) := by
  have hn : n < S.st.length := (List.getElem?_eq_some_iff.mp h0.1).1
  have at_ : ∀ n' c' b, (S.frz n).At n' c' b → n' ≠ n ∧ S.At n' c' b := fun n' c' b ⟨h1, h2, h3⟩ => by
    have h1' : (S.st.set n .dead)[n']? = some c' := h1
    by_cases e : n' = n
    · subst e
      rw [List.getElem?_set_self hn] at h1'
      exact absurd (Option.some.inj h1').symm h2
    · rw [List.getElem?_set_ne (Ne.symm e)] at h1'
      exact ⟨e, h1', h2, h3⟩
  have lv : ∀ b, (S.frz n).Lv b → S.Lv b := fun b => by
    rintro (h | ⟨n', c', h⟩)
    · exact .inl h
    · exact .inr ⟨n', c', (at_ n' c' b h).2⟩
  have e : Ext S (S.frz n) := by
    refine ⟨fun _ _ h => h, fun b u h => ?_, fun b h => ⟨h, rfl⟩⟩
    obtain ⟨h1, h2⟩ := fr_of h
    exact fr_at (fun z => h1 (lv b z)) h2
  refine ⟨e, ⟨by show S.m.length = (S.st.set n .dead).length; rw [List.length_set]; exact ok.len, fun h1 h2 => ok.inj (at_ _ _ _ h1).2 (at_ _ _ _ h2).2, fun h => ok.nL (at_ _ _ _ h).2, ok.hL, fun {n1 c1 b} h => ?_, fun h => ok.tb (at_ _ _ _ h).2⟩, fun u hu => ?_⟩
  · obtain ⟨u, h1, h2⟩ := ok.cell (at_ _ _ _ h).2
    exact ⟨u, h1, h2.up e⟩
  · refine fr_at (fun z => ?_) hu
    rcases z with z | ⟨n', c', z⟩
    · exact ok.nL h0 z
    · obtain ⟨e1, z⟩ := at_ _ _ _ z
      exact e1 (ok.inj z h0)
/-- an object is set aside -/
def Wd.asd (S : Wd) (p : Addr) (o : HO) : Wd := { S with L := fun a => S.L a ∨ a = p, H := upd S.H p o }
theorem Wd.Ok.asd (ok : S.Ok K) (hp : S.H p = none) (o : HO) (no : ∀ xs, o ≠ .tup xs) : Ext S (S.asd p o) ∧ (S.asd p o).Ok K := by
  have lv : ∀ b, (S.asd p o).Lv b ↔ S.Lv b ∨ b = p := fun b => by
    constructor
    · rintro ((h | h) | h)
      · exact .inl (.inl h)
      · exact .inr h
      · exact .inl (.inr h)
    · rintro ((h | h) | h)
      · exact .inl (.inl h)
      · exact .inr h
      · exact .inl (.inr h)
  have e : Ext S (S.asd p o) := by
    refine ⟨fun _ _ h => h, fun b u h => ?_, fun b h => ⟨.inl h, ?_⟩⟩
    · obtain ⟨h1, h2⟩ := fr_of h
      have np := ne_of_none h2 hp
      refine fr_at (fun z => ((lv b).mp z).elim h1 np) ?_
      show upd S.H p o b = some u
      rw [upd_ne np]
      exact h2
    · obtain ⟨u, q, nt⟩ := ok.hL b h
      show upd S.H p o b = S.H b
      rw [upd_ne (ne_of_none q hp)]
  refine ⟨e, ok.len, ok.inj, fun {n c a} h z => ?_, fun a h => ?_, fun {n c a} h => ?_, ok.tb⟩
  · rcases z with z | z
    · exact ok.nL h z
    · obtain ⟨u, q, _⟩ := ok.cell h
      rw [z, hp] at q
      cases q
  · rcases h with h | h
    · obtain ⟨u, q, nt⟩ := ok.hL a h
      exact ⟨u, by rw [(e.lL a h).2]; exact q, nt⟩
    · rw [h]
      exact ⟨o, upd_same, no⟩
  · obtain ⟨u, h1, h2⟩ := ok.cell h
    refine ⟨u, ?_, h2.up e⟩
    show upd S.H p o a = some u
    rw [upd_ne (ne_of_none h1 hp)]
    exact h1
/-- what is set aside is changed -/
theorem Wd.Ok.wr (ok : S.Ok K) (hp : S.L p) (o : HO) (no : ∀ xs, o ≠ .tup xs) : S.fr = (S.put p o).fr ∧ (S.put p o).Ok K := by
  have e : S.fr = (S.put p o).fr := by
    funext b
    unfold Wd.fr
    by_cases h : S.Lv b
    · rw [if_pos h, if_pos (put_lv.mpr h)]
    · rw [if_neg h, if_neg (fun z => h (put_lv.mp z))]
      show S.H b = upd S.H p o b
      rw [upd_ne (show b ≠ p from fun z => h (by rw [z]; exact .inl hp))]
  have up : Ext { S with L := fun a => S.L a ∧ a ≠ p } { S with L := fun a => S.L a ∧ a ≠ p } := Ext.refl _
  refine ⟨e, ok.len, ok.inj, ok.nL, fun a h => ?_, fun {n c a} h => ?_, ok.tb⟩
  · by_cases q : a = p
    · rw [q]; exact ⟨o, upd_same, no⟩
    · obtain ⟨u, z, nt⟩ := ok.hL a h
      exact ⟨u, by show upd S.H p o a = some u; rw [upd_ne q]; exact z, nt⟩
  · obtain ⟨u, h1, h2⟩ := ok.cell h
    have np : a ≠ p := fun z => ok.nL h (by rw [z]; exact hp)
    refine ⟨u, by show upd S.H p o a = some u; rw [upd_ne np]; exact h1, ?_⟩
    have rv : ∀ x v, RV K S x v → RV K (S.put p o) x v := fun x v h => by
      cases v with
      | d y => exact Dd.up (fun b u hb => by rw [← e]; exact hb) y x h
      | r n => exact h
      | t ds =>
        obtain ⟨a, vs, ob, hx, h1, h2, h3⟩ := h
        exact ⟨a, vs, ob, hx, by rw [← e]; exact h1, h2, Dds.up (fun b u hb => by rw [← e]; exact hb) _ _ h3⟩
    cases c with
    | dead => trivial
    | lst xs =>
      obtain ⟨vs, q1, q2⟩ := h2
      exact ⟨vs, q1, Paired.mapP q2 fun _ _ => rv _ _⟩
    | dic kvs =>
      obtain ⟨ks, q1, q2⟩ := h2
      exact ⟨ks, q1, Paired.mapP q2 fun _ _ z => ⟨z.1, rv _ _ z.2⟩⟩
    | dct kvs =>
      obtain ⟨ks, q1, q2⟩ := h2
      exact ⟨ks, q1, Paired.mapP q2 fun _ _ z => ⟨z.1, rv _ _ z.2⟩⟩
    | tbl P q =>
      obtain ⟨ps, q1, q2, q3⟩ := h2
      exact ⟨ps, q1, q2, fun pos cv hc => let ⟨c, e1, e2⟩ := q3 pos cv hc; ⟨c, e1, by rw [← e]; exact e2⟩⟩
end
end Dl

set_option Elab.async false
set_option linter.all false
set_option maxRecDepth 100000
set_option maxHeartbeats 4000000
namespace Dl
open PySem PySem.Spec PyProof.Rows L2 Pg
/-! ### growing -/
structure Grow (G H G' H' : Hp) : Prop where
  hh : Same H H'
  gg : Same G G'
  gh : Same G' H'
  new : ∀ a o, G' a = some o → G a = some o ∨ H a = none
theorem Grow.refl {G H : Hp} (h : Same G H) : Grow G H G H := ⟨Same.refl H, Same.refl G, h, fun _ _ e => .inl e⟩
theorem free_of {G H : Hp} {p : Addr} (h : Same G H) (hp : H p = none) : G p = none := h.free hp
theorem same_up {H : Hp} {p : Addr} {o : HO} (hp : H p = none) : Same H (upd H p o) := fun a u e => by
  rw [upd_ne (ne_of_none e hp)]
  exact e
theorem Grow.put {G H G' H' : Hp} {p : Addr} (g : Grow G H G' H') (hp : H' p = none) (o : HO) : Grow G H (upd G' p o) (upd H' p o) := by
  refine ⟨g.hh.trans (same_up hp), g.gg.trans (same_up (free_of g.gh hp)), fun a u e => ?_, fun a u e => ?_⟩
  · by_cases h : a = p
    · subst h; rw [upd_same] at e ⊢; exact e
    · rw [upd_ne h] at e ⊢; exact g.gh a u e
  · by_cases h : a = p
    · subst h
      exact .inr (g.hh.free hp)
    · rw [upd_ne h] at e
      exact g.new a u e
theorem Wd.Ok.grow {K : PySem.W.Frag} {S : Wd} {H' : Hp} (ok : S.Ok K) (h : Same S.H H') : Ext S { S with H := H' } ∧ ({ S with H := H' } : Wd).Ok K := by
  have e : Ext S { S with H := H' } := by
    refine ⟨fun _ _ h => h, fun a u q => ?_, fun a q => ⟨q, ?_⟩⟩
    · obtain ⟨h1, h2⟩ := fr_of q
      exact fr_at h1 (h a u h2)
    · obtain ⟨u, z, nt⟩ := ok.hL a q
      rw [z]
      exact h a u z
  refine ⟨e, ok.len, ok.inj, ok.nL, fun a q => ?_, fun {n c a} q => ?_, ok.tb⟩
  · obtain ⟨u, z, nt⟩ := ok.hL a q
    exact ⟨u, h a u z, nt⟩
  · obtain ⟨u, h1, h2⟩ := ok.cell q
    exact ⟨u, h a u h1, h2.up e⟩
theorem Grow.into {K : PySem.W.Frag} {S : Wd} {G' H' : Hp} (ok : S.Ok K) (g : Grow S.fr S.H G' H') : Same G' ({ S with H := H' } : Wd).fr := fun a o e => by
  refine fr_at (fun z => ?_) (g.gh a o e)
  rcases g.new a o e with h | h
  · exact (fr_of h).1 z
  · exact ok.fresh h z
/-! ### what is wanted behind an expression -/
def Aft (K : PySem.W.Frag) (S : Wd) (st' : Sto) (v : Vd) (Q : VK) : Prop := ∀ (S' : Wd) (x : V), S'.L = S.L → S'.st = st' → Ext S S' → S'.Ok K → RV K S' x v → Q x S'.H
def AftB (K : PySem.W.Frag) (S : Wd) (st' : Sto) (b : Bool) (Q : Bool → Hp → Prop) : Prop := ∀ (S' : Wd), S'.L = S.L → S'.st = st' → Ext S S' → S'.Ok K → Q b S'.H
def AftA (K : PySem.W.Frag) (S : Wd) (st' : Sto) (vs : List Vd) (Q : List V → Hp → Prop) : Prop := ∀ (S' : Wd) (xs : List V), S'.L = S.L → S'.st = st' → Ext S S' → S'.Ok K → RVs K S' xs vs → Q xs S'.H
theorem Aft.from {K : PySem.W.Frag} {S S1 : Wd} {st' : Sto} {v : Vd} {Q : VK} (h : Aft K S st' v Q) (l : S1.L = S.L) (e : Ext S S1) : Aft K S1 st' v Q := fun S' x h1 h2 h3 h4 h5 => h S' x (h1.trans l) h2 (e.trans h3) h4 h5
theorem AftB.from {K : PySem.W.Frag} {S S1 : Wd} {st' : Sto} {v : Bool} {Q : Bool → Hp → Prop} (h : AftB K S st' v Q) (l : S1.L = S.L) (e : Ext S S1) : AftB K S1 st' v Q := fun S' h1 h2 h3 h4 => h S' (h1.trans l) h2 (e.trans h3) h4
theorem AftA.from {K : PySem.W.Frag} {S S1 : Wd} {st' : Sto} {v : List Vd} {Q : List V → Hp → Prop} (h : AftA K S st' v Q) (l : S1.L = S.L) (e : Ext S S1) : AftA K S1 st' v Q := fun S' x h1 h2 h3 h4 h5 => h S' x (h1.trans l) h2 (e.trans h3) h4 h5
theorem Aft.grow {K : PySem.W.Frag} {S : Wd} {z : PyData} {Q : VK} {G' H' : Hp} {x : V} (h : Aft K S S.st (.d z) Q) (ok : S.Ok K) (g : Grow S.fr S.H G' H') (hx : Dd K G' x z) : Q x H' :=
  h { S with H := H' } x rfl rfl (ok.grow g.hh).1 (ok.grow g.hh).2 (Dd.up (g.into ok) z x hx)
structure REnv (K : PySem.W.Frag) (S : Wd) (ρ : Env) (σ : L2.St) : Prop where
  len : ρ.length = σ.length
  at_ : ∀ (i : Nat) (v : Vd), ρ[i]? = some (some v) → ∃ x, σ[i]? = some (some x) ∧ RV K S x v
theorem REnv.up {K : PySem.W.Frag} {S S' : Wd} {ρ : Env} {σ : L2.St} (e : Ext S S') (h : REnv K S ρ σ) : REnv K S' ρ σ := ⟨h.len, fun i v q => let ⟨x, h1, h2⟩ := h.at_ i v q; ⟨x, h1, h2.up e⟩⟩
theorem REnv.set {K : PySem.W.Frag} {S : Wd} {ρ : Env} {σ : L2.St} {x : V} {v : Vd} (h : REnv K S ρ σ) (i : Nat) (r : RV K S x v) : REnv K S (ρ.set i (some v)) (σ.set i (some x)) := by
  refine ⟨by rw [List.length_set, List.length_set]; exact h.len, fun j w q => ?_⟩
  by_cases e : j = i
  · subst e
    have hj : j < ρ.length := by
      have := (List.getElem?_eq_some_iff.mp q).1
      rwa [List.length_set] at this
    rw [List.getElem?_set_self hj] at q
    rw [← Option.some.inj (Option.some.inj q)]
    exact ⟨x, List.getElem?_set_self (by rw [← h.len]; exact hj), r⟩
  · rw [List.getElem?_set_ne (Ne.symm e)] at q
    obtain ⟨y, h1, h2⟩ := h.at_ j w q
    exact ⟨y, by rw [List.getElem?_set_ne (Ne.symm e)]; exact h1, h2⟩
abbrev EF := Env → Sto → Option (Vd × Sto)
abbrev BF := Env → Sto → Option (Bool × Sto)
abbrev AF := Env → Sto → Option (List Vd × Sto)
def SE (K : PySem.W.Frag) (te : TE) (f : EF) : Prop := ∀ (S : Wd) (ρ : Env) (σ : L2.St) (v : Vd) (st' : Sto), S.Ok K → REnv K S ρ σ → f ρ S.st = some (v, st') → ∀ Q, Aft K S st' v Q → te σ S.H Q
def SB (K : PySem.W.Frag) (tt : TT) (f : BF) : Prop := ∀ (S : Wd) (ρ : Env) (σ : L2.St) (b : Bool) (st' : Sto), S.Ok K → REnv K S ρ σ → f ρ S.st = some (b, st') → ∀ Q, AftB K S st' b Q → tt σ S.H Q
def SA (K : PySem.W.Frag) (ta : TA) (f : AF) : Prop := ∀ (S : Wd) (ρ : Env) (σ : L2.St) (vs : List Vd) (st' : Sto), S.Ok K → REnv K S ρ σ → f ρ S.st = some (vs, st') → ∀ Q, AftA K S st' vs Q → ta σ S.H Q
def JE (X : Cx) (e : Expr) (f : EF) : Prop := ∃ te, PE X e te ∧ SE X.K te f
def JB (X : Cx) (e : Expr) (f : BF) : Prop := ∃ tt, PT X e tt ∧ SB X.K tt f
def JW (X : Cx) (e : Expr) (f : BF) : Prop := ∃ tt, PW X e tt ∧ SB X.K tt f
def JA (X : Cx) (es : List Expr) (f : AF) : Prop := ∃ ta, PA X es ta ∧ SA X.K ta f
/-! ### what can be read -/
inductive Rk (K : PySem.W.Frag) (G H : Hp) : V → PyData → Prop
  | fr {x : V} {d : PyData} (h : Dd K G x d) : Rk K G H x d
  | lst {a : Addr} {vs : List V} {ys : List PyData} (h : H a = some (.lst vs)) (r : Dds K G vs ys) : Rk K G H (.ref a) (.list ys)
  | dK {a : Addr} {ks : List (Key × V)} {ys : List (PyData × PyData)} (h : H a = some (.dK ks)) (r : Ddk K G ks ys) : Rk K G H (.ref a) (.dict ys)
def datas : List Vd → Option (List PyData)
  | [] => some []
  | .d x :: r => (datas r).map (x :: ·)
  | .r _ :: _ => none
  | .t _ :: _ => none
def datasK : List (PyData × Vd) → Option (List (PyData × PyData))
  | [] => some []
  | (k, .d x) :: r => (datasK r).map ((k, x) :: ·)
  | (_, .r _) :: _ => none
  | (_, .t _) :: _ => none
def look (st : Sto) : Vd → Option PyData
  | .d x => some x
  | .r n => match st[n]? with
    | some (.lst xs) => (datas xs).map .list
    | _ => none
  | .t _ => none
section
variable {K : PySem.W.Frag} {S : Wd} {G H : Hp}
theorem datas_ok : ∀ {xs : List Vd} {vs : List V} {ys : List PyData}, RVs K S vs xs → datas xs = some ys → Dds K S.fr vs ys
  | [], _, _, .nil, e => by
    cases e
    exact .nil
  | .d x :: r, _, ys, .cons h t, e => by
    unfold datas at e
    obtain ⟨zs, h1, h2⟩ := Option.map_eq_some_iff.mp e
    subst h2
    exact .cons h (datas_ok t h1)
  | .r _ :: _, _, _, _, e => by cases e
  | .t _ :: _, _, _, _, e => by cases e
theorem datasK_ok : ∀ {xs : List (PyData × Vd)} {vs : List (Key × V)} {ys : List (PyData × PyData)}, Paired (fun (p : Key × V) (q : PyData × Vd) => keyD p.1 = q.1 ∧ RV K S p.2 q.2) vs xs → datasK xs = some ys → Ddk K S.fr vs ys
  | [], _, _, .nil, e => by
    cases e
    exact .nil
  | (k, .d x) :: r, _, ys, .cons (a := ⟨k', v⟩) h t, e => by
    unfold datasK at e
    obtain ⟨zs, h1, h2⟩ := Option.map_eq_some_iff.mp e
    subst h2
    obtain ⟨e1, e2⟩ := h
    have e1' : keyD k' = k := e1
    subst e1'
    exact .cons e2 (datasK_ok t h1)
  | (_, .r _) :: _, _, _, _, e => by cases e
  | (_, .t _) :: _, _, _, _, e => by cases e
theorem look_at (ok : S.Ok K) {n : Nat} {c : Cell} (h : S.st[n]? = some c) (hc : c ≠ .dead) : ∃ a o, S.At n c a ∧ S.H a = some o ∧ RCell K S o c := by
  have hn : n < S.m.length := by rw [ok.len]; exact (List.getElem?_eq_some_iff.mp h).1
  have ha : S.At n c (S.m[n]) := ⟨h, hc, List.getElem?_eq_getElem hn⟩
  obtain ⟨o, h1, h2⟩ := ok.cell ha
  exact ⟨_, o, ha, h1, h2⟩
theorem RV.ref_at {x : V} {n : Nat} {c : Cell} {a : Addr} (h : RV K S x (.r n)) (h0 : S.At n c a) : x = .ref a := by
  obtain ⟨b, h1, h2⟩ := h
  rw [h0.2.2] at h1
  rw [h2, Option.some.inj h1]
theorem look_ok (ok : S.Ok K) {x : V} {v : Vd} {d : PyData} (r : RV K S x v) (h : look S.st v = some d) : (∃ z, v = .d z ∧ d = z ∧ Dd K S.fr x z) ∨ (∃ a vs ys, x = .ref a ∧ S.H a = some (.lst vs) ∧ Dds K S.fr vs ys ∧ d = .list ys) ∨
    (∃ a ks ys, x = .ref a ∧ S.H a = some (.dK ks) ∧ Ddk K S.fr ks ys ∧ d = .dict ys) ∨ (∃ a ks kvs ys, x = .ref a ∧ S.H a = some (.dT ks) ∧ Paired (fun p q => tupD p.1 = q.1 ∧ RV K S p.2 q.2) ks kvs ∧ datasK kvs = some ys ∧ d = .dict ys) := by
  cases v with
  | t ds => cases h
  | d z => cases h; exact .inl ⟨_, rfl, rfl, r⟩
  | r n =>
    unfold look at h
    simp only at h
    split at h
    · rename_i xs e
      obtain ⟨ys, h1, h2⟩ := Option.map_eq_some_iff.mp h
      obtain ⟨a, o, ha, h3, h4⟩ := look_at ok e (fun z => nomatch z)
      obtain ⟨vs, h5, h6⟩ := h4
      subst h5
      exact .inr (.inl ⟨a, vs, ys, r.ref_at ha, h3, datas_ok h6 h1, h2.symm⟩)
    · cases h
/-- a cell that is a dict with tuples as keys can't be read as a whole yet -/
def lookR (st : Sto) : Vd → Option PyData
  | .d x => some x
  | .r n => match st[n]? with
    | some (.lst xs) => (datas xs).map .list
    | _ => none
  | .t _ => none
theorem lookR_ok (ok : S.Ok K) {x : V} {v : Vd} {d : PyData} (r : RV K S x v) (h : lookR S.st v = some d) : Rk K S.fr S.H x d := by
  cases v with
  | t ds => cases h
  | d z => cases h; exact .fr r
  | r n =>
    unfold lookR at h
    simp only at h
    split at h
    · rename_i xs e
      obtain ⟨ys, h1, h2⟩ := Option.map_eq_some_iff.mp h
      obtain ⟨a, o, ha, h3, vs, h5, h6⟩ := look_at ok e (fun z => nomatch z)
      subst h5
      rw [r.ref_at ha, ← h2]
      exact .lst h3 (datas_ok h6 h1)
    · cases h
theorem Rk.up {G' H' : Hp} (g : Same G G') (h : Same H H') {x : V} {d : PyData} : Rk K G H x d → Rk K G' H' x d
  | .fr r => .fr (Dd.up g _ _ r)
  | .lst e r => .lst (h _ _ e) (Dds.up g _ _ r)
  | .dK e r => .dK (h _ _ e) (Ddk.up g _ _ r)
theorem Rk.dd (g : Same G H) {x : V} {d : PyData} : Rk K G H x d → Dd K H x d
  | .fr r => Dd.up g _ _ r
  | .lst e r => .lst (SqL.of e) (Dds.up g _ _ r)
  | .dK e r => .dic e (Ddk.up g _ _ r)
theorem SqL.up {H' : Hp} {a : Addr} {xs : List V} (e : Same H H') (h : SqL K H a xs) : SqL K H' a xs := e.seq h
theorem Rk.list (g : Same G H) {x : V} {ys : List PyData} (r : Rk K G H x (.list ys)) : ∃ a xs, x = .ref a ∧ SqL K H a xs ∧ Dds K G xs ys := by
  cases r with
  | fr r =>
    cases r with
    | lst q r => exact ⟨_, _, rfl, g.seq q, r⟩
  | lst e r => exact ⟨_, _, rfl, SqL.of e, r⟩
theorem Rk.tup (g : Same G H) {x : V} {ys : List PyData} (r : Rk K G H x (.tuple ys)) : ∃ a xs, x = .ref a ∧ SqT K H a xs ∧ Dds K G xs ys ∧ SqT K G a xs := by
  cases r with
  | fr r =>
    cases r with
    | tup q r => exact ⟨_, _, rfl, same_seqT g q, r, q⟩
theorem Rk.int {x : V} {i : Int} (r : Rk K G H x (.int i)) : x = .int i := by
  cases r with
  | fr r => cases r; rfl
theorem Rk.str {x : V} {i : Str} (r : Rk K G H x (.str i)) : x = .str i := by
  cases r with
  | fr r => cases r; rfl
theorem Rk.bool {x : V} {i : Bool} (r : Rk K G H x (.bool i)) : x = .bl i := by
  cases r with
  | fr r => cases r; rfl
theorem Rk.none {x : V} (r : Rk K G H x .none) : x = .non := by
  cases r with
  | fr r => cases r; rfl
theorem Dds.length_ : ∀ {xs : List V} {ds : List PyData}, Dds K H xs ds → xs.length = ds.length
  | _, _, .nil => rfl
  | _, _, .cons _ r => congrArg (· + 1) (Dds.length_ r)
theorem Dds.append_ : ∀ {xs xs' : List V} {ds ds' : List PyData}, Dds K H xs ds → Dds K H xs' ds' → Dds K H (xs ++ xs') (ds ++ ds')
  | _, _, _, _, .nil, h => h
  | _, _, _, _, .cons a r, h => .cons a (Dds.append_ r h)
theorem Dds.take_ : ∀ {xs : List V} {ds : List PyData} (n : Nat), Dds K H xs ds → Dds K H (xs.take n) (ds.take n)
  | _, _, 0, _ => .nil
  | _, _, _ + 1, .nil => .nil
  | _, _, n + 1, .cons a r => .cons a (Dds.take_ n r)
theorem Dds.drop_ : ∀ {xs : List V} {ds : List PyData} (n : Nat), Dds K H xs ds → Dds K H (xs.drop n) (ds.drop n)
  | _, _, 0, r => r
  | _, _, _ + 1, .nil => .nil
  | _, _, n + 1, .cons a r => Dds.drop_ n r
theorem Dds.get_ : ∀ {xs : List V} {ds : List PyData} {i : Nat} {d : PyData}, Dds K H xs ds → ds[i]? = some d → ∃ x, xs[i]? = some x ∧ Dd K H x d
  | _, _, _, _, .nil, e => by simp at e
  | _, _, 0, _, .cons a _, e => by
    simp at e
    subst e
    exact ⟨_, rfl, a⟩
  | _, _, i + 1, _, .cons _ r, e => by
    obtain ⟨x, h1, h2⟩ := Dds.get_ (i := i) r (by simpa using e)
    exact ⟨x, by simpa using h1, h2⟩
theorem Dds.nil_iff {xs : List V} {ds : List PyData} (h : Dds K H xs ds) : xs = [] ↔ ds = [] := by
  cases h <;> simp
end
/-! ### operations of two values -/
def SO (K : PySem.W.Frag) (r : R2) (g : PyData → PyData → Option PyData) : Prop := ∀ (G H : Hp) (x y : V) (dx dy z : PyData), Same G H → Rk K G H x dx → Rk K G H y dy → g dx dy = some z →
  ∀ Q : VK, (∀ G' H' v, Grow G H G' H' → Dd K G' v z → Q v H') → r x y H Q
theorem opr_or {X : Cx} {f : Value → Value → Sem Value} {r1 r2 : R2} (h1 : OpR X f r1) (h2 : OpR X f r2) : OpR X f fun x y H Q => r1 x y H Q ∨ r2 x y H Q := fun pins s σ H x y v u Q I rx ry h =>
  h.elim (h1 pins s σ H x y v u Q I rx ry) (h2 pins s σ H x y v u Q I rx ry)
section
variable {X : Cx} {K : PySem.W.Frag}
/-- a new tuple, a new list of data -/
theorem new_tup {G H : Hp} {xs : List V} {ys : List PyData} {Q : VK} (g : Same G H) (r : Dds K G xs ys) (h : ∀ G' H' v, Grow G H G' H' → Dd K G' v (.tuple ys) → Q v H') {p : Addr} (hp : H p = none) : Q (.ref p) (upd H p (.tup xs)) :=
  h _ _ _ ((Grow.refl g).put hp (.tup xs)) (.tup (SqT.of upd_same) (Dds.up (same_up (free_of g hp)) _ _ r))
theorem new_lst {G H : Hp} {xs : List V} {ys : List PyData} {Q : VK} (g : Same G H) (r : Dds K G xs ys) (h : ∀ G' H' v, Grow G H G' H' → Dd K G' v (.list ys) → Q v H') {p : Addr} (hp : H p = none) : Q (.ref p) (upd H p (.lst xs)) :=
  h _ _ _ ((Grow.refl g).put hp (.lst xs)) (.lst (SqL.of upd_same) (Dds.up (same_up (free_of g hp)) _ _ r))
def gAdd : PyData → PyData → Option PyData
  | .int i, .int j => some (.int (i + j))
  | .str i, .str j => if i.length + j.length ≤ sizeLine then some (.str (i ++ j)) else none
  | .tuple xs, .tuple ys => if xs.length + ys.length ≤ sizeLine then some (.tuple (xs ++ ys)) else none
  | .list xs, .list ys => if xs.length + ys.length ≤ sizeLine then some (.list (xs ++ ys)) else none
  | _, _ => none
def rCatD (K : PySem.W.Frag) : R2 := fun x y H Q => ∃ l b xs zs, x = .ref l ∧ y = .ref b ∧ SqL K H l xs ∧ SqL K H b zs ∧ xs.length + zs.length ≤ sizeLine ∧ ∀ p, H p = none → Q (.ref p) (upd H p (.lst (xs ++ zs)))
end
end Dl

set_option Elab.async false
set_option linter.all false
set_option maxRecDepth 100000
set_option maxHeartbeats 4000000
namespace Dl
open PySem PySem.Spec PyProof.Rows L2 Pg
/-! ### == and != with [] or () -/
def SqB (K : PySem.W.Frag) (H : Hp) (k : Bool) (a : Addr) (xs : List V) : Prop := if k then SqT K H a xs else SqL K H a xs
def rNoE (K : PySem.W.Frag) (neg : Bool) : R2 := fun x y H Q => ∃ (k : Bool) (a b : Addr) (xs : List V), x = .ref a ∧ y = .ref b ∧ SqB K H k a xs ∧ SqB K H k b [] ∧ Q (.bl (xs.isEmpty != neg)) H
theorem op_eqE {X : Cx} (hu : X.A.units < cLine) : OpR X (compareOp .Eq) (rNoE X.K false) := by
  intro pins s σ H x y v u Q I rx ry h
  obtain ⟨k, a, b, xs, rfl, rfl, h1, h2, q⟩ := h
  cases rx; cases ry
  have fin : EP X pins σ Q (.bool xs.isEmpty) s := ⟨.bl _, H, I, rfl, by simpa using q⟩
  cases k with
  | true =>
    obtain ⟨us, r1, ⟨⟨c1, d1, t1, s1⟩, o1, e1, n1, k1⟩, _⟩ := I.tuple (show SqT X.K H a xs from h1)
    obtain ⟨vs, r2, ⟨⟨c2, d2, t2, s2⟩, o2, e2, n2, k2⟩, _⟩ := I.tuple (show SqT X.K H b [] from h2)
    simp only at e1 k1 e2 k2
    subst e1 k1 e2 k2
    cases r2
    have ta : s.TypeIs (.ref a) "tuple" := ⟨_, o1, rfl⟩
    have tb : s.TypeIs (.ref b) "tuple" := ⟨_, o2, rfl⟩
    refine wpAny_richCompare_same_room (op := .Eq) ta tb F.slot_tuple_eq (call_meets F.slot_tuple_eq ta F.entry_tuple_eq (F.args_tuple_eq_2 _ _) (SeqAt.tuple_eqAt a b us.toArray #[] n1 n2 d1 d2 s1 s2 (fun _ => true)) ⟨o1, o2, (fun j _ z => absurd z (by simp)), ?_⟩) hu
    refine ⟨(fun x => nomatch x), ?_⟩
    have e : ((List.range (min us.toArray.size (#[] : Array Value).size)).all (fun _ => true) && us.toArray.size == (#[] : Array Value).size) = xs.isEmpty := by
      have l1 := r1.length
      cases xs with
      | nil => cases r1; rfl
      | cons z zs => cases r1; simp
    rw [e]
    exact fin
  | false =>
    obtain ⟨us, r1, p1, _⟩ := I.list (show SqL X.K H a xs from h1)
    obtain ⟨⟨c1, d1, t1, s1⟩, o1, e1, n1, k1⟩ := p1.isList
    obtain ⟨vs, r2, p2, _⟩ := I.list (show SqL X.K H b [] from h2)
    obtain ⟨⟨c2, d2, t2, s2⟩, o2, e2, n2, k2⟩ := p2.isList
    simp only at e1 k1 e2 k2
    subst e1 k1 e2 k2
    cases r2
    have ta : s.TypeIs (.ref a) "list" := ⟨_, o1, rfl⟩
    have tb : s.TypeIs (.ref b) "list" := ⟨_, o2, rfl⟩
    cases xs with
    | nil =>
      cases r1
      refine wpAny_richCompare_same_room (op := .Eq) ta tb F.slot_list_eq (call_meets F.slot_list_eq ta F.entry_list_eq (F.args_list_eq_2 _ _) (SeqAt.list_eqAt a b #[] #[] n1 n2 d1 d2 s1 s2 rfl (fun _ => true)) ⟨o1, o2, (fun j _ z => absurd z (by simp)), ?_⟩) hu
      exact ⟨(fun x => nomatch x), fin⟩
    | cons z zs =>
      cases r1 with
      | @cons _ w _ ws _ _ =>
        refine wpAny_richCompare_same_room (op := .Eq) ta tb F.slot_list_eq (call_meets F.slot_list_eq ta F.entry_list_eq (F.args_list_eq_2 _ _) (SeqAt.list_eq_lengthsAt a b (w :: ws).toArray #[] n1 n2 d1 d2 s1 s2 (by simp)) ⟨o1, o2, ?_⟩) hu
        exact ⟨(fun x => nomatch x), fin⟩
theorem op_neE {X : Cx} (hu : X.A.units < cLine) : OpR X (compareOp .NotEq) (rNoE X.K true) := by
  intro pins s σ H x y v u Q I rx ry h
  obtain ⟨k, a, b, xs, rfl, rfl, h1, h2, q⟩ := h
  cases rx; cases ry
  have fin : EP X pins σ Q (.bool (!xs.isEmpty)) s := ⟨.bl _, H, I, rfl, by simpa using q⟩
  cases k with
  | true =>
    obtain ⟨us, r1, ⟨⟨c1, d1, t1, s1⟩, o1, e1, n1, k1⟩, _⟩ := I.tuple (show SqT X.K H a xs from h1)
    obtain ⟨vs, r2, ⟨⟨c2, d2, t2, s2⟩, o2, e2, n2, k2⟩, _⟩ := I.tuple (show SqT X.K H b [] from h2)
    simp only at e1 k1 e2 k2
    subst e1 k1 e2 k2
    cases r2
    have ta : s.TypeIs (.ref a) "tuple" := ⟨_, o1, rfl⟩
    have tb : s.TypeIs (.ref b) "tuple" := ⟨_, o2, rfl⟩
    refine wpAny_richCompare_same_room (op := .NotEq) ta tb F.slot_tuple_ne (call_meets F.slot_tuple_ne ta F.entry_tuple_ne (F.args_tuple_ne_2 _ _) (SeqAt.tuple_neAt a b us.toArray #[] n1 n2 d1 d2 s1 s2 (fun _ => true)) ⟨o1, o2, (fun j _ z => absurd z (by simp)), ?_⟩) hu
    refine ⟨(fun x => nomatch x), ?_⟩
    have e : (!((List.range (min us.toArray.size (#[] : Array Value).size)).all (fun _ => true) && us.toArray.size == (#[] : Array Value).size)) = !xs.isEmpty := by
      cases xs with
      | nil => cases r1; rfl
      | cons z zs => cases r1; simp
    rw [e]
    exact fin
  | false =>
    obtain ⟨us, r1, p1, _⟩ := I.list (show SqL X.K H a xs from h1)
    obtain ⟨⟨c1, d1, t1, s1⟩, o1, e1, n1, k1⟩ := p1.isList
    obtain ⟨vs, r2, p2, _⟩ := I.list (show SqL X.K H b [] from h2)
    obtain ⟨⟨c2, d2, t2, s2⟩, o2, e2, n2, k2⟩ := p2.isList
    simp only at e1 k1 e2 k2
    subst e1 k1 e2 k2
    cases r2
    have ta : s.TypeIs (.ref a) "list" := ⟨_, o1, rfl⟩
    have tb : s.TypeIs (.ref b) "list" := ⟨_, o2, rfl⟩
    cases xs with
    | nil =>
      cases r1
      refine wpAny_richCompare_same_room (op := .NotEq) ta tb F.slot_list_ne (call_meets F.slot_list_ne ta F.entry_list_ne (F.args_list_ne_2 _ _) (SeqAt.list_neAt a b #[] #[] n1 n2 d1 d2 s1 s2 rfl (fun _ => true)) ⟨o1, o2, (fun j _ z => absurd z (by simp)), ?_⟩) hu
      exact ⟨(fun x => nomatch x), fin⟩
    | cons z zs =>
      cases r1 with
      | @cons _ w _ ws _ _ =>
        refine wpAny_richCompare_same_room (op := .NotEq) ta tb F.slot_list_ne (call_meets F.slot_list_ne ta F.entry_list_ne (F.args_list_ne_2 _ _) (SeqAt.list_ne_lengthsAt a b (w :: ws).toArray #[] n1 n2 d1 d2 s1 s2 (by simp)) ⟨o1, o2, ?_⟩) hu
        exact ⟨(fun x => nomatch x), fin⟩
end Dl

set_option Elab.async false
set_option linter.all false
set_option maxRecDepth 100000
set_option maxHeartbeats 4000000
namespace Dl
open PySem PySem.Spec PyProof.Rows L2 Pg
/-! ### arithmetic, sums of sequences -/
section
variable {X : Cx} {K : PySem.W.Frag}
theorem op_catD : OpR X (binaryOp .Add) (rCatD X.K) := by
  intro pins s σ H x y v u Q I rx ry h
  obtain ⟨l, b, xs, zs, rfl, rfl, hl, hb, hz, q⟩ := h
  cases rx
  cases ry
  obtain ⟨its, r1, ⟨⟨c1, d1, t1, s1⟩, n1, o1, e1, f1, g1⟩, _⟩ := I.list hl
  obtain ⟨its2, r2, ⟨⟨c2, d2, t2, s2⟩, n2, o2, e2, f2, g2⟩, _⟩ := I.list hb
  simp only at e1 f1 g1 e2 f2 g2
  subst e1 f1 g1 e2 f2 g2
  have e : its.toArray ++ its2.toArray = (its ++ its2).toArray := by simp
  have hz' : its.length + its2.length ≤ sizeLine := by rw [← r1.length, ← r2.length]; exact hz
  refine concat_meets ⟨_, o1, rfl⟩ ⟨_, o2, rfl⟩ noFill_list_add seq_list_add PySem.F.slot_list_add PySem.F.entry_list_add (PySem.F.args_list_add_2 _ _) (list_addW l b its.toArray its2.toArray n1 n2 none none s1 s2 (by simpa using hz')) ⟨o1, o2, ?_⟩
  rw [e]
  exact ⟨.ref _, _, I.lnew (t' := s.toks) (r1.append r2) (by rw [List.length_append]; exact hz), rfl, q _ I.fresh⟩
def rAddD (K : PySem.W.Frag) : R2 := fun x y H Q => (rI0 fun i j => .int (i + j)) x y H Q ∨ ((∃ i j, x = .str i ∧ y = .str j ∧ i.length + j.length ≤ sizeLine ∧ Q (.str (i ++ j)) H) ∨ (rCatA K x y H Q ∨ rCatD K x y H Q))
theorem op_addD : OpR X (binaryOp .Add) (rAddD X.K) := opr_or op_add (opr_or op_add_str (opr_or op_catA op_catD))
theorem so_add : SO K (rAddD K) gAdd := by
  intro G H x y dx dy z g rx ry e Q q
  unfold gAdd at e
  split at e
  · cases e
    exact .inl ⟨_, _, rx.int, ry.int, q _ _ _ (Grow.refl g) (.int _)⟩
  · split at e
    · cases e
      exact .inr (.inl ⟨_, _, rx.str, ry.str, ‹_›, q _ _ _ (Grow.refl g) (.str _)⟩)
    · cases e
  · split at e
    · rename_i hz
      cases e
      obtain ⟨a, xs, rfl, h1, r1, g1⟩ := rx.tup g
      obtain ⟨b, ys, rfl, h2, r2, g2⟩ := ry.tup g
      refine .inr (.inr (.inl ⟨a, b, xs, ys, rfl, rfl, h1, h2, by rw [Dds.length_ r1, Dds.length_ r2]; exact hz, fun e => ?_, fun _ e => ?_, fun _ _ p hp => ?_⟩))
      · subst e
        cases r1
        exact q _ _ _ (Grow.refl g) (.tup g2 r2)
      · subst e
        cases r2
        rw [List.append_nil] at q
        exact q _ _ _ (Grow.refl g) (.tup g1 r1)
      · exact new_tup g (Dds.append_ r1 r2) q hp
    · cases e
  · split at e
    · rename_i hz
      cases e
      obtain ⟨a, xs, rfl, h1, r1⟩ := rx.list g
      obtain ⟨b, ys, rfl, h2, r2⟩ := ry.list g
      exact .inr (.inr (.inr ⟨a, b, xs, ys, rfl, rfl, h1, h2, by rw [Dds.length_ r1, Dds.length_ r2]; exact hz, fun p hp => new_lst g (Dds.append_ r1 r2) q hp⟩))
    · cases e
  · cases e
def gSub : PyData → PyData → Option PyData
  | .int i, .int j => some (.int (i - j))
  | _, _ => none
theorem so_sub : SO K (rI0 fun i j => .int (i - j)) gSub := by
  intro G H x y dx dy z g rx ry e Q q
  unfold gSub at e
  split at e
  · cases e
    exact ⟨_, _, rx.int, ry.int, q _ _ _ (Grow.refl g) (.int _)⟩
  · cases e
open Classical in
noncomputable def gMul : PyData → PyData → Option PyData
  | .int i, .int j => if CMulW i j then some (.int (i * j)) else none
  | .list xs, .int n => if 0 ≤ n ∧ n < 2 ^ 62 ∧ xs.length * n.toNat ≤ sizeLine then some (.list (List.replicate n.toNat xs).flatten) else none
  | _, _ => none
def gMod : PyData → PyData → Option PyData
  | .int i, .int j => if 0 < j then some (.int (i % j)) else none
  | _, _ => none
theorem so_mod : SO K (rI (fun _ j => 0 < j) fun i j => .int (i % j)) gMod := by
  intro G H x y dx dy z g rx ry e Q q
  unfold gMod at e
  split at e
  · split at e
    · cases e
      exact ⟨_, _, rx.int, ry.int, ‹_›, q _ _ _ (Grow.refl g) (.int _)⟩
    · cases e
  · cases e
open Classical in
noncomputable def gDiv : PyData → PyData → Option PyData
  | .int i, .int j => if CDivW i j then some (.int (i / j)) else none
  | _, _ => none
theorem so_div : SO K (rI CDivW fun i j => .int (i / j)) gDiv := by
  intro G H x y dx dy z g rx ry e Q q
  unfold gDiv at e
  split at e
  · split at e
    · cases e
      exact ⟨_, _, rx.int, ry.int, ‹_›, q _ _ _ (Grow.refl g) (.int _)⟩
    · cases e
  · cases e
open Classical in
noncomputable def gPow : PyData → PyData → Option PyData
  | .int i, .int j => if CPow i j then some (.int (i ^ j.toNat)) else none
  | _, _ => none
theorem so_pow : SO K (rI CPow fun i j => .int (i ^ j.toNat)) gPow := by
  intro G H x y dx dy z g rx ry e Q q
  unfold gPow at e
  split at e
  · split at e
    · cases e
      exact ⟨_, _, rx.int, ry.int, ‹_›, q _ _ _ (Grow.refl g) (.int _)⟩
    · cases e
  · cases e
/-! ### comparisons -/
def isNon : PyData → Bool
  | .none => true
  | _ => false
def rCmD (K : PySem.W.Frag) (f : PyData → PyData → Bool) : R2 := fun x y H Q => ∃ d e, Dd K H x d ∧ Dd K H y e ∧ PySem.W.alike d e = true ∧ isNon d = false ∧ min d.depth e.depth ≤ 60 ∧ Q (.bl (f d e)) H
def gCm (f : PyData → PyData → Bool) (d e : PyData) : Option PyData := if (PySem.W.alike d e && !isNon d && decide (min d.depth e.depth ≤ 60)) = true then some (.bool (f d e)) else none
theorem so_cm (f : PyData → PyData → Bool) : SO K (rCmD K f) (gCm f) := by
  intro G H x y dx dy z g rx ry e Q q
  unfold gCm at e
  split at e
  · rename_i hc
    simp only [Bool.and_eq_true, Bool.not_eq_true', decide_eq_true_eq] at hc
    cases e
    exact ⟨dx, dy, rx.dd g, ry.dd g, hc.1.1, hc.1.2, hc.2, q _ _ _ (Grow.refl g) (.bl _)⟩
  · cases e
theorem nn_of {d : PyData} (h : isNon d = false) : d ≠ .none := fun e => by rw [e] at h; cases h
theorem op_ltD (hu : X.A.units + 64 < cLine) : OpR X (compareOp .Lt) (rCmD X.K PySem.W.dataLt) := by
  intro pins s σ H x y v u Q I rx ry h
  obtain ⟨d, e, hd, he, h1, h2, h3, q⟩ := h
  obtain ⟨as, r1, _⟩ := dd_say I d x v hd rx
  obtain ⟨bs, r2, _⟩ := dd_say I e y u he ry
  exact PySem.W.lt_data r1 r2 h1 (nn_of h2) (by omega) ⟨.bl _, H, I, rfl, q⟩
theorem op_gtD (hu : X.A.units + 64 < cLine) : OpR X (compareOp .Gt) (rCmD X.K fun d e => PySem.W.dataLt e d) := by
  intro pins s σ H x y v u Q I rx ry h
  obtain ⟨d, e, hd, he, h1, h2, h3, q⟩ := h
  obtain ⟨as, r1, _⟩ := dd_say I d x v hd rx
  obtain ⟨bs, r2, _⟩ := dd_say I e y u he ry
  exact PySem.W.gt_data r1 r2 h1 (nn_of h2) (by omega) ⟨.bl _, H, I, rfl, q⟩
theorem op_leD (hu : X.A.units + 64 < cLine) : OpR X (compareOp .LtE) (rCmD X.K fun d e => !PySem.W.dataLt e d) := by
  intro pins s σ H x y v u Q I rx ry h
  obtain ⟨d, e, hd, he, h1, h2, h3, q⟩ := h
  obtain ⟨as, r1, _⟩ := dd_say I d x v hd rx
  obtain ⟨bs, r2, _⟩ := dd_say I e y u he ry
  exact PySem.W.le_data r1 r2 h1 (nn_of h2) (by omega) ⟨.bl _, H, I, rfl, q⟩
theorem op_geD (hu : X.A.units + 64 < cLine) : OpR X (compareOp .GtE) (rCmD X.K fun d e => !PySem.W.dataLt d e) := by
  intro pins s σ H x y v u Q I rx ry h
  obtain ⟨d, e, hd, he, h1, h2, h3, q⟩ := h
  obtain ⟨as, r1, _⟩ := dd_say I d x v hd rx
  obtain ⟨bs, r2, _⟩ := dd_say I e y u he ry
  exact PySem.W.ge_data r1 r2 h1 (nn_of h2) (by omega) ⟨.bl _, H, I, rfl, q⟩
/-- ==: of any data without dicts; of the same data, dicts in it too -/
def rEqA (K : PySem.W.Frag) : R2 := fun x y H Q => ∃ d e, Dd K H x d ∧ Dd K H y e ∧ SeqAt.shaped d = true ∧ SeqAt.shaped e = true ∧ Q (.bl (PyData.eqv d e)) H
def rNeA0 (K : PySem.W.Frag) : R2 := fun x y H Q => ∃ d e, Dd K H x d ∧ Dd K H y e ∧ SeqAt.shaped d = true ∧ SeqAt.shaped e = true ∧ Q (.bl (!PyData.eqv d e)) H
theorem op_eqA (hu : X.A.units + 64 < cLine) : OpR X (compareOp .Eq) (rEqA X.K) := by
  intro pins s σ H x y v u Q I rx ry h
  obtain ⟨d, e, hd, he, sd, se, q⟩ := h
  obtain ⟨as, r1, _⟩ := dd_say I d x v hd rx
  obtain ⟨bs, r2, _⟩ := dd_say I e y u he ry
  exact SeqAt.compareEq_shaped r1 r2 sd se hu ⟨.bl _, H, I, rfl, q⟩
theorem op_neA0 (hu : X.A.units + 64 < cLine) : OpR X (compareOp .NotEq) (rNeA0 X.K) := by
  intro pins s σ H x y v u Q I rx ry h
  obtain ⟨d, e, hd, he, sd, se, q⟩ := h
  obtain ⟨as, r1, _⟩ := dd_say I d x v hd rx
  obtain ⟨bs, r2, _⟩ := dd_say I e y u he ry
  exact SeqAt.compareNe_shaped r1 r2 sd se hu ⟨.bl _, H, I, rfl, q⟩
def rEqD (K : PySem.W.Frag) : R2 := fun x y H Q => rEqA K x y H Q ∨ rAlike K x y H Q ∨ rNoE K false x y H Q
theorem op_eqD (hu : X.A.units + 64 < cLine) : OpR X (compareOp .Eq) (Dl.rEqD X.K) := opr_or (op_eqA hu) (opr_or (op_alike hu) (op_eqE (by omega)))
def rNeA (K : PySem.W.Frag) : R2 := fun x y H Q => rNeA0 K x y H Q ∨ rNoE K true x y H Q ∨ rNe x y H Q
theorem op_neA (hu : X.A.units + 64 < cLine) : OpR X (compareOp .NotEq) (rNeA X.K) := opr_or (op_neA0 hu) (opr_or (op_neE (by omega)) op_ne)
/-- == with () or [] on the right, whatever stands in the other -/
def gEmp : PyData → PyData → Option Bool
  | .tuple xs, .tuple [] => some xs.isEmpty
  | .list xs, .list [] => some xs.isEmpty
  | _, _ => none
theorem Dds.isEmpty {H : Hp} {xs : List V} {ds : List PyData} (h : Dds K H xs ds) : xs.isEmpty = ds.isEmpty := by cases h <;> rfl
theorem emp_of {G H : Hp} {x y : V} {dx dy : PyData} {t : Bool} (g : Same G H) (rx : Rk K G H x dx) (ry : Rk K G H y dy) (e : gEmp dx dy = some t) (neg : Bool) {Q : VK} (q : Q (.bl (t != neg)) H) : rNoE K neg x y H Q := by
  unfold gEmp at e
  split at e
  · cases e
    obtain ⟨a, xs, rfl, h1, h2, _⟩ := rx.tup g
    obtain ⟨b, ys, rfl, h3, h4, _⟩ := ry.tup g
    cases h4
    exact ⟨true, a, b, xs, rfl, rfl, h1, h3, by rw [Dds.isEmpty h2]; exact q⟩
  · cases e
    obtain ⟨a, xs, rfl, h1, h2⟩ := rx.list g
    obtain ⟨b, ys, rfl, h3, h4⟩ := ry.list g
    cases h4
    exact ⟨false, a, b, xs, rfl, rfl, h1, h3, by rw [Dds.isEmpty h2]; exact q⟩
  · cases e
open Classical in
noncomputable def gEq (d e : PyData) : Option PyData := if SeqAt.shaped d = true ∧ SeqAt.shaped e = true then some (.bool (PyData.eqv d e)) else if d = e ∧ d.depth ≤ 60 then some (.bool true) else (gEmp d e).map .bool
theorem so_eq : SO K (Dl.rEqD K) gEq := by
  intro G H x y dx dy z g rx ry e Q q
  unfold gEq at e
  split at e
  · rename_i hc
    cases e
    exact .inl ⟨dx, dy, rx.dd g, ry.dd g, hc.1, hc.2, q _ _ _ (Grow.refl g) (.bl _)⟩
  · split at e
    · rename_i hc
      cases e
      obtain ⟨e1, e2⟩ := hc
      subst e1
      exact .inr (.inl ⟨dx, rx.dd g, ry.dd g, e2, q _ _ _ (Grow.refl g) (.bl _)⟩)
    · obtain ⟨t, e1, e2⟩ := Option.map_eq_some_iff.mp e
      cases e2
      exact .inr (.inr (emp_of g rx ry e1 false (by rw [Bool.bne_false]; exact q _ _ _ (Grow.refl g) (.bl _))))
def gNeF : PyData → PyData → Option PyData
  | .str x, .str y => some (.bool (!decide (x = y)))
  | d, e => (gEmp d e).map fun t => .bool (!t)
def gNe (d e : PyData) : Option PyData := if SeqAt.shaped d = true ∧ SeqAt.shaped e = true then some (.bool (!PyData.eqv d e)) else gNeF d e
theorem so_ne : SO K (rNeA K) gNe := by
  intro G H x y dx dy z g rx ry e Q q
  unfold gNe at e
  split at e
  · rename_i hc
    cases e
    exact .inl ⟨dx, dy, rx.dd g, ry.dd g, hc.1, hc.2, q _ _ _ (Grow.refl g) (.bl _)⟩
  · unfold gNeF at e
    split at e
    · rename_i a b _
      cases e
      rw [rx.str, ry.str]
      refine .inr (.inr ⟨rfl, ?_⟩)
      have : decide (V.str a = V.str b) = decide (a = b) := by
        rw [Bool.eq_iff_iff]
        simp
      rw [this]
      exact q _ _ _ (Grow.refl g) (.bl _)
    · obtain ⟨t, e1, e2⟩ := Option.map_eq_some_iff.mp e
      cases e2
      exact .inr (.inl (emp_of g rx ry e1 true (by rw [Bool.bne_true]; exact q _ _ _ (Grow.refl g) (.bl _))))
def gIsN (d e : PyData) : Option PyData := if isNon e = true then some (.bool (isNon d)) else none
def gNotN (d e : PyData) : Option PyData := if isNon e = true then some (.bool (!isNon d)) else none
theorem isNon_iff {d : PyData} (h : isNon d = true) : d = .none := by cases d <;> first | rfl | cases h
theorem Rk.non {G H : Hp} {x : V} {d : PyData} (r : Rk K G H x d) : decide (x = .non) = isNon d := by
  cases r with
  | fr r => cases r <;> rfl
  | lst _ _ => rfl
  | dK _ _ => rfl
theorem so_isN : SO K rIsN gIsN := by
  intro G H x y dx dy z g rx ry e Q q
  unfold gIsN at e
  split at e
  · rename_i hc
    cases e
    have := isNon_iff hc
    subst this
    exact ⟨ry.none, by rw [rx.non]; exact q _ _ _ (Grow.refl g) (.bl _)⟩
  · cases e
theorem so_notN : SO K rNotN gNotN := by
  intro G H x y dx dy z g rx ry e Q q
  unfold gNotN at e
  split at e
  · rename_i hc
    cases e
    have := isNon_iff hc
    subst this
    exact ⟨ry.none, by rw [rx.non]; exact q _ _ _ (Grow.refl g) (.bl _)⟩
  · cases e
end
end Dl

set_option Elab.async false
set_option linter.all false
set_option maxRecDepth 100000
set_option maxHeartbeats 4000000
namespace Dl
open PySem PySem.Spec PyProof.Rows L2 Pg
/-! ### expressions -/
def eVar (i : Nat) : EF := fun ρ st => match ρ[i]? with
  | some (some v) => some (v, st)
  | _ => none
def eC (x : PyData) : EF := fun _ st => some (.d x, st)
def eOp (g : PyData → PyData → Option PyData) (a b : EF) : EF := fun ρ st => match a ρ st with
  | some (va, st1) => match b ρ st1 with
    | some (vb, st2) => match lookR st2 va, lookR st2 vb with
      | some x, some y => (g x y).map fun z => (.d z, st2)
      | _, _ => none
    | none => none
  | none => none
/-- a value is frozen -/
def eFz (a : EF) : EF := fun ρ st => match a ρ st with
  | some (.d x, st1) => some (.d x, st1)
  | some (.r n, st1) => match lookR st1 (.r n) with
    | some x => some (.d x, st1.set n .dead)
    | none => none
  | _ => none
def bVal (a : EF) : BF := fun ρ st => match a ρ st with
  | some (.d (.bool b), st1) => some (b, st1)
  | _ => none
def truD : PyData → Option Bool
  | .none => some false
  | .bool b => some b
  | .int i => some (i != 0)
  | .str y => if y.length ≤ sizeLine then some ((y.length : Int) != 0) else none
  | .list xs => some (!xs.isEmpty)
  | .tuple xs => some (!xs.isEmpty)
  | .dict _ => none
def bTru (a : EF) : BF := fun ρ st => match a ρ st with
  | some (v, st1) => match lookR st1 v with
    | some x => (truD x).map fun b => (b, st1)
    | none => none
  | none => none
def bAnd (a b : BF) : BF := fun ρ st => match a ρ st with
  | some (true, st1) => b ρ st1
  | some (false, st1) => some (false, st1)
  | none => none
def bOr (a b : BF) : BF := fun ρ st => match a ρ st with
  | some (true, st1) => some (true, st1)
  | some (false, st1) => b ρ st1
  | none => none
def bNot (a : BF) : BF := fun ρ st => match a ρ st with
  | some (x, st1) => some (!x, st1)
  | none => none
def eIf (c : BF) (a b : EF) : EF := fun ρ st => match c ρ st with
  | some (true, st1) => a ρ st1
  | some (false, st1) => b ρ st1
  | none => none
def eAnd (a b : EF) : EF := fun ρ st => match a ρ st with
  | some (v, st1) => match lookR st1 v with
    | some x => match truD x with
      | some true => b ρ st1
      | some false => some (v, st1)
      | none => none
    | none => none
  | none => none
def eOr (a b : EF) : EF := fun ρ st => match a ρ st with
  | some (v, st1) => match lookR st1 v with
    | some x => match truD x with
      | some true => some (v, st1)
      | some false => b ρ st1
      | none => none
    | none => none
  | none => none
def eNot (a : EF) : EF := fun ρ st => match a ρ st with
  | some (v, st1) => match lookR st1 v with
    | some x => (truD x).map fun b => (.d (.bool !b), st1)
    | none => none
  | none => none
def aNil : AF := fun _ st => some ([], st)
def aCons (a : EF) (r : AF) : AF := fun ρ st => match a ρ st with
  | some (v, st1) => match r ρ st1 with
    | some (vs, st2) => some (v :: vs, st2)
    | none => none
  | none => none
def eTup (a : AF) : EF := fun ρ st => match a ρ st with
  | some (vs, st1) => match datas vs with
    | some xs => if xs.length ≤ sizeLine then some (.d (.tuple xs), st1) else none
    | none => none
  | none => none
def eLst (a : AF) : EF := fun ρ st => match a ρ st with
  | some (vs, st1) => match datas vs with
    | some xs => if xs.length ≤ sizeLine then some (.d (.list xs), st1) else none
    | none => none
  | none => none
/-- a new list that may change -/
def eLstN (a : AF) : EF := fun ρ st => match a ρ st with
  | some (vs, st1) => if vs.length ≤ sizeLine then some (.r st1.length, st1 ++ [.lst vs]) else none
  | none => none
section
variable {X : Cx} {K : PySem.W.Frag} {ta tb te : TE} {fa fb f : EF} {a b e : Expr} {pos : Pos}
theorem se_var {i : Nat} : SE K (tVar i) (eVar i) := by
  intro S ρ σ v st' ok en h Q q
  unfold eVar at h
  split at h
  · rename_i w e
    cases h
    obtain ⟨x, h1, h2⟩ := en.at_ i v e
    exact ⟨x, h1, q S x rfl rfl (Ext.refl S) ok h2⟩
  · cases h
theorem se_c {v : V} {x : PyData} (h0 : ∀ G, Dd K G v x) : SE K (tC v) (eC x) := by
  intro S ρ σ w st' ok en h Q q
  cases h
  exact q S v rfl rfl (Ext.refl S) ok (h0 _)
theorem se_op {r : R2} {g : PyData → PyData → Option PyData} (hr : SO K r g) (ha : SE K ta fa) (hb : SE K tb fb) : SE K (tOp r ta tb) (eOp g fa fb) := by
  intro S ρ σ v st' ok en h Q q
  unfold eOp at h
  split at h
  · rename_i va st1 e1
    split at h
    · rename_i vb st2 e2
      split at h
      · rename_i x y e3 e4
        obtain ⟨z, e5, e6⟩ := Option.map_eq_some_iff.mp h
        cases e6
        refine ha S ρ σ va st1 ok en e1 _ fun S1 xa l1 s1 x1 ok1 r1 => ?_
        subst s1
        refine hb S1 ρ σ vb st' ok1 (en.up x1) e2 _ fun S2 xb l2 s2 x2 ok2 r2 => ?_
        subst s2
        refine hr S2.fr S2.H xa xb x y z (fr_same S2) (lookR_ok ok2 (r1.up x2) e3) (lookR_ok ok2 r2 e4) e5 Q fun G' H' w g hw => ?_
        exact (q.from (l2.trans l1) (x1.trans x2)).grow ok2 g hw
      · cases h
    · cases h
  · cases h
theorem se_fz (ha : SE K ta fa) : SE K ta (eFz fa) := by
  intro S ρ σ v st' ok en h Q q
  unfold eFz at h
  split at h
  · rename_i x st1 e1
    cases h
    exact ha S ρ σ _ _ ok en e1 Q q
  · rename_i n st1 e1
    split at h
    · rename_i x e2
      cases h
      refine ha S ρ σ _ st1 ok en e1 Q fun S1 xa l1 s1 x1 ok1 r1 => ?_
      subst s1
      have e2' := e2
      unfold lookR at e2
      simp only at e2
      split at e2
      · rename_i xs e3
        obtain ⟨ys, h1, h2⟩ := Option.map_eq_some_iff.mp e2
        obtain ⟨a, o, h3, h4, vs, h5, h6⟩ := look_at ok1 e3 (fun z => nomatch z)
        subst h5
        obtain ⟨g1, g2, g3⟩ := ok1.frz h3
        refine q (S1.frz n) xa l1 rfl (x1.trans g1) g2 ?_
        rw [r1.ref_at h3, ← h2]
        exact .lst (SqL.of (g3 _ h4)) (datas_ok (h6.up g1) h1)
      · cases e2
    · cases h
  · cases h
theorem tru_of {S : Wd} {x : V} {d : PyData} {b : Bool} (g : Same S.fr S.H) (r : Rk K S.fr S.H x d) (h : truD d = some b) : TruV K x S.H b := by
  unfold truD at h
  split at h
  · cases h; rw [r.none]; rfl
  · cases h; rw [r.bool]; rfl
  · cases h; rw [r.int]; rfl
  · split at h
    · cases h; rw [r.str]; exact ⟨‹_›, rfl⟩
    · cases h
  · cases h
    obtain ⟨a, xs, rfl, h1, h2⟩ := r.list g
    exact .inl ⟨xs, h1, by cases h2 <;> rfl⟩
  · cases h
    obtain ⟨a, xs, rfl, h1, h2, _⟩ := r.tup g
    exact .inr (.inl ⟨xs, h1, by cases h2 <;> rfl⟩)
  · cases h
theorem sb_tru (ha : SE K ta fa) : SB K (fun σ H Q => ta σ H fun x H' => ∃ k, TruV K x H' k ∧ Q k H') (bTru fa) := by
  intro S ρ σ b st' ok en h Q q
  unfold bTru at h
  split at h
  · rename_i v st1 e1
    split at h
    · rename_i x e2
      obtain ⟨k, e3, e4⟩ := Option.map_eq_some_iff.mp h
      cases e4
      refine ha S ρ σ v st' ok en e1 _ fun S1 xa l1 s1 x1 ok1 r1 => ?_
      subst s1
      exact ⟨b, tru_of (fr_same S1) (lookR_ok ok1 r1 e2) e3, q S1 l1 rfl x1 ok1⟩
    · cases h
  · cases h
theorem sb_val (ha : SE K ta fa) : SB K (tB ta) (bVal fa) := by
  intro S ρ σ b st' ok en h Q q
  unfold bVal at h
  split at h
  · rename_i c st1 e1
    cases h
    refine ha S ρ σ _ _ ok en e1 _ fun S1 xa l1 s1 x1 ok1 r1 => ?_
    have r1' : Dd K S1.fr xa (.bool b) := r1
    cases r1'
    exact ⟨b, rfl, q S1 l1 s1 x1 ok1⟩
  · cases h
theorem sb_test (ha : SE K ta fa) : SB K (tTest ta) (bVal fa) := sb_val ha
theorem sb_and {tA tB' : TT} {ba bb : BF} (ha : SB K tA ba) (hb : SB K tB' bb) : SB K (tAnd tA tB') (bAnd ba bb) := by
  intro S ρ σ b st' ok en h Q q
  unfold bAnd at h
  split at h
  · rename_i st1 e1
    refine ha S ρ σ _ _ ok en e1 _ fun S1 l1 s1 x1 ok1 => ?_
    subst s1
    exact hb S1 ρ σ b st' ok1 (en.up x1) h Q (q.from l1 x1)
  · rename_i st1 e1
    cases h
    exact ha S ρ σ _ _ ok en e1 _ fun S1 l1 s1 x1 ok1 => q S1 l1 s1 x1 ok1
  · cases h
theorem sb_or {tA tB' : TT} {ba bb : BF} (ha : SB K tA ba) (hb : SB K tB' bb) : SB K (tOr tA tB') (bOr ba bb) := by
  intro S ρ σ b st' ok en h Q q
  unfold bOr at h
  split at h
  · rename_i st1 e1
    cases h
    exact ha S ρ σ _ _ ok en e1 _ fun S1 l1 s1 x1 ok1 => q S1 l1 s1 x1 ok1
  · rename_i st1 e1
    refine ha S ρ σ _ _ ok en e1 _ fun S1 l1 s1 x1 ok1 => ?_
    subst s1
    exact hb S1 ρ σ b st' ok1 (en.up x1) h Q (q.from l1 x1)
  · cases h
theorem sb_not {tA : TT} {ba : BF} (ha : SB K tA ba) : SB K (tNot tA) (bNot ba) := by
  intro S ρ σ b st' ok en h Q q
  unfold bNot at h
  split at h
  · rename_i x st1 e1
    cases h
    exact ha S ρ σ _ _ ok en e1 _ fun S1 l1 s1 x1 ok1 => q S1 l1 s1 x1 ok1
  · cases h
theorem se_if {tc : TT} {bc : BF} (hc : SB K tc bc) (ha : SE K ta fa) (hb : SE K tb fb) : SE K (tIf tc ta tb) (eIf bc fa fb) := by
  intro S ρ σ v st' ok en h Q q
  unfold eIf at h
  split at h
  · rename_i st1 e1
    refine hc S ρ σ _ _ ok en e1 _ fun S1 l1 s1 x1 ok1 => ?_
    subst s1
    exact ha S1 ρ σ v st' ok1 (en.up x1) h Q (q.from l1 x1)
  · rename_i st1 e1
    refine hc S ρ σ _ _ ok en e1 _ fun S1 l1 s1 x1 ok1 => ?_
    subst s1
    exact hb S1 ρ σ v st' ok1 (en.up x1) h Q (q.from l1 x1)
  · cases h
theorem se_and (ha : SE K ta fa) (hb : SE K tb fb) : SE K (tAndT K ta tb) (eAnd fa fb) := by
  intro S ρ σ v st' ok en h Q q
  unfold eAnd at h
  split at h
  · rename_i va st1 e1
    split at h
    · rename_i x e2
      split at h
      · rename_i e3
        refine ha S ρ σ va st1 ok en e1 _ fun S1 xa l1 s1 x1 ok1 r1 => ?_
        subst s1
        exact ⟨true, tru_of (fr_same S1) (lookR_ok ok1 r1 e2) e3, hb S1 ρ σ v st' ok1 (en.up x1) h Q (q.from l1 x1)⟩
      · rename_i e3
        cases h
        refine ha S ρ σ _ _ ok en e1 _ fun S1 xa l1 s1 x1 ok1 r1 => ?_
        subst s1
        exact ⟨false, tru_of (fr_same S1) (lookR_ok ok1 r1 e2) e3, q S1 xa l1 rfl x1 ok1 r1⟩
      · cases h
    · cases h
  · cases h
theorem se_or (ha : SE K ta fa) (hb : SE K tb fb) : SE K (tOrT K ta tb) (eOr fa fb) := by
  intro S ρ σ v st' ok en h Q q
  unfold eOr at h
  split at h
  · rename_i va st1 e1
    split at h
    · rename_i x e2
      split at h
      · rename_i e3
        cases h
        refine ha S ρ σ _ _ ok en e1 _ fun S1 xa l1 s1 x1 ok1 r1 => ?_
        subst s1
        exact ⟨true, tru_of (fr_same S1) (lookR_ok ok1 r1 e2) e3, q S1 xa l1 rfl x1 ok1 r1⟩
      · rename_i e3
        refine ha S ρ σ va st1 ok en e1 _ fun S1 xa l1 s1 x1 ok1 r1 => ?_
        subst s1
        exact ⟨false, tru_of (fr_same S1) (lookR_ok ok1 r1 e2) e3, hb S1 ρ σ v st' ok1 (en.up x1) h Q (q.from l1 x1)⟩
      · cases h
    · cases h
  · cases h
theorem se_not (ha : SE K ta fa) : SE K (tNotT K ta) (eNot fa) := by
  intro S ρ σ v st' ok en h Q q
  unfold eNot at h
  split at h
  · rename_i va st1 e1
    split at h
    · rename_i x e2
      obtain ⟨k, e3, e4⟩ := Option.map_eq_some_iff.mp h
      cases e4
      refine ha S ρ σ va st' ok en e1 _ fun S1 xa l1 s1 x1 ok1 r1 => ?_
      subst s1
      exact ⟨k, tru_of (fr_same S1) (lookR_ok ok1 r1 e2) e3, q S1 _ l1 rfl x1 ok1 (Dd.bl (!k))⟩
    · cases h
  · cases h
theorem sa_nil : SA K tNil aNil := by
  intro S ρ σ v st' ok en h Q q
  cases h
  exact q S [] rfl rfl (Ext.refl S) ok .nil
theorem sa_cons {t : TA} {r : AF} (ha : SE K ta fa) (hr : SA K t r) : SA K (tCons ta t) (aCons fa r) := by
  intro S ρ σ v st' ok en h Q q
  unfold aCons at h
  split at h
  · rename_i va st1 e1
    split at h
    · rename_i vs st2 e2
      cases h
      refine ha S ρ σ va st1 ok en e1 _ fun S1 xa l1 s1 x1 ok1 r1 => ?_
      subst s1
      refine hr S1 ρ σ vs _ ok1 (en.up x1) e2 _ fun S2 xs l2 s2 x2 ok2 r2 => ?_
      exact q S2 (xa :: xs) (l2.trans l1) s2 (x1.trans x2) ok2 (.cons (r1.up x2) r2)
    · cases h
  · cases h
theorem se_tup {t : TA} {r : AF} (hr : SA K t r) : SE K (tTup t) (eTup r) := by
  intro S ρ σ v st' ok en h Q q
  unfold eTup at h
  split at h
  · rename_i vs st1 e1
    split at h
    · rename_i xs e2
      split at h
      · rename_i hz
        cases h
        refine hr S ρ σ vs _ ok en e1 _ fun S1 xa l1 s1 x1 ok1 r1 => ?_
        subst s1
        have dd := datas_ok r1 e2
        refine ⟨by rw [Dds.length_ dd]; exact hz, fun p hp => ?_⟩
        exact new_tup (fr_same S1) dd (fun G' H' w g hw => (q.from l1 x1).grow ok1 g hw) hp
      · cases h
    · cases h
  · cases h
theorem se_lst {t : TA} {r : AF} (hr : SA K t r) : SE K (tLst t) (eLst r) := by
  intro S ρ σ v st' ok en h Q q
  unfold eLst at h
  split at h
  · rename_i vs st1 e1
    split at h
    · rename_i xs e2
      split at h
      · rename_i hz
        cases h
        refine hr S ρ σ vs _ ok en e1 _ fun S1 xa l1 s1 x1 ok1 r1 => ?_
        subst s1
        have dd := datas_ok r1 e2
        refine ⟨by rw [Dds.length_ dd]; exact hz, fun p hp => ?_⟩
        exact new_lst (fr_same S1) dd (fun G' H' w g hw => (q.from l1 x1).grow ok1 g hw) hp
      · cases h
    · cases h
  · cases h
theorem se_lstN {t : TA} {r : AF} (hr : SA K t r) : SE K (tLst t) (eLstN r) := by
  intro S ρ σ v st' ok en h Q q
  unfold eLstN at h
  split at h
  · rename_i vs st1 e1
    split at h
    · rename_i hz
      cases h
      refine hr S ρ σ vs _ ok en e1 _ fun S1 xa l1 s1 x1 ok1 r1 => ?_
      subst s1
      refine ⟨by rw [RVs.len r1]; exact hz, fun p hp => ?_⟩
      obtain ⟨g1, g2⟩ := ok1.more (c := .lst vs) (o := .lst xa) hp (fun z => nomatch z) ⟨xa, rfl, r1⟩
      refine q (S1.more p (.lst xa) (.lst vs)) (.ref p) l1 rfl (x1.trans g1) g2 ⟨p, ?_, rfl⟩
      show (S1.m ++ [p])[S1.st.length]? = some p
      rw [← ok1.len]
      simp
    · cases h
  · cases h
end
end Dl

set_option Elab.async false
set_option linter.all false
set_option maxRecDepth 100000
set_option maxHeartbeats 4000000
namespace Pg
open PySem PySem.Spec PyProof.Rows L2
def rGetL (K : PySem.W.Frag) : V → V → Hp → VK → Prop := fun o i H Q => ∃ (p : Addr) (xs : List V) (j : Nat) (v : V), o = .ref p ∧ i = .int j ∧ SqL K H p xs ∧ xs[j]? = some v ∧ Q v H
theorem get_list {X : Cx} : PGet X (rGetL X.K) := by
  intro pins s σ H o i ov iv Q I ro ri h
  obtain ⟨p, xs, j, v, rfl, rfl, hp, hv, q⟩ := h
  cases ro
  obtain ⟨t, rfl⟩ := ri
  obtain ⟨its, r, pl, hz⟩ := I.list hp
  obtain ⟨u, eu, ru⟩ := r.get hv
  have hj : j < xs.length := (List.getElem?_eq_some_iff.mp hv).1
  have hn := sizeLine_eq
  exact wpAny_getItem_list pl.isList (by omega) (by omega) (by simpa using eu) ⟨v, H, I, ru, q⟩
theorem tyX_list {K : PySem.W.Frag} {H : Hp} {a : Addr} {xs : List V} : SqL K H a xs → TyX K H (.ref a) (.type "list")
  | .inl (.inl h) => .base (.lst h)
  | .inl (.inr ⟨_, h⟩) => .base (.frz h)
  | .inr ⟨_, _, _, h, c, _⟩ => .kList h c
theorem tyX_tup {K : PySem.W.Frag} {H : Hp} {a : Addr} {xs : List V} : SqT K H a xs → TyX K H (.ref a) (.type "tuple")
  | .inl (.inl h) => .base (.tup h)
  | .inl (.inr ⟨_, h⟩) => .fTuple h
  | .inr ⟨_, _, _, h, c, _⟩ => .kTuple h c
end Pg

set_option Elab.async false
set_option linter.all false
set_option maxRecDepth 100000
set_option maxHeartbeats 4000000
namespace Dl
open PySem PySem.Spec PyProof.Rows L2 Pg
/-! ### subscripts, slices -/
def gIx : PyData → PyData → Option PyData
  | .list xs, .int i => atI xs i
  | .tuple xs, .int i => atI xs i
  | .str z, .int i => if z.length ≤ sizeLine then (atI z.cps.toList i).map fun c => .str ⟨#[c]⟩ else none
  | _, _ => none
def cutD (xs : List PyData) (lo hi : Option Int) : List PyData := (xs.drop (HT.sIx xs.length 0 lo)).take (HT.sIx xs.length xs.length hi - HT.sIx xs.length 0 lo)
def gSl (lo hi : Option Int) : PyData → Option PyData
  | .list xs => some (.list (cutD xs lo hi))
  | .tuple xs => some (.tuple (cutD xs lo hi))
  | _ => none
abbrev OF := Env → Sto → Option (Option Int × Sto)
def oNo : OF := fun _ st => some (none, st)
def oSome (a : EF) : OF := fun ρ st => match a ρ st with
  | some (.d (.int i), st1) => some (some i, st1)
  | _ => none
def eSl (a : EF) (lo hi : OF) : EF := fun ρ st => match a ρ st with
  | some (v, st1) => match lo ρ st1 with
    | some (l, st2) => match hi ρ st2 with
      | some (h, st3) => match lookR st3 v with
        | some x => (gSl l h x).map fun z => (.d z, st3)
        | none => none
      | none => none
    | none => none
  | none => none
/-- an item of a cell, data or a number of a cell -/
def eIxC (a b : EF) : EF := fun ρ st => match a ρ st with
  | some (.r n, st1) => match b ρ st1 with
    | some (.d (.int i), st2) => match st2[n]? with
      | some (.lst xs) => (atI xs i).map fun v => (v, st2)
      | _ => none
    | _ => none
  | _ => none
section
variable {X : Cx} {K : PySem.W.Frag} {ta tb te : TE} {fa fb f : EF} {a b e : Expr} {pos : Pos}
theorem ixN_len {m n : Nat} (h : m = n) (i : Int) : ixN m i = ixN n i := by rw [h]
theorem Dds.at_ {G : Hp} {xs : List V} {ds : List PyData} (h : Dds K G xs ds) {i : Int} {d : PyData} (e : atI ds i = some d) : ∃ x, atI xs i = some x ∧ Dd K G x d := by
  unfold atI at e ⊢
  rw [ixN_len (Dds.length_ h)]
  obtain ⟨j, h1, h2⟩ := Option.bind_eq_some_iff.mp e
  obtain ⟨x, h3, h4⟩ := Dds.get_ h h2
  exact ⟨x, by rw [h1]; exact h3, h4⟩
theorem RVs.at_ {S : Wd} {xs : List V} {ds : List Vd} (h : RVs K S xs ds) {i : Int} {d : Vd} (e : atI ds i = some d) : ∃ x, atI xs i = some x ∧ RV K S x d := by
  unfold atI at e ⊢
  rw [ixN_len (RVs.len h)]
  obtain ⟨j, h1, h2⟩ := Option.bind_eq_some_iff.mp e
  have get : ∀ {xs : List V} {ds : List Vd} {j : Nat}, RVs K S xs ds → ds[j]? = some d → ∃ x, xs[j]? = some x ∧ RV K S x d := by
    intro xs ds j h
    induction h generalizing j with
    | nil => intro e; simp at e
    | cons h t ih =>
      intro e
      cases j with
      | zero => simp at e; subst e; exact ⟨_, rfl, h⟩
      | succ j =>
        obtain ⟨x, h1, h2⟩ := ih (j := j) (by simpa using e)
        exact ⟨x, by simpa using h1, h2⟩
  obtain ⟨x, h3, h4⟩ := get h h2
  exact ⟨x, by rw [h1]; exact h3, h4⟩
theorem so_ix : SO K (rIx K) gIx := by
  intro G H x y dx dy z g rx ry e Q q
  unfold gIx at e
  split at e
  · obtain ⟨a, xs, rfl, h1, r1⟩ := rx.list g
    obtain ⟨w, h2, h3⟩ := Dds.at_ r1 e
    exact .inl ⟨a, xs, _, w, rfl, ry.int, h1, h2, q _ _ _ (Grow.refl g) h3⟩
  · obtain ⟨a, xs, rfl, h1, r1, _⟩ := rx.tup g
    obtain ⟨w, h2, h3⟩ := Dds.at_ r1 e
    exact .inr (.inl ⟨a, xs, _, w, rfl, ry.int, h1, h2, q _ _ _ (Grow.refl g) h3⟩)
  · split at e
    · rename_i hz
      obtain ⟨c, h1, h2⟩ := Option.map_eq_some_iff.mp e
      subst h2
      exact .inr (.inr ⟨_, _, c, rx.str, ry.int, hz, h1, q _ _ _ (Grow.refl g) (.str _)⟩)
    · cases e
  · cases e
def SOp (K : PySem.W.Frag) (to : TO) (f : OF) : Prop := ∀ (S : Wd) (ρ : Env) (σ : L2.St) (o : Option Int) (st' : Sto), S.Ok K → REnv K S ρ σ → f ρ S.st = some (o, st') → ∀ Q : Option Int → Hp → Prop, (∀ S' : Wd, S'.L = S.L → S'.st = st' → Ext S S' → S'.Ok K → Q o S'.H) → to σ S.H Q
theorem sop_no : SOp K tNoPart oNo := by
  intro S ρ σ o st' ok en h Q q
  cases h
  exact q S rfl rfl (Ext.refl S) ok
theorem sop_some (ha : SE K ta fa) : SOp K (tPart ta) (oSome fa) := by
  intro S ρ σ o st' ok en h Q q
  unfold oSome at h
  split at h
  · rename_i i st1 e1
    cases h
    refine ha S ρ σ _ _ ok en e1 _ fun S1 xa l1 s1 x1 ok1 r1 => ?_
    have r1' : Dd K S1.fr xa (.int i) := r1
    cases r1'
    exact ⟨i, rfl, q S1 l1 s1 x1 ok1⟩
  · cases h
theorem Dds.cut {G : Hp} {xs : List V} {ds : List PyData} (h : Dds K G xs ds) (lo hi : Option Int) : Dds K G (cutV xs lo hi) (cutD ds lo hi) := by
  unfold cutV cutD
  rw [Dds.length_ h]
  exact Dds.take_ _ (Dds.drop_ _ h)
def rSlD (K : PySem.W.Frag) : V → Option Int → Option Int → Hp → VK → Prop := fun x lo hi H Q => rSlA K x lo hi H Q ∨ rSlL K x lo hi H Q
theorem sl_D : SlR X (rSlD X.K) := by
  intro pins s σ H x v vl vu lo hi sl Q I rx hs pl pu h
  rcases h with h | h
  · exact sl_tupA pins s σ H x v vl vu lo hi sl Q I rx hs pl pu h
  · exact sl_list pins s σ H x v vl vu lo hi sl Q I rx hs pl pu h
theorem se_sl {tl th : TO} {lo hi : OF} (ha : SE K ta fa) (hl : SOp K tl lo) (hh : SOp K th hi) : SE K (tSl (rSlD K) ta tl th) (eSl fa lo hi) := by
  intro S ρ σ v st' ok en h Q q
  unfold eSl at h
  split at h
  · rename_i va st1 e1
    split at h
    · rename_i l st2 e2
      split at h
      · rename_i u st3 e3
        split at h
        · rename_i x e4
          obtain ⟨z, e5, e6⟩ := Option.map_eq_some_iff.mp h
          cases e6
          refine ha S ρ σ va st1 ok en e1 _ fun S1 xa l1 s1 x1 ok1 r1 => ?_
          subst s1
          refine hl S1 ρ σ l st2 ok1 (en.up x1) e2 _ fun S2 l2 s2 x2 ok2 => ?_
          subst s2
          refine hh S2 ρ σ u st' ok2 (en.up (x1.trans x2)) e3 _ fun S3 l3 s3 x3 ok3 => ?_
          subst s3
          have rk := lookR_ok ok3 (r1.up (x2.trans x3)) e4
          have q' := q.from (l3.trans (l2.trans l1)) (x1.trans (x2.trans x3))
          have g := fr_same S3
          unfold gSl at e5
          split at e5
          · cases e5
            obtain ⟨a, xs, rfl, h1, r⟩ := rk.list g
            exact .inr ⟨a, xs, rfl, h1, fun p hp => new_lst g (Dds.cut r l u) (fun G' H' w g hw => q'.grow ok3 g hw) hp⟩
          · cases e5
            obtain ⟨a, xs, rfl, h1, r, h2⟩ := rk.tup g
            refine .inl ⟨a, xs, rfl, h1, fun hw => ?_, fun _ p hp => new_tup g (Dds.cut r l u) (fun G' H' w g hw => q'.grow ok3 g hw) hp⟩
            refine q'.grow ok3 (Grow.refl g) ?_
            have c := Dds.cut r l u
            have e : cutV xs l u = xs := by
              unfold cutV
              rw [hw.1, hw.2]
              simp
            rw [e] at c
            exact .tup h2 c
          · cases e5
        · cases h
      · cases h
    · cases h
  · cases h
theorem se_ixC (ha : SE K ta fa) (hb : SE K tb fb) : SE K (tOp (rIx K) ta tb) (eIxC fa fb) := by
  intro S ρ σ v st' ok en h Q q
  unfold eIxC at h
  split at h
  · rename_i n st1 e1
    split at h
    · rename_i i st2 e2
      split at h
      · rename_i xs e3
        obtain ⟨z, e5, e6⟩ := Option.map_eq_some_iff.mp h
        cases e6
        refine ha S ρ σ _ _ ok en e1 _ fun S1 xa l1 s1 x1 ok1 r1 => ?_
        subst s1
        refine hb S1 ρ σ _ _ ok1 (en.up x1) e2 _ fun S2 xb l2 s2 x2 ok2 r2 => ?_
        subst s2
        have r2' : Dd K S2.fr xb (.int i) := r2
        cases r2'
        obtain ⟨a, o, h1, h2, vs, h3, h4⟩ := look_at ok2 e3 (fun z => nomatch z)
        subst h3
        obtain ⟨w, h5, h6⟩ := RVs.at_ h4 e5
        have ea := (r1.up x2).ref_at h1
        subst ea
        exact .inl ⟨a, vs, i, w, rfl, rfl, SqL.of h2, h5, q S2 w (l2.trans l1) rfl (x1.trans x2) ok2 h6⟩
      · cases h
    · cases h
  · cases h
/-! ### calls of built-in things -/
def looks (st : Sto) : List Vd → Option (List PyData)
  | [] => some []
  | v :: r => match lookR st v, looks st r with
    | some x, some xs => some (x :: xs)
    | _, _ => none
inductive Rks (K : PySem.W.Frag) (G H : Hp) : List V → List PyData → Prop
  | nil : Rks K G H [] []
  | cons {x : V} {xs : List V} {d : PyData} {ds : List PyData} (h : Rk K G H x d) (t : Rks K G H xs ds) : Rks K G H (x :: xs) (d :: ds)
theorem looks_ok {S : Wd} (ok : S.Ok K) : ∀ {vs : List Vd} {xs : List V} {ds : List PyData}, RVs K S xs vs → looks S.st vs = some ds → Rks K S.fr S.H xs ds
  | [], _, _, .nil, e => by cases e; exact .nil
  | v :: r, _, _, .cons h t, e => by
    unfold looks at e
    split at e
    · rename_i e1 e2
      cases e
      exact .cons (lookR_ok ok h e1) (looks_ok ok t e2)
    · cases e
def SC (K : PySem.W.Frag) (r : List V → Hp → VK → Prop) (g : List PyData → Option PyData) : Prop := ∀ (G H : Hp) (xs : List V) (ds : List PyData) (z : PyData), Same G H → Rks K G H xs ds → g ds = some z →
  ∀ Q : VK, (∀ G' H' v, Grow G H G' H' → Dd K G' v z → Q v H') → r xs H Q
def eCB (g : List PyData → Option PyData) (a : AF) : EF := fun ρ st => match a ρ st with
  | some (vs, st1) => match looks st1 vs with
    | some xs => (g xs).map fun z => (.d z, st1)
    | none => none
  | none => none
theorem se_cb {r : List V → Hp → VK → Prop} {g : List PyData → Option PyData} {t : TA} {fa : AF} (hr : SC K r g) (ha : SA K t fa) : SE K (tCB r t) (eCB g fa) := by
  intro S ρ σ v st' ok en h Q q
  unfold eCB at h
  split at h
  · rename_i vs st1 e1
    split at h
    · rename_i xs e2
      obtain ⟨z, e5, e6⟩ := Option.map_eq_some_iff.mp h
      cases e6
      refine ha S ρ σ _ _ ok en e1 _ fun S1 xa l1 s1 x1 ok1 r1 => ?_
      subst s1
      exact hr S1.fr S1.H xa xs z (fr_same S1) (looks_ok ok1 r1 e2) e5 Q fun G' H' w g hw => (q.from l1 x1).grow ok1 g hw
    · cases h
  · cases h
def gLen : List PyData → Option PyData
  | [.list xs] => some (.int (xs.length : Int))
  | [.tuple xs] => some (.int (xs.length : Int))
  | [.str z] => if z.length ≤ sizeLine then some (.int (z.length : Int)) else none
  | _ => none
def rLenD (K : PySem.W.Frag) : List V → Hp → VK → Prop := fun xs H Q => (∃ p ys, xs = [.ref p] ∧ (SqL K H p ys ∨ SqT K H p ys) ∧ Q (.int ys.length) H) ∨ (∃ z, xs = [.str z] ∧ z.length ≤ sizeLine ∧ Q (.int z.length) H)
theorem callr_or {f : Value} {r1 r2 : List V → Hp → VK → Prop} (h1 : CallR X f r1) (h2 : CallR X f r2) : CallR X f fun xs H Q => r1 xs H Q ∨ r2 xs H Q := fun pins s σ H xs us Q I r h => h.elim (h1 pins s σ H xs us Q I r) (h2 pins s σ H xs us Q I r)
theorem call_lenD : CallR X (.builtin "len") (rLenD X.K) := callr_or call_len_seq call_len_str
theorem Rks.one {G H : Hp} {xs : List V} {d : PyData} (r : Rks K G H xs [d]) : ∃ x, xs = [x] ∧ Rk K G H x d := by
  cases r with
  | cons h t => cases t; exact ⟨_, rfl, h⟩
theorem Rks.two {G H : Hp} {xs : List V} {d e : PyData} (r : Rks K G H xs [d, e]) : ∃ x y, xs = [x, y] ∧ Rk K G H x d ∧ Rk K G H y e := by
  cases r with
  | cons h t =>
    obtain ⟨y, rfl, h2⟩ := t.one
    exact ⟨_, y, rfl, h, h2⟩
theorem sc_len : SC K (rLenD K) gLen := by
  intro G H xs ds z g r e Q q
  unfold gLen at e
  split at e
  · cases e
    obtain ⟨x, rfl, rk⟩ := r.one
    obtain ⟨a, ys, rfl, h1, h2⟩ := rk.list g
    exact .inl ⟨a, ys, rfl, .inl h1, by rw [Dds.length_ h2]; exact q _ _ _ (Grow.refl g) (.int _)⟩
  · cases e
    obtain ⟨x, rfl, rk⟩ := r.one
    obtain ⟨a, ys, rfl, h1, h2, _⟩ := rk.tup g
    exact .inl ⟨a, ys, rfl, .inr h1, by rw [Dds.length_ h2]; exact q _ _ _ (Grow.refl g) (.int _)⟩
  · split at e
    · cases e
      obtain ⟨x, rfl, rk⟩ := r.one
      exact .inr ⟨_, by rw [rk.str], ‹_›, q _ _ _ (Grow.refl g) (.int _)⟩
    · cases e
  · cases e
def gAbs : List PyData → Option PyData
  | [.int i] => some (.int (if i < 0 then -i else i))
  | _ => none
theorem sc_abs : SC K (fun xs H Q => ∃ i, xs = [.int i] ∧ Q (.int (if i < 0 then -i else i)) H) gAbs := by
  intro G H xs ds z g r e Q q
  unfold gAbs at e
  split at e
  · cases e
    obtain ⟨x, rfl, rk⟩ := r.one
    exact ⟨_, by rw [rk.int], q _ _ _ (Grow.refl g) (.int _)⟩
  · cases e
def gInt : List PyData → Option PyData
  | [.int i] => some (.int i)
  | [.bool b] => some (.int (if b then 1 else 0))
  | _ => none
theorem sc_int : SC K (fun xs H Q => (∃ i, xs = [.int i] ∧ Q (.int i) H) ∨ ∃ k, xs = [.bl k] ∧ Q (.int (if k then 1 else 0)) H) gInt := by
  intro G H xs ds z g r e Q q
  unfold gInt at e
  split at e
  · cases e
    obtain ⟨x, rfl, rk⟩ := r.one
    exact .inl ⟨_, by rw [rk.int], q _ _ _ (Grow.refl g) (.int _)⟩
  · cases e
    obtain ⟨x, rfl, rk⟩ := r.one
    exact .inr ⟨_, by rw [rk.bool], q _ _ _ (Grow.refl g) (.int _)⟩
  · cases e
def gStr : List PyData → Option PyData
  | [.int i] => if i.natAbs.log2 < 1920 then some (.str (toString i)) else none
  | _ => none
theorem sc_str : SC K (fun xs H Q => ∃ i, xs = [.int i] ∧ i.natAbs.log2 < 1920 ∧ Q (.str (toString i)) H) gStr := by
  intro G H xs ds z g r e Q q
  unfold gStr at e
  split at e
  · split at e
    · cases e
      obtain ⟨x, rfl, rk⟩ := r.one
      exact ⟨_, by rw [rk.int], ‹_›, q _ _ _ (Grow.refl g) (.str _)⟩
    · cases e
  · cases e
def gRepr : List PyData → Option PyData
  | [d] => if (decide (d.depth ≤ 60) && d.showable && decide (d.shown.length ≤ sizeLine)) = true then some (.str d.shown) else none
  | _ => none
theorem sc_repr : SC K (rRepr K) gRepr := by
  intro G H xs ds z g r e Q q
  unfold gRepr at e
  split at e
  · split at e
    · rename_i hc
      simp only [Bool.and_eq_true, decide_eq_true_eq] at hc
      cases e
      obtain ⟨x, rfl, rk⟩ := r.one
      exact ⟨x, _, rfl, rk.dd g, hc.1.1, hc.1.2, hc.2, q _ _ _ (Grow.refl g) (.str _)⟩
    · cases e
  · cases e
def gTupleOf : List PyData → Option PyData
  | [.list xs] => some (.tuple xs)
  | [.tuple xs] => some (.tuple xs)
  | _ => none
theorem sc_tuple : SC K (fun xs H Q => ∃ p ys, xs = [.ref p] ∧ ((SqL K H p ys ∧ ∀ l, H l = none → Q (.ref l) (upd H l (.tup ys))) ∨ (SqT K H p ys ∧ Q (.ref p) H))) gTupleOf := by
  intro G H xs ds z g r e Q q
  unfold gTupleOf at e
  split at e
  · cases e
    obtain ⟨x, rfl, rk⟩ := r.one
    obtain ⟨a, ys, rfl, h1, h2⟩ := rk.list g
    exact ⟨a, ys, rfl, .inl ⟨h1, fun l hl => new_tup g h2 q hl⟩⟩
  · cases e
    obtain ⟨x, rfl, rk⟩ := r.one
    obtain ⟨a, ys, rfl, h1, h2, h3⟩ := rk.tup g
    exact ⟨a, ys, rfl, .inr ⟨h1, q _ _ _ (Grow.refl g) (.tup h3 h2)⟩⟩
  · cases e
def gListOf : List PyData → Option PyData
  | [.list xs] => some (.list xs)
  | [.tuple xs] => some (.list xs)
  | _ => none
theorem sc_list : SC K (fun xs H Q => ∃ p ys, xs = [.ref p] ∧ (SqL K H p ys ∨ SqT K H p ys) ∧ ∀ l, H l = none → Q (.ref l) (upd H l (.lst ys))) gListOf := by
  intro G H xs ds z g r e Q q
  unfold gListOf at e
  split at e
  · cases e
    obtain ⟨x, rfl, rk⟩ := r.one
    obtain ⟨a, ys, rfl, h1, h2⟩ := rk.list g
    exact ⟨a, ys, rfl, .inl h1, fun l hl => new_lst g h2 q hl⟩
  · cases e
    obtain ⟨x, rfl, rk⟩ := r.one
    obtain ⟨a, ys, rfl, h1, h2, h3⟩ := rk.tup g
    exact ⟨a, ys, rfl, .inr h1, fun l hl => new_lst g h2 q hl⟩
  · cases e
def intsD : List PyData → Option (List Int)
  | [] => some []
  | .int i :: r => (intsD r).map (i :: ·)
  | _ :: _ => none
def boolsD : List PyData → Option (List Bool)
  | [] => some []
  | .bool i :: r => (boolsD r).map (i :: ·)
  | _ :: _ => none
theorem ints_ok {G : Hp} : ∀ {ds : List PyData} {xs : List V} {ns : List Int}, Dds K G xs ds → intsD ds = some ns → xs = ns.map V.int
  | [], _, _, .nil, e => by cases e; rfl
  | .int i :: r, _, _, .cons h t, e => by
    unfold intsD at e
    obtain ⟨m, h1, h2⟩ := Option.map_eq_some_iff.mp e
    subst h2
    cases h
    rw [ints_ok t h1]
    rfl
  | .none :: _, _, _, _, e => by cases e
  | .bool _ :: _, _, _, _, e => by cases e
  | .str _ :: _, _, _, _, e => by cases e
  | .list _ :: _, _, _, _, e => by cases e
  | .tuple _ :: _, _, _, _, e => by cases e
  | .dict _ :: _, _, _, _, e => by cases e
theorem bools_ok {G : Hp} : ∀ {ds : List PyData} {xs : List V} {ns : List Bool}, Dds K G xs ds → boolsD ds = some ns → xs = ns.map V.bl
  | [], _, _, .nil, e => by cases e; rfl
  | .bool i :: r, _, _, .cons h t, e => by
    unfold boolsD at e
    obtain ⟨m, h1, h2⟩ := Option.map_eq_some_iff.mp e
    subst h2
    cases h
    rw [bools_ok t h1]
    rfl
  | .none :: _, _, _, _, e => by cases e
  | .int _ :: _, _, _, _, e => by cases e
  | .str _ :: _, _, _, _, e => by cases e
  | .list _ :: _, _, _, _, e => by cases e
  | .tuple _ :: _, _, _, _, e => by cases e
  | .dict _ :: _, _, _, _, e => by cases e
def gAll : List PyData → Option PyData
  | [.list xs] => (boolsD xs).map fun bs => .bool (bs.all id)
  | _ => none
def gAny : List PyData → Option PyData
  | [.list xs] => (boolsD xs).map fun bs => .bool (bs.any id)
  | _ => none
def gSum : List PyData → Option PyData
  | [.list xs] => (intsD xs).map fun ns => .int ns.sum
  | _ => none
theorem sc_all : SC K (rAll K) gAll := by
  intro G H xs ds z g r e Q q
  unfold gAll at e
  split at e
  · obtain ⟨bs, e1, e2⟩ := Option.map_eq_some_iff.mp e
    subst e2
    obtain ⟨x, rfl, rk⟩ := r.one
    obtain ⟨a, ys, rfl, h1, h2⟩ := rk.list g
    exact ⟨a, bs, rfl, by rw [← bools_ok h2 e1]; exact h1, q _ _ _ (Grow.refl g) (.bl _)⟩
  · cases e
theorem sc_any : SC K (rAny K) gAny := by
  intro G H xs ds z g r e Q q
  unfold gAny at e
  split at e
  · obtain ⟨bs, e1, e2⟩ := Option.map_eq_some_iff.mp e
    subst e2
    obtain ⟨x, rfl, rk⟩ := r.one
    obtain ⟨a, ys, rfl, h1, h2⟩ := rk.list g
    exact ⟨a, bs, rfl, by rw [← bools_ok h2 e1]; exact h1, q _ _ _ (Grow.refl g) (.bl _)⟩
  · cases e
theorem sc_sum : SC K (rSum K) gSum := by
  intro G H xs ds z g r e Q q
  unfold gSum at e
  split at e
  · obtain ⟨bs, e1, e2⟩ := Option.map_eq_some_iff.mp e
    subst e2
    obtain ⟨x, rfl, rk⟩ := r.one
    obtain ⟨a, ys, rfl, h1, h2⟩ := rk.list g
    exact ⟨a, bs, rfl, by rw [← ints_ok h2 e1]; exact h1, q _ _ _ (Grow.refl g) (.int _)⟩
  · cases e
def gMax2 : List PyData → Option PyData
  | [.int i, .int j] => some (.int (if j > i then j else i))
  | _ => none
def gMin2 : List PyData → Option PyData
  | [.int i, .int j] => some (.int (if j < i then j else i))
  | _ => none
theorem sc_max2 : SC K (fun xs H Q => ∃ i j, xs = [.int i, .int j] ∧ Q (.int (if j > i then j else i)) H) gMax2 := by
  intro G H xs ds z g r e Q q
  unfold gMax2 at e
  split at e
  · cases e
    obtain ⟨x, y, rfl, rk, rk2⟩ := r.two
    exact ⟨_, _, by rw [rk.int, rk2.int], q _ _ _ (Grow.refl g) (.int _)⟩
  · cases e
theorem sc_min2 : SC K (fun xs H Q => ∃ i j, xs = [.int i, .int j] ∧ Q (.int (if j < i then j else i)) H) gMin2 := by
  intro G H xs ds z g r e Q q
  unfold gMin2 at e
  split at e
  · cases e
    obtain ⟨x, y, rfl, rk, rk2⟩ := r.two
    exact ⟨_, _, by rw [rk.int, rk2.int], q _ _ _ (Grow.refl g) (.int _)⟩
  · cases e
/-! isinstance -/
inductive Kq | int | bool | str | tuple | list | dict
def Kq.nm : Kq → String
  | .int => "int" | .bool => "bool" | .str => "str" | .tuple => "tuple" | .list => "list" | .dict => "dict"
def isK : Kq → PyData → Bool
  | .int, .int _ => true
  | .int, .bool _ => true
  | .bool, .bool _ => true
  | .str, .str _ => true
  | .tuple, .tuple _ => true
  | .list, .list _ => true
  | .dict, .dict _ => true
  | _, _ => false
def rIsD (K : PySem.W.Frag) (k : Kq) : List V → Hp → VK → Prop := fun xs H Q => ∃ (x : V) (d : PyData), xs = [x, .ty k.nm] ∧ Dd K H x d ∧ Q (.bl (isK k d)) H
theorem call_isD {k : Kq} : CallR X (.builtin "isinstance") (rIsD X.K k) := by
  intro pins s σ H xs us Q I r h
  obtain ⟨x, d, rfl, hv, q⟩ := h
  have go : ∀ t : String, TyX X.K H x (.type t) → kitB t k.nm = some (isK k d) → wpAny (model X.prog X.w) X.A (call (.builtin "isinstance") us) (EP X pins σ Q) X.xe s := fun t ht hk =>
    call_isi pins s σ H _ us Q I r ⟨x, _, _, _, _, rfl, .ty _, ht, kit_ty hk, q⟩
  cases hv with
  | non => exact go "NoneType" (.base .non) (by cases k <;> (simp only [isK]; decide +kernel))
  | bl b => exact go "bool" (.base (.bl b)) (by cases k <;> (simp only [isK]; decide +kernel))
  | int i => exact go "int" (.base (.int i)) (by cases k <;> (simp only [isK]; decide +kernel))
  | str z => exact go "str" (.base (.str z)) (by cases k <;> (simp only [isK]; decide +kernel))
  | lst p => exact go "list" (tyX_list p) (by cases k <;> (simp only [isK]; decide +kernel))
  | dic p => exact go "dict" (.base (.dK p)) (by cases k <;> (simp only [isK]; decide +kernel))
  | tup p _ => exact go "tuple" (tyX_tup p) (by cases k <;> (simp only [isK]; decide +kernel))
def eIs (k : Kq) (a : EF) : EF := fun ρ st => match a ρ st with
  | some (v, st1) => match lookR st1 v with
    | some x => some (.d (.bool (isK k x)), st1)
    | none => none
  | none => none
theorem se_is {k : Kq} (ha : SE K ta fa) : SE K (tCB (rIsD K k) (tCons ta (tCons (tC (.ty k.nm)) tNil))) (eIs k fa) := by
  intro S ρ σ v st' ok en h Q q
  unfold eIs at h
  split at h
  · rename_i va st1 e1
    split at h
    · rename_i x e2
      cases h
      refine ha S ρ σ _ _ ok en e1 _ fun S1 xa l1 s1 x1 ok1 r1 => ?_
      subst s1
      exact ⟨xa, x, rfl, (lookR_ok ok1 r1 e2).dd (fr_same S1), q S1 _ l1 rfl x1 ok1 (Dd.bl _)⟩
    · cases h
  · cases h
end
end Dl

set_option Elab.async false
set_option linter.all false
set_option maxRecDepth 100000
set_option maxHeartbeats 4000000
namespace Dl
open PySem PySem.Spec PyProof.Rows L2 Pg
/-! ### defs -/
abbrev FF := List Vd → Sto → Option (Vd × Sto)
def spD (K : PySem.W.Frag) (n : Nat) (F : FF) : Sp := fun vs H Q _ => vs.length = n ∧ ∃ (S : Wd) (args : List Vd) (v : Vd) (st' : Sto), S.Ok K ∧ S.H = H ∧ RVs K S vs args ∧ F args S.st = some (v, st') ∧ Aft K S st' v Q
def eCall (n : Nat) (F : FF) (a : AF) : EF := fun ρ st => match a ρ st with
  | some (vs, st1) => if vs.length = n then F vs st1 else none
  | none => none
section
variable {X : Cx} {K : PySem.W.Frag} {ta tb te : TE} {fa fb f : EF} {a b e : Expr} {pos : Pos}
theorem se_call {n : Nat} {F : FF} {t : TA} {fa : AF} (ha : SA K t fa) : SE K (tCall (spD K n F) [] E0 t) (eCall n F fa) := by
  intro S ρ σ v st' ok en h Q q
  unfold eCall at h
  split at h
  · rename_i vs st1 e1
    split at h
    · rename_i hl
      refine ha S ρ σ _ _ ok en e1 _ fun S1 xa l1 s1 x1 ok1 r1 => ?_
      subst s1
      rw [List.append_nil]
      exact ⟨by rw [RVs.len r1]; exact hl, S1, vs, v, st', ok1, rfl, r1, h, q.from l1 x1⟩
    · cases h
  · cases h
end
/-! ### what goes at a def's end -/
def CloV (n : Nat) : Vd → Prop
  | .d _ => True
  | .r k => k < n
  | .t _ => True
def CloC (n : Nat) : Cell → Prop
  | .dead => True
  | .lst xs => ∀ x ∈ xs, CloV n x
  | .dic kvs => ∀ p ∈ kvs, CloV n p.2
  | .dct kvs => ∀ p ∈ kvs, CloV n p.2
  | .tbl _ _ => True
def Clo (n : Nat) (st : Sto) : Prop := ∀ c ∈ st, CloC n c
section
variable {K : PySem.W.Frag} {S S0 : Wd}
theorem Wd.Ok.cut (ok : S.Ok K) {st' junk : Sto} (e : S.st = st' ++ junk) (hc : Clo st'.length st') :
    ({ S with m := S.m.take st'.length, st := st' } : Wd).Ok K ∧ (∀ x v, CloV st'.length v → RV K S x v → RV K { S with m := S.m.take st'.length, st := st' } x v) ∧ (∀ S0 : Wd, S0.m.length ≤ st'.length → Ext S0 S → Ext S0 { S with m := S.m.take st'.length, st := st' }) := by
  generalize hS : ({ S with m := S.m.take st'.length, st := st' } : Wd) = S'
  have hl := ok.len
  rw [e, List.length_append] at hl
  have at_ : ∀ {n c a}, S'.At n c a → S.At n c a := fun {n c a} h => by
    subst hS
    obtain ⟨h1, h2, h3⟩ := h
    have h1' : st'[n]? = some c := h1
    have hn : n < st'.length := (List.getElem?_eq_some_iff.mp h1').1
    have h3' : (S.m.take st'.length)[n]? = some a := h3
    rw [List.getElem?_take_of_lt hn] at h3'
    refine ⟨?_, h2, h3'⟩
    rw [e, List.getElem?_append_left hn]
    exact h1'
  have eL : S'.L = S.L := by subst hS; rfl
  have eH : S'.H = S.H := by subst hS; rfl
  have lv : ∀ a, S'.Lv a → S.Lv a := fun a h => by
    rcases h with h | ⟨n, c, h⟩
    · exact .inl (eL ▸ h)
    · exact .inr ⟨n, c, at_ h⟩
  have sm : Same S.fr S'.fr := fun a o h => by
    obtain ⟨h1, h2⟩ := fr_of h
    exact fr_at (fun z => h1 (lv a z)) (by rw [eH]; exact h2)
  have rv : ∀ x v, CloV st'.length v → RV K S x v → RV K S' x v := fun x v hv h => by
    cases v with
    | t ds =>
      obtain ⟨a, vs, ob, hx, h1, h2, h3⟩ := h
      exact ⟨a, vs, ob, hx, sm _ _ h1, h2, Dds.up sm _ _ h3⟩
    | d y => exact Dd.up sm y x h
    | r n =>
      obtain ⟨a, h1, h2⟩ := h
      refine ⟨a, ?_, h2⟩
      subst hS
      show (S.m.take st'.length)[n]? = some a
      have hn : n < st'.length := hv
      rw [List.getElem?_take_of_lt hn]
      exact h1
  have rvs : ∀ {xs vs}, (∀ v ∈ vs, CloV st'.length v) → RVs K S xs vs → RVs K S' xs vs := fun {xs vs} hv h => by
    induction h with
    | nil => exact .nil
    | cons h t ih => exact .cons (rv _ _ (hv _ List.mem_cons_self) h) (ih fun v hv' => hv v (List.mem_cons_of_mem _ hv'))
  have rvk : ∀ {κ μ : Type} {g : κ → μ} {xs : List (κ × V)} {vs : List (μ × Vd)}, (∀ p ∈ vs, CloV st'.length p.2) → Paired (fun p q => g p.1 = q.1 ∧ RV K S p.2 q.2) xs vs → Paired (fun p q => g p.1 = q.1 ∧ RV K S' p.2 q.2) xs vs := fun {κ μ g xs vs} hv h => by
    induction h with
    | nil => exact .nil
    | cons h t ih => exact .cons ⟨h.1, rv _ _ (hv _ List.mem_cons_self) h.2⟩ (ih fun v hv' => hv v (List.mem_cons_of_mem _ hv'))
  refine ⟨⟨?_, fun h1 h2 => ok.inj (at_ h1) (at_ h2), fun h z => ok.nL (at_ h) (eL ▸ z), fun a h => by rw [eH]; exact ok.hL a (eL ▸ h), fun {n c a} h => ?_, fun h => ok.tb (at_ h)⟩, rv, fun S0 h0 x => ?_⟩
  · subst hS
    show (S.m.take st'.length).length = st'.length
    rw [List.length_take]
    omega
  · obtain ⟨o, h1, h2⟩ := ok.cell (at_ h)
    refine ⟨o, by rw [eH]; exact h1, ?_⟩
    have hm : c ∈ st' := by
      subst hS
      exact List.mem_of_getElem? (show st'[n]? = some c from h.1)
    have hcc := hc c hm
    cases c with
    | dead => trivial
    | lst xs =>
      obtain ⟨vs, h3, h4⟩ := h2
      exact ⟨vs, h3, rvs hcc h4⟩
    | dic kvs =>
      obtain ⟨ks, h3, h4⟩ := h2
      exact ⟨ks, h3, rvk (g := id) hcc h4⟩
    | dct kvs =>
      obtain ⟨ks, h3, h4⟩ := h2
      exact ⟨ks, h3, rvk (g := id) hcc h4⟩
    | tbl P q =>
      obtain ⟨ps, h3, h4, h5⟩ := h2
      exact ⟨ps, h3, h4, fun pos cv hc => let ⟨c, e1, e2⟩ := h5 pos cv hc; ⟨c, e1, sm _ _ e2⟩⟩
  · refine ⟨fun n a h => ?_, x.keep.trans sm, fun a h => ?_⟩
    · subst hS
      show (S.m.take st'.length)[n]? = some a
      have hn : n < S0.m.length := (List.getElem?_eq_some_iff.mp h).1
      rw [List.getElem?_take_of_lt (by omega)]
      exact x.pre n a h
    · obtain ⟨h1, h2⟩ := x.lL a h
      exact ⟨eL ▸ h1, by rw [eH]; exact h2⟩
end
/-! ### statements -/
inductive Out where
  | nx (ρ : Env) (st : Sto) | rt (v : Vd) (st : Sto) | bk (ρ : Env) (st : Sto) | ct (ρ : Env) (st : Sto)
abbrev SF := Env → Sto → Option Out
def AftN (K : PySem.W.Frag) (S : Wd) (ρ' : Env) (st' : Sto) (Q : L2.St → Hp → Prop) : Prop := ∀ (S' : Wd) (σ' : L2.St), S'.L = S.L → S'.st = st' → Ext S S' → S'.Ok K → REnv K S' ρ' σ' → Q σ' S'.H
def AftS (K : PySem.W.Frag) (S : Wd) (o : Out) (D : Ends) : Prop := match o with
  | .nx ρ' st' => AftN K S ρ' st' D.nx
  | .rt v st' => Aft K S st' v D.rt
  | .bk ρ' st' => AftN K S ρ' st' D.bk
  | .ct ρ' st' => AftN K S ρ' st' D.ct
theorem AftN.from {K : PySem.W.Frag} {S S1 : Wd} {ρ' : Env} {st' : Sto} {Q : L2.St → Hp → Prop} (h : AftN K S ρ' st' Q) (l : S1.L = S.L) (e : Ext S S1) : AftN K S1 ρ' st' Q := fun S' x h1 h2 h3 h4 h5 => h S' x (h1.trans l) h2 (e.trans h3) h4 h5
theorem AftS.from {K : PySem.W.Frag} {S S1 : Wd} {o : Out} {D : Ends} (h : AftS K S o D) (l : S1.L = S.L) (e : Ext S S1) : AftS K S1 o D := by
  cases o with
  | nx ρ' st' => exact AftN.from (show AftN K S ρ' st' D.nx from h) l e
  | rt v st' => exact Aft.from (show Aft K S st' v D.rt from h) l e
  | bk ρ' st' => exact AftN.from (show AftN K S ρ' st' D.bk from h) l e
  | ct ρ' st' => exact AftN.from (show AftN K S ρ' st' D.ct from h) l e
def SS (K : PySem.W.Frag) (ts : TS) (f : SF) : Prop := ∀ (S : Wd) (ρ : Env) (σ : L2.St) (o : Out), S.Ok K → REnv K S ρ σ → f ρ S.st = some o → ∀ D : Ends, AftS K S o D → ts D σ S.H
def JSs (X : Cx) (st : List Stmt) (f : SF) : Prop := ∃ ts, PSs X st ts ∧ SS X.K ts f
def JS (X : Cx) (st : Stmt) (f : SF) : Prop := ∃ ts, PS X st ts ∧ SS X.K ts f
abbrev TF := Vd → Env → Sto → Option (Env × Sto)
def ST (K : PySem.W.Frag) (g : TG) (t : TF) : Prop := ∀ (S : Wd) (ρ : Env) (σ : L2.St) (x : V) (v : Vd) (ρ' : Env) (st' : Sto), S.Ok K → REnv K S ρ σ → RV K S x v → t v ρ S.st = some (ρ', st') → ∀ Q, AftN K S ρ' st' Q → g x σ S.H Q
abbrev TFs := List Vd → Env → Sto → Option (Env × Sto)
def STs (K : PySem.W.Frag) (g : TGs) (t : TFs) : Prop := ∀ (S : Wd) (ρ : Env) (σ : L2.St) (xs : List V) (vs : List Vd) (ρ' : Env) (st' : Sto), S.Ok K → REnv K S ρ σ → RVs K S xs vs → t vs ρ S.st = some (ρ', st') → ∀ Q, AftN K S ρ' st' Q → g xs σ S.H Q
def tNm (i : Nat) : TF := fun v ρ st => some (ρ.set i (some v), st)
def tsNil : TFs := fun vs ρ st => match vs with
  | [] => some (ρ, st)
  | _ => none
def tsCons (t : TF) (u : TFs) : TFs := fun vs ρ st => match vs with
  | v :: r => match t v ρ st with
    | some (ρ1, st1) => u r ρ1 st1
    | none => none
  | [] => none
def tTp (n : Nat) (t : TFs) : TF := fun v ρ st => match v with
  | .d (.tuple xs) => if xs.length = n then t (xs.map .d) ρ st else none
  | _ => none
/-- x[i] = v, x a cell -/
def tPut (a b : EF) : TF := fun v ρ st => match a ρ st with
  | some (.r n, st1) => match b ρ st1 with
    | some (.d (.int i), st2) => match st2[n]? with
      | some (.lst xs) => match ixN xs.length i with
        | some j => some (ρ, st2.set n (.lst (xs.set j v)))
        | none => none
      | _ => none
    | _ => none
  | _ => none
section
variable {K : PySem.W.Frag}
theorem st_nm {i : Nat} : ST K (gName i) (tNm i) := by
  intro S ρ σ x v ρ' st' ok en r h Q q
  cases h
  exact q S _ rfl rfl (Ext.refl S) ok (en.set i r)
theorem sts_nil : STs K gNil tsNil := by
  intro S ρ σ xs vs ρ' st' ok en r h Q q
  unfold tsNil at h
  split at h
  · cases h
    cases r
    exact ⟨rfl, q S σ rfl rfl (Ext.refl S) ok en⟩
  · cases h
theorem sts_cons {g : TG} {gs : TGs} {t : TF} {u : TFs} (h1 : ST K g t) (h2 : STs K gs u) : STs K (gCons g gs) (tsCons t u) := by
  intro S ρ σ xs vs ρ' st' ok en r h Q q
  unfold tsCons at h
  split at h
  · split at h
    · rename_i ρ1 st1 e1
      cases r with
      | cons r rr =>
        refine ⟨_, _, rfl, h1 S ρ σ _ _ _ _ ok en r e1 _ fun S1 σ1 l1 s1 x1 ok1 en1 => ?_⟩
        subst s1
        exact h2 S1 ρ1 σ1 _ _ _ _ ok1 en1 (RVs.up x1 rr) h Q (q.from l1 x1)
    · cases h
  · cases h
theorem rvs_of {S : Wd} : ∀ {xs : List V} {ds : List PyData}, Dds K S.fr xs ds → RVs K S xs (ds.map .d)
  | _, _, .nil => .nil
  | _, _, .cons h r => .cons h (rvs_of r)
theorem st_tp {n : Nat} {gs : TGs} {u : TFs} (h2 : STs K gs u) : ST K (gTup K n gs) (tTp n u) := by
  intro S ρ σ x v ρ' st' ok en r h Q q
  unfold tTp at h
  split at h
  · rename_i xs
    split at h
    · rename_i hl
      have r' : Dd K S.fr x (.tuple xs) := r
      cases r' with
      | @tup a ys _ h3 h4 =>
        exact ⟨a, ys, rfl, same_seqT (fr_same S) h3, by rw [Dds.length_ h4]; exact hl, h2 S ρ σ _ _ _ _ ok en (rvs_of h4) h Q q⟩
    · cases h
  · cases h
theorem RVs.set_ {S : Wd} {x : V} {v : Vd} (r : RV K S x v) : ∀ {xs : List V} {vs : List Vd} (i : Nat), RVs K S xs vs → RVs K S (xs.set i x) (vs.set i v)
  | _, _, _, .nil => .nil
  | _, _, 0, .cons _ t => .cons r t
  | _, _, i + 1, .cons q t => .cons q (RVs.set_ r i t)
theorem st_put {ta tb : TE} {fa fb : EF} (ha : SE K ta fa) (hb : SE K tb fb) : ST K (L2.gSub ta tb rSetL) (tPut fa fb) := by
  intro S ρ σ x v ρ' st' ok en r h Q q
  unfold tPut at h
  split at h
  · rename_i n st1 e1
    split at h
    · rename_i i st2 e2
      split at h
      · rename_i xs e3
        split at h
        · rename_i j e4
          cases h
          refine ha S ρ σ _ _ ok en e1 _ fun S1 xa l1 s1 x1 ok1 r1 => ?_
          subst s1
          refine hb S1 ρ σ _ _ ok1 (en.up x1) e2 _ fun S2 xb l2 s2 x2 ok2 r2 => ?_
          subst s2
          have r2' : Dd K S2.fr xb (.int i) := r2
          cases r2'
          obtain ⟨a, o, h1, h2, vs, h3, h4⟩ := look_at ok2 e3 (fun z => nomatch z)
          subst h3
          have ea := (r1.up x2).ref_at h1
          subst ea
          have rx := (r.up x1).up x2
          obtain ⟨g1, g2⟩ := ok2.chg (c := .lst (xs.set j v)) (o := .lst (vs.set j x)) h1 (fun z => nomatch z) ⟨_, rfl, RVs.set_ rx j h4⟩
          exact ⟨a, vs, i, j, rfl, rfl, h2, by rw [RVs.len h4]; exact e4, q (S2.chg n a _ _) σ (l2.trans l1) rfl ((x1.trans x2).trans g1) g2 (en.up ((x1.trans x2).trans g1))⟩
        · cases h
      · cases h
    · cases h
  · cases h
end
def sNext : SF := fun ρ st => some (.nx ρ st)
def sSeq (f g : SF) : SF := fun ρ st => match f ρ st with
  | some (.nx ρ1 st1) => g ρ1 st1
  | o => o
def sIf (c : BF) (f g : SF) : SF := fun ρ st => match c ρ st with
  | some (true, st1) => f ρ st1
  | some (false, st1) => g ρ st1
  | none => none
def sRet (e : EF) : SF := fun ρ st => match e ρ st with
  | some (v, st1) => some (.rt v st1)
  | none => none
def sAsg (e : EF) (t : TF) : SF := fun ρ st => match e ρ st with
  | some (v, st1) => match t v ρ st1 with
    | some (ρ2, st2) => some (.nx ρ2 st2)
    | none => none
  | none => none
def sDrop (e : EF) : SF := fun ρ st => match e ρ st with
  | some (_, st1) => some (.nx ρ st1)
  | none => none
def sBrk : SF := fun ρ st => some (.bk ρ st)
def sCnt : SF := fun ρ st => some (.ct ρ st)
def sNo : SF := fun _ _ => none
/-- x[i] += y, x a cell, ints -/
def sAugI (op : Int → Int → Int) (a b e : EF) : SF := fun ρ st => match a ρ st with
  | some (.r n, st1) => match b ρ st1 with
    | some (.d (.int i), st2) => match st2[n]? with
      | some (.lst xs) => match ixN xs.length i with
        | some j => match xs[j]? with
          | some (.d (.int u)) => match e ρ st2 with
            | some (.d (.int w), st3) => match st3[n]? with
              | some (.lst ys) => if ys.length = xs.length then some (.nx ρ (st3.set n (.lst (ys.set j (.d (.int (op u w))))))) else none
              | _ => none
            | _ => none
          | _ => none
        | none => none
      | _ => none
    | _ => none
  | _ => none
/-- name op= e -/
def sAug (i : Nat) (g : PyData → PyData → Option PyData) (e : EF) : SF := fun ρ st => match ρ[i]? with
  | some (some v) => match e ρ st with
    | some (w, st1) => match lookR st1 v, lookR st1 w with
      | some x, some y => (g x y).map fun z => .nx (ρ.set i (some (.d z))) st1
      | _, _ => none
    | none => none
  | _ => none
section
variable {K : PySem.W.Frag} {t u : TS} {f g : SF}
theorem ss_next : SS K tNext sNext := by
  intro S ρ σ o ok en h D q
  cases h
  exact q S σ rfl rfl (Ext.refl S) ok en
theorem ss_seq (hf : SS K t f) (hg : SS K u g) : SS K (tSeq t u) (sSeq f g) := by
  intro S ρ σ o ok en h D q
  unfold sSeq at h
  split at h
  · rename_i ρ1 st1 e1
    refine hf S ρ σ _ ok en e1 { D with nx := u D } fun S1 σ1 l1 s1 x1 ok1 en1 => ?_
    subst s1
    exact hg S1 ρ1 σ1 o ok1 en1 h D (q.from l1 x1)
  · rename_i o' hn
    refine hf S ρ σ o ok en h { D with nx := u D } ?_
    cases o with
    | nx ρ1 st1 => exact absurd h (hn ρ1 st1)
    | rt v st' => exact q
    | bk ρ' st' => exact q
    | ct ρ' st' => exact q
theorem ss_if {tc : TT} {c : BF} (hc : SB K tc c) (hf : SS K t f) (hg : SS K u g) : SS K (tIfS tc t u) (sIf c f g) := by
  intro S ρ σ o ok en h D q
  unfold sIf at h
  split at h
  · rename_i st1 e1
    refine hc S ρ σ _ _ ok en e1 _ fun S1 l1 s1 x1 ok1 => ?_
    subst s1
    exact hf S1 ρ σ o ok1 (en.up x1) h D (q.from l1 x1)
  · rename_i st1 e1
    refine hc S ρ σ _ _ ok en e1 _ fun S1 l1 s1 x1 ok1 => ?_
    subst s1
    exact hg S1 ρ σ o ok1 (en.up x1) h D (q.from l1 x1)
  · cases h
theorem ss_ret {te : TE} {e : EF} (he : SE K te e) : SS K (tRet te) (sRet e) := by
  intro S ρ σ o ok en h D q
  unfold sRet at h
  split at h
  · rename_i v st1 e1
    cases h
    exact he S ρ σ _ _ ok en e1 _ q
  · cases h
theorem ss_asg {te : TE} {e : EF} {gt : TG} {tf : TF} (he : SE K te e) (ht : ST K gt tf) : SS K (tAsg te gt) (sAsg e tf) := by
  intro S ρ σ o ok en h D q
  unfold sAsg at h
  split at h
  · rename_i v st1 e1
    split at h
    · rename_i ρ2 st2 e2
      cases h
      refine he S ρ σ _ _ ok en e1 _ fun S1 xa l1 s1 x1 ok1 r1 => ?_
      subst s1
      exact ht S1 ρ σ xa v ρ2 st2 ok1 (en.up x1) r1 e2 _ (AftN.from (show AftN K S ρ2 st2 D.nx from q) l1 x1)
    · cases h
  · cases h
theorem ss_drop {te : TE} {e : EF} (he : SE K te e) : SS K (tDrop te) (sDrop e) := by
  intro S ρ σ o ok en h D q
  unfold sDrop at h
  split at h
  · rename_i v st1 e1
    cases h
    exact he S ρ σ _ _ ok en e1 _ fun S1 xa l1 s1 x1 ok1 r1 => q S1 σ l1 s1 x1 ok1 (en.up x1)
  · cases h
theorem ss_brk : SS K tBreak sBrk := by
  intro S ρ σ o ok en h D q
  cases h
  exact q S σ rfl rfl (Ext.refl S) ok en
theorem ss_cnt : SS K tCont sCnt := by
  intro S ρ σ o ok en h D q
  cases h
  exact q S σ rfl rfl (Ext.refl S) ok en
theorem ss_no : SS K tNever sNo := by
  intro S ρ σ o ok en h D q
  cases h
theorem RVs.get_ {S : Wd} : ∀ {xs : List V} {ds : List Vd} {j : Nat} {d : Vd}, RVs K S xs ds → ds[j]? = some d → ∃ x, xs[j]? = some x ∧ RV K S x d
  | _, _, _, _, .nil, e => by simp at e
  | _, _, 0, _, .cons a _, e => by
    simp at e
    subst e
    exact ⟨_, rfl, a⟩
  | _, _, i + 1, _, .cons _ r, e => by
    obtain ⟨x, h1, h2⟩ := RVs.get_ (j := i) r (by simpa using e)
    exact ⟨x, by simpa using h1, h2⟩
theorem ss_augI {op : Int → Int → Int} {ta tb te : TE} {fa fb fe : EF} (ha : SE K ta fa) (hb : SE K tb fb) (he : SE K te fe) : SS K (tAugS ta tb te (rIxL K) (ipI op) rSetL) (sAugI op fa fb fe) := by
  intro S ρ σ o ok en h D q
  unfold sAugI at h
  split at h
  · rename_i n st1 e1
    split at h
    · rename_i i st2 e2
      split at h
      · rename_i xs e3
        split at h
        · rename_i j e4
          split at h
          · rename_i uu e5
            split at h
            · rename_i ww st3 e6
              split at h
              · rename_i ys e7
                split at h
                · rename_i hl
                  cases h
                  refine ha S ρ σ _ _ ok en e1 _ fun S1 xa l1 s1 x1 ok1 r1 => ?_
                  subst s1
                  refine hb S1 ρ σ _ _ ok1 (en.up x1) e2 _ fun S2 xb l2 s2 x2 ok2 r2 => ?_
                  subst s2
                  have r2' : Dd K S2.fr xb (.int i) := r2
                  cases r2'
                  obtain ⟨a, o, h1, h2, vs, h3, h4⟩ := look_at ok2 e3 (fun z => nomatch z)
                  subst h3
                  have ea := (r1.up x2).ref_at h1
                  subst ea
                  obtain ⟨w1, g1, g2⟩ := RVs.get_ h4 e5
                  have g2' : Dd K S2.fr w1 (.int uu) := g2
                  cases g2'
                  refine ⟨a, vs, i, .int uu, rfl, rfl, SqL.of h2, ?_, ?_⟩
                  · unfold atI
                    rw [RVs.len h4, e4]
                    exact g1
                  refine he S2 ρ σ _ _ ok2 (en.up (x1.trans x2)) e6 _ fun S3 xc l3 s3 x3 ok3 r3 => ?_
                  subst s3
                  have r3' : Dd K S3.fr xc (.int ww) := r3
                  cases r3'
                  obtain ⟨a', o', h1', h2', vs', h3', h4'⟩ := look_at ok3 e7 (fun z => nomatch z)
                  subst h3'
                  have ea' := ((r1.up x2).up x3).ref_at h1'
                  cases ea'
                  obtain ⟨k1, k2⟩ := ok3.chg (c := .lst (ys.set j (.d (.int (op uu ww))))) (o := .lst (vs'.set j (.int (op uu ww)))) h1' (fun z => nomatch z) ⟨_, rfl, RVs.set_ (v := .d (.int (op uu ww))) (x := .int (op uu ww)) (Dd.int _) j h4'⟩
                  refine ⟨uu, ww, rfl, rfl, a, vs', i, j, rfl, rfl, h2', by rw [RVs.len h4', hl]; exact e4, ?_⟩
                  exact q (S3.chg n a _ _) σ (l3.trans (l2.trans l1)) rfl (((x1.trans x2).trans x3).trans k1) k2 (en.up (((x1.trans x2).trans x3).trans k1))
                · cases h
              · cases h
            · cases h
          · cases h
        · cases h
      · cases h
    · cases h
  · cases h
theorem ss_aug {i : Nat} {r : R2} {g : PyData → PyData → Option PyData} {te : TE} {fe : EF} (hr : SO K r g) (he : SE K te fe) : SS K (tAug i te r) (sAug i g fe) := by
  intro S ρ σ o ok en h D q
  unfold sAug at h
  split at h
  · rename_i v e1
    split at h
    · rename_i w st1 e2
      split at h
      · rename_i x y e3 e4
        obtain ⟨z, e5, e6⟩ := Option.map_eq_some_iff.mp h
        subst e6
        obtain ⟨xv, h1, h2⟩ := en.at_ i v e1
        refine ⟨xv, h1, he S ρ σ _ _ ok en e2 _ fun S1 xa l1 s1 x1 ok1 r1 => ?_⟩
        subst s1
        refine hr S1.fr S1.H xv xa x y z (fr_same S1) (lookR_ok ok1 (h2.up x1) e3) (lookR_ok ok1 r1 e4) e5 _ fun G' H' w g hw => ?_
        have gr := ok1.grow g.hh
        exact q { S1 with H := H' } _ l1 rfl (x1.trans gr.1) gr.2 ((en.up (x1.trans gr.1)).set i (Dd.up (g.into ok1) z w hw))
      · cases h
    · cases h
  · cases h
end
/-! ### what is walked -/
abbrev IF := Env → Sto → Option (List Vd × Sto)
structure Src (K : PySem.W.Frag) (J : It) (S : Wd) (items : List Vd) : Prop where
  go : ∀ S' : Wd, Ext S S' → S'.Ok K → ∀ i, i < items.length → J.go i S'.H
  yld : ∀ S' : Wd, Ext S S' → S'.Ok K → ∀ i v, items[i]? = some v → ∀ x H', J.yld i S'.H x H' → Same S'.H H' ∧ RV K { S' with H := H' } x v
  stop : ∀ S' : Wd, Ext S S' → S'.Ok K → J.stop items.length S'.H
def SI (K : PySem.W.Frag) (wi : TI) (f : IF) : Prop := ∀ (S : Wd) (ρ : Env) (σ : L2.St) (items : List Vd) (st' : Sto), S.Ok K → REnv K S ρ σ → f ρ S.st = some (items, st') →
  ∀ R : It → Hp → Prop, (∀ (S' : Wd) (J : It), S'.L = S.L → S'.st = st' → Ext S S' → S'.Ok K → Src K J S' items → R J S'.H) → wi σ S.H R
def forD (t : TF) (body : SF) : List Vd → Env → Sto → Option Out
  | [], ρ, st => some (.nx ρ st)
  | v :: vs, ρ, st => match t v ρ st with
    | some (ρ1, st1) => match body ρ1 st1 with
      | some (.nx ρ2 st2) => forD t body vs ρ2 st2
      | some (.ct ρ2 st2) => forD t body vs ρ2 st2
      | some (.bk ρ2 st2) => some (.nx ρ2 st2)
      | some (.rt w st2) => some (.rt w st2)
      | none => none
    | none => none
def sFor (src : IF) (t : TF) (body : SF) : SF := fun ρ st => match src ρ st with
  | some (items, st1) => forD t body items ρ st1
  | none => none
section
variable {K : PySem.W.Frag}
theorem ss_for {wi : TI} {src : IF} {g : TG} {t : TF} {tb : TS} {body : SF} (hi : SI K wi src) (ht : ST K g t) (hb : SS K tb body) : SS K (tFor wi g tb) (sFor src t body) := by
  intro S ρ σ o ok en h D q
  unfold sFor at h
  split at h
  · rename_i items st1 e1
    refine hi S ρ σ items st1 ok en e1 _ fun S1 J l1 s1 x1 ok1 sr => ?_
    subst s1
    have q1 := q.from l1 x1
    clear q
    refine ⟨fun i m σ2 H2 => ∃ (S2 : Wd) (ρ2 : Env), S2.H = H2 ∧ S2.L = S1.L ∧ Ext S1 S2 ∧ S2.Ok K ∧ REnv K S2 ρ2 σ2 ∧ i ≤ items.length ∧ m = items.length - i ∧ forD t body (items.drop i) ρ2 S2.st = some o, ⟨items.length, S1, ρ, rfl, rfl, Ext.refl S1, ok1, en.up x1, Nat.zero_le _, rfl, h⟩, ?_⟩
    rintro i m σ2 H2 ⟨S2, ρ2, rfl, l2, x2, ok2, en2, hi2, hm, h2⟩
    by_cases hlt : i < items.length
    · obtain ⟨v, hv⟩ : ∃ v, items[i]? = some v := ⟨items[i], List.getElem?_eq_getElem hlt⟩
      have hd : items.drop i = v :: items.drop (i + 1) := by
        rw [List.drop_eq_getElem_cons hlt]
        rw [List.getElem?_eq_getElem hlt] at hv
        rw [Option.some.inj hv]
      rw [hd] at h2
      unfold forD at h2
      split at h2
      · rename_i ρ3 st3 e3
        refine .inr ⟨sr.go S2 x2 ok2 i hlt, fun σ' H' => ∃ (S' : Wd) (ρ' : Env), S'.H = H' ∧ S'.L = S1.L ∧ Ext S1 S' ∧ S'.Ok K ∧ REnv K S' ρ' σ' ∧ forD t body (items.drop (i + 1)) ρ' S'.st = some o, fun σ' H' hN => ?_, fun x H' hy => ?_⟩
        · obtain ⟨S', ρ', e', l', x', ok', en', h'⟩ := hN
          exact ⟨items.length - (i + 1), by omega, S', ρ', e', l', x', ok', en', hlt, rfl, h'⟩
        · obtain ⟨hs, hr⟩ := sr.yld S2 x2 ok2 i v hv x H' hy
          have gr := ok2.grow hs
          have x2' := x2.trans gr.1
          refine ht { S2 with H := H' } ρ2 σ2 x v ρ3 st3 gr.2 (en2.up gr.1) hr e3 _ fun S3 σ3 l3 s3 x3 ok3 en3 => ?_
          subst s3
          have x3' := x2'.trans x3
          have l3' : S3.L = S1.L := l3.trans l2
          split at h2
          · rename_i ρ4 st4 e4
            refine hb S3 ρ3 σ3 _ ok3 en3 e4 _ ?_
            intro S4 σ4 l4 s4 x4 ok4 en4
            subst s4
            exact ⟨S4, ρ4, rfl, l4.trans l3', x3'.trans x4, ok4, en4, h2⟩
          · rename_i ρ4 st4 e4
            refine hb S3 ρ3 σ3 _ ok3 en3 e4 _ ?_
            intro S4 σ4 l4 s4 x4 ok4 en4
            subst s4
            exact ⟨S4, ρ4, rfl, l4.trans l3', x3'.trans x4, ok4, en4, h2⟩
          · rename_i ρ4 st4 e4
            cases h2
            refine hb S3 ρ3 σ3 _ ok3 en3 e4 _ ?_
            exact AftN.from (show AftN K S1 ρ4 st4 D.nx from q1) l3' x3'
          · rename_i w st4 e4
            cases h2
            refine hb S3 ρ3 σ3 _ ok3 en3 e4 _ ?_
            exact Aft.from (show Aft K S1 st4 w D.rt from q1) l3' x3'
          · cases h2
      · cases h2
    · have ei : i = items.length := by omega
      subst ei
      rw [List.drop_length] at h2
      cases h2
      exact .inl ⟨sr.stop S2 x2 ok2, q1 S2 σ2 l2 rfl x2 ok2 en2⟩
  · cases h
end
end Dl

set_option Elab.async false
set_option linter.all false
set_option maxRecDepth 100000
set_option maxHeartbeats 4000000
namespace Dl
open PySem PySem.Spec PyProof.Rows L2 Pg
/-! ### sources -/
def iSeq (K : PySem.W.Frag) (tl : TE) : TI := fun σ H R => tl σ H fun x H1 => ∃ a, x = .ref a ∧ (((∃ xs, SqL K H1 a xs) ∧ R (Itl K a) H1) ∨ ((∃ xs, SqT K H1 a xs) ∧ R (Itt K a) H1))
theorem pi_seq {X : Cx} {tg l : Expr} {tl : TE} (hl : PE X l tl) : PI X tg l (iSeq X.K tl) := by
  refine ⟨fun pins s σ H R I h => ?_⟩
  refine thn (hl.run pins s σ H _ I h) fun v s1 ⟨x, H1, I1, r1, q1⟩ => ?_
  obtain ⟨a, e, q1⟩ := q1
  subst e
  cases r1
  have f : ∀ b ∈ [s1.heap.objs.size], FpOk X pins H1 b := fun b hb => by
    have e : b = s1.heap.objs.size := by simpa using hb
    subst e
    exact I1.fpOk (Nat.le_refl _) (I1.hok.fresh (Nat.le_refl _))
  rcases q1 with ⟨⟨xs, hq⟩, q⟩ | ⟨⟨xs, hq⟩, q⟩
  · obtain ⟨its, rv, p, hz⟩ := I1.list hq
    refine wpAny_pyIter_list p.isList ?_
    exact ⟨s1.heap.objs.size, [s1.heap.objs.size], _, _, H1, rfl, I1.kept (t' := s1.toks) fun b o e => Heap.get?_push_of_some _ e, turn_list a _, ⟨_, Heap.get?_push_size _ rfl, rfl, rfl⟩, f, q⟩
  · obtain ⟨its, rv, p, hz⟩ := I1.tuple hq
    refine wpAny_pyIter_tuple (show s1.heap.IsTuple a its.toArray from p) ?_
    exact ⟨s1.heap.objs.size, [s1.heap.objs.size], _, _, H1, rfl, I1.kept (t' := s1.toks) fun b o e => Heap.get?_push_of_some _ e, turn_tuple a _, ⟨_, Heap.get?_push_size _ rfl, rfl, rfl⟩, f, q⟩
def iData (a : EF) : IF := fun ρ st => match a ρ st with
  | some (.d (.list xs), st1) => some (xs.map .d, st1)
  | some (.d (.tuple xs), st1) => some (xs.map .d, st1)
  | _ => none
def vInt (i : Nat) (lo : Int) : Vd := .d (.int (lo + (i : Int)))
def iRange1 (a : AF) : IF := fun ρ st => match a ρ st with
  | some ([.d (.int j)], st1) => if -(2 ^ 62) ≤ j ∧ j < 2 ^ 62 then some ((List.range j.toNat).map fun i : Nat => vInt i 0, st1) else none
  | _ => none
def iRange2 (a : AF) : IF := fun ρ st => match a ρ st with
  | some ([.d (.int i), .d (.int j)], st1) => if -(2 ^ 62) ≤ i ∧ i < 2 ^ 62 ∧ -(2 ^ 62) ≤ j ∧ j < 2 ^ 62 then some ((List.range (j - i).toNat).map fun k : Nat => vInt k i, st1) else none
  | _ => none
def enumD (n : Nat) : List PyData → List Vd
  | [] => []
  | x :: xs => .d (.tuple [.int (n : Int), x]) :: enumD (n + 1) xs
def iEnumL (a : AF) : IF := fun ρ st => match a ρ st with
  | some ([.d (.list xs)], st1) => some (enumD 0 xs, st1)
  | _ => none
def zipD : List PyData → List PyData → List Vd
  | x :: xs, y :: ys => .d (.tuple [x, y]) :: zipD xs ys
  | _, _ => []
def iZipF (a : AF) : IF := fun ρ st => match a ρ st with
  | some ([.d (.list xs), .d (.list ys)], st1) => some (zipD xs ys, st1)
  | some ([.d (.tuple xs), .d (.tuple ys)], st1) => some (zipD xs ys, st1)
  | _ => none
section
variable {K : PySem.W.Frag} {ta te : TE} {fa : EF} {S : Wd}
theorem src_l {a : Addr} {xs : List V} {ds : List PyData} (h : SqL K S.fr a xs) (r : Dds K S.fr xs ds) : Src K (Itl K a) S (ds.map .d) := by
  have hl := Dds.length_ r
  refine ⟨fun S' e ok i hi => ?_, fun S' e ok i v hv x H' hy => ?_, fun S' e ok => ⟨xs, (fr_same S').seq (e.keep.seq h), by simp [hl]⟩⟩
  · rw [List.length_map, ← hl] at hi
    exact ⟨xs, xs[i], (fr_same S').seq (e.keep.seq h), List.getElem?_eq_getElem hi⟩
  · obtain ⟨rfl, hx⟩ := hy
    have h1 := hx xs ((fr_same S').seq (e.keep.seq h))
    obtain ⟨w, h2, h3⟩ := RVs.get_ (rvs_of r) hv
    rw [h1] at h2
    cases h2
    exact ⟨Same.refl _, h3.up e⟩
theorem src_t {a : Addr} {xs : List V} {ds : List PyData} (h : SqT K S.fr a xs) (r : Dds K S.fr xs ds) : Src K (Itt K a) S (ds.map .d) := by
  have hl := Dds.length_ r
  refine ⟨fun S' e ok i hi => ?_, fun S' e ok i v hv x H' hy => ?_, fun S' e ok => ⟨xs, same_seqT (fr_same S') (same_seqT e.keep h), by simp [hl]⟩⟩
  · rw [List.length_map, ← hl] at hi
    exact ⟨xs, xs[i], same_seqT (fr_same S') (same_seqT e.keep h), List.getElem?_eq_getElem hi⟩
  · obtain ⟨rfl, hx⟩ := hy
    have h1 := hx xs (same_seqT (fr_same S') (same_seqT e.keep h))
    obtain ⟨w, h2, h3⟩ := RVs.get_ (rvs_of r) hv
    rw [h1] at h2
    cases h2
    exact ⟨Same.refl _, h3.up e⟩
theorem src_r {lo : Int} {n : Nat} : Src K (Itr lo n) S ((List.range n).map fun k : Nat => vInt k lo) := by
  refine ⟨fun S' e ok i hi => (show i < n by simpa using hi), fun S' e ok i v hv x H' hy => ?_, fun S' e ok => by simp [Itr]⟩
  obtain ⟨rfl, rfl⟩ := hy
  rw [List.getElem?_map] at hv
  obtain ⟨k, h1, h2⟩ := Option.map_eq_some_iff.mp hv
  have hk : k = i := by
    have := List.getElem?_range (show i < n from by simpa using (List.getElem?_eq_some_iff.mp h1).1)
    rw [this] at h1
    exact (Option.some.inj h1).symm
  subst hk
  subst h2
  exact ⟨Same.refl _, Dd.int _⟩
theorem si_data (ha : SE K ta fa) : SI K (iSeq K ta) (iData fa) := by
  intro S ρ σ items st' ok en h R q
  unfold iData at h
  split at h
  · rename_i xs st1 e1
    cases h
    refine ha S ρ σ _ _ ok en e1 _ fun S1 xa l1 s1 x1 ok1 r1 => ?_
    have r' : Dd K S1.fr xa (.list xs) := r1
    cases r' with
    | @lst a vs _ h1 h2 => exact ⟨a, rfl, .inl ⟨⟨vs, (fr_same S1).seq h1⟩, q S1 _ l1 s1 x1 ok1 (src_l h1 h2)⟩⟩
  · rename_i xs st1 e1
    cases h
    refine ha S ρ σ _ _ ok en e1 _ fun S1 xa l1 s1 x1 ok1 r1 => ?_
    have r' : Dd K S1.fr xa (.tuple xs) := r1
    cases r' with
    | @tup a vs _ h1 h2 => exact ⟨a, rfl, .inr ⟨⟨vs, same_seqT (fr_same S1) h1⟩, q S1 _ l1 s1 x1 ok1 (src_t h1 h2)⟩⟩
  · cases h
theorem rvs_one {x : List V} {d : PyData} (r : RVs K S x [.d d]) : ∃ v, x = [v] ∧ Dd K S.fr v d := by
  cases r with
  | cons h t => cases t; exact ⟨_, rfl, h⟩
theorem rvs_two {x : List V} {d e : PyData} (r : RVs K S x [.d d, .d e]) : ∃ v w, x = [v, w] ∧ Dd K S.fr v d ∧ Dd K S.fr w e := by
  cases r with
  | cons h t =>
    obtain ⟨w, rfl, h2⟩ := rvs_one t
    exact ⟨_, w, rfl, h, h2⟩
theorem si_range1 {t : TA} {fa : AF} (ha : SA K t fa) : SI K (iRng1 t) (iRange1 fa) := by
  intro S ρ σ items st' ok en h R q
  unfold iRange1 at h
  split at h
  · rename_i j st1 e1
    split at h
    · rename_i hj
      cases h
      refine ha S ρ σ _ _ ok en e1 _ fun S1 xa l1 s1 x1 ok1 r1 => ?_
      obtain ⟨v, rfl, hv⟩ := rvs_one r1
      cases hv
      exact ⟨j, rfl, hj.1, hj.2, q S1 _ l1 s1 x1 ok1 src_r⟩
    · cases h
  · cases h
theorem si_range2 {t : TA} {fa : AF} (ha : SA K t fa) : SI K (iRng2 t) (iRange2 fa) := by
  intro S ρ σ items st' ok en h R q
  unfold iRange2 at h
  split at h
  · rename_i i j st1 e1
    split at h
    · rename_i hj
      cases h
      refine ha S ρ σ _ _ ok en e1 _ fun S1 xa l1 s1 x1 ok1 r1 => ?_
      obtain ⟨v, w, rfl, hv, hw⟩ := rvs_two r1
      cases hv
      cases hw
      exact ⟨i, j, rfl, hj, q S1 _ l1 s1 x1 ok1 src_r⟩
    · cases h
  · cases h
theorem enumD_get : ∀ {xs : List PyData} {n i : Nat} {v : Vd}, (enumD n xs)[i]? = some v → ∃ x, xs[i]? = some x ∧ v = .d (.tuple [.int ((n + i : Nat) : Int), x])
  | [], _, _, _, h => by simp [enumD] at h
  | x :: xs, n, 0, v, h => by
    simp [enumD] at h
    exact ⟨x, rfl, h.symm⟩
  | x :: xs, n, i + 1, v, h => by
    simp only [enumD, List.getElem?_cons_succ] at h
    obtain ⟨y, h1, h2⟩ := enumD_get h
    exact ⟨y, by simpa using h1, by rw [h2]; congr 4; omega⟩
theorem enumD_len : ∀ (xs : List PyData) (n : Nat), (enumD n xs).length = xs.length
  | [], _ => rfl
  | _ :: xs, n => congrArg (· + 1) (enumD_len xs (n + 1))
theorem zipD_get : ∀ {xs ys : List PyData} {i : Nat} {v : Vd}, (zipD xs ys)[i]? = some v → ∃ x y, xs[i]? = some x ∧ ys[i]? = some y ∧ v = .d (.tuple [x, y])
  | [], _, _, _, h => by simp [zipD] at h
  | _ :: _, [], _, _, h => by simp [zipD] at h
  | x :: xs, y :: ys, 0, v, h => by
    simp [zipD] at h
    exact ⟨x, y, rfl, rfl, h.symm⟩
  | x :: xs, y :: ys, i + 1, v, h => by
    simp only [zipD, List.getElem?_cons_succ] at h
    obtain ⟨z, w, h1, h2, h3⟩ := zipD_get h
    exact ⟨z, w, by simpa using h1, by simpa using h2, h3⟩
theorem zipD_len : ∀ (xs ys : List PyData), (zipD xs ys).length = min xs.length ys.length
  | [], _ => by simp [zipD]
  | _ :: _, [] => by simp [zipD]
  | _ :: xs, _ :: ys => by simp [zipD, zipD_len xs ys]
theorem pair_new {x : V} {d : PyData} {y : V} {e : PyData} {T : Addr} (ok : S.Ok K) (hT : S.H T = none) (hx : Dd K S.fr x d) (hy : Dd K S.fr y e) :
    Same S.H (upd S.H T (.tup [x, y])) ∧ RV K { S with H := upd S.H T (.tup [x, y]) } (.ref T) (.d (.tuple [d, e])) := by
  have g := (Grow.refl (fr_same S)).put hT (.tup [x, y])
  refine ⟨same_up hT, ?_⟩
  have up := same_up (o := .tup [x, y]) (free_of (fr_same S) hT)
  exact Dd.up (g.into ok) _ _ (.tup (SqT.of upd_same) (.cons (Dd.up up _ _ hx) (.cons (Dd.up up _ _ hy) .nil)))
theorem src_e {a : Addr} {xs : List V} {ds : List PyData} (h : SqL K S.fr a xs) (r : Dds K S.fr xs ds) : Src K (Ite K a) S (enumD 0 ds) := by
  have hl := Dds.length_ r
  refine ⟨fun S' e ok i hi => ?_, fun S' e ok i v hv x H' hy => ?_, fun S' e ok => ⟨xs, (fr_same S').seq (e.keep.seq h), by rw [enumD_len, hl]; exact Nat.le_refl _⟩⟩
  · rw [enumD_len, ← hl] at hi
    exact ⟨xs, xs[i], (fr_same S').seq (e.keep.seq h), List.getElem?_eq_getElem hi⟩
  · obtain ⟨T, z, rfl, hT, rfl, hx⟩ := hy
    have h1 := hx xs ((fr_same S').seq (e.keep.seq h))
    obtain ⟨d, h2, h3⟩ := enumD_get hv
    subst h3
    obtain ⟨w, h4, h5⟩ := Dds.get_ r h2
    rw [h1] at h4
    cases h4
    rw [Nat.zero_add]
    exact pair_new ok hT (.int _) (Dd.up e.keep _ _ h5)
theorem si_enum {t : TA} {fa : AF} (ha : SA K t fa) : SI K (iEnum K t) (iEnumL fa) := by
  intro S ρ σ items st' ok en h R q
  unfold iEnumL at h
  split at h
  · rename_i xs st1 e1
    cases h
    refine ha S ρ σ _ _ ok en e1 _ fun S1 xa l1 s1 x1 ok1 r1 => ?_
    obtain ⟨v, rfl, hv⟩ := rvs_one r1
    cases hv with
    | @lst a vs _ h1 h2 => exact ⟨a, vs, rfl, (fr_same S1).seq h1, q S1 _ l1 s1 x1 ok1 (src_e h1 h2)⟩
  · cases h
theorem src_z {a b : Addr} {xs ys : List V} {ds es : List PyData} (h : SqL K S.fr a xs) (r : Dds K S.fr xs ds) (h' : SqL K S.fr b ys) (r' : Dds K S.fr ys es) : Src K (Itz K a b) S (zipD ds es) := by
  have hl := Dds.length_ r
  have hl' := Dds.length_ r'
  refine ⟨fun S' e ok i hi => ?_, fun S' e ok i v hv x H' hy => ?_, fun S' e ok => ⟨xs, ys, (fr_same S').seq (e.keep.seq h), (fr_same S').seq (e.keep.seq h'), by rw [zipD_len, hl, hl']; omega⟩⟩
  · rw [zipD_len, ← hl, ← hl'] at hi
    have h1 : i < xs.length := by omega
    have h2 : i < ys.length := by omega
    exact ⟨xs, ys, xs[i], ys[i], (fr_same S').seq (e.keep.seq h), (fr_same S').seq (e.keep.seq h'), List.getElem?_eq_getElem h1, List.getElem?_eq_getElem h2⟩
  · obtain ⟨T, z, w, rfl, hT, rfl, hx, hx'⟩ := hy
    have h1 := hx xs ((fr_same S').seq (e.keep.seq h))
    have h1' := hx' ys ((fr_same S').seq (e.keep.seq h'))
    obtain ⟨d, d', h2, h2', h3⟩ := zipD_get hv
    subst h3
    obtain ⟨u, h4, h5⟩ := Dds.get_ r h2
    obtain ⟨u', h4', h5'⟩ := Dds.get_ r' h2'
    rw [h1] at h4
    rw [h1'] at h4'
    cases h4
    cases h4'
    exact pair_new ok hT (Dd.up e.keep _ _ h5) (Dd.up e.keep _ _ h5')
theorem src_zT {a b : Addr} {xs ys : List V} {ds es : List PyData} (h : SqT K S.fr a xs) (r : Dds K S.fr xs ds) (h' : SqT K S.fr b ys) (r' : Dds K S.fr ys es) : Src K (RZ.ItzT K a b) S (zipD ds es) := by
  have hl := Dds.length_ r
  have hl' := Dds.length_ r'
  refine ⟨fun S' e ok i hi => ?_, fun S' e ok i v hv x H' hy => ?_, fun S' e ok => ⟨xs, ys, same_seqT (fr_same S') (same_seqT e.keep h), same_seqT (fr_same S') (same_seqT e.keep h'), by rw [zipD_len, hl, hl']; omega⟩⟩
  · rw [zipD_len, ← hl, ← hl'] at hi
    have h1 : i < xs.length := by omega
    have h2 : i < ys.length := by omega
    exact ⟨xs, ys, xs[i], ys[i], same_seqT (fr_same S') (same_seqT e.keep h), same_seqT (fr_same S') (same_seqT e.keep h'), List.getElem?_eq_getElem h1, List.getElem?_eq_getElem h2⟩
  · obtain ⟨T, z, w, rfl, hT, rfl, hx, hx'⟩ := hy
    have h1 := hx xs (same_seqT (fr_same S') (same_seqT e.keep h))
    have h1' := hx' ys (same_seqT (fr_same S') (same_seqT e.keep h'))
    obtain ⟨d, d', h2, h2', h3⟩ := zipD_get hv
    subst h3
    obtain ⟨u, h4, h5⟩ := Dds.get_ r h2
    obtain ⟨u', h4', h5'⟩ := Dds.get_ r' h2'
    rw [h1] at h4
    rw [h1'] at h4'
    cases h4
    cases h4'
    exact pair_new ok hT (Dd.up e.keep _ _ h5) (Dd.up e.keep _ _ h5')
theorem si_zip {t : TA} {fa : AF} (ha : SA K t fa) : SI K (RZ.iZipA K t) (iZipF fa) := by
  intro S ρ σ items st' ok en h R q
  unfold iZipF at h
  split at h
  · rename_i xs ys st1 e1
    cases h
    refine ha S ρ σ _ _ ok en e1 _ fun S1 xa l1 s1 x1 ok1 r1 => ?_
    obtain ⟨v, w, rfl, hv, hw⟩ := rvs_two r1
    cases hv with
    | @lst a vs _ h1 h2 =>
      cases hw with
      | @lst b ws _ h3 h4 => exact ⟨a, b, vs, ws, rfl, .inl ⟨(fr_same S1).seq h1, (fr_same S1).seq h3, q S1 _ l1 s1 x1 ok1 (src_z h1 h2 h3 h4)⟩⟩
  · rename_i xs ys st1 e1
    cases h
    refine ha S ρ σ _ _ ok en e1 _ fun S1 xa l1 s1 x1 ok1 r1 => ?_
    obtain ⟨v, w, rfl, hv, hw⟩ := rvs_two r1
    cases hv with
    | @tup a vs _ h1 h2 =>
      cases hw with
      | @tup b ws _ h3 h4 => exact ⟨a, b, vs, ws, rfl, .inr ⟨same_seqT (fr_same S1) h1, same_seqT (fr_same S1) h3, q S1 _ l1 s1 x1 ok1 (src_zT h1 h2 h3 h4)⟩⟩
  · cases h
end
/-! ### comprehensions -/
def wipeD (ρ : Env) : List Nat → Env
  | [] => ρ
  | v :: vs => (wipeD ρ vs).set v none
def compD (t : TF) (c : BF) (e : EF) (ρ : Env) : List Vd → Sto → Option (List Vd × Sto)
  | [], st => some ([], st)
  | v :: vs, st => match t v ρ st with
    | some (ρ1, st1) => match c ρ1 st1 with
      | some (true, st2) => match e ρ1 st2 with
        | some (w, st3) => (compD t c e ρ vs st3).map fun p => (w :: p.1, p.2)
        | none => none
      | some (false, st2) => compD t c e ρ vs st2
      | none => none
    | none => none
def bYes : BF := fun _ st => some (true, st)
/-- frozen; a new cell -/
def eComp (src : IF) (t : TF) (c : BF) (e : EF) (own : List Nat) : EF := fun ρ st => match src ρ st with
  | some (items, st1) => match compD t c e (wipeD ρ own) items st1 with
    | some (ws, st2) => match datas ws with
      | some xs => if xs.length ≤ 16000000 then some (.d (.list xs), st2) else none
      | none => none
    | none => none
  | none => none
def eCompN (src : IF) (t : TF) (c : BF) (e : EF) (own : List Nat) : EF := fun ρ st => match src ρ st with
  | some (items, st1) => match compD t c e (wipeD ρ own) items st1 with
    | some (ws, st2) => if ws.length ≤ 16000000 then some (.r st2.length, st2 ++ [.lst ws]) else none
    | none => none
  | none => none
def Kps (g : TG) (vs : List Nat) : Prop := ∀ (x : V) (σ1 : L2.St) (H : Hp) (Q : L2.St → Hp → Prop), g x σ1 H Q → g x σ1 H fun σ2 H2 => wipe σ2 vs = wipe σ1 vs ∧ Q σ2 H2
def Kpss (g : TGs) (vs : List Nat) : Prop := ∀ (xs : List V) (σ1 : L2.St) (H : Hp) (Q : L2.St → Hp → Prop), g xs σ1 H Q → g xs σ1 H fun σ2 H2 => wipe σ2 vs = wipe σ1 vs ∧ Q σ2 H2
theorem wipe_set {σ : L2.St} {i : Nat} {o : Option V} : ∀ {vs : List Nat}, i ∈ vs → wipe (σ.set i o) vs = wipe σ vs
  | [], h => nomatch h
  | v :: vs, h => by
    unfold wipe
    by_cases hv : i ∈ vs
    · rw [wipe_set hv]
    · have e : i = v := by
        rcases List.mem_cons.mp h with h | h
        · exact h
        · exact absurd h hv
      subst e
      have com : ∀ {us : List Nat}, i ∉ us → wipe (σ.set i o) us = (wipe σ us).set i o := by
        intro us
        induction us with
        | nil => intro _; rfl
        | cons u us ih =>
          intro hu
          have h1 : i ≠ u := fun z => hu (by rw [z]; exact List.mem_cons_self)
          unfold wipe
          rw [ih fun z => hu (List.mem_cons_of_mem _ z), List.set_comm _ _ h1]
      rw [com hv, List.set_set]
theorem wipe_wipe (σ : L2.St) : ∀ vs : List Nat, wipe (wipe σ vs) vs = wipe σ vs := fun vs => by
  have : ∀ us : List Nat, (∀ u ∈ us, u ∈ vs) → wipe (wipe σ us) vs = wipe σ vs := by
    intro us
    induction us with
    | nil => intro _; rfl
    | cons u us ih =>
      intro h
      show wipe ((wipe σ us).set u none) vs = wipe σ vs
      rw [wipe_set (h u List.mem_cons_self), ih fun w hw => h w (List.mem_cons_of_mem _ hw)]
  exact this vs fun u hu => hu
theorem kps_nm {i : Nat} {vs : List Nat} (h : i ∈ vs) : Kps (gName i) vs := fun x σ1 H Q q => ⟨wipe_set h, q⟩
theorem kpss_nil {vs : List Nat} : Kpss gNil vs := fun xs σ1 H Q q => ⟨q.1, rfl, q.2⟩
/-- names one behind the other: by the whole row -/
theorem kpss_nm {i : Nat} {vs : List Nat} {u : TGs} (h : i ∈ vs) (hu : Kpss u vs) : Kpss (gCons (gName i) u) vs := fun xs σ1 H Q q => by
  obtain ⟨v, r, e, q⟩ := q
  refine ⟨v, r, e, ?_⟩
  have q' : u r (σ1.set i (some v)) H Q := q
  have := hu r (σ1.set i (some v)) H Q q'
  show u r (σ1.set i (some v)) H fun σ2 H2 => wipe σ2 vs = wipe σ1 vs ∧ Q σ2 H2
  rw [← wipe_set (σ := σ1) (o := some v) h]
  exact this
theorem kps_tp {K : PySem.W.Frag} {n : Nat} {vs : List Nat} {u : TGs} (hu : Kpss u vs) : Kps (gTup K n u) vs := fun x σ1 H Q q => by
  obtain ⟨a, xs, e, h1, h2, q⟩ := q
  exact ⟨a, xs, e, h1, h2, hu xs σ1 H Q q⟩
section
variable {K : PySem.W.Frag} {S : Wd}
theorem REnv.wipe {ρ : Env} {σ : L2.St} (en : REnv K S ρ σ) : ∀ vs : List Nat, REnv K S (wipeD ρ vs) (L2.wipe σ vs)
  | [] => en
  | v :: vs => by
    have ih := REnv.wipe en vs
    refine ⟨by unfold wipeD L2.wipe; rw [List.length_set, List.length_set]; exact ih.len, fun i w h => ?_⟩
    unfold wipeD at h
    have hi : i ≠ v := fun e => by
      subst e
      by_cases hv : i < (wipeD ρ vs).length
      · rw [List.getElem?_set_self hv] at h; cases h
      · rw [List.getElem?_eq_none (by simpa using hv)] at h; cases h
    rw [List.getElem?_set_ne (Ne.symm hi)] at h
    obtain ⟨x, h1, h2⟩ := ih.at_ i w h
    refine ⟨x, ?_, h2⟩
    unfold L2.wipe
    rw [List.getElem?_set_ne (Ne.symm hi)]
    exact h1
theorem RVs.append_ : ∀ {xs ys : List V} {vs ws : List Vd}, RVs K S xs vs → RVs K S ys ws → RVs K S (xs ++ ys) (vs ++ ws)
  | _, _, _, _, .nil, h => h
  | _, _, _, _, .cons a r, h => .cons a (RVs.append_ r h)
/-- what was set aside is let go -/
theorem Wd.Ok.rel {L0 : Addr → Prop} {D : Addr} (ok : S.Ok K) (hL : ∀ a, S.L a ↔ L0 a ∨ a = D) (hD : ¬ L0 D) : ({ S with L := L0 } : Wd).Ok K ∧ Same S.fr ({ S with L := L0 } : Wd).fr ∧ (∀ u, S.H D = some u → ({ S with L := L0 } : Wd).fr D = some u) := by
  have lv : ∀ a, ({ S with L := L0 } : Wd).Lv a → S.Lv a := fun a h => h.elim (fun z => .inl ((hL a).mpr (.inl z))) fun ⟨n, c, z⟩ => .inr ⟨n, c, z⟩
  have sm : Same S.fr ({ S with L := L0 } : Wd).fr := fun a o h => by
    obtain ⟨h1, h2⟩ := fr_of h
    exact fr_at (fun z => h1 (lv a z)) h2
  have rv : ∀ x v, RV K S x v → RV K { S with L := L0 } x v := fun x v h => by
    cases v with
    | t ds =>
      obtain ⟨a, vs, ob, hx, h1, h2, h3⟩ := h
      exact ⟨a, vs, ob, hx, sm _ _ h1, h2, Dds.up sm _ _ h3⟩
    | d y => exact Dd.up sm y x h
    | r n => exact h
  refine ⟨⟨ok.len, ok.inj, fun h z => ok.nL h ((hL _).mpr (.inl z)), fun a h => ok.hL a ((hL a).mpr (.inl h)), fun {n c a} h => ?_, ok.tb⟩, sm, fun u hu => fr_at (fun z => ?_) hu⟩
  · obtain ⟨o, h1, h2⟩ := ok.cell h
    refine ⟨o, h1, ?_⟩
    cases c with
    | dead => trivial
    | lst xs =>
      obtain ⟨vs, h3, h4⟩ := h2
      exact ⟨vs, h3, Paired.mapP h4 fun _ _ => rv _ _⟩
    | dic kvs =>
      obtain ⟨ks, h3, h4⟩ := h2
      exact ⟨ks, h3, Paired.mapP h4 fun _ _ z => ⟨z.1, rv _ _ z.2⟩⟩
    | dct kvs =>
      obtain ⟨ks, h3, h4⟩ := h2
      exact ⟨ks, h3, Paired.mapP h4 fun _ _ z => ⟨z.1, rv _ _ z.2⟩⟩
    | tbl P q =>
      obtain ⟨ps, h3, h4, h5⟩ := h2
      exact ⟨ps, h3, h4, fun pos cv hc => let ⟨c, e1, e2⟩ := h5 pos cv hc; ⟨c, e1, sm _ _ e2⟩⟩
  · rcases z with z | ⟨n, c, z⟩
    · exact hD z
    · exact ok.nL z ((hL D).mpr (.inr rfl))
/-- what was set aside becomes a cell -/
theorem Wd.Ok.own {L0 : Addr → Prop} {D : Addr} {o : HO} {c : Cell} (ok : S.Ok K) (hL : ∀ a, S.L a ↔ L0 a ∨ a = D) (hD : ¬ L0 D) (e : S.H D = some o) (hc : c ≠ .dead) (hr : RCell K S o c) (ht : ∀ P q, c = .tbl P q → D = P := by intro _ _ h; cases h) :
    ({ m := S.m ++ [D], L := L0, st := S.st ++ [c], H := S.H } : Wd).Ok K ∧ Same S.fr ({ m := S.m ++ [D], L := L0, st := S.st ++ [c], H := S.H } : Wd).fr := by
  generalize hS : ({ m := S.m ++ [D], L := L0, st := S.st ++ [c], H := S.H } : Wd) = S'
  have at_ : ∀ {n c' a}, S'.At n c' a ↔ S.At n c' a ∨ (n = S.st.length ∧ c' = c ∧ a = D) := fun {n c' a} => by
    have := ok.more_at (p := D) (o := o) hc (n := n) (c' := c') (a := a)
    subst hS
    exact this
  have eL : S'.L = L0 := by subst hS; rfl
  have eH : S'.H = S.H := by subst hS; rfl
  have lv : ∀ a, S'.Lv a ↔ S.Lv a := fun a => by
    constructor
    · rintro (h | ⟨n, c', h⟩)
      · exact .inl ((hL a).mpr (.inl (eL ▸ h)))
      · rcases at_.mp h with h | ⟨_, _, h⟩
        · exact .inr ⟨n, c', h⟩
        · exact .inl ((hL a).mpr (.inr h))
    · rintro (h | ⟨n, c', h⟩)
      · rcases (hL a).mp h with h | h
        · exact .inl (eL ▸ h)
        · exact .inr ⟨_, c, at_.mpr (.inr ⟨rfl, rfl, h⟩)⟩
      · exact .inr ⟨n, c', at_.mpr (.inl h)⟩
  have sm : Same S.fr S'.fr := fun a u h => by
    obtain ⟨h1, h2⟩ := fr_of h
    exact fr_at (fun z => h1 ((lv a).mp z)) (by rw [eH]; exact h2)
  have rv : ∀ x v, RV K S x v → RV K S' x v := fun x v h => by
    cases v with
    | t ds =>
      obtain ⟨a, vs, ob, hx, h1, h2, h3⟩ := h
      exact ⟨a, vs, ob, hx, sm _ _ h1, h2, Dds.up sm _ _ h3⟩
    | d y => exact Dd.up sm y x h
    | r n =>
      obtain ⟨a, h1, h2⟩ := h
      refine ⟨a, ?_, h2⟩
      subst hS
      show (S.m ++ [D])[n]? = some a
      rw [List.getElem?_append_left (List.getElem?_eq_some_iff.mp h1).1]
      exact h1
  have rc : ∀ u c', RCell K S u c' → RCell K S' u c' := fun u c' h2 => by
    cases c' with
    | dead => trivial
    | lst xs =>
      obtain ⟨vs, h3, h4⟩ := h2
      exact ⟨vs, h3, Paired.mapP h4 fun _ _ => rv _ _⟩
    | dic kvs =>
      obtain ⟨ks, h3, h4⟩ := h2
      exact ⟨ks, h3, Paired.mapP h4 fun _ _ z => ⟨z.1, rv _ _ z.2⟩⟩
    | dct kvs =>
      obtain ⟨ks, h3, h4⟩ := h2
      exact ⟨ks, h3, Paired.mapP h4 fun _ _ z => ⟨z.1, rv _ _ z.2⟩⟩
    | tbl P q =>
      obtain ⟨ps, h3, h4, h5⟩ := h2
      exact ⟨ps, h3, h4, fun pos cv hc => let ⟨c, e1, e2⟩ := h5 pos cv hc; ⟨c, e1, sm _ _ e2⟩⟩
  have lD : S.L D := (hL D).mpr (.inr rfl)
  refine ⟨⟨?_, fun {n n' c1 c2 a} h1 h2 => ?_, fun {n c' a} h z => ?_, fun a h => by rw [eH]; exact ok.hL a ((hL a).mpr (.inl (eL ▸ h))), fun {n c' a} h => ?_, fun {n P q a} h => (at_.mp h).elim ok.tb fun z => z.2.2.trans (ht P q z.2.1.symm)⟩, sm⟩
  · subst hS
    show (S.m ++ [D]).length = (S.st ++ [c]).length
    simp [ok.len]
  · rcases at_.mp h1 with h1 | ⟨e1, _, q1⟩ <;> rcases at_.mp h2 with h2 | ⟨e2, _, q2⟩
    · exact ok.inj h1 h2
    · exact absurd (q2 ▸ lD) (ok.nL h1)
    · exact absurd (q1 ▸ lD) (ok.nL h2)
    · rw [e1, e2]
  · rw [eL] at z
    rcases at_.mp h with h | ⟨_, _, q⟩
    · exact ok.nL h ((hL a).mpr (.inl z))
    · exact hD (q ▸ z)
  · rw [eH]
    rcases at_.mp h with h | ⟨_, q1, q2⟩
    · obtain ⟨u, h1, h2⟩ := ok.cell h
      exact ⟨u, h1, rc u c' h2⟩
    · rw [q1, q2]
      exact ⟨o, e, rc o c hr⟩
end
end Dl

set_option Elab.async false
set_option linter.all false
set_option maxRecDepth 100000
set_option maxHeartbeats 4000000
namespace Dl
open PySem PySem.Spec PyProof.Rows L2 Pg
section
variable {K : PySem.W.Frag} {S : Wd}
theorem sixteen : 16000000 < sizeLine := by decide
/-- the walk of a comprehension, the list at D set aside -/
theorem comp_walk {g : TG} {tf : TF} {tt : TT} {c : BF} {te : TE} {e : EF} {own : List Nat} {J : It} {S1 : Wd} {ρ : Env} {σ : L2.St} {items : List Vd} {ws : List Vd} {st2 : Sto}
    (ht : ST K g tf) (hk : Kps g own) (hc : SB K tt c) (he : SE K te e) (ok1 : S1.Ok K) (en1 : REnv K S1 ρ σ) (sr : Src K J S1 items) (h : compD tf c e (wipeD ρ own) items S1.st = some (ws, st2)) (hz : ws.length ≤ 16000000)
    {D : Addr} (hD : S1.H D = none) {Qd : Hp → Prop}
    (hq : ∀ (S2 : Wd) (acc : List V), (∀ a, S2.L a ↔ S1.L a ∨ a = D) → S2.st = st2 → Ext S1 S2 → S2.Ok K → S2.H D = some (.lst acc) → RVs K S2 acc ws → Qd S2.H) :
    ∃ W : Nat → Nat → Hp → Prop, (∃ m, W 0 m (upd S1.H D (.lst []))) ∧ ∀ i m H, W i m H →
      (J.stop i H ∧ Qd H) ∨ (J.go i H ∧ ∃ Nx : Hp → Prop, (∀ H', Nx H' → ∃ m', m' < m ∧ W (i + 1) m' H') ∧ ∀ x H', J.yld i H x H' → g x (wipe σ own) H' fun σ2 H2 => wipe σ2 own = wipe σ own ∧ tt σ2 H2 fun b H3 =>
        if b = true then te σ2 H3 fun y H4 => ∃ acc, H4 D = some (.lst acc) ∧ acc.length < sizeLine ∧ Nx (upd H4 D (.lst (acc ++ [y]))) else Nx H3) := by
  obtain ⟨xa, oka⟩ := ok1.asd hD (.lst []) (fun _ z => nomatch z)
  have en1' := en1.wipe own
  refine ⟨fun i m H => ∃ (S2 : Wd) (acc : List V) (done : List Vd) (more : List Vd), S2.H = H ∧ (∀ a, S2.L a ↔ S1.L a ∨ a = D) ∧ Ext S1 S2 ∧ S2.Ok K ∧ H D = some (.lst acc) ∧ RVs K S2 acc done ∧ done ++ more = ws ∧ i ≤ items.length ∧ m = items.length - i ∧
    compD tf c e (wipeD ρ own) (items.drop i) S2.st = some (more, st2), ⟨items.length, S1.asd D (.lst []), [], [], ws, rfl, fun a => Iff.rfl, xa, oka, upd_same, .nil, rfl, Nat.zero_le _, rfl, h⟩, ?_⟩
  rintro i m H ⟨S2, acc, done, more, rfl, hL, x2, ok2, hacc, racc, hdm, hi, hm, h2⟩
  by_cases hlt : i < items.length
  · obtain ⟨v, hv⟩ : ∃ v, items[i]? = some v := ⟨items[i], List.getElem?_eq_getElem hlt⟩
    have hd : items.drop i = v :: items.drop (i + 1) := by
      rw [List.drop_eq_getElem_cons hlt]
      rw [List.getElem?_eq_getElem hlt] at hv
      rw [Option.some.inj hv]
    rw [hd] at h2
    unfold compD at h2
    split at h2
    · rename_i ρ3 st3 e3
      refine .inr ⟨sr.go S2 x2 ok2 i hlt, fun H' => ∃ (S' : Wd) (acc : List V) (done : List Vd) (more : List Vd), S'.H = H' ∧ (∀ a, S'.L a ↔ S1.L a ∨ a = D) ∧ Ext S1 S' ∧ S'.Ok K ∧ H' D = some (.lst acc) ∧ RVs K S' acc done ∧ done ++ more = ws ∧
        compD tf c e (wipeD ρ own) (items.drop (i + 1)) S'.st = some (more, st2), fun H' hN => ?_, fun x H' hy => ?_⟩
      · obtain ⟨S', acc, done, more, e', hL', x', ok', ha', ra', hd', h'⟩ := hN
        exact ⟨items.length - (i + 1), by omega, S', acc, done, more, e', hL', x', ok', ha', ra', hd', hlt, rfl, h'⟩
      · obtain ⟨hs, hr⟩ := sr.yld S2 x2 ok2 i v hv x H' hy
        have gr := ok2.grow hs
        have x2' := x2.trans gr.1
        have ww : wipe (wipe σ own) own = wipe σ own := wipe_wipe σ own
        have kk : ∀ Q : L2.St → Hp → Prop, g x (wipe σ own) H' Q → g x (wipe σ own) H' fun σ2 H2 => wipe σ2 own = wipe σ own ∧ Q σ2 H2 := fun Q q => by
          have := hk x (wipe σ own) H' Q q
          rw [ww] at this
          exact this
        refine kk _ (ht { S2 with H := H' } (wipeD ρ own) (wipe σ own) x v ρ3 st3 gr.2 (en1'.up x2') hr e3 _ fun S3 σ3 l3 s3 x3 ok3 en3 => ?_)
        subst s3
        have x3' := x2'.trans x3
        split at h2
        · rename_i st4 e4
          split at h2
          · rename_i w st5 e5
            obtain ⟨⟨ws', s'⟩, h3, h4⟩ := Option.map_eq_some_iff.mp h2
            cases h4
            refine hc S3 ρ3 σ3 _ _ ok3 en3 e4 _ fun S4 l4 s4 x4 ok4 => ?_
            subst s4
            show te σ3 S4.H _
            refine he S4 ρ3 σ3 _ _ ok4 (en3.up x4) e5 _ fun S5 y l5 s5 x5 ok5 r5 => ?_
            subst s5
            have lD2 : S2.L D := (hL D).mpr (.inr rfl)
            have gD : S2.H D = ({ S2 with H := H' } : Wd).H D := by
              obtain ⟨_, q⟩ := gr.1.lL D lD2
              exact q.symm
            have l3D : S3.L D := by rw [l3]; exact lD2
            have l4D : S4.L D := by rw [l4]; exact l3D
            have e34 : S3.H D = S2.H D := by
              obtain ⟨_, q⟩ := x3.lL D lD2
              rw [q]
              exact gD.symm
            have e45 : S5.H D = some (.lst acc) := by
              obtain ⟨_, q1⟩ := x4.lL D l3D
              obtain ⟨_, q2⟩ := x5.lL D l4D
              rw [q2, q1, e34]
              exact hacc
            have l5D : S5.L D := by rw [l5]; exact l4D
            have up25 := (gr.1.trans x3).trans (x4.trans x5)
            have racc5 := RVs.up up25 racc
            have dl : done.length + (ws'.length + 1) ≤ 16000000 := by
              have := congrArg List.length hdm
              simp only [List.length_append, List.length_cons] at this
              omega
            refine ⟨acc, e45, ?_, ?_⟩
            · rw [RVs.len racc]
              have := sixteen
              omega
            · obtain ⟨w1, w2⟩ := ok5.wr l5D (.lst (acc ++ [y])) (fun _ z => nomatch z)
              have rvw : ∀ x v, RV K S5 x v → RV K (S5.put D (.lst (acc ++ [y]))) x v := fun x v hh => by
                cases v with
                | d z => exact Dd.up (fun b u hb => by rw [← w1]; exact hb) z x hh
                | r n => exact hh
                | t ds =>
                  obtain ⟨a, vs, ob, hx, h1, h2, h3⟩ := hh
                  exact ⟨a, vs, ob, hx, by rw [← w1]; exact h1, h2, Dds.up (fun b u hb => by rw [← w1]; exact hb) _ _ h3⟩
              refine ⟨S5.put D (.lst (acc ++ [y])), acc ++ [y], done ++ [w], ws', rfl, fun a => ?_, ?_, w2, upd_same, Paired.mapP (RVs.append_ racc5 (.cons r5 .nil)) fun _ _ => rvw _ _, by rw [List.append_assoc]; exact hdm, h3⟩
              · show S5.L a ↔ _
                rw [l5, l4, l3]
                exact hL a
              · have xx := x3'.trans (x4.trans x5)
                refine ⟨xx.pre, fun b u hb => by rw [← w1]; exact xx.keep b u hb, fun a ha => ⟨(xx.lL a ha).1, ?_⟩⟩
                have na : a ≠ D := fun z => by
                  obtain ⟨u, hu, _⟩ := ok1.hL a ha
                  rw [z, hD] at hu
                  cases hu
                show upd S5.H D _ a = S1.H a
                rw [upd_ne na]
                exact (xx.lL a ha).2
          · cases h2
        · rename_i st4 e4
          refine hc S3 ρ3 σ3 _ _ ok3 en3 e4 _ fun S4 l4 s4 x4 ok4 => ?_
          subst s4
          show ∃ _, _
          have lD2 : S2.L D := (hL D).mpr (.inr rfl)
          have l3D : S3.L D := by rw [l3]; exact lD2
          have e4D : S4.H D = some (.lst acc) := by
            obtain ⟨_, q0⟩ := gr.1.lL D lD2
            obtain ⟨_, q1⟩ := x3.lL D lD2
            obtain ⟨_, q2⟩ := x4.lL D l3D
            rw [q2, q1]
            exact (show _ = S2.H D from q0).trans hacc
          exact ⟨S4, acc, done, more, rfl, fun a => by rw [l4, l3]; exact hL a, x3'.trans x4, ok4, e4D, RVs.up ((gr.1.trans x3).trans x4) racc, hdm, h2⟩
        · cases h2
    · cases h2
  · have ei : i = items.length := by omega
    subst ei
    rw [List.drop_length] at h2
    cases h2
    rw [List.append_nil] at hdm
    subst hdm
    exact .inl ⟨sr.stop S2 x2 ok2, hq S2 acc hL rfl x2 ok2 hacc racc⟩
theorem se_comp {wi : TI} {src : IF} {g : TG} {tf : TF} {tt : TT} {c : BF} {te : TE} {e : EF} {own : List Nat} (hi : SI K wi src) (ht : ST K g tf) (hk : Kps g own) (hc : SB K tt c) (he : SE K te e) : SE K (tLc wi g tt te own) (eComp src tf c e own) := by
  intro S ρ σ v st' ok en h Q q
  unfold eComp at h
  split at h
  · rename_i items st1 e1
    split at h
    · rename_i ws st2 e2
      split at h
      · rename_i xs e3
        split at h
        · rename_i hz
          cases h
          refine hi S ρ σ items st1 ok en e1 _ fun S1 J l1 s1 x1 ok1 sr => ?_
          subst s1
          have hl : ws.length = xs.length := by
            have : ∀ {ws : List Vd} {xs : List PyData}, datas ws = some xs → ws.length = xs.length := by
              intro ws
              induction ws with
              | nil => intro xs e; cases e; rfl
              | cons w ws ih =>
                intro xs e
                cases w with
                | d z =>
                  unfold datas at e
                  obtain ⟨ys, h1, h2⟩ := Option.map_eq_some_iff.mp e
                  subst h2
                  simp [ih h1]
                | r n => cases e
                | t ds => cases e
            exact this e3
          intro D hD
          refine comp_walk ht hk hc he ok1 (en.up x1) sr e2 (by omega) hD fun S2 acc hL s2 x2 ok2 hacc racc => ?_
          have nD : ¬ S1.L D := fun z => by
            obtain ⟨u, hu, _⟩ := ok1.hL D z
            rw [hD] at hu
            cases hu
          obtain ⟨k1, k2, k3⟩ := ok2.rel hL nD
          have dd := datas_ok racc e3
          refine q { S2 with L := S1.L } (.ref D) l1 s2 (x1.trans ⟨x2.pre, x2.keep.trans k2, fun a ha => ⟨ha, (x2.lL a ha).2⟩⟩) k1 ?_
          exact .lst (SqL.of (k3 _ hacc)) (Dds.up k2 _ _ dd)
        · cases h
      · cases h
    · cases h
  · cases h
theorem se_compN {wi : TI} {src : IF} {g : TG} {tf : TF} {tt : TT} {c : BF} {te : TE} {e : EF} {own : List Nat} (hi : SI K wi src) (ht : ST K g tf) (hk : Kps g own) (hc : SB K tt c) (he : SE K te e) : SE K (tLc wi g tt te own) (eCompN src tf c e own) := by
  intro S ρ σ v st' ok en h Q q
  unfold eCompN at h
  split at h
  · rename_i items st1 e1
    split at h
    · rename_i ws st2 e2
      split at h
      · rename_i hz
        cases h
        refine hi S ρ σ items st1 ok en e1 _ fun S1 J l1 s1 x1 ok1 sr => ?_
        subst s1
        intro D hD
        refine comp_walk ht hk hc he ok1 (en.up x1) sr e2 hz hD fun S2 acc hL s2 x2 ok2 hacc racc => ?_
        have nD : ¬ S1.L D := fun z => by
          obtain ⟨u, hu, _⟩ := ok1.hL D z
          rw [hD] at hu
          cases hu
        obtain ⟨k1, k2⟩ := ok2.own (c := .lst ws) (o := .lst acc) hL nD hacc (fun z => nomatch z) ⟨acc, rfl, racc⟩
        refine q { m := S2.m ++ [D], L := S1.L, st := S2.st ++ [.lst ws], H := S2.H } (.ref D) l1 (by rw [s2]) (x1.trans ⟨fun n a hn => ?_, x2.keep.trans k2, fun a ha => ⟨ha, (x2.lL a ha).2⟩⟩) k1 ⟨D, ?_, rfl⟩
        · show (S2.m ++ [D])[n]? = some a
          have := x2.pre n a hn
          rw [List.getElem?_append_left (List.getElem?_eq_some_iff.mp this).1]
          exact this
        · show (S2.m ++ [D])[st2.length]? = some D
          rw [← s2, ← ok2.len]
          simp
      · cases h
    · cases h
  · cases h
/-! ### methods that change a list -/
/-- xs.append(v) -/
def eApp (a b : EF) : EF := fun ρ st => match a ρ st with
  | some (.r n, st1) => match st1[n]? with
    | some (.lst _) => match b ρ st1 with
      | some (v, st2) => match st2[n]? with
        | some (.lst xs) => if xs.length < 16000000 then some (.d .none, st2.set n (.lst (xs ++ [v]))) else none
        | _ => none
      | none => none
    | _ => none
  | _ => none
/-- xs.insert(i, v) -/
def eIns (a b c : EF) : EF := fun ρ st => match a ρ st with
  | some (.r n, st1) => match st1[n]? with
    | some (.lst _) => match b ρ st1 with
      | some (.d (.int i), st2) => match c ρ st2 with
        | some (v, st3) => match st3[n]? with
          | some (.lst xs) => if xs.length < 16000000 ∧ 0 ≤ i ∧ i < 2 ^ 63 then some (.d .none, st3.set n (.lst (xs.take i.toNat ++ [v] ++ xs.drop i.toNat))) else none
          | _ => none
        | none => none
      | _ => none
    | _ => none
  | _ => none
theorem RVs.take_ : ∀ {xs : List V} {vs : List Vd} (n : Nat), RVs K S xs vs → RVs K S (xs.take n) (vs.take n)
  | _, _, 0, _ => .nil
  | _, _, _ + 1, .nil => .nil
  | _, _, n + 1, .cons a r => .cons a (RVs.take_ n r)
theorem RVs.drop_ : ∀ {xs : List V} {vs : List Vd} (n : Nat), RVs K S xs vs → RVs K S (xs.drop n) (vs.drop n)
  | _, _, 0, r => r
  | _, _, _ + 1, .nil => .nil
  | _, _, n + 1, .cons _ r => RVs.drop_ n r
def rIns : V → List V → Hp → VK → Prop := fun x vs H Q => ∃ (l : Addr) (xs : List V) (i : Int) (y : V), x = .ref l ∧ vs = [.int i, y] ∧ H l = some (.lst xs) ∧ xs.length < sizeLine ∧ 0 ≤ i ∧ i < 2 ^ 63 ∧ Q .non (upd H l (.lst (xs.take i.toNat ++ [y] ++ xs.drop i.toNat)))
theorem ty_cell {n : Nat} {x : V} {S1 : Wd} {ys : List Vd} (ok1 : S1.Ok K) (r : RV K S1 x (.r n)) (e : S1.st[n]? = some (.lst ys)) : tyV K "list" x S1.H := by
  obtain ⟨a, o, h1, h2, vs, h3, h4⟩ := look_at ok1 e (fun z => nomatch z)
  subst h3
  rw [r.ref_at h1]
  exact .inl ⟨rfl, vs, SqL.of h2⟩
theorem se_app {ta tb : TE} {fa fb : EF} (ha : SE K ta fa) (hb : SE K tb fb) : SE K (tBM K "list" rAppend ta (tCons tb tNil)) (eApp fa fb) := by
  intro S ρ σ v st' ok en h Q q
  unfold eApp at h
  split at h
  · rename_i n st1 e1
    split at h
    · rename_i zs e0
      split at h
      · rename_i w st2 e2
        split at h
        · rename_i xs e3
          split at h
          · rename_i hz
            cases h
            refine ha S ρ σ _ _ ok en e1 _ fun S1 xa l1 s1 x1 ok1 r1 => ?_
            subst s1
            refine ⟨ty_cell ok1 r1 e0, hb S1 ρ σ _ _ ok1 (en.up x1) e2 _ fun S2 xb l2 s2 x2 ok2 r2 => ?_⟩
            subst s2
            obtain ⟨a, o, h1, h2, vs, h3, h4⟩ := look_at ok2 e3 (fun z => nomatch z)
            subst h3
            have ea := (r1.up x2).ref_at h1
            subst ea
            obtain ⟨g1, g2⟩ := ok2.chg (c := .lst (xs ++ [w])) (o := .lst (vs ++ [xb])) h1 (fun z => nomatch z) ⟨_, rfl, RVs.append_ h4 (.cons r2 .nil)⟩
            exact ⟨a, vs, xb, rfl, rfl, h2, by rw [RVs.len h4]; have := sixteen; omega, q (S2.chg n a _ _) _ (l2.trans l1) rfl ((x1.trans x2).trans g1) g2 Dd.non⟩
          · cases h
        · cases h
      · cases h
    · cases h
  · cases h
theorem se_ins {ta tb tc : TE} {fa fb fc : EF} (ha : SE K ta fa) (hb : SE K tb fb) (hc : SE K tc fc) : SE K (tBM K "list" rIns ta (tCons tb (tCons tc tNil))) (eIns fa fb fc) := by
  intro S ρ σ v st' ok en h Q q
  unfold eIns at h
  split at h
  · rename_i n st1 e1
    split at h
    · rename_i zs e0
      split at h
      · rename_i i st2 e2
        split at h
        · rename_i w st3 e4
          split at h
          · rename_i xs e3
            split at h
            · rename_i hz
              cases h
              refine ha S ρ σ _ _ ok en e1 _ fun S1 xa l1 s1 x1 ok1 r1 => ?_
              subst s1
              refine ⟨ty_cell ok1 r1 e0, hb S1 ρ σ _ _ ok1 (en.up x1) e2 _ fun S2 xb l2 s2 x2 ok2 r2 => ?_⟩
              subst s2
              have r2' : Dd K S2.fr xb (.int i) := r2
              cases r2'
              refine hc S2 ρ σ _ _ ok2 (en.up (x1.trans x2)) e4 _ fun S3 xc l3 s3 x3 ok3 r3 => ?_
              subst s3
              obtain ⟨a, o, h1, h2, vs, h3, h4⟩ := look_at ok3 e3 (fun z => nomatch z)
              subst h3
              have ea := (r1.up (x2.trans x3)).ref_at h1
              subst ea
              obtain ⟨g1, g2⟩ := ok3.chg (c := .lst (xs.take i.toNat ++ [w] ++ xs.drop i.toNat)) (o := .lst (vs.take i.toNat ++ [xc] ++ vs.drop i.toNat)) h1 (fun z => nomatch z) ⟨_, rfl, RVs.append_ (RVs.append_ (RVs.take_ _ h4) (.cons r3 .nil)) (RVs.drop_ _ h4)⟩
              exact ⟨a, vs, i, xc, rfl, rfl, h2, by rw [RVs.len h4]; have := sixteen; omega, hz.2.1, hz.2.2, q (S3.chg n a _ _) _ (l3.trans (l2.trans l1)) rfl ((x1.trans (x2.trans x3)).trans g1) g2 Dd.non⟩
            · cases h
          · cases h
        · cases h
      · cases h
    · cases h
  · cases h
end
end Dl

set_option Elab.async false
set_option linter.all false
set_option maxRecDepth 100000
set_option maxHeartbeats 4000000
namespace Dl
open PySem PySem.Spec PyProof.Rows L2 Pg
/-! ### the text and its meaning on data, together -/
structure QE (K : PySem.W.Frag) (X : Cx) (e : Expr) (te : TE) (f : EF) : Prop where
  pe : PE X e te
  se : SE K te f
structure QB (K : PySem.W.Frag) (X : Cx) (e : Expr) (tt : TT) (f : BF) : Prop where
  pt : PT X e tt
  sb : SB K tt f
structure QW (K : PySem.W.Frag) (X : Cx) (e : Expr) (tt : TT) (f : BF) : Prop where
  pw : PW X e tt
  sb : SB K tt f
structure QA (K : PySem.W.Frag) (X : Cx) (es : List Expr) (ta : TA) (f : AF) : Prop where
  pa : PA X es ta
  sa : SA K ta f
structure QT (K : PySem.W.Frag) (X : Cx) (es : List Expr) (tt : TT) (f : BF) : Prop where
  pt : PTs X es tt
  sb : SB K tt f
structure QG (K : PySem.W.Frag) (X : Cx) (tg : Expr) (g : TG) (t : TF) : Prop where
  pg : PG X tg g
  st : ST K g t
structure QGs (K : PySem.W.Frag) (X : Cx) (tg : List Expr) (g : TGs) (t : TFs) : Prop where
  pg : PGs X tg g
  st : STs K g t
structure QI (K : PySem.W.Frag) (X : Cx) (tg it : Expr) (wi : TI) (f : IF) : Prop where
  pi : PI X tg it wi
  si : SI K wi f
structure QO (K : PySem.W.Frag) (X : Cx) (e : Option Expr) (to : TO) (f : OF) : Prop where
  po : PO X e to
  so : SOp K to f
structure QS (K : PySem.W.Frag) (X : Cx) (st : Stmt) (ts : TS) (f : SF) : Prop where
  ps : PS X st ts
  ss : SS K ts f
structure QSs (K : PySem.W.Frag) (X : Cx) (st : List Stmt) (ts : TS) (f : SF) : Prop where
  ps : PSs X st ts
  ss : SS K ts f
section
variable {K : PySem.W.Frag} {X : Cx} {a b c e : Expr} {es rest : List Expr} {ta tb te tc : TE} {fa fb fc f : EF} {pos : Pos} {t : TA} {r : AF} {x : Str} {p : Pos}
theorem q_var (i : Nat) (h : PE X e (tVar i)) : QE K X e (tVar i) (eVar i) := ⟨h, se_var⟩
theorem q_int {i j} : QE K X (.Constant (.int i) j pos) (tC (.int i)) (eC (.int i)) := ⟨pe_int, se_c fun _ => .int i⟩
theorem q_bl {i j} : QE K X (.Constant (.bool i) j pos) (tC (.bl i)) (eC (.bool i)) := ⟨pe_bl, se_c fun _ => .bl i⟩
theorem q_non {j} : QE K X (.Constant .none j pos) (tC .non) (eC .none) := ⟨pe_non, se_c fun _ => .non⟩
theorem q_str {s : Str} {j} : QE K X (.Constant (.str s) j pos) (tC (.str s)) (eC (.str s)) := ⟨pe_str, se_c fun _ => .str s⟩
theorem q_fz (h : QE K X e te f) : QE K X e te (eFz f) := ⟨h.pe, se_fz h.se⟩
theorem q_op {op : Operator} {r : R2} {g : PyData → PyData → Option PyData} (hs : SO K r g) (ho : OpR X (binaryOp op) r) (ha : QE K X a ta fa) (hb : QE K X b tb fb) : QE K X (.BinOp a op b pos) (tOp r ta tb) (eOp g fa fb) :=
  ⟨pe_op ho ha.pe hb.pe, se_op hs ha.se hb.se⟩
theorem q_cmp {op : CmpOp} {r : R2} {g : PyData → PyData → Option PyData} (hs : SO K r g) (ho : OpR X (compareOp op) r) (ha : QE K X a ta fa) (hb : QE K X b tb fb) (hm : behindInMarks op b = false) : QE K X (.Compare a [op] [b] pos) (tOp r ta tb) (eOp g fa fb) :=
  ⟨pe_cmpR ho ha.pe hb.pe hm, se_op hs ha.se hb.se⟩
theorem qb_cmp {op : CmpOp} {r : R2} {g : PyData → PyData → Option PyData} (hs : SO K r g) (ho : OpR X (compareOp op) r) (ha : QE K X a ta fa) (hb : QE K X b tb fb) (hm : behindInMarks op b = false) : QB K X (.Compare a [op] [b] pos) (tTest (tOp r ta tb)) (bVal (eOp g fa fb)) :=
  ⟨pt_cmpR ho ha.pe hb.pe hm, sb_test (se_op hs ha.se hb.se)⟩
theorem qb_tru (hK : X.K = K) (ha : QE K X a ta fa) (he : ∀ whole, isTrue a X.env whole = (do let v ← whole; standAt a.pos; holding [v] (truthy v))) : QB K X a (fun σ H Q => ta σ H fun x H' => ∃ k, TruV K x H' k ∧ Q k H') (bTru fa) := by
  subst hK
  exact ⟨pt_truth ha.pe he, sb_tru ha.se⟩
theorem qb_not {tA : TT} {ba : BF} (ha : QB K X a tA ba) : QB K X (.UnaryOp .Not a pos) (tNot tA) (bNot ba) := ⟨pt_not ha.pt, sb_not ha.sb⟩
theorem qw_and1 {tA : TT} {ba : BF} (ha : QB K X a tA ba) : QW K X (.BoolOp .And [a] pos) tA ba := ⟨pw_and1 ha.pt, ha.sb⟩
theorem qw_or1 {tA : TT} {ba : BF} (ha : QB K X a tA ba) : QW K X (.BoolOp .Or [a] pos) tA ba := ⟨pw_or1 ha.pt, ha.sb⟩
theorem qw_and {tA tB' : TT} {ba bb : BF} (ha : QB K X a tA ba) (hb : QW K X (.BoolOp .And (b :: rest) pos) tB' bb) : QW K X (.BoolOp .And (a :: b :: rest) pos) (tAnd tA tB') (bAnd ba bb) := ⟨pw_and ha.pt hb.pw, sb_and ha.sb hb.sb⟩
theorem qw_or {tA tB' : TT} {ba bb : BF} (ha : QB K X a tA ba) (hb : QW K X (.BoolOp .Or (b :: rest) pos) tB' bb) : QW K X (.BoolOp .Or (a :: b :: rest) pos) (tOr tA tB') (bOr ba bb) := ⟨pw_or ha.pt hb.pw, sb_or ha.sb hb.sb⟩
theorem qb_w {tA : TT} {ba : BF} (ha : QW K X a tA ba) : QB K X a tA ba := ⟨ha.pw.pt, ha.sb⟩
theorem q_and (hK : X.K = K) (ha : QE K X a ta fa) (hb : QE K X (.BoolOp .And (b :: rest) pos) tb fb) : QE K X (.BoolOp .And (a :: b :: rest) pos) (tAndT K ta tb) (eAnd fa fb) := by
  subst hK
  exact ⟨pe_andT ha.pe hb.pe, se_and ha.se hb.se⟩
theorem q_or (hK : X.K = K) (ha : QE K X a ta fa) (hb : QE K X (.BoolOp .Or (b :: rest) pos) tb fb) : QE K X (.BoolOp .Or (a :: b :: rest) pos) (tOrT K ta tb) (eOr fa fb) := by
  subst hK
  exact ⟨pe_orT ha.pe hb.pe, se_or ha.se hb.se⟩
theorem q_one {op} (ha : QE K X a ta fa) : QE K X (.BoolOp op [a] pos) ta fa := ⟨pe_one ha.pe, ha.se⟩
theorem q_not (hK : X.K = K) (ha : QE K X a ta fa) : QE K X (.UnaryOp .Not a pos) (tNotT K ta) (eNot fa) := by
  subst hK
  exact ⟨pe_notT ha.pe, se_not ha.se⟩
theorem q_if {tt : TT} {bc : BF} (hc : QB K X c tt bc) (ha : QE K X a ta fa) (hb : QE K X b tb fb) : QE K X (.IfExp c a b pos) (tIf tt ta tb) (eIf bc fa fb) := ⟨pe_ifExp hc.pt ha.pe hb.pe, se_if hc.sb ha.se hb.se⟩
theorem qa_nil : QA K X [] tNil aNil := ⟨pa_nil, sa_nil⟩
theorem qa_cons (ha : QE K X e te f) (hr : QA K X es t r) (hs : starEach (e :: es) X.env = (false, eval e X.env) :: starEach es X.env) : QA K X (e :: es) (tCons te t) (aCons f r) := ⟨pa_cons ha.pe hr.pa hs, sa_cons ha.se hr.sa⟩
theorem q_tup {x1} (h : QA K X es t r) : QE K X (.Tuple es x1 pos) (tTup t) (eTup r) := ⟨pe_tup h.pa, se_tup h.sa⟩
theorem q_lst (h : QA K X es t r) : QE K X (.List es pos) (tLst t) (eLst r) := ⟨pe_lst h.pa, se_lst h.sa⟩
theorem q_lstN (h : QA K X es t r) : QE K X (.List es pos) (tLst t) (eLstN r) := ⟨pe_lst h.pa, se_lstN h.sa⟩
theorem q_ix (hK : X.K = K) (ha : QE K X a ta fa) (hb : QE K X b tb fb) (hs : PlainIx b) : QE K X (.Subscript a b pos) (tOp (rIx K) ta tb) (eOp gIx fa fb) := by
  subst hK
  exact ⟨pe_ix ix_seq ha.pe hb.pe hs, se_op so_ix ha.se hb.se⟩
theorem q_ixC (hK : X.K = K) (ha : QE K X a ta fa) (hb : QE K X b tb fb) (hs : PlainIx b) : QE K X (.Subscript a b pos) (tOp (rIx K) ta tb) (eIxC fa fb) := by
  subst hK
  exact ⟨pe_ix ix_seq ha.pe hb.pe hs, se_ixC ha.se hb.se⟩
theorem qo_none : QO K X none tNoPart oNo := ⟨po_none, sop_no⟩
theorem qo_some (h : QE K X e te f) : QO K X (some e) (tPart te) (oSome f) := ⟨po_some h.pe, sop_some h.se⟩
theorem q_sl {lo hi : Option Expr} {tl th : TO} {fl fh : OF} {p2 : Pos} (hK : X.K = K) (he : QE K X e te f) (hl : QO K X lo tl fl) (hu : QO K X hi th fh) : QE K X (.Subscript e (.Slice lo hi none p2) pos) (tSl (rSlD K) te tl th) (eSl f fl fh) := by
  subst hK
  exact ⟨pe_slice sl_D he.pe hl.po hu.po, se_sl he.se hl.so hu.so⟩
theorem q_cb {id : String} {rr : List V → Hp → VK → Prop} {g : List PyData → Option PyData} (hs : SC K rr g) (hc : CallR X (.builtin id) rr) (hm : X.mg x = none) (hv : bootBuiltins x = some (.builtin id)) (ha : QA K X (e :: es) t r) (hg : Gl X x)
    (hn : x ≠ "__name__") (hdb : (x == ("__debug__" : Str)) = false) (he : starEach (e :: es) X.env = (false, eval e X.env) :: starEach es X.env) (hpl : (backTo pos (starEach es X.env)).any (·.1) = false) :
    QE K X (.Call (.Name x p) (e :: es) [] pos) (tCB rr t) (eCB g r) := ⟨pe_callB hc hg hm hv ha.pa hn hdb he hpl, se_cb hs ha.sa⟩
theorem q_ty {T : String} {rr : List V → Hp → VK → Prop} {g : List PyData → Option PyData} (hs : SC K rr g) (hc : CallR X (.type T) rr) (hm : X.mg x = none) (hv : bootBuiltins x = some (.type T)) (ha : QA K X (e :: es) t r) (hg : Gl X x)
    (hn : x ≠ "__name__") (hdb : (x == ("__debug__" : Str)) = false) (he : starEach (e :: es) X.env = (false, eval e X.env) :: starEach es X.env) (hpl : (backTo pos (starEach es X.env)).any (·.1) = false) :
    QE K X (.Call (.Name x p) (e :: es) [] pos) (tCB rr t) (eCB g r) := ⟨pe_callTy hc hg hm hv ha.pa hn hdb he hpl, se_cb hs ha.sa⟩
theorem q_is {k : Kq} {xi : Str} {p2 : Pos} (hK : X.K = K) (hmi : X.mg "isinstance" = none) (hmt : X.mg xi = none) (hv : bootBuiltins xi = some (.type k.nm)) (ha : QE K X e te f) (hg : Gl X "isinstance") (hgt : Gl X xi)
    (hn : xi ≠ "__name__") (hd : (xi == ("__debug__" : Str)) = false)
    (h1 : starEach [e, .Name xi p2] X.env = (false, eval e X.env) :: starEach [.Name xi p2] X.env) (h2 : starEach [.Name xi p2] X.env = (false, eval (.Name xi p2) X.env) :: starEach [] X.env) (hpl : (backTo pos (starEach [.Name xi p2] X.env)).any (·.1) = false)
    (hb : bootBuiltins "isinstance" = some (.builtin "isinstance")) :
    QE K X (.Call (.Name "isinstance" p) [e, .Name xi p2] [] pos) (tCB (rIsD K k) (tCons te (tCons (tC (.ty k.nm)) tNil))) (eIs k f) := by
  subst hK
  exact ⟨pe_callB call_isD hg hmi hb (pa_cons ha.pe (pa_cons (pe_bltn hgt hmt hv rfl hn hd) pa_nil h2) h1) (by decide) (by decide) h1 hpl, se_is ha.se⟩
/-! defs that are called -/
structure Df (K : PySem.W.Frag) (mg : Str → Option Value) (x : Str) (ps : List Str) (st : Stmt) (f : Addr) (fd : FuncData) : Prop where
  fn : Fun K x x st f fd
  bd : Binds K fd ps []
  at_ : mg x = some (.ref f)
def Cal (P : Program) (w : World) (K : PySem.W.Frag) (mg : Str → Option Value) (base : Heap) (k : Nat) (x : Str) (ps : List Str) (F : FF) : Prop :=
  ∃ f fd, FnG P w K mg base k f fd ps (spD K ps.length F) ∧ Binds K fd ps [] ∧ mg x = some (.ref f) ∧ PySem.W.keepIn K (.ref f) = true
theorem q_call {k : Nat} {ps : List Str} {F : FF} (C : Cal X.prog X.w K X.mg X.base k x ps F) (hK : X.K = K) (hg : X.A.guards = some []) (hr : Room k X.A) (ha : QA K X (e :: es) t r) (gl : Gl X x) (hdb : (x == ("__debug__" : Str)) = false)
    (he : starEach (e :: es) X.env = (false, eval e X.env) :: starEach es X.env) (hpl : (backTo pos (starEach es X.env)).any (·.1) = false) :
    QE K X (.Call (.Name x p) (e :: es) [] pos) (tCall (spD K ps.length F) [] E0 t) (eCall ps.length F r) := by
  subst hK
  obtain ⟨f, fd, h1, h2, h3, h4⟩ := C
  exact ⟨callG h1 hg hr gl h3 h4 h2 ha.pa hdb he hpl, se_call ha.sa⟩
/-! methods of cells -/
theorem q_app {o : Expr} {to : TE} {fo : EF} {apos cpos : Pos} (hK : X.K = K) (ho : QE K X o to fo) (hb : QE K X b tb fb)
    (hbase : attributeBase o "append" X.env (eval o X.env) = eval o X.env)
    (hfew : ((backTo cpos (starEach [b] X.env)).all (fun x => !x.1) && (backToKw cpos (keywordEach [] X.env)).all (fun x => x.1.isSome)
      && decide ([b].length + ([] : List Keyword).length + (if ([] : List Keyword).isEmpty then 0 else 1) < 30)) = true)
    (hline : (apos.endLine == cpos.line) = true) (hs : starEach [b] X.env = (false, eval b X.env) :: starEach [] X.env) (hplain : (backTo cpos (starEach [] X.env)).any (·.1) = false) :
    QE K X (.Call (.Attribute o "append" apos) [b] [] cpos) (tBM K "list" rAppend to (tCons tb tNil)) (eApp fo fb) := by
  subst hK
  exact ⟨pe_bm PySem.F.plainAttrs_list PySem.F.slot_list_append PySem.F.type_list_append mt_append ho.pe (pa_cons hb.pe pa_nil hs) hbase hfew hline hs hplain, se_app ho.se hb.se⟩
theorem q_ins {o : Expr} {to : TE} {fo : EF} {apos cpos : Pos} (hK : X.K = K) (ho : QE K X o to fo) (hb : QE K X b tb fb) (hc : QE K X c tc fc)
    (hbase : attributeBase o "insert" X.env (eval o X.env) = eval o X.env)
    (hfew : ((backTo cpos (starEach [b, c] X.env)).all (fun x => !x.1) && (backToKw cpos (keywordEach [] X.env)).all (fun x => x.1.isSome)
      && decide ([b, c].length + ([] : List Keyword).length + (if ([] : List Keyword).isEmpty then 0 else 1) < 30)) = true)
    (hline : (apos.endLine == cpos.line) = true) (hs : starEach [b, c] X.env = (false, eval b X.env) :: starEach [c] X.env) (hs2 : starEach [c] X.env = (false, eval c X.env) :: starEach [] X.env) (hplain : (backTo cpos (starEach [c] X.env)).any (·.1) = false) :
    QE K X (.Call (.Attribute o "insert" apos) [b, c] [] cpos) (tBM K "list" rIns to (tCons tb (tCons tc tNil))) (eIns fo fb fc) := by
  subst hK
  exact ⟨pe_bm PySem.F.plainAttrs_list PySem.F.slot_list_insert PySem.F.type_list_insert mt_insert ho.pe (pa_cons hb.pe (pa_cons hc.pe pa_nil hs2) hs) hbase hfew hline hs hplain, se_ins ho.se hb.se hc.se⟩
/-! comprehensions -/
theorem qt_nil : QT K X [] tYes bYes := ⟨pts_nil, fun S ρ σ b st' ok en h Q q => by
  cases h
  exact q S rfl rfl (Ext.refl S) ok⟩
theorem qt_one {tt : TT} {f : BF} (h : QB K X c tt f) : QT K X [c] tt f := ⟨pts_one h.pt, h.sb⟩
theorem q_comp {elt tg iter : Expr} {ifs : List Expr} {scope : Scope} {own : List (Str × Nat)} {wi : TI} {src : IF} {g : TG} {tf : TF} {tt : TT} {bc : BF} (hc : X.calm = true) (hN : X.N.Nodup) (hi : QI K X tg iter wi src) (ok : BlkOk X.N X.env.scope scope own)
    (hk : Kps g (own.map (·.2))) (hg : ∀ (s : Shared) (H : Hp) (C : Addr) (cl : List (Str × Addr)) (fp : List Addr), QG K (X.blk s H scope (compEnvC scope cl C X.env) fp) tg g tf)
    (ht : ∀ (s : Shared) (H : Hp) (C : Addr) (cl : List (Str × Addr)) (fp : List Addr), QT K (X.blk s H scope (compEnvC scope cl C X.env) fp) ifs tt bc)
    (he : ∀ (s : Shared) (H : Hp) (C : Addr) (cl : List (Str × Addr)) (fp : List Addr), QE K (X.blk s H scope (compEnvC scope cl C X.env) fp) elt te f) (hs : ∀ x, foldedSetIterable iter X.env x = pure x) :
    QE K X (.ListComp elt [⟨tg, iter, ifs, 0⟩] scope pos) (tLc wi g tt te (own.map (·.2))) (eComp src tf bc f (own.map (·.2))) := by
  have d1 : ST K g tf := (hg {} (fun _ => none) 0 [] []).st
  have d2 : SB K tt bc := (ht {} (fun _ => none) 0 [] []).sb
  have d3 : SE K te f := (he {} (fun _ => none) 0 [] []).se
  exact ⟨pe_lc hc hN hi.pi ok (fun s H C cl fp => (hg s H C cl fp).pg) (fun s H C cl fp => (ht s H C cl fp).pt) (fun s H C cl fp => (he s H C cl fp).pe) hs, se_comp hi.si d1 hk d2 d3⟩
theorem q_compN {elt tg iter : Expr} {ifs : List Expr} {scope : Scope} {own : List (Str × Nat)} {wi : TI} {src : IF} {g : TG} {tf : TF} {tt : TT} {bc : BF} (hc : X.calm = true) (hN : X.N.Nodup) (hi : QI K X tg iter wi src) (ok : BlkOk X.N X.env.scope scope own)
    (hk : Kps g (own.map (·.2))) (hg : ∀ (s : Shared) (H : Hp) (C : Addr) (cl : List (Str × Addr)) (fp : List Addr), QG K (X.blk s H scope (compEnvC scope cl C X.env) fp) tg g tf)
    (ht : ∀ (s : Shared) (H : Hp) (C : Addr) (cl : List (Str × Addr)) (fp : List Addr), QT K (X.blk s H scope (compEnvC scope cl C X.env) fp) ifs tt bc)
    (he : ∀ (s : Shared) (H : Hp) (C : Addr) (cl : List (Str × Addr)) (fp : List Addr), QE K (X.blk s H scope (compEnvC scope cl C X.env) fp) elt te f) (hs : ∀ x, foldedSetIterable iter X.env x = pure x) :
    QE K X (.ListComp elt [⟨tg, iter, ifs, 0⟩] scope pos) (tLc wi g tt te (own.map (·.2))) (eCompN src tf bc f (own.map (·.2))) := by
  have d1 : ST K g tf := (hg {} (fun _ => none) 0 [] []).st
  have d2 : SB K tt bc := (ht {} (fun _ => none) 0 [] []).sb
  have d3 : SE K te f := (he {} (fun _ => none) 0 [] []).se
  exact ⟨pe_lc hc hN hi.pi ok (fun s H C cl fp => (hg s H C cl fp).pg) (fun s H C cl fp => (ht s H C cl fp).pt) (fun s H C cl fp => (he s H C cl fp).pe) hs, se_compN hi.si d1 hk d2 d3⟩
/-! targets, sources -/
theorem qg_nm {i : Nat} (h : PG X (.Name x p) (gName i)) : QG K X (.Name x p) (gName i) (tNm i) := ⟨h, st_nm⟩
theorem qgs_nil : QGs K X [] gNil tsNil := ⟨pgs_nil, sts_nil⟩
theorem qgs_cons {g : TG} {tf : TF} {u : TGs} {uf : TFs} (h1 : QG K X e g tf) (h2 : QGs K X es u uf) (hs : (assignEach (e :: es) X.env).map (·.2) = assign e X.env :: (assignEach es X.env).map (·.2)) : QGs K X (e :: es) (gCons g u) (tsCons tf uf) :=
  ⟨pgs_cons h1.pg h2.pg hs, sts_cons h1.st h2.st⟩
theorem qg_tp {k n : Nat} {u : TGs} {uf : TFs} (hK : X.K = K) (hc : X.calm = true) (h : QGs K X es u uf) (hn : (assignEach es X.env).length = n) (hst : (assignEach es X.env).findIdx? (·.1) = none) : QG K X (.Tuple es k pos) (gTup K n u) (tTp n uf) := by
  subst hK
  exact ⟨pg_tup hc h.pg hn hst, st_tp h.st⟩
theorem qg_put (ha : QE K X a ta fa) (hb : QE K X b tb fb) (hs : ∀ v, assign (.Subscript a b pos) X.env v = (do
      let ov ← holding [v] (eval a X.env)
      let iv ← holding [v, ov] (eval b X.env)
      standAt pos
      holding [v, ov, iv] (setItem ov iv v)
      release [v, ov, iv] [])) : QG K X (.Subscript a b pos) (L2.gSub ta tb rSetL) (tPut fa fb) := ⟨pg_sub ha.pe hb.pe set_list hs, st_put ha.se hb.se⟩
theorem qi_data {tg : Expr} (hK : X.K = K) (h : QE K X e te f) : QI K X tg e (iSeq K te) (iData f) := by
  subst hK
  exact ⟨pi_seq h.pe, si_data h.se⟩
theorem qi_range1 {tg : Expr} (hm : X.mg "range" = none) (ha : QA K X [a] t r) (hg : Gl X "range") (hs : starEach [a] X.env = [(false, eval a X.env)]) : QI K X tg (.Call (.Name "range" p) [a] [] pos) (iRng1 t) (iRange1 r) := ⟨pi_range1 hg hm ha.pa hs, si_range1 ha.sa⟩
theorem qi_range2 {tg : Expr} (hm : X.mg "range" = none) (ha : QA K X [a, b] t r) (hg : Gl X "range") (hs : starEach [a, b] X.env = [(false, eval a X.env), (false, eval b X.env)]) (hs2 : starEach [b] X.env = [(false, eval b X.env)]) :
    QI K X tg (.Call (.Name "range" p) [a, b] [] pos) (iRng2 t) (iRange2 r) := ⟨pi_range2 hg hm ha.pa hs hs2, si_range2 ha.sa⟩
theorem qi_enum {elts : List Expr} {kk : Nat} {tpos : Pos} (hK : X.K = K) (hm : X.mg "enumerate" = none) (ha : QA K X [e] t r) (hg : Gl X "enumerate") (hs : starEach [e] X.env = [(false, eval e X.env)]) : QI K X (.Tuple elts kk tpos) (.Call (.Name "enumerate" p) [e] [] pos) (iEnum K t) (iEnumL r) := by
  subst hK
  exact ⟨pi_enum hg hm ha.pa hs, si_enum ha.sa⟩
theorem qi_zip {elts : List Expr} {kk : Nat} {tpos : Pos} (hK : X.K = K) (hm : X.mg "zip" = none) (ha : QA K X [a, b] t r) (hg : Gl X "zip") (hs : starEach [a, b] X.env = (false, eval a X.env) :: starEach [b] X.env) (hpl : (backTo pos (starEach [b] X.env)).any (·.1) = false) :
    QI K X (.Tuple elts kk tpos) (.Call (.Name "zip" p) [a, b] [] pos) (RZ.iZipA K t) (iZipF r) := by
  subst hK
  exact ⟨RZ.pi_zipA hg hm ha.pa hs hpl, si_zip ha.sa⟩
end
/-! ### statements -/
section
variable {K : PySem.W.Frag} {X : Cx} {st : Stmt} {rest : List Stmt} {ts us : TS} {sf sg : SF} {e : Expr} {te : TE} {f : EF} {pos : Pos}
theorem qs_nil : QSs K X [] tNext sNext := ⟨pss_nil, ss_next⟩
theorem qs_cons (h1 : QS K X st ts sf) (h2 : QSs K X rest us sg) : QSs K X (st :: rest) (tSeq ts us) (sSeq sf sg) := ⟨pss_cons h1.ps h2.ps, ss_seq h1.ss h2.ss⟩
theorem qs_one (h1 : QS K X st ts sf) : QSs K X [st] ts sf := ⟨pss_one h1.ps, h1.ss⟩
theorem qs_ret (h : QE K X e te f) : QS K X (.Return (some e) pos) (tRet te) (sRet f) := ⟨ps_ret h.pe, ss_ret h.se⟩
theorem qs_if {c : Expr} {a b : List Stmt} {tc : TT} {bc : BF} (hc : QB K X c tc bc) (ha : QSs K X a ts sf) (hb : QSs K X b us sg) : QS K X (.If c a b pos) (tIfS tc ts us) (sIf bc sf sg) := ⟨ps_if hc.pt ha.ps hb.ps, ss_if hc.sb ha.ss hb.ss⟩
theorem qs_expr (h : QE K X e te f) (hs : swapsWith e none pos.line X.env = pure false) : QS K X (.Expr e pos) (tDrop te) (sDrop f) := ⟨ps_expr h.pe hs, ss_drop h.se⟩
theorem qs_doc {x j pos'} : QS K X (.Expr (.Constant (.str x) j pos) pos') tNext sNext := ⟨ps_doc, ss_next⟩
theorem qs_pass : QS K X (.Pass pos) tNext sNext := ⟨ps_pass, ss_next⟩
theorem qs_brk : QS K X (.Break pos) tBreak sBrk := ⟨ps_break, ss_brk⟩
theorem qs_cnt : QS K X (.Continue pos) tCont sCnt := ⟨ps_continue, ss_cnt⟩
theorem qs_no : QS K X st tNever sNo := ⟨ps_never, ss_no⟩
theorem qs_asg {tg : Expr} {g : TG} {tf : TF} (he : QE K X e te f) (hg : QG K X tg g tf) (hs : swapsWithSole [tg] e pos.line X.env = pure false) (hw : swappedStores [tg] e X.env = pure none)
    (h1 : (assignEach [tg] X.env).map (·.2) = [assign tg X.env]) : QS K X (.Assign [tg] e pos) (tAsg te g) (sAsg f tf) := ⟨ps_asg he.pe hg.pg hs hw h1, ss_asg he.se hg.st⟩
theorem qs_set {i : Nat} {x : Str} {pos' : Pos} (he : QE K X e te f) (hN : X.N.Nodup) (hi : X.N[i]? = some x) (hx : Loc X.env.scope x) (hs : swapsWith e (some (.Name x pos')) pos.line X.env = pure false)
    (hf : X.fn x = true ∨ X.env.scope.names.lookup x = some .local) : QS K X (.Assign [.Name x pos'] e pos) (tAsg te (gName i)) (sAsg f (tNm i)) := ⟨ps_set hN hi hx he.pe hs hf, ss_asg he.se st_nm⟩
/-- name = [..] on one line: what is told of the comprehension as a value holds of it here -/
theorem qs_setLc {i : Nat} {y : Str} {py : Pos} {elt tg iter : Expr} {ifs : List Expr} {scope : Scope} {own : List (Str × Nat)} {cpos spos : Pos} {wi : TI} {src : IF} {g : TG} {tf : TF} {tt : TT} {bc : BF} (hc : X.calm = true) (hN : X.N.Nodup) (hy : X.N[i]? = some y) (hyl : X.env.scope.names.lookup y = some .local)
    (hsw : swapsWith (.ListComp elt [⟨tg, iter, ifs, 0⟩] scope cpos) (some (.Name y py)) spos.line X.env = pure true) (hi : QI K X tg iter wi src) (ok : BlkOk X.N X.env.scope scope own)
    (hk : Kps g (own.map (·.2))) (hg : ∀ (s : Shared) (H : Hp) (C : Addr) (cl : List (Str × Addr)) (fp : List Addr), QG K (X.blk s H scope (compEnvC scope cl C X.env) fp) tg g tf)
    (ht : ∀ (s : Shared) (H : Hp) (C : Addr) (cl : List (Str × Addr)) (fp : List Addr), QT K (X.blk s H scope (compEnvC scope cl C X.env) fp) ifs tt bc)
    (he : ∀ (s : Shared) (H : Hp) (C : Addr) (cl : List (Str × Addr)) (fp : List Addr), QE K (X.blk s H scope (compEnvC scope cl C X.env) fp) elt te f) (hs : ∀ x, foldedSetIterable iter X.env x = pure x) :
    QS K X (.Assign [.Name y py] (.ListComp elt [⟨tg, iter, ifs, 0⟩] scope cpos) spos) (tAsg (tLc wi g tt te (own.map (·.2))) (gName i)) (sAsg (eComp src tf bc f (own.map (·.2))) (tNm i)) := by
  have d1 : ST K g tf := (hg {} (fun _ => none) 0 [] []).st
  have d2 : SB K tt bc := (ht {} (fun _ => none) 0 [] []).sb
  have d3 : SE K te f := (he {} (fun _ => none) 0 [] []).se
  exact ⟨ps_setLc hc hN hy hyl hsw hi.pi ok (fun s H C cl fp => (hg s H C cl fp).pg) (fun s H C cl fp => (ht s H C cl fp).pt) (fun s H C cl fp => (he s H C cl fp).pe) hs, ss_asg (se_comp hi.si d1 hk d2 d3) st_nm⟩
theorem qs_setLcN {i : Nat} {y : Str} {py : Pos} {elt tg iter : Expr} {ifs : List Expr} {scope : Scope} {own : List (Str × Nat)} {cpos spos : Pos} {wi : TI} {src : IF} {g : TG} {tf : TF} {tt : TT} {bc : BF} (hc : X.calm = true) (hN : X.N.Nodup) (hy : X.N[i]? = some y) (hyl : X.env.scope.names.lookup y = some .local)
    (hsw : swapsWith (.ListComp elt [⟨tg, iter, ifs, 0⟩] scope cpos) (some (.Name y py)) spos.line X.env = pure true) (hi : QI K X tg iter wi src) (ok : BlkOk X.N X.env.scope scope own)
    (hk : Kps g (own.map (·.2))) (hg : ∀ (s : Shared) (H : Hp) (C : Addr) (cl : List (Str × Addr)) (fp : List Addr), QG K (X.blk s H scope (compEnvC scope cl C X.env) fp) tg g tf)
    (ht : ∀ (s : Shared) (H : Hp) (C : Addr) (cl : List (Str × Addr)) (fp : List Addr), QT K (X.blk s H scope (compEnvC scope cl C X.env) fp) ifs tt bc)
    (he : ∀ (s : Shared) (H : Hp) (C : Addr) (cl : List (Str × Addr)) (fp : List Addr), QE K (X.blk s H scope (compEnvC scope cl C X.env) fp) elt te f) (hs : ∀ x, foldedSetIterable iter X.env x = pure x) :
    QS K X (.Assign [.Name y py] (.ListComp elt [⟨tg, iter, ifs, 0⟩] scope cpos) spos) (tAsg (tLc wi g tt te (own.map (·.2))) (gName i)) (sAsg (eCompN src tf bc f (own.map (·.2))) (tNm i)) := by
  have d1 : ST K g tf := (hg {} (fun _ => none) 0 [] []).st
  have d2 : SB K tt bc := (ht {} (fun _ => none) 0 [] []).sb
  have d3 : SE K te f := (he {} (fun _ => none) 0 [] []).se
  exact ⟨ps_setLc hc hN hy hyl hsw hi.pi ok (fun s H C cl fp => (hg s H C cl fp).pg) (fun s H C cl fp => (ht s H C cl fp).pt) (fun s H C cl fp => (he s H C cl fp).pe) hs, ss_asg (se_compN hi.si d1 hk d2 d3) st_nm⟩
theorem get_ixL : PGet X (rIxL X.K) := by
  intro pins s σ H o i ov iv Q I ro ri h
  obtain ⟨p, xs, j, v, rfl, rfl, hp, hv, q⟩ := h
  cases ro
  obtain ⟨t, rfl⟩ := ri
  obtain ⟨its, r, pl, hz⟩ := I.list hp
  obtain ⟨k, h1, h2, h3, h4, h5⟩ := atI_get hv
  obtain ⟨u, eu, ru⟩ := r.get h2
  have hl := r.length
  have hn := line63
  have fin : EP X pins σ Q u s := ⟨v, H, I, ru, q⟩
  by_cases h0 : 0 ≤ j
  · have hj : j.toNat = k := by
      rw [seqIndex_of h0 h5] at h1
      exact Option.some.inj h1
    obtain ⟨n, rfl⟩ : ∃ n : Nat, j = (n : Int) := ⟨j.toNat, by omega⟩
    have hk : n = k := by simpa using hj
    exact wpAny_getItem_list pl.isList (by omega) (by omega) (by rw [Int.toNat_natCast, hk]; simpa using eu) fin
  · have hj : (j + (its.toArray.size : Int)).toNat = k := by
      rw [seqIndex_neg (by omega) h4] at h1
      rw [List.size_toArray, ← hl]
      exact Option.some.inj h1
    exact wpAny_getItem_list_neg pl.isList (by omega) (by rw [List.size_toArray] <;> omega) (by omega) (by rw [hj]; simpa using eu) fin
theorem qs_addI {o i : Expr} {to ti : TE} {fo fi : EF} {tpos : Pos} (hK : X.K = K) (ho : QE K X o to fo) (hi : QE K X i ti fi) (he : QE K X e te f)
    (ha : ∀ ov iv new, augStore i ov iv new = (do holding [new, ov, iv] (setItem ov iv new); release [new, ov, iv] []; pure .next)) :
    QS K X (.AugAssign (.Subscript o i tpos) .Add e pos) (tAugS to ti te (rIxL K) (ipI fun i j => i + j) rSetL) (sAugI (fun i j => i + j) fo fi f) := by
  subst hK
  exact ⟨ps_augS ho.pe hi.pe get_ixL he.pe ip_add set_list ha, ss_augI ho.se hi.se he.se⟩
theorem qs_subI {o i : Expr} {to ti : TE} {fo fi : EF} {tpos : Pos} (hK : X.K = K) (ho : QE K X o to fo) (hi : QE K X i ti fi) (he : QE K X e te f)
    (ha : ∀ ov iv new, augStore i ov iv new = (do holding [new, ov, iv] (setItem ov iv new); release [new, ov, iv] []; pure .next)) :
    QS K X (.AugAssign (.Subscript o i tpos) .Sub e pos) (tAugS to ti te (rIxL K) (ipI fun i j => i - j) rSetL) (sAugI (fun i j => i - j) fo fi f) := by
  subst hK
  exact ⟨ps_augS ho.pe hi.pe get_ixL he.pe ip_sub set_list ha, ss_augI ho.se hi.se he.se⟩
theorem qs_for {tg iter : Expr} {body : List Stmt} {wi : TI} {src : IF} {g : TG} {tf : TF} (hp : PassesOwn (model X.prog X.w) X.A X.env X.xe) (hc : X.calm = true) (hi : QI K X tg iter wi src) (hg : QG K X tg g tf) (hb : QSs K X body ts sf)
    (hs : ∀ x, foldedSetIterable iter X.env x = pure x) : QS K X (.For tg iter body [] pos) (tFor wi g ts) (sFor src tf sf) := ⟨ps_for hp hc hi.pi hg.pg hb.ps hs, ss_for hi.si hg.st hb.ss⟩
end
/-! ### a def by its body -/
def startD (N : List Str) (args : List Vd) : Env := args.map some ++ List.replicate (N.length - args.length) none
def EndsD (g : SF) (ρ : Env) (st : Sto) (v : Vd) (st' : Sto) : Prop := ∃ junk, (g ρ st = some (.rt v (st' ++ junk)) ∨ (v = .d .none ∧ ∃ ρ', g ρ st = some (.nx ρ' (st' ++ junk)))) ∧ st.length ≤ st'.length ∧ (junk = [] ∨ (Clo st'.length st' ∧ CloV st'.length v))
section
variable {P : Program} {w : World} {K : PySem.W.Frag} {mg : Str → Option Value} {base : Heap}
theorem renv_start {S : Wd} {N : List Str} {args : List Vd} {vs : List V} (r : RVs K S vs args) : REnv K S (startD N args) (L2.start N vs) := by
  have hl := RVs.len r
  refine ⟨by unfold startD L2.start; simp [hl], fun i v h => ?_⟩
  unfold startD at h
  by_cases hi : i < args.length
  · rw [List.getElem?_append_left (by simpa using hi), List.getElem?_map] at h
    obtain ⟨u, h1, h2⟩ := Option.map_eq_some_iff.mp h
    cases h2
    obtain ⟨x, h3, h4⟩ := RVs.get_ r h1
    refine ⟨x, ?_, h4⟩
    unfold L2.start
    rw [List.getElem?_append_left (by simpa [hl] using hi), List.getElem?_map, h3]
    rfl
  · rw [List.getElem?_append_right (by simpa using hi)] at h
    have := List.eq_of_mem_replicate (List.mem_of_getElem? h)
    cases this
theorem aft_cut {S0 S : Wd} {st' junk : Sto} {v : Vd} {x : V} {Q : VK} (ok0 : S0.Ok K) (q : Aft K S0 st' v Q) (l : S.L = S0.L) (e : S.st = st' ++ junk) (xx : Ext S0 S) (ok : S.Ok K) (r : RV K S x v) (hl : S0.st.length ≤ st'.length) (hj : junk = [] ∨ (Clo st'.length st' ∧ CloV st'.length v)) : Q x S.H := by
  rcases hj with hj | ⟨c1, c2⟩
  · subst hj
    exact q S x l (by rw [e, List.append_nil]) xx ok r
  · obtain ⟨k1, k2, k3⟩ := ok.cut e c1
    exact q { S with m := S.m.take st'.length, st := st' } x l rfl (k3 S0 (by rw [ok0.len]; exact hl) xx) k1 (k2 x v c2 r)
theorem okD {x : Str} {st : Stmt} {f : Addr} {fd : FuncData} {N ps : List Str} {k : Nat} {Fn : FF} {g : SF} (D : Df K mg x ps st f fd) (Sc : FnScope N ps (defScope st))
    (body : ∀ (cdv : Value) (A : Around) (outer : List PySem.Env) (s : Shared) (H : Hp) (E : XK), A.guards = some [] → Room k (A.deeper (envOfC x (defScope st) s.heap.objs.size f cdv)) → ∃ ts, QSs K (cxOf CX0 P w K mg base N x (defScope st) f cdv A outer s H E).nox (defBody st) ts g)
    (hF : ∀ args s v s', args.length = ps.length → Fn args s = some (v, s') → EndsD g (startD N args) s v s') : Cal P w K mg base (k + 1) x ps Fn := by
  refine ⟨f, fd, okG D.fn Sc (fun vs H Q E h => h.1) (fun cdv A outer s H vs Q E hg hr h => ?_), D.bd, D.at_, D.fn.kp⟩
  obtain ⟨hl, S, args, v, st', ok, rfl, rv, e, q⟩ := h
  obtain ⟨ts, B⟩ := body cdv A outer s S.H E hg hr
  refine ⟨ts, B.ps, ?_⟩
  have la : args.length = ps.length := by rw [← RVs.len rv]; exact hl
  obtain ⟨junk, h1, h2, h3⟩ := hF args S.st v st' la e
  rcases h1 with h1 | ⟨hv, ρ', h1⟩
  · exact B.ss S _ _ _ ok (renv_start rv) h1 { nx := fun _ H' => Q .non H', rt := Q } fun S' y l s' x' ok' r' => aft_cut ok q l s' x' ok' r' h2 h3
  · subst hv
    exact B.ss S _ _ _ ok (renv_start rv) h1 { nx := fun _ H' => Q .non H', rt := Q } fun S' σ' l s' x' ok' en' => aft_cut (x := .non) ok q l s' x' ok' (Dd.non) h2 h3
theorem Cal.mono {j k : Nat} {x : Str} {ps : List Str} {F : FF} (h : Cal P w K mg base j x ps F) (hk : j ≤ k) : Cal P w K mg base k x ps F := by
  obtain ⟨f, fd, h1, h2, h3, h4⟩ := h
  exact ⟨f, fd, ⟨h1.size, fun A outer s H args us vs Q E hg hr => h1.goes A outer s H args us vs Q E hg (hr.mono hk)⟩, h2, h3, h4⟩
/-- less may be said -/
theorem Cal.less {k : Nat} {x : Str} {ps : List Str} {F F' : FF} (h : Cal P w K mg base k x ps F) (hF : ∀ a s r, F' a s = some r → F a s = some r) : Cal P w K mg base k x ps F' := by
  obtain ⟨f, fd, h1, h2, h3, h4⟩ := h
  have imp : ∀ {vs H Q E}, spD K ps.length F' vs H Q E → spD K ps.length F vs H Q E := fun ⟨a1, S, args, v, st', a2, a3, a4, a5, a6⟩ => ⟨a1, S, args, v, st', a2, a3, a4, hF _ _ _ a5, a6⟩
  exact ⟨f, fd, ⟨fun vs H Q E z => z.1, fun A outer s H args us vs Q E hg hr e0 hb r z => h1.goes A outer s H args us vs Q E hg hr e0 hb r (imp z)⟩, h2, h3, h4⟩
/-- nothing is said: at any level -/
theorem Cal.zero {x : Str} {ps : List Str} {st : Stmt} {f : Addr} {fd : FuncData} (D : Df K mg x ps st f fd) {k : Nat} : Cal P w K mg base k x ps fun _ _ => none :=
  ⟨f, fd, ⟨fun vs H Q E z => z.1, fun A outer s H args us vs Q E hg hr e0 hb r z => by
    obtain ⟨_, S, args, v, st', _, _, _, a5, _⟩ := z
    cases a5⟩, D.bd, D.at_, D.fn.kp⟩
end
end Dl

set_option Elab.async false
set_option linter.all false
set_option maxRecDepth 100000
set_option maxHeartbeats 4000000
namespace Pg
open PySem PySem.Spec PyProof.Rows L2
theorem size_times (a : Array Nat) : ∀ (k : Nat) (acc : Array Nat), ((List.replicate k a).foldl (· ++ ·) acc).size = acc.size + k * a.size
  | 0, acc => by simp
  | k + 1, acc => by
    rw [List.replicate_succ, List.foldl_cons, size_times a k, Array.size_append, Nat.add_mul]
    omega
theorem op_repS {X : Cx} : OpR X (binaryOp .Mult) (fun x y H Q => ∃ (z : Str) (n : Int), x = .str z ∧ y = .int n ∧ 2 ≤ n ∧ n ≤ 1000 ∧ 0 < z.length ∧ z.length ≤ 1000 ∧ Q (.str ⟨(List.replicate n.toNat z.cps).foldl (· ++ ·) #[]⟩) H) := by
  intro pins s σ H x y v u Q I rx ry h
  obtain ⟨z, n, rfl, rfl, h1, h2, h3, h4, q⟩ := h
  obtain ⟨t, rfl⟩ := rx
  obtain ⟨t', rfl⟩ := ry
  have fits : z.length * n.toNat ≤ sizeLine := Nat.le_trans (Nat.mul_le_mul h4 (show n.toNat ≤ 1000 by omega)) (by decide)
  have c1 : ¬ n < 1 := by omega
  have c2 : ¬ (n == 1 || z.length == 0) = true := by
    simp only [Bool.or_eq_true, beq_iff_eq]
    omega
  refine PySem.P.mul_str (by simp; omega) (fun _ _ => ?_) (fun _ _ => ?_) ?_
  · have h5 : (1000 : Int) ≤ (2 ^ 63 - 1) / n := (Int.le_ediv_iff_mul_le (by omega)).mpr (by omega)
    omega
  · show decide (z.length * n.toNat > sizeLine) = false
    exact decide_eq_false (by omega)
  · rw [if_neg c1, if_neg c2]
    dsimp only [Made.post]
    refine ⟨?_, .str _, H, I.tok _, ⟨_, rfl⟩, q⟩
    show ((List.replicate n.toNat z.cps).foldl (· ++ ·) #[]).size ≤ sizeLine
    rw [size_times, Nat.mul_comm]
    have : z.length = z.cps.size := rfl
    rw [this] at fits
    simpa using fits


theorem sliceApplied_rev {prog : Program} {w : World} {A : Around} {E : Value → Shared → Prop} {s : Shared} {sl : Addr} {n : Nat} {u : Tok} {Q : Int × Int × Nat → Shared → Prop}
    (h : s.heap.IsSliceOf sl .none .none (.int (-1) u)) (q : Q ((n : Int) - 1, -1, n) s) : wpAny (model prog w) A (Builtin.Slice.sliceApplied (.ref sl) (pure (n : Int))) Q E s := by
  obtain ⟨⟨c1, d1, t1, s1⟩, h1, h2, h3⟩ := h
  simp only at h2 h3
  subst h2 h3
  have fi : typeLookup (.type "int") "__index__" = pure (some (.builtin "int.__index__")) := PySem.F.slot_int_index.lookup
  have e1 : Builtin.Slice.sliceAdjust none none (-1) (n : Int) = ((n : Int) - 1, -1) := rfl
  have e2 : Builtin.Slice.slicePlaces ((n : Int) - 1) (-1) (-1) = n := by
    unfold Builtin.Slice.slicePlaces
    rw [if_neg (by decide), show -(-1 : Int) = 1 from rfl, Int.ediv_one]
    split <;> omega
  unfold Builtin.Slice.sliceApplied Builtin.Slice.sliceFields Builtin.Slice.slicePartIndex
  wp_walk using wpAny_loadPart' h1
  simp only [Option.getD_some, e1, e2]
  exact q
theorem fm_congr {α β : Type} {f g : α → Option β} : ∀ {l : List α}, (∀ x, x ∈ l → f x = g x) → l.filterMap f = l.filterMap g
  | [], _ => rfl
  | x :: l, h => by
    rw [List.filterMap_cons, List.filterMap_cons, h x List.mem_cons_self, fm_congr fun y hy => h y (List.mem_cons_of_mem x hy)]
theorem filter_rev (xs : Array Value) : (List.range xs.size).filterMap (fun k : Nat => xs[((xs.size : Int) - 1 + (k : Int) * -1).toNat]?) = xs.toList.reverse := by
  have h : ∀ l : List Value, (List.range l.length).filterMap (fun k : Nat => l[((l.length : Int) - 1 + (k : Int) * -1).toNat]?) = l.reverse := fun l => by
    have e : (List.range l.length).filterMap (fun k : Nat => l[((l.length : Int) - 1 + (k : Int) * -1).toNat]?) = (List.range l.length).filterMap (fun k : Nat => l.reverse[k]?) := by
      refine fm_congr fun k hk => ?_
      have hk' := List.mem_range.mp hk
      rw [List.getElem?_reverse hk', show ((l.length : Int) - 1 + (k : Int) * -1).toNat = l.length - 1 - k by omega]
    rw [e]
    have := PySem.W.krv_all l.reverse.toArray
    simpa using this
  have := h xs.toList
  simpa using this
theorem tup_rev (t sl : Addr) (xs : Array Value) (n : Nat) (dd : Option Addr) (ss : Array (Option Value)) (u : Tok) (hz : xs.size ≤ sizeLine) :
    Meets (Builtin.«tuple.__getitem__» ⟨[.ref t, .ref sl], []⟩)
      (fun A R s => s.heap.get? t = some { cls := .type "tuple", dict := dd, data := .seq xs n, slots := ss } ∧ s.heap.IsSliceOf sl .none .none (.int (-1) u) ∧
        R (.ok (.ret (.ref s.heap.objs.size))) { s with heap := s.heap.push { cls := .type "tuple", data := .seq xs.toList.reverse.toArray } }) := by
  intro prog w A R s h
  obtain ⟨hp, g, d, tk, os⟩ := s
  obtain ⟨hl, hs, hR⟩ := h
  have f2 := PySem.AutoSeq1.sub_tuple_tuple
  obtain ⟨os1, k1, k2, k3⟩ := id hs
  wp_walk using wpAny_loadPart' hl, sliceApplied_rev hs
  rw [filter_rev, if_neg (by simpa using hz)]
  wp_walk
  all_goals exact hR

theorem getItem_rev {prog : Program} {w : World} {A : Around} {E : Value → Shared → Prop} {s : Shared} {t sl : Addr} {xs : Array Value} {u : Tok} {Q : Value → Shared → Prop} (ht : s.heap.IsTuple t xs) (hs : s.heap.IsSliceOf sl .none .none (.int (-1) u)) (hz : xs.size ≤ sizeLine)
    (q : Q (.ref s.heap.objs.size) { s with heap := s.heap.push { cls := .type "tuple", data := .seq xs.toList.reverse.toArray } }) : wpAny (model prog w) A (getItem (.ref t) (.ref sl)) Q E s := by
  obtain ⟨⟨c1, d1, t1, s1⟩, o1, e1, n1, k1⟩ := id ht
  simp only at e1 k1
  subst e1 k1
  have ta : s.TypeIs (.ref t) "tuple" := ⟨_, o1, rfl⟩
  exact wpAny_getItem_slot ta (by decide +kernel) F.slot_tuple_getitem (call_meets F.slot_tuple_getitem ta F.entry_tuple_getitem (F.args_tuple_getitem_2 _ _) (tup_rev t sl xs n1 d1 s1 u hz) ⟨o1, hs, q⟩)
theorem Paired_append {α β : Type} {R : α → β → Prop} : ∀ {xs : List α} {ys : List β} {as : List α} {bs : List β}, Paired R xs ys → Paired R as bs → Paired R (xs ++ as) (ys ++ bs)
  | _, _, _, _, .nil, h => h
  | _, _, _, _, .cons a r, h => .cons a (Paired_append r h)
theorem Paired_rev {α β : Type} {R : α → β → Prop} : ∀ {xs : List α} {ys : List β}, Paired R xs ys → Paired R xs.reverse ys.reverse
  | _, _, .nil => .nil
  | _, _, .cons a r => by
    rw [List.reverse_cons, List.reverse_cons]
    exact Paired_append (Paired_rev r) (.cons a .nil)
def tRev (K : PySem.W.Frag) (te : TE) : TE := fun σ H Q => te σ H fun x H1 => ∃ a xs, x = .ref a ∧ SqT K H1 a xs ∧ ∀ p, H1 p = none → Q (.ref p) (upd H1 p (.tup xs.reverse))
theorem pe_rev {X : Cx} {x : Str} {te : TE} {j : Nat} {pos p0 p1 p2 p3 : Pos} (he : PE X (.Name x p0) te) : PE X (.Subscript (.Name x p0) (.Slice none none (some (.UnaryOp .USub (.Constant (.int 1) j p1) p3)) p2) pos) (tRev X.K te) := by
  refine ⟨fun pins s σ H Q I h => ?_⟩
  rw [eval_Subscript, arm_eval_Slice]
  refine wpAny_bind (thn (he.run pins s σ H _ I h) fun v s1 ⟨_, H1, I1, rx, a, xs, ex, hx, q⟩ => ?_)
  subst ex
  cases rx
  obtain ⟨us, rv, pl, hz⟩ := I1.tuple hx
  have hz' : us.toArray.size ≤ sizeLine := by
    have := rv.length
    simp only [List.size_toArray]
    omega
  obtain ⟨⟨c1, d1, t1, ss⟩, o1, e1, n1, k1⟩ := id pl
  simp only at e1 k1
  subst e1 k1
  obtain ⟨hp, g, dr, tk, os⟩ := s1
  have fl := PySem.F.slot_tuple_getitem.lookup
  have o2 : (hp.push { cls := .type "slice", data := .fields #[.none, .none, .int (-1) (tk + 1)] }).get? a = some { cls := .type "tuple", dict := d1, data := .seq us.toArray n1, slots := ss } := Heap.get?_push_of_some _ o1
  have pl2 : (hp.push { cls := .type "slice", data := .fields #[.none, .none, .int (-1) (tk + 1)] }).IsTuple a us.toArray := ⟨_, o2, rfl, n1, rfl⟩
  have sl2 := Heap.IsSliceOf.new hp .none .none (.int (-1) (tk + 1))
  wp_walk using PySem.P.neg_int, wpAny_loadPart' o2, getItem_rev pl2 sl2 hz'
  have rr : Vals xs.reverse us.reverse := Paired_rev rv
  have big : hp.objs.size ≤ hp.objs.size + 1 := Nat.le_succ _
  have nH : H1 (hp.objs.size + 1) = none := I1.hok.fresh big
  have there : ((hp.push { cls := .type "slice", data := .fields #[.none, .none, .int (-1) (tk + 1)] }).push { cls := .type "tuple", data := .seq us.reverse.toArray }).get? (hp.objs.size + 1) = some { cls := .type "tuple", data := .seq us.reverse.toArray } := by heap_get
  refine ⟨.ref (hp.objs.size + 1), _, I1.laid (t' := tk + 1 + 1) (a := hp.objs.size + 1) (o := .tup xs.reverse) (h' := (hp.push { cls := .type "slice", data := .fields #[.none, .none, .int (-1) (tk + 1)] }).push { cls := .type "tuple", data := .seq us.reverse.toArray })
    (fun b o z => Heap.get?_push_of_some _ (Heap.get?_push_of_some _ z)) big ?_, ?_, q _ nH⟩
  · rw [ObjOk.eq_2]
    exact ⟨by rw [List.length_reverse]; exact hz, _, rr, ⟨_, there, rfl, _, rfl⟩⟩
  · simp [L2.RelV]
end Pg

set_option Elab.async false
set_option linter.all false
set_option maxRecDepth 100000
set_option maxHeartbeats 4000000
namespace Dl
open PySem PySem.Spec PyProof.Rows L2 Pg
/-! ### a, b = (x, y) -/
def sAsgT (a : AF) (n : Nat) (t : TFs) : SF := fun ρ st => match a ρ st with
  | some (vs, st1) => if vs.length = n ∧ n ≤ 1000 then match t vs ρ st1 with
    | some (ρ2, st2) => some (.nx ρ2 st2)
    | none => none
    else none
  | none => none
section
variable {K : PySem.W.Frag} {X : Cx}
theorem ss_asgT {n : Nat} {ta : TA} {fa : AF} {gs : TGs} {u : TFs} (ha : SA K ta fa) (h2 : STs K gs u) : SS K (tAsg (tTup ta) (gTup K n gs)) (sAsgT fa n u) := by
  intro S ρ σ o ok en h D q
  unfold sAsgT at h
  split at h
  · rename_i vs st1 e1
    split at h
    · rename_i hn
      split at h
      · rename_i ρ2 st2 e2
        cases h
        refine ha S ρ σ _ _ ok en e1 _ fun S1 xa l1 s1 x1 ok1 r1 => ?_
        subst s1
        refine ⟨by rw [RVs.len r1]; have : (1000 : Nat) ≤ sizeLine := by decide
                   omega, fun p hp => ?_⟩
        have g1 := ok1.ext_put hp (.tup xa)
        have g2 := ok1.put hp (.tup xa)
        exact ⟨p, xa, rfl, SqT.of upd_same, by rw [RVs.len r1]; exact hn.1, h2 (S1.put p (.tup xa)) ρ σ xa vs ρ2 st2 g2 (en.up (x1.trans g1)) (RVs.up g1 r1) e2 _ (AftN.from (show AftN K S ρ2 st2 D.nx from q) l1 (x1.trans g1))⟩
      · cases h
    · cases h
  · cases h
theorem qs_asgT {es ts : List Expr} {k k2 n : Nat} {pos p1 p2 : Pos} {ta : TA} {fa : AF} {u : TGs} {uf : TFs} (hK : X.K = K) (hc : X.calm = true) (he : QA K X es ta fa) (h : QGs K X ts u uf) (hn : (assignEach ts X.env).length = n) (hst : (assignEach ts X.env).findIdx? (·.1) = none)
    (hs : swapsWithSole [.Tuple ts k p1] (.Tuple es k2 p2) pos.line X.env = pure false) (hw : swappedStores [.Tuple ts k p1] (.Tuple es k2 p2) X.env = pure none)
    (h1 : (assignEach [.Tuple ts k p1] X.env).map (·.2) = [assign (.Tuple ts k p1) X.env]) : QS K X (.Assign [.Tuple ts k p1] (.Tuple es k2 p2) pos) (tAsg (tTup ta) (gTup K n u)) (sAsgT fa n uf) := by
  subst hK
  exact ⟨ps_asg (pe_tup he.pa) (pg_tup hc h.pg hn hst) hs hw h1, ss_asgT he.sa h.st⟩
/-! ### in -/
def rInA (K : PySem.W.Frag) (b : Bool) : R2 := fun x y H Q => ∃ d e ds, Dd K H x d ∧ Dd K H y e ∧ (e = .list ds ∨ e = .tuple ds) ∧ SeqAt.shaped d = true ∧ PyData.canLayAll0 ds = true ∧ Q (.bl (b != ds.any fun z => PyData.eqv z d)) H
theorem op_inA (hu : X.A.units + 65 < cLine) : OpR X (compareOp .In) (rInA X.K false) := by
  intro pins s σ H x y v u Q I rx ry h
  obtain ⟨d, e, ds, hd, he, hk, sd, se, q⟩ := h
  rw [Bool.false_bne] at q
  obtain ⟨as, r1, _⟩ := dd_say I d x v hd rx
  obtain ⟨bs, r2, _⟩ := dd_say I e y u he ry
  rcases hk with rfl | rfl
  · exact SeqAt.in_list_reads r2 r1 se (SeqAt.canLay_of_shaped sd) (room_in_shaped sd hu) ⟨.bl _, H, I, rfl, q⟩
  · exact SeqAt.in_tuple_reads r2 r1 se (SeqAt.canLay_of_shaped sd) (room_in_shaped sd hu) ⟨.bl _, H, I, rfl, q⟩
theorem op_niA (hu : X.A.units + 65 < cLine) : OpR X (compareOp .NotIn) (rInA X.K true) := by
  intro pins s σ H x y v u Q I rx ry h
  obtain ⟨d, e, ds, hd, he, hk, sd, se, q⟩ := h
  rw [Bool.true_bne] at q
  obtain ⟨as, r1, _⟩ := dd_say I d x v hd rx
  obtain ⟨bs, r2, _⟩ := dd_say I e y u he ry
  rcases hk with rfl | rfl
  · exact SeqAt.notIn_list_reads r2 r1 se (SeqAt.canLay_of_shaped sd) (room_in_shaped sd hu) ⟨.bl _, H, I, rfl, q⟩
  · exact SeqAt.notIn_tuple_reads r2 r1 se (SeqAt.canLay_of_shaped sd) (room_in_shaped sd hu) ⟨.bl _, H, I, rfl, q⟩
def gIn (b : Bool) (d : PyData) : PyData → Option PyData
  | .list ds => if SeqAt.shaped d = true ∧ PyData.canLayAll0 ds = true then some (.bool (b != ds.any fun z => PyData.eqv z d)) else none
  | .tuple ds => if SeqAt.shaped d = true ∧ PyData.canLayAll0 ds = true then some (.bool (b != ds.any fun z => PyData.eqv z d)) else none
  | _ => none
theorem so_in (b : Bool) : SO K (rInA K b) (gIn b) := by
  intro G H x y dx dy z g rx ry e Q q
  unfold gIn at e
  split at e
  · split at e
    · rename_i hc
      cases e
      exact ⟨dx, _, _, rx.dd g, ry.dd g, .inl rfl, hc.1, hc.2, q _ _ _ (Grow.refl g) (.bl _)⟩
    · cases e
  · split at e
    · rename_i hc
      cases e
      exact ⟨dx, _, _, rx.dd g, ry.dd g, .inr rfl, hc.1, hc.2, q _ _ _ (Grow.refl g) (.bl _)⟩
    · cases e
  · cases e
/-! ### sorted -/
def alikesB (ds : List PyData) : Bool := ds.all fun d => ds.all fun e => PySem.W.alike d e
def isNe : PyData → Bool
  | .tuple (_ :: _) => true
  | _ => false
def isPl : PyData → Bool
  | .none => false
  | .tuple _ => false
  | _ => true
def sortsB (ds : List PyData) : Bool := alikesB ds && (ds.all isNe || ds.all isPl) && ds.all (fun d => decide (d.depth ≤ 60)) && decide (ds.length ≤ 16000000)
noncomputable def srt (ds : List PyData) : List PyData := ds.mergeSort (PySem.W.dataLe false id)
theorem sorts_of {ds : List PyData} (h : sortsB ds = true) : PySem.W.AllAlike ds ∧ PySem.W.Sortable ds ∧ (∀ d ∈ ds, d.depth ≤ 60) ∧ ds.length ≤ 16000000 := by
  unfold sortsB alikesB at h
  simp only [Bool.and_eq_true, Bool.or_eq_true, List.all_eq_true, decide_eq_true_eq] at h
  obtain ⟨⟨⟨h1, h2⟩, h3⟩, h4⟩ := h
  refine ⟨fun d hd e he => h1 d hd e he, ?_, h3, h4⟩
  rcases h2 with h2 | h2
  · refine .inl fun d hd => ?_
    have := h2 d hd
    unfold isNe at this
    split at this
    · exact ⟨_, _, rfl⟩
    · cases this
  · refine .inr fun d hd => ?_
    have := h2 d hd
    cases d with
    | none => cases this
    | tuple _ => cases this
    | bool _ => exact ⟨by simp, by simp⟩
    | int _ => exact ⟨by simp, by simp⟩
    | str _ => exact ⟨by simp, by simp⟩
    | list _ => exact ⟨by simp, by simp⟩
    | dict _ => exact ⟨by simp, by simp⟩
theorem each_self {R : Value → PyData → Prop} : ∀ {us : List Value} {vs : List V} {ds : List PyData} {K : PySem.W.Frag} {H : Hp}, Vals vs us → Dds K H vs ds → (∀ v u d, RelV v u → Dd K H v d → R u d) → PySem.W.EachIs R us ds
  | _, _, _, _, _, .nil, .nil, _ => .nil
  | _, _, _, _, _, .cons r t, .cons h k, f => .cons (f _ _ _ r h) (each_self t k f)
theorem each_back {H : Hp} : ∀ {us : List Value} {ds : List PyData}, PySem.W.EachIs (fun u d => ∃ v, RelV v u ∧ Dd K H v d) us ds → ∃ vs, Vals vs us ∧ Dds K H vs ds
  | _, _, .nil => ⟨[], .nil, .nil⟩
  | _, _, .cons ⟨v, h1, h2⟩ t => by
    obtain ⟨vs, h3, h4⟩ := each_back t
    exact ⟨v :: vs, .cons h1 h3, .cons h2 h4⟩
def rSortD (K : PySem.W.Frag) : List V → Hp → VK → Prop := fun xs H Q => ∃ (G : Hp) (a : Addr) (ys : List V) (ds : List PyData), Same G H ∧ xs = [.ref a] ∧ SqL K H a ys ∧ Dds K G ys ds ∧ sortsB ds = true ∧ ∀ (p : Addr) (zs : List V), H p = none → Dds K G zs (srt ds) → Q (.ref p) (upd H p (.lst zs))
theorem call_sortD (hu : X.A.units + 64 < cLine) : CallR X (.builtin "sorted") (rSortD X.K) := by
  intro pins s σ H xs us Q I r h
  obtain ⟨G, a, ys, ds, g, rfl, hs, hd, hb, q⟩ := h
  obtain ⟨its, rv, hl, hz⟩ := I.list hs
  rw [Vals.ref1 r]
  obtain ⟨h1, h2, h3, h4⟩ := sorts_of hb
  have hlen : ds.length = its.length := by rw [← Dds.length_ hd, rv.length]
  refine PySem.W.sorted_data (enc := id) (R := fun u d => ∃ v, RelV v u ∧ Dd X.K G v d) hl.isList (each_self rv hd fun v u d r1 r2 => ⟨v, r1, r2⟩)
    (each_self rv hd fun v u d r1 r2 => let ⟨as, z, _⟩ := dd_say I d v u (Dd.up g _ _ r2) r1; ⟨as, z⟩) (by rw [List.map_id]; exact h1) (by rw [List.map_id]; exact h2) (Nat.le_trans h4 (by decide)) (fun b hb => by have := h3 b hb; show X.A.units + 2 + b.depth < cLine; omega) fun out hol ho => ?_
  obtain ⟨zs, k1, k2⟩ := each_back ho
  obtain ⟨ep, he'⟩ := PyProof.Rows.sortedAll_at s.heap its out.toArray
  have hz' : zs.length ≤ sizeLine := by
    rw [k1.length, hol]
    exact Nat.le_trans h4 (by decide)
  exact ⟨.ref _, upd H (s.heap.objs.size + 1) (.lst zs), I.laid (t' := s.toks) (fun _ _ => PyProof.Rows.sortedAll_old) (Nat.le_succ _) ⟨hz', out, ep, k1, he'⟩, rfl, q _ _ (I.hok.fresh (Nat.le_succ _)) k2⟩
noncomputable def gSorted : List PyData → Option PyData
  | [.list ds] => if sortsB ds = true then some (.list (srt ds)) else none
  | _ => none
theorem sc_sort : SC K (rSortD K) gSorted := by
  intro G H xs ds z g r e Q q
  unfold gSorted at e
  split at e
  · split at e
    · rename_i hb
      cases e
      obtain ⟨x, rfl, rk⟩ := r.one
      obtain ⟨a, ys, rfl, h1, h2⟩ := rk.list g
      exact ⟨G, a, ys, _, g, rfl, h1, h2, hb, fun p zs hp hz => new_lst g hz q hp⟩
    · cases e
  · cases e
/-! ### texts times, a tuple turned about, an empty dict, a dict of pairs -/
def repStr (z : Str) (n : Int) : Str := ⟨(List.replicate n.toNat z.cps).foldl (· ++ ·) #[]⟩
def rMulS : R2 := fun x y H Q => ∃ (z : Str) (n : Int), x = .str z ∧ y = .int n ∧ 2 ≤ n ∧ n ≤ 1000 ∧ 0 < z.length ∧ z.length ≤ 1000 ∧ Q (.str ⟨(List.replicate n.toNat z.cps).foldl (· ++ ·) #[]⟩) H
open Classical in
noncomputable def gMulD : PyData → PyData → Option PyData
  | .int i, .int j => if CMulW i j ∨ CMul i j then some (.int (i * j)) else none
  | .str z, .int n => if 2 ≤ n ∧ n ≤ 1000 ∧ 0 < z.length ∧ z.length ≤ 1000 then some (.str (repStr z n)) else none
  | _, _ => none
def rMulD : R2 := fun x y H Q => (rI CMulW fun i j => .int (i * j)) x y H Q ∨ ((rI CMul fun i j => .int (i * j)) x y H Q ∨ rMulS x y H Q)
theorem op_mulD : OpR X (binaryOp .Mult) rMulD := opr_or op_mulW (opr_or op_mul Pg.op_repS)
theorem so_mul : SO K rMulD gMulD := by
  intro G H x y dx dy z g rx ry e Q q
  unfold gMulD at e
  split at e
  · split at e
    · rename_i hc
      cases e
      rcases hc with hc | hc
      · exact .inl ⟨_, _, rx.int, ry.int, hc, q _ _ _ (Grow.refl g) (.int _)⟩
      · exact .inr (.inl ⟨_, _, rx.int, ry.int, hc, q _ _ _ (Grow.refl g) (.int _)⟩)
    · cases e
  · split at e
    · rename_i hc
      cases e
      exact .inr (.inr ⟨_, _, rx.str, ry.int, hc.1, hc.2.1, hc.2.2.1, hc.2.2.2, q _ _ _ (Grow.refl g) (.str _)⟩)
    · cases e
  · cases e
theorem Dds.rev {G : Hp} : ∀ {xs : List V} {ds : List PyData}, Dds K G xs ds → Dds K G xs.reverse ds.reverse
  | _, _, .nil => .nil
  | _, _, .cons a r => by
    rw [List.reverse_cons, List.reverse_cons]
    exact Dds.append_ (Dds.rev r) (.cons a .nil)
def eRev (i : Nat) : EF := fun ρ st => match ρ[i]? with
  | some (some (.d (.tuple xs))) => some (.d (.tuple xs.reverse), st)
  | _ => none
theorem se_rev {i : Nat} : SE K (tRev K (tVar i)) (eRev i) := by
  intro S ρ σ v st' ok en h Q q
  unfold eRev at h
  split at h
  · rename_i xs e
    cases h
    obtain ⟨x, h1, h2⟩ := en.at_ i _ e
    have h2' : Dd K S.fr x (.tuple xs) := h2
    cases h2' with
    | @tup a vs _ h3 h4 =>
      refine ⟨_, h1, a, vs, rfl, same_seqT (fr_same S) h3, fun p hp => ?_⟩
      exact new_tup (fr_same S) (Dds.rev h4) (fun G' H' w g hw => q.grow ok g hw) hp
  · cases h
theorem q_rev {x : Str} {p0 p1 p2 p3 pos : Pos} {j : Nat} (hK : X.K = K) (i : Nat) (h : PE X (.Name x p0) (tVar i)) : QE K X (.Subscript (.Name x p0) (.Slice none none (some (.UnaryOp .USub (.Constant (.int 1) j p1) p3)) p2) pos) (tRev K (tVar i)) (eRev i) := by
  subst hK
  exact ⟨pe_rev h, se_rev⟩
theorem se_dnew : SE K tDNewK (eC (.dict [])) := by
  intro S ρ σ v st' ok en h Q q
  cases h
  intro p hp
  exact q.grow ok ((Grow.refl (fr_same S)).put hp (.dK [])) (.dic upd_same .nil)
theorem q_dnew {pos : Pos} : QE K X (.Dict [] [] pos) tDNewK (eC (.dict [])) := ⟨pe_dnewK, se_dnew⟩
end
end Dl

set_option Elab.async false
set_option linter.all false
set_option maxRecDepth 100000
set_option maxHeartbeats 4000000
namespace Dl
open PySem PySem.Spec PyProof.Rows L2 Pg
theorem u65 {A : Around} {k : Nat} (hr : Room k A) : A.units + 65 < cLine := by have := hr.un; omega
section
variable {X : Cx} {K : PySem.W.Frag} {a b c e : Expr} {ta tb tc te : TE} {fa fb fc f : EF} {pos : Pos}
/-! -x -/
def eNeg (a : EF) : EF := fun ρ st => match a ρ st with
  | some (.d (.int i), st1) => some (.d (.int (-i)), st1)
  | _ => none
theorem q_neg (ha : QE K X a ta fa) : QE K X (.UnaryOp .USub a pos) (tUn (rU fun i => .int (-i)) ta) (eNeg fa) := by
  refine ⟨pe_un un_neg ha.pe, fun S ρ σ v st' ok en h Q q => ?_⟩
  unfold eNeg at h
  split at h
  · rename_i i st1 e1
    cases h
    refine ha.se S ρ σ _ _ ok en e1 _ fun S1 xa l1 s1 x1 ok1 r1 => ?_
    have r1' : Dd K S1.fr xa (.int i) := r1
    cases r1'
    exact ⟨i, rfl, q S1 _ l1 s1 x1 ok1 (Dd.int _)⟩
  · cases h
/-! a op b op' c -/
def eChain (g g' : PyData → PyData → Option PyData) (a b c : EF) : EF := fun ρ st => match a ρ st with
  | some (va, st1) => match b ρ st1 with
    | some (vb, st2) => match lookR st2 va, lookR st2 vb with
      | some x, some y => match g x y with
        | some (.bool true) => match c ρ st2 with
          | some (vc, st3) => match lookR st3 vb, lookR st3 vc with
            | some y', some z => (g' y' z).map fun u => (.d u, st3)
            | _, _ => none
          | none => none
        | some (.bool false) => some (.d (.bool false), st2)
        | _ => none
      | _, _ => none
    | none => none
  | none => none
theorem se_chain {r r' : R2} {g g' : PyData → PyData → Option PyData} (hr : SO K r g) (hr' : SO K r' g') (ha : SE K ta fa) (hb : SE K tb fb) (hc : SE K tc fc) : SE K (tChain r r' ta tb tc) (eChain g g' fa fb fc) := by
  intro S ρ σ v st' ok en h Q q
  unfold eChain at h
  split at h
  · rename_i va st1 e1
    split at h
    · rename_i vb st2 e2
      split at h
      · rename_i x y e3 e4
        refine ha S ρ σ va st1 ok en e1 _ fun S1 xa l1 s1 x1 ok1 r1 => ?_
        subst s1
        refine hb S1 ρ σ vb st2 ok1 (en.up x1) e2 _ fun S2 xb l2 s2 x2 ok2 r2 => ?_
        subst s2
        split at h
        · rename_i e5
          refine hr S2.fr S2.H xa xb x y _ (fr_same S2) (lookR_ok ok2 (r1.up x2) e3) (lookR_ok ok2 r2 e4) e5 _ fun G' H' w g hw => ?_
          cases hw
          refine ⟨true, rfl, iteT (B := _) ?_⟩
          have gr := ok2.grow g.hh
          split at h
          · rename_i vc st3 e6
            refine hc { S2 with H := H' } ρ σ vc st3 gr.2 (en.up ((x1.trans x2).trans gr.1)) e6 _ fun S3 xc l3 s3 x3 ok3 r3 => ?_
            subst s3
            split at h
            · rename_i y' z e7 e8
              obtain ⟨u, e9, e10⟩ := Option.map_eq_some_iff.mp h
              cases e10
              refine hr' S3.fr S3.H xb xc y' z u (fr_same S3) (lookR_ok ok3 (r2.up (gr.1.trans x3)) e7) (lookR_ok ok3 r3 e8) e9 Q fun G'' H'' w' g' hw' => ?_
              exact (q.from (l3.trans (l2.trans l1)) (((x1.trans x2).trans gr.1).trans x3)).grow ok3 g' hw'
            · cases h
          · cases h
        · rename_i e5
          cases h
          refine hr S2.fr S2.H xa xb x y _ (fr_same S2) (lookR_ok ok2 (r1.up x2) e3) (lookR_ok ok2 r2 e4) e5 _ fun G' H' w g hw => ?_
          cases hw
          refine ⟨false, rfl, iteF (A := _) ?_⟩
          exact (q.from (l2.trans l1) (x1.trans x2)).grow ok2 g (.bl false)
        · cases h
      · cases h
    · cases h
  · cases h
theorem q_chain {op op' : CmpOp} {r r' : R2} {g g' : PyData → PyData → Option PyData} (hs : SO K r g) (ho : OpR X (compareOp op) r) (hs' : SO K r' g') (ho' : OpR X (compareOp op') r') (ha : QE K X a ta fa) (hb : QE K X b tb fb) (hc : QE K X c tc fc)
    (hm : lastMarks [op, op'] [b, c] = false) : QE K X (.Compare a [op, op'] [b, c] pos) (tChain r r' ta tb tc) (eChain g g' fa fb fc) := ⟨pe_chain ho ho' ha.pe hb.pe hc.pe hm, se_chain hs hs' ha.se hb.se hc.se⟩
theorem qb_chain {op op' : CmpOp} {r r' : R2} {g g' : PyData → PyData → Option PyData} (hs : SO K r g) (ho : OpR X (compareOp op) r) (hs' : SO K r' g') (ho' : OpR X (compareOp op') r') (ha : QE K X a ta fa) (hb : QE K X b tb fb) (hc : QE K X c tc fc)
    (hm : lastMarks [op, op'] [b, c] = false) : QB K X (.Compare a [op, op'] [b, c] pos) (tTest (tChain r r' ta tb tc)) (bVal (eChain g g' fa fb fc)) := ⟨pt_chain ho ho' ha.pe hb.pe hc.pe hm, sb_test (se_chain hs hs' ha.se hb.se hc.se)⟩
/-! dict(pairs), the keys ints or texts -/
def keyOfD : PyData → Option Key
  | .int i => some (.inl i)
  | .str x => some (.inr x)
  | _ => none
def pairsK : List PyData → Option (List (Key × PyData))
  | [] => some []
  | .tuple [k, v] :: r => match keyOfD k, pairsK r with
    | some k', some r' => some ((k', v) :: r')
    | _, _ => none
  | _ :: _ => none
def putKD (kvs : List (Key × PyData)) (k : Key) (v : PyData) : List (Key × PyData) := if (kvs.any fun kv => decide (kv.1 = k)) = true then kvs.map (fun kv => if kv.1 = k then (kv.1, v) else kv) else kvs ++ [(k, v)]
def mergeKD (kvs more : List (Key × PyData)) : List (Key × PyData) := more.foldl (fun acc kv => putKD acc kv.1 kv.2) kvs
def dictOf (kvs : List (Key × PyData)) : PyData := .dict (kvs.map fun p => (keyD p.1, p.2))
def gDictOf : List PyData → Option PyData
  | [.list ds] => (pairsK ds).map fun ps => dictOf (mergeKD [] ps)
  | _ => none
theorem keyOfD_ok {G : Hp} {x : V} {d : PyData} {k : Key} (h : Dd K G x d) (e : keyOfD d = some k) : x = kV k ∧ d = keyD k := by
  unfold keyOfD at e
  split at e
  · cases e; cases h; exact ⟨rfl, rfl⟩
  · cases e; cases h; exact ⟨rfl, rfl⟩
  · cases e
def KVD (K : PySem.W.Frag) (G : Hp) : List (Key × V) → List (Key × PyData) → Prop := Paired fun p q => p.1 = q.1 ∧ Dd K G p.2 q.2
theorem pairsK_ok {G H : Hp} (g : Same G H) : ∀ {ds : List PyData} {ys : List V} {ps : List (Key × PyData)}, Dds K G ys ds → pairsK ds = some ps → ∃ (as : List Addr) (kvs : List (Key × V)), ys = as.map V.ref ∧ Paired (fun p kv => SqT K H p [kV kv.1, kv.2]) as kvs ∧ KVD K G kvs ps
  | [], _, _, .nil, e => by
    cases e
    exact ⟨[], [], rfl, .nil, .nil⟩
  | .tuple [k, v] :: r, _, ps, .cons h t, e => by
    unfold pairsK at e
    split at e
    · rename_i k' r' e1 e2
      cases e
      obtain ⟨as, kvs, h1, h2, h3⟩ := pairsK_ok g t e2
      subst h1
      cases h with
      | @tup a xs _ q rr =>
        cases rr with
        | cons hk rr =>
          cases rr with
          | cons hv rr =>
            cases rr
            obtain ⟨e3, e4⟩ := keyOfD_ok hk e1
            subst e3
            exact ⟨a :: as, (k', _) :: kvs, rfl, .cons (same_seqT g q) h2, .cons ⟨rfl, hv⟩ h3⟩
    · cases e
  | .none :: _, _, _, _, e => by simp [pairsK] at e
  | .int _ :: _, _, _, _, e => by simp [pairsK] at e
  | .bool _ :: _, _, _, _, e => by simp [pairsK] at e
  | .str _ :: _, _, _, _, e => by simp [pairsK] at e
  | .list _ :: _, _, _, _, e => by simp [pairsK] at e
  | .dict _ :: _, _, _, _, e => by simp [pairsK] at e
  | .tuple [] :: _, _, _, _, e => by simp [pairsK] at e
  | .tuple [_] :: _, _, _, _, e => by simp [pairsK] at e
  | .tuple (_ :: _ :: _ :: _) :: _, _, _, _, e => by simp [pairsK] at e
theorem KVD.put {G : Hp} {kvs : List (Key × V)} {ps : List (Key × PyData)} (h : KVD K G kvs ps) (k : Key) {v : V} {d : PyData} (hv : Dd K G v d) : KVD K G (putK kvs k v) (putKD ps k d) := by
  have e : (kvs.any fun kv => decide (kv.1 = k)) = (ps.any fun kv => decide (kv.1 = k)) := by
    induction h with
    | nil => rfl
    | cons h t ih => simp only [List.any_cons, ih, h.1]
  unfold putK putKD
  rw [e]
  by_cases q : (ps.any fun kv => decide (kv.1 = k)) = true
  · rw [if_pos q, if_pos q]
    clear e q
    induction h with
    | nil => exact .nil
    | cons h t ih =>
      rw [List.map_cons, List.map_cons]
      refine .cons ?_ ih
      rw [h.1]
      split
      · exact ⟨rfl, hv⟩
      · exact ⟨h.1, h.2⟩
  · rw [if_neg q, if_neg q]
    clear e q
    induction h with
    | nil => exact .cons ⟨rfl, hv⟩ .nil
    | cons h t ih => exact .cons h ih
theorem KVD.merge {G : Hp} : ∀ {more : List (Key × V)} {ms : List (Key × PyData)} {kvs : List (Key × V)} {ps : List (Key × PyData)}, KVD K G more ms → KVD K G kvs ps → KVD K G (mergeK kvs more) (mergeKD ps ms)
  | _, _, _, _, .nil, h => h
  | (k, v) :: mr, (k', d) :: ms, kvs, ps, .cons a r, h => by
    obtain ⟨a1, a2⟩ := a
    have a1' : k = k' := a1
    subst a1'
    have := KVD.merge r (KVD.put h k a2)
    exact this
theorem KVD.dd {G : Hp} : ∀ {kvs : List (Key × V)} {ps : List (Key × PyData)}, KVD K G kvs ps → Ddk K G kvs (ps.map fun p => (keyD p.1, p.2))
  | _, _, .nil => .nil
  | (k, v) :: _, (k', d) :: _, .cons a r => by
    obtain ⟨a1, a2⟩ := a
    have a1' : k = k' := a1
    subst a1'
    exact .cons a2 (KVD.dd r)
theorem sc_dict : SC K (fun xs H Q => ∃ (a : Addr) (ps : List Addr) (kvs : List (Key × V)), xs = [.ref a] ∧ SqL K H a (ps.map V.ref) ∧ Paired (fun p kv => SqT K H p [kV kv.1, kv.2]) ps kvs ∧
    ∀ p, H p = none → Q (.ref p) (upd H p (.dK (mergeK [] kvs)))) gDictOf := by
  intro G H xs ds z g r e Q q
  unfold gDictOf at e
  split at e
  · obtain ⟨ps, e1, e2⟩ := Option.map_eq_some_iff.mp e
    subst e2
    obtain ⟨x, rfl, rk⟩ := r.one
    obtain ⟨a, ys, rfl, h1, h2⟩ := rk.list g
    obtain ⟨as, kvs, h3, h4, h5⟩ := pairsK_ok g h2 e1
    subst h3
    refine ⟨a, as, kvs, rfl, h1, h4, fun p hp => ?_⟩
    refine q _ _ _ ((Grow.refl g).put hp (.dK (mergeK [] kvs))) ?_
    exact .dic upd_same (Ddk.up (same_up (free_of g hp)) _ _ (KVD.dd (KVD.merge h5 .nil)))
  · cases e
/-! name op= e -/
theorem so_addI : SO K (ipI fun i j => i + j) gAdd → True := fun _ => trivial
def gAddI : PyData → PyData → Option PyData
  | .int i, .int j => some (.int (i + j))
  | _, _ => none
theorem so_ipAdd : SO K (ipI fun i j => i + j) gAddI := by
  intro G H x y dx dy z g rx ry e Q q
  unfold gAddI at e
  split at e
  · cases e
    exact ⟨_, _, rx.int, ry.int, q _ _ _ (Grow.refl g) (.int _)⟩
  · cases e
theorem qs_augN {i : Nat} {x : Str} {p' : Pos} (he : QE K X e te f) (hN : X.N.Nodup) (hi : X.N[i]? = some x) (hx : Loc X.env.scope x) (hf : X.fn x = true ∨ X.env.scope.names.lookup x = some .local) :
    QS K X (.AugAssign (.Name x p') .Add e pos) (tAug i te (ipI fun i j => i + j)) (sAug i gAddI f) := ⟨ps_aug hN hi hx he.pe ip_add hf, ss_aug so_ipAdd he.se⟩
/-! a, b = x, y: plain local names, stored from the right -/
def sPar (i j : Nat) (a : AF) : SF := fun ρ st => match a ρ st with
  | some ([v, w], st1) => some (.nx ((ρ.set i (some v)).set j (some w)) st1)
  | _ => none
theorem ss_par {i j : Nat} {t : TA} {fa : AF} (ha : SA K t fa) : SS K (tPar i j t) (sPar i j fa) := by
  intro S ρ σ o ok en h D q
  unfold sPar at h
  split at h
  · rename_i v w st1 e1
    cases h
    refine ha S ρ σ _ _ ok en e1 _ fun S1 xa l1 s1 x1 ok1 r1 => ?_
    cases r1 with
    | cons r1 t =>
      cases t with
      | cons r2 t =>
        cases t
        exact ⟨_, _, rfl, q S1 _ l1 s1 x1 ok1 (((en.up x1).set i r1).set j r2)⟩
  · cases h
theorem qs_par {i j : Nat} {x y : Str} {px py pt : Pos} {kt k2 pt2} {t : TA} {fa : AF} (ha : QA K X [a, b] t fa) (hc : X.calm = true) (hN : X.N.Nodup) (hi : X.N[i]? = some x) (hj : X.N[j]? = some y) (hij : i ≠ j) (hx : X.env.scope.names.lookup x = some .local) (hy : X.env.scope.names.lookup y = some .local)
    (hw : swappedStores [.Tuple [.Name x px, .Name y py] kt pt] (.Tuple [a, b] k2 pt2) X.env = pure (some [x, y])) (hs : swapsWithSole [.Tuple [.Name x px, .Name y py] kt pt] (.Tuple [a, b] k2 pt2) pos.line X.env = pure false) :
    QS K X (.Assign [.Tuple [.Name x px, .Name y py] kt pt] (.Tuple [a, b] k2 pt2) pos) (tPar i j t) (sPar i j fa) := ⟨ps_par hc hN hi hj hij hx hy ha.pa hw hs, ss_par ha.sa⟩
end
end Dl

set_option Elab.async false
set_option linter.all false
set_option maxRecDepth 100000
set_option maxHeartbeats 4000000
namespace Dl
open PySem PySem.Spec PyProof.Rows L2 Pg
/-! ### what a def gives on data, by its meaning -/
def FnOf (N : List Str) (g : SF) : FF := fun args s => match g (startD N args) s with
  | some (.rt v s') => if s.length ≤ s'.length then some (v, s') else none
  | _ => none
open Classical in
/-- .. where cells of its own are dropped at its end -/
noncomputable def FnCut (N : List Str) (g : SF) : FF := fun args s => match g (startD N args) s with
  | some (.rt v s') => if s.length ≤ s'.length ∧ Clo s.length (s'.take s.length) ∧ CloV s.length v then some (v, s'.take s.length) else none
  | _ => none
theorem ends_of {N : List Str} {g : SF} {n : Nat} : ∀ args s v s', args.length = n → FnOf N g args s = some (v, s') → EndsD g (startD N args) s v s' := fun args s v s' _ h => by
  unfold FnOf at h
  split at h
  · rename_i w t e
    split at h
    · cases h
      exact ⟨[], .inl (by rw [List.append_nil]; exact e), ‹_›, .inl rfl⟩
    · cases h
  · cases h
theorem ends_cut {N : List Str} {g : SF} {n : Nat} : ∀ args s v s', args.length = n → FnCut N g args s = some (v, s') → EndsD g (startD N args) s v s' := fun args s v s' _ h => by
  unfold FnCut at h
  split at h
  · rename_i w t e
    split at h
    · rename_i hc
      cases h
      have hl : (t.take s.length).length = s.length := by rw [List.length_take]; omega
      refine ⟨t.drop s.length, .inl (by rw [List.take_append_drop]; exact e), by rw [hl]; exact Nat.le_refl _, .inr ?_⟩
      rw [hl]
      exact hc.2
    · cases h
  · cases h
theorem fnOf_eq {N : List Str} {g : SF} {args : List Vd} {s s' : Sto} {v : Vd} (h : g (startD N args) s = some (.rt v s')) (hl : s.length ≤ s'.length) : FnOf N g args s = some (v, s') := by
  unfold FnOf
  rw [h]
  exact if_pos hl
theorem fnCut_eq {N : List Str} {g : SF} {args : List Vd} {s s' j : Sto} {v : Vd} (h : g (startD N args) s = some (.rt v (s' ++ j))) (hl : s.length = s'.length) (hc : Clo s'.length s') (hv : CloV s'.length v) : FnCut N g args s = some (v, s') := by
  unfold FnCut
  rw [h]
  have e : (s' ++ j).take s.length = s' := by rw [hl]; simp
  have c : s.length ≤ (s' ++ j).length ∧ Clo s.length ((s' ++ j).take s.length) ∧ CloV s.length v := by
    rw [e, hl]
    exact ⟨by simp, hc, hv⟩
  simp only [if_pos c, e]
/-! ### evaluating -/
theorem ev_var {ρ : Env} {st : Sto} {i : Nat} {v : Vd} (h : ρ[i]? = some (some v)) : eVar i ρ st = some (v, st) := by
  unfold eVar
  rw [h]
theorem ev_op {ρ : Env} {st st1 st2 : Sto} {a b : EF} {va vb : Vd} {x y z : PyData} {g : PyData → PyData → Option PyData} (ha : a ρ st = some (va, st1)) (hb : b ρ st1 = some (vb, st2)) (hx : lookR st2 va = some x) (hy : lookR st2 vb = some y) (hg : g x y = some z) : eOp g a b ρ st = some (.d z, st2) := by
  unfold eOp
  simp only [ha, hb, hx, hy, hg, Option.map_some]
/-! the operations on ints -/
theorem shaped_int (i : Int) : SeqAt.shaped (.int i) = true := by simp [SeqAt.shaped, PyData.canLay0, PyData.depth]
theorem shaped_str {x : Str} (h : PyData.strOk x = true) : SeqAt.shaped (.str x) = true := by simp [SeqAt.shaped, PyData.canLay0, PyData.depth, h]
theorem shaped_bool (x : Bool) : SeqAt.shaped (.bool x) = true := by simp [SeqAt.shaped, PyData.canLay0, PyData.depth]
theorem eqv_int (i j : Int) : PyData.eqv (.int i) (.int j) = decide (i = j) := by simp [PyData.eqv, Bool.beq_eq_decide_eq]
theorem gEq_int (i j : Int) : gEq (.int i) (.int j) = some (.bool (decide (i = j))) := by
  unfold gEq
  rw [if_pos ⟨shaped_int i, shaped_int j⟩, eqv_int]
theorem gNe_int (i j : Int) : gNe (.int i) (.int j) = some (.bool (!decide (i = j))) := by
  unfold gNe
  rw [if_pos ⟨shaped_int i, shaped_int j⟩, eqv_int]
theorem alike_int (i j : Int) : PySem.W.alike (.int i) (.int j) = true := by simp [PySem.W.alike]
theorem gCm_int (f : PyData → PyData → Bool) (i j : Int) : gCm f (.int i) (.int j) = some (.bool (f (.int i) (.int j))) := by
  unfold gCm
  rw [if_pos]
  simp [alike_int, isNon, PyData.depth]
theorem lt_int_ (i j : Int) : PySem.W.dataLt (.int i) (.int j) = decide (i < j) := PySem.W.dataLt_int i j
theorem gAdd_int (i j : Int) : gAdd (.int i) (.int j) = some (.int (i + j)) := rfl
theorem gSub_int (i j : Int) : Dl.gSub (.int i) (.int j) = some (.int (i - j)) := rfl
theorem gMod_int {i j : Int} (h : 0 < j) : gMod (.int i) (.int j) = some (.int (i % j)) := if_pos h
theorem gDiv_int {i j : Int} (h : 0 < j) (h2 : j.natAbs.log2 < 9000) : gDiv (.int i) (.int j) = some (.int (i / j)) := if_pos ⟨h, h2⟩
theorem gMul_int {i j : Int} (h : i.natAbs.log2 + j.natAbs.log2 < 1000000) : gMulD (.int i) (.int j) = some (.int (i * j)) := if_pos (.inl h)
theorem gMul_l {i j : Int} (h : -(2 ^ 64) < i ∧ i < 2 ^ 64) : gMulD (.int i) (.int j) = some (.int (i * j)) := if_pos (.inr (.inl h))
theorem gMul_r {i j : Int} (h : -(2 ^ 64) < j ∧ j < 2 ^ 64) : gMulD (.int i) (.int j) = some (.int (i * j)) := if_pos (.inr (.inr h))
theorem gPow_int {i j : Int} (h0 : 0 ≤ j) (h1 : j ≤ 1000000) (h2 : i.natAbs < 2 ^ 64) : gPow (.int i) (.int j) = some (.int (i ^ j.toNat)) := if_pos ⟨h0, h1, h2⟩
theorem log2_le {n k : Nat} (h : n < 2 ^ k) (hk : 0 < k) : n.log2 < k := by
  by_cases hn : n = 0
  · subst hn
    simpa using hk
  · exact (Nat.log2_lt hn).mpr h
theorem atI_nat_ {α : Type} (xs : List α) (n : Nat) : atI xs (n : Int) = xs[n]? := by
  unfold atI ixN
  rw [if_pos (by omega)]
  by_cases h : (n : Int) < xs.length
  · rw [if_pos h]
    simp
  · rw [if_neg h]
    have : xs.length ≤ n := by omega
    simp [this]
theorem atI_zero {α : Type} (x : α) (xs : List α) : atI (x :: xs) 0 = some x := by
  have := atI_nat_ (x :: xs) 0
  simpa using this
theorem ixN_nat (m n : Nat) : ixN m (n : Int) = if n < m then some n else none := by
  unfold ixN
  rw [if_pos (by omega)]
  by_cases h : n < m
  · rw [if_pos h, if_pos (by omega)]
    simp
  · rw [if_neg h, if_neg (by omega)]
theorem ev_seq {f g : SF} {ρ ρ1 : Env} {st st1 : Sto} (h : f ρ st = some (.nx ρ1 st1)) : sSeq f g ρ st = g ρ1 st1 := by
  unfold sSeq
  rw [h]
theorem ev_seq_rt {f g : SF} {ρ : Env} {st st1 : Sto} {v : Vd} (h : f ρ st = some (.rt v st1)) : sSeq f g ρ st = some (.rt v st1) := by
  unfold sSeq
  rw [h]
theorem ev_if_t {c : BF} {f g : SF} {ρ : Env} {st st1 : Sto} (h : c ρ st = some (true, st1)) : sIf c f g ρ st = f ρ st1 := by
  unfold sIf
  rw [h]
theorem ev_if_f {c : BF} {f g : SF} {ρ : Env} {st st1 : Sto} (h : c ρ st = some (false, st1)) : sIf c f g ρ st = g ρ st1 := by
  unfold sIf
  rw [h]
theorem gAdd_fit {xs ys : List PyData} (h : xs.length + ys.length ≤ 16000000) : gAdd (.list xs) (.list ys) = some (.list (xs ++ ys)) := if_pos (Nat.le_trans h (by decide))
theorem gAdd_fitT {xs ys : List PyData} (h : xs.length + ys.length ≤ 16000000) : gAdd (.tuple xs) (.tuple ys) = some (.tuple (xs ++ ys)) := if_pos (Nat.le_trans h (by decide))
theorem line16 {n : Nat} (h : n ≤ 16000000) : n ≤ sizeLine := Nat.le_trans h (by decide)
end Dl

set_option Elab.async false
set_option linter.all false
set_option maxRecDepth 100000
set_option maxHeartbeats 4000000
namespace Dl
open PySem PySem.Spec PyProof.Rows L2 Pg
/-! ### what holds of a result: the meanings walked from the front, values first -/
/- simp goes into the result, never into what is to hold of it: another argument hangs on it -/
inductive Tg {α : Sort u} (Q : α) : Type | mk
def R1 {α : Type} (o : Option α) (Q : α → Prop) (_t : Tg Q := .mk) : Prop := ∃ x, o = some x ∧ Q x
def R2 {α β : Type} (o : Option (α × β)) (Q : α → β → Prop) (_t : Tg Q := .mk) : Prop := ∃ a b, o = some (a, b) ∧ Q a b
theorem R1.mono {α : Type} {o : Option α} {P Q : α → Prop} (h : R1 o P) (f : ∀ x, P x → Q x) : R1 o Q := by
  obtain ⟨x, e, p⟩ := h
  exact ⟨x, e, f x p⟩
theorem R2.mono {α β : Type} {o : Option (α × β)} {P Q : α → β → Prop} (h : R2 o P) (f : ∀ a b, P a b → Q a b) : R2 o Q := by
  obtain ⟨x, y, e, p⟩ := h
  exact ⟨x, y, e, f x y p⟩
theorem r1_some {α : Type} {x : α} {Q : α → Prop} : R1 (some x) Q ↔ Q x := ⟨fun ⟨_, e, q⟩ => by cases e; exact q, fun q => ⟨x, rfl, q⟩⟩
theorem r1_none {α : Type} {Q : α → Prop} : R1 none Q ↔ False := ⟨fun ⟨_, e, _⟩ => (by cases e), fun q => q.elim⟩
theorem r2_some {α β : Type} {x : α} {y : β} {Q : α → β → Prop} : R2 (some (x, y)) Q ↔ Q x y := ⟨fun ⟨_, _, e, q⟩ => by cases e; exact q, fun q => ⟨x, y, rfl, q⟩⟩
theorem r1_map {α β : Type} {o : Option α} {f : α → β} {Q : β → Prop} : R1 (o.map f) Q ↔ R1 o fun x => Q (f x) := by
  cases o with
  | none => exact ⟨fun h => (r1_none.mp h).elim, fun h => (r1_none.mp h).elim⟩
  | some x => exact ⟨fun h => r1_some.mpr (r1_some (x := f x).mp h), fun h => r1_some (x := f x).mpr (r1_some (x := x) (Q := fun x => Q (f x)).mp h)⟩
theorem r1_if {α : Type} {c : Prop} [Decidable c] {x : α} {Q : α → Prop} : R1 (if c then some x else none) Q ↔ c ∧ Q x := by
  by_cases h : c
  · rw [if_pos h, r1_some]
    exact ⟨fun q => ⟨h, q⟩, fun q => q.2⟩
  · rw [if_neg h, r1_none]
    exact ⟨fun q => q.elim, fun q => (h q.1).elim⟩
variable {ρ : Env} {st : Sto} {a b : EF} {fa fr : AF} {c d : BF} {Q : Vd → Sto → Prop} {Qb : Bool → Sto → Prop} {Qa : List Vd → Sto → Prop} {Qs : Out → Prop}
theorem r_var {i : Nat} : R2 (eVar i ρ st) Q ↔ R1 ρ[i]? fun o => R1 o fun v => Q v st := by
  unfold eVar
  split
  · rename_i v e
    rw [r2_some, e, r1_some, r1_some]
  · rename_i h
    refine ⟨fun ⟨_, _, e, _⟩ => (by cases e), fun ⟨o, e, v, e2, _⟩ => ?_⟩
    subst e2
    exact (h v e).elim
theorem r_c {x : PyData} : R2 (eC x ρ st) Q ↔ Q (.d x) st := r2_some
theorem r_op {g : PyData → PyData → Option PyData} : R2 (eOp g a b ρ st) Q ↔ R2 (a ρ st) fun va s1 => R2 (b ρ s1) fun vb s2 => R1 (lookR s2 va) fun x => R1 (lookR s2 vb) fun y => R1 (g x y) fun z => Q (.d z) s2 := by
  unfold eOp
  constructor
  · rintro ⟨v, s, e, q⟩
    revert e
    split
    · rename_i va s1 e1
      split
      · rename_i vb s2 e2
        split
        · rename_i x y e3 e4
          intro e
          obtain ⟨z, e5, e6⟩ := Option.map_eq_some_iff.mp e
          cases e6
          exact ⟨va, s1, e1, vb, _, e2, x, e3, y, e4, z, e5, q⟩
        · intro e; cases e
      · intro e; cases e
    · intro e; cases e
  · rintro ⟨va, s1, e1, vb, s2, e2, x, e3, y, e4, z, e5, q⟩
    refine ⟨.d z, s2, ?_, q⟩
    simp only [e1, e2, e3, e4, e5, Option.map_some]
theorem r_fz : R2 (eFz a ρ st) Q ↔ R2 (a ρ st) fun v s => match v with
    | .d x => Q (.d x) s
    | .r n => R1 (lookR s (.r n)) fun x => Q (.d x) (s.set n .dead)
    | .t _ => False := by
  unfold eFz
  constructor
  · rintro ⟨v, s, e, q⟩
    revert e
    split
    · rename_i x s1 e1
      intro e; cases e
      exact ⟨_, _, e1, q⟩
    · rename_i n s1 e1
      split
      · rename_i x e2
        intro e; cases e
        exact ⟨_, _, e1, x, e2, q⟩
      · intro e; cases e
    · intro e; cases e
  · rintro ⟨v, s, e1, q⟩
    cases v with
    | d x => exact ⟨_, _, by simp only [e1], q⟩
    | r n =>
      obtain ⟨x, e2, q⟩ := q
      exact ⟨_, _, by simp only [e1, e2], q⟩
    | t xs => exact q.elim
theorem r_bval : R2 (bVal a ρ st) Qb ↔ R2 (a ρ st) fun v s => match v with
    | .d (.bool x) => Qb x s
    | _ => False := by
  unfold bVal
  constructor
  · rintro ⟨v, s, e, q⟩
    revert e
    split
    · rename_i x s1 e1
      intro e; cases e
      exact ⟨_, _, e1, q⟩
    · intro e; cases e
  · rintro ⟨v, s, e1, q⟩
    split at q
    · exact ⟨_, _, by simp only [e1], q⟩
    · exact q.elim
theorem r_btru : R2 (bTru a ρ st) Qb ↔ R2 (a ρ st) fun v s => R1 (lookR s v) fun x => R1 (truD x) fun y => Qb y s := by
  unfold bTru
  constructor
  · rintro ⟨v, s, e, q⟩
    revert e
    split
    · rename_i va s1 e1
      split
      · rename_i x e2
        intro e
        obtain ⟨z, e5, e6⟩ := Option.map_eq_some_iff.mp e
        cases e6
        exact ⟨va, _, e1, x, e2, _, e5, q⟩
      · intro e; cases e
    · intro e; cases e
  · rintro ⟨va, s1, e1, x, e2, y, e3, q⟩
    exact ⟨y, s1, by simp only [e1, e2, e3, Option.map_some], q⟩
theorem r_band : R2 (bAnd c d ρ st) Qb ↔ R2 (c ρ st) fun x s => match x with
    | true => R2 (d ρ s) Qb
    | false => Qb false s := by
  unfold bAnd
  constructor
  · rintro ⟨v, s, e, q⟩
    revert e
    split
    · rename_i s1 e1
      exact fun e => ⟨_, _, e1, v, s, e, q⟩
    · rename_i s1 e1
      intro e; cases e
      exact ⟨_, _, e1, q⟩
    · intro e; cases e
  · rintro ⟨x, s, e1, q⟩
    cases x with
    | true =>
      obtain ⟨v, s2, e2, q⟩ := q
      exact ⟨v, s2, by simp only [e1, e2], q⟩
    | false => exact ⟨_, _, by simp only [e1], q⟩
theorem r_bor : R2 (bOr c d ρ st) Qb ↔ R2 (c ρ st) fun x s => match x with
    | true => Qb true s
    | false => R2 (d ρ s) Qb := by
  unfold bOr
  constructor
  · rintro ⟨v, s, e, q⟩
    revert e
    split
    · rename_i s1 e1
      intro e; cases e
      exact ⟨_, _, e1, q⟩
    · rename_i s1 e1
      exact fun e => ⟨_, _, e1, v, s, e, q⟩
    · intro e; cases e
  · rintro ⟨x, s, e1, q⟩
    cases x with
    | false =>
      obtain ⟨v, s2, e2, q⟩ := q
      exact ⟨v, s2, by simp only [e1, e2], q⟩
    | true => exact ⟨_, _, by simp only [e1], q⟩
theorem r_bnot : R2 (bNot c ρ st) Qb ↔ R2 (c ρ st) fun x s => Qb (!x) s := by
  unfold bNot
  constructor
  · rintro ⟨v, s, e, q⟩
    revert e
    split
    · rename_i x s1 e1
      intro e; cases e
      exact ⟨_, _, e1, q⟩
    · intro e; cases e
  · rintro ⟨x, s, e1, q⟩
    exact ⟨_, _, by simp only [e1], q⟩
theorem r_if : R2 (eIf c a b ρ st) Q ↔ R2 (c ρ st) fun x s => match x with
    | true => R2 (a ρ s) Q
    | false => R2 (b ρ s) Q := by
  unfold eIf
  constructor
  · rintro ⟨v, s, e, q⟩
    revert e
    split
    · rename_i s1 e1
      exact fun e => ⟨_, _, e1, v, s, e, q⟩
    · rename_i s1 e1
      exact fun e => ⟨_, _, e1, v, s, e, q⟩
    · intro e; cases e
  · rintro ⟨x, s, e1, q⟩
    cases x <;> (obtain ⟨v, s2, e2, q⟩ := q; exact ⟨v, s2, by simp only [e1, e2], q⟩)
theorem r_and : R2 (eAnd a b ρ st) Q ↔ R2 (a ρ st) fun v s => R1 (lookR s v) fun x => R1 (truD x) fun y => match y with
    | true => R2 (b ρ s) Q
    | false => Q v s := by
  unfold eAnd
  constructor
  · rintro ⟨v, s, e, q⟩
    revert e
    split
    · rename_i va s1 e1
      split
      · rename_i x e2
        split
        · rename_i e3
          exact fun e => ⟨_, _, e1, _, e2, _, e3, _, _, e, q⟩
        · rename_i e3
          intro e; cases e
          exact ⟨_, _, e1, _, e2, _, e3, q⟩
        · intro e; cases e
      · intro e; cases e
    · intro e; cases e
  · rintro ⟨va, s1, e1, x, e2, y, e3, q⟩
    cases y with
    | true =>
      obtain ⟨v, s2, e4, q⟩ := q
      exact ⟨v, s2, by simp only [e1, e2, e3, e4], q⟩
    | false => exact ⟨_, _, by simp only [e1, e2, e3], q⟩
theorem r_or : R2 (eOr a b ρ st) Q ↔ R2 (a ρ st) fun v s => R1 (lookR s v) fun x => R1 (truD x) fun y => match y with
    | true => Q v s
    | false => R2 (b ρ s) Q := by
  unfold eOr
  constructor
  · rintro ⟨v, s, e, q⟩
    revert e
    split
    · rename_i va s1 e1
      split
      · rename_i x e2
        split
        · rename_i e3
          intro e; cases e
          exact ⟨_, _, e1, _, e2, _, e3, q⟩
        · rename_i e3
          exact fun e => ⟨_, _, e1, _, e2, _, e3, _, _, e, q⟩
        · intro e; cases e
      · intro e; cases e
    · intro e; cases e
  · rintro ⟨va, s1, e1, x, e2, y, e3, q⟩
    cases y with
    | false =>
      obtain ⟨v, s2, e4, q⟩ := q
      exact ⟨v, s2, by simp only [e1, e2, e3, e4], q⟩
    | true => exact ⟨_, _, by simp only [e1, e2, e3], q⟩
theorem r_not : R2 (eNot a ρ st) Q ↔ R2 (a ρ st) fun v s => R1 (lookR s v) fun x => R1 (truD x) fun y => Q (.d (.bool !y)) s := by
  unfold eNot
  constructor
  · rintro ⟨v, s, e, q⟩
    revert e
    split
    · rename_i va s1 e1
      split
      · rename_i x e2
        intro e
        obtain ⟨z, e5, e6⟩ := Option.map_eq_some_iff.mp e
        cases e6
        exact ⟨va, _, e1, x, e2, _, e5, q⟩
      · intro e; cases e
    · intro e; cases e
  · rintro ⟨va, s1, e1, x, e2, y, e3, q⟩
    exact ⟨_, s1, by simp only [e1, e2, e3, Option.map_some], q⟩
theorem r_nil : R2 (aNil ρ st) Qa ↔ Qa [] st := r2_some
theorem r_cons : R2 (aCons a fr ρ st) Qa ↔ R2 (a ρ st) fun v s1 => R2 (fr ρ s1) fun vs s2 => Qa (v :: vs) s2 := by
  unfold aCons
  constructor
  · rintro ⟨v, s, e, q⟩
    revert e
    split
    · rename_i va s1 e1
      split
      · rename_i vs s2 e2
        intro e; cases e
        exact ⟨_, _, e1, _, _, e2, q⟩
      · intro e; cases e
    · intro e; cases e
  · rintro ⟨va, s1, e1, vs, s2, e2, q⟩
    exact ⟨_, _, by simp only [e1, e2], q⟩
theorem r_tup : R2 (eTup fa ρ st) Q ↔ R2 (fa ρ st) fun vs s => R1 (datas vs) fun xs => xs.length ≤ sizeLine ∧ Q (.d (.tuple xs)) s := by
  unfold eTup
  constructor
  · rintro ⟨v, s, e, q⟩
    revert e
    split
    · rename_i va s1 e1
      split
      · rename_i xs e2
        split
        · rename_i hl
          intro e; cases e
          exact ⟨_, _, e1, _, e2, hl, q⟩
        · intro e; cases e
      · intro e; cases e
    · intro e; cases e
  · rintro ⟨va, s1, e1, xs, e2, hl, q⟩
    exact ⟨_, _, by simp only [e1, e2, if_pos hl], q⟩
theorem r_lst : R2 (eLst fa ρ st) Q ↔ R2 (fa ρ st) fun vs s => R1 (datas vs) fun xs => xs.length ≤ sizeLine ∧ Q (.d (.list xs)) s := by
  unfold eLst
  constructor
  · rintro ⟨v, s, e, q⟩
    revert e
    split
    · rename_i va s1 e1
      split
      · rename_i xs e2
        split
        · rename_i hl
          intro e; cases e
          exact ⟨_, _, e1, _, e2, hl, q⟩
        · intro e; cases e
      · intro e; cases e
    · intro e; cases e
  · rintro ⟨va, s1, e1, xs, e2, hl, q⟩
    exact ⟨_, _, by simp only [e1, e2, if_pos hl], q⟩
theorem r_lstN : R2 (eLstN fa ρ st) Q ↔ R2 (fa ρ st) fun vs s => vs.length ≤ sizeLine ∧ Q (.r s.length) (s ++ [.lst vs]) := by
  unfold eLstN
  constructor
  · rintro ⟨v, s, e, q⟩
    revert e
    split
    · rename_i va s1 e1
      split
      · rename_i hl
        intro e; cases e
        exact ⟨_, _, e1, hl, q⟩
      · intro e; cases e
    · intro e; cases e
  · rintro ⟨va, s1, e1, hl, q⟩
    exact ⟨_, _, by simp only [e1, if_pos hl], q⟩
theorem r_cb {g : List PyData → Option PyData} : R2 (eCB g fa ρ st) Q ↔ R2 (fa ρ st) fun vs s => R1 (looks s vs) fun xs => R1 (g xs) fun z => Q (.d z) s := by
  unfold eCB
  constructor
  · rintro ⟨v, s, e, q⟩
    revert e
    split
    · rename_i va s1 e1
      split
      · rename_i x e2
        intro e
        obtain ⟨z, e5, e6⟩ := Option.map_eq_some_iff.mp e
        cases e6
        exact ⟨va, _, e1, x, e2, _, e5, q⟩
      · intro e; cases e
    · intro e; cases e
  · rintro ⟨va, s1, e1, x, e2, y, e3, q⟩
    exact ⟨_, s1, by simp only [e1, e2, e3, Option.map_some], q⟩
theorem r_is {k : Kq} : R2 (eIs k a ρ st) Q ↔ R2 (a ρ st) fun v s => R1 (lookR s v) fun x => Q (.d (.bool (isK k x))) s := by
  unfold eIs
  constructor
  · rintro ⟨v, s, e, q⟩
    revert e
    split
    · rename_i va s1 e1
      split
      · rename_i x e2
        intro e; cases e
        exact ⟨va, _, e1, x, e2, q⟩
      · intro e; cases e
    · intro e; cases e
  · rintro ⟨va, s1, e1, x, e2, q⟩
    exact ⟨_, s1, by simp only [e1, e2], q⟩
theorem r_call {n : Nat} {F : FF} : R2 (eCall n F fa ρ st) Q ↔ R2 (fa ρ st) fun vs s => vs.length = n ∧ R2 (F vs s) Q := by
  unfold eCall
  constructor
  · rintro ⟨v, s, e, q⟩
    revert e
    split
    · rename_i va s1 e1
      split
      · rename_i hl
        exact fun e => ⟨_, _, e1, hl, _, _, e, q⟩
      · intro e; cases e
    · intro e; cases e
  · rintro ⟨va, s1, e1, hl, v, s, e, q⟩
    exact ⟨_, _, by simp only [e1, if_pos hl, e], q⟩
theorem r_neg : R2 (eNeg a ρ st) Q ↔ R2 (a ρ st) fun v s => match v with
    | .d (.int i) => Q (.d (.int (-i))) s
    | _ => False := by
  unfold eNeg
  constructor
  · rintro ⟨v, s, e, q⟩
    revert e
    split
    · rename_i i s1 e1
      intro e; cases e
      exact ⟨_, _, e1, q⟩
    · intro e; cases e
  · rintro ⟨v, s, e1, q⟩
    split at q
    · exact ⟨_, _, by simp only [e1], q⟩
    · exact q.elim
theorem r_rev {i : Nat} {xs : List PyData} (h : ρ[i]? = some (some (.d (.tuple xs)))) : R2 (eRev i ρ st) Q ↔ Q (.d (.tuple xs.reverse)) st := by
  unfold eRev
  rw [h]
  exact r2_some
theorem r_chain {g g' : PyData → PyData → Option PyData} {e3 : EF} : R2 (eChain g g' a b e3 ρ st) Q ↔ R2 (a ρ st) fun va s1 => R2 (b ρ s1) fun vb s2 => R1 (lookR s2 va) fun x => R1 (lookR s2 vb) fun y => R1 (g x y) fun t => match t with
    | .bool true => R2 (e3 ρ s2) fun vc s3 => R1 (lookR s3 vb) fun y' => R1 (lookR s3 vc) fun z => R1 (g' y' z) fun u => Q (.d u) s3
    | .bool false => Q (.d (.bool false)) s2
    | _ => False := by
  unfold eChain
  constructor
  · rintro ⟨v, s, e, q⟩
    revert e
    split
    · rename_i va s1 e1
      split
      · rename_i vb s2 e2
        split
        · rename_i x y e3 e4
          split
          · rename_i e5
            split
            · rename_i vc s3 e6
              split
              · rename_i y' z e7 e8
                intro e
                obtain ⟨u, e9, e10⟩ := Option.map_eq_some_iff.mp e
                cases e10
                exact ⟨_, _, e1, _, _, e2, _, e3, _, e4, _, e5, _, _, e6, _, e7, _, e8, _, e9, q⟩
              · intro e; cases e
            · intro e; cases e
          · rename_i e5
            intro e; cases e
            exact ⟨_, _, e1, _, _, e2, _, e3, _, e4, _, e5, q⟩
          · intro e; cases e
        · intro e; cases e
      · intro e; cases e
    · intro e; cases e
  · rintro ⟨va, s1, e1, vb, s2, e2, x, e3, y, e4, t, e5, q⟩
    split at q
    · obtain ⟨vc, s3, e6, y', e7, z, e8, u, e9, q⟩ := q
      exact ⟨_, _, by simp only [e1, e2, e3, e4, e5, e6, e7, e8, e9, Option.map_some], q⟩
    · exact ⟨_, _, by simp only [e1, e2, e3, e4, e5], q⟩
    · exact q.elim
theorem gMul_str {z : Str} {n : Int} (h : 2 ≤ n ∧ n ≤ 1000 ∧ 0 < z.length ∧ z.length ≤ 1000) : gMulD (.str z) (.int n) = some (.str (repStr z n)) := if_pos h
/-! slices -/
theorem ro_no {Qo : Option Int → Sto → Prop} : R2 (oNo ρ st) Qo ↔ Qo none st := r2_some
theorem ro_some {Qo : Option Int → Sto → Prop} : R2 (oSome a ρ st) Qo ↔ R2 (a ρ st) fun v s => match v with
    | .d (.int i) => Qo (some i) s
    | _ => False := by
  unfold oSome
  constructor
  · rintro ⟨v, s, e, q⟩
    revert e
    split
    · rename_i x s1 e1
      intro e; cases e
      exact ⟨_, _, e1, q⟩
    · intro e; cases e
  · rintro ⟨v, s, e1, q⟩
    split at q
    · exact ⟨_, _, by simp only [e1], q⟩
    · exact q.elim
theorem r_sl {lo hi : OF} : R2 (eSl a lo hi ρ st) Q ↔ R2 (a ρ st) fun v s1 => R2 (lo ρ s1) fun l s2 => R2 (hi ρ s2) fun h s3 => R1 (lookR s3 v) fun x => R1 (gSl l h x) fun z => Q (.d z) s3 := by
  unfold eSl
  constructor
  · rintro ⟨v, s, e, q⟩
    revert e
    split
    · rename_i va s1 e1
      split
      · rename_i l s2 e2
        split
        · rename_i h s3 e3
          split
          · rename_i x e4
            intro e
            obtain ⟨z, e5, e6⟩ := Option.map_eq_some_iff.mp e
            cases e6
            exact ⟨_, _, e1, _, _, e2, _, _, e3, _, e4, _, e5, q⟩
          · intro e; cases e
        · intro e; cases e
      · intro e; cases e
    · intro e; cases e
  · rintro ⟨va, s1, e1, l, s2, e2, h, s3, e3, x, e4, z, e5, q⟩
    exact ⟨_, _, by simp only [e1, e2, e3, e4, e5, Option.map_some], q⟩
theorem look_d {x : PyData} : lookR st (.d x) = some x := rfl
theorem looks_nil : looks st [] = some [] := rfl
theorem looks_d {x : PyData} {r : List Vd} : looks st (.d x :: r) = (looks st r).map (x :: ·) := by
  show (match lookR st (.d x), looks st r with
    | some x, some xs => some (x :: xs)
    | _, _ => none) = _
  rw [look_d]
  cases looks st r <;> rfl
theorem datas_nil : datas [] = some [] := rfl
theorem datas_d {x : PyData} {r : List Vd} : datas (.d x :: r) = (datas r).map (x :: ·) := rfl
theorem tru_b {x : Bool} : truD (.bool x) = some x := rfl
theorem tru_i {x : Int} : truD (.int x) = some (x != 0) := rfl
theorem r_ixC : R2 (eIxC a b ρ st) Q ↔ R2 (a ρ st) fun v s1 => match v with
    | .r n => R2 (b ρ s1) fun u s2 => match u with
      | .d (.int i) => R1 s2[n]? fun k => match k with
        | .lst xs => R1 (atI xs i) fun w => Q w s2
        | _ => False
      | _ => False
    | _ => False := by
  unfold eIxC
  constructor
  · rintro ⟨v, s, e, q⟩
    revert e
    split
    · rename_i n s1 e1
      split
      · rename_i i s2 e2
        split
        · rename_i xs e3
          intro e
          obtain ⟨w, e4, e5⟩ := Option.map_eq_some_iff.mp e
          cases e5
          exact ⟨_, _, e1, _, _, e2, _, e3, _, e4, q⟩
        · intro e; cases e
      · intro e; cases e
    · intro e; cases e
  · rintro ⟨v, s1, e1, q⟩
    cases v with
    | d x => exact q.elim
    | t xs => exact q.elim
    | r n =>
      obtain ⟨u, s2, e2, q⟩ := q
      split at q
      · obtain ⟨k, e3, q⟩ := q
        cases k with
        | lst xs =>
          obtain ⟨w, e4, q⟩ := q
          exact ⟨_, _, by simp only [e1, e2, e3, e4, Option.map_some], q⟩
        | _ => exact q.elim
      · exact q.elim
/-! targets, statements -/
variable {f g : SF} {t : TF}
theorem rt_nm {i : Nat} {v : Vd} {Qt : Env → Sto → Prop} : R2 (tNm i v ρ st) Qt ↔ Qt (ρ.set i (some v)) st := r2_some
theorem rs_next : R1 (sNext ρ st) Qs ↔ Qs (.nx ρ st) := r1_some
theorem rs_ret : R1 (sRet a ρ st) Qs ↔ R2 (a ρ st) fun v s => Qs (.rt v s) := by
  unfold sRet
  constructor
  · rintro ⟨o, e, q⟩
    revert e
    split
    · rename_i v s e1
      intro e; cases e
      exact ⟨_, _, e1, q⟩
    · intro e; cases e
  · rintro ⟨v, s, e1, q⟩
    exact ⟨_, by simp only [e1], q⟩
theorem rs_seq : R1 (sSeq f g ρ st) Qs ↔ R1 (f ρ st) fun o => match o with
    | .nx ρ1 st1 => R1 (g ρ1 st1) Qs
    | o => Qs o := by
  unfold sSeq
  constructor
  · rintro ⟨o, e, q⟩
    revert e
    split
    · rename_i v s e1
      exact fun e => ⟨_, e1, _, e, q⟩
    · rename_i h
      intro e
      refine ⟨o, e, ?_⟩
      cases o with
      | nx ρ1 s1 => exact (h _ _ e).elim
      | _ => exact q
  · rintro ⟨o, e1, q⟩
    cases o with
    | nx ρ1 s1 =>
      obtain ⟨o2, e2, q⟩ := q
      exact ⟨o2, by simp only [e1, e2], q⟩
    | _ => exact ⟨_, by simp only [e1], q⟩
theorem rs_if : R1 (sIf c f g ρ st) Qs ↔ R2 (c ρ st) fun x s => match x with
    | true => R1 (f ρ s) Qs
    | false => R1 (g ρ s) Qs := by
  unfold sIf
  constructor
  · rintro ⟨o, e, q⟩
    revert e
    split
    · rename_i s1 e1
      exact fun e => ⟨_, _, e1, _, e, q⟩
    · rename_i s1 e1
      exact fun e => ⟨_, _, e1, _, e, q⟩
    · intro e; cases e
  · rintro ⟨x, s, e1, q⟩
    cases x <;> (obtain ⟨o, e2, q⟩ := q; exact ⟨o, by simp only [e1, e2], q⟩)
theorem rs_asg : R1 (sAsg a t ρ st) Qs ↔ R2 (a ρ st) fun v s => R2 (t v ρ s) fun ρ1 s1 => Qs (.nx ρ1 s1) := by
  unfold sAsg
  constructor
  · rintro ⟨o, e, q⟩
    revert e
    split
    · rename_i v s e1
      split
      · rename_i ρ1 s1 e2
        intro e; cases e
        exact ⟨_, _, e1, _, _, e2, q⟩
      · intro e; cases e
    · intro e; cases e
  · rintro ⟨v, s, e1, ρ1, s1, e2, q⟩
    exact ⟨_, by simp only [e1, e2], q⟩
theorem rs_asgT {n : Nat} {u : TFs} : R1 (sAsgT fa n u ρ st) Qs ↔ R2 (fa ρ st) fun vs s => vs.length = n ∧ n ≤ 1000 ∧ R2 (u vs ρ s) fun ρ1 s1 => Qs (.nx ρ1 s1) := by
  unfold sAsgT
  constructor
  · rintro ⟨o, e, q⟩
    revert e
    split
    · rename_i v s e1
      split
      · rename_i hn
        split
        · rename_i ρ1 s1 e2
          intro e; cases e
          exact ⟨_, _, e1, hn.1, hn.2, _, _, e2, q⟩
        · intro e; cases e
      · intro e; cases e
    · intro e; cases e
  · rintro ⟨v, s, e1, h1, h2, ρ1, s1, e2, q⟩
    refine ⟨_, ?_, q⟩
    simp only [e1, if_pos (And.intro h1 h2), e2]
theorem rs_par {i j : Nat} : R1 (sPar i j fa ρ st) Qs ↔ R2 (fa ρ st) fun vs s => match vs with
    | [v, w] => Qs (.nx ((ρ.set i (some v)).set j (some w)) s)
    | _ => False := by
  unfold sPar
  constructor
  · rintro ⟨o, e, q⟩
    revert e
    split
    · rename_i v w s e1
      intro e; cases e
      exact ⟨_, _, e1, q⟩
    · intro e; cases e
  · rintro ⟨v, s, e1, q⟩
    split at q
    · exact ⟨_, by simp only [e1], q⟩
    · exact q.elim
theorem rt_nil {vs : List Vd} {Qt : Env → Sto → Prop} : R2 (tsNil vs ρ st) Qt ↔ vs = [] ∧ Qt ρ st := by
  unfold tsNil
  cases vs with
  | nil => exact ⟨fun h => ⟨rfl, r2_some.mp h⟩, fun h => r2_some.mpr h.2⟩
  | cons v r => exact ⟨fun ⟨_, _, e, _⟩ => (by cases e), fun h => nomatch h.1⟩
theorem rt_cons {v : Vd} {vs : List Vd} {u : TFs} {Qt : Env → Sto → Prop} : R2 (tsCons t u (v :: vs) ρ st) Qt ↔ R2 (t v ρ st) fun ρ1 s1 => R2 (u vs ρ1 s1) Qt := by
  unfold tsCons
  constructor
  · rintro ⟨o, s, e, q⟩
    revert e
    dsimp only
    split
    · rename_i ρ1 s1 e1
      exact fun e => ⟨_, _, e1, _, _, e, q⟩
    · intro e; cases e
  · rintro ⟨ρ1, s1, e1, ρ2, s2, e2, q⟩
    exact ⟨_, _, by simp only [e1, e2], q⟩
theorem rt_tp {n : Nat} {xs : List PyData} {u : TFs} {Qt : Env → Sto → Prop} : R2 (tTp n u (.d (.tuple xs)) ρ st) Qt ↔ xs.length = n ∧ R2 (u (xs.map .d) ρ st) Qt := by
  unfold tTp
  dsimp only
  by_cases h : xs.length = n
  · rw [if_pos h]
    exact ⟨fun q => ⟨h, q⟩, fun q => q.2⟩
  · rw [if_neg h]
    exact ⟨fun ⟨_, _, e, _⟩ => (by cases e), fun q => (h q.1).elim⟩
/-- x[i] op= y, x a cell that the right side leaves -/
theorem rs_augI {op : Int → Int → Int} {e3 : EF} {s1 s2 : Sto} {n j : Nat} {i u w : Int} {xs : List Vd} (h1 : a ρ st = some (.r n, s1)) (h2 : b ρ s1 = some (.d (.int i), s2)) (h3 : s2[n]? = some (.lst xs)) (h4 : ixN xs.length i = some j) (h5 : xs[j]? = some (.d (.int u))) (h6 : e3 ρ s2 = some (.d (.int w), s2)) :
    R1 (sAugI op a b e3 ρ st) Qs ↔ Qs (.nx ρ (s2.set n (.lst (xs.set j (.d (.int (op u w))))))) := by
  have e : sAugI op a b e3 ρ st = some (.nx ρ (s2.set n (.lst (xs.set j (.d (.int (op u w))))))) := by
    unfold sAugI
    simp only [h1, h2, h3, h4, h5, h6, if_true]
  rw [e, r1_some]
/-! comprehension, for -/
theorem ri_data {Qi : List Vd → Sto → Prop} : R2 (iData a ρ st) Qi ↔ R2 (a ρ st) fun v s => match v with
    | .d (.list xs) => Qi (xs.map .d) s
    | .d (.tuple xs) => Qi (xs.map .d) s
    | _ => False := by
  unfold iData
  constructor
  · rintro ⟨v, s, e, q⟩
    revert e
    split
    · rename_i xs s1 e1
      intro e; cases e
      exact ⟨_, _, e1, q⟩
    · rename_i xs s1 e1
      intro e; cases e
      exact ⟨_, _, e1, q⟩
    · intro e; cases e
  · rintro ⟨v, s, e1, q⟩
    split at q
    · exact ⟨_, _, by simp only [e1], q⟩
    · exact ⟨_, _, by simp only [e1], q⟩
    · exact q.elim
theorem ri_range1 {Qi : List Vd → Sto → Prop} : R2 (iRange1 fa ρ st) Qi ↔ R2 (fa ρ st) fun vs s => match vs with
    | [.d (.int j)] => -(2 ^ 62) ≤ j ∧ j < 2 ^ 62 ∧ Qi ((List.range j.toNat).map fun i : Nat => vInt i 0) s
    | _ => False := by
  unfold iRange1
  constructor
  · rintro ⟨v, s, e, q⟩
    revert e
    split
    · rename_i j s1 e1
      split
      · rename_i h
        intro e; cases e
        exact ⟨_, _, e1, h.1, h.2, q⟩
      · intro e; cases e
    · intro e; cases e
  · rintro ⟨v, s, e1, q⟩
    split at q
    · exact ⟨_, _, by simp only [e1]; rw [if_pos ⟨q.1, q.2.1⟩], q.2.2⟩
    · exact q.elim
theorem ri_range2 {Qi : List Vd → Sto → Prop} : R2 (iRange2 fa ρ st) Qi ↔ R2 (fa ρ st) fun vs s => match vs with
    | [.d (.int i), .d (.int j)] => -(2 ^ 62) ≤ i ∧ i < 2 ^ 62 ∧ -(2 ^ 62) ≤ j ∧ j < 2 ^ 62 ∧ Qi ((List.range (j - i).toNat).map fun k : Nat => vInt k i) s
    | _ => False := by
  unfold iRange2
  constructor
  · rintro ⟨v, s, e, q⟩
    revert e
    split
    · rename_i i j s1 e1
      split
      · rename_i h
        intro e; cases e
        exact ⟨_, _, e1, h.1, h.2.1, h.2.2.1, h.2.2.2, q⟩
      · intro e; cases e
    · intro e; cases e
  · rintro ⟨v, s, e1, q⟩
    split at q
    · exact ⟨_, _, by simp only [e1]; rw [if_pos ⟨q.1, q.2.1, q.2.2.1, q.2.2.2.1⟩], q.2.2.2.2⟩
    · exact q.elim
theorem ri_enum {Qi : List Vd → Sto → Prop} : R2 (iEnumL fa ρ st) Qi ↔ R2 (fa ρ st) fun vs s => match vs with
    | [.d (.list xs)] => Qi (enumD 0 xs) s
    | _ => False := by
  unfold iEnumL
  constructor
  · rintro ⟨v, s, e, q⟩
    revert e
    split
    · rename_i xs s1 e1
      intro e; cases e
      exact ⟨_, _, e1, q⟩
    · intro e; cases e
  · rintro ⟨v, s, e1, q⟩
    split at q
    · exact ⟨_, _, by simp only [e1], q⟩
    · exact q.elim
variable {i : IF} {own : List Nat}
theorem r_comp : R2 (eComp i t c a own ρ st) Q ↔ R2 (i ρ st) fun items s1 => R2 (compD t c a (wipeD ρ own) items s1) fun ws s2 => R1 (datas ws) fun xs => xs.length ≤ 16000000 ∧ Q (.d (.list xs)) s2 := by
  unfold eComp
  constructor
  · rintro ⟨v, s, e, q⟩
    revert e
    split
    · rename_i items s1 e1
      split
      · rename_i ws s2 e2
        split
        · rename_i xs e3
          split
          · rename_i hl
            intro e; cases e
            exact ⟨_, _, e1, _, _, e2, _, e3, hl, q⟩
          · intro e; cases e
        · intro e; cases e
      · intro e; cases e
    · intro e; cases e
  · rintro ⟨items, s1, e1, ws, s2, e2, xs, e3, hl, q⟩
    exact ⟨_, _, by simp only [e1, e2, e3, if_pos hl], q⟩
theorem datas_map (xs : List PyData) : datas (xs.map .d) = some xs := by
  induction xs with
  | nil => rfl
  | cons x xs ih =>
    show (datas (xs.map .d)).map (x :: ·) = _
    rw [ih]
    rfl
/-- a comprehension that takes all, item by item -/
theorem comp_inv {P : PyData → Prop} {I : Sto → Prop} : ∀ {items : List Vd} {st : Sto}, (∀ v ∈ items, ∀ s, I s → R2 (t v ρ s) fun ρ1 s1 => R2 (a ρ1 s1) fun w s3 => (∃ x, w = .d x ∧ P x) ∧ I s3) → I st →
    R2 (compD t bYes a ρ items st) fun ws s' => (∃ xs : List PyData, ws = xs.map .d ∧ (∀ x ∈ xs, P x) ∧ xs.length = items.length) ∧ I s'
  | [], st, _, h => r2_some.mpr ⟨⟨[], rfl, (fun _ h => nomatch h), rfl⟩, h⟩
  | v :: vs, st, f, h => by
    obtain ⟨ρ1, s1, e1, w, s3, e2, ⟨x, rfl, px⟩, i3⟩ := f v List.mem_cons_self st h
    obtain ⟨ws, s', e3, ⟨xs, rfl, ps, hl⟩, i4⟩ := comp_inv (fun u hu => f u (List.mem_cons_of_mem _ hu)) i3
    refine ⟨_, s', ?_, ⟨x :: xs, rfl, ?_, by rw [List.length_cons, List.length_cons, hl]⟩, i4⟩
    · unfold compD
      simp only [e1, e2, e3, bYes, Option.map_some, List.map_cons]
    · intro y hy
      rcases List.mem_cons.mp hy with rfl | hy
      · exact px
      · exact ps y hy
/-- .. where the store stays and the items are told -/
theorem comp_told {h : Vd → PyData} : ∀ {items : List Vd}, (∀ v ∈ items, R2 (t v ρ st) fun ρ1 s1 => R2 (a ρ1 s1) fun w s3 => w = .d (h v) ∧ s3 = st) → compD t bYes a ρ items st = some ((items.map h).map .d, st)
  | [], _ => rfl
  | v :: vs, f => by
    have ih := comp_told (h := h) (fun u hu => f u (List.mem_cons_of_mem _ hu))
    obtain ⟨ρ1, s1, e1, w, s3, e2, rfl, rfl⟩ := f v List.mem_cons_self
    unfold compD
    simp only [e1, e2, bYes, ih, Option.map_some, List.map_cons]
/-- .. where some are left out -/
theorem comp_sieve {h : Vd → PyData} {p : Vd → Bool} : ∀ {items : List Vd}, (∀ v ∈ items, R2 (t v ρ st) fun ρ1 s1 => R2 (c ρ1 s1) fun b s2 => b = p v ∧ s2 = st ∧ R2 (a ρ1 st) fun w s3 => w = .d (h v) ∧ s3 = st) → compD t c a ρ items st = some (((items.filter p).map h).map .d, st)
  | [], _ => rfl
  | v :: vs, f => by
    have ih := comp_sieve (h := h) (p := p) (fun u hu => f u (List.mem_cons_of_mem _ hu))
    obtain ⟨ρ1, s1, e1, b, s2, e2, rfl, rfl, w, s3, e3, rfl, rfl⟩ := f v List.mem_cons_self
    unfold compD
    cases hp : p v with
    | true =>
      rw [hp] at e2
      simp only [e1, e2, e3, ih, Option.map_some, List.filter_cons, hp, if_true, List.map_cons]
    | false =>
      rw [hp] at e2
      simp only [e1, e2, ih, List.filter_cons, hp, Bool.false_eq_true, if_false]
/-- .. with what holds of the results so far, what is left, and the store -/
theorem comp_go {I : List PyData → List Vd → Sto → Prop} (f : ∀ xs v vs s, I xs (v :: vs) s → R2 (t v ρ s) fun ρ1 s1 => R2 (a ρ1 s1) fun w s3 => ∃ x, w = .d x ∧ I (xs ++ [x]) vs s3) : ∀ {items : List Vd} {xs : List PyData} {st : Sto}, I xs items st →
    R2 (compD t bYes a ρ items st) fun ws s' => ∃ ys, ws = ys.map .d ∧ I (xs ++ ys) [] s'
  | [], xs, st, h => r2_some.mpr ⟨[], rfl, by rw [List.append_nil]; exact h⟩
  | v :: vs, xs, st, h => by
    obtain ⟨ρ1, s1, e1, w, s3, e2, x, rfl, i3⟩ := f xs v vs st h
    obtain ⟨ws, s', e3, ys, rfl, i4⟩ := comp_go f i3
    refine ⟨_, s', ?_, x :: ys, rfl, by rw [List.append_assoc] at i4; exact i4⟩
    unfold compD
    simp only [e1, e2, e3, bYes, Option.map_some, List.map_cons]
/-! a call, walked through its body -/
theorem rf_of {N : List Str} {g : SF} {args : List Vd} (h : R1 (g (startD N args) st) fun o => match o with
    | .rt v s => st.length ≤ s.length ∧ Q v s
    | _ => False) : R2 (FnOf N g args st) Q := by
  obtain ⟨o, e, q⟩ := h
  cases o with
  | rt v s => exact ⟨v, s, fnOf_eq e q.1, q.2⟩
  | _ => exact q.elim
theorem rf_cut {N : List Str} {g : SF} {args : List Vd} (h : R1 (g (startD N args) st) fun o => match o with
    | .rt v s => ∃ s' j, s = s' ++ j ∧ st.length = s'.length ∧ Clo s'.length s' ∧ CloV s'.length v ∧ Q v s'
    | _ => False) : R2 (FnCut N g args st) Q := by
  obtain ⟨o, e, q⟩ := h
  cases o with
  | rt v s =>
    obtain ⟨s', j, rfl, h1, h2, h3, q⟩ := q
    exact ⟨v, s', fnCut_eq e h1 h2 h3, q⟩
  | _ => exact q.elim
theorem rf_to {N : List Str} {g : SF} {args : List Vd} (h : R2 (FnOf N g args st) Q) : R1 (g (startD N args) st) fun o => match o with
    | .rt v s => Q v s
    | _ => False := by
  obtain ⟨v, s, e, q⟩ := h
  unfold FnOf at e
  split at e
  · rename_i w t e2
    split at e
    · cases e
      exact ⟨_, e2, q⟩
    · cases e
  · cases e
end Dl

set_option Elab.async false
set_option linter.all false
set_option maxRecDepth 100000
set_option maxHeartbeats 4000000
namespace Dl
open PySem PySem.Spec PyProof.Rows L2 Pg
/-! ### data whose repr is told: leaves, depth, weight -/
mutual
/-- integers up to 10^39 and k, texts of code points -/
def gd (k : Nat) : PyData → Bool
  | .none | .bool _ => true
  | .int i => decide (i.natAbs ≤ 10 ^ 39 + k)
  | .str x => PyData.strOk x
  | .list xs | .tuple xs => gdA k xs
  | .dict kvs => gdK k kvs
def gdA (k : Nat) : List PyData → Bool
  | [] => true
  | x :: xs => gd k x && gdA k xs
def gdK (k : Nat) : List (PyData × PyData) → Bool
  | [] => true
  | (a, b) :: r => gd k a && gd k b && gdK k r
end
theorem gdA_iff {k : Nat} : ∀ {xs : List PyData}, gdA k xs = true ↔ ∀ x ∈ xs, gd k x = true
  | [] => by simp [gdA]
  | x :: xs => by simp [gdA, gdA_iff (xs := xs)]
theorem depthAll_iff {n : Nat} : ∀ {xs : List PyData}, PyData.depthAll xs ≤ n ↔ ∀ x ∈ xs, x.depth ≤ n
  | [] => by simp [PyData.depthAll]
  | x :: xs => by simp [PyData.depthAll, Nat.max_le, depthAll_iff (xs := xs)]
theorem weightAll_app : ∀ {xs ys : List PyData}, PyData.weightAll (xs ++ ys) = PyData.weightAll xs + PyData.weightAll ys
  | [], ys => by simp [PyData.weightAll]
  | x :: xs, ys => by
    simp only [List.cons_append, PyData.weightAll, weightAll_app (xs := xs)]
    omega
theorem weightAll_le {w : Nat} : ∀ {xs : List PyData}, (∀ x ∈ xs, x.weight ≤ w) → PyData.weightAll xs ≤ xs.length * (w + 1)
  | [], _ => by simp [PyData.weightAll]
  | x :: xs, h => by
    have h1 := h x List.mem_cons_self
    have h2 := weightAll_le (xs := xs) fun y hy => h y (List.mem_cons_of_mem _ hy)
    simp only [PyData.weightAll, List.length_cons, Nat.add_mul]
    omega
theorem weight_mem {x : PyData} : ∀ {xs : List PyData}, x ∈ xs → x.weight + 1 ≤ PyData.weightAll xs
  | [], h => nomatch h
  | y :: ys, h => by
    simp only [PyData.weightAll]
    rcases List.mem_cons.mp h with rfl | h
    · omega
    · have := weight_mem h
      omega
theorem len_weight : ∀ {xs : List PyData}, xs.length ≤ PyData.weightAll xs
  | [] => by simp
  | x :: xs => by
    have := len_weight (xs := xs)
    simp only [PyData.weightAll, List.length_cons]
    omega
mutual
theorem gd_short {k : Nat} (hk : k ≤ 100) : ∀ d : PyData, gd k d = true → d.leavesShort 60 = true
  | .none, _ => rfl
  | .bool _, _ => rfl
  | .int i, h => by
    simp only [gd, decide_eq_true_eq] at h
    simp only [PyData.leavesShort, decide_eq_true_eq]
    have e := int_text_length_le10 (a := i) (k := 40) (by decide) (Nat.lt_of_le_of_lt h (by omega))
    show (Str.ofString (toString i)).length ≤ 60
    rw [PySem.ofString_length]
    omega
  | .str x, h => by
    simp only [gd, PyData.strOk] at h
    simp only [PyData.leavesShort, List.all_eq_true, decide_eq_true_eq]
    intro c hc
    have := Array.all_eq_true'.mp h c (Array.mem_toList_iff.mp hc)
    have := of_decide_eq_true this
    omega
  | .list xs, h => by simp only [PyData.leavesShort]; exact gdA_short hk xs (by simpa only [gd] using h)
  | .tuple xs, h => by simp only [PyData.leavesShort]; exact gdA_short hk xs (by simpa only [gd] using h)
  | .dict kvs, h => by simp only [PyData.leavesShort]; exact gdK_short hk kvs (by simpa only [gd] using h)
theorem gdA_short {k : Nat} (hk : k ≤ 100) : ∀ xs : List PyData, gdA k xs = true → PyData.leavesShortAll 60 xs = true
  | [], _ => rfl
  | x :: xs, h => by
    simp only [gdA, Bool.and_eq_true] at h
    simp only [PyData.leavesShortAll, Bool.and_eq_true]
    exact ⟨gd_short hk x h.1, gdA_short hk xs h.2⟩
theorem gdK_short {k : Nat} (hk : k ≤ 100) : ∀ kvs : List (PyData × PyData), gdK k kvs = true → PyData.leavesShortKv 60 kvs = true
  | [], _ => rfl
  | (a, b) :: r, h => by
    simp only [gdK, Bool.and_eq_true] at h
    simp only [PyData.leavesShortKv, Bool.and_eq_true]
    exact ⟨⟨gd_short hk a h.1.1, gd_short hk b h.1.2⟩, gdK_short hk r h.2⟩
end
theorem log2_39 {k : Nat} {i : Int} (hk : k ≤ 100) (h : i.natAbs ≤ 10 ^ 39 + k) : i.natAbs.log2 < 140 := log2_le (k := 140) (Nat.lt_of_le_of_lt h (Nat.lt_of_le_of_lt (Nat.add_le_add_left hk _) (by decide))) (by decide)
mutual
theorem gd_show {k : Nat} (hk : k ≤ 100) : ∀ d : PyData, gd k d = true → d.showable = true
  | .none, _ => rfl
  | .bool _, _ => rfl
  | .int i, h => by
    simp only [gd, decide_eq_true_eq] at h
    simp only [PyData.showable, decide_eq_true_eq]
    exact Nat.lt_of_lt_of_le (log2_39 hk h) (by decide)
  | .str x, h => rfl
  | .list xs, h => by simp only [PyData.showable]; exact gdA_show hk xs (by simpa only [gd] using h)
  | .tuple xs, h => by simp only [PyData.showable]; exact gdA_show hk xs (by simpa only [gd] using h)
  | .dict kvs, h => by simp only [PyData.showable]; exact gdK_show hk kvs (by simpa only [gd] using h)
theorem gdA_show {k : Nat} (hk : k ≤ 100) : ∀ xs : List PyData, gdA k xs = true → PyData.showableAll xs = true
  | [], _ => rfl
  | x :: xs, h => by
    simp only [gdA, Bool.and_eq_true] at h
    simp only [PyData.showableAll, Bool.and_eq_true]
    exact ⟨gd_show hk x h.1, gdA_show hk xs h.2⟩
theorem gdK_show {k : Nat} (hk : k ≤ 100) : ∀ kvs : List (PyData × PyData), gdK k kvs = true → PyData.showableKv kvs = true
  | [], _ => rfl
  | (a, b) :: r, h => by
    simp only [gdK, Bool.and_eq_true] at h
    simp only [PyData.showableKv, Bool.and_eq_true]
    exact ⟨⟨gd_show hk a h.1.1, gd_show hk b h.1.2⟩, gdK_show hk r h.2⟩
end
mutual
theorem gd_up {k j : Nat} (hk : k ≤ j) : ∀ d : PyData, gd k d = true → gd j d = true
  | .none, _ => rfl
  | .bool _, _ => rfl
  | .int i, h => by
    simp only [gd, decide_eq_true_eq] at h ⊢
    omega
  | .str x, h => h
  | .list xs, h => by simp only [gd]; exact gdA_up hk xs (by simpa only [gd] using h)
  | .tuple xs, h => by simp only [gd]; exact gdA_up hk xs (by simpa only [gd] using h)
  | .dict kvs, h => by simp only [gd]; exact gdK_up hk kvs (by simpa only [gd] using h)
theorem gdA_up {k j : Nat} (hk : k ≤ j) : ∀ xs : List PyData, gdA k xs = true → gdA j xs = true
  | [], _ => rfl
  | x :: xs, h => by
    simp only [gdA, Bool.and_eq_true] at h ⊢
    exact ⟨gd_up hk x h.1, gdA_up hk xs h.2⟩
theorem gdK_up {k j : Nat} (hk : k ≤ j) : ∀ kvs : List (PyData × PyData), gdK k kvs = true → gdK j kvs = true
  | [], _ => rfl
  | (a, b) :: r, h => by
    simp only [gdK, Bool.and_eq_true] at h ⊢
    exact ⟨⟨gd_up hk a h.1.1, gd_up hk b h.1.2⟩, gdK_up hk r h.2⟩
end
/-- data of at most n levels and weight W -/
structure Nic (k n W : Nat) (d : PyData) : Prop where
  g : gd k d = true
  dp : d.depth ≤ n
  wt : d.weight ≤ W
theorem Nic.up {k n W k' n' W' : Nat} {d : PyData} (h : Nic k n W d) (hk : k ≤ k') (hn : n ≤ n') (hw : W ≤ W') : Nic k' n' W' d := ⟨gd_up hk _ h.g, Nat.le_trans h.dp hn, Nat.le_trans h.wt hw⟩
theorem Nic.repr {k n W : Nat} {d : PyData} (h : Nic k n W d) (hk : k ≤ 100) (hn : n ≤ 60) (hw : W ≤ 250000) : gRepr [d] = some (.str d.shown) := by
  have h1 := PyData.shown_le 60 (by decide) d (gd_short hk d h.g)
  have h2 := h.wt
  have h3 := h.dp
  unfold gRepr
  dsimp only
  rw [if_pos]
  simp only [Bool.and_eq_true, decide_eq_true_eq]
  refine ⟨⟨by omega, gd_show hk d h.g⟩, Nat.le_trans (m := 16000000) ?_ (by decide)⟩
  have : (60 + 2) * d.weight ≤ 62 * 250000 := Nat.mul_le_mul (Nat.le_refl _) (by omega)
  omega
theorem Nic.leaf {k n : Nat} {d : PyData} (hg : gd k d = true) (hd : d.depth = 0) {W : Nat} (hw : d.weight ≤ W) : Nic k n W d := ⟨hg, by omega, hw⟩
theorem Nic.tup {k n W : Nat} {ds : List PyData} (h : ∀ d ∈ ds, gd k d = true ∧ d.depth ≤ n) (hw : PyData.weightAll ds ≤ W) : Nic k (n + 1) W (.tuple ds) := by
  refine ⟨?_, ?_, ?_⟩
  · simp only [gd]
    exact gdA_iff.mpr fun d hd => (h d hd).1
  · simp only [PyData.depth]
    exact Nat.succ_le_succ (depthAll_iff.mpr fun d hd => (h d hd).2)
  · simpa only [PyData.weight] using hw
theorem Nic.list {k n W : Nat} {ds : List PyData} (h : ∀ d ∈ ds, gd k d = true ∧ d.depth ≤ n) (hw : PyData.weightAll ds ≤ W) : Nic k (n + 1) W (.list ds) := by
  refine ⟨?_, ?_, ?_⟩
  · simp only [gd]
    exact gdA_iff.mpr fun d hd => (h d hd).1
  · simp only [PyData.depth]
    exact Nat.succ_le_succ (depthAll_iff.mpr fun d hd => (h d hd).2)
  · simpa only [PyData.weight] using hw
theorem gdK_of {k : Nat} : ∀ {kvs : List (PyData × PyData)}, (∀ p ∈ kvs, gd k p.1 = true ∧ gd k p.2 = true) → gdK k kvs = true
  | [], _ => rfl
  | (a, b) :: r, h => by
    have h1 := h (a, b) List.mem_cons_self
    simp only [gdK, Bool.and_eq_true]
    exact ⟨⟨h1.1, h1.2⟩, gdK_of fun p hp => h p (List.mem_cons_of_mem _ hp)⟩
theorem depthKv_of {n : Nat} : ∀ {kvs : List (PyData × PyData)}, (∀ p ∈ kvs, p.1.depth ≤ n ∧ p.2.depth ≤ n) → PyData.depthKv kvs ≤ n
  | [], _ => by simp [PyData.depthKv]
  | (a, b) :: r, h => by
    have h1 := h (a, b) List.mem_cons_self
    have h2 := depthKv_of (kvs := r) fun p hp => h p (List.mem_cons_of_mem _ hp)
    simp only [PyData.depthKv, Nat.max_le]
    exact ⟨⟨h1.1, h1.2⟩, h2⟩
theorem Nic.dict {k n W : Nat} {kvs : List (PyData × PyData)} (h : ∀ p ∈ kvs, (gd k p.1 = true ∧ p.1.depth = 0) ∧ gd k p.2 = true ∧ p.2.depth ≤ n) (hw : PyData.weightKv kvs ≤ W) : Nic k (n + 1) W (.dict kvs) := by
  refine ⟨?_, ?_, ?_⟩
  · simp only [gd]
    exact gdK_of fun p hp => ⟨(h p hp).1.1, (h p hp).2.1⟩
  · simp only [PyData.depth]
    exact Nat.succ_le_succ (depthKv_of fun p hp => ⟨by rw [(h p hp).1.2]; omega, (h p hp).2.2⟩)
  · simpa only [PyData.weight] using hw
/-- what a tuple holds -/
theorem Nic.parts {k n W : Nat} {ds : List PyData} (h : Nic k n W (.tuple ds)) : ∃ m, n = m + 1 ∧ (∀ d ∈ ds, gd k d = true ∧ d.depth ≤ m) ∧ PyData.weightAll ds ≤ W := by
  obtain ⟨g, d, w⟩ := h
  simp only [gd] at g
  simp only [PyData.depth] at d
  simp only [PyData.weight] at w
  cases n with
  | zero => omega
  | succ m => exact ⟨m, rfl, fun x hx => ⟨gdA_iff.mp g x hx, depthAll_iff.mp (by omega) x hx⟩, w⟩
/-! == -/
theorem gEq_self {d : PyData} (h : d.depth ≤ 60) : gEq d d = some (.bool true) := by
  unfold gEq
  by_cases hs : SeqAt.shaped d = true
  · rw [if_pos ⟨hs, hs⟩, SeqAt.eqv_refl d (SeqAt.canLay_of_shaped hs)]
  · rw [if_neg (fun x => hs x.1), if_pos ⟨rfl, h⟩]
end Dl
namespace Dl
open PySem PySem.Spec PyProof.Rows L2 Pg
theorem eqv_nilT {ds : List PyData} : PyData.eqv (.tuple ds) (.tuple []) = ds.isEmpty := by
  cases ds <;> simp [PyData.eqv, PyData.eqvAll]
theorem eqv_nilL {ds : List PyData} : PyData.eqv (.list ds) (.list []) = ds.isEmpty := by
  cases ds <;> simp [PyData.eqv, PyData.eqvAll]
theorem gNe_nilT {ds : List PyData} : gNe (.tuple ds) (.tuple []) = some (.bool (!ds.isEmpty)) := by
  unfold gNe
  split
  · rw [eqv_nilT]
  · rfl
theorem gNe_nilL {ds : List PyData} : gNe (.list ds) (.list []) = some (.bool (!ds.isEmpty)) := by
  unfold gNe
  split
  · rw [eqv_nilL]
  · rfl
theorem gEq_nilT {ds : List PyData} : gEq (.tuple ds) (.tuple []) = some (.bool ds.isEmpty) := by
  unfold gEq
  split
  · rw [eqv_nilT]
  · split
    · rename_i h
      obtain ⟨h, _⟩ := h
      cases h
      rfl
    · rfl
theorem gEq_nilL {ds : List PyData} : gEq (.list ds) (.list []) = some (.bool ds.isEmpty) := by
  unfold gEq
  split
  · rw [eqv_nilL]
  · split
    · rename_i h
      obtain ⟨h, _⟩ := h
      cases h
      rfl
    · rfl
end Dl
namespace Dl
open PySem PySem.Spec PyProof.Rows L2 Pg
theorem cut_to (xs : List PyData) (z : Nat) : cutD xs none (some (z : Int)) = xs.take z := by
  unfold cutD
  rw [HT.sIx_nat, HT.sIx_none, Nat.sub_zero, List.drop_zero]
  by_cases h : z ≤ xs.length
  · rw [Nat.min_eq_left h]
  · rw [Nat.min_eq_right (by omega), List.take_length, List.take_of_length_le (by omega)]
theorem cut_from (xs : List PyData) (z : Nat) : cutD xs (some (z : Int)) none = xs.drop z := by
  unfold cutD
  rw [HT.sIx_nat, HT.sIx_none]
  by_cases h : z ≤ xs.length
  · rw [Nat.min_eq_left h, List.take_of_length_le (by rw [List.length_drop]; omega)]
  · rw [Nat.min_eq_right (by omega), Nat.sub_self, List.take_zero, List.drop_of_length_le (by omega)]
theorem gSl_toT {xs : List PyData} {z : Nat} : gSl none (some (z : Int)) (.tuple xs) = some (.tuple (xs.take z)) := by rw [← cut_to]; rfl
theorem gSl_fromT {xs : List PyData} {z : Nat} : gSl (some (z : Int)) none (.tuple xs) = some (.tuple (xs.drop z)) := by rw [← cut_from]; rfl
theorem gSl_toL {xs : List PyData} {z : Nat} : gSl none (some (z : Int)) (.list xs) = some (.list (xs.take z)) := by rw [← cut_to]; rfl
theorem gSl_fromL {xs : List PyData} {z : Nat} : gSl (some (z : Int)) none (.list xs) = some (.list (xs.drop z)) := by rw [← cut_from]; rfl
end Dl
namespace Dl
open PySem PySem.Spec PyProof.Rows L2 Pg
theorem strOk_text (s : String) : PyData.strOk (Str.ofString s) = true := by
  rw [Str.ofString_eq_toList]
  unfold PyData.strOk
  rw [Array.all_eq_true']
  intro c hc
  rw [← Array.mem_toList_iff] at hc
  obtain ⟨x, _, rfl⟩ := List.mem_map.mp hc
  have := x.valid
  refine decide_eq_true ?_
  show x.val.toNat < _
  rcases this with h | h
  · exact Nat.lt_trans h (by decide)
  · exact h.2
theorem size_text (s : String) : (Str.ofString s).cps.size = s.length := PySem.ofString_length s
end Dl
namespace Dl
open PySem PySem.Spec PyProof.Rows L2 Pg
theorem weight_split (xs : List PyData) (z : Nat) : PyData.weightAll (xs.take z) + PyData.weightAll (xs.drop z) = PyData.weightAll xs := by
  rw [← weightAll_app, List.take_append_drop]
theorem weight_take (xs : List PyData) (z : Nat) : PyData.weightAll (xs.take z) ≤ PyData.weightAll xs := by
  have := weight_split xs z
  omega
theorem weight_drop (xs : List PyData) (z : Nat) : PyData.weightAll (xs.drop z) ≤ PyData.weightAll xs := by
  have := weight_split xs z
  omega
theorem weight_rev : ∀ (xs : List PyData), PyData.weightAll xs.reverse = PyData.weightAll xs
  | [] => rfl
  | x :: xs => by
    rw [List.reverse_cons, weightAll_app, weight_rev xs]
    simp only [PyData.weightAll]
    omega
end Dl
namespace Dl
open PySem PySem.Spec PyProof.Rows L2 Pg
theorem gNe_str {x y : Str} (h : x = y) : gNe (.str x) (.str y) = some (.bool false) := by
  subst h
  unfold gNe
  split
  · rename_i h
    rw [SeqAt.eqv_refl _ (SeqAt.canLay_of_shaped h.1)]
    rfl
  · simp [gNeF]
end Dl

set_option Elab.async false
set_option linter.all false
set_option maxRecDepth 100000
set_option maxHeartbeats 4000000
namespace Dl
open PySem PySem.Spec PyProof.Rows L2 Pg
/-! ### tuple(sorted(set(xs))), xs tuples of integers -/
def lxLt : List Int → List Int → Bool
  | [], [] => false
  | [], _ => true
  | _, [] => false
  | x :: xs, y :: ys => decide (x < y) || (decide (x = y) && lxLt xs ys)
theorem lx_irrefl : ∀ a : List Int, lxLt a a = false
  | [] => rfl
  | x :: xs => by simp [lxLt, lx_irrefl xs]
theorem lx_trans : ∀ {a b c : List Int}, lxLt a b = true → lxLt b c = true → lxLt a c = true
  | [], [], _, h, _ => by simp [lxLt] at h
  | [], _ :: _, [], _, h => by simp [lxLt] at h
  | [], _ :: _, _ :: _, _, _ => rfl
  | _ :: _, [], _, h, _ => by simp [lxLt] at h
  | _ :: _, _ :: _, [], _, h => by simp [lxLt] at h
  | x :: xs, y :: ys, z :: zs, h1, h2 => by
    simp only [lxLt, Bool.or_eq_true, Bool.and_eq_true, decide_eq_true_eq] at h1 h2 ⊢
    rcases h1 with h1 | ⟨rfl, h1⟩ <;> rcases h2 with h2 | ⟨rfl, h2⟩
    · exact .inl (by omega)
    · exact .inl h1
    · exact .inl h2
    · exact .inr ⟨rfl, lx_trans h1 h2⟩
theorem lx_tri : ∀ (a b : List Int), lxLt a b = true ∨ a = b ∨ lxLt b a = true
  | [], [] => .inr (.inl rfl)
  | [], _ :: _ => .inl rfl
  | _ :: _, [] => .inr (.inr rfl)
  | x :: xs, y :: ys => by
    rcases Int.lt_trichotomy x y with h | h | h
    · exact .inl (by simp [lxLt, h])
    · subst h
      rcases lx_tri xs ys with h | h | h
      · exact .inl (by simp [lxLt, h])
      · exact .inr (.inl (by rw [h]))
      · exact .inr (.inr (by simp [lxLt, h]))
    · exact .inr (.inr (by simp [lxLt, h]))
theorem code_lx {B : Int} : ∀ {r q : List Int}, r.length = q.length → TS.Bd B r → TS.Bd B q → lxLt r q = true → TS.code B r < TS.code B q
  | [], [], _, _, _, h => by simp [lxLt] at h
  | [], _ :: _, h, _, _, _ => by simp at h
  | _ :: _, [], h, _, _, _ => by simp at h
  | x :: xs, y :: ys, hl, hr, hq, h => by
    simp only [lxLt, Bool.or_eq_true, Bool.and_eq_true, decide_eq_true_eq] at h
    simp only [List.length_cons, Nat.add_right_cancel_iff] at hl
    rcases h with h | ⟨rfl, h⟩
    · exact TS.code_lt hl hr.tail hq.tail h
    · exact (TS.code_same hl).mpr (code_lx hl hr.tail hq.tail h)
/-- into a list that ascends, once -/
def insU (x : List Int) : List (List Int) → List (List Int)
  | [] => [x]
  | y :: ys => if lxLt x y = true then x :: y :: ys else if x = y then y :: ys else y :: insU x ys
def sortU : List (List Int) → List (List Int)
  | [] => []
  | x :: xs => insU x (sortU xs)
def AscL (l : List (List Int)) : Prop := l.Pairwise fun a b => lxLt a b = true
theorem mem_ins {x z : List Int} : ∀ {l : List (List Int)}, z ∈ insU x l ↔ z = x ∨ z ∈ l
  | [] => by simp [insU]
  | y :: ys => by
    unfold insU
    split
    · simp
    · split
      · rename_i h
        subst h
        simp
      · simp only [List.mem_cons, mem_ins (l := ys)]
        constructor
        · rintro (h | h | h)
          · exact .inr (.inl h)
          · exact .inl h
          · exact .inr (.inr h)
        · rintro (h | h | h)
          · exact .inr (.inl h)
          · exact .inl h
          · exact .inr (.inr h)
theorem mem_sortU {z : List Int} : ∀ {l : List (List Int)}, z ∈ sortU l ↔ z ∈ l
  | [] => Iff.rfl
  | x :: xs => by
    unfold sortU
    rw [mem_ins, mem_sortU, List.mem_cons]
theorem asc_ins {x : List Int} : ∀ {l : List (List Int)}, AscL l → AscL (insU x l)
  | [], _ => List.pairwise_singleton _ _
  | y :: ys, h => by
    have h' := List.pairwise_cons.mp h
    unfold insU
    split
    · rename_i hx
      refine List.pairwise_cons.mpr ⟨fun z hz => ?_, h⟩
      rcases List.mem_cons.mp hz with rfl | hz
      · exact hx
      · exact lx_trans hx (h'.1 z hz)
    · split
      · exact h
      · rename_i h1 h2
        refine List.pairwise_cons.mpr ⟨fun z hz => ?_, asc_ins h'.2⟩
        rcases mem_ins.mp hz with rfl | hz
        · rcases lx_tri z y with h3 | h3 | h3
          · exact absurd h3 h1
          · exact absurd h3 h2
          · exact h3
        · exact h'.1 z hz
theorem asc_sortU : ∀ l : List (List Int), AscL (sortU l)
  | [] => List.Pairwise.nil
  | x :: xs => asc_ins (asc_sortU xs)
theorem asc_uniq : ∀ {l m : List (List Int)}, AscL l → AscL m → (∀ z, z ∈ l ↔ z ∈ m) → l = m
  | [], [], _, _, _ => rfl
  | [], y :: ys, _, _, h => nomatch (h y).mpr List.mem_cons_self
  | x :: xs, [], _, _, h => nomatch (h x).mp List.mem_cons_self
  | x :: xs, y :: ys, hl, hm, h => by
    obtain ⟨l1, l2⟩ := List.pairwise_cons.mp hl
    obtain ⟨m1, m2⟩ := List.pairwise_cons.mp hm
    have no : ∀ {a b : List Int}, lxLt a b = true → lxLt b a = true → False := fun {a b} p q => by
      have := lx_trans p q
      rw [lx_irrefl] at this
      cases this
    have hxy : x = y := by
      rcases List.mem_cons.mp ((h x).mp List.mem_cons_self) with e | e
      · exact e
      · rcases List.mem_cons.mp ((h y).mpr List.mem_cons_self) with f | f
        · exact f.symm
        · exact (no (m1 x e) (l1 y f)).elim
    subst hxy
    rw [asc_uniq l2 m2 fun z => ?_]
    constructor
    · intro hz
      rcases List.mem_cons.mp ((h z).mp (List.mem_cons_of_mem _ hz)) with e | e
      · subst e
        have := l1 z hz
        rw [lx_irrefl] at this
        cases this
      · exact e
    · intro hz
      rcases List.mem_cons.mp ((h z).mpr (List.mem_cons_of_mem _ hz)) with e | e
      · subst e
        have := m1 z hz
        rw [lx_irrefl] at this
        cases this
      · exact e
def tupI (k : List Int) : PyData := .tuple (k.map .int)
theorem tupI_inj {a b : List Int} (h : tupI a = tupI b) : a = b := by
  have h1 : a.map PyData.int = b.map .int := by
    unfold tupI at h
    exact PyData.tuple.inj h
  have h2 := congrArg intsD h1
  have im : ∀ ns : List Int, intsD (ns.map .int) = some ns := fun ns => by
    induction ns with
    | nil => rfl
    | cons n ns ih =>
      show (intsD (ns.map .int)).map (n :: ·) = _
      rw [ih]
      rfl
  rw [im, im] at h2
  exact Option.some.inj h2
open Classical in
/-- tuples of just as many numbers below a bound -/
noncomputable def gSSet : List PyData → Option PyData
  | [.list ds] => if h : ∃ (ks : List (List Int)) (d : Nat) (B : Int), ds = ks.map tupI ∧ ks.length < 64 ∧ 1 ≤ d ∧ ∀ k ∈ ks, k.length = d ∧ TS.Bd B k then some (.tuple ((sortU (choose h)).map tupI)) else none
  | _ => none
theorem map_tupI_inj : ∀ {a b : List (List Int)}, a.map tupI = b.map tupI → a = b
  | [], [], _ => rfl
  | [], _ :: _, h => by cases h
  | _ :: _, [], h => by cases h
  | x :: xs, y :: ys, h => by
    simp only [List.map_cons, List.cons.injEq] at h
    rw [tupI_inj h.1, map_tupI_inj h.2]
theorem gSSet_eq {ks : List (List Int)} {d : Nat} {B : Int} (few : ks.length < 64) (hd : 1 ≤ d) (h : ∀ k ∈ ks, k.length = d ∧ TS.Bd B k) : gSSet [.list (ks.map tupI)] = some (.tuple ((sortU ks).map tupI)) := by
  unfold gSSet
  dsimp only
  have hx : ∃ (ks' : List (List Int)) (d : Nat) (B : Int), ks.map tupI = ks'.map tupI ∧ ks'.length < 64 ∧ 1 ≤ d ∧ ∀ k ∈ ks', k.length = d ∧ TS.Bd B k := ⟨ks, d, B, rfl, few, hd, h⟩
  rw [dif_pos hx]
  have e := map_tupI_inj (Classical.choose_spec hx).choose_spec.choose_spec.1
  rw [← e]
theorem asc_of {B : Int} {d : Nat} : ∀ {l : List (List Int)}, (∀ k ∈ l, k.length = d ∧ TS.Bd B k) → l.Nodup → (l.Pairwise fun a b => TS.code B a ≤ TS.code B b) → AscL l
  | [], _, _, _ => List.Pairwise.nil
  | x :: xs, h, hn, hp => by
    obtain ⟨n1, n2⟩ := List.pairwise_cons.mp hn
    obtain ⟨p1, p2⟩ := List.pairwise_cons.mp hp
    refine List.pairwise_cons.mpr ⟨fun z hz => ?_, asc_of (fun k hk => h k (List.mem_cons_of_mem _ hk)) n2 p2⟩
    have hx := h x List.mem_cons_self
    have hz' := h z (List.mem_cons_of_mem _ hz)
    rcases lx_tri x z with e | e | e
    · exact e
    · exact absurd e (n1 z hz)
    · have := code_lx (by rw [hz'.1, hx.1]) hz'.2 hx.2 e
      have := p1 z hz
      omega
def rTupD (K : PySem.W.Frag) : List V → Hp → VK → Prop := fun xs H Q => ∃ p ys, xs = [.ref p] ∧ ((SqL K H p ys ∧ ∀ l, H l = none → Q (.ref l) (upd H l (.tup ys))) ∨ (SqT K H p ys ∧ Q (.ref p) H))
def rSSet (K : PySem.W.Frag) (P : Program) (w : World) : List V → Hp → VK → Prop := fun xs H Q => rSetOfT K P w xs H fun y H2 => rSortedT K P w [y] H2 fun z H3 => rTupD K [z] H3 Q
theorem dds_ints {K : PySem.W.Frag} {G : Hp} : ∀ {ys : List V} {ns : List Int}, Dds K G ys (ns.map .int) → ys = ns.map .int
  | [], [], _ => rfl
  | [], _ :: _, h => nomatch h
  | _ :: _, [], h => nomatch h
  | y :: ys, n :: ns, .cons h t => by
    cases h
    rw [dds_ints t]
    rfl
theorem ints_dds {K : PySem.W.Frag} {G : Hp} : ∀ ns : List Int, Dds K G (ns.map V.int) (ns.map PyData.int)
  | [] => .nil
  | n :: ns => .cons (.int n) (ints_dds ns)
theorem dds_tups {K : PySem.W.Frag} {G : Hp} : ∀ {ys : List V} {ks : List (List Int)}, Dds K G ys (ks.map tupI) → ∃ kp : List (Addr × List Int), ys = kp.map (fun p => V.ref p.1) ∧ kp.map (·.2) = ks ∧ ∀ p ∈ kp, SqT K G p.1 (p.2.map V.int)
  | [], [], _ => ⟨[], rfl, rfl, fun _ h => nomatch h⟩
  | [], _ :: _, h => nomatch h
  | _ :: _, [], h => nomatch h
  | y :: ys, k :: ks, .cons h t => by
    obtain ⟨kp, rfl, rfl, hk⟩ := dds_tups t
    cases h with
    | @tup a xs _ q r =>
      have := dds_ints r
      subst this
      refine ⟨(a, k) :: kp, rfl, rfl, fun p hp => ?_⟩
      rcases List.mem_cons.mp hp with rfl | hp
      · exact q
      · exact hk p hp
theorem tups_dds {K : PySem.W.Frag} {G : Hp} : ∀ {L : List (Addr × List Int)}, (∀ p ∈ L, SqT K G p.1 (p.2.map V.int)) → Dds K G (L.map fun p => V.ref p.1) ((L.map (·.2)).map tupI)
  | [], _ => .nil
  | p :: L, h => .cons (.tup (h p List.mem_cons_self) (ints_dds p.2)) (tups_dds fun q hq => h q (List.mem_cons_of_mem _ hq))
theorem sc_sset {K : PySem.W.Frag} {P : Program} {w : World} : SC K (rSSet K P w) gSSet := by
  intro G H xs ds z g r e Q q
  unfold gSSet at e
  split at e
  · split at e
    · rename_i ds hx
      have hs := Classical.choose_spec hx
      revert e hs
      generalize Classical.choose hx = ks
      intro e hs
      obtain ⟨d, B, rfl, few, hd, hk⟩ := hs
      cases e
      obtain ⟨x, rfl, rk⟩ := r.one
      obtain ⟨a, ys, rfl, h1, h2⟩ := rk.list g
      obtain ⟨kp, rfl, rfl, hkp⟩ := dds_tups h2
      refine ⟨a, kp, rfl, h1, fun p hp => same_seqT g (hkp p hp), by simpa using few, fun a2 L na hL hall => ?_⟩
      have s1 : Same H (upd H a2 (SetTO P w a2 L)) := same_up na
      have inL : ∀ p ∈ L, p.2.length = d ∧ TS.Bd B p.2 := fun p hp => hk p.2 (List.mem_map_of_mem (hL p hp))
      refine ⟨a2, L, d, B, rfl, upd_same, fun p hp => same_seqT (g.trans s1) (hkp p (hL p hp)), hd, inL, fun L' p pm nd _ pw np => ?_⟩
      have s2 : Same (upd H a2 (SetTO P w a2 L)) (upd (upd H a2 (SetTO P w a2 L)) p (.lst (L'.map fun q => V.ref q.1))) := same_up np
      have s12 := s1.trans s2
      refine ⟨p, _, rfl, .inl ⟨SqL.of upd_same, fun l nl => ?_⟩⟩
      have inL' : ∀ q ∈ L', q ∈ kp := fun q hq => hL q (pm.mem_iff.mp hq)
      have hsort : L'.map (·.2) = sortU (kp.map (·.2)) := by
        refine asc_uniq (asc_of (B := B) (d := d) (fun k hk' => ?_) nd (List.pairwise_map.mpr pw)) (asc_sortU _) fun z => ?_
        · obtain ⟨q, hq, rfl⟩ := List.mem_map.mp hk'
          exact inL q (pm.mem_iff.mp hq)
        · rw [mem_sortU]
          constructor
          · intro hz
            obtain ⟨q, hq, rfl⟩ := List.mem_map.mp hz
            exact List.mem_map_of_mem (inL' q hq)
          · intro hz
            obtain ⟨q, hq, rfl⟩ := List.mem_map.mp hz
            obtain ⟨u, hu, e⟩ := List.mem_map.mp (hall q hq)
            rw [← e]
            exact List.mem_map_of_mem (pm.mem_iff.mpr hu)
      rw [← hsort] at q
      exact new_tup (g.trans s12) (tups_dds fun q hq => hkp q (inL' q hq)) (fun G' H' v gr dd => q G' H' v ⟨s12.trans gr.hh, gr.gg, gr.gh, fun a o e => (gr.new a o e).imp_right fun h => s12.free h⟩ dd) nl
    · cases e
  · cases e
end Dl
namespace Dl
open PySem PySem.Spec PyProof.Rows L2 Pg
theorem q_sset {K : PySem.W.Frag} {X : Cx} {e : Expr} {te : TE} {f : EF} {p p2 p3 pos pos2 pos3 : Pos} (hK : X.K = K) (hc : X.calm = true) (hu : X.A.units + 64 < cLine)
    (ms : X.mg "set" = none) (mo : X.mg "sorted" = none) (mt : X.mg "tuple" = none) (ha : QE K X e te f) (g1 : Gl X "set") (g2 : Gl X "sorted") (g3 : Gl X "tuple")
    (he : starEach [e] X.env = (false, eval e X.env) :: starEach [] X.env) :
    QE K X (.Call (.Name "tuple" p) [.Call (.Name "sorted" p2) [.Call (.Name "set" p3) [e] [] pos3] [] pos2] [] pos)
      (tCB (rTupD K) (tCons (tCB (rSortedT K X.prog X.w) (tCons (tCB (rSetOfT K X.prog X.w) (tCons te tNil)) tNil)) tNil)) (eCB gSSet (aCons f aNil)) := by
  subst hK
  refine ⟨pe_callTy call_tuple_of g3 mt (by decide +kernel) (pa_cons (pe_callB (cr_sortedT hc) g2 mo (by decide +kernel) (pa_cons (pe_callTy (cr_setOfT hc hu) g1 ms (by decide +kernel) (pa_cons ha.pe pa_nil he) (by decide) (by decide) he rfl) pa_nil)) pa_nil), ?_⟩
  have h : SE X.K (tCB (rSSet X.K X.prog X.w) (tCons te tNil)) (eCB gSSet (aCons f aNil)) := se_cb sc_sset (sa_cons ha.se sa_nil)
  exact h
end Dl
namespace Dl
theorem len_ins {x : List Int} : ∀ {l : List (List Int)}, (insU x l).length ≤ l.length + 1
  | [] => Nat.le_refl _
  | y :: ys => by
    have := len_ins (x := x) (l := ys)
    unfold insU
    split
    · exact Nat.le_refl _
    · split
      · exact Nat.le_succ _
      · simp only [List.length_cons]
        omega
theorem len_sortU : ∀ {l : List (List Int)}, (sortU l).length ≤ l.length
  | [] => Nat.le_refl _
  | x :: xs => by
    have h1 := len_ins (x := x) (l := sortU xs)
    have h2 := len_sortU (l := xs)
    unfold sortU
    simp only [List.length_cons]
    omega
end Dl

set_option Elab.async false
set_option linter.all false
set_option maxRecDepth 100000
set_option maxHeartbeats 4000000
namespace Dl
open PySem PySem.Spec PyProof.Rows L2 Pg
/-! ### enumerate of a tuple -/
def itT (l : Addr) : Obj := { cls := .type "tuple_iterator", data := .fields #[.ref l, .int 0 0] }
def enT (a : Addr) : Obj := { cls := .type "enumerate", data := .fields #[.none, .bool false, .ref a, rawInt 0, .none, .none] }
set_option maxHeartbeats 1000000 in
theorem meets_enT (l : Addr) (xs : Array Value) (n : Nat) (dd : Option Addr) (ss : Array (Option Value)) :
    Meets (Builtin.«enumerate.__new__» ⟨[.type "enumerate", .ref l], []⟩) (fun _ R s => s.heap.get? l = some ⟨.type "tuple", dd, .seq xs n, ss⟩ ∧
      R (.ok (.ret (.ref (s.heap.push (itT l)).objs.size))) { s with heap := (s.heap.push (itT l)).push (enT s.heap.objs.size) }) :=
  .of_wp fun prog w A R s hs => by
    obtain ⟨hp, gg, dr, tk, os⟩ := s
    obtain ⟨hl, hq⟩ := hs
    have sub_ := sub_enumerate
    have hT : Heap.IsTuple (Shared.heap ⟨hp, gg, dr, tk, os⟩) l xs := ⟨_, hl, rfl, n, rfl⟩
    wp_walk using AutoSeq1.wpAny_loadPart' hl
    refine wpAny_stack_any fun st => wpAny_pure ?_
    split
    · rename_i c _ _ _ _ _
      cases (c == Value.type "enumerate") <;>
      · wp_walk using AutoSeq1.wpAny_loadPart' hl, wpAny_pyIter_tuple hT
        exact ⟨_, rfl, hq⟩
    · wp_walk using AutoSeq1.wpAny_loadPart' hl, wpAny_pyIter_tuple hT
      exact ⟨_, rfl, hq⟩
section
variable {prog : Program} {w : World} {A : Around} {E : Value → Shared → Prop} {s : Shared}
theorem call_enT {l : Addr} {xs : Array Value} {Q : Value → Shared → Prop} (hT : s.heap.IsTuple l xs)
    (h : ∀ h', IsEnum h' (s.heap.objs.size + 1) s.heap.objs.size 0 .none → h'.IsTupleIter s.heap.objs.size l 0 → (∀ b o, s.heap.get? b = some o → h'.get? b = some o) → Q (.ref (s.heap.objs.size + 1)) { s with heap := h' }) :
    wpAny (model prog w) A (call (.type "enumerate") [.ref l]) Q E s := by
  obtain ⟨⟨c, dd, dt, ss⟩, hl, hc, n, hd⟩ := hT
  replace hc : c = .type "tuple" := hc
  replace hd : dt = .seq xs n := hd
  subst hc hd
  refine callType_new F.called_enumerate (by decide) (F.typeCall_enumerate_1 _) (F.newCall_enumerate_1 _) (fun obj => F.args_object_init_2 obj _) F.entry_enumerate_new (meets_enT l xs n dd ss) ⟨hl, ?_⟩
  have hz : (s.heap.push (itT l)).objs.size = s.heap.objs.size + 1 := Heap.size_push ..
  show _ ∧ _
  rw [hz]
  have he : IsEnum ((s.heap.push (itT l)).push (enT s.heap.objs.size)) (s.heap.objs.size + 1) s.heap.objs.size 0 .none := by
    have := Heap.get?_push_size (s.heap.push (itT l)) (o := enT s.heap.objs.size) rfl
    rw [hz] at this
    exact this
  exact ⟨⟨_, he, rfl⟩, h _ he ⟨_, Heap.get?_push_of_some _ (Heap.get?_push_size _ rfl), rfl, rfl⟩ fun b o x => Heap.get?_push_of_some _ (Heap.get?_push_of_some _ x)⟩
end
/-- the tuple at a, each item in a new pair -/
def IteT (K : PySem.W.Frag) (a : Addr) : It :=
  ⟨fun i H => ∃ (xs : List V) (x : V), SqT K H a xs ∧ xs[i]? = some x, fun i H v H' => ∃ T x, v = .ref T ∧ H T = none ∧ H' = upd H T (.tup [.int (i : Nat), x]) ∧ ∀ xs, SqT K H a xs → xs[i]? = some x, fun i H => ∃ xs : List V, SqT K H a xs ∧ xs.length ≤ i⟩
theorem turn_enT {P : Program} {w : World} {K : PySem.W.Frag} {elts : List Expr} {kk : Nat} {tpos : Pos} (a e it : Addr) :
    Turn P w K (.Tuple elts kk tpos) (IteT K a) [e, it] e (fun i h => (∃ old, IsEnum h e it ((i : Nat) : Int) old) ∧ h.IsTupleIter it a i ∧ e ≠ it ∧ a ≠ it ∧ e ≠ a) where
  mem := by simp
  obj := fun i h st b hb => by
    obtain ⟨⟨old, he⟩, ⟨o, ho, hc, hd⟩, _⟩ := st
    have e' : b = e ∨ b = it := by simpa using hb
    rcases e' with z | z
    · rw [z]
      exact ⟨_, he, fun v q => nomatch q⟩
    · rw [z]
      exact ⟨o, ho, fun v q => by rw [hd] at q; cases q⟩
  keep := fun i h h' st k => ⟨st.1.elim fun old he => ⟨old, k e (by simp) _ he⟩, st.2.1.at fun o q => k it (by simp) o q, st.2.2⟩
  item := by
    intro X hP hw hK hc i pins s σ H E I hf st hg
    subst hP hw hK
    obtain ⟨⟨old, he⟩, hit, hne, hat, hea⟩ := st
    obtain ⟨xs, x, hq, hx⟩ := hg
    obtain ⟨its, rv, p, hz⟩ := I.tuple hq
    obtain ⟨u, hu, ru⟩ := rv.get hx
    have hel : e < s.heap.objs.size := Heap.lt_size he
    have hil : it < s.heap.objs.size := by obtain ⟨_, q, _⟩ := hit; exact Heap.lt_size q
    have pT : s.heap.IsTuple a its.toArray := p
    have hl : i < its.toArray.size := by
      rw [List.size_toArray]
      exact (List.getElem?_eq_some_iff.mp hu).1
    have D := Draws.tuple (prog := X.prog) (w := X.w) (A := X.A.in1) (show X.A.in1.handled = none from I.ok.hd hc) it a hat its.toArray
    refine wpAny_pyNext_enum_itemD D he ⟨hit, pT⟩ hl hne (by simp only [List.mem_cons, List.not_mem_nil, or_false]; exact fun z => z.elim hne hea) fun u' h' tk hu' ho hst hT hsz hk => ?_
    have eu : u' = u := by
      have hu2 : its.toArray[i]? = some u := by simpa using hu
      exact Option.some.inj (hu'.symm.trans hu2)
    subst eu
    refine ⟨_, rfl, wpAny_letOwnedTupleGo_enum (s := { s with heap := h', toks := tk + 1 }) ho fun h'' he' sb => ?_⟩
    have hT2 : h''.get? s.heap.objs.size = some { cls := .type "tuple", data := .seq #[.int i tk, u'] } := (sb.2 _ (Nat.ne_of_gt hel)).trans hT
    have new : ObjOk X.prog X.w (upd H s.heap.objs.size (.tup [.int (i : Nat), x])) h'' s.heap.objs.size (.tup [.int (i : Nat), x]) :=
      ⟨by show 2 ≤ sizeLine; decide, [.int i tk, u'], .cons ⟨_, rfl⟩ (.cons ru .nil), ⟨_, hT2, rfl, _, rfl⟩⟩
    have I1 : Inv X pins σ (upd H s.heap.objs.size (.tup [.int (i : Nat), x])) { s with heap := h'', toks := tk + 1 } :=
      I.turnedNew (ch := [e, it]) (fun b ob hb q => (sb.2 b (fun z => hb (by simp [z]))).trans (hk b ob (fun z => hb (by simp [z])) (fun z => hb (by simp [z])) q)) hf (Nat.le_refl _) new
    refine ⟨.ref s.heap.objs.size, _, I1, rfl, ⟨_, x, rfl, I.hok.fresh (Nat.le_refl _), rfl, fun ys hy => by rw [I.tuple_inj hy hq]; exact hx⟩, ⟨⟨u', ?_⟩, hst.1.at fun o q => (sb.2 it (Ne.symm hne)).trans q, hne, hat, hea⟩, fun b hb => ?_⟩
    · rw [show ((i + 1 : Nat) : Int) = (i : Int) + 1 by omega]
      exact he'
    · have hb' : b < s.heap.objs.size := by
        have e' : b = e ∨ b = it := by simpa using hb
        rcases e' with z | z
        · exact z ▸ hel
        · exact z ▸ hil
      exact (upd_ne (Nat.ne_of_lt hb')).trans (hf b hb).1
  done := by
    intro X hP hw hK hc i pins s σ H E I hf st hg
    subst hP hw hK
    obtain ⟨⟨old, he⟩, hit, hne, hat, hea⟩ := st
    obtain ⟨xs, hq, hx⟩ := hg
    obtain ⟨its, rv, p, hz⟩ := I.tuple hq
    have pT : s.heap.IsTuple a its.toArray := p
    obtain ⟨f0, f1, f2, f3, f4, f5⟩ := hf it (by simp)
    have hl := rv.length
    have hT : s.TypeIs (.ref e) "enumerate" := ⟨_, he, rfl⟩
    unfold pyNext
    refine wpAny_bind (wpAny_attempt (wpAny_callSpecial?_slot (name := Str.ofString "__next__") hT F.slot_enumerate_next (wpAny_call_entry F.slot_enumerate_next hT F.entry_enumerate_next ?_ (F.args_enumerate_next_1 _))))
    show wpAny _ _ (field (.ref e) 2 >>= _) _ _ _
    refine wpAny_bind (wpAny_field he rfl (x := .ref it) rfl ?_)
    refine wpAny_bind (wpAny_nextOf_tuple_end (I.ok.hd hc) hit pT (by simp; omega) fun h' x he' hx' => ?_)
    obtain ⟨o, ho, hc'⟩ := hx'
    refine wpAny_bind (wpAny_isInstance (T := "StopIteration") (b := true) ⟨o, ho, hc'⟩ isSubtype_stop ?_)
    exact wpAny_pure ⟨rfl, I.turned (t' := s.toks) (fun b o hb q => he' b o hb q) f0 f1 f3 f4 f5⟩
  self := fun A i s Q E st h => let ⟨⟨_, he⟩, _⟩ := st; wpAny_pyIter_enum he h
def iEnD (K : PySem.W.Frag) (ta : TA) : TI := fun σ H R => ta σ H fun vs H1 => ∃ a, vs = [.ref a] ∧ ((∃ xs, SqL K H1 a xs ∧ R (Ite K a) H1) ∨ (∃ xs, SqT K H1 a xs ∧ R (IteT K a) H1))
theorem pi_enD {X : Cx} {e : Expr} {ta : TA} {p pos tpos : Pos} {elts : List Expr} {kk : Nat} (hg : Gl X "enumerate") (hm : X.mg "enumerate" = none) (ha : PA X [e] ta) (hs : starEach [e] X.env = [(false, eval e X.env)] := by rfl) :
    PI X (.Tuple elts kk tpos) (.Call (.Name "enumerate" p) [e] [] pos) (iEnD X.K ta) := by
  refine ⟨fun pins s σ H R I h => ?_⟩
  refine Call_ (ld_blt I hg hm boot_enumerate (PyProof.Rows.callWith_type1 (thn (ha.run pos pins s σ H _ I h) fun us s1 ⟨vs, H1, I1, r1, q1⟩ => ?_) hs rfl))
  obtain ⟨a, ex, q⟩ := q1
  subst ex
  rw [Vals.ref1 r1]
  rcases q with ⟨xs, hq, q⟩ | ⟨xs, hq, q⟩
  · obtain ⟨its, rv, p', hz⟩ := I1.list hq
    refine call_enumerate_list p'.isList fun h' he hit hsz hk => wpAny_pyIter_enum he ?_
    have I2 : Inv X pins σ H1 { s1 with heap := h' } := I1.kept (t' := s1.toks) hk
    refine ⟨s1.heap.objs.size + 1, [s1.heap.objs.size + 1, s1.heap.objs.size], _, _, H1, rfl, I2, turn_enum a (s1.heap.objs.size + 1) s1.heap.objs.size, ⟨⟨.none, he⟩, hit, Nat.succ_ne_self _⟩, fun b hb => ?_, q⟩
    have hle : s1.heap.objs.size ≤ b := by
      have e' : b = s1.heap.objs.size + 1 ∨ b = s1.heap.objs.size := by simpa using hb
      rcases e' with z | z
      · exact z ▸ Nat.le_succ _
      · exact z ▸ Nat.le_refl _
    exact I1.fpOk hle (I1.hok.fresh hle)
  · obtain ⟨its, rv, p', hz⟩ := I1.tuple hq
    have pT : s1.heap.IsTuple a its.toArray := p'
    have hal : a < s1.heap.objs.size := by
      obtain ⟨o, ho, _⟩ := pT
      exact Heap.lt_size ho
    refine call_enT pT fun h' he hit hk => wpAny_pyIter_enum he ?_
    have I2 : Inv X pins σ H1 { s1 with heap := h' } := I1.kept (t' := s1.toks) hk
    refine ⟨s1.heap.objs.size + 1, [s1.heap.objs.size + 1, s1.heap.objs.size], _, _, H1, rfl, I2, turn_enT a (s1.heap.objs.size + 1) s1.heap.objs.size, ⟨⟨.none, he⟩, hit, Nat.succ_ne_self _, Nat.ne_of_lt hal, Nat.ne_of_gt (Nat.lt_succ_of_lt hal)⟩, fun b hb => ?_, q⟩
    have hle : s1.heap.objs.size ≤ b := by
      have e' : b = s1.heap.objs.size + 1 ∨ b = s1.heap.objs.size := by simpa using hb
      rcases e' with z | z
      · exact z ▸ Nat.le_succ _
      · exact z ▸ Nat.le_refl _
    exact I1.fpOk hle (I1.hok.fresh hle)
def iEnumD (a : AF) : IF := fun ρ st => match a ρ st with
  | some ([.d (.list xs)], st1) => some (enumD 0 xs, st1)
  | some ([.d (.tuple xs)], st1) => some (enumD 0 xs, st1)
  | _ => none
section
variable {K : PySem.W.Frag} {S : Wd}
theorem src_eT {a : Addr} {xs : List V} {ds : List PyData} (h : SqT K S.fr a xs) (r : Dds K S.fr xs ds) : Src K (IteT K a) S (enumD 0 ds) := by
  have hl := Dds.length_ r
  refine ⟨fun S' e ok i hi => ?_, fun S' e ok i v hv x H' hy => ?_, fun S' e ok => ⟨xs, same_seqT (fr_same S') (same_seqT e.keep h), by rw [enumD_len, hl]; exact Nat.le_refl _⟩⟩
  · rw [enumD_len, ← hl] at hi
    exact ⟨xs, xs[i], same_seqT (fr_same S') (same_seqT e.keep h), List.getElem?_eq_getElem hi⟩
  · obtain ⟨T, z, rfl, hT, rfl, hx⟩ := hy
    have h1 := hx xs (same_seqT (fr_same S') (same_seqT e.keep h))
    obtain ⟨d, h2, h3⟩ := enumD_get hv
    subst h3
    obtain ⟨w, h4, h5⟩ := Dds.get_ r h2
    rw [h1] at h4
    cases h4
    rw [Nat.zero_add]
    exact pair_new ok hT (.int _) (Dd.up e.keep _ _ h5)
theorem si_enumD {t : TA} {fa : AF} (ha : SA K t fa) : SI K (iEnD K t) (iEnumD fa) := by
  intro S ρ σ items st' ok en h R q
  unfold iEnumD at h
  split at h
  · rename_i xs st1 e1
    cases h
    refine ha S ρ σ _ _ ok en e1 _ fun S1 xa l1 s1 x1 ok1 r1 => ?_
    obtain ⟨v, rfl, hv⟩ := rvs_one r1
    cases hv with
    | @lst a vs _ h1 h2 => exact ⟨a, rfl, .inl ⟨vs, (fr_same S1).seq h1, q S1 _ l1 s1 x1 ok1 (src_e h1 h2)⟩⟩
  · rename_i xs st1 e1
    cases h
    refine ha S ρ σ _ _ ok en e1 _ fun S1 xa l1 s1 x1 ok1 r1 => ?_
    obtain ⟨v, rfl, hv⟩ := rvs_one r1
    cases hv with
    | @tup a vs _ h1 h2 => exact ⟨a, rfl, .inr ⟨vs, same_seqT (fr_same S1) h1, q S1 _ l1 s1 x1 ok1 (src_eT h1 h2)⟩⟩
  · cases h
theorem qi_enumD {X : Cx} {t : TA} {r : AF} {e : Expr} {p pos tpos : Pos} {elts : List Expr} {kk : Nat} (hK : X.K = K) (hm : X.mg "enumerate" = none) (ha : QA K X [e] t r) (hg : Gl X "enumerate") (hs : starEach [e] X.env = [(false, eval e X.env)]) : QI K X (.Tuple elts kk tpos) (.Call (.Name "enumerate" p) [e] [] pos) (iEnD K t) (iEnumD r) := by
  subst hK
  exact ⟨pi_enD hg hm ha.pa hs, si_enumD ha.sa⟩
end
end Dl

set_option Elab.async false
set_option linter.all false
set_option maxRecDepth 100000
set_option maxHeartbeats 4000000
namespace Dl
open PySem PySem.Spec PyProof.Rows L2 Pg
/-! ### min of data -/
section
variable {X : Cx} {pins : List (Addr × Obj)} {σ : L2.St} {H : Hp} {s : Shared}
theorem dds_say (I : Inv X pins σ H s) : ∀ {ds : List PyData} {vs : List V} {us : List Value}, Dds X.K H vs ds → Vals vs us → ∃ as, ReadsAll s.heap us ds as
  | _, _, _, .nil, .nil => ⟨_, .nil⟩
  | _, _, _, .cons h t, .cons r rs => by
    obtain ⟨as, h1, _⟩ := dd_say I _ _ _ h r
    obtain ⟨bs, h2⟩ := dds_say I t rs
    exact ⟨_, .cons h1 h2⟩
end
def minsB (ds : List PyData) : Bool := alikesB ds && ds.all (fun d => !isNon d) && decide (PyData.depthAll ds ≤ 60)
def rMinD (K : PySem.W.Frag) : List V → Hp → VK → Prop := fun xs H Q => ∃ (G : Hp) (a : Addr) (ys : List V) (d : PyData) (ds : List PyData), Same G H ∧ xs = [.ref a] ∧ (SqL K H a ys ∨ SqT K H a ys) ∧ Dds K G ys (d :: ds) ∧ minsB (d :: ds) = true ∧ ∀ v, Dd K G v (PySem.W.minD d ds) → Q v H
theorem call_minD {X : Cx} (hc : X.calm = true) (hu : X.A.units + 64 < cLine) : CallR X (.builtin "min") (rMinD X.K) := by
  intro pins s σ H xs us Q I r h
  obtain ⟨G, a, ys, d, ds, g, rfl, hs, hd, hb, q⟩ := h
  rw [Vals.ref1 r]
  unfold minsB alikesB at hb
  simp only [Bool.and_eq_true, List.all_eq_true, decide_eq_true_eq, Bool.not_eq_true'] at hb
  obtain ⟨⟨b1, b2⟩, b3⟩ := hb
  have al : PySem.W.AlikeAll (d :: ds) := ⟨fun x hx y hy => b1 x hx y hy, fun x hx => nn_of (b2 x hx)⟩
  have fin : ∀ {its : List Value}, Vals ys its → ∀ (i : Nat) (v : Value) (h' : Heap) (tk : Nat) (bs : List Addr), its.toArray[i]? = some v → Reads h' v (PySem.W.minD d ds) bs → (∀ b o, s.heap.get? b = some o → h'.get? b = some o) → EP X pins σ Q v { s with heap := h', toks := tk } := fun {its} rv i v h' tk bs hv hr hk => by
    have hv' : its[i]? = some v := by simpa using hv
    obtain ⟨x, hx, rx⟩ : ∃ x, ys[i]? = some x ∧ RelV x v := by
      have hi : i < ys.length := by rw [rv.length]; exact (List.getElem?_eq_some_iff.mp hv').1
      obtain ⟨u, hu, ru⟩ := rv.get (List.getElem?_eq_getElem hi)
      rw [hv'] at hu
      cases hu
      exact ⟨_, List.getElem?_eq_getElem hi, ru⟩
    have I' : Inv X pins σ H { s with heap := h', toks := tk } := I.kept (t' := tk) hk
    have hil : i < (d :: ds).length := by rw [← Dds.length_ hd]; exact (List.getElem?_eq_some_iff.mp hx).1
    obtain ⟨w, h1, h2⟩ := Dds.get_ hd (List.getElem?_eq_getElem hil)
    rw [hx] at h1
    cases h1
    obtain ⟨as, h3, _⟩ := dd_say I' _ _ _ (Dd.up g _ _ h2) rx
    have e := (h3.unique _ _ hr).1
    rw [e] at h2
    exact ⟨_, H, I', rx, q _ h2⟩
  rcases hs with hs | hs
  · obtain ⟨its, rv, hl, hz⟩ := I.list hs
    obtain ⟨as, ra⟩ := dds_say I (Dds.up g _ _ hd) rv
    exact PySem.W.min_list_data (I.ok.hd hc) hl.isList ra al (by omega) (fin rv)
  · obtain ⟨its, rv, hl, hz⟩ := I.tuple hs
    obtain ⟨as, ra⟩ := dds_say I (Dds.up g _ _ hd) rv
    exact PySem.W.min_tuple_data (I.ok.hd hc) (show s.heap.IsTuple a its.toArray from hl) ra al (by omega) (fin rv)
noncomputable def gMin : List PyData → Option PyData
  | [.list (d :: ds)] => if minsB (d :: ds) = true then some (PySem.W.minD d ds) else none
  | [.tuple (d :: ds)] => if minsB (d :: ds) = true then some (PySem.W.minD d ds) else none
  | _ => none
theorem sc_min {K : PySem.W.Frag} : SC K (rMinD K) gMin := by
  intro G H xs ds z g r e Q q
  unfold gMin at e
  split at e
  · split at e
    · rename_i hb
      cases e
      obtain ⟨x, rfl, rk⟩ := r.one
      obtain ⟨a, ys, rfl, h1, h2⟩ := rk.list g
      exact ⟨G, a, ys, _, _, g, rfl, .inl h1, h2, hb, fun v hv => q _ _ _ (Grow.refl g) hv⟩
    · cases e
  · split at e
    · rename_i hb
      cases e
      obtain ⟨x, rfl, rk⟩ := r.one
      obtain ⟨a, ys, rfl, h1, h2, _⟩ := rk.tup g
      exact ⟨G, a, ys, _, _, g, rfl, .inr h1, h2, hb, fun v hv => q _ _ _ (Grow.refl g) hv⟩
    · cases e
  · cases e
end Dl

set_option Elab.async false
set_option linter.all false
set_option maxRecDepth 100000
set_option maxHeartbeats 4000000
namespace Dl
open PySem PySem.Spec PyProof.Rows L2 Pg
/-! ### dicts as cells -/
section
variable {κ : Type} [DecidableEq κ]
def getV (kvs : List (κ × Vd)) (k : κ) : Option Vd := (kvs.find? fun kv => decide (kv.1 = k)).map (·.2)
def putV (kvs : List (κ × Vd)) (k : κ) (v : Vd) : List (κ × Vd) :=
  if (kvs.any fun kv => decide (kv.1 = k)) = true then kvs.map (fun kv => if kv.1 = k then (kv.1, v) else kv) else kvs ++ [(k, v)]
abbrev KVs (K : PySem.W.Frag) (S : Wd) : List (κ × V) → List (κ × Vd) → Prop := Paired fun p q => p.1 = q.1 ∧ RV K S p.2 q.2
variable {K : PySem.W.Frag} {S : Wd}
theorem KVs.any {ks : List (κ × V)} {kvs : List (κ × Vd)} (h : KVs K S ks kvs) (k : κ) : (ks.any fun kv => decide (kv.1 = k)) = (kvs.any fun kv => decide (kv.1 = k)) := by
  induction h with
  | nil => rfl
  | cons h t ih => simp only [List.any_cons, ih, h.1]
theorem KVs.get {ks : List (κ × V)} {kvs : List (κ × Vd)} (h : KVs K S ks kvs) (k : κ) : (getV kvs k = none ∧ valV ks k = none) ∨ ∃ v x, getV kvs k = some v ∧ valV ks k = some x ∧ RV K S x v := by
  induction h with
  | nil => exact .inl ⟨rfl, rfl⟩
  | @cons p q ps qs h t ih =>
    by_cases e : p.1 = k
    · refine .inr ⟨q.2, p.2, ?_, valV_pos e, h.2⟩
      unfold getV
      rw [List.find?_cons, show decide (q.1 = k) = true from decide_eq_true (h.1 ▸ e)]
      rfl
    · have e' : ¬ q.1 = k := fun z => e (h.1.trans z)
      rw [valV_neg e, show getV (q :: qs) k = getV qs k from by unfold getV; rw [List.find?_cons, show decide (q.1 = k) = false from decide_eq_false e']]
      exact ih
theorem KVs.put {ks : List (κ × V)} {kvs : List (κ × Vd)} (h : KVs K S ks kvs) (k : κ) {x : V} {v : Vd} (r : RV K S x v) : KVs K S (putK ks k x) (putV kvs k v) := by
  unfold putK putV
  rw [h.any k]
  by_cases q : (kvs.any fun kv => decide (kv.1 = k)) = true
  · rw [if_pos q, if_pos q]
    clear q
    induction h with
    | nil => exact .nil
    | cons h t ih =>
      rw [List.map_cons, List.map_cons]
      refine .cons ?_ ih
      rw [h.1]
      split
      · exact ⟨rfl, r⟩
      · exact ⟨h.1, h.2⟩
  · rw [if_neg q, if_neg q]
    clear q
    induction h with
    | nil => exact .cons ⟨rfl, r⟩ .nil
    | cons h t ih => exact .cons h ih
end
def eDNewK : EF := fun _ st => some (.r st.length, st ++ [.dic []])
def eDNewT : EF := fun _ st => some (.r st.length, st ++ [.dct []])
/-- d.get(k): ints, texts as keys -/
def eGet (a b : EF) : EF := fun ρ st => match a ρ st with
  | some (.r n, st1) => match st1[n]? with
    | some (.dic _) => match b ρ st1 with
      | some (.d kd, st2) => match keyOfD kd, st2[n]? with
        | some k, some (.dic kvs) => some ((getV kvs k).getD (.d .none), st2)
        | _, _ => none
      | _ => none
    | _ => none
  | _ => none
/-- d[k] = v -/
def tPutK (a b : EF) : TF := fun v ρ st => match a ρ st with
  | some (.r n, st1) => match b ρ st1 with
    | some (.d kd, st2) => match keyOfD kd, st2[n]? with
      | some k, some (.dic kvs) => if kvs.length < 16000000 then some (ρ, st2.set n (.dic (putV kvs k v))) else none
      | _, _ => none
    | _ => none
  | _ => none
section
variable {K : PySem.W.Frag} {X : Cx} {a b e : Expr} {ta tb te : TE} {fa fb f : EF} {pos : Pos}
theorem se_dnewK : SE K tDNewK eDNewK := by
  intro S ρ σ v st' ok en h Q q
  cases h
  intro p hp
  obtain ⟨x, ok'⟩ := ok.more hp (c := .dic []) (o := .dK []) (fun z => nomatch z) ⟨[], rfl, .nil⟩
  refine q (S.more p (.dK []) (.dic [])) (.ref p) rfl rfl x ok' ⟨p, ?_, rfl⟩
  show (S.m ++ [p])[S.st.length]? = some p
  rw [← ok.len]
  simp
theorem se_dnewT : SE K tDNewT eDNewT := by
  intro S ρ σ v st' ok en h Q q
  cases h
  intro p hp
  obtain ⟨x, ok'⟩ := ok.more hp (c := .dct []) (o := .dT []) (fun z => nomatch z) ⟨[], rfl, .nil⟩
  refine q (S.more p (.dT []) (.dct [])) (.ref p) rfl rfl x ok' ⟨p, ?_, rfl⟩
  show (S.m ++ [p])[S.st.length]? = some p
  rw [← ok.len]
  simp
theorem q_dnK : QE K X (.Dict [] [] pos) tDNewK eDNewK := ⟨pe_dnewK, se_dnewK⟩
theorem q_dnT : QE K X (.Dict [] [] pos) tDNewT eDNewT := ⟨pe_dnewT, se_dnewT⟩
theorem se_get (ha : SE K ta fa) (hb : SE K tb fb) : SE K (tDGet1 ta tb) (eGet fa fb) := by
  intro S ρ σ v st' ok en h Q q
  unfold eGet at h
  split at h
  · rename_i n st1 e1
    split at h
    · rename_i kv0 e0
      split at h
      · rename_i kd st2 e2
        split at h
        · rename_i k kvs e3 e4
          cases h
          refine ha S ρ σ _ _ ok en e1 _ fun S1 xa l1 s1 x1 ok1 r1 => ?_
          subst s1
          obtain ⟨a0, o0, h01, h02, ks0, h03, h04⟩ := look_at ok1 e0 (fun z => nomatch z)
          refine ⟨a0, r1.ref_at h01, .inl ⟨ks0, .inl (h03 ▸ h02)⟩, hb S1 ρ σ _ _ ok1 (en.up x1) e2 _ fun S2 xb l2 s2 x2 ok2 r2 => ?_⟩
          subst s2
          obtain ⟨ex, ek⟩ := keyOfD_ok (show Dd K S2.fr xb kd from r2) e3
          obtain ⟨a, o, h1, h2, ks, h3, h4⟩ := look_at ok2 e4 (fun z => nomatch z)
          have ea : a0 = a := by
            have z1 := r1.ref_at h01
            have z2 := (r1.up x2).ref_at h1
            rw [z1] at z2
            exact V.ref.inj z2
          subst ea
          subst h3
          rw [ex]
          refine ⟨valV ks k, DGet.k h2, ?_⟩
          rcases KVs.get h4 k with ⟨g1, g2⟩ | ⟨w, x, g1, g2, g3⟩
          · rw [g2]
            rw [g1] at q
            exact q S2 .non (l2.trans l1) rfl (x1.trans x2) ok2 Dd.non
          · rw [g2]
            rw [g1] at q
            exact q S2 x (l2.trans l1) rfl (x1.trans x2) ok2 g3
        · cases h
      · cases h
    · cases h
  · cases h
theorem st_putK (ha : SE K ta fa) (hb : SE K tb fb) : ST K (L2.gSub ta tb rSetD) (tPutK fa fb) := by
  intro S ρ σ x v ρ' st' ok en r h Q q
  unfold tPutK at h
  split at h
  · rename_i n st1 e1
    split at h
    · rename_i kd st2 e2
      split at h
      · rename_i k kvs e3 e4
        split at h
        · rename_i hz
          cases h
          refine ha S ρ σ _ _ ok en e1 _ fun S1 xa l1 s1 x1 ok1 r1 => ?_
          subst s1
          refine hb S1 ρ σ _ _ ok1 (en.up x1) e2 _ fun S2 xb l2 s2 x2 ok2 r2 => ?_
          subst s2
          obtain ⟨ex, ek⟩ := keyOfD_ok (show Dd K S2.fr xb kd from r2) e3
          obtain ⟨a, o, h1, h2, ks, h3, h4⟩ := look_at ok2 e4 (fun z => nomatch z)
          subst h3
          have ea := (r1.up x2).ref_at h1
          subst ea
          have rx := (r.up x1).up x2
          obtain ⟨g1, g2⟩ := ok2.chg (c := .dic (putV kvs k v)) (o := .dK (putK ks k x)) h1 (fun z => nomatch z) ⟨_, rfl, KVs.put h4 k rx⟩
          rw [ex]
          refine ⟨a, _, rfl, DPut.k h2 (by rw [Paired.length h4]; exact Nat.lt_of_lt_of_le hz (by decide)), q (S2.chg n a _ _) σ (l2.trans l1) rfl ((x1.trans x2).trans g1) g2 (en.up ((x1.trans x2).trans g1))⟩
        · cases h
      · cases h
    · cases h
  · cases h
theorem q_get {apos cpos : Pos} (hu : X.A.units + 1 < cLine) (ha : QE K X a ta fa) (hb : QE K X b tb fb) (m : M1 X a "get" apos b cpos) : QE K X (.Call (.Attribute a "get" apos) [b] [] cpos) (tDGet1 ta tb) (eGet fa fb) := ⟨pe_dget1 hu ha.pe hb.pe m, se_get ha.se hb.se⟩
theorem qg_putK (hu : X.A.units + 1 < cLine) (ha : QE K X a ta fa) (hb : QE K X b tb fb) (hs : ∀ v, assign (.Subscript a b pos) X.env v = (do
      let ov ← holding [v] (eval a X.env)
      let iv ← holding [v, ov] (eval b X.env)
      standAt pos
      holding [v, ov, iv] (setItem ov iv v)
      release [v, ov, iv] [])) : QG K X (.Subscript a b pos) (L2.gSub ta tb rSetD) (tPutK fa fb) := ⟨pg_sub ha.pe hb.pe (L2.set_dict hu) hs, st_putK ha.se hb.se⟩
end
end Dl

set_option Elab.async false
set_option linter.all false
set_option maxRecDepth 100000
set_option maxHeartbeats 4000000
namespace Dl
open PySem PySem.Spec PyProof.Rows L2 Pg
def seqOf : PyData → Option (List PyData)
  | .list xs => some xs
  | .tuple xs => some xs
  | _ => none
/-- a.extend(list(b)), a a cell -/
def eExtL (a b : EF) : EF := fun ρ st => match a ρ st with
  | some (.r n, st1) => match st1[n]? with
    | some (.lst _) => match b ρ st1 with
      | some (v, st2) => match lookR st2 v, st2[n]? with
        | some d, some (.lst xs) => match seqOf d with
          | some ys => if xs.length + ys.length ≤ 16000000 then some (.d .none, st2.set n (.lst (xs ++ ys.map .d))) else none
          | none => none
        | _, _ => none
      | none => none
    | _ => none
  | _ => none
def keysOf : List PyData → Option (List Key)
  | [] => some []
  | d :: ds => match keyOfD d, keysOf ds with
    | some k, some ks => some (k :: ks)
    | _, _ => none
/-- d[tuple(s)] = v, s a new list of ints, texts -/
def tPutT (a s : EF) : TF := fun v ρ st => match a ρ st with
  | some (.r n, st1) => match s ρ st1 with
    | some (.d (.list ds), st2) => match keysOf ds, st2[n]? with
      | some k, some (.dct kvs) => if kvs.length < 16000000 then some (ρ, st2.set n (.dct (putV kvs k v))) else none
      | _, _ => none
    | _ => none
  | _ => none
abbrev rTupOf (K : PySem.W.Frag) : List V → Hp → VK → Prop := fun xs H Q => ∃ p ys, xs = [.ref p] ∧ ((SqL K H p ys ∧ ∀ l, H l = none → Q (.ref l) (upd H l (.tup ys))) ∨ (SqT K H p ys ∧ Q (.ref p) H))
abbrev rLstOf (K : PySem.W.Frag) : List V → Hp → VK → Prop := fun xs H Q => ∃ p ys, xs = [.ref p] ∧ (SqL K H p ys ∨ SqT K H p ys) ∧ ∀ l, H l = none → Q (.ref l) (upd H l (.lst ys))
section
variable {K : PySem.W.Frag} {X : Cx} {a b e : Expr} {ta tb te ts : TE} {fa fb f fs : EF} {pos p1 p2 p3 : Pos}
theorem keysOf_ok {G : Hp} : ∀ {ds : List PyData} {ys : List V} {k : List Key}, Dds K G ys ds → keysOf ds = some k → ys = k.map kV
  | [], _, _, .nil, e => by cases e; rfl
  | d :: ds, _, _, .cons h t, e => by
    unfold keysOf at e
    split at e
    · rename_i k ks e1 e2
      cases e
      obtain ⟨h1, _⟩ := keyOfD_ok h e1
      rw [h1, keysOf_ok t e2]
      rfl
    · cases e
theorem seqOf_ok {S : Wd} (ok : S.Ok K) {x : V} {v : Vd} {d : PyData} {ys : List PyData} (r : RV K S x v) (h : lookR S.st v = some d) (hs : seqOf d = some ys) : ∃ p zs, x = .ref p ∧ (SqL K S.H p zs ∨ SqT K S.H p zs) ∧ Dds K S.fr zs ys := by
  have rk := lookR_ok ok r h
  unfold seqOf at hs
  split at hs
  · cases hs
    obtain ⟨p, zs, h1, h2, h3⟩ := rk.list (fr_same S)
    exact ⟨p, zs, h1, .inl h2, h3⟩
  · cases hs
    obtain ⟨p, zs, h1, h2, h3, _⟩ := rk.tup (fr_same S)
    exact ⟨p, zs, h1, .inr h2, h3⟩
  · cases hs
theorem se_extL (ha : SE K ta fa) (hb : SE K tb fb) : SE K (tBM K "list" rExtend ta (tCons (tCB (rLstOf K) (tCons tb tNil)) tNil)) (eExtL fa fb) := by
  intro S ρ σ v st' ok en h Q q
  unfold eExtL at h
  split at h
  · rename_i n st1 e1
    split at h
    · rename_i zs e0
      split at h
      · rename_i w st2 e2
        split at h
        · rename_i d xs e3 e4
          split at h
          · rename_i ys e5
            split at h
            · rename_i hz
              cases h
              refine ha S ρ σ _ _ ok en e1 _ fun S1 xa l1 s1 x1 ok1 r1 => ?_
              subst s1
              refine ⟨ty_cell ok1 r1 e0, hb S1 ρ σ _ _ ok1 (en.up x1) e2 _ fun S2 xb l2 s2 x2 ok2 r2 => ?_⟩
              subst s2
              obtain ⟨p, us, hp, hq, hd⟩ := seqOf_ok ok2 r2 e3 e5
              refine ⟨p, us, by rw [hp], hq, fun l hl => ?_⟩
              have g1 := ok2.ext_put hl (.lst us)
              have ok3 := ok2.put hl (.lst us)
              obtain ⟨a, o, h1, h2, vs, h3, h4⟩ := look_at ok3 (show (S2.put l (.lst us)).st[n]? = some (.lst xs) from e4) (fun z => nomatch z)
              subst h3
              have ea := (r1.up (x2.trans g1)).ref_at h1
              subst ea
              have rr := rvs_of (K := K) (S := S2.put l (.lst us)) (Dds.up g1.keep _ _ hd)
              obtain ⟨c1, c2⟩ := ok3.chg (c := .lst (xs ++ ys.map .d)) (o := .lst (vs ++ us)) h1 (fun z => nomatch z) ⟨_, rfl, RVs.append_ h4 rr⟩
              refine ⟨a, l, vs, us, rfl, rfl, h2, upd_same, ?_, q (Wd.chg (S2.put l (.lst us)) n a (.lst (vs ++ us)) (.lst (xs ++ ys.map .d))) .non (l2.trans l1) rfl (((x1.trans x2).trans g1).trans c1) c2 Dd.non⟩
              rw [RVs.len h4, Dds.length_ hd]
              exact Nat.le_trans hz (by decide)
            · cases h
          · cases h
        · cases h
      · cases h
    · cases h
  · cases h
theorem q_extL {x : Str} {apos cpos : Pos} (hK : X.K = K) (ho : QE K X a ta fa) (hb : QE K X b tb fb) (hm : X.mg "list" = none) (hg : Gl X "list")
    (hs1 : starEach [b] X.env = (false, eval b X.env) :: starEach [] X.env) (hpl1 : (backTo p2 (starEach [] X.env)).any (·.1) = false)
    (hbase : attributeBase a "extend" X.env (eval a X.env) = eval a X.env)
    (hfew : ((backTo cpos (starEach [.Call (.Name "list" p1) [b] [] p2] X.env)).all (fun x => !x.1) && (backToKw cpos (keywordEach [] X.env)).all (fun x => x.1.isSome)
      && decide ([Expr.Call (.Name "list" p1) [b] [] p2].length + ([] : List Keyword).length + (if ([] : List Keyword).isEmpty then 0 else 1) < 30)) = true)
    (hline : (apos.endLine == cpos.line) = true) (hs : starEach [.Call (.Name "list" p1) [b] [] p2] X.env = (false, eval (.Call (.Name "list" p1) [b] [] p2) X.env) :: starEach [] X.env) (hplain : (backTo cpos (starEach [] X.env)).any (·.1) = false) :
    QE K X (.Call (.Attribute a "extend" apos) [.Call (.Name "list" p1) [b] [] p2] [] cpos) (tBM K "list" rExtend ta (tCons (tCB (rLstOf K) (tCons tb tNil)) tNil)) (eExtL fa fb) := by
  subst hK
  exact ⟨pe_bm PySem.F.plainAttrs_list PySem.F.slot_list_extend PySem.F.type_list_extend mt_extend ho.pe (pa_cons (pe_callTy call_list_of hg hm (by decide +kernel) (pa_cons hb.pe pa_nil hs1) (by decide) (by decide) hs1 hpl1) pa_nil hs) hbase hfew hline hs hplain, se_extL ho.se hb.se⟩
theorem st_putT (ha : SE K ta fa) (hs : SE K ts fs) : ST K (L2.gSub ta (tCB (rTupOf K) (tCons ts tNil)) rSetD) (tPutT fa fs) := by
  intro S ρ σ x v ρ' st' ok en r h Q q
  unfold tPutT at h
  split at h
  · rename_i n st1 e1
    split at h
    · rename_i ds st2 e2
      split at h
      · rename_i k kvs e3 e4
        split at h
        · rename_i hz
          cases h
          refine ha S ρ σ _ _ ok en e1 _ fun S1 xa l1 s1 x1 ok1 r1 => ?_
          subst s1
          refine hs S1 ρ σ _ _ ok1 (en.up x1) e2 _ fun S2 xb l2 s2 x2 ok2 r2 => ?_
          subst s2
          have r2' : Dd K S2.fr xb (.list ds) := r2
          cases r2' with
          | @lst p us _ hq hd =>
            refine ⟨p, us, rfl, .inl ⟨(fr_same S2).seq hq, fun l hl => ?_⟩⟩
            have g1 := ok2.ext_put hl (.tup us)
            have ok3 := ok2.put hl (.tup us)
            obtain ⟨a, o, h1, h2, ks, h3, h4⟩ := look_at ok3 (show (S2.put l (.tup us)).st[n]? = some (.dct kvs) from e4) (fun z => nomatch z)
            subst h3
            have ea := (r1.up (x2.trans g1)).ref_at h1
            subst ea
            have rx := ((r.up x1).up x2).up g1
            obtain ⟨c1, c2⟩ := ok3.chg (c := .dct (putV kvs k v)) (o := .dT (putK ks k x)) h1 (fun z => nomatch z) ⟨_, rfl, KVs.put h4 k rx⟩
            refine ⟨a, _, rfl, DPut.t h2 (by rw [← keysOf_ok hd e3]; exact upd_same) (by rw [Paired.length h4]; exact Nat.lt_of_lt_of_le hz (by decide)), ?_⟩
            exact q (Wd.chg (S2.put l (.tup us)) n a (.dT (putK ks k x)) (.dct (putV kvs k v))) σ (l2.trans l1) rfl (((x1.trans x2).trans g1).trans c1) c2 (en.up (((x1.trans x2).trans g1).trans c1))
        · cases h
      · cases h
    · cases h
  · cases h
theorem qg_putT {s : Expr} (hK : X.K = K) (hu : X.A.units + 1 < cLine) (ha : QE K X a ta fa) (hb : QE K X s ts fs) (hm : X.mg "tuple" = none) (hg : Gl X "tuple")
    (hs1 : starEach [s] X.env = (false, eval s X.env) :: starEach [] X.env) (hpl1 : (backTo p2 (starEach [] X.env)).any (·.1) = false)
    (hs : ∀ v, assign (.Subscript a (.Call (.Name "tuple" p1) [s] [] p2) pos) X.env v = (do
      let ov ← holding [v] (eval a X.env)
      let iv ← holding [v, ov] (eval (.Call (.Name "tuple" p1) [s] [] p2) X.env)
      standAt pos
      holding [v, ov, iv] (setItem ov iv v)
      release [v, ov, iv] [])) : QG K X (.Subscript a (.Call (.Name "tuple" p1) [s] [] p2) pos) (L2.gSub ta (tCB (rTupOf K) (tCons ts tNil)) rSetD) (tPutT fa fs) := by
  subst hK
  exact ⟨pg_sub ha.pe (pe_callTy call_tuple_of hg hm (by decide +kernel) (pa_cons hb.pe pa_nil hs1) (by decide) (by decide) hs1 hpl1) (L2.set_dict hu) hs, st_putT ha.se hb.se⟩
end
end Dl

set_option Elab.async false
set_option linter.all false
set_option maxRecDepth 100000
set_option maxHeartbeats 4000000
namespace Dl
open PySem PySem.Spec PyProof.Rows L2 Pg LamX
/-! ### sorted(xs, key=lambda x: -len(x)) -/
/-- the body -len(x) -/
abbrev lenB (xp : Str) (p1 p2 p3 p4 : Pos) : Expr := .UnaryOp .USub (.Call (.Name "len" p1) [.Name xp p2] [] p3) p4
structure LenS (scope : Scope) (params : Arguments) (body : Expr) (xp : Str) : Prop where
  kind : scope.kind = .function
  co : scope.isCoroutine = false
  gen : scope.isGenerator = false
  loc : scope.names.lookup xp = some .local
  len : scope.names.lookup ("len" : Str) = some .globalImplicit
  nc : ∀ x ∈ scope.names, x.2 ≠ .cell
  nf : ∀ x ∈ scope.names, x.2 ≠ .free
  dbg : (xp == ("__debug__" : Str)) = false
  bind : ∀ (q : Str) (pm cv ctv v : Value), bindArgs (PySem.W.kla_fn "<lambda>" q params body scope [] pm cv ctv) ⟨[v], []⟩ = pure [(xp, v)]
section
variable {X : Cx} {pins : List (Addr × Obj)} {σ : L2.St} {H : Hp} {s : Shared}
theorem len_key {A : Around} {scope : Scope} {params : Arguments} {xp : Str} {p1 p2 p3 p4 : Pos} {f c' a : Addr} {q : Str} {pm ctv : Value} {items : Array Value} (I : Inv X pins σ H s) (L : LenS scope params (lenB xp p1 p2 p3 p4) xp)
    (hf : s.heap.get? f = some (PySem.W.kla_obj "<lambda>" q params (lenB xp p1 p2 p3 p4) scope [] pm c' ctv)) (hcd : s.heap.CodeRec (.ref c') q) (hm : X.mg "len" = none) (hd : A.depth < recursionLimit)
    (hl : IsTup s.heap a items) (hz : (items.size : Int) < 2 ^ 63) (h : Heap) (tk : Nat) (kp : ∀ b o, s.heap.get? b = some o → h.get? b = some o) :
    wpAny (model X.prog X.w) A (call (.ref f) [.ref a]) (PySem.W.KeyPure (.int (-(items.size : Int))) { s with heap := h, toks := tk }) (fun _ _ => False) { s with heap := h, toks := tk } := by
  refine wpAny_call ?_
  refine PySem.W.kla_callFunE hd (kp _ _ hf) rfl L.co L.gen rfl (hcd.keeps kp) ?_
  rw [L.bind]
  refine wpAny_pure (wpAny_newFunctionEnv L.nc (fun x hx => by rw [List.mem_singleton.mp hx]; exact L.loc) (fun h₁ hns hsb => ⟨(I.nolimit.keeps kp).fresh _ hsb, ?_⟩) L.kind)
  have kp1 : ∀ b o, h.get? b = some o → h₁.get? b = some o := fun b o e => hsb.extBut b o (Nat.ne_of_lt (Heap.lt_size e)) (Heap.get?_push_of_some _ e)
  have kp2 : ∀ b o, s.heap.get? b = some o → h₁.get? b = some o := fun b o e => kp1 b o (kp b o e)
  obtain ⟨mb, g1, g2⟩ := I.mod.blt
  show codeAny _ _ (.expr (lenB xp p1 p2 p3 p4) (PySem.W.envX q scope h.objs.size f (.ref c') [])) _ _
  refine PySem.W.kla_codeExpr ?_
  refine UnaryOp_ (wpAny_Call_Name_kw (Calls.Name_function_global L.kind L.len (Calls.loadGlobal_builtin ((I.mod.glob.keeps I.bk).keeps kp2) hm ((g1.keeps I.bk).keeps kp2) ((g2 "len" (by decide)).trans PySem.boot_len) ?_) (by decide)))
  refine PyProof.Rows.callWith_builtin1 ?_ (by rfl) (by rfl)
  refine Calls.spliced_cons (wpAny_Name (wpAny_loadName_local L.kind L.loc hns (v := .ref a) (by simp) ?_) L.dbg)
  refine Calls.spliced_nil ?_
  have ht : IsTup h₁ a items := by
    obtain ⟨o, e, c, n, d⟩ := hl
    exact ⟨o, kp2 _ _ e, c, n, d⟩
  refine len_tuple ht hz ?_
  refine neg_int ?_
  exact ⟨h₁, _, rfl, kp1, .int _ _⟩
end
/-- the table at P tells code objects of the name q -/
abbrev lamH (P : Addr) (q : Str) (c : Addr) (tps : Array Value) (pos : Pos) (H : Hp) : Hp := upd (upd H c (CodeO c q)) P (.tbl (tps ++ #[rawInt pos.line, rawInt pos.col, .ref c]))
/-- the heap behind a lambda: the same, or with a code object more -/
def Lam (P : Addr) (q : Str) (H H2 : Hp) : Prop := H2 = H ∨ ∃ (tps : Array Value) (c : Addr) (pos : Pos), H P = some (.tbl tps) ∧ TriplesOk tps.toList ∧ H c = none ∧ H2 = lamH P q c tps pos H
theorem Lam.ext {P : Addr} {q : Str} {H H2 : Hp} (h : Lam P q H H2) : ExtN H H2 := by
  rcases h with rfl | ⟨tps, c, pos, h1, _, h2, rfl⟩
  · exact ExtN.refl _
  · intro b o e n
    have hb : b ≠ P := fun z => n tps (by rw [z, h1] at e; exact (Option.some.inj e).symm)
    show upd _ P _ b = some o
    rw [upd_ne hb, upd_ne (ne_of_none e h2)]
    exact e
section
variable {X : Cx} {pins : List (Addr × Obj)} {σ : L2.St} {H : Hp} {s : Shared}
theorem lam_at {c P : Addr} {params : Arguments} {body : Expr} {scope : Scope} {pos : Pos} {E : Value → Shared → Prop} {Q : Value → Shared → Prop} (I : Inv X pins σ H s) (TB : TabB X.base X.mg c P) (hcode : X.env.code = .ref c)
    (hT : TabS H P (X.env.qual ++ "<lambda>")) (hdef : defaultsOf params X.env = ([], [])) (hfree : ∀ y ∈ scope.names, y.2 = .free → ∃ c, X.env.cells.lookup y.1 = some c)
    (h : ∀ (f c' : Addr) (pm ctv : Value) (H1 : Hp) (s' : Shared), Inv X pins σ H1 s' → Lam P (X.env.qual ++ "<lambda>") H H1 →
      s'.heap.get? f = some (PySem.W.kla_obj "<lambda>" (X.env.qual ++ "<lambda>") params body scope (cloFrom X.env.cells scope.names []) pm c' ctv) → H1 c' = some (CodeO c' (X.env.qual ++ "<lambda>")) → Q (.ref f) s') :
    wpAny (model X.prog X.w) X.A (eval (.Lambda params body scope pos) X.env) Q E s := by
  obtain ⟨ps, hP, ht, ha⟩ := hT
  have hP' := I.hok P _ hP
  have bP := TB.bm.keeps I.bk
  refine PySem.W.kla_eval hdef ?_
  cases hc : codeAmong pos ps.toList with
  | some cv =>
    obtain ⟨c', rfl, hco⟩ := ha pos cv hc
    exact PySem.W.kla_makeFunctionHit (mg := X.mg) (c := c) (P := P) (ps := ps) (closure_ok hfree) I.ok.glob (I.mod.glob.keeps I.bk) hcode (TB.code.keeps I.bk) hP' ht hc bP fun ctv h' tk hx hsz =>
      h h'.objs.size c' ((X.mg "__name__").getD .none) ctv H _ (I.kept fun b o e => Heap.get?_push_of_some _ (hx b o e)) (.inl rfl) (Heap.get?_push_size _ rfl) hco
  | none =>
    refine PySem.W.kla_makeFunction (mg := X.mg) (c := c) (P := P) (ps := ps) (closure_ok hfree) I.ok.glob (I.mod.glob.keeps I.bk) hcode (TB.code.keeps I.bk) hP' ht hc TB.gP bP fun c' ctv h' tk hx hge hlt hrec htb => ?_
    obtain ⟨c2, oc, vs, t, e2, hoc, hd, hv⟩ := hrec
    cases e2
    have nC : H c' = none := I.hok.fresh hge
    have nPc : P ≠ c' := ne_of_none hP nC
    have I1 := inv_table (t' := tk) (more := #[rawInt pos.line, rawInt pos.col, .ref c']) (h' := h'.push (PySem.W.kla_obj "<lambda>" (X.env.qual ++ "<lambda>") params body scope (cloFrom X.env.cells scope.names []) ((X.mg "__name__").getD .none) c' ctv)) I hP
      (fun b o hb e => Heap.get?_push_of_some _ (hx b o hb e)) (Heap.get?_push_of_some _ htb) hge ⟨oc, vs, t, Heap.get?_push_of_some _ hoc, hd, hv⟩
    have ee : upd (upd H P (.tbl (ps ++ #[rawInt pos.line, rawInt pos.col, .ref c']))) c' (CodeO c' (X.env.qual ++ "<lambda>")) = lamH P (X.env.qual ++ "<lambda>") c' ps pos H := by
      funext b
      show upd _ c' _ b = upd _ P _ b
      by_cases h1 : b = P
      · subst h1; rw [upd_ne nPc, upd_same, upd_same]
      · rw [upd_ne h1]
        by_cases h2 : b = c'
        · subst h2; rw [upd_same, upd_same]
        · rw [upd_ne h2, upd_ne h2, upd_ne h1]
    rw [ee] at I1
    refine h h'.objs.size c' ((X.mg "__name__").getD .none) ctv _ _ I1 (.inr ⟨ps, c', pos, hP, ht, nC, rfl⟩) (Heap.get?_push_size _ rfl) ?_
    show upd _ P _ c' = _
    rw [upd_ne (Ne.symm nPc), upd_same]
end
abbrev lenLe : (V × List PyData) → (V × List PyData) → Bool := PySem.W.dataLe false fun y => .int (-(y.2.length : Int))
def sortLB (K : PySem.W.Frag) (P : Addr) (q : Str) (Q : VK) (x : V) (H1 : Hp) : Prop := ∃ (a : Addr) (xs : List (V × List PyData)), x = .ref a ∧ SqL K H1 a (xs.map (·.1)) ∧ (∀ y ∈ xs, ∃ t ys, y.1 = V.ref t ∧ SqT K H1 t ys ∧ ys.length = y.2.length) ∧ TabS H1 P q ∧
  ∀ H2 p, Lam P q H1 H2 → H2 p = none → Q (.ref p) (upd H2 p (.lst ((xs.mergeSort lenLe).map (·.1))))
def tSortL (K : PySem.W.Frag) (P : Addr) (q : Str) (te : TE) : TE := fun σ H Q => te σ H fun x H1 => sortLB K P q Q x H1
def one1 (B : V → Hp → Prop) (vs : List V) (H : Hp) : Prop := match vs with
  | [x] => B x H
  | _ => False
theorem each_len {K : PySem.W.Frag} {X : Cx} {pins : List (Addr × Obj)} {σ : L2.St} {H : Hp} {s : Shared} (hK : X.K = K) (I : Inv X pins σ H s) : ∀ {us : List Value} {xs : List (V × List PyData)}, Vals (xs.map (·.1)) us → (∀ y ∈ xs, ∃ t ys, y.1 = V.ref t ∧ SqT K H t ys ∧ ys.length = y.2.length) →
    PySem.W.EachIs (fun u (x : V × List PyData) => RelV x.1 u ∧ ∃ t its, u = Value.ref t ∧ IsTup s.heap t its ∧ its.size = x.2.length ∧ (its.size : Int) < 2 ^ 63) us xs
  | [], [], _, _ => .nil
  | _ :: _, [], h, _ => nomatch h
  | [], _ :: _, h, _ => nomatch h
  | _ :: us, x :: xs, .cons r t, h => by
    subst hK
    refine .cons ⟨r, ?_⟩ (each_len rfl I t fun y hy => h y (List.mem_cons_of_mem _ hy))
    obtain ⟨p, ys, e, hq, hl⟩ := h x List.mem_cons_self
    have r2 : RelV x.1 _ := r
    rw [e] at r2
    cases r2
    obtain ⟨its, rv, pl, hz⟩ := I.tuple hq
    have hn := line63
    refine ⟨p, its.toArray, rfl, pl, by rw [List.size_toArray, ← rv.length, hl], ?_⟩
    rw [List.size_toArray, ← rv.length]
    omega
theorem vals_each {R : Value → (V × List PyData) → Prop} (f : ∀ u x, R u x → RelV x.1 u) : ∀ {us : List Value} {xs : List (V × List PyData)}, PySem.W.EachIs R us xs → Vals (xs.map (·.1)) us
  | _, _, .nil => .nil
  | _, _, .cons h t => .cons (f _ _ h) (vals_each f t)
section
variable {X : Cx}
theorem pe_sortL {P c : Addr} {q : Str} {scope : Scope} {params : Arguments} {xp : Str} {p p1 p2 p3 p4 lpos kpos pos : Pos} {e : Expr} {te : TE} (hm : X.mg "sorted" = none) (hml : X.mg "len" = none) (he : PE X e te) (hg : Gl X "sorted")
    (TB : TabB X.base X.mg c P) (hcode : X.env.code = .ref c) (hq : q = X.env.qual ++ "<lambda>") (L : LenS scope params (lenB xp p1 p2 p3 p4) xp) (hdef : defaultsOf params X.env = ([], [])) (hcl : cloFrom X.env.cells scope.names [] = []) (hr : Room 2 X.A)
    (hs : starEach [e] X.env = (false, eval e X.env) :: starEach [] X.env)
    (he1 : backTo pos (starEach [e] X.env) = (false, eval e X.env) :: backTo pos (starEach [] X.env)) (hpl : (backTo pos (starEach [e] X.env)).any (·.1) = false)
    (hall : (backToKw pos (keywordEach [⟨some "key", .Lambda params (lenB xp p1 p2 p3 p4) scope lpos, kpos⟩] X.env)).all (·.1.isSome) = true) (hnone : (backToKw pos (keywordEach [⟨some "key", .Lambda params (lenB xp p1 p2 p3 p4) scope lpos, kpos⟩] X.env)).any (·.1.isNone) = false)
    (hks : (backToKw pos (keywordEach [⟨some "key", .Lambda params (lenB xp p1 p2 p3 p4) scope lpos, kpos⟩] X.env)).filterMap (·.1) = [("key" : Str)]) :
    PE X (.Call (.Name "sorted" p) [e] [⟨some "key", .Lambda params (lenB xp p1 p2 p3 p4) scope lpos, kpos⟩] pos) (tSortL X.K P q te) := by
  subst hq
  refine ⟨fun pins s σ H Q I h => ?_⟩
  refine wpAny_Call_Name_kw (ld_blt I hg hm (show bootBuiltins "sorted" = some (.builtin "sorted") by decide +kernel) ?_)
  refine PyProof.Rows.callWith_kw (thn ((pa_cons he pa_nil (hs := hs)).run pos pins s σ H (one1 (sortLB X.K P (X.env.qual ++ "<lambda>") Q)) I ?_) fun us s1 ⟨vs, H1, I1, r1, q1⟩ => ?_) he1 hpl hall hnone
  · exact h
  · obtain ⟨x, rfl⟩ : ∃ x, vs = [x] := by
      match vs, q1 with
      | [x], _ => exact ⟨x, rfl⟩
    obtain ⟨a, xs, rfl, hsq, hlen, hT, qq⟩ : sortLB X.K P (X.env.qual ++ "<lambda>") Q x H1 := q1
    rw [Vals.ref1 r1]
    show wpAny _ _ (evalAll ((do let v ← eval (.Lambda params (lenB xp p1 p2 p3 p4) scope lpos) X.env; standAt _; pure v) :: [])) _ _ _
    refine wpAny_evalAll_cons (wpAny_bind (lam_at I1 TB hcode hT hdef (fun y hy z => absurd z (L.nf y hy)) fun f c' pm ctv H2 s2 I2 lm hf hco => ?_))
    have eN := lm.ext
    refine wpAny_bind (wpAny_standAt (wpAny_pure (wpAny_evalAll_nil ?_)))
    rw [hks]
    have hco2 : s2.heap.CodeRec (.ref c') (X.env.qual ++ "<lambda>") := by
      obtain ⟨⟨oc, vs, t, h1, h2, h3⟩, _⟩ := I2.hok _ _ hco
      exact ⟨c', oc, vs, t, rfl, h1, h2, h3⟩
    have hf2 : s2.heap.get? f = some (PySem.W.kla_obj "<lambda>" (X.env.qual ++ "<lambda>") params (lenB xp p1 p2 p3 p4) scope [] pm c' ctv) := by rw [hf, hcl]
    have sq2 : SqL X.K H2 a (xs.map (·.1)) := by
      rcases hsq with (z | ⟨o, z⟩) | z
      · exact .inl (.inl (eN _ _ z (fun ps z2 => nomatch z2)))
      · exact .inl (.inr ⟨o, eN _ _ z (fun ps z2 => nomatch z2)⟩)
      · exact .inr z
    have len2 : ∀ y ∈ xs, ∃ t ys, y.1 = V.ref t ∧ SqT X.K H2 t ys ∧ ys.length = y.2.length := fun y hy => by
      obtain ⟨t, ys, e1, e2, e3⟩ := hlen y hy
      refine ⟨t, ys, e1, ?_, e3⟩
      rcases e2 with (z | ⟨o, z⟩) | z
      · exact .inl (.inl (eN _ _ z (fun ps z2 => nomatch z2)))
      · exact .inl (.inr ⟨o, eN _ _ z (fun ps z2 => nomatch z2)⟩)
      · exact .inr z
    obtain ⟨its, rv, hl, hz⟩ := I2.list sq2
    rw [List.length_map] at hz
    have el := each_len rfl I2 rv len2
    have hsl := sizeLine_eq
    refine PySem.W.sorted_key_data (b := false) (bs := xs) (fun y => PyData.int (-(y.2.length : Int))) hl.isList el (fun x hx y hy => ?_) (.inr fun x hx => ?_) hz (fun x hx => by show X.A.units + 2 + 0 < cLine; have := hr.un; omega) (ksk_s1 _ _) (fun _ => ksk_l1 _ _) (fun x => ksk_t1 f x) (fun v x hR hx h tk kp => ?_) fun out c0 h' tk keep hn ho hol hout => ?_
    · obtain ⟨x', _, rfl⟩ := List.mem_map.mp hx
      obtain ⟨y', _, rfl⟩ := List.mem_map.mp hy
      simp [PySem.W.alike]
    · obtain ⟨x', _, rfl⟩ := List.mem_map.mp hx
      exact ⟨by simp, by simp⟩
    · obtain ⟨_, t, its', rfl, ht, hs', hz'⟩ := hR
      rw [← hs']
      exact len_key (A := X.A.in1.in1) I2 L hf2 hco2 hml (by have := hr.dp; show X.A.depth < _; omega) ht hz' h tk kp
    · have rv2 := vals_each (fun u x hR => hR.1) hout
      have hz' : ((xs.mergeSort lenLe).map (·.1)).length ≤ sizeLine := by rw [List.length_map, List.length_mergeSort]; exact hz
      exact ⟨.ref _, upd H2 (s2.heap.objs.size + 1) (.lst ((xs.mergeSort lenLe).map (·.1))), I2.laid (t' := tk) keep (Nat.le_succ _) ⟨hz', out, c0, rv2, ho⟩, rfl, qq H2 _ lm (I2.hok.fresh (Nat.le_succ _))⟩
end
end Dl

set_option Elab.async false
set_option linter.all false
set_option maxRecDepth 100000
set_option maxHeartbeats 4000000
namespace Dl
open PySem PySem.Spec PyProof.Rows L2 L2.DX Pg
/-! ### sorted(d.items()), tuples as keys, ints as values -/
def pairD (k : List Key) (n : Int) : PyData := .tuple [tupD k, .int n]
open Classical in
/-- what is new, and the tuples that stood -/
noncomputable def newT (H H' : Hp) : Hp := fun b => if H b = none ∨ ∃ xs, H b = some (.tup xs) then H' b else none
def rSortII (K : PySem.W.Frag) : List V → Hp → VK → Prop := fun vs H Q => ∃ (p a : Addr) (kvs : List (List Key × Int)), vs = [.ref p] ∧ H p = some (itemsO p a) ∧ H a = some (.dT (kvs.map fun e => (e.1, V.int e.2))) ∧ sortsB (kvs.map fun e => pairD e.1 e.2) = true ∧
  ∀ (H' : Hp) (l : Addr) (zs : List V), Same H H' → H l = none → H' l = some (.lst zs) → Dds K (newT H H') zs (srt (kvs.map fun e => pairD e.1 e.2)) → Q (.ref l) H'
theorem reads_key {h : Heap} : ∀ {k : List Key} {its : List Value}, Vals (k.map kV) its → ReadsAll h its (k.map keyD) []
  | [], _, .nil => .nil
  | .inl i :: k, _, .cons r t => by
    obtain ⟨u, rfl⟩ := r
    exact .cons (as := []) (bs := []) (.int _ _) (reads_key t)
  | .inr x :: k, _, .cons r t => by
    obtain ⟨u, rfl⟩ := r
    exact .cons (as := []) (bs := []) (.str _ _) (reads_key t)
theorem dds_key {K : PySem.W.Frag} {G : Hp} : ∀ k : List Key, Dds K G (k.map kV) (k.map keyD)
  | [] => .nil
  | .inl i :: k => .cons (.int i) (dds_key k)
  | .inr x :: k => .cons (.str x) (dds_key k)
theorem each_idx {R : Value → List Key × Int → Prop} : ∀ {as : List Addr} {kvs : List (List Key × Int)}, as.length = kvs.length → (∀ (j : Nat) (b : Addr), as[j]? = some b → ∃ e, kvs[j]? = some e ∧ R (.ref b) e) → PySem.W.EachIs R (as.map Value.ref) kvs
  | [], [], _, _ => .nil
  | [], _ :: _, h, _ => nomatch h
  | _ :: _, [], h, _ => nomatch h
  | a :: as, e :: kvs, h, f => by
    obtain ⟨e', h1, h2⟩ := f 0 a rfl
    cases (Option.some.inj h1 : e = e')
    exact .cons h2 (each_idx (by simpa using h) fun j b hj => f (j + 1) b hj)
section
variable {X : Cx}
theorem cr_sortII (hc : X.calm = true) (hu : X.A.units + 64 < cLine) : CallR X (.builtin "sorted") (rSortII X.K) := by
  intro pins s σ H xs us Q I r h
  obtain ⟨p, a, kvs, rfl, hp, ha, hsb, q⟩ := h
  obtain rfl := Vals.ref1 r
  have view : s.heap.IsItemsView p a := (show ObjOk X.prog X.w H s.heap p (itemsO p a) from I.hok p _ hp).1
  obtain ⟨z, hd, xs', rel, o, es, ep, ho, hx, hdat, hes, his, hn⟩ := dt_of I.hok ha
  have l1 : kvs.length = xs'.length := by have := Paired.length rel; rwa [List.length_map] at this
  have l2 : es.size = xs'.length := size_of_entries hes
  obtain ⟨s1, s2, s3, s4⟩ := sorts_of hsb
  have s4' : kvs.length ≤ sizeLine := by rw [List.length_map] at s4; exact Nat.le_trans s4 (by decide)
  refine DT.sortedI (es := es) (ep := ep) (I.ok.hd hc) view ⟨o, ho, hx, hdat⟩ (by omega) fun h' tk as hk hlt hl hG => ?_
  have lak : as.length = kvs.length := by omega
  have nd : as.Nodup := List.Pairwise.imp (fun h => Nat.ne_of_lt h) hG.rise
  -- each pair that was made
  have pr : ∀ (j : Nat) (b : Addr), as[j]? = some b → ∃ (e : List Key × Int) (kq : Addr) (t : Tok), kvs[j]? = some e ∧ H kq = some (.tup (e.1.map kV)) ∧ h'.get? b = some { cls := .type "tuple", data := .seq #[Value.ref kq, Value.int e.2 t] } := by
    intro j b hj
    obtain ⟨en, he, hg⟩ := hG.pairs j b hj
    rw [entry_at hes j] at he
    cases hxj : xs'[j]? with
    | none =>
      rw [hxj] at he
      exact nomatch (show (none : Option DictEntry) = some en from he)
    | some x =>
      rw [hxj] at he
      have een : entryOfKey (tupleKind (mixKind X.prog X.w)) x = en := Option.some.inj he
      obtain ⟨e0, he0, r1, r2, r3⟩ := pget rel hxj
      rw [List.getElem?_map] at he0
      obtain ⟨e, hkj, ee⟩ := Option.map_eq_some_iff.mp he0
      subst ee
      obtain ⟨t, ev⟩ := (show RelV (V.int e.2) x.2.2 from r3)
      refine ⟨e, x.2.1, t, hkj, r2, ?_⟩
      rw [hg, ← een, ← ev]
      all_goals rfl
  have hob : (h'.push { cls := .type "list", data := .seq (as.map Value.ref).toArray }).get? h'.objs.size = some (seqObj "list" (as.map Value.ref).toArray 0) := Heap.get?_push_size _ rfl
  have kb : ∀ b o, s.heap.get? b = some o → (h'.push { cls := .type "list", data := .seq (as.map Value.ref).toArray }).get? b = some o := fun b o e => Heap.get?_push_of_some _ (hk b o e)
  have ne0 : ∀ b o, h'.get? b = some o → b ≠ h'.objs.size := fun b o e => Nat.ne_of_lt (Heap.lt_size e)
  generalize hh2 : h'.push { cls := .type "list", data := .seq (as.map Value.ref).toArray } = h2 at hob kb ⊢
  have ka : ∀ b o, h'.get? b = some o → h2.get? b = some o := fun b o e => by rw [← hh2]; exact Heap.get?_push_of_some _ e
  let R : Value → List Key × Int → Prop := fun u e => ∃ (b kq : Addr) (t : Tok), u = .ref b ∧ b ∈ as ∧ H kq = some (.tup (e.1.map kV)) ∧ h'.get? b = some { cls := .type "tuple", data := .seq #[Value.ref kq, Value.int e.2 t] }
  have eR : PySem.W.EachIs R (as.map Value.ref) kvs := each_idx lak fun j b hj => by
    obtain ⟨e, kq, t, h1, h2, h3⟩ := pr j b hj
    exact ⟨e, h1, b, kq, t, rfl, List.mem_of_getElem? hj, h2, h3⟩
  have eReads : PySem.W.EachIs (fun v (e : List Key × Int) => ∃ as', Reads h2 v (pairD e.1 e.2) as' ∧ h'.objs.size ∉ as') (as.map Value.ref) kvs := eR.mono fun u e hR => by
    obtain ⟨b, kq, t, rfl, _, h2', h3⟩ := hR
    obtain ⟨_, its, rv, ot, hot, hct, nt, hdt⟩ := (show ObjOk X.prog X.w H s.heap kq (.tup (e.1.map kV)) from I.hok kq _ h2')
    have rk : Reads h2 (.ref kq) (tupD e.1) [] := .tuple (kb _ _ hot) hct hdt (reads_key rv)
    exact ⟨_, .tuple (ka _ _ h3) rfl rfl (.cons (as := []) (bs := []) rk (.cons (as := []) (bs := []) (.int _ _) .nil)), by simp⟩
  refine PySem.W.list_sort_data (s := { s with heap := h2, toks := tk }) (A := X.A.in1) (enc := fun e : List Key × Int => pairD e.1 e.2) hob eR eReads s1 s2 s4' (fun b hb => ?_) fun out hol hout => ?_
  · have := s3 _ (List.mem_map_of_mem hb)
    show X.A.units + 1 + 1 + _ < cLine
    omega
  · show EP X pins σ Q (.ref h'.objs.size) { s with heap := sortedHeap h2 h'.objs.size (as.map Value.ref) (List.toArray out), toks := tk }
    have kF : ∀ b o, b ≠ h'.objs.size → h2.get? b = some o → (sortedHeap h2 h'.objs.size (as.map Value.ref) (List.toArray out)).get? b = some o := fun b o hb e => (PyProof.Rows.sortedHeap_old hb (Heap.lt_size e)).trans e
    have kS : ∀ b o, s.heap.get? b = some o → (sortedHeap h2 h'.objs.size (as.map Value.ref) (List.toArray out)).get? b = some o := fun b o e => kF b o (ne0 _ _ (hk b o e)) (kb b o e)
    obtain ⟨eF, heF⟩ := PyProof.Rows.sortedHeap_at (vs := as.map Value.ref) (out := List.toArray out) hob
    have I1 : Inv X pins σ H { s with heap := sortedHeap h2 h'.objs.size (as.map Value.ref) (List.toArray out), toks := tk } := I.kept (t' := tk) kS
    have hn0 : H h'.objs.size = none := I.hok.fresh (Nat.le_of_lt hlt)
    have split : ∀ {us : List Value} {ys : List (List Key × Int)}, PySem.W.EachIs R us ys → ∃ bs : List Addr, us = bs.map Value.ref := fun {us ys} e => by
      induction e with
      | nil => exact ⟨[], rfl⟩
      | cons h t ih =>
        obtain ⟨b, _, _, rfl, _⟩ := h
        obtain ⟨bs, e⟩ := ih
        exact ⟨b :: bs, by rw [e]; rfl⟩
    obtain ⟨bs, ebs⟩ := split hout
    subst ebs
    have lbs : bs.length = kvs.length := by rwa [List.length_map] at hol
    have hlen : (bs.map V.ref).length ≤ sizeLine := by rw [List.length_map, lbs]; exact s4'
    have rv : Vals (bs.map V.ref) (bs.map Value.ref) := vals_maps V.ref Value.ref bs fun _ _ => rfl
    have I2 : Inv X pins σ (upd H h'.objs.size (.lst (bs.map V.ref))) { s with heap := sortedHeap h2 h'.objs.size (as.map Value.ref) (List.toArray (bs.map Value.ref)), toks := tk } :=
      I1.take (h' := sortedHeap h2 h'.objs.size (as.map Value.ref) (List.toArray (bs.map Value.ref))) (t' := tk) (fun b ob _ e => e) (I.fpOk (Nat.le_of_lt hlt) hn0) ⟨hlen, bs.map Value.ref, eF, rv, heF⟩
    have fresh_as : ∀ b ∈ as, H b = none := fun b hb => I.hok.fresh (Nat.le_of_lt (hG.above b hb))
    obtain ⟨H2, I3, g, qt⟩ := takeT (P := fun b vs => ∃ (kq : Addr) (n : Int) (t : Tok), vs = [.ref kq, .int n] ∧ h'.get? b = some { cls := .type "tuple", data := .seq #[Value.ref kq, Value.int n t] }) I as _ I2 nd fun b hb => by
      obtain ⟨j, hj⟩ := List.mem_iff_getElem?.mp hb
      obtain ⟨e, kq, t, he, hkq, hg⟩ := pr j b hj
      refine ⟨Nat.le_of_lt (hG.above b hb), ?_, [.ref kq, .int e.2], ⟨kq, e.2, t, rfl, hg⟩, fun H3 => ⟨(by rw [sizeLine_eq]; show 2 ≤ 16777216; omega), [Value.ref kq, Value.int e.2 t], .cons rfl (.cons ⟨t, rfl⟩ .nil), ⟨_, kF _ _ (ne0 _ _ hg) (ka _ _ hg), rfl, 0, rfl⟩⟩⟩
      rw [upd_ne (ne0 _ _ hg)]
      exact fresh_as b hb
    have gr : Same H H2 := fun b o e => g b o (by rw [upd_ne (ne_of_none e hn0)]; exact e)
    have dd : ∀ {cs : List Addr} {ys : List (List Key × Int)}, PySem.W.EachIs R (cs.map Value.ref) ys → Dds X.K (newT H H2) (cs.map V.ref) (ys.map fun e => pairD e.1 e.2) := by
      intro cs
      induction cs with
      | nil =>
        intro ys e
        cases e
        exact .nil
      | cons b cs ih =>
        intro ys e
        cases e with
        | @cons _ y _ ys h t =>
          refine .cons ?_ (ih t)
          obtain ⟨b', kq, tt, e1, hb, hkq, hgb⟩ := h
          cases e1
          obtain ⟨vs, ⟨kq', n', t', ev, hg'⟩, hH⟩ := qt b hb
          rw [hgb] at hg'
          have e2 := Option.some.inj hg'
          have e3 : (#[Value.ref kq, Value.int y.2 tt] : Array Value) = #[Value.ref kq', Value.int n' t'] := by
            have := congrArg Obj.data e2
            injection this
          have e4 : [Value.ref kq, Value.int y.2 tt] = [Value.ref kq', Value.int n' t'] := congrArg Array.toList e3
          injection e4 with e5 e6
          injection e6 with e6 _
          injection e5 with e5
          injection e6 with e6 _
          subst e5 e6 ev
          have nb : newT H H2 b = some (.tup [.ref kq, .int y.2]) := (if_pos (.inl (fresh_as b hb))).trans hH
          have nk : newT H H2 kq = some (.tup (y.1.map kV)) := (if_pos (.inr ⟨_, hkq⟩)).trans (gr _ _ hkq)
          exact .tup (SqT.of nb) (.cons (.tup (SqT.of nk) (dds_key _)) (.cons (.int _) .nil))
    have em : srt (kvs.map fun e => pairD e.1 e.2) = (kvs.mergeSort (PySem.W.dataLe false fun e => pairD e.1 e.2)).map fun e => pairD e.1 e.2 :=
      (List.map_mergeSort (f := fun e : List Key × Int => pairD e.1 e.2) (r := PySem.W.dataLe false fun e : List Key × Int => pairD e.1 e.2) (s := PySem.W.dataLe false id) (fun a _ b _ => rfl)).symm
    refine ⟨.ref h'.objs.size, H2, I3, rfl, q H2 h'.objs.size (bs.map V.ref) gr hn0 (g _ _ upd_same) ?_⟩
    rw [em]
    exact dd hout
end
end Dl

set_option Elab.async false
set_option linter.all false
set_option maxRecDepth 100000
set_option maxHeartbeats 4000000
namespace Dl
open PySem PySem.Spec PyProof.Rows L2 Pg
/-! ### set(xs), xs a list of ints -/
abbrev newSO (w : World) : Obj := { cls := .type "set", dict := none, data := .set #[] 0 (.fresh 0 0 (!w.params.followText "set-order")) }
section
variable {P : Program} {w : World} {A : Around} {E : Value → Shared → Prop} {s : Shared}
set_option maxRecDepth 100000 in
set_option maxHeartbeats 3200000 in
theorem set_lstI {l : Addr} {us : Array Value} (zs : List Int) {Q : Value → Shared → Prop} (nh : A.handled = none) (lu : s.heap.IsList l us) (iu : IntsAre us.toList zs) (few : zs.length + 1 < scanBound)
    (fin : ∀ (g : Heap) (tk c : Nat), SetR w g s.heap.objs.size (fun j => decide (j ∈ zs)) c → c ≤ zs.length → (∀ b o, s.heap.get? b = some o → g.get? b = some o) → Q (.ref s.heap.objs.size) { s with heap := g, toks := tk }) :
    wpAny (model P w) A (call (.type "set") [.ref l]) Q E s := by
  have su : us.size = zs.length := by
    have e := IntsAre.length iu
    rwa [Array.length_toList] at e
  obtain ⟨mc, mt, mm⟩ := F.called_set.mro
  have f1 := F.called_set.made
  have f2 := F.called_set.sub
  refine wpAny_call (codeAny_of_tree ?_)
  show wpAny _ _ (callAny (.type "set") _) _ _ _
  refine wpAny_pure ⟨Code.quiet_builtin _ (by decide +kernel), codeAny_builtin F.entry_type_call ?_⟩
  rw [Around.under_plain (weight_type_call_type "set" [.ref l] []) rfl]
  have f3 := F.called_set.notType
  have f4 := F.called_set.canCreate
  have f5 := F.typeCall_set_1 (.ref l)
  repeat (any_goals (first | assumption | wp_step))
  refine codeAny_mono (code_set_led1 (.ref l) (E := E) (Q₁ := fun v t => v = .ref s.heap.objs.size ∧ t = { s with heap := s.heap.push (newSO w) }) ⟨rfl, rfl⟩) fun r t hr => ?_
  cases r with
  | error e => exact hr
  | ok fl =>
    cases fl with
    | ret v =>
      obtain ⟨rfl, rfl⟩ := hr
      have hS : (s.heap.push (newSO w)).get? s.heap.objs.size = some (newSO w) := Heap.get?_push_size _ rfl
      have tS : Shared.TypeIs { s with heap := s.heap.push (newSO w) } (.ref s.heap.objs.size) "set" := ⟨_, hS, rfl⟩
      have f6 := F.called_set.init.lookup
      have f7 := F.called_set.init.bind (.ref s.heap.objs.size)
      repeat (any_goals (first | assumption | wp_step))
      refine codeAny_mono (codeAny_call_builtin (R := wants (fun r t => r = .none ∧ ∃ g tk c, t = { s with heap := g, toks := tk } ∧ SetR w g s.heap.objs.size (fun j => decide (j ∈ zs)) c ∧ c ≤ zs.length ∧
          (∀ b o, s.heap.get? b = some o → g.get? b = some o)) E) F.called_set.init.plain F.entry_set_init (check_set_init_1 tS ?_)) fun r2 t2 hr2 => ?_
      · obtain ⟨⟨k1, k2, k3, k4⟩, hol, hcl, nl, hdl⟩ := lu
        simp only at hcl hdl
        subst hcl hdl
        have hol' : (s.heap.push (newSO w)).get? l = some ⟨.type "list", k2, .seq us nl, k4⟩ := Heap.get?_push_of_some _ hol
        have f8 := F.sub_list_set
        have f9 := F.sub_list_frozenset
        have f10 : (Value.type "list" == Value.type "dict") = false := by decide
        have lu1 : (s.heap.push (newSO w)).IsList l us := ⟨_, hol', rfl, nl, rfl⟩
        unfold Builtin.«set.__init__» noKeywords Builtin.Frozenset.updateFrom
        generalize hPI : pyIter = PI
        wp_walk
        subst hPI
        refine wpAny_pyIter_list lu1 ?_
        refine wpAny_bind (wpAny_runValue ?_)
        have hlS : l < s.heap.objs.size := Heap.lt_size hol
        have nh3 : A.in1.in1.in1.handled = none := by simp [nh]
        have n1 : l ≠ (s.heap.push (newSO w)).objs.size := by
          rw [Heap.size_push]
          exact Nat.ne_of_lt (Nat.lt_succ_of_lt hlS)
        have n2 : s.heap.objs.size ∉ [(s.heap.push (newSO w)).objs.size, l] := by
          rw [Heap.size_push]
          simp only [List.mem_cons, List.not_mem_nil, or_false, not_or]
          exact ⟨Nat.ne_of_lt (Nat.lt_succ_self _), Nat.ne_of_gt hlS⟩
        have val : ∀ (i : Nat) (v : Value), us[i]? = some v → ∃ k t, zs[i]? = some k ∧ v = .int k t := fun i v hv => by
          have hi : i < zs.length := by rw [← su]; exact (Array.getElem?_eq_some_iff.mp hv).1
          obtain ⟨t, e⟩ := PyProof.Rows.IntsAre.int_at iu i v (by rw [Array.getElem?_toList]; exact hv)
          refine ⟨zs[i], t, List.getElem?_eq_getElem hi, ?_⟩
          rw [e, List.getD_eq_getElem?_getD, List.getElem?_eq_getElem hi]
          rfl
        refine set_update_ints ((Walks.list nh3 _ l n1 us).toS) s.heap.objs.size n2 zs su few val (us.size - 0) 0 _ (by omega) (Nat.zero_le _) ⟨⟨_, Heap.get?_push_size _ rfl, rfl, rfl⟩, (lu1.push _)⟩ ?gA ?gB
        case gA => exact ⟨0, Nat.le_refl 0, setR_new_at (Heap.get?_push_of_some _ hS)⟩
        case gB =>
          intro t c hm hc hS'
          obtain ⟨g, g2, d', tk', os'⟩ := t
          have eg : g2 = s.gens := hm.gens
          have ed : d' = s.drawn := hm.drawn
          have eo : os' = s.os := hm.os
          subst eg ed eo
          show wpAny _ _ _ _ _ _
          refine wpAny_pure ?_
          show wpAny _ _ (ret Value.none) _ _ _
          rw [su] at hc
          refine wpAny_pure ⟨rfl, g, tk', c, rfl, hS', hc, fun b o e => ?_⟩
          have b0 : b < s.heap.objs.size := Heap.lt_size e
          have b2 : b ≠ (s.heap.push (newSO w)).objs.size := by
            rw [Heap.size_push]
            exact Nat.ne_of_lt (Nat.lt_succ_of_lt b0)
          exact hm.heap b o (by simp only [List.mem_cons, List.not_mem_nil, or_false, not_or]; exact ⟨Nat.ne_of_lt b0, b2⟩) (Heap.get?_push_of_some _ (Heap.get?_push_of_some _ e))
      · cases r2 with
        | error e => exact hr2
        | ok fl2 =>
          cases fl2 with
          | ret r =>
            obtain ⟨rfl, g, tk, c, rfl, q1, q2, q3⟩ := hr2
            repeat (any_goals (first | assumption | wp_step))
            exact fin _ _ _ q1 q2 q3
          | _ => exact hr2.elim
    | _ => exact hr.elim
end
end Dl

set_option Elab.async false
set_option linter.all false
set_option maxRecDepth 100000
set_option maxHeartbeats 4000000
namespace Dl
open PySem PySem.Spec PyProof.Rows L2 L2.DX Pg
/-! ### sorted(set(xs)), ints -/
def insI (x : Int) : List Int → List Int
  | [] => [x]
  | y :: l => if x < y then x :: y :: l else if x = y then y :: l else y :: insI x l
def sortSI : List Int → List Int
  | [] => []
  | x :: l => insI x (sortSI l)
theorem mem_insI {x z : Int} : ∀ {l : List Int}, z ∈ insI x l ↔ z = x ∨ z ∈ l
  | [] => by simp [insI]
  | y :: l => by
    unfold insI
    split
    · simp
    · split
      · rename_i h
        subst h
        simp
      · simp only [List.mem_cons, mem_insI (l := l)]
        constructor
        · rintro (h | h | h)
          · exact .inr (.inl h)
          · exact .inl h
          · exact .inr (.inr h)
        · rintro (h | h | h)
          · exact .inr (.inl h)
          · exact .inl h
          · exact .inr (.inr h)
theorem mem_sortSI {z : Int} : ∀ {l : List Int}, z ∈ sortSI l ↔ z ∈ l
  | [] => by simp [sortSI]
  | x :: l => by simp [sortSI, mem_insI, mem_sortSI (l := l)]
theorem asc_insI {x : Int} : ∀ {l : List Int}, l.Pairwise (· < ·) → (insI x l).Pairwise (· < ·)
  | [], _ => by simp [insI]
  | y :: l, h => by
    obtain ⟨h1, h2⟩ := List.pairwise_cons.mp h
    unfold insI
    split
    · rename_i hx
      refine List.pairwise_cons.mpr ⟨fun z hz => ?_, h⟩
      rcases List.mem_cons.mp hz with rfl | hz
      · exact hx
      · exact Int.lt_trans hx (h1 z hz)
    · split
      · exact h
      · rename_i h3 h4
        refine List.pairwise_cons.mpr ⟨fun z hz => ?_, asc_insI h2⟩
        rcases mem_insI.mp hz with rfl | hz
        · omega
        · exact h1 z hz
theorem asc_sortSI : ∀ l : List Int, (sortSI l).Pairwise (· < ·)
  | [] => .nil
  | x :: l => asc_insI (asc_sortSI l)
theorem asc_same : ∀ {l m : List Int}, l.Pairwise (· < ·) → m.Pairwise (· < ·) → (∀ z, z ∈ l ↔ z ∈ m) → l = m
  | [], [], _, _, _ => rfl
  | [], y :: m, _, _, h => absurd ((h y).mpr List.mem_cons_self) (by simp)
  | x :: l, [], _, _, h => absurd ((h x).mp List.mem_cons_self) (by simp)
  | x :: l, y :: m, hl, hm, h => by
    obtain ⟨l1, l2⟩ := List.pairwise_cons.mp hl
    obtain ⟨m1, m2⟩ := List.pairwise_cons.mp hm
    have e : x = y := by
      rcases List.mem_cons.mp ((h x).mp List.mem_cons_self) with e | hx
      · exact e
      · rcases List.mem_cons.mp ((h y).mpr List.mem_cons_self) with e | hy
        · exact e.symm
        · have := l1 y hy
          have := m1 x hx
          omega
    subst e
    rw [asc_same l2 m2 fun z => ?_]
    constructor
    · intro hz
      rcases List.mem_cons.mp ((h z).mp (List.mem_cons_of_mem _ hz)) with e | q
      · subst e; exact absurd (l1 z hz) (by omega)
      · exact q
    · intro hz
      rcases List.mem_cons.mp ((h z).mpr (List.mem_cons_of_mem _ hz)) with e | q
      · subst e; exact absurd (m1 z hz) (by omega)
      · exact q
theorem len_insI {x : Int} : ∀ {l : List Int}, (insI x l).length ≤ l.length + 1
  | [] => by simp [insI]
  | y :: l => by
    unfold insI
    split
    · simp
    · split
      · simp
      · have := len_insI (x := x) (l := l)
        simp only [List.length_cons]
        omega
theorem len_sortSI : ∀ {l : List Int}, (sortSI l).length ≤ l.length
  | [] => by simp [sortSI]
  | x :: l => by
    have := len_insI (x := x) (l := sortSI l)
    have := len_sortSI (l := l)
    simp only [sortSI, List.length_cons]
    omega
def rSetLI (K : PySem.W.Frag) (w : World) : List V → Hp → VK → Prop := fun xs H Q => ∃ (l : Addr) (zs : List Int), xs = [.ref l] ∧ SqL K H l (zs.map V.int) ∧ zs.length < 4000 ∧ ∀ p c, H p = none → c = (sortSI zs).length → Q (.ref p) (upd H p (SetO w p (fun j => decide (j ∈ zs)) c))
theorem setR_len {w : World} {h : Heap} {a : Addr} {zs : List Int} {c : Nat} (R : SetR w h a (fun j => decide (j ∈ zs)) c) : c = (sortSI zs).length := by
  obtain ⟨o, es, ep, t, ho, hex, hd, g, nd, hm, hb, hf, hn, hr, hl⟩ := R
  have nd2 : (sortSI zs).Nodup := List.Pairwise.imp (fun h => Int.ne_of_lt h) (asc_sortSI zs)
  have p := (List.perm_ext_iff_of_nodup nd nd2).mpr fun k => by rw [← hm k, decide_eq_true_iff, mem_sortSI]
  have := p.length_eq
  rw [List.length_map, Array.length_toList] at this
  omega
theorem cr_setLI {X : Cx} (hc : X.calm = true) : CallR X (.type "set") (rSetLI X.K X.w) := by
  intro pins s σ H xs us Q I r h
  obtain ⟨l, zs, rfl, hs, few, q⟩ := h
  rw [Vals.ref1 r]
  obtain ⟨its, rv, hl, hz⟩ := I.list hs
  refine set_lstI zs (I.ok.hd hc) hl.isList (by simpa using ints_of_vals rv) (Nat.lt_of_le_of_lt (show zs.length + 1 ≤ 4000 by omega) (by decide +kernel)) fun g tk c R hcl hk => ?_
  exact ⟨.ref s.heap.objs.size, upd H s.heap.objs.size (SetO X.w s.heap.objs.size (fun j => decide (j ∈ zs)) c), I.laid (t' := tk) hk (Nat.le_refl _) (setO_new R), rfl, q _ c (I.hok.fresh (Nat.le_refl _)) (setR_len R)⟩
def intsOf : List PyData → Option (List Int)
  | [] => some []
  | .int n :: ds => (intsOf ds).map (n :: ·)
  | _ :: _ => none
/-- sorted(set(a)) -/
def eSetS (a : EF) : EF := fun ρ st => match a ρ st with
  | some (v, st1) => match lookR st1 v with
    | some (.list ds) => match intsOf ds with
      | some zs => if zs.length < 4000 ∧ (sortSI zs).length < 64 then some (.d (.list ((sortSI zs).map .int)), st1) else none
      | none => none
    | _ => none
  | none => none
def intsV : List (List Key × Vd) → Option (List (List Key × Int))
  | [] => some []
  | (k, .d (.int n)) :: r => (intsV r).map ((k, n) :: ·)
  | _ :: _ => none
/-- sorted(d.items()), tuples as keys -/
noncomputable def eSortI (a : EF) : EF := fun ρ st => match a ρ st with
  | some (.r n, st1) => match st1[n]? with
    | some (.dct kvs) => match intsV kvs with
      | some es => if sortsB (es.map fun e => pairD e.1 e.2) = true then some (.d (.list (srt (es.map fun e => pairD e.1 e.2))), st1) else none
      | none => none
    | _ => none
  | _ => none
/-- [..] * n -/
def eRepL (a : AF) (b : EF) : EF := fun ρ st => match a ρ st with
  | some (vs, st1) => match datas vs with
    | some ds => if ds.length ≤ 1000 then match b ρ st1 with
      | some (.d (.int k), st2) => if 0 ≤ k ∧ k ≤ 1000 then some (.d (.list (List.replicate k.toNat ds).flatten), st2) else none
      | _ => none
      else none
    | none => none
  | none => none
/-- a.count(b), a frozen -/
def eCnt (a b : EF) : EF := fun ρ st => match a ρ st with
  | some (.d (.list ds), st1) => match b ρ st1 with
    | some (.d d, st2) => if PyData.plainAll ds = true ∧ d.plain = true ∧ d.depth ≤ 60 then some (.d (.int ((ds.countP fun y => PyData.eqv y d : Nat) : Int)), st2) else none
    | _ => none
  | _ => none
section
variable {K : PySem.W.Frag} {X : Cx} {a b e : Expr} {ta tb te : TE} {fa fb f : EF} {pos p1 p2 p3 : Pos}
theorem intsOf_ok {G : Hp} : ∀ {ds : List PyData} {ys : List V} {zs : List Int}, Dds K G ys ds → intsOf ds = some zs → ys = zs.map V.int
  | [], _, _, .nil, e => by cases e; rfl
  | .int n :: ds, _, _, .cons h t, e => by
    unfold intsOf at e
    obtain ⟨zs, h1, h2⟩ := Option.map_eq_some_iff.mp e
    subst h2
    cases h
    rw [intsOf_ok t h1]
    rfl
  | .none :: _, _, _, _, e => by cases e
  | .bool _ :: _, _, _, _, e => by cases e
  | .str _ :: _, _, _, _, e => by cases e
  | .tuple _ :: _, _, _, _, e => by cases e
  | .list _ :: _, _, _, _, e => by cases e
  | .dict _ :: _, _, _, _, e => by cases e
theorem se_setS (ha : SE K ta fa) {w : World} : SE K (tCB (rSortedSet w) (tCons (tCB (rSetLI K w) (tCons ta tNil)) tNil)) (eSetS fa) := by
  intro S ρ σ v st' ok en h Q q
  unfold eSetS at h
  split at h
  · rename_i va st1 e1
    split at h
    · rename_i ds e2
      split at h
      · rename_i zs e3
        split at h
        · rename_i hz
          cases h
          refine ha S ρ σ _ _ ok en e1 _ fun S1 xa l1 s1 x1 ok1 r1 => ?_
          subst s1
          obtain ⟨l, ys, hx, h1, h2⟩ := (lookR_ok ok1 r1 e2).list (fr_same S1)
          refine ⟨l, zs, by rw [hx], by rw [← intsOf_ok h2 e3]; exact h1, hz.1, fun p c hp hc => ?_⟩
          refine ⟨p, _, c, rfl, upd_same, by rw [hc]; exact hz.2, fun ns p' asc mem _ hp' => ?_⟩
          have en' : ns = sortSI zs := asc_same asc (asc_sortSI zs) fun z => by rw [mem z, decide_eq_true_iff, mem_sortSI]
          subst en'
          have g1 := (Grow.refl (fr_same S1)).put hp (SetO w p (fun j => decide (j ∈ zs)) c)
          have g2 := g1.put hp' (.lst ((sortSI zs).map V.int))
          exact (q.from l1 x1).grow ok1 g2 (.lst (SqL.of upd_same) (ints_dds _))
        · cases h
      · cases h
    · cases h
  · cases h
theorem q_setS (hK : X.K = K) (hc : X.calm = true) (ms : X.mg "set" = none) (mo : X.mg "sorted" = none) (ha : QE K X e te f) (g1 : Gl X "set") (g2 : Gl X "sorted")
    (he : starEach [e] X.env = (false, eval e X.env) :: starEach [] X.env) :
    QE K X (.Call (.Name "sorted" p1) [.Call (.Name "set" p2) [e] [] p3] [] pos) (tCB (rSortedSet X.w) (tCons (tCB (rSetLI K X.w) (tCons te tNil)) tNil)) (eSetS f) := by
  subst hK
  exact ⟨pe_callB (cr_sortedSet hc) g2 mo (by decide +kernel) (pa_cons (pe_callTy (cr_setLI hc) g1 ms (by decide +kernel) (pa_cons ha.pe pa_nil he) (by decide) (by decide) he rfl) pa_nil), se_setS ha.se⟩
theorem intsV_ok {S : Wd} : ∀ {kvs : List (List Key × Vd)} {ks : List (List Key × V)} {es : List (List Key × Int)}, KVs K S ks kvs → intsV kvs = some es → ks = es.map fun e => (e.1, V.int e.2)
  | [], _, _, .nil, e => by cases e; rfl
  | (k, .d (.int n)) :: r, (k', x) :: _, es, .cons h t, e => by
    unfold intsV at e
    obtain ⟨zs, h1, h2⟩ := Option.map_eq_some_iff.mp e
    subst h2
    obtain ⟨h3, h4⟩ := h
    have h3' : k' = k := h3
    subst h3'
    have h4' : Dd K S.fr x (.int n) := h4
    cases h4'
    rw [intsV_ok t h1]
    rfl
  | (_, .r _) :: _, _, _, _, e => by cases e
  | (_, .d .none) :: _, _, _, _, e => by cases e
  | (_, .d (.bool _)) :: _, _, _, _, e => by cases e
  | (_, .d (.str _)) :: _, _, _, _, e => by cases e
  | (_, .d (.tuple _)) :: _, _, _, _, e => by cases e
  | (_, .d (.list _)) :: _, _, _, _, e => by cases e
  | (_, .d (.dict _)) :: _, _, _, _, e => by cases e
theorem tup_free {S : Wd} (ok : S.Ok K) {b : Addr} {xs : List V} (h : S.H b = some (.tup xs)) : ¬ S.Lv b := by
  rintro (z | ⟨n, c, z⟩)
  · obtain ⟨o, h1, h2⟩ := ok.hL b z
    rw [h] at h1
    exact h2 xs (Option.some.inj h1).symm
  · obtain ⟨o, h1, h2⟩ := ok.cell z
    rw [h] at h1
    cases Option.some.inj h1
    have hd := z.2.1
    cases c with
    | dead => exact hd rfl
    | lst _ => obtain ⟨_, q, _⟩ := h2; cases q
    | dic _ => obtain ⟨_, q, _⟩ := h2; cases q
    | dct _ => obtain ⟨_, q, _⟩ := h2; cases q
    | tbl _ _ => obtain ⟨_, q, _⟩ := h2; cases q
theorem se_sortI (ha : SE K ta fa) : SE K (tCB (rSortII K) (tCons (tBM0 K "dict" rItemsT ta) tNil)) (eSortI fa) := by
  intro S ρ σ v st' ok en h Q q
  unfold eSortI at h
  split at h
  · rename_i n st1 e1
    split at h
    · rename_i kvs e2
      split at h
      · rename_i es e3
        split at h
        · rename_i hs
          cases h
          refine ha S ρ σ _ _ ok en e1 _ fun S1 xa l1 s1 x1 ok1 r1 => ?_
          subst s1
          obtain ⟨a, o, h1, h2, ks, h3, h4⟩ := look_at ok1 e2 (fun z => nomatch z)
          subst h3
          have ea := r1.ref_at h1
          subst ea
          have ek := intsV_ok h4 e3
          refine ⟨.inr (.inr (.inl ⟨rfl, .inr ⟨ks, h2⟩⟩)), a, ks, rfl, rfl, h2, fun p hp => ?_⟩
          have nap : a ≠ p := ne_of_none h2 hp
          refine ⟨p, a, es, rfl, upd_same, by rw [upd_ne nap, ← ek]; exact h2, hs, fun H' l zs sm hl hH hd => ?_⟩
          have sm1 : Same S1.H H' := (same_up hp).trans sm
          have gr := ok1.grow sm1
          refine (q.from l1 x1) { S1 with H := H' } (.ref l) rfl rfl gr.1 gr.2 ?_
          have lz : S1.H l = none := by
            cases c : S1.H l with
            | none => rfl
            | some u =>
              have := same_up (o := itemsO p a) hp l u c
              rw [hl] at this
              cases this
          have up : Same (newT (upd S1.H p (itemsO p a)) H') ({ S1 with H := H' } : Wd).fr := fun b u hb => by
            unfold newT at hb
            split at hb
            · rename_i hc
              refine fr_at (fun z => ?_) hb
              rcases hc with hc | ⟨xs, hc⟩
              · refine ok1.fresh ?_ (show S1.Lv b from z)
                cases c : S1.H b with
                | none => rfl
                | some u' =>
                  have := same_up (o := itemsO p a) hp b u' c
                  rw [hc] at this
                  cases this
              · have nb : b ≠ p := fun e => by
                  rw [e, upd_same] at hc
                  unfold itemsO at hc
                  cases hc
                rw [upd_ne nb] at hc
                exact tup_free ok1 hc z
            · cases hb
          show Dd K ({ S1 with H := H' } : Wd).fr (.ref l) (.list _)
          refine .lst (SqL.of (fr_at (fun z => ok1.fresh lz z) hH)) (Dds.up up _ _ hd)
        · cases h
      · cases h
    · cases h
  · cases h
theorem q_sortI {apos cpos : Pos} (hK : X.K = K) (hc : X.calm = true) (hu : X.A.units + 64 < cLine) (mo : X.mg "sorted" = none) (ha : QE K X a ta fa) (g2 : Gl X "sorted")
    (hbase : attributeBase a "items" X.env (eval a X.env) = eval a X.env) (hline : (apos.endLine == cpos.line) = true)
    (he : starEach [.Call (.Attribute a "items" apos) [] [] cpos] X.env = (false, eval (.Call (.Attribute a "items" apos) [] [] cpos) X.env) :: starEach [] X.env) :
    QE K X (.Call (.Name "sorted" p1) [.Call (.Attribute a "items" apos) [] [] cpos] [] pos) (tCB (rSortII K) (tCons (tBM0 K "dict" rItemsT ta) tNil)) (eSortI fa) := by
  subst hK
  exact ⟨pe_callB (cr_sortII hc hu) g2 mo (by decide +kernel) (pa_cons (pe_bm0 PySem.F.plainAttrs_dict PySem.F.slot_dict_items PySem.F.type_dict_items mt_itemsT ha.pe hbase hline) pa_nil he) (by decide) (by decide) he rfl, se_sortI ha.se⟩
end
end Dl

set_option Elab.async false
set_option linter.all false
set_option maxRecDepth 100000
set_option maxHeartbeats 4000000
namespace Dl
open PySem PySem.Spec PyProof.Rows L2 Pg LamX
/-! ### a table of code objects as a cell; sorted(xs, key=lambda x: -len(x)) -/
section
variable {K : PySem.W.Frag}
theorem Wd.At.set_ {S : Wd} {n : Nat} {c : Cell} {a : Addr} (h : S.At n c a) : S.st.set n c = S.st := by
  obtain ⟨hn, e⟩ := List.getElem?_eq_some_iff.mp h.1
  rw [← e]
  exact List.set_getElem_self hn
theorem Wd.Ok.tabS {S : Wd} (ok : S.Ok K) {n : Nat} {P : Addr} {q : Str} (h : S.st[n]? = some (.tbl P q)) : S.At n (.tbl P q) P ∧ TabS S.H P q := by
  obtain ⟨a, o, h1, h2, ps, h3, h4, h5⟩ := look_at ok h (fun z => nomatch z)
  have ea := ok.tb h1
  subst ea
  subst h3
  exact ⟨h1, ps, h2, h4, fun pos cv hc => let ⟨c, e1, e2⟩ := h5 pos cv hc; ⟨c, e1, (fr_same S) _ _ e2⟩⟩
theorem Wd.Ok.lam {S : Wd} (ok : S.Ok K) {n : Nat} {P : Addr} {q : Str} {H2 : Hp} (h : S.st[n]? = some (.tbl P q)) (l : Lam P q S.H H2) : Ext S { S with H := H2 } ∧ ({ S with H := H2 } : Wd).Ok K := by
  rcases l with rfl | ⟨tps, c, pos, h1, h2, h3, rfl⟩
  · exact ⟨Ext.refl _, ok⟩
  · obtain ⟨a, o, g1, g2, ps, g3, g4, g5⟩ := look_at ok h (fun z => nomatch z)
    have ea := ok.tb g1
    subst ea
    subst g3
    have ep : tps = ps := by rw [h1] at g2; cases g2; rfl
    subst ep
    have e1 := ok.ext_put h3 (CodeO c q)
    have ok1 := ok.put h3 (CodeO c q)
    have nP : a ≠ c := ne_of_none h1 h3
    have g1' : (S.put c (CodeO c q)).At n (.tbl a q) a := g1
    obtain ⟨e2, ok2⟩ := ok1.chg (c := .tbl a q) (o := .tbl (tps ++ #[rawInt pos.line, rawInt pos.col, .ref c])) g1' (fun z => nomatch z) (by
      refine ⟨_, rfl, ?_, fun p' cv hc => ?_⟩
      · have eL : (tps ++ #[rawInt pos.line, rawInt pos.col, .ref c]).toList = tps.toList ++ [rawInt pos.line, rawInt pos.col, .ref c] := by simp
        rw [eL]
        exact PySem.TriplesOk_snoc _ _ _ _ h2
      · have eL : (tps ++ #[rawInt pos.line, rawInt pos.col, .ref c]).toList = tps.toList ++ [rawInt pos.line, rawInt pos.col, .ref c] := by simp
        rw [eL] at hc
        rcases among_app _ h2 hc with z | z
        · obtain ⟨d, e1', e2'⟩ := g5 p' cv z
          exact ⟨d, e1', e1.keep _ _ e2'⟩
        · exact ⟨c, z, ok.got h3⟩) (fun P' q' z => by cases z; rfl)
    have es : (S.put c (CodeO c q)).chg n a (.tbl (tps ++ #[rawInt pos.line, rawInt pos.col, .ref c])) (.tbl a q) = { S with H := lamH a q c tps pos S.H } := by
      show ({ S with st := S.st.set n (.tbl a q), H := _ } : Wd) = _
      rw [g1.set_]
      rfl
    rw [es] at e2 ok2
    exact ⟨e1.trans e2, ok2⟩
def tupsOf : List PyData → Option (List (List PyData))
  | [] => some []
  | .tuple xs :: r => (tupsOf r).map (xs :: ·)
  | _ => none
abbrev lenLd : List PyData → List PyData → Bool := PySem.W.dataLe false fun y => .int (-(y.length : Int))
open Classical in
noncomputable def eSortL (P : Addr) (q : Str) (f : EF) : EF := fun ρ st => match f ρ st with
  | some (.d (.list ds), st1) => match tupsOf ds with
    | some tt => if (Cell.tbl P q) ∈ st1 then some (.d (.list ((tt.mergeSort lenLd).map .tuple)), st1) else none
    | none => none
  | _ => none
theorem tups_ok {G : Hp} : ∀ {ds : List PyData} {tt : List (List PyData)} {xs : List V}, tupsOf ds = some tt → Dds K G xs ds → ∃ ps : List (V × List PyData), ps.map (·.1) = xs ∧ ps.map (·.2) = tt ∧ ∀ p ∈ ps, Dd K G p.1 (.tuple p.2)
  | [], _, _, h, r => by
    cases h
    cases r
    exact ⟨[], rfl, rfl, fun p hp => absurd hp (by simp)⟩
  | .tuple y :: ds, tt, xs, h, r => by
    simp only [tupsOf, Option.map_eq_some_iff] at h
    obtain ⟨t2, h1, rfl⟩ := h
    cases r with
    | @cons v vs _ _ hv hr =>
      obtain ⟨ps, e1, e2, e3⟩ := tups_ok h1 hr
      refine ⟨(v, y) :: ps, by simp [e1], by simp [e2], fun p hp => ?_⟩
      rcases List.mem_cons.mp hp with rfl | hp
      · exact hv
      · exact e3 p hp
theorem dds_map {G : Hp} : ∀ {ps : List (V × List PyData)}, (∀ p ∈ ps, Dd K G p.1 (.tuple p.2)) → Dds K G (ps.map (·.1)) ((ps.map (·.2)).map .tuple)
  | [], _ => .nil
  | p :: ps, h => .cons (h p List.mem_cons_self) (dds_map fun z hz => h z (List.mem_cons_of_mem _ hz))
theorem se_sortL {te : TE} {f : EF} {P : Addr} {q : Str} (he : SE K te f) : SE K (tSortL K P q te) (eSortL P q f) := by
  intro S ρ σ v st' ok en h Q qq
  unfold eSortL at h
  split at h
  · rename_i ds st1 e1
    split at h
    · rename_i tt e2
      split at h
      · rename_i hm
        cases h
        refine he S ρ σ _ _ ok en e1 _ fun S1 xa l1 s1 x1 ok1 r1 => ?_
        subst s1
        obtain ⟨n, hn⟩ := List.getElem?_of_mem hm
        obtain ⟨at1, tS⟩ := ok1.tabS hn
        have r1' : Dd K S1.fr xa (.list ds) := r1
        cases r1' with
        | @lst p us _ hq hd =>
          obtain ⟨ps, p1, p2, p3⟩ := tups_ok e2 hd
          subst p1
          subst p2
          refine ⟨p, ps, rfl, (fr_same S1).seq hq, fun y hy => ?_, tS, fun H2 l lm hl => ?_⟩
          · have := p3 y hy
            generalize hy1 : y.1 = y1 at this
            cases this with
            | @tup t ys _ hq' hd' => exact ⟨t, ys, rfl, same_seqT (fr_same S1) hq', Dds.length_ hd'⟩
          · obtain ⟨x2, ok2⟩ := ok1.lam hn lm
            have x3 := ok2.ext_put hl (.lst ((ps.mergeSort lenLe).map (·.1)))
            have ok3 := ok2.put hl (.lst ((ps.mergeSort lenLe).map (·.1)))
            refine qq (Wd.put { S1 with H := H2 } l (.lst ((ps.mergeSort lenLe).map (·.1)))) (.ref l) l1 rfl ((x1.trans x2).trans x3) ok3 (Dd.lst (xs := (ps.mergeSort lenLe).map (·.1)) (.inl (.inl (ok2.got hl))) ?_)
            have em : (ps.map (·.2)).mergeSort lenLd = (ps.mergeSort lenLe).map (·.2) := (List.map_mergeSort (f := fun (y : V × List PyData) => y.2) (r := lenLe) (s := lenLd) (l := ps) (fun a _ b _ => rfl)).symm
            rw [em]
            refine Dds.up ((x2.trans x3).keep) _ _ (dds_map fun y hy => p3 y ?_)
            exact (List.mergeSort_perm _ _).mem_iff.mp hy
      · cases h
    · cases h
  · cases h
end
section
variable {X : Cx} {K : PySem.W.Frag}
theorem q_sortL {P c : Addr} {q : Str} {scope : Scope} {params : Arguments} {xp : Str} {p p1 p2 p3 p4 lpos kpos pos : Pos} {e : Expr} {te : TE} {f : EF} (hK : X.K = K) (hm : X.mg "sorted" = none) (hml : X.mg "len" = none) (he : QE K X e te f) (hg : Gl X "sorted")
    (TB : TabB X.base X.mg c P) (hcode : X.env.code = .ref c) (hq : q = X.env.qual ++ "<lambda>") (L : LenS scope params (lenB xp p1 p2 p3 p4) xp) (hdef : defaultsOf params X.env = ([], [])) (hcl : cloFrom X.env.cells scope.names [] = []) (hr : Room 2 X.A)
    (hs : starEach [e] X.env = (false, eval e X.env) :: starEach [] X.env)
    (he1 : backTo pos (starEach [e] X.env) = (false, eval e X.env) :: backTo pos (starEach [] X.env)) (hpl : (backTo pos (starEach [e] X.env)).any (·.1) = false)
    (hall : (backToKw pos (keywordEach [⟨some "key", .Lambda params (lenB xp p1 p2 p3 p4) scope lpos, kpos⟩] X.env)).all (·.1.isSome) = true) (hnone : (backToKw pos (keywordEach [⟨some "key", .Lambda params (lenB xp p1 p2 p3 p4) scope lpos, kpos⟩] X.env)).any (·.1.isNone) = false)
    (hks : (backToKw pos (keywordEach [⟨some "key", .Lambda params (lenB xp p1 p2 p3 p4) scope lpos, kpos⟩] X.env)).filterMap (·.1) = [("key" : Str)]) :
    QE K X (.Call (.Name "sorted" p) [e] [⟨some "key", .Lambda params (lenB xp p1 p2 p3 p4) scope lpos, kpos⟩] pos) (tSortL K P q te) (eSortL P q f) := by
  subst hK
  exact ⟨pe_sortL hm hml he.pe hg TB hcode hq L hdef hcl hr hs he1 hpl hall hnone hks, se_sortL he.se⟩
end
/-! ### xs.count(y), [..] * n -/
def rCntD (K : PySem.W.Frag) : V → List V → Hp → VK → Prop := fun x xs H Q => ∃ (a : Addr) (y : V) (ys : List V) (ds : List PyData) (d : PyData), x = .ref a ∧ xs = [y] ∧ SqL K H a ys ∧ Dds K H ys ds ∧ Dd K H y d ∧ PyData.plainAll ds = true ∧ d.plain = true ∧ d.depth ≤ 60 ∧
  Q (.int ((ds.countP fun y => PyData.eqv y d : Nat) : Int)) H
theorem mt_cntD {X : Cx} (hu : X.A.units + 64 < cLine) : MtR X "list.count" (rCntD X.K) := by
  intro pins s σ H x xs v us Q I rx rv h
  obtain ⟨a, y, ys, ds, d, rfl, rfl, hs, hd, hy, p1, p2, p3, q⟩ := h
  cases rx
  obtain ⟨its, r, p, hz⟩ := I.list hs
  match us, rv with
  | [u], .cons r1 .nil =>
    obtain ⟨as, R1⟩ := dds_say I hd r
    obtain ⟨bs, R2, _⟩ := dd_say I d y u hy r1
    refine PySem.SeqAt.count_list_data (as := as) (bs := bs) p.isList (by simpa using R1) R2 p1 p2 (by omega) ?_
    exact ⟨.int _, H, I.tok _, ⟨_, rfl⟩, q⟩
theorem se_cntD {K : PySem.W.Frag} {ta tb : TE} {fa fb : EF} (ha : SE K ta fa) (hb : SE K tb fb) : SE K (tBM K "list" (rCntD K) ta (tCons tb tNil)) (eCnt fa fb) := by
  intro S ρ σ v st' ok en h Q q
  unfold eCnt at h
  split at h
  · rename_i ds st1 e1
    split at h
    · rename_i d st2 e2
      split at h
      · rename_i hc
        cases h
        refine ha S ρ σ _ _ ok en e1 _ fun S1 xa l1 s1 x1 ok1 r1 => ?_
        subst s1
        have r1' : Dd K S1.fr xa (.list ds) := r1
        cases r1' with
        | @lst p us _ hq hd =>
          refine ⟨.inl ⟨rfl, us, (fr_same S1).seq hq⟩, hb S1 ρ σ _ _ ok1 (en.up x1) e2 _ fun S2 xb l2 s2 x2 ok2 r2 => ?_⟩
          subst s2
          refine ⟨p, xb, us, ds, d, rfl, rfl, (fr_same S2).seq (x2.keep.seq hq), Dds.up (x2.keep.trans (fr_same S2)) _ _ hd, Dd.up (fr_same S2) _ _ r2, hc.1, hc.2.1, hc.2.2, ?_⟩
          exact q S2 _ (l2.trans l1) rfl (x1.trans x2) ok2 (Dd.int _)
      · cases h
    · cases h
  · cases h
theorem q_cnt {X : Cx} {K : PySem.W.Frag} {a b : Expr} {ta tb : TE} {fa fb : EF} {apos cpos : Pos} (hK : X.K = K) (hu : X.A.units + 64 < cLine) (ho : QE K X a ta fa) (hb : QE K X b tb fb)
    (hbase : attributeBase a "count" X.env (eval a X.env) = eval a X.env)
    (hfew : ((backTo cpos (starEach [b] X.env)).all (fun x => !x.1) && (backToKw cpos (keywordEach [] X.env)).all (fun x => x.1.isSome)
      && decide ([b].length + ([] : List Keyword).length + (if ([] : List Keyword).isEmpty then 0 else 1) < 30)) = true)
    (hline : (apos.endLine == cpos.line) = true) (hs : starEach [b] X.env = (false, eval b X.env) :: starEach [] X.env) (hplain : (backTo cpos (starEach [] X.env)).any (·.1) = false) :
    QE K X (.Call (.Attribute a "count" apos) [b] [] cpos) (tBM K "list" (rCntD K) ta (tCons tb tNil)) (eCnt fa fb) := by
  subst hK
  exact ⟨pe_bm PySem.F.plainAttrs_list PySem.F.slot_list_count PySem.F.type_list_count (mt_cntD hu) ho.pe (pa_cons hb.pe pa_nil hs) hbase hfew hline hs hplain, se_cntD ho.se hb.se⟩
theorem dds_rep {K : PySem.W.Frag} {G : Hp} {xs : List V} {ds : List PyData} (h : Dds K G xs ds) : ∀ n, Dds K G (List.replicate n xs).flatten (List.replicate n ds).flatten
  | 0 => .nil
  | n + 1 => by
    rw [List.replicate_succ, List.replicate_succ, List.flatten_cons, List.flatten_cons]
    exact Dl.Dds.append_ h (dds_rep h n)
theorem se_repL {K : PySem.W.Frag} {ta : TA} {tb : TE} {fa : AF} {fb : EF} (ha : SA K ta fa) (hb : SE K tb fb) : SE K (tOp rRep (tLst ta) tb) (eRepL fa fb) := by
  intro S ρ σ v st' ok en h Q q
  unfold eRepL at h
  split at h
  · rename_i vs st1 e1
    split at h
    · rename_i ds e2
      split at h
      · rename_i hn
        split at h
        · rename_i k st2 e3
          split at h
          · rename_i hk
            cases h
            refine ha S ρ σ _ _ ok en e1 _ fun S1 xa l1 s1 x1 ok1 r1 => ?_
            subst s1
            have dd := datas_ok r1 e2
            have hlen := Dds.length_ dd
            refine ⟨by rw [hlen]; exact Nat.le_trans hn (by decide), fun p hp => ?_⟩
            have xp := ok1.ext_put hp (.lst xa)
            have okp := ok1.put hp (.lst xa)
            refine hb (S1.put p (.lst xa)) ρ σ _ _ okp (en.up (x1.trans xp)) e3 _ fun S2 xb l2 s2 x2 ok2 r2 => ?_
            subst s2
            have r2' : Dd K S2.fr xb (.int k) := r2
            cases r2'
            have hpf := x2.keep _ _ (ok1.got (o := .lst xa) hp)
            refine ⟨p, k, xa, rfl, rfl, (fr_of hpf).2, by omega, by omega, ?_, fun l hl => ?_⟩
            · rw [hlen]
              have : ds.length * k.toNat ≤ 1000 * 1000 := Nat.mul_le_mul hn (by omega)
              exact Nat.le_trans this (by decide)
            · have d2 : Dds K S2.fr xa ds := Dds.up (xp.trans x2).keep _ _ dd
              exact new_lst (fr_same S2) (dds_rep d2 k.toNat) (fun G' H' w g hw => (q.from (l2.trans l1) ((x1.trans xp).trans x2)).grow ok2 g hw) hl
          · cases h
        · cases h
      · cases h
    · cases h
  · cases h
theorem q_repL {X : Cx} {K : PySem.W.Frag} {es : List Expr} {b : Expr} {ta : TA} {tb : TE} {fa : AF} {fb : EF} {p1 p2 : Pos} (ha : QA K X es ta fa) (hb : QE K X b tb fb) : QE K X (.BinOp (.List es p1) .Mult b p2) (tOp rRep (tLst ta) tb) (eRepL fa fb) :=
  ⟨pe_op op_rep (pe_lst ha.pa) hb.pe, se_repL ha.sa hb.se⟩
end Dl

set_option Elab.async false
set_option linter.all false
set_option maxRecDepth 100000
set_option maxHeartbeats 4000000
namespace Dl
open PySem PySem.Spec PyProof.Rows L2 Pg LamX
/-! ### a def whose code object is known: it makes lambdas -/
section
variable {P : Program} {w : World} {K : PySem.W.Frag} {mg : Str → Option Value} {base : Heap}
theorem okGC {x qual : Str} {st : Stmt} {f : Addr} {fd : FuncData} {N ps : List Str} {k : Nat} {sp : Sp} (F : Fun K x qual st f fd) (S : FnScope N ps (defScope st)) (size : ∀ vs H Q E, sp vs H Q E → vs.length = ps.length)
    (body : ∀ (cdv : Value), fd.code = cdv → ∀ (A : Around) (outer : List PySem.Env) (s : Shared) (H : Hp) (vs : List V) (Q : VK) (E : XK), A.guards = some [] → Room k (A.deeper (envOfC qual (defScope st) s.heap.objs.size f cdv)) → sp vs H Q E →
      ∃ t, PSs (cxOf CX0 P w K mg base N qual (defScope st) f cdv A outer s H E).nox (defBody st) t ∧ t { nx := fun _ H' => Q .non H', rt := Q } (start N vs) H) : FnG P w K mg base (k + 1) f fd ps sp := by
  obtain ⟨c1, c2, c3, c4, c5, c6, cd, c7, c8, rfl, found, coded⟩ := F.ex
  refine ⟨size, fun A outer s H args us vs Q E hg hr e0 hb r hsp => ?_⟩
  have lens := size _ _ _ _ hsp
  have KX : K.In s.heap := e0.mod.kin.keeps fun b o e => (e0.bs b o e).1
  have lim : s.heap.NoLimit := e0.mod.nolimit.keeps fun b o e => (e0.bs b o e).1
  refine codeAny_call_function hr.depth (KX _ _ found) rfl S.co S.gen rfl (PySem.W.codeRec_of KX coded) (hb _ _ _ _ ?_)
  refine wpAny_newFunctionEnv_cells S.kind (fun ⟨n, v⟩ hy => ?_) fun env he s1 new => ?_
  · rcases S.par n (List.of_mem_zip hy).1 with q | q
    · exact .inl q
    · exact .inr ⟨q, PySem.W.cellsFrom_some _ _ _ (.inl q)⟩
  subst he
  refine ⟨lim.keeps new.toInCall.keep, codeAny_func ?_⟩
  obtain ⟨t, ht, hq⟩ := body cd rfl A outer s H vs Q E hg (hr.deeper _) hsp
  have I : Inv (cxOf CX0 P w K mg base N qual (defScope st) f cd A outer s H E) [] (start N vs) H s1 := inv_start S hr.hd e0 lens r new
  refine wpAny_mono (ht.nox.run [] s1 (start N vs) H _ I hq) (fun fl s' hs => ?_) fun e s' hs => hs
  cases fl with
  | ret u =>
    obtain ⟨v, σ', H', J, rv, q⟩ := hs
    exact ⟨v, H', J.os, J.bare, J.base, J.hok, rv, q⟩
  | next =>
    obtain ⟨σ', H', J, q⟩ := hs
    exact ⟨V.non, H', J.os, J.bare, J.base, J.hok, rfl, q⟩
  | brk =>
    obtain ⟨_, _, _, q⟩ := hs
    exact q.elim
  | cont =>
    obtain ⟨_, _, _, q⟩ := hs
    exact q.elim
theorem okDC {x : Str} {st : Stmt} {f : Addr} {fd : FuncData} {N ps : List Str} {k : Nat} {Fn : FF} {g : SF} (D : Df K mg x ps st f fd) (Sc : FnScope N ps (defScope st))
    (body : ∀ (cdv : Value), fd.code = cdv → ∀ (A : Around) (outer : List PySem.Env) (s : Shared) (H : Hp) (E : XK), A.guards = some [] → Room k (A.deeper (envOfC x (defScope st) s.heap.objs.size f cdv)) → ∃ ts, QSs K (cxOf CX0 P w K mg base N x (defScope st) f cdv A outer s H E).nox (defBody st) ts g)
    (hF : ∀ args s v s', args.length = ps.length → Fn args s = some (v, s') → EndsD g (startD N args) s v s') : Cal P w K mg base (k + 1) x ps Fn := by
  refine ⟨f, fd, okGC D.fn Sc (fun vs H Q E h => h.1) (fun cdv hcd A outer s H vs Q E hg hr h => ?_), D.bd, D.at_, D.fn.kp⟩
  obtain ⟨hl, S, args, v, st', ok, rfl, rv, e, q⟩ := h
  obtain ⟨ts, B⟩ := body cdv hcd A outer s S.H E hg hr
  refine ⟨ts, B.ps, ?_⟩
  have la : args.length = ps.length := by rw [← RVs.len rv]; exact hl
  obtain ⟨junk, h1, h2, h3⟩ := hF args S.st v st' la e
  rcases h1 with h1 | ⟨hv, ρ', h1⟩
  · exact B.ss S _ _ _ ok (renv_start rv) h1 { nx := fun _ H' => Q .non H', rt := Q } fun S' y l s' x' ok' r' => aft_cut ok q l s' x' ok' r' h2 h3
  · subst hv
    exact B.ss S _ _ _ ok (renv_start rv) h1 { nx := fun _ H' => Q .non H', rt := Q } fun S' σ' l s' x' ok' en' => aft_cut (x := .non) ok q l s' x' ok' (Dd.non) h2 h3
end
theorem u1 {A : Around} (h : A.units + 64 < cLine) : A.units + 1 < cLine := by omega
/-- q_par where the code of a lambda is known -/
theorem lenS_by {scope : Scope} {params : Arguments} {body : Expr} {xp : Str} (h : (decide (scope.kind = .function) && !scope.isCoroutine && !scope.isGenerator && decide (scope.names.lookup xp = some .local) && decide (scope.names.lookup ("len" : Str) = some .globalImplicit) && scope.names.all (fun x => !decide (x.2 = .cell) && !decide (x.2 = .free)) && !(xp == ("__debug__" : Str))) = true)
    (hb : ∀ (q : Str) (pm cv ctv v : Value), bindArgs (PySem.W.kla_fn "<lambda>" q params body scope [] pm cv ctv) ⟨[v], []⟩ = pure [(xp, v)]) : LenS scope params body xp := by
  simp only [Bool.and_eq_true, Bool.not_eq_true', decide_eq_true_eq, decide_eq_false_iff_not, List.all_eq_true] at h
  obtain ⟨⟨⟨⟨⟨⟨h1, h2⟩, h3⟩, h4⟩, h5⟩, h6⟩, h7⟩ := h
  exact ⟨h1, h2, h3, h4, h5, fun x hx => (h6 x hx).1, fun x hx => (h6 x hx).2, h7, hb⟩
end Dl

set_option Elab.async false
set_option linter.all false
set_option maxRecDepth 100000
set_option maxHeartbeats 4000000
namespace Dl
open PySem PySem.Spec PyProof.Rows L2 Pg LamX
section
variable {P : Program} {w : World} {K : PySem.W.Frag} {mg : Str → Option Value} {base : Heap}
theorem okDF {x : Str} {st : Stmt} {f : Addr} {fd : FuncData} {N ps : List Str} {k : Nat} {Fn : FF} {g : SF} (D : Df K mg x ps st f fd) (Sc : FnScope N ps (defScope st))
    (body : ∀ (cdv : Value) (A : Around) (outer : List PySem.Env) (s : Shared) (H : Hp) (E : XK), A.guards = some [] → Room k (A.deeper (envOfC x (defScope st) s.heap.objs.size f cdv)) → ∃ ts, QSs K (cxOf CX0 P w K mg base N x (defScope st) f cdv A outer s H E).nox (defBody st) ts g)
    (hF : ∀ args s v s', args.length = ps.length → Fn args s = some (v, s') → EndsD g (startD N args) s v s') : FnG P w K mg base (k + 1) f fd ps (spD K ps.length Fn) := by
  refine okG D.fn Sc (fun vs H Q E h => h.1) (fun cdv A outer s H vs Q E hg hr h => ?_)
  obtain ⟨hl, S, args, v, st', ok, rfl, rv, e, q⟩ := h
  obtain ⟨ts, B⟩ := body cdv A outer s S.H E hg hr
  refine ⟨ts, B.ps, ?_⟩
  have la : args.length = ps.length := by rw [← RVs.len rv]; exact hl
  obtain ⟨junk, h1, h2, h3⟩ := hF args S.st v st' la e
  rcases h1 with h1 | ⟨hv, ρ', h1⟩
  · exact B.ss S _ _ _ ok (renv_start rv) h1 { nx := fun _ H' => Q .non H', rt := Q } fun S' y l s' x' ok' r' => aft_cut ok q l s' x' ok' r' h2 h3
  · subst hv
    exact B.ss S _ _ _ ok (renv_start rv) h1 { nx := fun _ H' => Q .non H', rt := Q } fun S' σ' l s' x' ok' en' => aft_cut (x := .non) ok q l s' x' ok' (Dd.non) h2 h3
end
/-- the world at a law's begin: one table -/
def wd1 (H : Hp) (P : Addr) (q : Str) : Wd := ⟨[P], fun _ => False, [.tbl P q], H⟩
theorem wd1_at {H : Hp} {P : Addr} {q : Str} {n : Nat} {c : Cell} {a : Addr} (h : (wd1 H P q).At n c a) : n = 0 ∧ c = .tbl P q ∧ a = P := by
  obtain ⟨h1, _, h3⟩ := h
  cases n with
  | zero =>
    have e1 : some (Cell.tbl P q) = some c := h1
    have e3 : some P = some a := h3
    cases e1
    cases e3
    exact ⟨rfl, rfl, rfl⟩
  | succ n =>
    have : (none : Option Cell) = some c := by
      have h1' : ([Cell.tbl P q] : List Cell)[n + 1]? = some c := h1
      simpa using h1'
    cases this
theorem wd1_ok {K : PySem.W.Frag} {H : Hp} {P : Addr} {q : Str} (hP : H P = some (.tbl #[])) : (wd1 H P q).Ok K where
  len := rfl
  inj := fun h1 h2 => by rw [(wd1_at h1).1, (wd1_at h2).1]
  nL := fun _ h => h
  hL := fun a h => h.elim
  cell := fun {n c a} h => by
    obtain ⟨_, rfl, rfl⟩ := wd1_at h
    refine ⟨_, hP, #[], rfl, True.intro, fun pos cv hc => ?_⟩
    have z : codeAmong pos [] = some cv := hc
    simp [codeAmong] at z
  tb := fun {n P' q' a} h => by
    obtain ⟨_, e, rfl⟩ := wd1_at h
    cases e
    rfl
theorem wd1_sq {K : PySem.W.Frag} {H : Hp} {P a : Addr} {q : Str} {xs : List V} (hP : H P = some (.tbl #[])) (h : SqL K H a xs) : SqL K (wd1 H P q).fr a xs := by
  have up : ∀ o, H a = some o → (∀ ps, o ≠ .tbl ps) → (wd1 H P q).fr a = some o := fun o e n => by
    refine fr_at (fun z => ?_) e
    rcases z with z | ⟨_, _, z⟩
    · exact z
    · have := (wd1_at z).2.2
      rw [this, hP] at e
      exact n #[] (Option.some.inj e).symm
  rcases h with (z | ⟨o, z⟩) | z
  · exact .inl (.inl (up _ z fun ps z => nomatch z))
  · exact .inl (.inr ⟨o, up _ z fun ps z => nomatch z⟩)
  · exact .inr z
/-- a law of data that answers True keeps its promise -/
theorem law_of {K : PySem.W.Frag} {H : Hp} {P a : Addr} {q : Str} {F : FF} {ns : List Int} (hP : H P = some (.tbl #[])) (hS : SqL K H a (ns.map V.int)) (h : ∃ s, F [.d (.list (ns.map .int))] [.tbl P q] = some (.d (.bool true), s)) (hi : Dds K (wd1 H P q).fr (ns.map V.int) (ns.map .int)) :
    spD K 1 F [.ref a] H (fun v _ => v = .bl true) fun _ _ _ => False := by
  obtain ⟨s, e⟩ := h
  refine ⟨rfl, wd1 H P q, [.d (.list (ns.map .int))], .d (.bool true), s, wd1_ok hP, rfl, .cons (.lst (wd1_sq hP hS) hi) .nil, e, fun S' x _ _ _ _ r => ?_⟩
  have r' : Dd K S'.fr x (.bool true) := r
  cases r'
  rfl
end Dl

set_option Elab.async false
set_option linter.all false
set_option maxRecDepth 100000
set_option maxHeartbeats 4000000
namespace Dl
open PySem PySem.Spec PyProof.Rows L2 Pg
/-! ### d.get(k, x), d[k], d a cell with ints, texts as keys -/
def eGet2 (a b c : EF) : EF := fun ρ st => match a ρ st with
  | some (.r n, st1) => match st1[n]? with
    | some (.dic _) => match b ρ st1 with
      | some (.d kd, st2) => match c ρ st2 with
        | some (w, st3) => match keyOfD kd, st3[n]? with
          | some k, some (.dic kvs) => some ((getV kvs k).getD w, st3)
          | _, _ => none
        | none => none
      | _ => none
    | _ => none
  | _ => none
def eDix (a b : EF) : EF := fun ρ st => match a ρ st with
  | some (.r n, st1) => match b ρ st1 with
    | some (.d kd, st2) => match keyOfD kd, st2[n]? with
      | some k, some (.dic kvs) => (getV kvs k).map fun v => (v, st2)
      | _, _ => none
    | _ => none
  | _ => none
section
variable {K : PySem.W.Frag} {X : Cx} {a b c e : Expr} {ta tb tc : TE} {fa fb fc : EF} {pos : Pos}
theorem se_get2 (ha : SE K ta fa) (hb : SE K tb fb) (hc : SE K tc fc) : SE K (tDGet2 ta tb tc) (eGet2 fa fb fc) := by
  intro S ρ σ v st' ok en h Q q
  unfold eGet2 at h
  split at h
  · rename_i n st1 e1
    split at h
    · rename_i kv0 e0
      split at h
      · rename_i kd st2 e2
        split at h
        · rename_i w st3 e5
          split at h
          · rename_i k kvs e3 e4
            cases h
            refine ha S ρ σ _ _ ok en e1 _ fun S1 xa l1 s1 x1 ok1 r1 => ?_
            subst s1
            obtain ⟨a0, o0, h01, h02, ks0, h03, h04⟩ := look_at ok1 e0 (fun z => nomatch z)
            refine ⟨a0, r1.ref_at h01, .inl ⟨ks0, .inl (h03 ▸ h02)⟩, hb S1 ρ σ _ _ ok1 (en.up x1) e2 _ fun S2 xb l2 s2 x2 ok2 r2 => ?_⟩
            subst s2
            refine hc S2 ρ σ _ _ ok2 (en.up (x1.trans x2)) e5 _ fun S3 xc l3 s3 x3 ok3 r3 => ?_
            subst s3
            have r2' : Dd K S2.fr xb kd := r2
            obtain ⟨ex, ek⟩ := keyOfD_ok r2' e3
            obtain ⟨a, o, h1, h2, ks, h3, h4⟩ := look_at ok3 e4 (fun z => nomatch z)
            have ea : a0 = a := by
              have z1 := r1.ref_at h01
              have z2 := (r1.up (x2.trans x3)).ref_at h1
              rw [z1] at z2
              exact V.ref.inj z2
            subst ea
            subst h3
            rw [ex]
            refine ⟨valV ks k, DGet.k h2, ?_⟩
            rcases KVs.get h4 k with ⟨g1, g2⟩ | ⟨w, x, g1, g2, g3⟩
            · rw [g2]
              rw [g1] at q
              exact q S3 xc (l3.trans (l2.trans l1)) rfl (x1.trans (x2.trans x3)) ok3 r3
            · rw [g2]
              rw [g1] at q
              exact q S3 x (l3.trans (l2.trans l1)) rfl (x1.trans (x2.trans x3)) ok3 g3
          · cases h
        · cases h
      · cases h
    · cases h
  · cases h
theorem q_get2 {apos cpos : Pos} (hu : X.A.units + 1 < cLine) (ha : QE K X a ta fa) (hb : QE K X b tb fb) (hc : QE K X c tc fc) (m : M2 X a "get" apos b c cpos) : QE K X (.Call (.Attribute a "get" apos) [b, c] [] cpos) (tDGet2 ta tb tc) (eGet2 fa fb fc) :=
  ⟨pe_dget2 hu ha.pe hb.pe hc.pe m, se_get2 ha.se hb.se hc.se⟩
theorem se_dix (ha : SE K ta fa) (hb : SE K tb fb) : SE K (tDGet ta tb) (eDix fa fb) := by
  intro S ρ σ v st' ok en h Q q
  unfold eDix at h
  split at h
  · rename_i n st1 e1
    split at h
    · rename_i kd st2 e2
      split at h
      · rename_i k kvs e3 e4
        obtain ⟨w, hw, e5⟩ := Option.map_eq_some_iff.mp h
        cases e5
        refine ha S ρ σ _ _ ok en e1 _ fun S1 xa l1 s1 x1 ok1 r1 => ?_
        subst s1
        refine hb S1 ρ σ _ _ ok1 (en.up x1) e2 _ fun S2 xb l2 s2 x2 ok2 r2 => ?_
        subst s2
        have r2' : Dd K S2.fr xb kd := r2
        obtain ⟨ex, ek⟩ := keyOfD_ok r2' e3
        obtain ⟨a, o, h1, h2, ks, h3, h4⟩ := look_at ok2 e4 (fun z => nomatch z)
        subst h3
        rw [ex]
        rcases KVs.get h4 k with ⟨g1, g2⟩ | ⟨w', x, g1, g2, g3⟩
        · rw [g1] at hw
          cases hw
        · rw [g1] at hw
          cases hw
          have := DGet.k (k := k) h2
          rw [g2] at this
          exact ⟨a, x, (r1.up x2).ref_at h1, this, q S2 x (l2.trans l1) rfl (x1.trans x2) ok2 g3⟩
      · cases h
    · cases h
  · cases h
theorem q_dix (hu : X.A.units + 1 < cLine) (ha : QE K X a ta fa) (hb : QE K X b tb fb) (hs : NoSl b) : QE K X (.Subscript a b pos) (tDGet ta tb) (eDix fa fb) := ⟨pe_dget hu ha.pe hb.pe hs, se_dix ha.se hb.se⟩
end
end Dl

set_option Elab.async false
set_option linter.all false
set_option maxRecDepth 100000
set_option maxHeartbeats 4000000
namespace Dl
open PySem PySem.Spec PyProof.Rows L2 Pg LamX
/-! ### sorted(xs, key=lambda x: ..): the key a path through tuples, or the length of one -/
inductive Pt where
  | x | c | at (p : Pt) (i : Int) | ix (p q : Pt)
def ixT (ys : List PyData) (i : Int) : Option PyData := if ys.length ≤ sizeLine then atI ys i else none
def ptD (x c : PyData) : Pt → Option PyData
  | .x => some x
  | .c => some c
  | .at p i => match ptD x c p with
    | some (.tuple ys) => ixT ys i
    | _ => none
  | .ix p q => match ptD x c p, ptD x c q with
    | some (.tuple ys), some (.int i) => ixT ys i
    | _, _ => none
structure Ky where
  neg : Bool
  len : Bool
  p : Pt
def sgn (b : Bool) (i : Int) : Int := if b then -i else i
def kyD (k : Ky) (c x : PyData) : Option Int := match k.len, ptD x c k.p with
  | true, some (.tuple ys) => if ys.length ≤ sizeLine then some (sgn k.neg ys.length) else none
  | false, some (.int i) => some (sgn k.neg i)
  | _, _ => none
inductive PtE (xp : Str) (cn : Option Str) : Pt → Expr → Prop
  | x {p} : PtE xp cn .x (.Name xp p)
  | c {n p} (h : cn = some n) : PtE xp cn .c (.Name n p)
  | at {a e i j p q} (h : PtE xp cn a e) : PtE xp cn (.at a i) (.Subscript e (.Constant (.int i) j p) q)
  | ix {a b e f q} (h : PtE xp cn a e) (h2 : PtE xp cn b f) (hs : PlainIx f) : PtE xp cn (.ix a b) (.Subscript e f q)
inductive KyE (xp : Str) (cn : Option Str) : Ky → Expr → Prop
  | len {a e p1 p3} (h : PtE xp cn a e) : KyE xp cn ⟨false, true, a⟩ (.Call (.Name "len" p1) [e] [] p3)
  | nlen {a e p1 p3 p4} (h : PtE xp cn a e) : KyE xp cn ⟨true, true, a⟩ (.UnaryOp .USub (.Call (.Name "len" p1) [e] [] p3) p4)
  | pth {a e} (h : PtE xp cn a e) : KyE xp cn ⟨false, false, a⟩ e
theorem PtE.star {xp : Str} {cn : Option Str} {a : Pt} {e : Expr} (h : PtE xp cn a e) (rest : List Expr) (env : PySem.Env) : starEach (e :: rest) env = (false, eval e env) :: starEach rest env := by
  cases h <;> rfl
theorem reads_tup {h : Heap} {v : Value} {ds : List PyData} {as : List Addr} (R : Reads h v (.tuple ds) as) : ∃ a vs bs, v = .ref a ∧ IsTup h a vs ∧ ReadsAll h vs.toList ds bs := by
  cases R with
  | tuple h1 h2 h3 h4 => exact ⟨_, _, _, rfl, ⟨_, h1, h2, _, h3⟩, h4⟩
theorem readsAll_len {h : Heap} : ∀ {vs : List Value} {ds : List PyData} {as : List Addr}, ReadsAll h vs ds as → vs.length = ds.length
  | _, _, _, .nil => rfl
  | _, _, _, .cons _ t => congrArg (· + 1) (readsAll_len t)
theorem readsAll_get {h : Heap} : ∀ {vs : List Value} {ds : List PyData} {as : List Addr} {j : Nat} {d : PyData}, ReadsAll h vs ds as → ds[j]? = some d → ∃ v bs, vs[j]? = some v ∧ Reads h v d bs
  | _, _, _, _, _, .nil, e => by simp at e
  | _, _, _, 0, _, .cons r _, e => by
    simp at e
    subst e
    exact ⟨_, _, rfl, r⟩
  | _, _, _, j + 1, _, .cons _ t, e => by
    obtain ⟨v, bs, h1, h2⟩ := readsAll_get (j := j) t (by simpa using e)
    exact ⟨v, bs, by simpa using h1, h2⟩
section
variable {prog : Program} {w : World} {A : Around} {env : PySem.Env} {s : Shared} {E : Value → Shared → Prop}
/-- what a name gives at each state of this heap -/
def Gives (prog : Program) (w : World) (env : PySem.Env) (s : Shared) (n : Str) (v : Value) : Prop :=
  ∀ (A : Around) (E : Value → Shared → Prop) (pos : Pos) (tk : Nat) (P : Value → Shared → Prop), P v { s with toks := tk } → wpAny (model prog w) A (eval (.Name n pos) env) P E { s with toks := tk }
theorem ix_run {a : Addr} {vs : Array Value} {ds : List PyData} {bs : List Addr} {i : Int} {t : Tok} {d : PyData} {e f : Expr} {tk : Nat} {P : Value → Shared → Prop} (ht : IsTup s.heap a vs) (ra : ReadsAll s.heap vs.toList ds bs) (hi : ixT ds i = some d)
    (hs : subscripted f false (.ref a) (.int i t) = operate [.ref a, .int i t] (getItem (.ref a) (.int i t)))
    (h : ∀ v as, Reads s.heap v d as → P v { s with toks := tk }) : wpAny (model prog w) A (subscriptTail e f (.ref a) (.int i t)) P E { s with toks := tk } := by
  unfold ixT at hi
  split at hi
  · rename_i hz
    obtain ⟨j, h1, h2, h3, h4, h5⟩ := atI_get hi
    obtain ⟨v, as, h6, h7⟩ := readsAll_get ra h2
    have hl := readsAll_len ra
    have hn := line63
    have ht' : IsTup ({ s with toks := tk } : Shared).heap a vs := ht
    refine subscriptTail_builtinR (x := v) ht'.typeIs slot_tuple_getitem.lookup (getItem_tuple (j := j) (Q := fun r s' => r = v ∧ P r s') ht' (by omega) (by omega) ?_ (by simpa using h6) ⟨rfl, h v as h7⟩) hs
    rw [show vs.size = ds.length by rw [← hl, Array.length_toList]]
    exact h1
  · cases hi
theorem pt_run {xp : Str} {cn : Option Str} {dx dc : PyData} {vx : Value} {ax : List Addr} (gx : Gives prog w env s xp vx) (rx : Reads s.heap vx dx ax) (gc : ∀ n, cn = some n → ∃ vc ac, Gives prog w env s n vc ∧ Reads s.heap vc dc ac) :
    ∀ {a : Pt} {e : Expr}, PtE xp cn a e → ∀ {d : PyData}, ptD dx dc a = some d → ∀ (tk : Nat) (P : Value → Shared → Prop), (∀ v as tk', Reads s.heap v d as → P v { s with toks := tk' }) → wpAny (model prog w) A (eval e env) P E { s with toks := tk } := by
  intro a e h
  induction h with
  | x =>
    intro d hd tk P hP
    cases hd
    exact gx _ _ _ _ _ (hP _ _ _ rx)
  | c hn =>
    intro d hd tk P hP
    cases hd
    obtain ⟨vc, ac, h1, h2⟩ := gc _ hn
    exact h1 _ _ _ _ _ (hP _ _ _ h2)
  | @«at» a e i j p q h ih =>
    intro d hd tk P hP
    unfold ptD at hd
    split at hd
    · rename_i ys hy
      refine Subscript_ (ih hy tk _ fun v as tk' R => ?_)
      obtain ⟨b, vs, bs, rfl, ht, ra⟩ := reads_tup R
      refine wpAny_Constant_int ?_
      exact ix_run ht ra hd rfl fun v as hv => hP v as _ hv
    · cases hd
  | @ix a b e f q h h2 hs ih ih2 =>
    intro d hd tk P hP
    unfold ptD at hd
    split at hd
    · rename_i ys i hy hi
      refine Subscript_ (ih hy tk _ fun v as tk' R => ?_)
      obtain ⟨b, vs, bs, rfl, ht, ra⟩ := reads_tup R
      refine ih2 hi tk' _ fun v as tk2 R2 => ?_
      cases R2
      exact ix_run ht ra hd (hs _ _) fun v as hv => hP v as _ hv
    · cases hd
end
/-- the scope of the key's lambda -/
structure LamK (scope : Scope) (params : Arguments) (body : Expr) (xp : Str) (cn : Option Str) (len : Bool) : Prop where
  kind : scope.kind = .function
  co : scope.isCoroutine = false
  gen : scope.isGenerator = false
  loc : scope.names.lookup xp = some .local
  len : len = true → scope.names.lookup ("len" : Str) = some .globalImplicit
  nc : ∀ x ∈ scope.names, x.2 ≠ .cell
  fr : ∀ x ∈ scope.names, x.2 = .free → cn = some x.1
  frl : ∀ n, cn = some n → scope.names.lookup n = some .free
  dbg : (xp == ("__debug__" : Str)) = false
  dbc : ∀ n, cn = some n → (n == ("__debug__" : Str)) = false ∧ (n == ("__classdict__" : Str)) = false
  bind : ∀ (q : Str) (cl : List (Str × Addr)) (pm cv ctv v : Value), bindArgs (PySem.W.kla_fn "<lambda>" q params body scope cl pm cv ctv) ⟨[v], []⟩ = pure [(xp, v)]
def lamKB (scope : Scope) (xp : Str) (cn : Option Str) (len : Bool) : Bool :=
  decide (scope.kind = .function) && !scope.isCoroutine && !scope.isGenerator && decide (scope.names.lookup xp = some .local) && (!len || decide (scope.names.lookup ("len" : Str) = some .globalImplicit)) && scope.names.all (fun x => !decide (x.2 = .cell) && (!decide (x.2 = .free) || decide (cn = some x.1)))
    && (match cn with
      | some n => decide (scope.names.lookup n = some .free) && !(n == ("__debug__" : Str)) && !(n == ("__classdict__" : Str))
      | none => true) && !(xp == ("__debug__" : Str))
theorem lamK_by {scope : Scope} {params : Arguments} {body : Expr} {xp : Str} {cn : Option Str} {len : Bool} (h : lamKB scope xp cn len = true)
    (hb : ∀ (q : Str) (cl : List (Str × Addr)) (pm cv ctv v : Value), bindArgs (PySem.W.kla_fn "<lambda>" q params body scope cl pm cv ctv) ⟨[v], []⟩ = pure [(xp, v)]) : LamK scope params body xp cn len := by
  unfold lamKB at h
  simp only [Bool.and_eq_true, Bool.or_eq_true, Bool.not_eq_true', decide_eq_true_eq, decide_eq_false_iff_not, List.all_eq_true] at h
  obtain ⟨⟨⟨⟨⟨⟨⟨h1, h2⟩, h3⟩, h4⟩, h5⟩, h6⟩, h7⟩, h8⟩ := h
  refine ⟨h1, h2, h3, h4, fun hl => ?_, fun x hx => (h6 x hx).1, fun x hx hf => ?_, fun n hn => ?_, h8, fun n hn => ?_, hb⟩
  · rcases h5 with z | z
    · rw [hl] at z; cases z
    · exact z
  · rcases (h6 x hx).2 with z | z
    · exact absurd hf z
    · exact z
  · subst hn
    simp only [Bool.and_eq_true, Bool.not_eq_true', decide_eq_true_eq] at h7
    exact h7.1.1
  · subst hn
    simp only [Bool.and_eq_true, Bool.not_eq_true', decide_eq_true_eq] at h7
    exact ⟨h7.1.2, h7.2⟩
section
variable {X : Cx} {pins : List (Addr × Obj)} {σ : L2.St} {H : Hp} {s : Shared}
theorem key_run {A : Around} {scope : Scope} {params : Arguments} {body : Expr} {xp : Str} {cn : Option Str} {k : Ky} {f c' : Addr} {q : Str} {cl : List (Str × Addr)} {pm ctv v : Value} {dx dc : PyData} {ax : List Addr} {kx : Int} (I : Inv X pins σ H s) (L : LamK scope params body xp cn k.len) (B : KyE xp cn k body)
    (hf : s.heap.get? f = some (PySem.W.kla_obj "<lambda>" q params body scope cl pm c' ctv)) (hcd : s.heap.CodeRec (.ref c') q) (hm : k.len = true → X.mg "len" = none) (hd : A.depth < recursionLimit)
    (rx : Reads s.heap v dx ax) (hc : ∀ n, cn = some n → ∃ a vc ac, cl.lookup n = some a ∧ s.heap.IsCell a (some vc) ∧ Reads s.heap vc dc ac) (hk : kyD k dc dx = some kx)
    (h : Heap) (tk : Nat) (kp : ∀ b o, s.heap.get? b = some o → h.get? b = some o) :
    wpAny (model X.prog X.w) A (call (.ref f) [v]) (PySem.W.KeyPure (.int kx) { s with heap := h, toks := tk }) (fun _ _ => False) { s with heap := h, toks := tk } := by
  refine wpAny_call ?_
  refine PySem.W.kla_callFunE hd (kp _ _ hf) rfl L.co L.gen rfl (hcd.keeps kp) ?_
  rw [L.bind]
  refine wpAny_pure (wpAny_newFunctionEnv L.nc (fun x hx => by rw [List.mem_singleton.mp hx]; exact L.loc) (fun h₁ hns hsb => ⟨(I.nolimit.keeps kp).fresh _ hsb, ?_⟩) L.kind)
  have kp1 : ∀ b o, h.get? b = some o → h₁.get? b = some o := fun b o e => hsb.extBut b o (Nat.ne_of_lt (Heap.lt_size e)) (Heap.get?_push_of_some _ e)
  have kp2 : ∀ b o, s.heap.get? b = some o → h₁.get? b = some o := fun b o e => kp1 b o (kp b o e)
  obtain ⟨mb, g1, g2⟩ := I.mod.blt
  show codeAny _ _ (.expr body (PySem.W.envX q scope h.objs.size f (.ref c') cl)) _ _
  refine PySem.W.kla_codeExpr ?_
  have gx : Gives X.prog X.w (PySem.W.envX q scope h.objs.size f (.ref c') cl) { s with heap := h₁ } xp v := fun _ _ pos tk P hP =>
    wpAny_Name (wpAny_loadName_local L.kind L.loc hns (v := v) (by simp) hP) L.dbg
  have gc : ∀ n, cn = some n → ∃ vc ac, Gives X.prog X.w (PySem.W.envX q scope h.objs.size f (.ref c') cl) { s with heap := h₁ } n vc ∧ Reads ({ s with heap := h₁ } : Shared).heap vc dc ac := fun n hn => by
    obtain ⟨a, vc, ac, h1, ⟨o, h2, h2'⟩, h3⟩ := hc n hn
    exact ⟨vc, ac, fun _ _ pos tk P hP => wpAny_Name (wpAny_loadName_free L.kind (L.frl n hn) h1 ⟨o, kp2 _ _ h2, h2'⟩ hP (L.dbc n hn).2) (L.dbc n hn).1, PyProof.Rows.Reads.keeps kp2 h3⟩
  have rx' : Reads ({ s with heap := h₁ } : Shared).heap v dx ax := PyProof.Rows.Reads.keeps kp2 rx
  have lenC : ∀ {A : Around} {E : Value → Shared → Prop} {a : Pt} {e : Expr} {p1 p3 : Pos} {ys : List PyData} {P : Value → Shared → Prop} {tk : Nat}, k.len = true → PtE xp cn a e → ptD dx dc a = some (.tuple ys) → ys.length ≤ sizeLine → (∀ t tk', P (.int ys.length t) { s with heap := h₁, toks := tk' }) →
      wpAny (model X.prog X.w) A (eval (.Call (.Name "len" p1) [e] [] p3) (PySem.W.envX q scope h.objs.size f (.ref c') cl)) P E { s with heap := h₁, toks := tk } := by
    intro A E a e p1 p3 ys P tk hlen hp hy hz hP
    refine wpAny_Call_Name_kw (Calls.Name_function_global L.kind (L.len hlen) (Calls.loadGlobal_builtin ((I.mod.glob.keeps I.bk).keeps kp2) (hm hlen) ((g1.keeps I.bk).keeps kp2) ((g2 "len" (by decide)).trans PySem.boot_len) ?_) (by decide))
    refine PyProof.Rows.callWith_builtin1 ?_ (hp.star _ _) (by rfl)
    rw [hp.star]
    show wpAny _ _ (spliced ((false, eval e _) :: backTo _ (starEach [] _))) _ _ _
    refine Calls.spliced_cons (pt_run (s := { s with heap := h₁ }) gx rx' gc hp hy _ _ fun v as tk' R => ?_)
    refine Calls.spliced_nil ?_
    obtain ⟨b, vs, bs, rfl, ht, ra⟩ := reads_tup R
    have hl := readsAll_len ra
    rw [Array.length_toList] at hl
    have hn := line63
    have ht' : IsTup ({ s with heap := h₁, toks := tk' } : Shared).heap b vs := ht
    refine len_tuple ht' (by omega) ?_
    rw [hl]
    exact hP _ _
  cases B with
  | @len a e p1 p3 hp =>
    unfold kyD at hk
    dsimp only at hk
    split at hk
    · rename_i ys _ hy
      split at hk
      · rename_i hz
        cases hk
        refine lenC rfl hp hy hz fun t tk' => ?_
        exact ⟨h₁, _, rfl, kp1, .int _ _⟩
      · cases hk
    · rename_i z _
      cases z
    · cases hk
  | @nlen a e p1 p3 p4 hp =>
    unfold kyD at hk
    dsimp only at hk
    split at hk
    · rename_i ys _ hy
      split at hk
      · rename_i hz
        cases hk
        refine UnaryOp_ (lenC rfl hp hy hz fun t tk' => ?_)
        refine neg_int ?_
        exact ⟨h₁, _, rfl, kp1, .int _ _⟩
      · cases hk
    · rename_i z _
      cases z
    · cases hk
  | @pth a e hp =>
    unfold kyD at hk
    dsimp only at hk
    split at hk
    · rename_i z _
      cases z
    · rename_i i _ hy
      cases hk
      refine pt_run (s := { s with heap := h₁ }) gx rx' gc hp hy _ _ fun v as tk' R => ?_
      cases R
      exact ⟨h₁, _, rfl, kp1, .int _ _⟩
    · cases hk
end
end Dl

set_option Elab.async false
set_option linter.all false
set_option maxRecDepth 100000
set_option maxHeartbeats 4000000
namespace Dl
open PySem PySem.Spec PyProof.Rows L2 Pg LamX
abbrev kyLe (k : Ky) (dc : PyData) : (V × PyData) → (V × PyData) → Bool := PySem.W.dataLe false fun y => .int ((kyD k dc y.2).getD 0)
/-- the captured name: its slot -/
def sortKB (K : PySem.W.Frag) (P : Addr) (q : Str) (cap : Option Nat) (k : Ky) (σ : L2.St) (Q : VK) (x : V) (H1 : Hp) : Prop := ∃ (a : Addr) (xs : List (V × PyData)) (dc : PyData) (G : Hp), x = .ref a ∧ SqL K G a (xs.map (·.1)) ∧ Same G H1 ∧ G P = none ∧ (∀ y ∈ xs, Dd K G y.1 y.2) ∧
  (∀ i, cap = some i → ∃ vc, σ[i]? = some (some vc) ∧ Dd K G vc dc) ∧ (∀ y ∈ xs, (kyD k dc y.2).isSome = true) ∧ TabS H1 P q ∧
  ∀ H2 p, Lam P q H1 H2 → H2 p = none → Q (.ref p) (upd H2 p (.lst ((xs.mergeSort (kyLe k dc)).map (·.1))))
def tSortK (K : PySem.W.Frag) (P : Addr) (q : Str) (cap : Option Nat) (k : Ky) (te : TE) : TE := fun σ H Q => te σ H fun x H1 => sortKB K P q cap k σ Q x H1
theorem each_rel {K : PySem.W.Frag} {X : Cx} {pins : List (Addr × Obj)} {σ : L2.St} {H : Hp} {s : Shared} (hK : X.K = K) (I : Inv X pins σ H s) : ∀ {us : List Value} {xs : List (V × PyData)}, Vals (xs.map (·.1)) us → (∀ y ∈ xs, Dd K H y.1 y.2) →
    PySem.W.EachIs (fun u (x : V × PyData) => RelV x.1 u ∧ ∃ as, Reads s.heap u x.2 as) us xs
  | [], [], _, _ => .nil
  | _ :: _, [], h, _ => nomatch h
  | [], _ :: _, h, _ => nomatch h
  | _ :: us, x :: xs, .cons r t, h => by
    subst hK
    obtain ⟨as, h1, _⟩ := dd_say I x.2 x.1 _ (h x List.mem_cons_self) r
    exact .cons ⟨r, as, h1⟩ (each_rel rfl I t fun y hy => h y (List.mem_cons_of_mem _ hy))
theorem vals_eachK {R : Value → (V × PyData) → Prop} (f : ∀ u x, R u x → RelV x.1 u) : ∀ {us : List Value} {xs : List (V × PyData)}, PySem.W.EachIs R us xs → Vals (xs.map (·.1)) us
  | _, _, .nil => .nil
  | _, _, .cons h t => .cons (f _ _ h) (vals_eachK f t)
theorem Lam.same {P : Addr} {q : Str} {G H H2 : Hp} (h : Lam P q H H2) (g : Same G H) (n : G P = none) : Same G H2 := fun b o e => by
  have hb : b ≠ P := fun z => by rw [z, n] at e; cases e
  rcases h with rfl | ⟨tps, c, pos, h1, _, h2, rfl⟩
  · exact g b o e
  · have e1 := g b o e
    show upd _ P _ b = some o
    rw [upd_ne hb, upd_ne (ne_of_none e1 h2)]
    exact e1
section
variable {X : Cx}
/-- the captured name in the maker's frame -/
def CapOk (X : Cx) (cap : Option (Str × Nat)) : Prop := ∀ n i, cap = some (n, i) → X.N[i]? = some n ∧ X.env.scope.names.lookup n = some .cell
theorem cap_none {X : Cx} : CapOk X none := fun _ _ e => nomatch e
theorem cap_some {X : Cx} {n : Str} {i : Nat} (h1 : X.N[i]? = some n) (h2 : X.env.scope.names.lookup n = some .cell) : CapOk X (some (n, i)) := fun _ _ e => by
  cases e
  exact ⟨h1, h2⟩
theorem pe_sortK {P c : Addr} {q : Str} {scope : Scope} {params : Arguments} {body : Expr} {xp : Str} {cap : Option (Str × Nat)} {k : Ky} {p lpos kpos pos : Pos} {e : Expr} {te : TE} (hm : X.mg "sorted" = none) (hml : k.len = true → X.mg "len" = none) (he : PE X e te) (hg : Gl X "sorted")
    (TB : TabB X.base X.mg c P) (hcode : X.env.code = .ref c) (hq : q = X.env.qual ++ "<lambda>") (L : LamK scope params body xp (cap.map (·.1)) k.len) (B : KyE xp (cap.map (·.1)) k body) (hcap : CapOk X cap) (hdef : defaultsOf params X.env = ([], [])) (hr : Room 2 X.A)
    (hs : starEach [e] X.env = (false, eval e X.env) :: starEach [] X.env)
    (he1 : backTo pos (starEach [e] X.env) = (false, eval e X.env) :: backTo pos (starEach [] X.env)) (hpl : (backTo pos (starEach [e] X.env)).any (·.1) = false)
    (hall : (backToKw pos (keywordEach [⟨some "key", .Lambda params body scope lpos, kpos⟩] X.env)).all (·.1.isSome) = true) (hnone : (backToKw pos (keywordEach [⟨some "key", .Lambda params body scope lpos, kpos⟩] X.env)).any (·.1.isNone) = false)
    (hks : (backToKw pos (keywordEach [⟨some "key", .Lambda params body scope lpos, kpos⟩] X.env)).filterMap (·.1) = [("key" : Str)]) :
    PE X (.Call (.Name "sorted" p) [e] [⟨some "key", .Lambda params body scope lpos, kpos⟩] pos) (tSortK X.K P q (cap.map (·.2)) k te) := by
  subst hq
  refine ⟨fun pins s σ H Q I h => ?_⟩
  have cells : ∀ y ∈ scope.names, y.2 = .free → ∃ c, X.env.cells.lookup y.1 = some c := fun y hy z => by
    have h1 := L.fr y hy z
    obtain ⟨⟨n, i⟩, e1, e2⟩ := Option.map_eq_some_iff.mp h1
    have := (hcap n i e1).2
    have e2' : n = y.1 := e2
    rw [← e2']
    exact I.ok.has _ (.inl this)
  have cm : ∀ {y c}, (cloFrom X.env.cells scope.names []).lookup y = some c → X.env.cells.lookup y = some c := fun {y c} e => by
    rcases cloFrom_mem (PySem.mem_of_lookup e) with hm | ⟨h1, h2⟩
    · cases hm
    · obtain ⟨c1, hc⟩ := cells _ h1 rfl
      have hc : X.env.cells.lookup y = some c1 := hc
      have e2 : c = c1 := by
        rw [h2, hc] <;> rfl
      rw [e2]
      exact hc
  refine wpAny_Call_Name_kw (ld_blt I hg hm (show bootBuiltins "sorted" = some (.builtin "sorted") by decide +kernel) ?_)
  refine PyProof.Rows.callWith_kw (thn ((pa_cons he pa_nil (hs := hs)).run pos pins s σ H (one1 (sortKB X.K P (X.env.qual ++ "<lambda>") (cap.map (·.2)) k σ Q)) I ?_) fun us s1 ⟨vs, H1, I1, r1, q1⟩ => ?_) he1 hpl hall hnone
  · exact h
  · obtain ⟨x, rfl⟩ : ∃ x, vs = [x] := by
      match vs, q1 with
      | [x], _ => exact ⟨x, rfl⟩
    obtain ⟨a, xs, dc, G, rfl, hsq, gH, gP, hdd, hcd, hky, hT, qq⟩ : sortKB X.K P (X.env.qual ++ "<lambda>") (cap.map (fun z : Str × Nat => z.2)) k σ Q x H1 := q1
    rw [Vals.ref1 r1]
    show wpAny _ _ (evalAll ((do let v ← eval (.Lambda params body scope lpos) X.env; standAt _; pure v) :: [])) _ _ _
    refine wpAny_evalAll_cons (wpAny_bind (lam_at I1 TB hcode hT hdef cells fun f c' pm ctv H2 s2 I2 lm hf hco => ?_))
    refine wpAny_bind (wpAny_standAt (wpAny_pure (wpAny_evalAll_nil ?_)))
    rw [hks]
    have hco2 : s2.heap.CodeRec (.ref c') (X.env.qual ++ "<lambda>") := by
      obtain ⟨⟨oc, vs, t, h1, h2, h3⟩, _⟩ := I2.hok _ _ hco
      exact ⟨c', oc, vs, t, rfl, h1, h2, h3⟩
    have g2 := lm.same gH gP
    have sq2 : SqL X.K H2 a (xs.map (·.1)) := g2.seq hsq
    have dd2 : ∀ y ∈ xs, Dd X.K H2 y.1 y.2 := fun y hy => Dd.up g2 _ _ (hdd y hy)
    obtain ⟨its, rv, hl, hz⟩ := I2.list sq2
    rw [List.length_map] at hz
    have el := each_rel rfl I2 rv dd2
    have hsl := sizeLine_eq
    have hc2 : ∀ n, cap.map (·.1) = some n → ∃ a vc ac, (cloFrom X.env.cells scope.names []).lookup n = some a ∧ s2.heap.IsCell a (some vc) ∧ Reads s2.heap vc dc ac := fun n hn => by
      obtain ⟨⟨n', i⟩, e1, e2⟩ := Option.map_eq_some_iff.mp hn
      have e2' : n' = n := e2
      subst e2'
      obtain ⟨hN, hk⟩ := hcap n' i e1
      obtain ⟨vc, hσ, hd⟩ := hcd i (by rw [e1]; rfl)
      obtain ⟨m, hn2, hl2⟩ := I2.loc
      obtain ⟨w', r, q⟩ := hl2 i n' vc hN hσ (.inr (.inl hk))
      obtain ⟨as, hrd, _⟩ := dd_say I2 dc vc w' (Dd.up g2 _ _ hd) r
      have hy : (n', NameKind.free) ∈ scope.names := PySem.mem_of_lookup (L.frl n' hn)
      obtain ⟨c2, h2⟩ := mem_lookup (cloFrom_has (cells := X.env.cells) (acc := []) hy)
      have c1 := cm h2
      rcases q with ⟨k', _⟩ | ⟨_, c3, e', z⟩
      · have k'' : X.env.scope.names.lookup n' = some .local := k'
        rw [hk] at k''
        cases k''
      · rw [c1] at e'
        cases e'
        exact ⟨c2, w', as, h2, z, hrd⟩
    refine PySem.W.sorted_key_data (b := false) (bs := xs) (fun y => PyData.int ((kyD k dc y.2).getD 0)) hl.isList el (fun x hx y hy => ?_) (.inr fun x hx => ?_) hz (fun x hx => by show X.A.units + 2 + 0 < cLine; have := hr.un; omega) (ksk_s1 _ _) (fun _ => ksk_l1 _ _) (fun x => ksk_t1 f x) (fun v x hR hx h tk kp => ?_) fun out c0 h' tk keep hn ho hol hout => ?_
    · obtain ⟨x', _, rfl⟩ := List.mem_map.mp hx
      obtain ⟨y', _, rfl⟩ := List.mem_map.mp hy
      simp [PySem.W.alike]
    · obtain ⟨x', _, rfl⟩ := List.mem_map.mp hx
      exact ⟨by simp, by simp⟩
    · obtain ⟨_, as, hrd⟩ := hR
      obtain ⟨kx, ek⟩ := Option.isSome_iff_exists.mp (hky x hx)
      rw [ek]
      exact key_run (A := X.A.in1.in1) I2 L B hf hco2 hml (by have := hr.dp; show X.A.depth < _; omega) hrd hc2 ek h tk kp
    · have rv2 := vals_eachK (fun u x hR => hR.1) hout
      have hz' : ((xs.mergeSort (kyLe k dc)).map (·.1)).length ≤ sizeLine := by rw [List.length_map, List.length_mergeSort]; exact hz
      exact ⟨.ref _, upd H2 (s2.heap.objs.size + 1) (.lst ((xs.mergeSort (kyLe k dc)).map (·.1))), I2.laid (t' := tk) keep (Nat.le_succ _) ⟨hz', out, c0, rv2, ho⟩, rfl, qq H2 _ lm (I2.hok.fresh (Nat.le_succ _))⟩
end
/-! data -/
def capD (ρ : Env) : Option Nat → Option PyData
  | none => some .none
  | some i => match ρ[i]? with
    | some (some (.d x)) => some x
    | _ => none
def keyLe (k : Ky) (dc : PyData) (a b : PyData) : Bool := decide ((kyD k dc a).getD 0 ≤ (kyD k dc b).getD 0)
open Classical in
noncomputable def eSortK (P : Addr) (q : Str) (cap : Option Nat) (k : Ky) (f : EF) : EF := fun ρ st => match f ρ st with
  | some (.d (.list ds), st1) => match capD ρ cap with
    | some dc => if (ds.all fun d => (kyD k dc d).isSome) = true ∧ Cell.tbl P q ∈ st1 then some (.d (.list (ds.mergeSort (keyLe k dc))), st1) else none
    | none => none
  | _ => none
section
variable {K : PySem.W.Frag}
theorem dds_pairs {G : Hp} : ∀ {ds : List PyData} {xs : List V}, Dds K G xs ds → ∃ ps : List (V × PyData), ps.map (·.1) = xs ∧ ps.map (·.2) = ds ∧ ∀ p ∈ ps, Dd K G p.1 p.2
  | _, _, .nil => ⟨[], rfl, rfl, fun p hp => absurd hp (by simp)⟩
  | _, _, .cons (v := v) (d := y) hv hr => by
    obtain ⟨ps, e1, e2, e3⟩ := dds_pairs hr
    refine ⟨(v, y) :: ps, by simp [e1], by simp [e2], fun p hp => ?_⟩
    rcases List.mem_cons.mp hp with rfl | hp
    · exact hv
    · exact e3 p hp
theorem dds_mapK {G : Hp} : ∀ {ps : List (V × PyData)}, (∀ p ∈ ps, Dd K G p.1 p.2) → Dds K G (ps.map (·.1)) (ps.map (·.2))
  | [], _ => .nil
  | p :: ps, h => .cons (h p List.mem_cons_self) (dds_mapK fun z hz => h z (List.mem_cons_of_mem _ hz))
theorem keyLe_eq (k : Ky) (dc : PyData) : ∀ a b : V × PyData, kyLe k dc a b = keyLe k dc a.2 b.2 := fun a b => by
  unfold kyLe
  rw [PySem.W.dataLe_int]
  rfl
theorem se_sortK {te : TE} {f : EF} {P : Addr} {q : Str} {cap : Option Nat} {k : Ky} (he : SE K te f) : SE K (tSortK K P q cap k te) (eSortK P q cap k f) := by
  intro S ρ σ v st' ok en h Q qq
  unfold eSortK at h
  split at h
  · rename_i ds st1 e1
    split at h
    · rename_i dc e2
      split at h
      · rename_i hm
        cases h
        refine he S ρ σ _ _ ok en e1 _ fun S1 xa l1 s1 x1 ok1 r1 => ?_
        subst s1
        obtain ⟨n, hn⟩ := List.getElem?_of_mem hm.2
        obtain ⟨at1, tS⟩ := ok1.tabS hn
        have r1' : Dd K S1.fr xa (.list ds) := r1
        cases r1' with
        | @lst p us _ hq hd =>
          obtain ⟨ps, p1, p2, p3⟩ := dds_pairs hd
          subst p1
          subst p2
          have frP : S1.fr P = none := by
            unfold Wd.fr
            rw [if_pos (.inr ⟨n, _, at1⟩)]
          refine ⟨p, ps, dc, S1.fr, rfl, hq, fr_same S1, frP, p3, fun i hi => ?_, fun y hy => ?_, tS, fun H2 l lm hl => ?_⟩
          · subst hi
            unfold capD at e2
            dsimp only at e2
            split at e2
            · rename_i x ex
              cases e2
              obtain ⟨vc, g1, g2⟩ := en.at_ i _ ex
              exact ⟨vc, g1, RV.up x1 g2⟩
            · cases e2
          · have := List.all_eq_true.mp hm.1 y.2 (List.mem_map.mpr ⟨y, hy, rfl⟩)
            exact this
          · obtain ⟨x2, ok2⟩ := ok1.lam hn lm
            have x3 := ok2.ext_put hl (.lst ((ps.mergeSort (kyLe k dc)).map (·.1)))
            have ok3 := ok2.put hl (.lst ((ps.mergeSort (kyLe k dc)).map (·.1)))
            refine qq (Wd.put { S1 with H := H2 } l (.lst ((ps.mergeSort (kyLe k dc)).map (·.1)))) (.ref l) l1 rfl ((x1.trans x2).trans x3) ok3 (Dd.lst (xs := (ps.mergeSort (kyLe k dc)).map (·.1)) (.inl (.inl (ok2.got hl))) ?_)
            have em : (ps.map (·.2)).mergeSort (keyLe k dc) = (ps.mergeSort (kyLe k dc)).map (·.2) := (List.map_mergeSort (f := fun (y : V × PyData) => y.2) (r := kyLe k dc) (s := keyLe k dc) (l := ps) (fun a _ b _ => keyLe_eq k dc a b)).symm
            rw [em]
            refine Dds.up ((x2.trans x3).keep) _ _ (dds_mapK fun y hy => p3 y ?_)
            exact (List.mergeSort_perm _ _).mem_iff.mp hy
      · cases h
    · cases h
  · cases h
theorem q_sortK {X : Cx} {P c : Addr} {q : Str} {scope : Scope} {params : Arguments} {body : Expr} {xp : Str} {cap : Option (Str × Nat)} {k : Ky} {p lpos kpos pos : Pos} {e : Expr} {te : TE} {f : EF} (hK : X.K = K) (hm : X.mg "sorted" = none) (hml : k.len = true → X.mg "len" = none) (he : QE K X e te f) (hg : Gl X "sorted")
    (TB : TabB X.base X.mg c P) (hcode : X.env.code = .ref c) (hq : q = X.env.qual ++ "<lambda>") (L : LamK scope params body xp (cap.map (·.1)) k.len) (B : KyE xp (cap.map (·.1)) k body) (hcap : CapOk X cap) (hdef : defaultsOf params X.env = ([], [])) (hr : Room 2 X.A)
    (hs : starEach [e] X.env = (false, eval e X.env) :: starEach [] X.env)
    (he1 : backTo pos (starEach [e] X.env) = (false, eval e X.env) :: backTo pos (starEach [] X.env)) (hpl : (backTo pos (starEach [e] X.env)).any (·.1) = false)
    (hall : (backToKw pos (keywordEach [⟨some "key", .Lambda params body scope lpos, kpos⟩] X.env)).all (·.1.isSome) = true) (hnone : (backToKw pos (keywordEach [⟨some "key", .Lambda params body scope lpos, kpos⟩] X.env)).any (·.1.isNone) = false)
    (hks : (backToKw pos (keywordEach [⟨some "key", .Lambda params body scope lpos, kpos⟩] X.env)).filterMap (·.1) = [("key" : Str)]) :
    QE K X (.Call (.Name "sorted" p) [e] [⟨some "key", .Lambda params body scope lpos, kpos⟩] pos) (tSortK K P q (cap.map (·.2)) k te) (eSortK P q (cap.map (·.2)) k f) := by
  subst hK
  exact ⟨pe_sortK hm hml he.pe hg TB hcode hq L B hcap hdef hr hs he1 hpl hall hnone hks, se_sortK he.se⟩
end
end Dl

set_option Elab.async false
set_option linter.all false
set_option maxRecDepth 100000
set_option maxHeartbeats 4000000
namespace Dl
open PySem PySem.Spec PyProof.Rows L2 Pg
/-! ### tuples that are known to have no dict: t.index(x), t.count(x) -/
def eD (a : EF) : EF := fun ρ st => match a ρ st with
  | some (.t xs, st1) => some (.d (.tuple xs), st1)
  | some (.d x, st1) => some (.d x, st1)
  | _ => none
def eTupN (a : EF) : EF := fun ρ st => match a ρ st with
  | some (v, st1) => match lookR st1 v with
    | some (.list xs) => some (.t xs, st1)
    | _ => none
  | none => none
def intsT : List PyData → Option (List Int)
  | [] => some []
  | .int i :: r => (intsT r).map (i :: ·)
  | _ => none
def eIdxT (a b : EF) : EF := fun ρ st => match a ρ st with
  | some (.t xs, st1) => match b ρ st1 with
    | some (.d (.int k), st2) => match intsT xs with
      | some ns => if k ∈ ns then some (.d (.int (ns.idxOf k : Nat)), st2) else none
      | none => none
    | _ => none
  | _ => none
def eCntT (a b : EF) : EF := fun ρ st => match a ρ st with
  | some (.t xs, st1) => match b ρ st1 with
    | some (.d d, st2) => if PyData.plainAll xs = true ∧ d.plain = true ∧ d.depth ≤ 60 then some (.d (.int ((xs.countP fun y => PyData.eqv y d : Nat) : Int)), st2) else none
    | _ => none
  | _ => none
section
variable {K : PySem.W.Frag} {X : Cx}
theorem rv_t {S : Wd} {x : V} {xs : List PyData} (h : RV K S x (.t xs)) : RV K S x (.d (.tuple xs)) := by
  obtain ⟨a, vs, ob, rfl, h1, _, h3⟩ := h
  exact .tup (.inl (.inr ⟨ob, h1⟩)) h3
theorem se_D {te : TE} {f : EF} (ha : SE K te f) : SE K te (eD f) := by
  intro S ρ σ v st' ok en h Q q
  unfold eD at h
  split at h
  · rename_i xs st1 e1
    cases h
    exact ha S ρ σ _ _ ok en e1 _ fun S' x l s e ok' r => q S' x l s e ok' (rv_t r)
  · rename_i x st1 e1
    cases h
    exact ha S ρ σ _ _ ok en e1 _ q
  · cases h
theorem q_D {e : Expr} {te : TE} {f : EF} (h : QE K X e te f) : QE K X e te (eD f) := ⟨h.pe, se_D h.se⟩
def rTupF (K : PySem.W.Frag) : List V → Hp → VK → Prop := fun xs H Q => ∃ p ys, xs = [.ref p] ∧ SqL K H p ys ∧ ∀ l (ob : Obj), ob.dict = none → H l = none → Q (.ref l) (upd H l (.frz ob (.tup ys)))
theorem call_tuple_frz : CallR X (.type "tuple") (rTupF X.K) := by
  intro pins s σ H xs us Q I r h
  obtain ⟨p, ys, rfl, hq, q⟩ := h
  obtain ⟨u, rfl, rx⟩ := vals1 r
  cases rx
  obtain ⟨its, r', pl, hz⟩ := I.list hq
  have hlen := r'.length
  refine call_tuple_list pl.isList (fun h' kp => ?_) (by simp only [List.size_toArray] <;> omega)
  have I1 : Inv X pins σ H { s with heap := h' } := I.kept (t' := s.toks) kp
  have I2 : Inv X pins σ (upd H h'.objs.size (.frz { cls := .type "tuple", data := .seq its.toArray } (.tup ys))) { s with heap := h'.push { cls := .type "tuple", data := .seq its.toArray } } :=
    I1.laid (t' := s.toks) (fun b o e => Heap.get?_push_of_some _ e) (Nat.le_refl _) (show ObjOk X.prog X.w _ _ _ (.frz _ (.tup ys)) from ⟨Heap.get?_push_size _ rfl, hz, its, r', IsTup.new _ _⟩)
  exact ⟨.ref h'.objs.size, _, I2, rfl, q _ _ rfl (I1.hok.fresh (Nat.le_refl _))⟩
theorem se_tupN {t : TE} {f : EF} (ha : SE K t f) : SE K (tCB (rTupF K) (tCons t tNil)) (eTupN f) := by
  intro S ρ σ v st' ok en h Q q
  unfold eTupN at h
  split at h
  · rename_i w st1 e1
    split at h
    · rename_i xs e2
      cases h
      refine ha S ρ σ _ _ ok en e1 _ fun S1 xa l1 s1 x1 ok1 r1 => ?_
      subst s1
      obtain ⟨a, ys, rfl, h1, h2⟩ := (lookR_ok ok1 r1 e2).list (fr_same S1)
      refine ⟨a, ys, rfl, h1, fun l ob hd hl => ?_⟩
      have g1 := ok1.ext_put hl (.frz ob (.tup ys))
      exact q (S1.put l (.frz ob (.tup ys))) (.ref l) l1 rfl (x1.trans g1) (ok1.put hl _) ⟨l, ys, ob, rfl, ok1.got hl, hd, Dds.up g1.keep _ _ h2⟩
    · cases h
  · cases h
theorem q_tupN {e : Expr} {p pos : Pos} {te : TE} {f : EF} (hK : X.K = K) (hm : X.mg "tuple" = none) (ha : QE K X e te f) (hg : Gl X "tuple") (he : starEach [e] X.env = (false, eval e X.env) :: starEach [] X.env) (hpl : (backTo pos (starEach [] X.env)).any (·.1) = false) :
    QE K X (.Call (.Name "tuple" p) [e] [] pos) (tCB (rTupF K) (tCons te tNil)) (eTupN f) := by
  subst hK
  exact ⟨pe_callTy call_tuple_frz hg hm (by decide +kernel) (pa_cons ha.pe pa_nil he) (by decide) (by decide) he hpl, se_tupN ha.se⟩
/-! methods -/
def tyT (x : V) (H : Hp) : Prop := ∃ (a : Addr) (vs : List V) (ob : Obj), x = .ref a ∧ H a = some (.frz ob (.tup vs)) ∧ ob.dict = none
def tBMT (r : V → List V → Hp → VK → Prop) (to : TE) (t : TA) : TE := fun σ H Q => to σ H fun x H1 => tyT x H1 ∧ t σ H1 fun xs H2 => r x xs H2 Q
theorem pe_bmT {o e : Expr} {es : List Expr} {to : TE} {t : TA} {name : Str} {apos cpos : Pos} {id : String} {r : V → List V → Hp → VK → Prop} (slot : Slot "tuple" name id) (hty : typeOf (.builtin id) = pure (.type "method_descriptor")) (hm : MtR X id r) (ho : PE X o to) (ha : PA X (e :: es) t)
    (hbase : attributeBase o name X.env (eval o X.env) = eval o X.env)
    (hfew : ((backTo cpos (starEach (e :: es) X.env)).all (fun x => !x.1) && (backToKw cpos (keywordEach [] X.env)).all (fun x => x.1.isSome)
      && decide ((e :: es).length + ([] : List Keyword).length + (if ([] : List Keyword).isEmpty then 0 else 1) < 30)) = true)
    (hline : (apos.endLine == cpos.line) = true) (hs : starEach (e :: es) X.env = (false, eval e X.env) :: starEach es X.env) (hplain : (backTo cpos (starEach es X.env)).any (·.1) = false) :
    PE X (.Call (.Attribute o name apos) (e :: es) [] cpos) (tBMT r to t) := by
  refine ⟨fun pins s σ H Q I h => ?_⟩
  refine wpAny_Call_method_late hbase hfew hline rfl (thn (ho.run pins s σ H _ I h) fun v s1 ⟨x, H1, I1, r1, ty, q1⟩ => ?_)
  obtain ⟨a, vs, ob, rfl, h1, h2⟩ := ty
  cases r1
  obtain ⟨e1, z, its, rv, ⟨ot, e2, ct, nt, dt⟩⟩ := I1.hok a _ h1
  rw [e1] at e2
  cases e2
  refine ⟨"tuple", id, PySem.F.plainAttrs_tuple, slot, hty, ⟨ob, e1, ct⟩, fun a e => by cases e; exact ⟨ob, e1, h2⟩, ?_⟩
  have hA := ha.run cpos pins s1 σ H1 _ I1 q1
  rw [hs] at hA ⊢
  refine Calls.callWith_builtin (by show (false || (backTo cpos (starEach es X.env)).any (·.1)) = false; rw [hplain] <;> rfl) (Calls.evalArgs_plain ?_)
  exact thn hA fun us s2 ⟨vs, H2, I2, r2, q2⟩ => hm pins s2 σ H2 (.ref a) vs _ us Q I2 rfl r2 q2
def rIdxT (K : PySem.W.Frag) : V → List V → Hp → VK → Prop := fun x xs H Q => ∃ (a : Addr) (ns : List Int) (k : Int), x = .ref a ∧ xs = [.int k] ∧ SqT K H a (ns.map V.int) ∧ k ∈ ns ∧ Q (.int (ns.idxOf k : Nat)) H
theorem mt_idxT : MtR X "tuple.index" (rIdxT X.K) := by
  intro pins s σ H x xs v us Q I rx rv h
  obtain ⟨a, ns, k, rfl, rfl, hs, hk, q⟩ := h
  cases rx
  obtain ⟨its, r, p, hz⟩ := I.tuple hs
  obtain ⟨u, rfl, ru⟩ := vals1 rv
  obtain ⟨t, rfl⟩ := ru
  exact PySem.SeqAt.tuple_index_ints (vs := its) p r.ints hk ⟨.int _, H, I.tok _, ⟨_, rfl⟩, q⟩
theorem ints_of {G : Hp} : ∀ {xs : List PyData} {ns : List Int} {vs : List V}, intsT xs = some ns → Dds K G vs xs → vs = ns.map V.int
  | [], _, _, h, r => by
    cases h
    cases r
    rfl
  | .int i :: xs, _, _, h, r => by
    simp only [intsT, Option.map_eq_some_iff] at h
    obtain ⟨n2, h1, rfl⟩ := h
    cases r with
    | cons hv hr =>
      cases hv
      rw [ints_of h1 hr]
      rfl
theorem fr_tyT {S : Wd} {x : V} {xs : List PyData} (h : RV K S x (.t xs)) : tyT x S.H := by
  obtain ⟨a, vs, ob, rfl, h1, h2, _⟩ := h
  exact ⟨a, vs, ob, rfl, fr_same S _ _ h1, h2⟩
theorem se_idxT {ta tb : TE} {fa fb : EF} (ha : SE K ta fa) (hb : SE K tb fb) : SE K (tBMT (rIdxT K) ta (tCons tb tNil)) (eIdxT fa fb) := by
  intro S ρ σ v st' ok en h Q q
  unfold eIdxT at h
  split at h
  · rename_i xs st1 e1
    split at h
    · rename_i k st2 e2
      split at h
      · rename_i ns e3
        split at h
        · rename_i hk
          cases h
          refine ha S ρ σ _ _ ok en e1 _ fun S1 xa l1 s1 x1 ok1 r1 => ?_
          subst s1
          refine ⟨fr_tyT r1, hb S1 ρ σ _ _ ok1 (en.up x1) e2 _ fun S2 xb l2 s2 x2 ok2 r2 => ?_⟩
          subst s2
          have r2' : Dd K S2.fr xb (.int k) := r2
          cases r2'
          obtain ⟨a, vs, ob, rfl, h1, _, h3⟩ := r1.up x2
          have ev := ints_of e3 h3
          subst ev
          exact ⟨a, ns, k, rfl, rfl, .inl (.inr ⟨ob, fr_same S2 _ _ h1⟩), hk, q S2 _ (l2.trans l1) rfl (x1.trans x2) ok2 (Dd.int _)⟩
        · cases h
      · cases h
    · cases h
  · cases h
theorem q_idxT {a b : Expr} {ta tb : TE} {fa fb : EF} {apos cpos : Pos} (hK : X.K = K) (ho : QE K X a ta fa) (hb : QE K X b tb fb)
    (hbase : attributeBase a "index" X.env (eval a X.env) = eval a X.env)
    (hfew : ((backTo cpos (starEach [b] X.env)).all (fun x => !x.1) && (backToKw cpos (keywordEach [] X.env)).all (fun x => x.1.isSome)
      && decide ([b].length + ([] : List Keyword).length + (if ([] : List Keyword).isEmpty then 0 else 1) < 30)) = true)
    (hline : (apos.endLine == cpos.line) = true) (hs : starEach [b] X.env = (false, eval b X.env) :: starEach [] X.env) (hplain : (backTo cpos (starEach [] X.env)).any (·.1) = false) :
    QE K X (.Call (.Attribute a "index" apos) [b] [] cpos) (tBMT (rIdxT K) ta (tCons tb tNil)) (eIdxT fa fb) := by
  subst hK
  exact ⟨pe_bmT PySem.F.slot_tuple_index PySem.F.type_tuple_index mt_idxT ho.pe (pa_cons hb.pe pa_nil hs) hbase hfew hline hs hplain, se_idxT ho.se hb.se⟩
def rCntT (K : PySem.W.Frag) : V → List V → Hp → VK → Prop := fun x xs H Q => ∃ (a : Addr) (y : V) (ys : List V) (ds : List PyData) (d : PyData), x = .ref a ∧ xs = [y] ∧ SqT K H a ys ∧ Dds K H ys ds ∧ Dd K H y d ∧ PyData.plainAll ds = true ∧ d.plain = true ∧ d.depth ≤ 60 ∧
  Q (.int ((ds.countP fun y => PyData.eqv y d : Nat) : Int)) H
theorem mt_cntT (hu : X.A.units + 64 < cLine) : MtR X "tuple.count" (rCntT X.K) := by
  intro pins s σ H x xs v us Q I rx rv h
  obtain ⟨a, y, ys, ds, d, rfl, rfl, hs, hd, hy, p1, p2, p3, q⟩ := h
  cases rx
  obtain ⟨its, r, p, hz⟩ := I.tuple hs
  match us, rv with
  | [u], .cons r1 .nil =>
    obtain ⟨as, R1⟩ := dds_say I hd r
    obtain ⟨bs, R2, _⟩ := dd_say I d y u hy r1
    refine PySem.SeqAt.count_tuple_data (as := as) (bs := bs) p (by simpa using R1) R2 p1 p2 (by omega) ?_
    exact ⟨.int _, H, I.tok _, ⟨_, rfl⟩, q⟩
theorem se_cntT {ta tb : TE} {fa fb : EF} (ha : SE K ta fa) (hb : SE K tb fb) : SE K (tBMT (rCntT K) ta (tCons tb tNil)) (eCntT fa fb) := by
  intro S ρ σ v st' ok en h Q q
  unfold eCntT at h
  split at h
  · rename_i xs st1 e1
    split at h
    · rename_i d st2 e2
      split at h
      · rename_i hc
        cases h
        refine ha S ρ σ _ _ ok en e1 _ fun S1 xa l1 s1 x1 ok1 r1 => ?_
        subst s1
        refine ⟨fr_tyT r1, hb S1 ρ σ _ _ ok1 (en.up x1) e2 _ fun S2 xb l2 s2 x2 ok2 r2 => ?_⟩
        subst s2
        obtain ⟨a, vs, ob, rfl, h1, _, h3⟩ := r1.up x2
        exact ⟨a, xb, vs, xs, d, rfl, rfl, .inl (.inr ⟨ob, fr_same S2 _ _ h1⟩), Dds.up (fr_same S2) _ _ h3, Dd.up (fr_same S2) _ _ r2, hc.1, hc.2.1, hc.2.2, q S2 _ (l2.trans l1) rfl (x1.trans x2) ok2 (Dd.int _)⟩
      · cases h
    · cases h
  · cases h
theorem q_cntT {a b : Expr} {ta tb : TE} {fa fb : EF} {apos cpos : Pos} (hK : X.K = K) (hu : X.A.units + 64 < cLine) (ho : QE K X a ta fa) (hb : QE K X b tb fb)
    (hbase : attributeBase a "count" X.env (eval a X.env) = eval a X.env)
    (hfew : ((backTo cpos (starEach [b] X.env)).all (fun x => !x.1) && (backToKw cpos (keywordEach [] X.env)).all (fun x => x.1.isSome)
      && decide ([b].length + ([] : List Keyword).length + (if ([] : List Keyword).isEmpty then 0 else 1) < 30)) = true)
    (hline : (apos.endLine == cpos.line) = true) (hs : starEach [b] X.env = (false, eval b X.env) :: starEach [] X.env) (hplain : (backTo cpos (starEach [] X.env)).any (·.1) = false) :
    QE K X (.Call (.Attribute a "count" apos) [b] [] cpos) (tBMT (rCntT K) ta (tCons tb tNil)) (eCntT fa fb) := by
  subst hK
  exact ⟨pe_bmT PySem.F.slot_tuple_count PySem.F.type_tuple_count (mt_cntT hu) ho.pe (pa_cons hb.pe pa_nil hs) hbase hfew hline hs hplain, se_cntT ho.se hb.se⟩
/-! ### sorted(d), d a dict cell whose keys are ints -/
def intKeys : List (Key × Vd) → Option (List Int)
  | [] => some []
  | (.inl i, _) :: r => (intKeys r).map (i :: ·)
  | _ => none
def eSortDI (a : EF) : EF := fun ρ st => match a ρ st with
  | some (.r n, st1) => match st1[n]? with
    | some (.dic kvs) => match intKeys kvs with
      | some ks => if ks.length < 64 then some (.d (.list ((ks.mergeSort (fun a b => decide (a ≤ b))).map .int)), st1) else none
      | none => none
    | _ => none
  | _ => none
theorem intKeys_ok {S : Wd} : ∀ {kvs : List (Key × Vd)} {ks : List Int} {vs : List (Key × V)}, intKeys kvs = some ks → Paired (fun p q => p.1 = q.1 ∧ RV K S p.2 q.2) vs kvs → vs.map (·.1) = ks.map Sum.inl
  | [], _, _, h, .nil => by cases h; rfl
  | (.inl i, _) :: r, _, _, h, .cons e t => by
    simp only [intKeys, Option.map_eq_some_iff] at h
    obtain ⟨n2, h1, rfl⟩ := h
    rw [List.map_cons, List.map_cons, intKeys_ok h1 t, e.1]
theorem sort_uniq {ys ks : List Int} (hp : ys.Perm ks) (hs : ys.Pairwise (· ≤ ·)) : ys = ks.mergeSort (fun a b => decide (a ≤ b)) := by
  refine List.Perm.eq_of_pairwise (le := (· ≤ ·)) (fun a b _ _ h1 h2 => Int.le_antisymm h1 h2) hs ?_ (hp.trans (List.mergeSort_perm _ _).symm)
  have := List.pairwise_mergeSort (le := fun a b : Int => decide (a ≤ b)) (fun a b c h1 h2 => by simp only [decide_eq_true_eq] at *; omega) (fun a b => by simp only [Bool.or_eq_true, decide_eq_true_eq]; omega) ks
  exact this.imp fun h => by simpa using h
theorem se_sortDI {t : TE} {f : EF} (ha : SE K t f) : SE K (tCB (fun xs H Q => ∃ (a : Addr) (kvs : List (Key × V)) (ks : List Int), xs = [.ref a] ∧ Rd H a (.dK kvs) ∧ kvs.map (·.1) = ks.map Sum.inl ∧ ks.length < 64 ∧
    ∀ (ys : List Int) (p : Addr), ys.Perm ks → ys.Pairwise (· ≤ ·) → H p = none → Q (.ref p) (upd H p (.lst (ys.map V.int)))) (tCons t tNil)) (eSortDI f) := by
  intro S ρ σ v st' ok en h Q q
  unfold eSortDI at h
  split at h
  · rename_i n st1 e1
    split at h
    · rename_i kvs e2
      split at h
      · rename_i ks e3
        split at h
        · rename_i h64
          cases h
          refine ha S ρ σ _ _ ok en e1 _ fun S1 xa l1 s1 x1 ok1 r1 => ?_
          subst s1
          obtain ⟨a, o, h1, h2, vs, h3, h4⟩ := look_at ok1 e2 (fun z => nomatch z)
          subst h3
          refine ⟨a, vs, ks, by rw [r1.ref_at h1], .inl h2, intKeys_ok e3 h4, h64, fun ys p hp hs hf => ?_⟩
          have ey := sort_uniq hp hs
          subst ey
          refine (q.from l1 x1).grow ok1 ((Grow.refl (fr_same S1)).put hf _) (.lst (SqL.of upd_same) ?_)
          exact ints_dds _
        · cases h
      · cases h
    · cases h
  · cases h
theorem q_sortDI {e : Expr} {p pos : Pos} {te : TE} {f : EF} (hK : X.K = K) (hcalm : X.calm = true) (hm : X.mg "sorted" = none) (ha : QE K X e te f) (hg : Gl X "sorted") (he : starEach [e] X.env = (false, eval e X.env) :: starEach [] X.env) (hpl : (backTo pos (starEach [] X.env)).any (·.1) = false) :
    QE K X (.Call (.Name "sorted" p) [e] [] pos) (tCB (fun xs H Q => ∃ (a : Addr) (kvs : List (Key × V)) (ks : List Int), xs = [.ref a] ∧ Rd H a (.dK kvs) ∧ kvs.map (·.1) = ks.map Sum.inl ∧ ks.length < 64 ∧
    ∀ (ys : List Int) (p : Addr), ys.Perm ks → ys.Pairwise (· ≤ ·) → H p = none → Q (.ref p) (upd H p (.lst (ys.map V.int)))) (tCons te tNil)) (eSortDI f) := by
  subst hK
  exact ⟨pe_callB (call_sortedDI hcalm) hg hm (by decide +kernel) (pa_cons ha.pe pa_nil he) (by decide) (by decide) he hpl, se_sortDI ha.se⟩
end
end Dl

set_option Elab.async false
set_option linter.all false
set_option maxRecDepth 100000
set_option maxHeartbeats 4000000
namespace Dl
open PySem PySem.Spec PyProof.Rows L2 L2.DX Pg
/-! ### sorted(d.items()), ints as keys, ints as values -/
def pairI (k n : Int) : PyData := .tuple [.int k, .int n]
def rSortIK (K : PySem.W.Frag) : List V → Hp → VK → Prop := fun vs H Q => ∃ (p a : Addr) (kvs : List (Int × Int)), vs = [.ref p] ∧ H p = some (itemsO p a) ∧ H a = some (.dK (kvs.map fun e => (Sum.inl e.1, V.int e.2))) ∧ sortsB (kvs.map fun e => pairI e.1 e.2) = true ∧
  ∀ (H' : Hp) (l : Addr) (zs : List V), Same H H' → H l = none → H' l = some (.lst zs) → Dds K (newT H H') zs (srt (kvs.map fun e => pairI e.1 e.2)) → Q (.ref l) H'
theorem each_idxI {R : Value → Int × Int → Prop} : ∀ {as : List Addr} {kvs : List (Int × Int)}, as.length = kvs.length → (∀ (j : Nat) (b : Addr), as[j]? = some b → ∃ e, kvs[j]? = some e ∧ R (.ref b) e) → PySem.W.EachIs R (as.map Value.ref) kvs
  | [], [], _, _ => .nil
  | [], _ :: _, h, _ => nomatch h
  | _ :: _, [], h, _ => nomatch h
  | a :: as, e :: kvs, h, f => by
    obtain ⟨e', h1, h2⟩ := f 0 a rfl
    cases (Option.some.inj h1 : e = e')
    exact .cons h2 (each_idxI (by simpa using h) fun j b hj => f (j + 1) b hj)
theorem pairs_len {P : Program} {w : World} : ∀ {es : List DictEntry} {kvs : List (Key × Value)}, Pairs (mixKind P w) es kvs → es.length = kvs.length
  | _, _, .nil => rfl
  | _, _, .cons _ _ t => congrArg (· + 1) (pairs_len t)
theorem pairs_get {P : Program} {w : World} : ∀ {es : List DictEntry} {kvs : List (Key × Value)} {j : Nat} {e : DictEntry}, Pairs (mixKind P w) es kvs → es[j]? = some e → ∃ kv, kvs[j]? = some kv ∧ (mixKind P w).is kv.1 e.key = true ∧ e.val = kv.2
  | _, _, _, _, .nil, h => by simp at h
  | _, _, 0, _, .cons (kv := kv) a b _, h => by
    simp at h
    subst h
    exact ⟨kv, rfl, a, b⟩
  | _, _, j + 1, _, .cons _ _ t, h => by
    obtain ⟨kv, h1, h2⟩ := pairs_get (j := j) t (by simpa using h)
    exact ⟨kv, by simpa using h1, h2⟩
theorem pgetK : ∀ {kvs : List (Key × V)} {vs : List (Key × Value)} {j : Nat} {x : Key × Value}, KV kvs vs → vs[j]? = some x → ∃ e, kvs[j]? = some e ∧ e.1 = x.1 ∧ RelV e.2 x.2
  | _, _, _, _, .nil, h => by simp at h
  | _, _, 0, _, .cons r _, h => by
    simp at h
    subst h
    exact ⟨_, rfl, r.1, r.2⟩
  | _, _, j + 1, _, .cons _ t, h => by
    obtain ⟨e, h1, h2⟩ := pgetK (j := j) t (by simpa using h)
    exact ⟨e, by simpa using h1, h2⟩
section
variable {X : Cx}
def rItemsK : V → List V → Hp → VK → Prop := fun x xs H Q => ∃ (a : Addr) (kvs : List (Key × V)), x = .ref a ∧ xs = [] ∧ H a = some (.dK kvs) ∧ ∀ p, H p = none → Q (.ref p) (upd H p (itemsO p a))
theorem mt_itemsK : MtR X "dict.items" rItemsK := by
  intro pins s σ H x xs v us Q I rx rxs h
  obtain ⟨a, kvs, rfl, rfl, ha, q⟩ := h
  cases rx
  cases rxs
  obtain ⟨z, hd, xs', rel, o, es, ep, ho, hx, hdat, _⟩ := dk_of I.hok ha
  refine DT.callItems (es := es) (ep := ep) hd ⟨o, ho, hx, hdat⟩ ?_
  have hf : H s.heap.objs.size = none := I.hok.fresh (Nat.le_refl _)
  exact ⟨.ref s.heap.objs.size, upd H s.heap.objs.size (itemsO s.heap.objs.size a), I.laid (t' := s.toks) (fun b u e => Heap.get?_push_of_some _ e) (Nat.le_refl _) (itemsO_ok (Heap.get?_push_size _ rfl)), rfl, q _ hf⟩
theorem cr_sortIK (hc : X.calm = true) (hu : X.A.units + 64 < cLine) : CallR X (.builtin "sorted") (rSortIK X.K) := by
  intro pins s σ H xs us Q I r h
  obtain ⟨p, a, kvs, rfl, hp, ha, hsb, q⟩ := h
  obtain rfl := Vals.ref1 r
  have view : s.heap.IsItemsView p a := (show ObjOk X.prog X.w H s.heap p (itemsO p a) from I.hok p _ hp).1
  obtain ⟨z, hd, xs', rel, o, es, ep, ho, hx, hdat, hks, hpr, hn⟩ := dk_of I.hok ha
  have l1 : kvs.length = xs'.length := by have := Paired.length rel; rwa [List.length_map] at this
  have l2 : es.size = xs'.length := by rw [← Array.length_toList]; exact pairs_len hpr
  obtain ⟨s1, s2, s3, s4⟩ := sorts_of hsb
  have s4' : kvs.length ≤ sizeLine := by rw [List.length_map] at s4; exact Nat.le_trans s4 (by decide)
  refine DT.sortedI (es := es) (ep := ep) (I.ok.hd hc) view ⟨o, ho, hx, hdat⟩ (by omega) fun h' tk as hk hlt hl hG => ?_
  have lak : as.length = kvs.length := by omega
  have nd : as.Nodup := List.Pairwise.imp (fun h => Nat.ne_of_lt h) hG.rise
  have pr : ∀ (j : Nat) (b : Addr), as[j]? = some b → ∃ (e : Int × Int) (t1 t : Tok), kvs[j]? = some e ∧ h'.get? b = some { cls := .type "tuple", data := .seq #[Value.int e.1 t1, Value.int e.2 t] } := by
    intro j b hj
    obtain ⟨en, he, hg⟩ := hG.pairs j b hj
    obtain ⟨x, hxj, k1, k2⟩ := pairs_get hpr (show es.toList[j]? = some en by rw [Array.getElem?_toList]; exact he)
    obtain ⟨e0, he0, r1, r3⟩ := pgetK rel hxj
    rw [List.getElem?_map] at he0
    obtain ⟨e, hkj, ee⟩ := Option.map_eq_some_iff.mp he0
    subst ee
    obtain ⟨t, ev⟩ := (show RelV (V.int e.2) x.2 from r3)
    have r1' : Sum.inl e.1 = x.1 := r1
    rw [← r1'] at k1
    have k1' : keyIs (Sum.inl e.1) en.key = true := k1
    rcases keyIs_shape k1' with ⟨i, t1, ei, ek⟩ | ⟨x', t1, ei, ek⟩
    · cases ei
      refine ⟨e, t1, t, hkj, ?_⟩
      rw [hg, ek, k2, ev]
    · cases ei
  have hob : (h'.push { cls := .type "list", data := .seq (as.map Value.ref).toArray }).get? h'.objs.size = some (seqObj "list" (as.map Value.ref).toArray 0) := Heap.get?_push_size _ rfl
  have kb : ∀ b o, s.heap.get? b = some o → (h'.push { cls := .type "list", data := .seq (as.map Value.ref).toArray }).get? b = some o := fun b o e => Heap.get?_push_of_some _ (hk b o e)
  have ne0 : ∀ b o, h'.get? b = some o → b ≠ h'.objs.size := fun b o e => Nat.ne_of_lt (Heap.lt_size e)
  generalize hh2 : h'.push { cls := .type "list", data := .seq (as.map Value.ref).toArray } = h2 at hob kb ⊢
  have ka : ∀ b o, h'.get? b = some o → h2.get? b = some o := fun b o e => by rw [← hh2]; exact Heap.get?_push_of_some _ e
  let R : Value → Int × Int → Prop := fun u e => ∃ (b : Addr) (t1 t : Tok), u = .ref b ∧ b ∈ as ∧ h'.get? b = some { cls := .type "tuple", data := .seq #[Value.int e.1 t1, Value.int e.2 t] }
  have eR : PySem.W.EachIs R (as.map Value.ref) kvs := each_idxI lak fun j b hj => by
    obtain ⟨e, t1, t, h1, h3⟩ := pr j b hj
    exact ⟨e, h1, b, t1, t, rfl, List.mem_of_getElem? hj, h3⟩
  have eReads : PySem.W.EachIs (fun v (e : Int × Int) => ∃ as', Reads h2 v (pairI e.1 e.2) as' ∧ h'.objs.size ∉ as') (as.map Value.ref) kvs := eR.mono fun u e hR => by
    obtain ⟨b, t1, t, rfl, _, h3⟩ := hR
    exact ⟨_, .tuple (ka _ _ h3) rfl rfl (.cons (as := []) (bs := []) (.int _ _) (.cons (as := []) (bs := []) (.int _ _) .nil)), by simp⟩
  refine PySem.W.list_sort_data (s := { s with heap := h2, toks := tk }) (A := X.A.in1) (enc := fun e : Int × Int => pairI e.1 e.2) hob eR eReads s1 s2 s4' (fun b hb => ?_) fun out hol hout => ?_
  · have := s3 _ (List.mem_map_of_mem hb)
    show X.A.units + 1 + 1 + _ < cLine
    omega
  · show EP X pins σ Q (.ref h'.objs.size) { s with heap := sortedHeap h2 h'.objs.size (as.map Value.ref) (List.toArray out), toks := tk }
    have kF : ∀ b o, b ≠ h'.objs.size → h2.get? b = some o → (sortedHeap h2 h'.objs.size (as.map Value.ref) (List.toArray out)).get? b = some o := fun b o hb e => (PyProof.Rows.sortedHeap_old hb (Heap.lt_size e)).trans e
    have kS : ∀ b o, s.heap.get? b = some o → (sortedHeap h2 h'.objs.size (as.map Value.ref) (List.toArray out)).get? b = some o := fun b o e => kF b o (ne0 _ _ (hk b o e)) (kb b o e)
    obtain ⟨eF, heF⟩ := PyProof.Rows.sortedHeap_at (vs := as.map Value.ref) (out := List.toArray out) hob
    have I1 : Inv X pins σ H { s with heap := sortedHeap h2 h'.objs.size (as.map Value.ref) (List.toArray out), toks := tk } := I.kept (t' := tk) kS
    have hn0 : H h'.objs.size = none := I.hok.fresh (Nat.le_of_lt hlt)
    have split : ∀ {us : List Value} {ys : List (Int × Int)}, PySem.W.EachIs R us ys → ∃ bs : List Addr, us = bs.map Value.ref := fun {us ys} e => by
      induction e with
      | nil => exact ⟨[], rfl⟩
      | cons h t ih =>
        obtain ⟨b, _, _, rfl, _⟩ := h
        obtain ⟨bs, e⟩ := ih
        exact ⟨b :: bs, by rw [e]; rfl⟩
    obtain ⟨bs, ebs⟩ := split hout
    subst ebs
    have lbs : bs.length = kvs.length := by rwa [List.length_map] at hol
    have hlen : (bs.map V.ref).length ≤ sizeLine := by rw [List.length_map, lbs]; exact s4'
    have rv : Vals (bs.map V.ref) (bs.map Value.ref) := vals_maps V.ref Value.ref bs fun _ _ => rfl
    have I2 : Inv X pins σ (upd H h'.objs.size (.lst (bs.map V.ref))) { s with heap := sortedHeap h2 h'.objs.size (as.map Value.ref) (List.toArray (bs.map Value.ref)), toks := tk } :=
      I1.take (h' := sortedHeap h2 h'.objs.size (as.map Value.ref) (List.toArray (bs.map Value.ref))) (t' := tk) (fun b ob _ e => e) (I.fpOk (Nat.le_of_lt hlt) hn0) ⟨hlen, bs.map Value.ref, eF, rv, heF⟩
    have fresh_as : ∀ b ∈ as, H b = none := fun b hb => I.hok.fresh (Nat.le_of_lt (hG.above b hb))
    obtain ⟨H2, I3, g, qt⟩ := takeT (P := fun b vs => ∃ (m n : Int) (t1 t : Tok), vs = [.int m, .int n] ∧ h'.get? b = some { cls := .type "tuple", data := .seq #[Value.int m t1, Value.int n t] }) I as _ I2 nd fun b hb => by
      obtain ⟨j, hj⟩ := List.mem_iff_getElem?.mp hb
      obtain ⟨e, t1, t, he, hg⟩ := pr j b hj
      refine ⟨Nat.le_of_lt (hG.above b hb), ?_, [.int e.1, .int e.2], ⟨e.1, e.2, t1, t, rfl, hg⟩, fun H3 => ⟨(by rw [sizeLine_eq]; show 2 ≤ 16777216; omega), [Value.int e.1 t1, Value.int e.2 t], .cons ⟨t1, rfl⟩ (.cons ⟨t, rfl⟩ .nil), ⟨_, kF _ _ (ne0 _ _ hg) (ka _ _ hg), rfl, 0, rfl⟩⟩⟩
      rw [upd_ne (ne0 _ _ hg)]
      exact fresh_as b hb
    have gr : Same H H2 := fun b o e => g b o (by rw [upd_ne (ne_of_none e hn0)]; exact e)
    have dd : ∀ {cs : List Addr} {ys : List (Int × Int)}, PySem.W.EachIs R (cs.map Value.ref) ys → Dds X.K (newT H H2) (cs.map V.ref) (ys.map fun e => pairI e.1 e.2) := by
      intro cs
      induction cs with
      | nil =>
        intro ys e
        cases e
        exact .nil
      | cons b cs ih =>
        intro ys e
        cases e with
        | @cons _ y _ ys h t =>
          refine .cons ?_ (ih t)
          obtain ⟨b', t1, tt, e1, hb, hgb⟩ := h
          cases e1
          obtain ⟨vs, ⟨m', n', t1', t', ev, hg'⟩, hH⟩ := qt b hb
          rw [hgb] at hg'
          have e2 := Option.some.inj hg'
          have e3 : (#[Value.int y.1 t1, Value.int y.2 tt] : Array Value) = #[Value.int m' t1', Value.int n' t'] := by
            have := congrArg Obj.data e2
            injection this
          have e4 : [Value.int y.1 t1, Value.int y.2 tt] = [Value.int m' t1', Value.int n' t'] := congrArg Array.toList e3
          injection e4 with e5 e6
          injection e6 with e6 _
          injection e5 with e5
          injection e6 with e6 _
          subst ev
          have nb : newT H H2 b = some (.tup [.int m', .int n']) := (if_pos (.inl (fresh_as b hb))).trans hH
          rw [← e5, ← e6] at nb
          exact .tup (SqT.of nb) (.cons (.int _) (.cons (.int _) .nil))
    have em : srt (kvs.map fun e => pairI e.1 e.2) = (kvs.mergeSort (PySem.W.dataLe false fun e => pairI e.1 e.2)).map fun e => pairI e.1 e.2 :=
      (List.map_mergeSort (f := fun e : Int × Int => pairI e.1 e.2) (r := PySem.W.dataLe false fun e : Int × Int => pairI e.1 e.2) (s := PySem.W.dataLe false id) (fun a _ b _ => rfl)).symm
    refine ⟨.ref h'.objs.size, H2, I3, rfl, q H2 h'.objs.size (bs.map V.ref) gr hn0 (g _ _ upd_same) ?_⟩
    rw [em]
    exact dd hout
end
def intsKV : List (Key × Vd) → Option (List (Int × Int))
  | [] => some []
  | (.inl k, .d (.int n)) :: r => (intsKV r).map ((k, n) :: ·)
  | _ => none
noncomputable def eSortIK (a : EF) : EF := fun ρ st => match a ρ st with
  | some (.r n, st1) => match st1[n]? with
    | some (.dic kvs) => match intsKV kvs with
      | some es => if sortsB (es.map fun e => pairI e.1 e.2) = true then some (.d (.list (srt (es.map fun e => pairI e.1 e.2))), st1) else none
      | none => none
    | _ => none
  | _ => none
section
variable {K : PySem.W.Frag} {X : Cx} {a : Expr} {ta : TE} {fa : EF} {p1 p2 pos : Pos}
theorem intsKV_ok {S : Wd} : ∀ {ks : List (Key × V)} {kvs : List (Key × Vd)} {es : List (Int × Int)}, Paired (fun p q => p.1 = q.1 ∧ RV K S p.2 q.2) ks kvs → intsKV kvs = some es → ks = es.map fun e => (Sum.inl e.1, V.int e.2)
  | _, [], _, .nil, h => by cases h; rfl
  | _, (.inl k, .d (.int n)) :: r, _, .cons (a := ⟨k', v'⟩) e t, h => by
    simp only [intsKV, Option.map_eq_some_iff] at h
    obtain ⟨n2, h1, rfl⟩ := h
    obtain ⟨e1, e2⟩ := e
    have e1' : k' = .inl k := e1
    have e2' : Dd K S.fr v' (.int n) := e2
    cases e2'
    rw [intsKV_ok t h1, e1']
    rfl
theorem se_sortIK (ha : SE K ta fa) : SE K (tCB (rSortIK K) (tCons (tBM0 K "dict" rItemsK ta) tNil)) (eSortIK fa) := by
  intro S ρ σ v st' ok en h Q q
  unfold eSortIK at h
  split at h
  · rename_i n st1 e1
    split at h
    · rename_i kvs e2
      split at h
      · rename_i es e3
        split at h
        · rename_i hs
          cases h
          refine ha S ρ σ _ _ ok en e1 _ fun S1 xa l1 s1 x1 ok1 r1 => ?_
          subst s1
          obtain ⟨a, o, h1, h2, ks, h3, h4⟩ := look_at ok1 e2 (fun z => nomatch z)
          subst h3
          have ea := r1.ref_at h1
          subst ea
          have ek := intsKV_ok h4 e3
          refine ⟨.inr (.inr (.inl ⟨rfl, .inl ⟨ks, h2⟩⟩)), a, ks, rfl, rfl, h2, fun p hp => ?_⟩
          have nap : a ≠ p := ne_of_none h2 hp
          refine ⟨p, a, es, rfl, upd_same, by rw [upd_ne nap, ← ek]; exact h2, hs, fun H' l zs sm hl hH hd => ?_⟩
          have sm1 : Same S1.H H' := (same_up hp).trans sm
          have gr := ok1.grow sm1
          refine (q.from l1 x1) { S1 with H := H' } (.ref l) rfl rfl gr.1 gr.2 ?_
          have lz : S1.H l = none := by
            cases c : S1.H l with
            | none => rfl
            | some u =>
              have := same_up (o := itemsO p a) hp l u c
              rw [hl] at this
              cases this
          have up : Same (newT (upd S1.H p (itemsO p a)) H') ({ S1 with H := H' } : Wd).fr := fun b u hb => by
            unfold newT at hb
            split at hb
            · rename_i hc
              refine fr_at (fun z => ?_) hb
              rcases hc with hc | ⟨xs, hc⟩
              · refine ok1.fresh ?_ (show S1.Lv b from z)
                cases c : S1.H b with
                | none => rfl
                | some u' =>
                  have := same_up (o := itemsO p a) hp b u' c
                  rw [hc] at this
                  cases this
              · have nb : b ≠ p := fun e => by
                  rw [e, upd_same] at hc
                  unfold itemsO at hc
                  cases hc
                rw [upd_ne nb] at hc
                exact tup_free ok1 hc z
            · cases hb
          show Dd K ({ S1 with H := H' } : Wd).fr (.ref l) (.list _)
          refine .lst (SqL.of (fr_at (fun z => ok1.fresh lz z) hH)) (Dds.up up _ _ hd)
        · cases h
      · cases h
    · cases h
  · cases h
theorem q_sortIK {apos cpos : Pos} (hK : X.K = K) (hc : X.calm = true) (hu : X.A.units + 64 < cLine) (mo : X.mg "sorted" = none) (ha : QE K X a ta fa) (g2 : Gl X "sorted")
    (hbase : attributeBase a "items" X.env (eval a X.env) = eval a X.env) (hline : (apos.endLine == cpos.line) = true)
    (he : starEach [.Call (.Attribute a "items" apos) [] [] cpos] X.env = (false, eval (.Call (.Attribute a "items" apos) [] [] cpos) X.env) :: starEach [] X.env) :
    QE K X (.Call (.Name "sorted" p1) [.Call (.Attribute a "items" apos) [] [] cpos] [] pos) (tCB (rSortIK K) (tCons (tBM0 K "dict" rItemsK ta) tNil)) (eSortIK fa) := by
  subst hK
  exact ⟨pe_callB (cr_sortIK hc hu) g2 mo (by decide +kernel) (pa_cons (pe_bm0 PySem.F.plainAttrs_dict PySem.F.slot_dict_items PySem.F.type_dict_items mt_itemsK ha.pe hbase hline) pa_nil he) (by decide) (by decide) he rfl, se_sortIK ha.se⟩
end
end Dl

set_option Elab.async false
set_option linter.all false
set_option maxRecDepth 100000
set_option maxHeartbeats 4000000
namespace Dl
open PySem PySem.Spec PyProof.Rows L2 Pg
/-! ### sorted(set(t)), t a tuple of ints -/
section
variable {P : Program} {w : World} {A : Around} {E : Value → Shared → Prop} {s : Shared}
set_option maxRecDepth 100000 in
set_option maxHeartbeats 3200000 in
theorem set_tupI {l : Addr} {us : Array Value} (zs : List Int) {Q : Value → Shared → Prop} (nh : A.handled = none) (lu : s.heap.IsTuple l us) (iu : IntsAre us.toList zs) (few : zs.length + 1 < scanBound)
    (fin : ∀ (g : Heap) (tk c : Nat), SetR w g s.heap.objs.size (fun j => decide (j ∈ zs)) c → c ≤ zs.length → (∀ b o, s.heap.get? b = some o → g.get? b = some o) → Q (.ref s.heap.objs.size) { s with heap := g, toks := tk }) :
    wpAny (model P w) A (call (.type "set") [.ref l]) Q E s := by
  have su : us.size = zs.length := by
    have e := IntsAre.length iu
    rwa [Array.length_toList] at e
  obtain ⟨mc, mt, mm⟩ := F.called_set.mro
  have f1 := F.called_set.made
  have f2 := F.called_set.sub
  refine wpAny_call (codeAny_of_tree ?_)
  show wpAny _ _ (callAny (.type "set") _) _ _ _
  refine wpAny_pure ⟨Code.quiet_builtin _ (by decide +kernel), codeAny_builtin F.entry_type_call ?_⟩
  rw [Around.under_plain (weight_type_call_type "set" [.ref l] []) rfl]
  have f3 := F.called_set.notType
  have f4 := F.called_set.canCreate
  have f5 := F.typeCall_set_1 (.ref l)
  repeat (any_goals (first | assumption | wp_step))
  refine codeAny_mono (code_set_led1 (.ref l) (E := E) (Q₁ := fun v t => v = .ref s.heap.objs.size ∧ t = { s with heap := s.heap.push (newSO w) }) ⟨rfl, rfl⟩) fun r t hr => ?_
  cases r with
  | error e => exact hr
  | ok fl =>
    cases fl with
    | ret v =>
      obtain ⟨rfl, rfl⟩ := hr
      have hS : (s.heap.push (newSO w)).get? s.heap.objs.size = some (newSO w) := Heap.get?_push_size _ rfl
      have tS : Shared.TypeIs { s with heap := s.heap.push (newSO w) } (.ref s.heap.objs.size) "set" := ⟨_, hS, rfl⟩
      have f6 := F.called_set.init.lookup
      have f7 := F.called_set.init.bind (.ref s.heap.objs.size)
      repeat (any_goals (first | assumption | wp_step))
      refine codeAny_mono (codeAny_call_builtin (R := wants (fun r t => r = .none ∧ ∃ g tk c, t = { s with heap := g, toks := tk } ∧ SetR w g s.heap.objs.size (fun j => decide (j ∈ zs)) c ∧ c ≤ zs.length ∧
          (∀ b o, s.heap.get? b = some o → g.get? b = some o)) E) F.called_set.init.plain F.entry_set_init (check_set_init_1 tS ?_)) fun r2 t2 hr2 => ?_
      · obtain ⟨⟨k1, k2, k3, k4⟩, hol, hcl, nl, hdl⟩ := lu
        simp only at hcl hdl
        subst hcl hdl
        have hol' : (s.heap.push (newSO w)).get? l = some ⟨.type "tuple", k2, .seq us nl, k4⟩ := Heap.get?_push_of_some _ hol
        have f8 := F.sub_tuple_set
        have f9 := F.sub_tuple_frozenset
        have f10 : (Value.type "tuple" == Value.type "dict") = false := by decide
        have lu1 : (s.heap.push (newSO w)).IsTuple l us := ⟨_, hol', rfl, nl, rfl⟩
        unfold Builtin.«set.__init__» noKeywords Builtin.Frozenset.updateFrom
        generalize hPI : pyIter = PI
        wp_walk
        subst hPI
        refine wpAny_pyIter_tuple lu1 ?_
        refine wpAny_bind (wpAny_runValue ?_)
        have hlS : l < s.heap.objs.size := Heap.lt_size hol
        have nh3 : A.in1.in1.in1.handled = none := by simp [nh]
        have n1 : l ≠ (s.heap.push (newSO w)).objs.size := by
          rw [Heap.size_push]
          exact Nat.ne_of_lt (Nat.lt_succ_of_lt hlS)
        have n2 : s.heap.objs.size ∉ [(s.heap.push (newSO w)).objs.size, l] := by
          rw [Heap.size_push]
          simp only [List.mem_cons, List.not_mem_nil, or_false, not_or]
          exact ⟨Nat.ne_of_lt (Nat.lt_succ_self _), Nat.ne_of_gt hlS⟩
        have val : ∀ (i : Nat) (v : Value), us[i]? = some v → ∃ k t, zs[i]? = some k ∧ v = .int k t := fun i v hv => by
          have hi : i < zs.length := by rw [← su]; exact (Array.getElem?_eq_some_iff.mp hv).1
          obtain ⟨t, e⟩ := PyProof.Rows.IntsAre.int_at iu i v (by rw [Array.getElem?_toList]; exact hv)
          refine ⟨zs[i], t, List.getElem?_eq_getElem hi, ?_⟩
          rw [e, List.getD_eq_getElem?_getD, List.getElem?_eq_getElem hi]
          rfl
        refine set_update_ints ((Walks.tuple nh3 _ l n1 us).toS) s.heap.objs.size n2 zs su few val (us.size - 0) 0 _ (by omega) (Nat.zero_le _) ⟨⟨_, Heap.get?_push_size _ rfl, rfl, rfl⟩, (lu1.push _)⟩ ?gA ?gB
        case gA => exact ⟨0, Nat.le_refl 0, setR_new_at (Heap.get?_push_of_some _ hS)⟩
        case gB =>
          intro t c hm hc hS'
          obtain ⟨g, g2, d', tk', os'⟩ := t
          have eg : g2 = s.gens := hm.gens
          have ed : d' = s.drawn := hm.drawn
          have eo : os' = s.os := hm.os
          subst eg ed eo
          show wpAny _ _ _ _ _ _
          refine wpAny_pure ?_
          show wpAny _ _ (ret Value.none) _ _ _
          rw [su] at hc
          refine wpAny_pure ⟨rfl, g, tk', c, rfl, hS', hc, fun b o e => ?_⟩
          have b0 : b < s.heap.objs.size := Heap.lt_size e
          have b2 : b ≠ (s.heap.push (newSO w)).objs.size := by
            rw [Heap.size_push]
            exact Nat.ne_of_lt (Nat.lt_succ_of_lt b0)
          exact hm.heap b o (by simp only [List.mem_cons, List.not_mem_nil, or_false, not_or]; exact ⟨Nat.ne_of_lt b0, b2⟩) (Heap.get?_push_of_some _ (Heap.get?_push_of_some _ e))
      · cases r2 with
        | error e => exact hr2
        | ok fl2 =>
          cases fl2 with
          | ret r =>
            obtain ⟨rfl, g, tk, c, rfl, q1, q2, q3⟩ := hr2
            repeat (any_goals (first | assumption | wp_step))
            exact fin _ _ _ q1 q2 q3
          | _ => exact hr2.elim
    | _ => exact hr.elim
end
def rSetTI (K : PySem.W.Frag) (w : World) : List V → Hp → VK → Prop := fun xs H Q => ∃ (l : Addr) (zs : List Int), xs = [.ref l] ∧ SqT K H l (zs.map V.int) ∧ zs.length < 4000 ∧ ∀ p c, H p = none → c = (sortSI zs).length → Q (.ref p) (upd H p (SetO w p (fun j => decide (j ∈ zs)) c))
theorem cr_setTI {X : Cx} (hc : X.calm = true) : CallR X (.type "set") (rSetTI X.K X.w) := by
  intro pins s σ H xs us Q I r h
  obtain ⟨l, zs, rfl, hs, few, q⟩ := h
  rw [Vals.ref1 r]
  obtain ⟨its, rv, hl, hz⟩ := I.tuple hs
  refine set_tupI zs (I.ok.hd hc) hl (by simpa using ints_of_vals rv) (Nat.lt_of_le_of_lt (show zs.length + 1 ≤ 4000 by omega) (by decide +kernel)) fun g tk c R hcl hk => ?_
  exact ⟨.ref s.heap.objs.size, upd H s.heap.objs.size (SetO X.w s.heap.objs.size (fun j => decide (j ∈ zs)) c), I.laid (t' := tk) hk (Nat.le_refl _) (setO_new R), rfl, q _ c (I.hok.fresh (Nat.le_refl _)) (setR_len R)⟩
def eSetST (a : EF) : EF := fun ρ st => match a ρ st with
  | some (v, st1) => match lookR st1 v with
    | some (.tuple ds) => match intsOf ds with
      | some zs => if zs.length < 4000 ∧ (sortSI zs).length < 64 then some (.d (.list ((sortSI zs).map .int)), st1) else none
      | none => none
    | _ => none
  | none => none
section
variable {K : PySem.W.Frag} {X : Cx} {a b e : Expr} {ta tb te : TE} {fa fb f : EF} {pos p1 p2 p3 : Pos}
theorem se_setST (ha : SE K ta fa) {w : World} : SE K (tCB (rSortedSet w) (tCons (tCB (rSetTI K w) (tCons ta tNil)) tNil)) (eSetST fa) := by
  intro S ρ σ v st' ok en h Q q
  unfold eSetST at h
  split at h
  · rename_i va st1 e1
    split at h
    · rename_i ds e2
      split at h
      · rename_i zs e3
        split at h
        · rename_i hz
          cases h
          refine ha S ρ σ _ _ ok en e1 _ fun S1 xa l1 s1 x1 ok1 r1 => ?_
          subst s1
          obtain ⟨l, ys, hx, h1, h2, _⟩ := (lookR_ok ok1 r1 e2).tup (fr_same S1)
          refine ⟨l, zs, by rw [hx], by rw [← intsOf_ok h2 e3]; exact h1, hz.1, fun p c hp hc => ?_⟩
          refine ⟨p, _, c, rfl, upd_same, by rw [hc]; exact hz.2, fun ns p' asc mem _ hp' => ?_⟩
          have en' : ns = sortSI zs := asc_same asc (asc_sortSI zs) fun z => by rw [mem z, decide_eq_true_iff, mem_sortSI]
          subst en'
          have g1 := (Grow.refl (fr_same S1)).put hp (SetO w p (fun j => decide (j ∈ zs)) c)
          have g2 := g1.put hp' (.lst ((sortSI zs).map V.int))
          exact (q.from l1 x1).grow ok1 g2 (.lst (SqL.of upd_same) (ints_dds _))
        · cases h
      · cases h
    · cases h
  · cases h
theorem q_setST (hK : X.K = K) (hc : X.calm = true) (ms : X.mg "set" = none) (mo : X.mg "sorted" = none) (ha : QE K X e te f) (g1 : Gl X "set") (g2 : Gl X "sorted")
    (he : starEach [e] X.env = (false, eval e X.env) :: starEach [] X.env) :
    QE K X (.Call (.Name "sorted" p1) [.Call (.Name "set" p2) [e] [] p3] [] pos) (tCB (rSortedSet X.w) (tCons (tCB (rSetTI K X.w) (tCons te tNil)) tNil)) (eSetST f) := by
  subst hK
  exact ⟨pe_callB (cr_sortedSet hc) g2 mo (by decide +kernel) (pa_cons (pe_callTy (cr_setTI hc) g1 ms (by decide +kernel) (pa_cons ha.pe pa_nil he) (by decide) (by decide) he rfl) pa_nil), se_setST ha.se⟩
end
end Dl

set_option Elab.async false
set_option linter.all false
set_option maxRecDepth 100000
set_option maxHeartbeats 4000000
namespace Dl
open PySem PySem.Spec PyProof.Rows L2 Pg LamX
/-! ### sorted(t), sorted(t, key=lambda x: ..), t a tuple -/
mutual
theorem reads_lt {h : Heap} : ∀ (d : PyData) (v : Value) (as : List Addr), Reads h v d as → ∀ b ∈ as, b < h.objs.size
  | .none, _, _, r => by cases r; exact fun _ z => nomatch z
  | .bool _, _, _, r => by cases r; exact fun _ z => nomatch z
  | .int _, _, _, r => by cases r; exact fun _ z => nomatch z
  | .str _, _, _, r => by cases r; exact fun _ z => nomatch z
  | .list ds, _, _, r => by
    cases r with
    | list h1 _ _ h4 => exact fun b hb => (List.mem_cons.mp hb).elim (fun e => by rw [e]; exact Heap.lt_size h1) (reads_ltA ds _ _ h4 b)
  | .tuple ds, _, _, r => by
    cases r with
    | tuple h1 _ _ h4 => exact reads_ltA ds _ _ h4
  | .dict kvs, _, _, r => by
    cases r with
    | dict h1 _ _ h4 h5 =>
      intro b hb
      rcases List.mem_append.mp hb with hb | hb
      · rcases List.mem_cons.mp hb with rfl | hb
        · exact Heap.lt_size h1
        · exact reads_ltK kvs _ _ h4 b hb
      · exact reads_ltV kvs _ _ h5 b hb
theorem reads_ltA {h : Heap} : ∀ (ds : List PyData) (vs : List Value) (as : List Addr), ReadsAll h vs ds as → ∀ b ∈ as, b < h.objs.size
  | [], _, _, r => by cases r; exact fun _ z => nomatch z
  | d :: ds, _, _, r => by
    cases r with
    | cons h1 h2 => exact fun b hb => (List.mem_append.mp hb).elim (reads_lt d _ _ h1 b) (reads_ltA ds _ _ h2 b)
theorem reads_ltK {h : Heap} : ∀ (kvs : List (PyData × PyData)) (vs : List Value) (as : List Addr), ReadsAll h vs (kvs.map (·.1)) as → ∀ b ∈ as, b < h.objs.size
  | [], _, _, r => by cases r; exact fun _ z => nomatch z
  | (k, _) :: kvs, _, _, r => by
    cases r with
    | cons h1 h2 => exact fun b hb => (List.mem_append.mp hb).elim (reads_lt k _ _ h1 b) (reads_ltK kvs _ _ h2 b)
theorem reads_ltV {h : Heap} : ∀ (kvs : List (PyData × PyData)) (vs : List Value) (as : List Addr), ReadsAll h vs (kvs.map (·.2)) as → ∀ b ∈ as, b < h.objs.size
  | [], _, _, r => by cases r; exact fun _ z => nomatch z
  | (_, v) :: kvs, _, _, r => by
    cases r with
    | cons h1 h2 => exact fun b hb => (List.mem_append.mp hb).elim (reads_lt v _ _ h1 b) (reads_ltV kvs _ _ h2 b)
end
abbrev lstO (vs : List Value) : Obj := { cls := .type "list", data := .seq vs.toArray }
section
variable {prog : Program} {w : World} {A : Around} {E : Value → Shared → Prop} {s : Shared}
theorem sorted_tupH {l : Addr} {vs : List Value} {kw : List (Str × Value)} {Q : Value → Shared → Prop} (hl : s.heap.IsTuple l vs.toArray) (hL : vs.length ≤ sizeLine) (ha1 : argsOk "sorted" ⟨[.ref l], kw⟩)
    (h : ∀ h' : Heap, (∀ b o, s.heap.get? b = some o → h'.get? b = some o) → wpAny (model prog w) A.in1 (call (.builtin "list.sort") [.ref h'.objs.size] kw) (fun _ s' => Q (.ref h'.objs.size) s') E { s with heap := h'.push (lstO vs) }) :
    wpAny (model prog w) A (call (.builtin "sorted") [.ref l] kw) Q E s := by
  obtain ⟨o, ho, hc, n, hd⟩ := id hl
  refine call_function_entry_kw kind_sorted PyProof.Rows.plain_sorted entry_sorted ha1 ?_
  unfold Builtin.«sorted»
  refine wpAny_bind (m := checkCount "sorted" 1 1 _) (wpAny_pure ?_)
  refine wpAny_bind (wpAny_collect_seq (A := A.in1) l (.inr rfl) ho hc hd (fun h' hk => ?_) (by rw [List.size_toArray]; exact hL))
  refine wpAny_bind (wpAny_newList ?_ hL)
  have hg := h h' hk
  refine wpAny_bind (wpAny_holding (wpAny_mono hg (fun _ s' x => ?_) fun _ _ e => e))
  exact wpAny_pure ⟨_, rfl, x⟩
end
def rSortT (K : PySem.W.Frag) : List V → Hp → VK → Prop := fun xs H Q => ∃ (G : Hp) (a : Addr) (ys : List V) (ds : List PyData), Same G H ∧ xs = [.ref a] ∧ SqT K H a ys ∧ Dds K G ys ds ∧ sortsB ds = true ∧ ∀ (p : Addr) (zs : List V), H p = none → Dds K G zs (srt ds) → Q (.ref p) (upd H p (.lst zs))
section
variable {X : Cx}
theorem call_sortT (hu : X.A.units + 64 < cLine) : CallR X (.builtin "sorted") (rSortT X.K) := by
  intro pins s σ H xs us Q I r h
  obtain ⟨G, a, ys, ds, g, rfl, hs, hd, hb, q⟩ := h
  obtain ⟨its, rv, hl, hz⟩ := I.tuple hs
  rw [Vals.ref1 r]
  obtain ⟨h1, h2, h3, h4⟩ := sorts_of hb
  have hlen : ds.length = its.length := by rw [← Dds.length_ hd, rv.length]
  have hds : ds.length ≤ sizeLine := Nat.le_trans h4 (by decide)
  refine sorted_tupH hl (by omega) (args_sorted1 _) fun h' hk => ?_
  have I1 : Inv X pins σ H { s with heap := h' } := I.kept (t' := s.toks) hk
  have hob : (h'.push (lstO its)).get? h'.objs.size = some (seqObj "list" its.toArray 0) := Heap.get?_push_size _ rfl
  have kb : ∀ b o, h'.get? b = some o → (h'.push (lstO its)).get? b = some o := fun b o e => Heap.get?_push_of_some _ e
  have rd : ∀ v u d, RelV v u → Dd X.K G v d → ∃ as, Reads (h'.push (lstO its)) u d as ∧ h'.objs.size ∉ as := fun v u d r1 r2 => by
    obtain ⟨as, z, _⟩ := dd_say I1 d v u (Dd.up g _ _ r2) r1
    exact ⟨as, PyProof.Rows.Reads.keeps kb z, fun hm => Nat.lt_irrefl _ (reads_lt d u as z _ hm)⟩
  refine PySem.W.list_sort_data (s := { s with heap := h'.push (lstO its) }) (A := X.A.in1) (enc := id) (R := fun u d => ∃ v, RelV v u ∧ Dd X.K G v d) hob (each_self rv hd fun v u d r1 r2 => ⟨v, r1, r2⟩)
    (each_self rv hd fun v u d r1 r2 => rd v u d r1 r2) (by rw [List.map_id]; exact h1) (by rw [List.map_id]; exact h2) hds (fun b hb => by have := h3 b hb; show X.A.units + 1 + 1 + b.depth < cLine; omega) fun out hol ho => ?_
  obtain ⟨zs, k1, k2⟩ := each_back ho
  obtain ⟨ep, he'⟩ := PyProof.Rows.sortedHeap_at (vs := its) (out := out.toArray) hob
  have hz' : zs.length ≤ sizeLine := by
    rw [k1.length, hol]
    exact hds
  have keep : ∀ b o, h'.get? b = some o → (PyProof.Rows.sortedHeap (h'.push (lstO its)) h'.objs.size its out.toArray).get? b = some o := fun b o e =>
    (PyProof.Rows.sortedHeap_old (Nat.ne_of_lt (Heap.lt_size e)) (Heap.lt_size (kb b o e))).trans (kb b o e)
  exact ⟨.ref _, upd H h'.objs.size (.lst zs), I1.laid (t' := s.toks) keep (Nat.le_refl _) ⟨hz', out, ep, k1, he'⟩, rfl, q _ _ (I1.hok.fresh (Nat.le_refl _)) k2⟩
end
noncomputable def gSortedT : List PyData → Option PyData
  | [.tuple ds] => if sortsB ds = true then some (.list (srt ds)) else none
  | _ => none
theorem sc_sortT {K : PySem.W.Frag} : SC K (rSortT K) gSortedT := by
  intro G H xs ds z g r e Q q
  unfold gSortedT at e
  split at e
  · split at e
    · rename_i hb
      cases e
      obtain ⟨x, rfl, rk⟩ := r.one
      obtain ⟨a, ys, rfl, h1, h2, _⟩ := rk.tup g
      refine ⟨G, a, ys, _, g, rfl, h1, h2, hb, fun p zs hp hd => new_lst g hd q hp⟩
    · cases e
  · cases e
end Dl

set_option Elab.async false
set_option linter.all false
set_option maxRecDepth 100000
set_option maxHeartbeats 4000000
namespace Gs
open PySem PySem.Spec PyProof.Rows L2 Pg Dl
abbrev nPTicketsWith : List Str := ["forest", "page", "found", "index", "ticket"]
noncomputable def gPTicketsWith_1 (tabP : Addr) : SF :=
    (sAsg (eComp (iEnumD (aCons (eVar 0) aNil)) (tTp 2 (tsCons (tNm 3) (tsCons (tNm 4) tsNil))) (bVal (eOp (gIn false) (eVar 1) (eOp gIx (eVar 4) (eC (.int 0))))) (eVar 3) [3, 4]) (tNm 2))
noncomputable def gPTicketsWith_2 (tabP : Addr) : SF :=
    (sRet (eTupN (eSortK tabP "tickets_with.<locals>.<lambda>" (some 0) ⟨true, true, (.at (.ix .c .x) 0)⟩ (eVar 2))))
noncomputable def gPTicketsWith (tabP : Addr) : SF :=
    (sSeq (gPTicketsWith_1 tabP) (gPTicketsWith_2 tabP))
noncomputable def fPTicketsWith (tabP : Addr) : FF := FnOf nPTicketsWith (gPTicketsWith tabP)
abbrev nPHasPage : List Str := ["forest", "page"]
noncomputable def gPHasPage (F_PTicketsWith : FF) : SF :=
    (sRet (eOp (gCm fun d e => PySem.W.dataLt e d) (eCB gLen (aCons (eD (eCall 2 F_PTicketsWith (aCons (eVar 0) (aCons (eVar 1) aNil)))) aNil)) (eC (.int 0))))
noncomputable def fPHasPage (F_PTicketsWith : FF) : FF := FnOf nPHasPage (gPHasPage F_PTicketsWith)
abbrev nPLets : List Str := ["forest", "page", "numbers", "lot", "number"]
noncomputable def gPLets_1 : SF :=
    (sAsg (eComp (iData (eVar 0)) (tTp 2 (tsCons (tNm 3) (tsCons (tNm 4) tsNil))) (bVal (eOp (gIn false) (eVar 1) (eVar 3))) (eVar 4) [3, 4]) (tNm 2))
noncomputable def gPLets_2 : SF :=
    (sRet (eAnd (eOp (gCm fun d e => PySem.W.dataLt e d) (eCB gLen (aCons (eVar 2) aNil)) (eC (.int 0))) (eOp (gCm fun d e => PySem.W.dataLt e d) (eCB gMin (aCons (eVar 2) aNil)) (eC (.int 0)))))
noncomputable def gPLets : SF :=
    (sSeq (gPLets_1) (gPLets_2))
noncomputable def fPLets : FF := FnOf nPLets (gPLets)
abbrev nPSpent : List Str := ["forest", "page", "lot", "number"]
noncomputable def gPSpent : SF :=
    (sRet (eCB gTupleOf (aCons (eComp (iData (eVar 0)) (tTp 2 (tsCons (tNm 2) (tsCons (tNm 3) tsNil))) bYes (eTup (aCons (eVar 2) (aCons (eIf (bVal (eOp (gIn false) (eVar 1) (eVar 2))) (eOp Dl.gSub (eVar 3) (eC (.int 1))) (eVar 3)) aNil))) [2, 3]) aNil)))
noncomputable def fPSpent : FF := FnOf nPSpent (gPSpent)
abbrev nPIsLetRow : List Str := ["forest", "row", "left", "page"]
noncomputable def gPIsLetRow_1 (F_PSpent : FF) (F_PLets : FF) : SF :=
    (sAsg (eVar 0) (tNm 2))
noncomputable def gPIsLetRow_2 (F_PSpent : FF) (F_PLets : FF) : SF :=
    (sFor (iData (eVar 1)) (tNm 3)
    (sSeq (sIf (bNot (bTru (eCall 2 F_PLets (aCons (eVar 2) (aCons (eVar 3) aNil)))))
    (sRet (eC (.bool false)))
    sNext)
    (sAsg (eCall 2 F_PSpent (aCons (eVar 2) (aCons (eVar 3) aNil))) (tNm 2))))
noncomputable def gPIsLetRow_3 (F_PSpent : FF) (F_PLets : FF) : SF :=
    (sRet (eC (.bool true)))
noncomputable def gPIsLetRow (F_PSpent : FF) (F_PLets : FF) : SF :=
    (sSeq (gPIsLetRow_1 F_PSpent F_PLets) (sSeq (gPIsLetRow_2 F_PSpent F_PLets) (gPIsLetRow_3 F_PSpent F_PLets)))
noncomputable def fPIsLetRow (F_PSpent : FF) (F_PLets : FF) : FF := FnOf nPIsLetRow (gPIsLetRow F_PSpent F_PLets)
abbrev nPCountsOf : List Str := ["row", "many_of", "page"]
noncomputable def gPCountsOf_1 : SF :=
    (sAsg eDNewK (tNm 1))
noncomputable def gPCountsOf_2 : SF :=
    (sFor (iData (eVar 0)) (tNm 2)
    (sAsg (eOp gAdd (eGet2 (eVar 1) (eVar 2) (eC (.int 0))) (eC (.int 1))) (tPutK (eVar 1) (eVar 2))))
noncomputable def gPCountsOf_3 : SF :=
    (sRet (eCB gTupleOf (aCons (eComp (iData (eSortDI (eVar 1))) (tNm 2) bYes (eTup (aCons (eVar 2) (aCons (eDix (eVar 1) (eVar 2)) aNil))) [2]) aNil)))
noncomputable def gPCountsOf : SF :=
    (sSeq (gPCountsOf_1) (sSeq (gPCountsOf_2) (gPCountsOf_3)))
noncomputable def fPCountsOf : FF := FnCut nPCountsOf (gPCountsOf)
abbrev nPCountIn : List Str := ["lot", "counts", "page", "many"]
noncomputable def gPCountIn : SF :=
    (sRet (eCB gSum (aCons (eComp (iData (eVar 1)) (tTp 2 (tsCons (tNm 2) (tsCons (tNm 3) tsNil))) (bVal (eOp (gIn false) (eVar 2) (eVar 0))) (eVar 3) [2, 3]) aNil)))
noncomputable def fPCountIn : FF := FnOf nPCountIn (gPCountIn)
abbrev nPLetsCounts : List Str := ["forest", "counts", "lot", "number", "page", "_"]
noncomputable def gPLetsCounts_1 (F_PHasPage : FF) (F_PCountIn : FF) : SF :=
    (sIf (bNot (bTru (eCB gAll (aCons (eComp (iData (eVar 1)) (tTp 2 (tsCons (tNm 4) (tsCons (tNm 5) tsNil))) bYes (eCall 2 F_PHasPage (aCons (eVar 0) (aCons (eVar 4) aNil))) [4, 5]) aNil))))
    (sRet (eC (.bool false)))
    sNext)
noncomputable def gPLetsCounts_2 (F_PHasPage : FF) (F_PCountIn : FF) : SF :=
    (sRet (eCB gAll (aCons (eComp (iData (eVar 0)) (tTp 2 (tsCons (tNm 2) (tsCons (tNm 3) tsNil))) bYes (eOp (gCm fun d e => !PySem.W.dataLt e d) (eCall 2 F_PCountIn (aCons (eVar 2) (aCons (eVar 1) aNil))) (eVar 3)) [2, 3]) aNil)))
noncomputable def gPLetsCounts (F_PHasPage : FF) (F_PCountIn : FF) : SF :=
    (sSeq (gPLetsCounts_1 F_PHasPage F_PCountIn) (gPLetsCounts_2 F_PHasPage F_PCountIn))
noncomputable def fPLetsCounts (F_PHasPage : FF) (F_PCountIn : FF) : FF := FnOf nPLetsCounts (gPLetsCounts F_PHasPage F_PCountIn)
abbrev nPSpentCounts : List Str := ["forest", "counts", "lot", "number"]
noncomputable def gPSpentCounts (F_PCountIn : FF) : SF :=
    (sRet (eCB gTupleOf (aCons (eComp (iData (eVar 0)) (tTp 2 (tsCons (tNm 2) (tsCons (tNm 3) tsNil))) bYes (eTup (aCons (eVar 2) (aCons (eOp Dl.gSub (eVar 3) (eCall 2 F_PCountIn (aCons (eVar 2) (aCons (eVar 1) aNil)))) aNil))) [2, 3]) aNil)))
noncomputable def fPSpentCounts (F_PCountIn : FF) : FF := FnOf nPSpentCounts (gPSpentCounts F_PCountIn)
abbrev nBag : List Str := ["_law_script", "_law_cell"]
noncomputable def gBag : SF :=
    (sRet (eLstN (aCons (eC (.int 0)) (aCons (eC (.int 1234567891)) (aCons (eC (.int 0)) (aCons (eComp (iData (eSl (eVar 0) oNo (oSome (eC (.int 63))))) (tNm 1) bYes (eCB gAbs (aCons (eVar 1) aNil)) [1]) aNil))))))
noncomputable def fBag : FF := FnOf nBag (gBag)
abbrev nTake : List Str := ["_law_bag_here", "_law_many", "_law_begin", "_law_second", "_law_cell", "_law_stirred", "_law_value"]
noncomputable def gTake_1 : SF :=
    (sIf (bVal (eOp gEq (eIxC (eVar 0) (eC (.int 0))) (eC (.int 0))))
    (sSeq (sAsg (eOp gIx (eOp gAdd (eSl (eIxC (eVar 0) (eC (.int 3))) (oSome (eIxC (eVar 0) (eC (.int 2)))) oNo) (eLst (aCons (eC (.int 0)) aNil))) (eC (.int 0))) (tNm 4))
    (sSeq (sAugI (fun i j => i + j) (eVar 0) (eC (.int 2)) (eC (.int 1)))
    (sSeq (sIf (bVal (eOp (gCm fun d e => !PySem.W.dataLt d e) (eVar 4) (eOp gPow (eC (.int 10)) (eC (.int 18)))))
    (sAsg (eVar 4) (tPut (eVar 0) (eC (.int 0))))
    sNext)
    (sSeq (sAsg (eOp gAdd (eOp gAdd (eOp gMulD (eIxC (eVar 0) (eC (.int 1))) (eC (.int 48271))) (eOp gMod (eCB gInt (aCons (eVar 4) aNil)) (eC (.int 2147483647)))) (eOp gMulD (eC (.int 7919)) (eIxC (eVar 0) (eC (.int 2))))) (tNm 5))
    (sAsg (eOp gMod (eCB gInt (aCons (eVar 5) aNil)) (eC (.int 2147483647))) (tPut (eVar 0) (eC (.int 1))))))))
    sNext)
noncomputable def gTake_2 : SF :=
    (sIf (bVal (eOp (gCm fun d e => PySem.W.dataLt e d) (eIxC (eVar 0) (eC (.int 0))) (eC (.int 0))))
    (sSeq (sAsg (eOp gMod (eCB gInt (aCons (eIxC (eVar 0) (eC (.int 0))) aNil)) (eVar 1)) (tNm 6))
    (sSeq (sAsg (eOp gDiv (eCB gInt (aCons (eIxC (eVar 0) (eC (.int 0))) aNil)) (eVar 1)) (tPut (eVar 0) (eC (.int 0))))
    (sRet (eVar 6))))
    sNext)
noncomputable def gTake_3 : SF :=
    (sAsg (eOp gMod (eCB gInt (aCons (eOp gMulD (eOp gAdd (eIxC (eVar 0) (eC (.int 1))) (eC (.int 1))) (eC (.int 39373))) aNil)) (eC (.int 1000000007))) (tNm 2))
noncomputable def gTake_4 : SF :=
    (sAsg (eOp gMod (eCB gInt (aCons (eOp gMulD (eOp gMod (eCB gInt (aCons (eOp gMulD (eVar 2) (eVar 2)) aNil)) (eC (.int 998244353))) (eC (.int 30011))) aNil)) (eC (.int 998244353))) (tNm 3))
noncomputable def gTake_5 : SF :=
    (sRet (eOp gMod (eCB gInt (aCons (eOp gDiv (eVar 3) (eC (.int 7))) aNil)) (eVar 1)))
noncomputable def gTake : SF :=
    (sSeq (gTake_1) (sSeq (gTake_2) (sSeq (gTake_3) (sSeq (gTake_4) (gTake_5)))))
noncomputable def fTake : FF := FnOf nTake (gTake)
abbrev nSome : List Str := ["_law_bag_here", "_law_things"]
noncomputable def gSome (F_Take : FF) : SF :=
    (sRet (eOp gIx (eVar 1) (eCall 2 F_Take (aCons (eVar 0) (aCons (eCB gLen (aCons (eVar 1) aNil)) aNil)))))
noncomputable def fSome (F_Take : FF) : FF := FnOf nSome (gSome F_Take)
abbrev nMixed : List Str := ["_law_bag_here", "_law_things", "_law_found", "_law_thing"]
noncomputable def gMixed_1 (F_Take : FF) : SF :=
    (sAsg (eLstN aNil) (tNm 2))
noncomputable def gMixed_2 (F_Take : FF) : SF :=
    (sFor (iData (eVar 1)) (tNm 3)
    (sDrop (eIns (eVar 2) (eCall 2 F_Take (aCons (eVar 0) (aCons (eOp gAdd (eCB gLen (aCons (eVar 2) aNil)) (eC (.int 1))) aNil))) (eVar 3))))
noncomputable def gMixed_3 (F_Take : FF) : SF :=
    (sRet (eFz (eVar 2)))
noncomputable def gMixed (F_Take : FF) : SF :=
    (sSeq (gMixed_1 F_Take) (sSeq (gMixed_2 F_Take) (gMixed_3 F_Take)))
noncomputable def fMixed (F_Take : FF) : FF := FnCut nMixed (gMixed F_Take)
abbrev nAlike : List Str := ["_law_found", "_law_due"]
noncomputable def gAlike : SF :=
    (sRet (eAnd (eOp gEq (eVar 0) (eVar 1)) (eOp gEq (eCB gRepr (aCons (eVar 0) aNil)) (eCB gRepr (aCons (eVar 1) aNil)))))
noncomputable def fAlike : FF := FnOf nAlike (gAlike)
abbrev nPages : List Str := ["_law_bag_here", "_law_many", "_law_first", "_law_step", "_law_k"]
noncomputable def gPages_1 (F_Some : FF) : SF :=
    (sAsgT (aCons (eCall 2 F_Some (aCons (eVar 0) (aCons (eLst (aCons (eC (.int 0)) (aCons (eC (.int 0)) (aCons (eC (.int 1)) (aCons (eC (.int 3)) (aCons (eC (.int 40)) aNil)))))) aNil))) (aCons (eCall 2 F_Some (aCons (eVar 0) (aCons (eLst (aCons (eC (.int 1)) (aCons (eC (.int 1)) (aCons (eC (.int 1)) (aCons (eC (.int 2)) (aCons (eC (.int 7)) aNil)))))) aNil))) aNil)) 2 (tsCons (tNm 2) (tsCons (tNm 3) tsNil)))
noncomputable def gPages_2 (F_Some : FF) : SF :=
    (sRet (eComp (iRange1 (aCons (eVar 1) aNil)) (tNm 4) bYes (eOp gAdd (eVar 2) (eOp gMulD (eVar 3) (eVar 4))) [4]))
noncomputable def gPages (F_Some : FF) : SF :=
    (sSeq (gPages_1 F_Some) (gPages_2 F_Some))
noncomputable def fPages (F_Some : FF) : FF := FnOf nPages (gPages F_Some)
abbrev nTicketNumber : List Str := ["_law_bag_here", "_law_inner", "_law_way"]
noncomputable def gTicketNumber_1 (F_Take : FF) (F_Some : FF) : SF :=
    (sAsg (eCall 2 F_Take (aCons (eVar 0) (aCons (eC (.int 8)) aNil))) (tNm 2))
noncomputable def gTicketNumber_2 (F_Take : FF) (F_Some : FF) : SF :=
    (sIf (bVal (eOp (gCm PySem.W.dataLt) (eVar 2) (eC (.int 3))))
    (sRet (eCall 2 F_Take (aCons (eVar 0) (aCons (eC (.int 4)) aNil))))
    sNext)
noncomputable def gTicketNumber_3 (F_Take : FF) (F_Some : FF) : SF :=
    (sIf (bVal (eOp (gCm PySem.W.dataLt) (eVar 2) (eC (.int 6))))
    (sRet (eCB gMax2 (aCons (eC (.int 0)) (aCons (eCB gMin2 (aCons (eC (.int 999999999)) (aCons (eOp Dl.gSub (eOp gAdd (eVar 1) (eCall 2 F_Take (aCons (eVar 0) (aCons (eC (.int 3)) aNil)))) (eC (.int 1))) aNil))) aNil))))
    sNext)
noncomputable def gTicketNumber_4 (F_Take : FF) (F_Some : FF) : SF :=
    (sRet (eCall 2 F_Some (aCons (eVar 0) (aCons (eLst (aCons (eC (.int 0)) (aCons (eC (.int 1)) (aCons (eC (.int 999999999)) (aCons (eOp Dl.gSub (eC (.int 999999998)) (eCall 2 F_Take (aCons (eVar 0) (aCons (eC (.int 1000)) aNil)))) (aCons (eCall 2 F_Take (aCons (eVar 0) (aCons (eC (.int 1000000000)) aNil))) aNil)))))) aNil))))
noncomputable def gTicketNumber (F_Take : FF) (F_Some : FF) : SF :=
    (sSeq (gTicketNumber_1 F_Take F_Some) (sSeq (gTicketNumber_2 F_Take F_Some) (sSeq (gTicketNumber_3 F_Take F_Some) (gTicketNumber_4 F_Take F_Some))))
noncomputable def fTicketNumber (F_Take : FF) (F_Some : FF) : FF := FnOf nTicketNumber (gTicketNumber F_Take F_Some)
abbrev nForest : List Str := ["_law_bag_here", "_law_pages_here", "_law_limit", "_law_small", "_law_turn", "_law_tops", "_law_found", "_law_first", "_law_many", "_law_number", "_law_page", "_law_lot", "_law_inner", "_law_pages_there"]
noncomputable def gForest_1 (F_Mixed : FF) (F_Take : FF) (F_TicketNumber : FF) (F_Some : FF) : SF :=
    (sPar 5 6 (aCons (eComp (iData (eCall 2 F_Mixed (aCons (eVar 0) (aCons (eVar 1) aNil)))) (tNm 10) bYes (eTup (aCons (eTup (aCons (eVar 10) aNil)) (aCons (eC (.int 0)) aNil))) [10]) (aCons eDNewT aNil)))
noncomputable def gForest_2 (F_Mixed : FF) (F_Take : FF) (F_TicketNumber : FF) (F_Some : FF) : SF :=
    (sFor (iRange1 (aCons (eCall 2 F_Take (aCons (eVar 0) (aCons (eOp gAdd (eVar 2) (eC (.int 1))) aNil))) aNil)) (tNm 4)
    (sIf (bVal (eOp gNe (eVar 5) (eLst aNil)))
    (sSeq (sAsg (eCall 2 F_Take (aCons (eVar 0) (aCons (eCB gLen (aCons (eVar 5) aNil)) aNil))) (tNm 7))
    (sSeq (sAsg (eOp gAdd (eSl (eVar 5) (oSome (eVar 7)) oNo) (eSl (eVar 5) oNo (oSome (eVar 7)))) (tNm 5))
    (sSeq (sAsg (eCB gMin2 (aCons (eCB gLen (aCons (eVar 5) aNil)) (aCons (eCall 2 F_Some (aCons (eVar 0) (aCons (eLst (aCons (eC (.int 1)) (aCons (eC (.int 2)) (aCons (eC (.int 1)) (aCons (eC (.int 2)) (aCons (eC (.int 3)) (aCons (eCB gLen (aCons (eVar 5) aNil)) aNil))))))) aNil))) aNil))) (tNm 8))
    (sSeq (sPar 11 12 (aCons (eLstN aNil) (aCons (eC (.int 0)) aNil)))
    (sSeq (sFor (iData (eSl (eVar 5) oNo (oSome (eVar 8)))) (tTp 2 (tsCons (tNm 13) (tsCons (tNm 9) tsNil)))
    (sSeq (sDrop (eExtL (eVar 11) (eVar 13)))
    (sAug 12 gAddI (eVar 9))))
    (sSeq (sAsg (eIf (bTru (eVar 3)) (eCall 2 F_Take (aCons (eVar 0) (aCons (eC (.int 4)) aNil))) (eCall 2 F_TicketNumber (aCons (eVar 0) (aCons (eVar 12) aNil)))) (tNm 9))
    (sSeq (sAsg (eVar 9) (tPutT (eVar 6) (eCB gSorted (aCons (eVar 11) aNil))))
    (sAsg (eOp gAdd (eSl (eVar 5) (oSome (eVar 8)) oNo) (eLst (aCons (eTup (aCons (eCB gTupleOf (aCons (eVar 11) aNil)) (aCons (eVar 9) aNil))) aNil))) (tNm 5)))))))))
    sNext))
noncomputable def gForest_3 (F_Mixed : FF) (F_Take : FF) (F_TicketNumber : FF) (F_Some : FF) : SF :=
    (sRet (eCB gTupleOf (aCons (eSortI (eVar 6)) aNil)))
noncomputable def gForest (F_Mixed : FF) (F_Take : FF) (F_TicketNumber : FF) (F_Some : FF) : SF :=
    (sSeq (gForest_1 F_Mixed F_Take F_TicketNumber F_Some) (sSeq (gForest_2 F_Mixed F_Take F_TicketNumber F_Some) (gForest_3 F_Mixed F_Take F_TicketNumber F_Some)))
noncomputable def fForest (F_Mixed : FF) (F_Take : FF) (F_TicketNumber : FF) (F_Some : FF) : FF := FnCut nForest (gForest F_Mixed F_Take F_TicketNumber F_Some)
abbrev nHas : List Str := ["_law_forest_here", "_law_page", "_law_one"]
noncomputable def gHas : SF :=
    (sRet (eOp gNe (eComp (iData (eVar 0)) (tNm 2) (bVal (eOp (gIn false) (eVar 1) (eOp gIx (eVar 2) (eC (.int 0))))) (eVar 2) [2]) (eLst aNil)))
noncomputable def fHas : FF := FnOf nHas (gHas)
end Gs

set_option Elab.async false
set_option linter.all false
set_option maxRecDepth 100000
set_option maxHeartbeats 4000000
namespace D06
open PySem PySem.Spec PyProof.Rows L2 Pg Dl Gs
abbrev nPAroundAt : List Str := ["forest", "index", "row", "at"]
noncomputable def gPAroundAt_1 (F_PTicketsWith : FF) : SF :=
    (sAsg (eCall 2 F_PTicketsWith (aCons (eVar 0) (aCons (eOp gIx (eOp gIx (eOp gIx (eVar 0) (eVar 1)) (eC (.int 0))) (eC (.int 0))) aNil))) (tNm 2))
noncomputable def gPAroundAt_2 (F_PTicketsWith : FF) : SF :=
    (sAsg (eIdxT (eVar 2) (eVar 1)) (tNm 3))
noncomputable def gPAroundAt_3 (F_PTicketsWith : FF) : SF :=
    (sRet (eIf (bVal (eOp gEq (eVar 3) (eC (.int 0)))) (eC .none) (eOp gIx (eD (eVar 2)) (eOp Dl.gSub (eVar 3) (eC (.int 1))))))
noncomputable def gPAroundAt (F_PTicketsWith : FF) : SF :=
    (sSeq (gPAroundAt_1 F_PTicketsWith) (sSeq (gPAroundAt_2 F_PTicketsWith) (gPAroundAt_3 F_PTicketsWith)))
noncomputable def fPAroundAt (F_PTicketsWith : FF) : FF := FnOf nPAroundAt (gPAroundAt F_PTicketsWith)
abbrev nPArounds : List Str := ["forest", "index"]
noncomputable def gPArounds (F_PAroundAt : FF) : SF :=
    (sRet (eCB gTupleOf (aCons (eComp (iRange1 (aCons (eCB gLen (aCons (eVar 0) aNil)) aNil)) (tNm 1) bYes (eCall 2 F_PAroundAt (aCons (eVar 0) (aCons (eVar 1) aNil))) [1]) aNil)))
noncomputable def fPArounds (F_PAroundAt : FF) : FF := FnOf nPArounds (gPArounds F_PAroundAt)
abbrev nPLessened : List Str := ["forest", "lot", "number", "ticket"]
noncomputable def gPLessened : SF :=
    (sRet (eCB gTupleOf (aCons (eComp (iData (eVar 0)) (tNm 3) bYes (eIf (bVal (eOp gEq (eOp gIx (eVar 3) (eC (.int 0))) (eVar 1))) (eTup (aCons (eVar 1) (aCons (eVar 2) aNil))) (eVar 3)) [3]) aNil)))
noncomputable def fPLessened : FF := FnOf nPLessened (gPLessened)
abbrev nWithDue : List Str := ["_law_forest_here", "_law_page", "_law_found", "_law_k", "_law_one"]
noncomputable def gWithDue_1 : SF :=
    (sAsg (eComp (iEnumD (aCons (eVar 0) aNil)) (tTp 2 (tsCons (tNm 3) (tsCons (tNm 4) tsNil))) (bVal (eOp (gIn false) (eVar 1) (eOp gIx (eVar 4) (eC (.int 0))))) (eTup (aCons (eOp Dl.gSub (eC (.int 0)) (eCB gLen (aCons (eOp gIx (eVar 4) (eC (.int 0))) aNil))) (aCons (eVar 3) aNil))) [3, 4]) (tNm 2))
noncomputable def gWithDue_2 : SF :=
    (sRet (eCB gTupleOf (aCons (eComp (iData (eCB gSorted (aCons (eVar 2) aNil))) (tNm 4) bYes (eOp gIx (eVar 4) (eC (.int 1))) [4]) aNil)))
noncomputable def gWithDue : SF :=
    (sSeq (gWithDue_1) (gWithDue_2))
noncomputable def fWithDue : FF := FnOf nWithDue (gWithDue)
abbrev nAroundsDue : List Str := ["_law_forest_here", "_law_found", "_law_lot", "_law_number", "_law_outer", "_law_k", "_law_one"]
noncomputable def gAroundsDue_1 : SF :=
    (sAsg (eLstN aNil) (tNm 1))
noncomputable def gAroundsDue_2 : SF :=
    (sFor (iData (eVar 0)) (tTp 2 (tsCons (tNm 2) (tsCons (tNm 3) tsNil)))
    (sSeq (sAsg (eComp (iEnumD (aCons (eVar 0) aNil)) (tTp 2 (tsCons (tNm 5) (tsCons (tNm 6) tsNil))) (bAnd (bVal (eOp (gCm fun d e => PySem.W.dataLt e d) (eCB gLen (aCons (eOp gIx (eVar 6) (eC (.int 0))) aNil)) (eCB gLen (aCons (eVar 2) aNil)))) (bVal (eOp (gIn false) (eOp gIx (eVar 2) (eC (.int 0))) (eOp gIx (eVar 6) (eC (.int 0)))))) (eTup (aCons (eCB gLen (aCons (eOp gIx (eVar 6) (eC (.int 0))) aNil)) (aCons (eVar 5) aNil))) [5, 6]) (tNm 4))
    (sDrop (eApp (eVar 1) (eIf (bVal (eOp gNe (eVar 4) (eLst aNil))) (eOp gIx (eCB gMin (aCons (eVar 4) aNil)) (eC (.int 1))) (eC .none))))))
noncomputable def gAroundsDue_3 : SF :=
    (sRet (eCB gTupleOf (aCons (eVar 1) aNil)))
noncomputable def gAroundsDue : SF :=
    (sSeq (gAroundsDue_1) (sSeq (gAroundsDue_2) (gAroundsDue_3)))
noncomputable def fAroundsDue : FF := FnCut nAroundsDue (gAroundsDue)
abbrev nLetsDue : List Str := ["_law_forest_here", "_law_page", "_law_some_here", "_law_one"]
noncomputable def gLetsDue_1 : SF :=
    (sAsg (eComp (iData (eVar 0)) (tNm 3) (bVal (eOp (gIn false) (eVar 1) (eOp gIx (eVar 3) (eC (.int 0))))) (eOp gIx (eVar 3) (eC (.int 1))) [3]) (tNm 2))
noncomputable def gLetsDue_2 : SF :=
    (sRet (eAnd (eOp gNe (eVar 2) (eLst aNil)) (eOp (gIn true) (eC (.int 0)) (eVar 2))))
noncomputable def gLetsDue : SF :=
    (sSeq (gLetsDue_1) (gLetsDue_2))
noncomputable def fLetsDue : FF := FnOf nLetsDue (gLetsDue)
abbrev nSpentDue : List Str := ["_law_forest_here", "_law_page", "_law_one"]
noncomputable def gSpentDue : SF :=
    (sRet (eCB gTupleOf (aCons (eComp (iData (eVar 0)) (tNm 2) bYes (eTup (aCons (eOp gIx (eVar 2) (eC (.int 0))) (aCons (eOp Dl.gSub (eOp gIx (eVar 2) (eC (.int 1))) (eCB gInt (aCons (eOp (gIn false) (eVar 1) (eOp gIx (eVar 2) (eC (.int 0)))) aNil))) aNil))) [2]) aNil)))
noncomputable def fSpentDue : FF := FnOf nSpentDue (gSpentDue)
abbrev nPLaw : List Str := ["_law_script", "_law_bag_here", "_law_turn", "_law_pages_here", "_law_forest_here", "_law_step", "_law_page", "_law_free", "_law_due", "_law_at", "_law_number", "_law_lot"]
noncomputable def gPLaw_1 (F_Bag : FF) (F_Take : FF) (F_Alike : FF) (F_PLessened : FF) (F_Some : FF) (F_PSpent : FF) (F_SpentDue : FF) (F_LetsDue : FF) (F_PLets : FF) (F_Has : FF) (F_PHasPage : FF) (F_WithDue : FF) (F_PTicketsWith : FF) (F_AroundsDue : FF) (F_PArounds : FF) (F_Forest : FF) (F_Pages : FF) : SF :=
    (sAsg (eCall 1 F_Bag (aCons (eVar 0) aNil)) (tNm 1))
noncomputable def gPLaw_2 (F_Bag : FF) (F_Take : FF) (F_Alike : FF) (F_PLessened : FF) (F_Some : FF) (F_PSpent : FF) (F_SpentDue : FF) (F_LetsDue : FF) (F_PLets : FF) (F_Has : FF) (F_PHasPage : FF) (F_WithDue : FF) (F_PTicketsWith : FF) (F_AroundsDue : FF) (F_PArounds : FF) (F_Forest : FF) (F_Pages : FF) : SF :=
    (sFor (iRange1 (aCons (eC (.int 8)) aNil)) (tNm 2)
    (sSeq (sAsg (eCall 2 F_Pages (aCons (eVar 1) (aCons (eCall 2 F_Some (aCons (eVar 1) (aCons (eLst (aCons (eC (.int 1)) (aCons (eC (.int 2)) (aCons (eC (.int 3)) (aCons (eC (.int 4)) (aCons (eC (.int 6)) (aCons (eC (.int 12)) aNil))))))) aNil))) aNil))) (tNm 3))
    (sSeq (sAsg (eCall 4 F_Forest (aCons (eVar 1) (aCons (eVar 3) (aCons (eC (.int 10)) (aCons (eOp gEq (eCall 2 F_Take (aCons (eVar 1) (aCons (eC (.int 3)) aNil))) (eC (.int 0))) aNil))))) (tNm 4))
    (sSeq (sIf (bNot (bTru (eCall 2 F_Alike (aCons (eCall 1 F_PArounds (aCons (eVar 4) aNil)) (aCons (eCall 1 F_AroundsDue (aCons (eVar 4) aNil)) aNil)))))
    (sRet (eC (.bool false)))
    sNext)
    (sFor (iRange1 (aCons (eC (.int 6)) aNil)) (tNm 5)
    (sSeq (sFor (iData (eOp gAdd (eVar 3) (eLst (aCons (eOp gAdd (eOp gIx (eVar 3) (eNeg (eC (.int 1)))) (eC (.int 1))) (aCons (eC (.int 998)) aNil))))) (tNm 6)
    (sSeq (sIf (bNot (bTru (eCall 2 F_Alike (aCons (eD (eCall 2 F_PTicketsWith (aCons (eVar 4) (aCons (eVar 6) aNil)))) (aCons (eCall 2 F_WithDue (aCons (eVar 4) (aCons (eVar 6) aNil))) aNil)))))
    (sRet (eC (.bool false)))
    sNext)
    (sSeq (sIf (bNot (bTru (eCall 2 F_Alike (aCons (eCall 2 F_PHasPage (aCons (eVar 4) (aCons (eVar 6) aNil))) (aCons (eCall 2 F_Has (aCons (eVar 4) (aCons (eVar 6) aNil))) aNil)))))
    (sRet (eC (.bool false)))
    sNext)
    (sIf (bNot (bTru (eCall 2 F_Alike (aCons (eCall 2 F_PLets (aCons (eVar 4) (aCons (eVar 6) aNil))) (aCons (eCall 2 F_LetsDue (aCons (eVar 4) (aCons (eVar 6) aNil))) aNil)))))
    (sRet (eC (.bool false)))
    sNext))))
    (sSeq (sAsg (eComp (iData (eVar 3)) (tNm 6) (bTru (eCall 2 F_LetsDue (aCons (eVar 4) (aCons (eVar 6) aNil)))) (eVar 6) [6]) (tNm 7))
    (sSeq (sIf (bVal (eOp gNe (eVar 7) (eLst aNil)))
    (sSeq (sAsg (eCall 2 F_Some (aCons (eVar 1) (aCons (eVar 7) aNil))) (tNm 6))
    (sSeq (sAsg (eCall 2 F_SpentDue (aCons (eVar 4) (aCons (eVar 6) aNil))) (tNm 8))
    (sSeq (sIf (bOr (bNot (bTru (eCall 2 F_Alike (aCons (eCall 2 F_PSpent (aCons (eVar 4) (aCons (eVar 6) aNil))) (aCons (eVar 8) aNil))))) (bNot (bTru (eCall 2 F_Alike (aCons (eCall 2 F_PSpent (aCons (eVar 4) (aCons (eVar 6) aNil))) (aCons (eVar 8) aNil))))))
    (sRet (eC (.bool false)))
    sNext)
    (sAsg (eVar 8) (tNm 4)))))
    sNext)
    (sIf (bAnd (bVal (eOp gNe (eVar 4) (eTup aNil))) (bVal (eOp gEq (eCall 2 F_Take (aCons (eVar 1) (aCons (eC (.int 3)) aNil))) (eC (.int 0)))))
    (sSeq (sAsg (eCall 2 F_Take (aCons (eVar 1) (aCons (eCB gLen (aCons (eVar 4) aNil)) aNil))) (tNm 9))
    (sSeq (sAsg (eOp gIx (eVar 4) (eVar 9)) (tTp 2 (tsCons (tNm 11) (tsCons (tNm 10) tsNil))))
    (sSeq (sAsg (eCall 2 F_Some (aCons (eVar 1) (aCons (eLst (aCons (eC (.int 0)) (aCons (eVar 10) (aCons (eOp gDiv (eVar 10) (eC (.int 2))) (aCons (eCB gMin2 (aCons (eC (.int 999999999)) (aCons (eOp gAdd (eVar 10) (eC (.int 1))) aNil))) (aCons (eC (.int 999999999)) aNil)))))) aNil))) (tNm 10))
    (sSeq (sAsg (eOp gAdd (eOp gAdd (eSl (eVar 4) oNo (oSome (eVar 9))) (eTup (aCons (eTup (aCons (eVar 11) (aCons (eVar 10) aNil))) aNil))) (eSl (eVar 4) (oSome (eOp gAdd (eVar 9) (eC (.int 1)))) oNo)) (tNm 8))
    (sSeq (sIf (bNot (bTru (eCall 2 F_Alike (aCons (eCall 3 F_PLessened (aCons (eVar 4) (aCons (eVar 11) (aCons (eVar 10) aNil)))) (aCons (eVar 8) aNil)))))
    (sRet (eC (.bool false)))
    sNext)
    (sAsg (eIf (bVal (eOp gEq (eCall 2 F_Take (aCons (eVar 1) (aCons (eC (.int 2)) aNil))) (eC (.int 0)))) (eVar 8) (eVar 4)) (tNm 4)))))))
    sNext)))))))))
noncomputable def gPLaw_3 (F_Bag : FF) (F_Take : FF) (F_Alike : FF) (F_PLessened : FF) (F_Some : FF) (F_PSpent : FF) (F_SpentDue : FF) (F_LetsDue : FF) (F_PLets : FF) (F_Has : FF) (F_PHasPage : FF) (F_WithDue : FF) (F_PTicketsWith : FF) (F_AroundsDue : FF) (F_PArounds : FF) (F_Forest : FF) (F_Pages : FF) : SF :=
    (sRet (eC (.bool true)))
noncomputable def gPLaw (F_Bag : FF) (F_Take : FF) (F_Alike : FF) (F_PLessened : FF) (F_Some : FF) (F_PSpent : FF) (F_SpentDue : FF) (F_LetsDue : FF) (F_PLets : FF) (F_Has : FF) (F_PHasPage : FF) (F_WithDue : FF) (F_PTicketsWith : FF) (F_AroundsDue : FF) (F_PArounds : FF) (F_Forest : FF) (F_Pages : FF) : SF :=
    (sSeq (gPLaw_1 F_Bag F_Take F_Alike F_PLessened F_Some F_PSpent F_SpentDue F_LetsDue F_PLets F_Has F_PHasPage F_WithDue F_PTicketsWith F_AroundsDue F_PArounds F_Forest F_Pages) (sSeq (gPLaw_2 F_Bag F_Take F_Alike F_PLessened F_Some F_PSpent F_SpentDue F_LetsDue F_PLets F_Has F_PHasPage F_WithDue F_PTicketsWith F_AroundsDue F_PArounds F_Forest F_Pages) (gPLaw_3 F_Bag F_Take F_Alike F_PLessened F_Some F_PSpent F_SpentDue F_LetsDue F_PLets F_Has F_PHasPage F_WithDue F_PTicketsWith F_AroundsDue F_PArounds F_Forest F_Pages)))
noncomputable def fPLaw (F_Bag : FF) (F_Take : FF) (F_Alike : FF) (F_PLessened : FF) (F_Some : FF) (F_PSpent : FF) (F_SpentDue : FF) (F_LetsDue : FF) (F_PLets : FF) (F_Has : FF) (F_PHasPage : FF) (F_WithDue : FF) (F_PTicketsWith : FF) (F_AroundsDue : FF) (F_PArounds : FF) (F_Forest : FF) (F_Pages : FF) : FF := FnOf nPLaw (gPLaw F_Bag F_Take F_Alike F_PLessened F_Some F_PSpent F_SpentDue F_LetsDue F_PLets F_Has F_PHasPage F_WithDue F_PTicketsWith F_AroundsDue F_PArounds F_Forest F_Pages)
end D06

set_option Elab.async false
set_option linter.all false
set_option maxRecDepth 100000
set_option maxHeartbeats 4000000
namespace D06
open PySem PySem.Spec PyProof.Rows L2 Pg Dl Gs
def topS (i : Nat) : Stmt := PySem.Challenge.pw_pagesworn_k06_tickets_of_a_page.main.body.getD i (.Pass ⟨0, 0, 0, 0⟩)
abbrev sPTicketsWith : Stmt := topS 1
theorem scPTicketsWith : FnScope nPTicketsWith ["forest", "page"] (defScope sPTicketsWith) := ⟨rfl, rfl, rfl, by decide +kernel, rfl, by decide +kernel, by decide +kernel⟩
theorem calPTicketsWith {P : Program} {w : World} {K : PySem.W.Frag} {mg : Str → Option Value} {base : Heap} {k : Nat} {f : Addr} {fd : FuncData} (D : Df K mg "tickets_with" ["forest", "page"] sPTicketsWith f fd) {cC tabP : Addr} (TB : LamX.TabB base mg cC tabP) (hcode : fd.code = .ref cC) (m_enumerate : mg "enumerate" = none) (m_len : mg "len" = none) (m_sorted : mg "sorted" = none) (m_tuple : mg "tuple" = none) {Fn : FF}
    (hF : ∀ args s v s', args.length = 2 → Fn args s = some (v, s') → EndsD (gPTicketsWith tabP) (startD nPTicketsWith args) s v s') : Cal P w K mg base (k + 2 + 1) "tickets_with" ["forest", "page"] Fn :=
  okDC D scPTicketsWith (fun cdv hcd A outer s H E hg hr => ⟨_, (qs_cons (qs_setLc (i := 2) rfl scPTicketsWith.nd rfl rfl (sw_true rfl rfl rfl (by decide +kernel)) (own := [("index", 3), ("ticket", 4)]) (qi_enumD rfl m_enumerate (qa_cons (q_var 0 (pv 0)) qa_nil rfl) rfl rfl) (blkOk_by (N := nPTicketsWith) (sc := defScope sPTicketsWith) (by decide +kernel)) (kps_tp (kpss_nm (by decide) (kpss_nm (by decide) kpss_nil))) (fun _ _ _ _ _ => (qg_tp rfl rfl (qgs_cons (qg_nm (pg_name (i := 3) scPTicketsWith.nd rfl (Or.inl rfl))) (qgs_cons (qg_nm (pg_name (i := 4) scPTicketsWith.nd rfl (Or.inl rfl))) qgs_nil rfl) rfl) rfl rfl)) (fun _ _ _ _ _ => (qt_one (qb_cmp (so_in _) (op_inA (u65 hr)) (q_var 1 (pv 1)) (q_ix rfl (q_var 4 (pv 4)) q_int (fun _ _ => rfl)) rfl))) (fun _ _ _ _ _ => (q_var 3 (pv 3))) (fun _ => rfl))
      (qs_one (qs_ret (q_tupN rfl m_tuple (q_sortK (cap := (some ("forest", 0))) (k := ⟨true, true, (.at (.ix .c .x) 0)⟩) rfl m_sorted (fun _ => m_len) (q_var 2 (pv 2)) rfl TB (hcd.symm.trans hcode) rfl (lamK_by (by decide +kernel) (fun _ _ _ _ _ _ => rfl)) (.nlen (.at (.ix (.c rfl) .x (fun _ _ => rfl)))) (cap_some rfl rfl) rfl (hr.mono (by omega)) rfl rfl rfl rfl rfl rfl) rfl rfl rfl))))⟩) hF
theorem isPTicketsWith {P : Program} {w : World} {K : PySem.W.Frag} {mg : Str → Option Value} {base : Heap} {k : Nat} {f : Addr} {fd : FuncData} (D : Df K mg "tickets_with" ["forest", "page"] sPTicketsWith f fd) {cC tabP : Addr} (TB : LamX.TabB base mg cC tabP) (hcode : fd.code = .ref cC) (m_enumerate : mg "enumerate" = none) (m_len : mg "len" = none) (m_sorted : mg "sorted" = none) (m_tuple : mg "tuple" = none) : Cal P w K mg base (k + 2 + 1) "tickets_with" ["forest", "page"] (fPTicketsWith tabP) := calPTicketsWith D TB hcode m_enumerate m_len m_sorted m_tuple ends_of
abbrev sPHasPage : Stmt := topS 2
theorem scPHasPage : FnScope nPHasPage ["forest", "page"] (defScope sPHasPage) := ⟨rfl, rfl, rfl, by decide +kernel, rfl, by decide +kernel, by decide +kernel⟩
theorem calPHasPage {P : Program} {w : World} {K : PySem.W.Frag} {mg : Str → Option Value} {base : Heap} {k : Nat} {f : Addr} {fd : FuncData} (D : Df K mg "has_page" ["forest", "page"] sPHasPage f fd) (m_len : mg "len" = none) {F_PTicketsWith : FF} (c_PTicketsWith : Cal P w K mg base k "tickets_with" ["forest", "page"] F_PTicketsWith) {Fn : FF}
    (hF : ∀ args s v s', args.length = 2 → Fn args s = some (v, s') → EndsD (gPHasPage F_PTicketsWith) (startD nPHasPage args) s v s') : Cal P w K mg base (k + 1) "has_page" ["forest", "page"] Fn :=
  okD D scPHasPage (fun cdv A outer s H E hg hr => ⟨_, (qs_one (qs_ret (q_cmp (so_cm _) (op_gtD hr.units) (q_cb sc_len Dl.call_lenD m_len (by decide +kernel) (qa_cons (q_D (q_call c_PTicketsWith rfl hg hr (qa_cons (q_var 0 (pv 0)) (qa_cons (q_var 1 (pv 1)) qa_nil rfl) rfl) rfl (by decide) rfl rfl)) qa_nil rfl) rfl (by decide) (by decide) rfl rfl) q_int (nomark _))))⟩) hF
theorem isPHasPage {P : Program} {w : World} {K : PySem.W.Frag} {mg : Str → Option Value} {base : Heap} {k : Nat} {f : Addr} {fd : FuncData} (D : Df K mg "has_page" ["forest", "page"] sPHasPage f fd) (m_len : mg "len" = none) {F_PTicketsWith : FF} (c_PTicketsWith : Cal P w K mg base k "tickets_with" ["forest", "page"] F_PTicketsWith) : Cal P w K mg base (k + 1) "has_page" ["forest", "page"] (fPHasPage F_PTicketsWith) := calPHasPage D m_len c_PTicketsWith ends_of
abbrev sPAroundAt : Stmt := topS 3
theorem scPAroundAt : FnScope nPAroundAt ["forest", "index"] (defScope sPAroundAt) := ⟨rfl, rfl, rfl, by decide +kernel, rfl, by decide +kernel, by decide +kernel⟩
theorem calPAroundAt {P : Program} {w : World} {K : PySem.W.Frag} {mg : Str → Option Value} {base : Heap} {k : Nat} {f : Addr} {fd : FuncData} (D : Df K mg "around_at" ["forest", "index"] sPAroundAt f fd) {F_PTicketsWith : FF} (c_PTicketsWith : Cal P w K mg base k "tickets_with" ["forest", "page"] F_PTicketsWith) {Fn : FF}
    (hF : ∀ args s v s', args.length = 2 → Fn args s = some (v, s') → EndsD (gPAroundAt F_PTicketsWith) (startD nPAroundAt args) s v s') : Cal P w K mg base (k + 1) "around_at" ["forest", "index"] Fn :=
  okD D scPAroundAt (fun cdv A outer s H E hg hr => ⟨_, (qs_cons (qs_set (i := 2) (q_call c_PTicketsWith rfl hg hr (qa_cons (q_var 0 (pv 0)) (qa_cons (q_ix rfl (q_ix rfl (q_ix rfl (q_var 0 (pv 0)) (q_var 1 (pv 1)) (fun _ _ => rfl)) q_int (fun _ _ => rfl)) q_int (fun _ _ => rfl)) qa_nil rfl) rfl) rfl (by decide) rfl rfl) scPAroundAt.nd rfl (by first | exact Or.inl rfl | exact Or.inr rfl) rfl (by first | exact .inl rfl | exact .inr rfl))
      (qs_cons (qs_set (i := 3) (q_idxT rfl (q_var 2 (pv 2)) (q_var 1 (pv 1)) rfl rfl rfl rfl rfl) scPAroundAt.nd rfl (by first | exact Or.inl rfl | exact Or.inr rfl) rfl (by first | exact .inl rfl | exact .inr rfl))
      (qs_one (qs_ret (q_if (qb_cmp so_eq (Dl.op_eqD hr.units) (q_var 3 (pv 3)) q_int (nomark _)) q_non (q_ix rfl (q_D (q_var 2 (pv 2))) (q_op so_sub op_sub (q_var 3 (pv 3)) q_int) (fun _ _ => rfl)))))))⟩) hF
theorem isPAroundAt {P : Program} {w : World} {K : PySem.W.Frag} {mg : Str → Option Value} {base : Heap} {k : Nat} {f : Addr} {fd : FuncData} (D : Df K mg "around_at" ["forest", "index"] sPAroundAt f fd) {F_PTicketsWith : FF} (c_PTicketsWith : Cal P w K mg base k "tickets_with" ["forest", "page"] F_PTicketsWith) : Cal P w K mg base (k + 1) "around_at" ["forest", "index"] (fPAroundAt F_PTicketsWith) := calPAroundAt D c_PTicketsWith ends_of
abbrev sPArounds : Stmt := topS 4
theorem scPArounds : FnScope nPArounds ["forest"] (defScope sPArounds) := ⟨rfl, rfl, rfl, by decide +kernel, rfl, by decide +kernel, by decide +kernel⟩
theorem calPArounds {P : Program} {w : World} {K : PySem.W.Frag} {mg : Str → Option Value} {base : Heap} {k : Nat} {f : Addr} {fd : FuncData} (D : Df K mg "arounds" ["forest"] sPArounds f fd) (m_len : mg "len" = none) (m_range : mg "range" = none) (m_tuple : mg "tuple" = none) {F_PAroundAt : FF} (c_PAroundAt : Cal P w K mg base k "around_at" ["forest", "index"] F_PAroundAt) {Fn : FF}
    (hF : ∀ args s v s', args.length = 1 → Fn args s = some (v, s') → EndsD (gPArounds F_PAroundAt) (startD nPArounds args) s v s') : Cal P w K mg base (k + 1) "arounds" ["forest"] Fn :=
  okD D scPArounds (fun cdv A outer s H E hg hr => ⟨_, (qs_one (qs_ret (q_ty sc_tuple call_tuple_of m_tuple (by decide +kernel) (qa_cons (q_comp rfl scPArounds.nd (own := [("index", 1)]) (qi_range1 m_range (qa_cons (q_cb sc_len Dl.call_lenD m_len (by decide +kernel) (qa_cons (q_var 0 (pv 0)) qa_nil rfl) rfl (by decide) (by decide) rfl rfl) qa_nil rfl) rfl rfl) (blkOk_by (N := nPArounds) (sc := defScope sPArounds) (by decide +kernel)) (kps_nm (by decide)) (fun _ _ _ _ _ => (qg_nm (pg_name (i := 1) scPArounds.nd rfl (Or.inl rfl)))) (fun _ _ _ _ _ => qt_nil) (fun _ _ _ _ _ => (q_call c_PAroundAt rfl hg hr (qa_cons (q_var 0 (pv 0)) (qa_cons (q_var 1 (pv 1)) qa_nil rfl) rfl) rfl (by decide) rfl rfl)) (fun _ => rfl)) qa_nil rfl) rfl (by decide) (by decide) rfl rfl)))⟩) hF
theorem isPArounds {P : Program} {w : World} {K : PySem.W.Frag} {mg : Str → Option Value} {base : Heap} {k : Nat} {f : Addr} {fd : FuncData} (D : Df K mg "arounds" ["forest"] sPArounds f fd) (m_len : mg "len" = none) (m_range : mg "range" = none) (m_tuple : mg "tuple" = none) {F_PAroundAt : FF} (c_PAroundAt : Cal P w K mg base k "around_at" ["forest", "index"] F_PAroundAt) : Cal P w K mg base (k + 1) "arounds" ["forest"] (fPArounds F_PAroundAt) := calPArounds D m_len m_range m_tuple c_PAroundAt ends_of
abbrev sPLets : Stmt := topS 5
theorem scPLets : FnScope nPLets ["forest", "page"] (defScope sPLets) := ⟨rfl, rfl, rfl, by decide +kernel, rfl, by decide +kernel, by decide +kernel⟩
theorem calPLets {P : Program} {w : World} {K : PySem.W.Frag} {mg : Str → Option Value} {base : Heap} {k : Nat} {f : Addr} {fd : FuncData} (D : Df K mg "lets" ["forest", "page"] sPLets f fd) (m_len : mg "len" = none) (m_min : mg "min" = none) {Fn : FF}
    (hF : ∀ args s v s', args.length = 2 → Fn args s = some (v, s') → EndsD (gPLets) (startD nPLets args) s v s') : Cal P w K mg base (k + 1) "lets" ["forest", "page"] Fn :=
  okD D scPLets (fun cdv A outer s H E hg hr => ⟨_, (qs_cons (qs_setLc (i := 2) rfl scPLets.nd rfl rfl (sw_true rfl rfl rfl (by decide +kernel)) (own := [("lot", 3), ("number", 4)]) (qi_data rfl (q_var 0 (pv 0))) (blkOk_by (N := nPLets) (sc := defScope sPLets) (by decide +kernel)) (kps_tp (kpss_nm (by decide) (kpss_nm (by decide) kpss_nil))) (fun _ _ _ _ _ => (qg_tp rfl rfl (qgs_cons (qg_nm (pg_name (i := 3) scPLets.nd rfl (Or.inl rfl))) (qgs_cons (qg_nm (pg_name (i := 4) scPLets.nd rfl (Or.inl rfl))) qgs_nil rfl) rfl) rfl rfl)) (fun _ _ _ _ _ => (qt_one (qb_cmp (so_in _) (op_inA (u65 hr)) (q_var 1 (pv 1)) (q_var 3 (pv 3)) rfl))) (fun _ _ _ _ _ => (q_var 4 (pv 4))) (fun _ => rfl))
      (qs_one (qs_ret (q_and rfl (q_cmp (so_cm _) (op_gtD hr.units) (q_cb sc_len Dl.call_lenD m_len (by decide +kernel) (qa_cons (q_var 2 (pv 2)) qa_nil rfl) rfl (by decide) (by decide) rfl rfl) q_int (nomark _)) (q_one (q_cmp (so_cm _) (op_gtD hr.units) (q_cb sc_min (Dl.call_minD rfl hr.units) m_min (by decide +kernel) (qa_cons (q_var 2 (pv 2)) qa_nil rfl) rfl (by decide) (by decide) rfl rfl) q_int (nomark _)))))))⟩) hF
theorem isPLets {P : Program} {w : World} {K : PySem.W.Frag} {mg : Str → Option Value} {base : Heap} {k : Nat} {f : Addr} {fd : FuncData} (D : Df K mg "lets" ["forest", "page"] sPLets f fd) (m_len : mg "len" = none) (m_min : mg "min" = none) : Cal P w K mg base (k + 1) "lets" ["forest", "page"] (fPLets) := calPLets D m_len m_min ends_of
abbrev sPSpent : Stmt := topS 6
theorem scPSpent : FnScope nPSpent ["forest", "page"] (defScope sPSpent) := ⟨rfl, rfl, rfl, by decide +kernel, rfl, by decide +kernel, by decide +kernel⟩
theorem calPSpent {P : Program} {w : World} {K : PySem.W.Frag} {mg : Str → Option Value} {base : Heap} {k : Nat} {f : Addr} {fd : FuncData} (D : Df K mg "spent" ["forest", "page"] sPSpent f fd) (m_tuple : mg "tuple" = none) {Fn : FF}
    (hF : ∀ args s v s', args.length = 2 → Fn args s = some (v, s') → EndsD (gPSpent) (startD nPSpent args) s v s') : Cal P w K mg base (k + 1) "spent" ["forest", "page"] Fn :=
  okD D scPSpent (fun cdv A outer s H E hg hr => ⟨_, (qs_one (qs_ret (q_ty sc_tuple call_tuple_of m_tuple (by decide +kernel) (qa_cons (q_comp rfl scPSpent.nd (own := [("lot", 2), ("number", 3)]) (qi_data rfl (q_var 0 (pv 0))) (blkOk_by (N := nPSpent) (sc := defScope sPSpent) (by decide +kernel)) (kps_tp (kpss_nm (by decide) (kpss_nm (by decide) kpss_nil))) (fun _ _ _ _ _ => (qg_tp rfl rfl (qgs_cons (qg_nm (pg_name (i := 2) scPSpent.nd rfl (Or.inl rfl))) (qgs_cons (qg_nm (pg_name (i := 3) scPSpent.nd rfl (Or.inl rfl))) qgs_nil rfl) rfl) rfl rfl)) (fun _ _ _ _ _ => qt_nil) (fun _ _ _ _ _ => (q_tup (qa_cons (q_var 2 (pv 2)) (qa_cons (q_if (qb_cmp (so_in _) (op_inA (u65 hr)) (q_var 1 (pv 1)) (q_var 2 (pv 2)) rfl) (q_op so_sub op_sub (q_var 3 (pv 3)) q_int) (q_var 3 (pv 3))) qa_nil rfl) rfl))) (fun _ => rfl)) qa_nil rfl) rfl (by decide) (by decide) rfl rfl)))⟩) hF
theorem isPSpent {P : Program} {w : World} {K : PySem.W.Frag} {mg : Str → Option Value} {base : Heap} {k : Nat} {f : Addr} {fd : FuncData} (D : Df K mg "spent" ["forest", "page"] sPSpent f fd) (m_tuple : mg "tuple" = none) : Cal P w K mg base (k + 1) "spent" ["forest", "page"] (fPSpent) := calPSpent D m_tuple ends_of
abbrev sPLessened : Stmt := topS 7
theorem scPLessened : FnScope nPLessened ["forest", "lot", "number"] (defScope sPLessened) := ⟨rfl, rfl, rfl, by decide +kernel, rfl, by decide +kernel, by decide +kernel⟩
theorem calPLessened {P : Program} {w : World} {K : PySem.W.Frag} {mg : Str → Option Value} {base : Heap} {k : Nat} {f : Addr} {fd : FuncData} (D : Df K mg "lessened" ["forest", "lot", "number"] sPLessened f fd) (m_tuple : mg "tuple" = none) {Fn : FF}
    (hF : ∀ args s v s', args.length = 3 → Fn args s = some (v, s') → EndsD (gPLessened) (startD nPLessened args) s v s') : Cal P w K mg base (k + 1) "lessened" ["forest", "lot", "number"] Fn :=
  okD D scPLessened (fun cdv A outer s H E hg hr => ⟨_, (qs_one (qs_ret (q_ty sc_tuple call_tuple_of m_tuple (by decide +kernel) (qa_cons (q_comp rfl scPLessened.nd (own := [("ticket", 3)]) (qi_data rfl (q_var 0 (pv 0))) (blkOk_by (N := nPLessened) (sc := defScope sPLessened) (by decide +kernel)) (kps_nm (by decide)) (fun _ _ _ _ _ => (qg_nm (pg_name (i := 3) scPLessened.nd rfl (Or.inl rfl)))) (fun _ _ _ _ _ => qt_nil) (fun _ _ _ _ _ => (q_if (qb_cmp so_eq (Dl.op_eqD hr.units) (q_ix rfl (q_var 3 (pv 3)) q_int (fun _ _ => rfl)) (q_var 1 (pv 1)) (nomark _)) (q_tup (qa_cons (q_var 1 (pv 1)) (qa_cons (q_var 2 (pv 2)) qa_nil rfl) rfl)) (q_var 3 (pv 3)))) (fun _ => rfl)) qa_nil rfl) rfl (by decide) (by decide) rfl rfl)))⟩) hF
theorem isPLessened {P : Program} {w : World} {K : PySem.W.Frag} {mg : Str → Option Value} {base : Heap} {k : Nat} {f : Addr} {fd : FuncData} (D : Df K mg "lessened" ["forest", "lot", "number"] sPLessened f fd) (m_tuple : mg "tuple" = none) : Cal P w K mg base (k + 1) "lessened" ["forest", "lot", "number"] (fPLessened) := calPLessened D m_tuple ends_of
abbrev sBag : Stmt := topS 9
theorem scBag : FnScope nBag ["_law_script"] (defScope sBag) := ⟨rfl, rfl, rfl, by decide +kernel, rfl, by decide +kernel, by decide +kernel⟩
theorem calBag {P : Program} {w : World} {K : PySem.W.Frag} {mg : Str → Option Value} {base : Heap} {k : Nat} {f : Addr} {fd : FuncData} (D : Df K mg "_law_bag" ["_law_script"] sBag f fd) (m_abs : mg "abs" = none) {Fn : FF}
    (hF : ∀ args s v s', args.length = 1 → Fn args s = some (v, s') → EndsD (gBag) (startD nBag args) s v s') : Cal P w K mg base (k + 1) "_law_bag" ["_law_script"] Fn :=
  okD D scBag (fun cdv A outer s H E hg hr => ⟨_, (qs_one (qs_ret (q_lstN (qa_cons q_int (qa_cons q_int (qa_cons q_int (qa_cons (q_comp rfl scBag.nd (own := [("_law_cell", 1)]) (qi_data rfl (q_sl rfl (q_var 0 (pv 0)) qo_none (qo_some q_int))) (blkOk_by (N := nBag) (sc := defScope sBag) (by decide +kernel)) (kps_nm (by decide)) (fun _ _ _ _ _ => (qg_nm (pg_name (i := 1) scBag.nd rfl (Or.inl rfl)))) (fun _ _ _ _ _ => qt_nil) (fun _ _ _ _ _ => (q_cb sc_abs call_abs m_abs (by decide +kernel) (qa_cons (q_var 1 (pv 1)) qa_nil rfl) rfl (by decide) (by decide) rfl rfl)) (fun _ => rfl)) qa_nil rfl) rfl) rfl) rfl))))⟩) hF
theorem isBag {P : Program} {w : World} {K : PySem.W.Frag} {mg : Str → Option Value} {base : Heap} {k : Nat} {f : Addr} {fd : FuncData} (D : Df K mg "_law_bag" ["_law_script"] sBag f fd) (m_abs : mg "abs" = none) : Cal P w K mg base (k + 1) "_law_bag" ["_law_script"] (fBag) := calBag D m_abs ends_of
abbrev sTake : Stmt := topS 10
theorem scTake : FnScope nTake ["_law_bag_here", "_law_many"] (defScope sTake) := ⟨rfl, rfl, rfl, by decide +kernel, rfl, by decide +kernel, by decide +kernel⟩
theorem calTake {P : Program} {w : World} {K : PySem.W.Frag} {mg : Str → Option Value} {base : Heap} {k : Nat} {f : Addr} {fd : FuncData} (D : Df K mg "_law_take" ["_law_bag_here", "_law_many"] sTake f fd) (m_int : mg "int" = none) {Fn : FF}
    (hF : ∀ args s v s', args.length = 2 → Fn args s = some (v, s') → EndsD (gTake) (startD nTake args) s v s') : Cal P w K mg base (k + 1) "_law_take" ["_law_bag_here", "_law_many"] Fn :=
  okD D scTake (fun cdv A outer s H E hg hr => ⟨_, (qs_cons (qs_if (qb_cmp so_eq (Dl.op_eqD hr.units) (q_ixC rfl (q_var 0 (pv 0)) q_int (fun _ _ => rfl)) q_int (nomark _))
        (qs_cons (qs_set (i := 4) (q_ix rfl (q_op so_add op_addD (q_sl rfl (q_ixC rfl (q_var 0 (pv 0)) q_int (fun _ _ => rfl)) (qo_some (q_ixC rfl (q_var 0 (pv 0)) q_int (fun _ _ => rfl))) qo_none) (q_lst (qa_cons q_int qa_nil rfl))) q_int (fun _ _ => rfl)) scTake.nd rfl (by first | exact Or.inl rfl | exact Or.inr rfl) rfl (by first | exact .inl rfl | exact .inr rfl))
      (qs_cons (qs_addI rfl (q_var 0 (pv 0)) q_int q_int (fun _ _ _ => rfl))
      (qs_cons (qs_if (qb_cmp (so_cm _) (op_geD hr.units) (q_var 4 (pv 4)) (q_op so_pow op_pow q_int q_int) (nomark _))
        (qs_one (qs_asg (q_var 4 (pv 4)) (qg_put (q_var 0 (pv 0)) q_int (fun _ => rfl)) rfl rfl rfl))
        qs_nil)
      (qs_cons (qs_set (i := 5) (q_op so_add op_addD (q_op so_add op_addD (q_op so_mul op_mulD (q_ixC rfl (q_var 0 (pv 0)) q_int (fun _ _ => rfl)) q_int) (q_op so_mod op_mod (q_ty sc_int call_int1 m_int (by decide +kernel) (qa_cons (q_var 4 (pv 4)) qa_nil rfl) rfl (by decide) (by decide) rfl rfl) q_int)) (q_op so_mul op_mulD q_int (q_ixC rfl (q_var 0 (pv 0)) q_int (fun _ _ => rfl)))) scTake.nd rfl (by first | exact Or.inl rfl | exact Or.inr rfl) rfl (by first | exact .inl rfl | exact .inr rfl))
      (qs_one (qs_asg (q_op so_mod op_mod (q_ty sc_int call_int1 m_int (by decide +kernel) (qa_cons (q_var 5 (pv 5)) qa_nil rfl) rfl (by decide) (by decide) rfl rfl) q_int) (qg_put (q_var 0 (pv 0)) q_int (fun _ => rfl)) rfl rfl rfl))))))
        qs_nil)
      (qs_cons (qs_if (qb_cmp (so_cm _) (op_gtD hr.units) (q_ixC rfl (q_var 0 (pv 0)) q_int (fun _ _ => rfl)) q_int (nomark _))
        (qs_cons (qs_set (i := 6) (q_op so_mod op_mod (q_ty sc_int call_int1 m_int (by decide +kernel) (qa_cons (q_ixC rfl (q_var 0 (pv 0)) q_int (fun _ _ => rfl)) qa_nil rfl) rfl (by decide) (by decide) rfl rfl) (q_var 1 (pv 1))) scTake.nd rfl (by first | exact Or.inl rfl | exact Or.inr rfl) rfl (by first | exact .inl rfl | exact .inr rfl))
      (qs_cons (qs_asg (q_op so_div op_fdivW (q_ty sc_int call_int1 m_int (by decide +kernel) (qa_cons (q_ixC rfl (q_var 0 (pv 0)) q_int (fun _ _ => rfl)) qa_nil rfl) rfl (by decide) (by decide) rfl rfl) (q_var 1 (pv 1))) (qg_put (q_var 0 (pv 0)) q_int (fun _ => rfl)) rfl rfl rfl)
      (qs_one (qs_ret (q_var 6 (pv 6))))))
        qs_nil)
      (qs_cons (qs_set (i := 2) (q_op so_mod op_mod (q_ty sc_int call_int1 m_int (by decide +kernel) (qa_cons (q_op so_mul op_mulD (q_op so_add op_addD (q_ixC rfl (q_var 0 (pv 0)) q_int (fun _ _ => rfl)) q_int) q_int) qa_nil rfl) rfl (by decide) (by decide) rfl rfl) q_int) scTake.nd rfl (by first | exact Or.inl rfl | exact Or.inr rfl) rfl (by first | exact .inl rfl | exact .inr rfl))
      (qs_cons (qs_set (i := 3) (q_op so_mod op_mod (q_ty sc_int call_int1 m_int (by decide +kernel) (qa_cons (q_op so_mul op_mulD (q_op so_mod op_mod (q_ty sc_int call_int1 m_int (by decide +kernel) (qa_cons (q_op so_mul op_mulD (q_var 2 (pv 2)) (q_var 2 (pv 2))) qa_nil rfl) rfl (by decide) (by decide) rfl rfl) q_int) q_int) qa_nil rfl) rfl (by decide) (by decide) rfl rfl) q_int) scTake.nd rfl (by first | exact Or.inl rfl | exact Or.inr rfl) rfl (by first | exact .inl rfl | exact .inr rfl))
      (qs_one (qs_ret (q_op so_mod op_mod (q_ty sc_int call_int1 m_int (by decide +kernel) (qa_cons (q_op so_div op_fdivW (q_var 3 (pv 3)) q_int) qa_nil rfl) rfl (by decide) (by decide) rfl rfl) (q_var 1 (pv 1)))))))))⟩) hF
theorem isTake {P : Program} {w : World} {K : PySem.W.Frag} {mg : Str → Option Value} {base : Heap} {k : Nat} {f : Addr} {fd : FuncData} (D : Df K mg "_law_take" ["_law_bag_here", "_law_many"] sTake f fd) (m_int : mg "int" = none) : Cal P w K mg base (k + 1) "_law_take" ["_law_bag_here", "_law_many"] (fTake) := calTake D m_int ends_of
abbrev sSome : Stmt := topS 11
theorem scSome : FnScope nSome ["_law_bag_here", "_law_things"] (defScope sSome) := ⟨rfl, rfl, rfl, by decide +kernel, rfl, by decide +kernel, by decide +kernel⟩
theorem calSome {P : Program} {w : World} {K : PySem.W.Frag} {mg : Str → Option Value} {base : Heap} {k : Nat} {f : Addr} {fd : FuncData} (D : Df K mg "_law_some" ["_law_bag_here", "_law_things"] sSome f fd) (m_len : mg "len" = none) {F_Take : FF} (c_Take : Cal P w K mg base k "_law_take" ["_law_bag_here", "_law_many"] F_Take) {Fn : FF}
    (hF : ∀ args s v s', args.length = 2 → Fn args s = some (v, s') → EndsD (gSome F_Take) (startD nSome args) s v s') : Cal P w K mg base (k + 1) "_law_some" ["_law_bag_here", "_law_things"] Fn :=
  okD D scSome (fun cdv A outer s H E hg hr => ⟨_, (qs_one (qs_ret (q_ix rfl (q_var 1 (pv 1)) (q_call c_Take rfl hg hr (qa_cons (q_var 0 (pv 0)) (qa_cons (q_cb sc_len Dl.call_lenD m_len (by decide +kernel) (qa_cons (q_var 1 (pv 1)) qa_nil rfl) rfl (by decide) (by decide) rfl rfl) qa_nil rfl) rfl) rfl (by decide) rfl rfl) (fun _ _ => rfl))))⟩) hF
theorem isSome {P : Program} {w : World} {K : PySem.W.Frag} {mg : Str → Option Value} {base : Heap} {k : Nat} {f : Addr} {fd : FuncData} (D : Df K mg "_law_some" ["_law_bag_here", "_law_things"] sSome f fd) (m_len : mg "len" = none) {F_Take : FF} (c_Take : Cal P w K mg base k "_law_take" ["_law_bag_here", "_law_many"] F_Take) : Cal P w K mg base (k + 1) "_law_some" ["_law_bag_here", "_law_things"] (fSome F_Take) := calSome D m_len c_Take ends_of
abbrev sMixed : Stmt := topS 12
theorem scMixed : FnScope nMixed ["_law_bag_here", "_law_things"] (defScope sMixed) := ⟨rfl, rfl, rfl, by decide +kernel, rfl, by decide +kernel, by decide +kernel⟩
theorem calMixed {P : Program} {w : World} {K : PySem.W.Frag} {mg : Str → Option Value} {base : Heap} {k : Nat} {f : Addr} {fd : FuncData} (D : Df K mg "_law_mixed" ["_law_bag_here", "_law_things"] sMixed f fd) (m_len : mg "len" = none) {F_Take : FF} (c_Take : Cal P w K mg base k "_law_take" ["_law_bag_here", "_law_many"] F_Take) {Fn : FF}
    (hF : ∀ args s v s', args.length = 2 → Fn args s = some (v, s') → EndsD (gMixed F_Take) (startD nMixed args) s v s') : Cal P w K mg base (k + 1) "_law_mixed" ["_law_bag_here", "_law_things"] Fn :=
  okD D scMixed (fun cdv A outer s H E hg hr => ⟨_, (qs_cons (qs_set (i := 2) (q_lstN qa_nil) scMixed.nd rfl (by first | exact Or.inl rfl | exact Or.inr rfl) rfl (by first | exact .inl rfl | exact .inr rfl))
      (qs_cons (qs_for PassesOwn.never rfl (qi_data rfl (q_var 1 (pv 1))) (qg_nm (pg_name (i := 3) scMixed.nd rfl (by first | exact Or.inl rfl | exact Or.inr rfl)))
        (qs_one (qs_expr (q_ins rfl (q_var 2 (pv 2)) (q_call c_Take rfl hg hr (qa_cons (q_var 0 (pv 0)) (qa_cons (q_op so_add op_addD (q_cb sc_len Dl.call_lenD m_len (by decide +kernel) (qa_cons (q_var 2 (pv 2)) qa_nil rfl) rfl (by decide) (by decide) rfl rfl) q_int) qa_nil rfl) rfl) rfl (by decide) rfl rfl) (q_var 3 (pv 3)) rfl rfl rfl rfl rfl rfl) rfl)) (fun _ => rfl))
      (qs_one (qs_ret (q_fz (q_var 2 (pv 2)))))))⟩) hF
theorem isMixed {P : Program} {w : World} {K : PySem.W.Frag} {mg : Str → Option Value} {base : Heap} {k : Nat} {f : Addr} {fd : FuncData} (D : Df K mg "_law_mixed" ["_law_bag_here", "_law_things"] sMixed f fd) (m_len : mg "len" = none) {F_Take : FF} (c_Take : Cal P w K mg base k "_law_take" ["_law_bag_here", "_law_many"] F_Take) : Cal P w K mg base (k + 1) "_law_mixed" ["_law_bag_here", "_law_things"] (fMixed F_Take) := calMixed D m_len c_Take ends_cut
abbrev sAlike : Stmt := topS 13
theorem scAlike : FnScope nAlike ["_law_found", "_law_due"] (defScope sAlike) := ⟨rfl, rfl, rfl, by decide +kernel, rfl, by decide +kernel, by decide +kernel⟩
theorem calAlike {P : Program} {w : World} {K : PySem.W.Frag} {mg : Str → Option Value} {base : Heap} {k : Nat} {f : Addr} {fd : FuncData} (D : Df K mg "_law_alike" ["_law_found", "_law_due"] sAlike f fd) (m_repr : mg "repr" = none) {Fn : FF}
    (hF : ∀ args s v s', args.length = 2 → Fn args s = some (v, s') → EndsD (gAlike) (startD nAlike args) s v s') : Cal P w K mg base (k + 1) "_law_alike" ["_law_found", "_law_due"] Fn :=
  okD D scAlike (fun cdv A outer s H E hg hr => ⟨_, (qs_one (qs_ret (q_and rfl (q_cmp so_eq (Dl.op_eqD hr.units) (q_var 0 (pv 0)) (q_var 1 (pv 1)) (nomark _)) (q_one (q_cmp so_eq (Dl.op_eqD hr.units) (q_cb sc_repr (call_reprD hg hr.units) m_repr (by decide +kernel) (qa_cons (q_var 0 (pv 0)) qa_nil rfl) rfl (by decide) (by decide) rfl rfl) (q_cb sc_repr (call_reprD hg hr.units) m_repr (by decide +kernel) (qa_cons (q_var 1 (pv 1)) qa_nil rfl) rfl (by decide) (by decide) rfl rfl) (nomark _))))))⟩) hF
theorem isAlike {P : Program} {w : World} {K : PySem.W.Frag} {mg : Str → Option Value} {base : Heap} {k : Nat} {f : Addr} {fd : FuncData} (D : Df K mg "_law_alike" ["_law_found", "_law_due"] sAlike f fd) (m_repr : mg "repr" = none) : Cal P w K mg base (k + 1) "_law_alike" ["_law_found", "_law_due"] (fAlike) := calAlike D m_repr ends_of
abbrev sPages : Stmt := topS 14
theorem scPages : FnScope nPages ["_law_bag_here", "_law_many"] (defScope sPages) := ⟨rfl, rfl, rfl, by decide +kernel, rfl, by decide +kernel, by decide +kernel⟩
theorem calPages {P : Program} {w : World} {K : PySem.W.Frag} {mg : Str → Option Value} {base : Heap} {k : Nat} {f : Addr} {fd : FuncData} (D : Df K mg "_law_pages" ["_law_bag_here", "_law_many"] sPages f fd) (m_range : mg "range" = none) {F_Some : FF} (c_Some : Cal P w K mg base k "_law_some" ["_law_bag_here", "_law_things"] F_Some) {Fn : FF}
    (hF : ∀ args s v s', args.length = 2 → Fn args s = some (v, s') → EndsD (gPages F_Some) (startD nPages args) s v s') : Cal P w K mg base (k + 1) "_law_pages" ["_law_bag_here", "_law_many"] Fn :=
  okD D scPages (fun cdv A outer s H E hg hr => ⟨_, (qs_cons (qs_asgT rfl rfl (qa_cons (q_call c_Some rfl hg hr (qa_cons (q_var 0 (pv 0)) (qa_cons (q_lst (qa_cons q_int (qa_cons q_int (qa_cons q_int (qa_cons q_int (qa_cons q_int qa_nil rfl) rfl) rfl) rfl) rfl)) qa_nil rfl) rfl) rfl (by decide) rfl rfl) (qa_cons (q_call c_Some rfl hg hr (qa_cons (q_var 0 (pv 0)) (qa_cons (q_lst (qa_cons q_int (qa_cons q_int (qa_cons q_int (qa_cons q_int (qa_cons q_int qa_nil rfl) rfl) rfl) rfl) rfl)) qa_nil rfl) rfl) rfl (by decide) rfl rfl) qa_nil rfl) rfl) (qgs_cons (qg_nm (pg_name (i := 2) scPages.nd rfl (by first | exact Or.inl rfl | exact Or.inr rfl))) (qgs_cons (qg_nm (pg_name (i := 3) scPages.nd rfl (by first | exact Or.inl rfl | exact Or.inr rfl))) qgs_nil rfl) rfl) rfl rfl rfl rfl rfl)
      (qs_one (qs_ret (q_comp rfl scPages.nd (own := [("_law_k", 4)]) (qi_range1 m_range (qa_cons (q_var 1 (pv 1)) qa_nil rfl) rfl rfl) (blkOk_by (N := nPages) (sc := defScope sPages) (by decide +kernel)) (kps_nm (by decide)) (fun _ _ _ _ _ => (qg_nm (pg_name (i := 4) scPages.nd rfl (Or.inl rfl)))) (fun _ _ _ _ _ => qt_nil) (fun _ _ _ _ _ => (q_op so_add op_addD (q_var 2 (pv 2)) (q_op so_mul op_mulD (q_var 3 (pv 3)) (q_var 4 (pv 4))))) (fun _ => rfl)))))⟩) hF
theorem isPages {P : Program} {w : World} {K : PySem.W.Frag} {mg : Str → Option Value} {base : Heap} {k : Nat} {f : Addr} {fd : FuncData} (D : Df K mg "_law_pages" ["_law_bag_here", "_law_many"] sPages f fd) (m_range : mg "range" = none) {F_Some : FF} (c_Some : Cal P w K mg base k "_law_some" ["_law_bag_here", "_law_things"] F_Some) : Cal P w K mg base (k + 1) "_law_pages" ["_law_bag_here", "_law_many"] (fPages F_Some) := calPages D m_range c_Some ends_of
abbrev sTicketNumber : Stmt := topS 15
theorem scTicketNumber : FnScope nTicketNumber ["_law_bag_here", "_law_inner"] (defScope sTicketNumber) := ⟨rfl, rfl, rfl, by decide +kernel, rfl, by decide +kernel, by decide +kernel⟩
theorem calTicketNumber {P : Program} {w : World} {K : PySem.W.Frag} {mg : Str → Option Value} {base : Heap} {k : Nat} {f : Addr} {fd : FuncData} (D : Df K mg "_law_ticket_number" ["_law_bag_here", "_law_inner"] sTicketNumber f fd) (m_max : mg "max" = none) (m_min : mg "min" = none) {F_Take : FF} (c_Take : Cal P w K mg base k "_law_take" ["_law_bag_here", "_law_many"] F_Take) {F_Some : FF} (c_Some : Cal P w K mg base k "_law_some" ["_law_bag_here", "_law_things"] F_Some) {Fn : FF}
    (hF : ∀ args s v s', args.length = 2 → Fn args s = some (v, s') → EndsD (gTicketNumber F_Take F_Some) (startD nTicketNumber args) s v s') : Cal P w K mg base (k + 1) "_law_ticket_number" ["_law_bag_here", "_law_inner"] Fn :=
  okD D scTicketNumber (fun cdv A outer s H E hg hr => ⟨_, (qs_cons (qs_set (i := 2) (q_call c_Take rfl hg hr (qa_cons (q_var 0 (pv 0)) (qa_cons q_int qa_nil rfl) rfl) rfl (by decide) rfl rfl) scTicketNumber.nd rfl (by first | exact Or.inl rfl | exact Or.inr rfl) rfl (by first | exact .inl rfl | exact .inr rfl))
      (qs_cons (qs_if (qb_cmp (so_cm _) (op_ltD hr.units) (q_var 2 (pv 2)) q_int (nomark _))
        (qs_one (qs_ret (q_call c_Take rfl hg hr (qa_cons (q_var 0 (pv 0)) (qa_cons q_int qa_nil rfl) rfl) rfl (by decide) rfl rfl)))
        qs_nil)
      (qs_cons (qs_if (qb_cmp (so_cm _) (op_ltD hr.units) (q_var 2 (pv 2)) q_int (nomark _))
        (qs_one (qs_ret (q_cb sc_max2 (call_max2 rfl) m_max (by decide +kernel) (qa_cons q_int (qa_cons (q_cb sc_min2 (call_min2 rfl) m_min (by decide +kernel) (qa_cons q_int (qa_cons (q_op so_sub op_sub (q_op so_add op_addD (q_var 1 (pv 1)) (q_call c_Take rfl hg hr (qa_cons (q_var 0 (pv 0)) (qa_cons q_int qa_nil rfl) rfl) rfl (by decide) rfl rfl)) q_int) qa_nil rfl) rfl) rfl (by decide) (by decide) rfl rfl) qa_nil rfl) rfl) rfl (by decide) (by decide) rfl rfl)))
        qs_nil)
      (qs_one (qs_ret (q_call c_Some rfl hg hr (qa_cons (q_var 0 (pv 0)) (qa_cons (q_lst (qa_cons q_int (qa_cons q_int (qa_cons q_int (qa_cons (q_op so_sub op_sub q_int (q_call c_Take rfl hg hr (qa_cons (q_var 0 (pv 0)) (qa_cons q_int qa_nil rfl) rfl) rfl (by decide) rfl rfl)) (qa_cons (q_call c_Take rfl hg hr (qa_cons (q_var 0 (pv 0)) (qa_cons q_int qa_nil rfl) rfl) rfl (by decide) rfl rfl) qa_nil rfl) rfl) rfl) rfl) rfl)) qa_nil rfl) rfl) rfl (by decide) rfl rfl))))))⟩) hF
theorem isTicketNumber {P : Program} {w : World} {K : PySem.W.Frag} {mg : Str → Option Value} {base : Heap} {k : Nat} {f : Addr} {fd : FuncData} (D : Df K mg "_law_ticket_number" ["_law_bag_here", "_law_inner"] sTicketNumber f fd) (m_max : mg "max" = none) (m_min : mg "min" = none) {F_Take : FF} (c_Take : Cal P w K mg base k "_law_take" ["_law_bag_here", "_law_many"] F_Take) {F_Some : FF} (c_Some : Cal P w K mg base k "_law_some" ["_law_bag_here", "_law_things"] F_Some) : Cal P w K mg base (k + 1) "_law_ticket_number" ["_law_bag_here", "_law_inner"] (fTicketNumber F_Take F_Some) := calTicketNumber D m_max m_min c_Take c_Some ends_of
abbrev sForest : Stmt := topS 16
theorem scForest : FnScope nForest ["_law_bag_here", "_law_pages_here", "_law_limit", "_law_small"] (defScope sForest) := ⟨rfl, rfl, rfl, by decide +kernel, rfl, by decide +kernel, by decide +kernel⟩
theorem calForest {P : Program} {w : World} {K : PySem.W.Frag} {mg : Str → Option Value} {base : Heap} {k : Nat} {f : Addr} {fd : FuncData} (D : Df K mg "_law_forest" ["_law_bag_here", "_law_pages_here", "_law_limit", "_law_small"] sForest f fd) (m_len : mg "len" = none) (m_list : mg "list" = none) (m_min : mg "min" = none) (m_range : mg "range" = none) (m_sorted : mg "sorted" = none) (m_tuple : mg "tuple" = none) {F_Mixed : FF} (c_Mixed : Cal P w K mg base k "_law_mixed" ["_law_bag_here", "_law_things"] F_Mixed) {F_Take : FF} (c_Take : Cal P w K mg base k "_law_take" ["_law_bag_here", "_law_many"] F_Take) {F_TicketNumber : FF} (c_TicketNumber : Cal P w K mg base k "_law_ticket_number" ["_law_bag_here", "_law_inner"] F_TicketNumber) {F_Some : FF} (c_Some : Cal P w K mg base k "_law_some" ["_law_bag_here", "_law_things"] F_Some) {Fn : FF}
    (hF : ∀ args s v s', args.length = 4 → Fn args s = some (v, s') → EndsD (gForest F_Mixed F_Take F_TicketNumber F_Some) (startD nForest args) s v s') : Cal P w K mg base (k + 1) "_law_forest" ["_law_bag_here", "_law_pages_here", "_law_limit", "_law_small"] Fn :=
  okD D scForest (fun cdv A outer s H E hg hr => ⟨_, (qs_cons (qs_par (i := 5) (j := 6) (qa_cons (q_comp rfl scForest.nd (own := [("_law_page", 10)]) (qi_data rfl (q_call c_Mixed rfl hg hr (qa_cons (q_var 0 (pv 0)) (qa_cons (q_var 1 (pv 1)) qa_nil rfl) rfl) rfl (by decide) rfl rfl)) (blkOk_by (N := nForest) (sc := defScope sForest) (by decide +kernel)) (kps_nm (by decide)) (fun _ _ _ _ _ => (qg_nm (pg_name (i := 10) scForest.nd rfl (Or.inl rfl)))) (fun _ _ _ _ _ => qt_nil) (fun _ _ _ _ _ => (q_tup (qa_cons (q_tup (qa_cons (q_var 10 (pv 10)) qa_nil rfl)) (qa_cons q_int qa_nil rfl) rfl))) (fun _ => rfl)) (qa_cons q_dnT qa_nil rfl) rfl) rfl scForest.nd rfl rfl (by decide) rfl rfl rfl rfl)
      (qs_cons (qs_for PassesOwn.never rfl (qi_range1 m_range (qa_cons (q_call c_Take rfl hg hr (qa_cons (q_var 0 (pv 0)) (qa_cons (q_op so_add op_addD (q_var 2 (pv 2)) q_int) qa_nil rfl) rfl) rfl (by decide) rfl rfl) qa_nil rfl) rfl rfl) (qg_nm (pg_name (i := 4) scForest.nd rfl (by first | exact Or.inl rfl | exact Or.inr rfl)))
        (qs_one (qs_if (qb_cmp so_ne (op_neA hr.units) (q_var 5 (pv 5)) (q_lst qa_nil) (nomark _))
        (qs_cons (qs_set (i := 7) (q_call c_Take rfl hg hr (qa_cons (q_var 0 (pv 0)) (qa_cons (q_cb sc_len Dl.call_lenD m_len (by decide +kernel) (qa_cons (q_var 5 (pv 5)) qa_nil rfl) rfl (by decide) (by decide) rfl rfl) qa_nil rfl) rfl) rfl (by decide) rfl rfl) scForest.nd rfl (by first | exact Or.inl rfl | exact Or.inr rfl) rfl (by first | exact .inl rfl | exact .inr rfl))
      (qs_cons (qs_set (i := 5) (q_op so_add op_addD (q_sl rfl (q_var 5 (pv 5)) (qo_some (q_var 7 (pv 7))) qo_none) (q_sl rfl (q_var 5 (pv 5)) qo_none (qo_some (q_var 7 (pv 7))))) scForest.nd rfl (by first | exact Or.inl rfl | exact Or.inr rfl) rfl (by first | exact .inl rfl | exact .inr rfl))
      (qs_cons (qs_set (i := 8) (q_cb sc_min2 (call_min2 rfl) m_min (by decide +kernel) (qa_cons (q_cb sc_len Dl.call_lenD m_len (by decide +kernel) (qa_cons (q_var 5 (pv 5)) qa_nil rfl) rfl (by decide) (by decide) rfl rfl) (qa_cons (q_call c_Some rfl hg hr (qa_cons (q_var 0 (pv 0)) (qa_cons (q_lst (qa_cons q_int (qa_cons q_int (qa_cons q_int (qa_cons q_int (qa_cons q_int (qa_cons (q_cb sc_len Dl.call_lenD m_len (by decide +kernel) (qa_cons (q_var 5 (pv 5)) qa_nil rfl) rfl (by decide) (by decide) rfl rfl) qa_nil rfl) rfl) rfl) rfl) rfl) rfl)) qa_nil rfl) rfl) rfl (by decide) rfl rfl) qa_nil rfl) rfl) rfl (by decide) (by decide) rfl rfl) scForest.nd rfl (by first | exact Or.inl rfl | exact Or.inr rfl) rfl (by first | exact .inl rfl | exact .inr rfl))
      (qs_cons (qs_par (i := 11) (j := 12) (qa_cons (q_lstN qa_nil) (qa_cons q_int qa_nil rfl) rfl) rfl scForest.nd rfl rfl (by decide) rfl rfl rfl rfl)
      (qs_cons (qs_for PassesOwn.never rfl (qi_data rfl (q_sl rfl (q_var 5 (pv 5)) qo_none (qo_some (q_var 8 (pv 8))))) (qg_tp rfl rfl (qgs_cons (qg_nm (pg_name (i := 13) scForest.nd rfl (by first | exact Or.inl rfl | exact Or.inr rfl))) (qgs_cons (qg_nm (pg_name (i := 9) scForest.nd rfl (by first | exact Or.inl rfl | exact Or.inr rfl))) qgs_nil rfl) rfl) rfl rfl)
        (qs_cons (qs_expr (q_extL (x := "") rfl (q_var 11 (pv 11)) (q_var 13 (pv 13)) m_list rfl rfl rfl rfl rfl rfl rfl rfl) rfl)
      (qs_one (qs_augN (i := 12) (q_var 9 (pv 9)) scForest.nd rfl (by first | exact Or.inl rfl | exact Or.inr rfl) (by first | exact .inl rfl | exact .inr rfl)))) (fun _ => rfl))
      (qs_cons (qs_set (i := 9) (q_if (qb_tru rfl (q_var 3 (pv 3)) (fun _ => rfl)) (q_call c_Take rfl hg hr (qa_cons (q_var 0 (pv 0)) (qa_cons q_int qa_nil rfl) rfl) rfl (by decide) rfl rfl) (q_call c_TicketNumber rfl hg hr (qa_cons (q_var 0 (pv 0)) (qa_cons (q_var 12 (pv 12)) qa_nil rfl) rfl) rfl (by decide) rfl rfl)) scForest.nd rfl (by first | exact Or.inl rfl | exact Or.inr rfl) rfl (by first | exact .inl rfl | exact .inr rfl))
      (qs_cons (qs_asg (q_var 9 (pv 9)) (qg_putT rfl (u1 hr.units) (q_var 6 (pv 6)) (q_cb sc_sort (call_sortD hr.units) m_sorted (by decide +kernel) (qa_cons (q_var 11 (pv 11)) qa_nil rfl) rfl (by decide) (by decide) rfl rfl) m_tuple rfl rfl rfl (fun _ => rfl)) rfl rfl rfl)
      (qs_one (qs_set (i := 5) (q_op so_add op_addD (q_sl rfl (q_var 5 (pv 5)) (qo_some (q_var 8 (pv 8))) qo_none) (q_lst (qa_cons (q_tup (qa_cons (q_ty sc_tuple call_tuple_of m_tuple (by decide +kernel) (qa_cons (q_var 11 (pv 11)) qa_nil rfl) rfl (by decide) (by decide) rfl rfl) (qa_cons (q_var 9 (pv 9)) qa_nil rfl) rfl)) qa_nil rfl))) scForest.nd rfl (by first | exact Or.inl rfl | exact Or.inr rfl) rfl (by first | exact .inl rfl | exact .inr rfl))))))))))
        qs_nil)) (fun _ => rfl))
      (qs_one (qs_ret (q_ty sc_tuple call_tuple_of m_tuple (by decide +kernel) (qa_cons (q_sortI rfl rfl hr.units m_sorted (q_var 6 (pv 6)) rfl rfl rfl rfl) qa_nil rfl) rfl (by decide) (by decide) rfl rfl)))))⟩) hF
theorem isForest {P : Program} {w : World} {K : PySem.W.Frag} {mg : Str → Option Value} {base : Heap} {k : Nat} {f : Addr} {fd : FuncData} (D : Df K mg "_law_forest" ["_law_bag_here", "_law_pages_here", "_law_limit", "_law_small"] sForest f fd) (m_len : mg "len" = none) (m_list : mg "list" = none) (m_min : mg "min" = none) (m_range : mg "range" = none) (m_sorted : mg "sorted" = none) (m_tuple : mg "tuple" = none) {F_Mixed : FF} (c_Mixed : Cal P w K mg base k "_law_mixed" ["_law_bag_here", "_law_things"] F_Mixed) {F_Take : FF} (c_Take : Cal P w K mg base k "_law_take" ["_law_bag_here", "_law_many"] F_Take) {F_TicketNumber : FF} (c_TicketNumber : Cal P w K mg base k "_law_ticket_number" ["_law_bag_here", "_law_inner"] F_TicketNumber) {F_Some : FF} (c_Some : Cal P w K mg base k "_law_some" ["_law_bag_here", "_law_things"] F_Some) : Cal P w K mg base (k + 1) "_law_forest" ["_law_bag_here", "_law_pages_here", "_law_limit", "_law_small"] (fForest F_Mixed F_Take F_TicketNumber F_Some) := calForest D m_len m_list m_min m_range m_sorted m_tuple c_Mixed c_Take c_TicketNumber c_Some ends_cut
abbrev sHas : Stmt := topS 17
theorem scHas : FnScope nHas ["_law_forest_here", "_law_page"] (defScope sHas) := ⟨rfl, rfl, rfl, by decide +kernel, rfl, by decide +kernel, by decide +kernel⟩
theorem calHas {P : Program} {w : World} {K : PySem.W.Frag} {mg : Str → Option Value} {base : Heap} {k : Nat} {f : Addr} {fd : FuncData} (D : Df K mg "_law_has" ["_law_forest_here", "_law_page"] sHas f fd) {Fn : FF}
    (hF : ∀ args s v s', args.length = 2 → Fn args s = some (v, s') → EndsD (gHas) (startD nHas args) s v s') : Cal P w K mg base (k + 1) "_law_has" ["_law_forest_here", "_law_page"] Fn :=
  okD D scHas (fun cdv A outer s H E hg hr => ⟨_, (qs_one (qs_ret (q_cmp so_ne (op_neA hr.units) (q_comp rfl scHas.nd (own := [("_law_one", 2)]) (qi_data rfl (q_var 0 (pv 0))) (blkOk_by (N := nHas) (sc := defScope sHas) (by decide +kernel)) (kps_nm (by decide)) (fun _ _ _ _ _ => (qg_nm (pg_name (i := 2) scHas.nd rfl (Or.inl rfl)))) (fun _ _ _ _ _ => (qt_one (qb_cmp (so_in _) (op_inA (u65 hr)) (q_var 1 (pv 1)) (q_ix rfl (q_var 2 (pv 2)) q_int (fun _ _ => rfl)) rfl))) (fun _ _ _ _ _ => (q_var 2 (pv 2))) (fun _ => rfl)) (q_lst qa_nil) (nomark _))))⟩) hF
theorem isHas {P : Program} {w : World} {K : PySem.W.Frag} {mg : Str → Option Value} {base : Heap} {k : Nat} {f : Addr} {fd : FuncData} (D : Df K mg "_law_has" ["_law_forest_here", "_law_page"] sHas f fd) : Cal P w K mg base (k + 1) "_law_has" ["_law_forest_here", "_law_page"] (fHas) := calHas D ends_of
abbrev sWithDue : Stmt := topS 18
theorem scWithDue : FnScope nWithDue ["_law_forest_here", "_law_page"] (defScope sWithDue) := ⟨rfl, rfl, rfl, by decide +kernel, rfl, by decide +kernel, by decide +kernel⟩
theorem calWithDue {P : Program} {w : World} {K : PySem.W.Frag} {mg : Str → Option Value} {base : Heap} {k : Nat} {f : Addr} {fd : FuncData} (D : Df K mg "_law_with_due" ["_law_forest_here", "_law_page"] sWithDue f fd) (m_enumerate : mg "enumerate" = none) (m_len : mg "len" = none) (m_sorted : mg "sorted" = none) (m_tuple : mg "tuple" = none) {Fn : FF}
    (hF : ∀ args s v s', args.length = 2 → Fn args s = some (v, s') → EndsD (gWithDue) (startD nWithDue args) s v s') : Cal P w K mg base (k + 1) "_law_with_due" ["_law_forest_here", "_law_page"] Fn :=
  okD D scWithDue (fun cdv A outer s H E hg hr => ⟨_, (qs_cons (qs_setLc (i := 2) rfl scWithDue.nd rfl rfl (sw_true rfl rfl rfl (by decide +kernel)) (own := [("_law_k", 3), ("_law_one", 4)]) (qi_enumD rfl m_enumerate (qa_cons (q_var 0 (pv 0)) qa_nil rfl) rfl rfl) (blkOk_by (N := nWithDue) (sc := defScope sWithDue) (by decide +kernel)) (kps_tp (kpss_nm (by decide) (kpss_nm (by decide) kpss_nil))) (fun _ _ _ _ _ => (qg_tp rfl rfl (qgs_cons (qg_nm (pg_name (i := 3) scWithDue.nd rfl (Or.inl rfl))) (qgs_cons (qg_nm (pg_name (i := 4) scWithDue.nd rfl (Or.inl rfl))) qgs_nil rfl) rfl) rfl rfl)) (fun _ _ _ _ _ => (qt_one (qb_cmp (so_in _) (op_inA (u65 hr)) (q_var 1 (pv 1)) (q_ix rfl (q_var 4 (pv 4)) q_int (fun _ _ => rfl)) rfl))) (fun _ _ _ _ _ => (q_tup (qa_cons (q_op so_sub op_sub q_int (q_cb sc_len Dl.call_lenD m_len (by decide +kernel) (qa_cons (q_ix rfl (q_var 4 (pv 4)) q_int (fun _ _ => rfl)) qa_nil rfl) rfl (by decide) (by decide) rfl rfl)) (qa_cons (q_var 3 (pv 3)) qa_nil rfl) rfl))) (fun _ => rfl))
      (qs_one (qs_ret (q_ty sc_tuple call_tuple_of m_tuple (by decide +kernel) (qa_cons (q_comp rfl scWithDue.nd (own := [("_law_one", 4)]) (qi_data rfl (q_cb sc_sort (call_sortD hr.units) m_sorted (by decide +kernel) (qa_cons (q_var 2 (pv 2)) qa_nil rfl) rfl (by decide) (by decide) rfl rfl)) (blkOk_by (N := nWithDue) (sc := defScope sWithDue) (by decide +kernel)) (kps_nm (by decide)) (fun _ _ _ _ _ => (qg_nm (pg_name (i := 4) scWithDue.nd rfl (Or.inl rfl)))) (fun _ _ _ _ _ => qt_nil) (fun _ _ _ _ _ => (q_ix rfl (q_var 4 (pv 4)) q_int (fun _ _ => rfl))) (fun _ => rfl)) qa_nil rfl) rfl (by decide) (by decide) rfl rfl))))⟩) hF
theorem isWithDue {P : Program} {w : World} {K : PySem.W.Frag} {mg : Str → Option Value} {base : Heap} {k : Nat} {f : Addr} {fd : FuncData} (D : Df K mg "_law_with_due" ["_law_forest_here", "_law_page"] sWithDue f fd) (m_enumerate : mg "enumerate" = none) (m_len : mg "len" = none) (m_sorted : mg "sorted" = none) (m_tuple : mg "tuple" = none) : Cal P w K mg base (k + 1) "_law_with_due" ["_law_forest_here", "_law_page"] (fWithDue) := calWithDue D m_enumerate m_len m_sorted m_tuple ends_of
abbrev sAroundsDue : Stmt := topS 19
theorem scAroundsDue : FnScope nAroundsDue ["_law_forest_here"] (defScope sAroundsDue) := ⟨rfl, rfl, rfl, by decide +kernel, rfl, by decide +kernel, by decide +kernel⟩
theorem calAroundsDue {P : Program} {w : World} {K : PySem.W.Frag} {mg : Str → Option Value} {base : Heap} {k : Nat} {f : Addr} {fd : FuncData} (D : Df K mg "_law_arounds_due" ["_law_forest_here"] sAroundsDue f fd) (m_enumerate : mg "enumerate" = none) (m_len : mg "len" = none) (m_min : mg "min" = none) (m_tuple : mg "tuple" = none) {Fn : FF}
    (hF : ∀ args s v s', args.length = 1 → Fn args s = some (v, s') → EndsD (gAroundsDue) (startD nAroundsDue args) s v s') : Cal P w K mg base (k + 1) "_law_arounds_due" ["_law_forest_here"] Fn :=
  okD D scAroundsDue (fun cdv A outer s H E hg hr => ⟨_, (qs_cons (qs_set (i := 1) (q_lstN qa_nil) scAroundsDue.nd rfl (by first | exact Or.inl rfl | exact Or.inr rfl) rfl (by first | exact .inl rfl | exact .inr rfl))
      (qs_cons (qs_for PassesOwn.never rfl (qi_data rfl (q_var 0 (pv 0))) (qg_tp rfl rfl (qgs_cons (qg_nm (pg_name (i := 2) scAroundsDue.nd rfl (by first | exact Or.inl rfl | exact Or.inr rfl))) (qgs_cons (qg_nm (pg_name (i := 3) scAroundsDue.nd rfl (by first | exact Or.inl rfl | exact Or.inr rfl))) qgs_nil rfl) rfl) rfl rfl)
        (qs_cons (qs_setLc (i := 4) rfl scAroundsDue.nd rfl rfl (sw_true rfl rfl rfl (by decide +kernel)) (own := [("_law_k", 5), ("_law_one", 6)]) (qi_enumD rfl m_enumerate (qa_cons (q_var 0 (pv 0)) qa_nil rfl) rfl rfl) (blkOk_by (N := nAroundsDue) (sc := defScope sAroundsDue) (by decide +kernel)) (kps_tp (kpss_nm (by decide) (kpss_nm (by decide) kpss_nil))) (fun _ _ _ _ _ => (qg_tp rfl rfl (qgs_cons (qg_nm (pg_name (i := 5) scAroundsDue.nd rfl (Or.inl rfl))) (qgs_cons (qg_nm (pg_name (i := 6) scAroundsDue.nd rfl (Or.inl rfl))) qgs_nil rfl) rfl) rfl rfl)) (fun _ _ _ _ _ => (qt_one (qb_w (qw_and (qb_cmp (so_cm _) (op_gtD hr.units) (q_cb sc_len Dl.call_lenD m_len (by decide +kernel) (qa_cons (q_ix rfl (q_var 6 (pv 6)) q_int (fun _ _ => rfl)) qa_nil rfl) rfl (by decide) (by decide) rfl rfl) (q_cb sc_len Dl.call_lenD m_len (by decide +kernel) (qa_cons (q_var 2 (pv 2)) qa_nil rfl) rfl (by decide) (by decide) rfl rfl) (nomark _)) (qw_and1 (qb_cmp (so_in _) (op_inA (u65 hr)) (q_ix rfl (q_var 2 (pv 2)) q_int (fun _ _ => rfl)) (q_ix rfl (q_var 6 (pv 6)) q_int (fun _ _ => rfl)) rfl)))))) (fun _ _ _ _ _ => (q_tup (qa_cons (q_cb sc_len Dl.call_lenD m_len (by decide +kernel) (qa_cons (q_ix rfl (q_var 6 (pv 6)) q_int (fun _ _ => rfl)) qa_nil rfl) rfl (by decide) (by decide) rfl rfl) (qa_cons (q_var 5 (pv 5)) qa_nil rfl) rfl))) (fun _ => rfl))
      (qs_one (qs_expr (q_app rfl (q_var 1 (pv 1)) (q_if (qb_cmp so_ne (op_neA hr.units) (q_var 4 (pv 4)) (q_lst qa_nil) (nomark _)) (q_ix rfl (q_cb sc_min (Dl.call_minD rfl hr.units) m_min (by decide +kernel) (qa_cons (q_var 4 (pv 4)) qa_nil rfl) rfl (by decide) (by decide) rfl rfl) q_int (fun _ _ => rfl)) q_non) rfl rfl rfl rfl rfl) rfl))) (fun _ => rfl))
      (qs_one (qs_ret (q_ty sc_tuple call_tuple_of m_tuple (by decide +kernel) (qa_cons (q_var 1 (pv 1)) qa_nil rfl) rfl (by decide) (by decide) rfl rfl)))))⟩) hF
theorem isAroundsDue {P : Program} {w : World} {K : PySem.W.Frag} {mg : Str → Option Value} {base : Heap} {k : Nat} {f : Addr} {fd : FuncData} (D : Df K mg "_law_arounds_due" ["_law_forest_here"] sAroundsDue f fd) (m_enumerate : mg "enumerate" = none) (m_len : mg "len" = none) (m_min : mg "min" = none) (m_tuple : mg "tuple" = none) : Cal P w K mg base (k + 1) "_law_arounds_due" ["_law_forest_here"] (fAroundsDue) := calAroundsDue D m_enumerate m_len m_min m_tuple ends_cut
abbrev sLetsDue : Stmt := topS 20
theorem scLetsDue : FnScope nLetsDue ["_law_forest_here", "_law_page"] (defScope sLetsDue) := ⟨rfl, rfl, rfl, by decide +kernel, rfl, by decide +kernel, by decide +kernel⟩
theorem calLetsDue {P : Program} {w : World} {K : PySem.W.Frag} {mg : Str → Option Value} {base : Heap} {k : Nat} {f : Addr} {fd : FuncData} (D : Df K mg "_law_lets_due" ["_law_forest_here", "_law_page"] sLetsDue f fd) {Fn : FF}
    (hF : ∀ args s v s', args.length = 2 → Fn args s = some (v, s') → EndsD (gLetsDue) (startD nLetsDue args) s v s') : Cal P w K mg base (k + 1) "_law_lets_due" ["_law_forest_here", "_law_page"] Fn :=
  okD D scLetsDue (fun cdv A outer s H E hg hr => ⟨_, (qs_cons (qs_setLc (i := 2) rfl scLetsDue.nd rfl rfl (sw_true rfl rfl rfl (by decide +kernel)) (own := [("_law_one", 3)]) (qi_data rfl (q_var 0 (pv 0))) (blkOk_by (N := nLetsDue) (sc := defScope sLetsDue) (by decide +kernel)) (kps_nm (by decide)) (fun _ _ _ _ _ => (qg_nm (pg_name (i := 3) scLetsDue.nd rfl (Or.inl rfl)))) (fun _ _ _ _ _ => (qt_one (qb_cmp (so_in _) (op_inA (u65 hr)) (q_var 1 (pv 1)) (q_ix rfl (q_var 3 (pv 3)) q_int (fun _ _ => rfl)) rfl))) (fun _ _ _ _ _ => (q_ix rfl (q_var 3 (pv 3)) q_int (fun _ _ => rfl))) (fun _ => rfl))
      (qs_one (qs_ret (q_and rfl (q_cmp so_ne (op_neA hr.units) (q_var 2 (pv 2)) (q_lst qa_nil) (nomark _)) (q_one (q_cmp (so_in _) (op_niA (u65 hr)) q_int (q_var 2 (pv 2)) rfl))))))⟩) hF
theorem isLetsDue {P : Program} {w : World} {K : PySem.W.Frag} {mg : Str → Option Value} {base : Heap} {k : Nat} {f : Addr} {fd : FuncData} (D : Df K mg "_law_lets_due" ["_law_forest_here", "_law_page"] sLetsDue f fd) : Cal P w K mg base (k + 1) "_law_lets_due" ["_law_forest_here", "_law_page"] (fLetsDue) := calLetsDue D ends_of
abbrev sSpentDue : Stmt := topS 21
theorem scSpentDue : FnScope nSpentDue ["_law_forest_here", "_law_page"] (defScope sSpentDue) := ⟨rfl, rfl, rfl, by decide +kernel, rfl, by decide +kernel, by decide +kernel⟩
theorem calSpentDue {P : Program} {w : World} {K : PySem.W.Frag} {mg : Str → Option Value} {base : Heap} {k : Nat} {f : Addr} {fd : FuncData} (D : Df K mg "_law_spent_due" ["_law_forest_here", "_law_page"] sSpentDue f fd) (m_int : mg "int" = none) (m_tuple : mg "tuple" = none) {Fn : FF}
    (hF : ∀ args s v s', args.length = 2 → Fn args s = some (v, s') → EndsD (gSpentDue) (startD nSpentDue args) s v s') : Cal P w K mg base (k + 1) "_law_spent_due" ["_law_forest_here", "_law_page"] Fn :=
  okD D scSpentDue (fun cdv A outer s H E hg hr => ⟨_, (qs_one (qs_ret (q_ty sc_tuple call_tuple_of m_tuple (by decide +kernel) (qa_cons (q_comp rfl scSpentDue.nd (own := [("_law_one", 2)]) (qi_data rfl (q_var 0 (pv 0))) (blkOk_by (N := nSpentDue) (sc := defScope sSpentDue) (by decide +kernel)) (kps_nm (by decide)) (fun _ _ _ _ _ => (qg_nm (pg_name (i := 2) scSpentDue.nd rfl (Or.inl rfl)))) (fun _ _ _ _ _ => qt_nil) (fun _ _ _ _ _ => (q_tup (qa_cons (q_ix rfl (q_var 2 (pv 2)) q_int (fun _ _ => rfl)) (qa_cons (q_op so_sub op_sub (q_ix rfl (q_var 2 (pv 2)) q_int (fun _ _ => rfl)) (q_ty sc_int call_int1 m_int (by decide +kernel) (qa_cons (q_cmp (so_in _) (op_inA (u65 hr)) (q_var 1 (pv 1)) (q_ix rfl (q_var 2 (pv 2)) q_int (fun _ _ => rfl)) rfl) qa_nil rfl) rfl (by decide) (by decide) rfl rfl)) qa_nil rfl) rfl))) (fun _ => rfl)) qa_nil rfl) rfl (by decide) (by decide) rfl rfl)))⟩) hF
theorem isSpentDue {P : Program} {w : World} {K : PySem.W.Frag} {mg : Str → Option Value} {base : Heap} {k : Nat} {f : Addr} {fd : FuncData} (D : Df K mg "_law_spent_due" ["_law_forest_here", "_law_page"] sSpentDue f fd) (m_int : mg "int" = none) (m_tuple : mg "tuple" = none) : Cal P w K mg base (k + 1) "_law_spent_due" ["_law_forest_here", "_law_page"] (fSpentDue) := calSpentDue D m_int m_tuple ends_of
abbrev sPLaw : Stmt := topS 22
theorem scPLaw : FnScope nPLaw ["_law_script"] (defScope sPLaw) := ⟨rfl, rfl, rfl, by decide +kernel, rfl, by decide +kernel, by decide +kernel⟩
theorem calPLaw {P : Program} {w : World} {K : PySem.W.Frag} {mg : Str → Option Value} {base : Heap} {k : Nat} {f : Addr} {fd : FuncData} (D : Df K mg "law" ["_law_script"] sPLaw f fd) (m_len : mg "len" = none) (m_min : mg "min" = none) (m_range : mg "range" = none) {F_Bag : FF} (c_Bag : Cal P w K mg base k "_law_bag" ["_law_script"] F_Bag) {F_Take : FF} (c_Take : Cal P w K mg base k "_law_take" ["_law_bag_here", "_law_many"] F_Take) {F_Alike : FF} (c_Alike : Cal P w K mg base k "_law_alike" ["_law_found", "_law_due"] F_Alike) {F_PLessened : FF} (c_PLessened : Cal P w K mg base k "lessened" ["forest", "lot", "number"] F_PLessened) {F_Some : FF} (c_Some : Cal P w K mg base k "_law_some" ["_law_bag_here", "_law_things"] F_Some) {F_PSpent : FF} (c_PSpent : Cal P w K mg base k "spent" ["forest", "page"] F_PSpent) {F_SpentDue : FF} (c_SpentDue : Cal P w K mg base k "_law_spent_due" ["_law_forest_here", "_law_page"] F_SpentDue) {F_LetsDue : FF} (c_LetsDue : Cal P w K mg base k "_law_lets_due" ["_law_forest_here", "_law_page"] F_LetsDue) {F_PLets : FF} (c_PLets : Cal P w K mg base k "lets" ["forest", "page"] F_PLets) {F_Has : FF} (c_Has : Cal P w K mg base k "_law_has" ["_law_forest_here", "_law_page"] F_Has) {F_PHasPage : FF} (c_PHasPage : Cal P w K mg base k "has_page" ["forest", "page"] F_PHasPage) {F_WithDue : FF} (c_WithDue : Cal P w K mg base k "_law_with_due" ["_law_forest_here", "_law_page"] F_WithDue) {F_PTicketsWith : FF} (c_PTicketsWith : Cal P w K mg base k "tickets_with" ["forest", "page"] F_PTicketsWith) {F_AroundsDue : FF} (c_AroundsDue : Cal P w K mg base k "_law_arounds_due" ["_law_forest_here"] F_AroundsDue) {F_PArounds : FF} (c_PArounds : Cal P w K mg base k "arounds" ["forest"] F_PArounds) {F_Forest : FF} (c_Forest : Cal P w K mg base k "_law_forest" ["_law_bag_here", "_law_pages_here", "_law_limit", "_law_small"] F_Forest) {F_Pages : FF} (c_Pages : Cal P w K mg base k "_law_pages" ["_law_bag_here", "_law_many"] F_Pages) {Fn : FF}
    (hF : ∀ args s v s', args.length = 1 → Fn args s = some (v, s') → EndsD (gPLaw F_Bag F_Take F_Alike F_PLessened F_Some F_PSpent F_SpentDue F_LetsDue F_PLets F_Has F_PHasPage F_WithDue F_PTicketsWith F_AroundsDue F_PArounds F_Forest F_Pages) (startD nPLaw args) s v s') : FnG P w K mg base (k + 1) f fd ["_law_script"] (spD K 1 Fn) :=
  okDF D scPLaw (fun cdv A outer s H E hg hr => ⟨_, (qs_cons (qs_set (i := 1) (q_call c_Bag rfl hg hr (qa_cons (q_var 0 (pv 0)) qa_nil rfl) rfl (by decide) rfl rfl) scPLaw.nd rfl (by first | exact Or.inl rfl | exact Or.inr rfl) rfl (by first | exact .inl rfl | exact .inr rfl))
      (qs_cons (qs_for PassesOwn.never rfl (qi_range1 m_range (qa_cons q_int qa_nil rfl) rfl rfl) (qg_nm (pg_name (i := 2) scPLaw.nd rfl (by first | exact Or.inl rfl | exact Or.inr rfl)))
        (qs_cons (qs_set (i := 3) (q_call c_Pages rfl hg hr (qa_cons (q_var 1 (pv 1)) (qa_cons (q_call c_Some rfl hg hr (qa_cons (q_var 1 (pv 1)) (qa_cons (q_lst (qa_cons q_int (qa_cons q_int (qa_cons q_int (qa_cons q_int (qa_cons q_int (qa_cons q_int qa_nil rfl) rfl) rfl) rfl) rfl) rfl)) qa_nil rfl) rfl) rfl (by decide) rfl rfl) qa_nil rfl) rfl) rfl (by decide) rfl rfl) scPLaw.nd rfl (by first | exact Or.inl rfl | exact Or.inr rfl) rfl (by first | exact .inl rfl | exact .inr rfl))
      (qs_cons (qs_set (i := 4) (q_call c_Forest rfl hg hr (qa_cons (q_var 1 (pv 1)) (qa_cons (q_var 3 (pv 3)) (qa_cons q_int (qa_cons (q_cmp so_eq (Dl.op_eqD hr.units) (q_call c_Take rfl hg hr (qa_cons (q_var 1 (pv 1)) (qa_cons q_int qa_nil rfl) rfl) rfl (by decide) rfl rfl) q_int (nomark _)) qa_nil rfl) rfl) rfl) rfl) rfl (by decide) rfl rfl) scPLaw.nd rfl (by first | exact Or.inl rfl | exact Or.inr rfl) rfl (by first | exact .inl rfl | exact .inr rfl))
      (qs_cons (qs_if (qb_not (qb_tru rfl (q_call c_Alike rfl hg hr (qa_cons (q_call c_PArounds rfl hg hr (qa_cons (q_var 4 (pv 4)) qa_nil rfl) rfl (by decide) rfl rfl) (qa_cons (q_call c_AroundsDue rfl hg hr (qa_cons (q_var 4 (pv 4)) qa_nil rfl) rfl (by decide) rfl rfl) qa_nil rfl) rfl) rfl (by decide) rfl rfl) (fun _ => rfl)))
        (qs_one (qs_ret q_bl))
        qs_nil)
      (qs_one (qs_for PassesOwn.never rfl (qi_range1 m_range (qa_cons q_int qa_nil rfl) rfl rfl) (qg_nm (pg_name (i := 5) scPLaw.nd rfl (by first | exact Or.inl rfl | exact Or.inr rfl)))
        (qs_cons (qs_for PassesOwn.never rfl (qi_data rfl (q_op so_add op_addD (q_var 3 (pv 3)) (q_lst (qa_cons (q_op so_add op_addD (q_ix rfl (q_var 3 (pv 3)) (q_neg q_int) (fun _ _ => rfl)) q_int) (qa_cons q_int qa_nil rfl) rfl)))) (qg_nm (pg_name (i := 6) scPLaw.nd rfl (by first | exact Or.inl rfl | exact Or.inr rfl)))
        (qs_cons (qs_if (qb_not (qb_tru rfl (q_call c_Alike rfl hg hr (qa_cons (q_D (q_call c_PTicketsWith rfl hg hr (qa_cons (q_var 4 (pv 4)) (qa_cons (q_var 6 (pv 6)) qa_nil rfl) rfl) rfl (by decide) rfl rfl)) (qa_cons (q_call c_WithDue rfl hg hr (qa_cons (q_var 4 (pv 4)) (qa_cons (q_var 6 (pv 6)) qa_nil rfl) rfl) rfl (by decide) rfl rfl) qa_nil rfl) rfl) rfl (by decide) rfl rfl) (fun _ => rfl)))
        (qs_one (qs_ret q_bl))
        qs_nil)
      (qs_cons (qs_if (qb_not (qb_tru rfl (q_call c_Alike rfl hg hr (qa_cons (q_call c_PHasPage rfl hg hr (qa_cons (q_var 4 (pv 4)) (qa_cons (q_var 6 (pv 6)) qa_nil rfl) rfl) rfl (by decide) rfl rfl) (qa_cons (q_call c_Has rfl hg hr (qa_cons (q_var 4 (pv 4)) (qa_cons (q_var 6 (pv 6)) qa_nil rfl) rfl) rfl (by decide) rfl rfl) qa_nil rfl) rfl) rfl (by decide) rfl rfl) (fun _ => rfl)))
        (qs_one (qs_ret q_bl))
        qs_nil)
      (qs_one (qs_if (qb_not (qb_tru rfl (q_call c_Alike rfl hg hr (qa_cons (q_call c_PLets rfl hg hr (qa_cons (q_var 4 (pv 4)) (qa_cons (q_var 6 (pv 6)) qa_nil rfl) rfl) rfl (by decide) rfl rfl) (qa_cons (q_call c_LetsDue rfl hg hr (qa_cons (q_var 4 (pv 4)) (qa_cons (q_var 6 (pv 6)) qa_nil rfl) rfl) rfl (by decide) rfl rfl) qa_nil rfl) rfl) rfl (by decide) rfl rfl) (fun _ => rfl)))
        (qs_one (qs_ret q_bl))
        qs_nil)))) (fun _ => rfl))
      (qs_cons (qs_setLc (i := 7) rfl scPLaw.nd rfl rfl (sw_true rfl rfl rfl (by decide +kernel)) (own := [("_law_page", 6)]) (qi_data rfl (q_var 3 (pv 3))) (blkOk_by (N := nPLaw) (sc := defScope sPLaw) (by decide +kernel)) (kps_nm (by decide)) (fun _ _ _ _ _ => (qg_nm (pg_name (i := 6) scPLaw.nd rfl (Or.inl rfl)))) (fun _ _ _ _ _ => (qt_one (qb_tru rfl (q_call c_LetsDue rfl hg hr (qa_cons (q_var 4 (pv 4)) (qa_cons (q_var 6 (pv 6)) qa_nil rfl) rfl) rfl (by decide) rfl rfl) (fun _ => rfl)))) (fun _ _ _ _ _ => (q_var 6 (pv 6))) (fun _ => rfl))
      (qs_cons (qs_if (qb_cmp so_ne (op_neA hr.units) (q_var 7 (pv 7)) (q_lst qa_nil) (nomark _))
        (qs_cons (qs_set (i := 6) (q_call c_Some rfl hg hr (qa_cons (q_var 1 (pv 1)) (qa_cons (q_var 7 (pv 7)) qa_nil rfl) rfl) rfl (by decide) rfl rfl) scPLaw.nd rfl (by first | exact Or.inl rfl | exact Or.inr rfl) rfl (by first | exact .inl rfl | exact .inr rfl))
      (qs_cons (qs_set (i := 8) (q_call c_SpentDue rfl hg hr (qa_cons (q_var 4 (pv 4)) (qa_cons (q_var 6 (pv 6)) qa_nil rfl) rfl) rfl (by decide) rfl rfl) scPLaw.nd rfl (by first | exact Or.inl rfl | exact Or.inr rfl) rfl (by first | exact .inl rfl | exact .inr rfl))
      (qs_cons (qs_if (qb_w (qw_or (qb_not (qb_tru rfl (q_call c_Alike rfl hg hr (qa_cons (q_call c_PSpent rfl hg hr (qa_cons (q_var 4 (pv 4)) (qa_cons (q_var 6 (pv 6)) qa_nil rfl) rfl) rfl (by decide) rfl rfl) (qa_cons (q_var 8 (pv 8)) qa_nil rfl) rfl) rfl (by decide) rfl rfl) (fun _ => rfl))) (qw_or1 (qb_not (qb_tru rfl (q_call c_Alike rfl hg hr (qa_cons (q_call c_PSpent rfl hg hr (qa_cons (q_var 4 (pv 4)) (qa_cons (q_var 6 (pv 6)) qa_nil rfl) rfl) rfl (by decide) rfl rfl) (qa_cons (q_var 8 (pv 8)) qa_nil rfl) rfl) rfl (by decide) rfl rfl) (fun _ => rfl))))))
        (qs_one (qs_ret q_bl))
        qs_nil)
      (qs_one (qs_set (i := 4) (q_var 8 (pv 8)) scPLaw.nd rfl (by first | exact Or.inl rfl | exact Or.inr rfl) rfl (by first | exact .inl rfl | exact .inr rfl))))))
        qs_nil)
      (qs_one (qs_if (qb_w (qw_and (qb_cmp so_ne (op_neA hr.units) (q_var 4 (pv 4)) (q_tup qa_nil) (nomark _)) (qw_and1 (qb_cmp so_eq (Dl.op_eqD hr.units) (q_call c_Take rfl hg hr (qa_cons (q_var 1 (pv 1)) (qa_cons q_int qa_nil rfl) rfl) rfl (by decide) rfl rfl) q_int (nomark _)))))
        (qs_cons (qs_set (i := 9) (q_call c_Take rfl hg hr (qa_cons (q_var 1 (pv 1)) (qa_cons (q_cb sc_len Dl.call_lenD m_len (by decide +kernel) (qa_cons (q_var 4 (pv 4)) qa_nil rfl) rfl (by decide) (by decide) rfl rfl) qa_nil rfl) rfl) rfl (by decide) rfl rfl) scPLaw.nd rfl (by first | exact Or.inl rfl | exact Or.inr rfl) rfl (by first | exact .inl rfl | exact .inr rfl))
      (qs_cons (qs_asg (q_ix rfl (q_var 4 (pv 4)) (q_var 9 (pv 9)) (fun _ _ => rfl)) (qg_tp rfl rfl (qgs_cons (qg_nm (pg_name (i := 11) scPLaw.nd rfl (by first | exact Or.inl rfl | exact Or.inr rfl))) (qgs_cons (qg_nm (pg_name (i := 10) scPLaw.nd rfl (by first | exact Or.inl rfl | exact Or.inr rfl))) qgs_nil rfl) rfl) rfl rfl) rfl rfl rfl)
      (qs_cons (qs_set (i := 10) (q_call c_Some rfl hg hr (qa_cons (q_var 1 (pv 1)) (qa_cons (q_lst (qa_cons q_int (qa_cons (q_var 10 (pv 10)) (qa_cons (q_op so_div op_fdivW (q_var 10 (pv 10)) q_int) (qa_cons (q_cb sc_min2 (call_min2 rfl) m_min (by decide +kernel) (qa_cons q_int (qa_cons (q_op so_add op_addD (q_var 10 (pv 10)) q_int) qa_nil rfl) rfl) rfl (by decide) (by decide) rfl rfl) (qa_cons q_int qa_nil rfl) rfl) rfl) rfl) rfl)) qa_nil rfl) rfl) rfl (by decide) rfl rfl) scPLaw.nd rfl (by first | exact Or.inl rfl | exact Or.inr rfl) rfl (by first | exact .inl rfl | exact .inr rfl))
      (qs_cons (qs_set (i := 8) (q_op so_add op_addD (q_op so_add op_addD (q_sl rfl (q_var 4 (pv 4)) qo_none (qo_some (q_var 9 (pv 9)))) (q_tup (qa_cons (q_tup (qa_cons (q_var 11 (pv 11)) (qa_cons (q_var 10 (pv 10)) qa_nil rfl) rfl)) qa_nil rfl))) (q_sl rfl (q_var 4 (pv 4)) (qo_some (q_op so_add op_addD (q_var 9 (pv 9)) q_int)) qo_none)) scPLaw.nd rfl (by first | exact Or.inl rfl | exact Or.inr rfl) rfl (by first | exact .inl rfl | exact .inr rfl))
      (qs_cons (qs_if (qb_not (qb_tru rfl (q_call c_Alike rfl hg hr (qa_cons (q_call c_PLessened rfl hg hr (qa_cons (q_var 4 (pv 4)) (qa_cons (q_var 11 (pv 11)) (qa_cons (q_var 10 (pv 10)) qa_nil rfl) rfl) rfl) rfl (by decide) rfl rfl) (qa_cons (q_var 8 (pv 8)) qa_nil rfl) rfl) rfl (by decide) rfl rfl) (fun _ => rfl)))
        (qs_one (qs_ret q_bl))
        qs_nil)
      (qs_one (qs_set (i := 4) (q_if (qb_cmp so_eq (Dl.op_eqD hr.units) (q_call c_Take rfl hg hr (qa_cons (q_var 1 (pv 1)) (qa_cons q_int qa_nil rfl) rfl) rfl (by decide) rfl rfl) q_int (nomark _)) (q_var 8 (pv 8)) (q_var 4 (pv 4))) scPLaw.nd rfl (by first | exact Or.inl rfl | exact Or.inr rfl) rfl (by first | exact .inl rfl | exact .inr rfl))))))))
        qs_nil))))) (fun _ => rfl)))))) (fun _ => rfl))
      (qs_one (qs_ret q_bl))))⟩) hF
theorem isPLaw {P : Program} {w : World} {K : PySem.W.Frag} {mg : Str → Option Value} {base : Heap} {k : Nat} {f : Addr} {fd : FuncData} (D : Df K mg "law" ["_law_script"] sPLaw f fd) (m_len : mg "len" = none) (m_min : mg "min" = none) (m_range : mg "range" = none) {F_Bag : FF} (c_Bag : Cal P w K mg base k "_law_bag" ["_law_script"] F_Bag) {F_Take : FF} (c_Take : Cal P w K mg base k "_law_take" ["_law_bag_here", "_law_many"] F_Take) {F_Alike : FF} (c_Alike : Cal P w K mg base k "_law_alike" ["_law_found", "_law_due"] F_Alike) {F_PLessened : FF} (c_PLessened : Cal P w K mg base k "lessened" ["forest", "lot", "number"] F_PLessened) {F_Some : FF} (c_Some : Cal P w K mg base k "_law_some" ["_law_bag_here", "_law_things"] F_Some) {F_PSpent : FF} (c_PSpent : Cal P w K mg base k "spent" ["forest", "page"] F_PSpent) {F_SpentDue : FF} (c_SpentDue : Cal P w K mg base k "_law_spent_due" ["_law_forest_here", "_law_page"] F_SpentDue) {F_LetsDue : FF} (c_LetsDue : Cal P w K mg base k "_law_lets_due" ["_law_forest_here", "_law_page"] F_LetsDue) {F_PLets : FF} (c_PLets : Cal P w K mg base k "lets" ["forest", "page"] F_PLets) {F_Has : FF} (c_Has : Cal P w K mg base k "_law_has" ["_law_forest_here", "_law_page"] F_Has) {F_PHasPage : FF} (c_PHasPage : Cal P w K mg base k "has_page" ["forest", "page"] F_PHasPage) {F_WithDue : FF} (c_WithDue : Cal P w K mg base k "_law_with_due" ["_law_forest_here", "_law_page"] F_WithDue) {F_PTicketsWith : FF} (c_PTicketsWith : Cal P w K mg base k "tickets_with" ["forest", "page"] F_PTicketsWith) {F_AroundsDue : FF} (c_AroundsDue : Cal P w K mg base k "_law_arounds_due" ["_law_forest_here"] F_AroundsDue) {F_PArounds : FF} (c_PArounds : Cal P w K mg base k "arounds" ["forest"] F_PArounds) {F_Forest : FF} (c_Forest : Cal P w K mg base k "_law_forest" ["_law_bag_here", "_law_pages_here", "_law_limit", "_law_small"] F_Forest) {F_Pages : FF} (c_Pages : Cal P w K mg base k "_law_pages" ["_law_bag_here", "_law_many"] F_Pages) : FnG P w K mg base (k + 1) f fd ["_law_script"] (spD K 1 (fPLaw F_Bag F_Take F_Alike F_PLessened F_Some F_PSpent F_SpentDue F_LetsDue F_PLets F_Has F_PHasPage F_WithDue F_PTicketsWith F_AroundsDue F_PArounds F_Forest F_Pages)) := calPLaw D m_len m_min m_range c_Bag c_Take c_Alike c_PLessened c_Some c_PSpent c_SpentDue c_LetsDue c_PLets c_Has c_PHasPage c_WithDue c_PTicketsWith c_AroundsDue c_PArounds c_Forest c_Pages ends_of
end D06

set_option Elab.async false
set_option linter.all false
set_option maxRecDepth 100000
set_option maxHeartbeats 4000000
namespace Gs
open PySem PySem.Spec PyProof.Rows L2 Pg Dl
def bagR (h s p : Int) (C : List PyData) : Cell := .lst [.d (.int h), .d (.int s), .d (.int p), .d (.list C)]
def bagC (h s p : Int) (cs : List Int) : Cell := bagR h s p (cs.map .int)
structure BagOk (h s p : Int) (cs : List Int) : Prop where
  h0 : 0 ≤ h
  s0 : 0 ≤ s
  s1 : s < 2147483647
  p0 : 0 ≤ p
  pos : ∀ n ∈ cs, 0 ≤ n
  few : cs.length ≤ 63
theorem at4_0 {α : Type} (a b c d : α) : atI [a, b, c, d] 0 = some a := rfl
theorem at4_1 {α : Type} (a b c d : α) : atI [a, b, c, d] 1 = some b := rfl
theorem at4_2 {α : Type} (a b c d : α) : atI [a, b, c, d] 2 = some c := rfl
theorem at4_3 {α : Type} (a b c d : α) : atI [a, b, c, d] 3 = some d := rfl
theorem ix4_0 : ixN 4 0 = some 0 := rfl
theorem ix4_1 : ixN 4 1 = some 1 := rfl
theorem ix4_2 : ixN 4 2 = some 2 := rfl
theorem sl0 : HT.sIx 0 0 none = 0 := rfl
/-- the first cell from p on, 0 behind them -/
def cellAt (cs : List Int) (p : Int) : Int := ((cs.drop (HT.sIx cs.length 0 (some p))) ++ [0]).headD 0
theorem gSl_map (cs : List Int) (lo : Option Int) : gSl lo none (.list (cs.map .int)) = some (.list ((cs.drop (HT.sIx cs.length 0 lo)).map .int)) := by
  show some (PyData.list (Dl.cutD (cs.map .int) lo none)) = _
  unfold Dl.cutD
  rw [List.length_map, ← List.map_drop, ← List.map_take]
  have : HT.sIx cs.length cs.length none = cs.length := rfl
  rw [this, List.take_of_length_le]
  rw [List.length_drop]
  exact Nat.le_refl _
theorem cell_ex {cs : List Int} (pos : ∀ n ∈ cs, 0 ≤ n) (k : Nat) : ∃ c : Int, 0 ≤ c ∧ atI ((cs.drop k).map PyData.int ++ [.int 0]) 0 = some (.int c) := by
  cases hd : cs.drop k with
  | nil => exact ⟨0, Int.le_refl 0, rfl⟩
  | cons c r => exact ⟨c, pos c (List.mem_of_mem_drop (by rw [hd]; exact List.mem_cons_self)), by rw [List.map_cons, List.cons_append]; exact atI_zero _ _⟩
theorem take1 {h s p : Int} {cs : List Int} {many : Vd} {tb : Cell} {rest : Sto} (ok : BagOk h s p cs) :
    ∃ h' s' p' u v, gTake_1 [some (.r 1), some many, none, none, none, none, none] (tb :: bagC h s p cs :: rest) = some (.nx [some (.r 1), some many, none, none, u, v, none] (tb :: bagC h' s' p' cs :: rest)) ∧ BagOk h' s' p' cs := by
  obtain ⟨h0, s0, s1, p0, pos, few⟩ := ok
  unfold bagC
  by_cases hh : h = 0
  · subst hh
    obtain ⟨L, c, c0, hl, hs, hc⟩ : ∃ (L : List PyData) (c : Int), 0 ≤ c ∧ gSl (some p) none (.list (cs.map .int)) = some (.list L) ∧ gAdd (.list L) (.list [.int 0]) = some (.list (L ++ [.int 0])) ∧ atI (L ++ [.int 0]) 0 = some (.int c) := by
      obtain ⟨c, c0, hc⟩ := cell_ex pos (HT.sIx cs.length 0 (some p))
      exact ⟨_, c, c0, gSl_map cs _, gAdd_fit (by simp; omega), hc⟩
    have mk : ∀ h' s' p', 0 ≤ h' → 0 ≤ s' → s' < 2147483647 → 0 ≤ p' → BagOk h' s' p' cs := fun _ _ _ a b c d => ⟨a, b, c, d, pos, few⟩
    generalize cs.map PyData.int = C at hl ⊢
    have k1 : gMulD (.int s) (.int 48271) = some (.int (s * 48271)) := gMul_r (by decide)
    have k2 : gMulD (.int 7919) (.int (p + 1)) = some (.int (7919 * (p + 1))) := gMul_l (by decide)
    have k3 : ∀ i : Int, gMod (.int i) (.int 2147483647) = some (.int (i % 2147483647)) := fun i => gMod_int (by decide)
    have k4 : gPow (.int 10) (.int 18) = some (.int (10 ^ 18)) := gPow_int (by decide) (by decide) (by decide)
    have one : 1 ≤ sizeLine := by decide
    by_cases hb : c < 1000000000000000000
    · refine ⟨0, (s * 48271 + c % 2147483647 + 7919 * (p + 1)) % 2147483647, p + 1, some (.d (.int c)), some (.d (.int (s * 48271 + c % 2147483647 + 7919 * (p + 1)))), ?_, mk _ _ _ h0 (Int.emod_nonneg _ (by decide)) (Int.emod_lt_of_pos _ (by decide)) (by omega)⟩
      simp [gTake_1, sSeq, sIf, sRet, sAsg, sDrop, sNext, sAugI, sAug, sFor, forD, sPar, sAsgT, eVar, eC, eOp, eFz, bVal, bTru, truD, bAnd, bOr, bNot, eIf, eAnd, eOr, eNot, aNil, aCons, eTup, eLst, eLstN, eIxC, eSl, oNo, oSome, eCB, looks, lookR, datas, eIs, eCall, eNeg, tNm, tTp, tsNil, tsCons, tPut, iData, iRange1, iRange2, iEnumL, iZipF, eComp, eCompN, bYes, startD, gEq_int, gIx, bagR, at4_0, at4_1, at4_2, at4_3, ix4_0, ix4_1, ix4_2, hl, gCm_int, lt_int_, hs, hc, k1, k2, k3, k4, gAdd_int, one, hb, gInt]
    · refine ⟨c, (s * 48271 + c % 2147483647 + 7919 * (p + 1)) % 2147483647, p + 1, some (.d (.int c)), some (.d (.int (s * 48271 + c % 2147483647 + 7919 * (p + 1)))), ?_, mk _ _ _ c0 (Int.emod_nonneg _ (by decide)) (Int.emod_lt_of_pos _ (by decide)) (by omega)⟩
      simp [gTake_1, sSeq, sIf, sRet, sAsg, sDrop, sNext, sAugI, sAug, sFor, forD, sPar, sAsgT, eVar, eC, eOp, eFz, bVal, bTru, truD, bAnd, bOr, bNot, eIf, eAnd, eOr, eNot, aNil, aCons, eTup, eLst, eLstN, eIxC, eSl, oNo, oSome, eCB, looks, lookR, datas, eIs, eCall, eNeg, tNm, tTp, tsNil, tsCons, tPut, iData, iRange1, iRange2, iEnumL, iZipF, eComp, eCompN, bYes, startD, gEq_int, gIx, bagR, at4_0, at4_1, at4_2, at4_3, ix4_0, ix4_1, ix4_2, hl, gCm_int, lt_int_, hs, hc, k1, k2, k3, k4, gAdd_int, one, hb, gInt]
  · refine ⟨h, s, p, none, none, ?_, ⟨h0, s0, s1, p0, pos, few⟩⟩
    simp [gTake_1, sSeq, sIf, sRet, sAsg, sDrop, sNext, sAugI, sAug, sFor, forD, sPar, sAsgT, eVar, eC, eOp, eFz, bVal, bTru, truD, bAnd, bOr, bNot, eIf, eAnd, eOr, eNot, aNil, aCons, eTup, eLst, eLstN, eIxC, eSl, oNo, oSome, eCB, looks, lookR, datas, eIs, eCall, eNeg, tNm, tTp, tsNil, tsCons, tPut, iData, iRange1, iRange2, iEnumL, iZipF, eComp, eCompN, bYes, startD, gEq_int, bagR, at4_0, hh]
theorem take_ev {h s p : Int} {cs : List Int} {many : Int} {tb : Cell} {rest : Sto} (ok : BagOk h s p cs) (m0 : 0 < many) (m1 : many < 2 ^ 60) :
    ∃ z h' s' p', fTake [.r 1, .d (.int many)] (tb :: bagC h s p cs :: rest) = some (.d (.int z), tb :: bagC h' s' p' cs :: rest) ∧ BagOk h' s' p' cs ∧ 0 ≤ z ∧ z < many := by
  obtain ⟨h1, s1, p1, u, v, e1, ok1⟩ := take1 (many := .d (.int many)) (rest := rest) ok
  have dm : gDiv (.int h1) (.int many) = some (.int (h1 / many)) := gDiv_int m0 (Nat.lt_of_lt_of_le (log2_le (k := 60) (by omega) (by decide)) (by decide))
  have mm : ∀ i : Int, gMod (.int i) (.int many) = some (.int (i % many)) := fun i => gMod_int m0
  have start : startD nTake [.r 1, .d (.int many)] = [some (.r 1), some (.d (.int many)), none, none, none, none, none] := rfl
  obtain ⟨h0, s0, s2, p0, pos, few⟩ := ok1
  have fin : ∀ z c', gTake (startD nTake [.r 1, .d (.int many)]) (tb :: bagC h s p cs :: rest) = some (.rt (.d (.int z)) (tb :: c' :: rest)) → fTake [.r 1, .d (.int many)] (tb :: bagC h s p cs :: rest) = some (.d (.int z), tb :: c' :: rest) := fun z c' e => fnOf_eq e (by simp)
  have mk : ∀ h' s' p', 0 ≤ h' → 0 ≤ s' → s' < 2147483647 → 0 ≤ p' → BagOk h' s' p' cs := fun _ _ _ a b c d => ⟨a, b, c, d, pos, few⟩
  by_cases hp : 0 < h1
  · refine ⟨h1 % many, h1 / many, s1, p1, fin _ _ ?_, mk _ _ _ (Int.ediv_nonneg h0 (by omega)) s0 s2 p0, Int.emod_nonneg _ (by omega), Int.emod_lt_of_pos _ m0⟩
    rw [start]
    unfold gTake
    rw [ev_seq e1]
    unfold bagC
    generalize cs.map PyData.int = C
    simp [gTake_2, sSeq, sIf, sRet, sAsg, sDrop, sNext, sAugI, sAug, sFor, forD, sPar, sAsgT, eVar, eC, eOp, eFz, bVal, bTru, truD, bAnd, bOr, bNot, eIf, eAnd, eOr, eNot, aNil, aCons, eTup, eLst, eLstN, eIxC, eSl, oNo, oSome, eCB, looks, lookR, datas, eIs, eCall, eNeg, tNm, tTp, tsNil, tsCons, tPut, iData, iRange1, iRange2, iEnumL, iZipF, eComp, eCompN, bYes, startD, gIx, bagR, at4_0, ix4_0, gCm_int, lt_int_, hp, gInt, mm, dm]
  · have k1 : ∀ i : Int, gMulD (.int i) (.int 39373) = some (.int (i * 39373)) := fun i => gMul_r (by decide)
    have k2 : ∀ i : Int, gMulD (.int i) (.int 30011) = some (.int (i * 30011)) := fun i => gMul_r (by decide)
    have k3 : ∀ i : Int, gMod (.int i) (.int 1000000007) = some (.int (i % 1000000007)) := fun i => gMod_int (by decide)
    have k4 : ∀ i : Int, gMod (.int i) (.int 998244353) = some (.int (i % 998244353)) := fun i => gMod_int (by decide)
    have k5 : ∀ i : Int, gDiv (.int i) (.int 7) = some (.int (i / 7)) := fun i => gDiv_int (by decide) (by decide)
    have k6 : gMulD (.int ((s1 + 1) * 39373 % 1000000007)) (.int ((s1 + 1) * 39373 % 1000000007)) = some (.int ((s1 + 1) * 39373 % 1000000007 * ((s1 + 1) * 39373 % 1000000007))) := by
      have a := Int.emod_nonneg ((s1 + 1) * 39373) (b := 1000000007) (by decide)
      have b := Int.emod_lt_of_pos ((s1 + 1) * 39373) (b := 1000000007) (by decide)
      exact gMul_l (by omega)
    refine ⟨_, h1, s1, p1, fin ((s1 + 1) * 39373 % 1000000007 * ((s1 + 1) * 39373 % 1000000007) % 998244353 * 30011 % 998244353 / 7 % many) _ ?_, mk _ _ _ h0 s0 s2 p0, Int.emod_nonneg _ (by omega), Int.emod_lt_of_pos _ m0⟩
    rw [start]
    unfold gTake
    rw [ev_seq e1]
    unfold bagC
    generalize cs.map PyData.int = C
    simp [gTake_2, gTake_3, gTake_4, gTake_5, sSeq, sIf, sRet, sAsg, sDrop, sNext, sAugI, sAug, sFor, forD, sPar, sAsgT, eVar, eC, eOp, eFz, bVal, bTru, truD, bAnd, bOr, bNot, eIf, eAnd, eOr, eNot, aNil, aCons, eTup, eLst, eLstN, eIxC, eSl, oNo, oSome, eCB, looks, lookR, datas, eIs, eCall, eNeg, tNm, tTp, tsNil, tsCons, tPut, iData, iRange1, iRange2, iEnumL, iZipF, eComp, eCompN, bYes, startD, gIx, bagR, at4_0, at4_1, ix4_0, gCm_int, lt_int_, hp, gInt, mm, k1, k2, k3, k4, k5, k6, gAdd_int]
def BagS (tb : Cell) (rest st : Sto) : Prop := ∃ h s p cs, st = tb :: bagC h s p cs :: rest ∧ BagOk h s p cs
theorem BagS.len {rest st : Sto} (h : BagS tb rest st) : st.length = rest.length + 2 := by
  obtain ⟨_, _, _, _, rfl, _⟩ := h
  rfl
variable {tb : Cell} {rest st : Sto}
theorem take_sp {many : Int} (m0 : 0 < many) (m1 : many < 2 ^ 60) (h : BagS tb rest st) : R2 (fTake [.r 1, .d (.int many)] st) fun v s => (∃ z, v = .d (.int z) ∧ 0 ≤ z ∧ z < many) ∧ BagS tb rest s := by
  obtain ⟨h, s, p, cs, rfl, ok⟩ := h
  obtain ⟨z, h', s', p', e, ok', z0, z1⟩ := take_ev (rest := rest) ok m0 m1
  exact ⟨_, _, e, ⟨z, rfl, z0, z1⟩, _, _, _, _, rfl, ok'⟩
theorem gLen_list (xs : List PyData) : gLen [.list xs] = some (.int xs.length) := rfl
theorem gLen_tuple (xs : List PyData) : gLen [.tuple xs] = some (.int xs.length) := rfl
theorem gIx_list (xs : List PyData) (i : Int) : gIx (.list xs) (.int i) = atI xs i := rfl
theorem gIx_tuple (xs : List PyData) (i : Int) : gIx (.tuple xs) (.int i) = atI xs i := rfl
theorem at_in {α : Type} {xs : List α} {z : Int} (h0 : 0 ≤ z) (h1 : z < xs.length) : ∃ x ∈ xs, atI xs z = some x := by
  obtain ⟨n, rfl⟩ := Int.eq_ofNat_of_zero_le h0
  rw [atI_nat_]
  have : n < xs.length := by omega
  exact ⟨xs[n], List.getElem_mem this, List.getElem?_eq_getElem this⟩
theorem some_sp {xs : List PyData} (m0 : 0 < xs.length) (m1 : xs.length < 2 ^ 60) (h : BagS tb rest st) : R2 (fSome fTake [.r 1, .d (.list xs)] st) fun v s => (∃ x ∈ xs, v = .d x) ∧ BagS tb rest s := by
  refine rf_of ?_
  unfold gSome
  try simp only [r1_some, r2_some, r1_none, r_var, r_c, r_op, r_fz, r_bval, r_btru, r_band, r_bor, r_bnot, r_if, r_and, r_or, r_not, r_nil, r_cons, r_tup, r_lst, r_lstN, r_cb, r_is, r_call, r_neg, r_chain, r_ixC, ro_no, ro_some, r_sl, rt_nm, rs_next, rs_ret, rs_seq, rs_if, rs_asg, rs_asgT, rs_par, rt_nil, rt_cons, rt_tp, ri_data, ri_range1, ri_range2, ri_enum, r_comp, startD, look_d, looks_nil, looks_d, datas_nil, datas_d, tru_b, tru_i, List.length_cons, List.length_nil, List.getElem?_cons_zero, List.getElem?_cons_succ, List.set_cons_zero, List.set_cons_succ, Option.map_some, List.map_cons, List.map_nil, Nat.reduceAdd, Nat.reduceSub, Nat.reduceEqDiff, List.reduceReplicate, List.cons_append, List.nil_append, List.append_nil, true_and, and_true, gLen_list]
  refine (take_sp (by omega) (by omega) h).mono fun v s hv => ?_
  obtain ⟨⟨z, rfl, z0, z1⟩, hs⟩ := hv
  try simp only [r1_some, r2_some, r1_none, r_var, r_c, r_op, r_fz, r_bval, r_btru, r_band, r_bor, r_bnot, r_if, r_and, r_or, r_not, r_nil, r_cons, r_tup, r_lst, r_lstN, r_cb, r_is, r_call, r_neg, r_chain, r_ixC, ro_no, ro_some, r_sl, rt_nm, rs_next, rs_ret, rs_seq, rs_if, rs_asg, rs_asgT, rs_par, rt_nil, rt_cons, rt_tp, ri_data, ri_range1, ri_range2, ri_enum, r_comp, startD, look_d, looks_nil, looks_d, datas_nil, datas_d, tru_b, tru_i, List.length_cons, List.length_nil, List.getElem?_cons_zero, List.getElem?_cons_succ, List.set_cons_zero, List.set_cons_succ, Option.map_some, List.map_cons, List.map_nil, Nat.reduceAdd, Nat.reduceSub, Nat.reduceEqDiff, List.reduceReplicate, List.cons_append, List.nil_append, List.append_nil, true_and, and_true, gLen_list]
  obtain ⟨x, hx, e⟩ := at_in z0 z1
  try simp only [r1_some, r2_some, r1_none, r_var, r_c, r_op, r_fz, r_bval, r_btru, r_band, r_bor, r_bnot, r_if, r_and, r_or, r_not, r_nil, r_cons, r_tup, r_lst, r_lstN, r_cb, r_is, r_call, r_neg, r_chain, r_ixC, ro_no, ro_some, r_sl, rt_nm, rs_next, rs_ret, rs_seq, rs_if, rs_asg, rs_asgT, rs_par, rt_nil, rt_cons, rt_tp, ri_data, ri_range1, ri_range2, ri_enum, r_comp, startD, look_d, looks_nil, looks_d, datas_nil, datas_d, tru_b, tru_i, List.length_cons, List.length_nil, List.getElem?_cons_zero, List.getElem?_cons_succ, List.set_cons_zero, List.set_cons_succ, Option.map_some, List.map_cons, List.map_nil, Nat.reduceAdd, Nat.reduceSub, Nat.reduceEqDiff, List.reduceReplicate, List.cons_append, List.nil_append, List.append_nil, true_and, and_true, gIx_list, e, gLen_list]
  exact ⟨by rw [h.len, hs.len]; omega, ⟨x, hx, rfl⟩, hs⟩
theorem alike_sp {d : PyData} {t : Str} (hr : gRepr [d] = some (.str t)) (hd : d.depth ≤ 60) : R2 (fAlike [.d d, .d d] st) fun v s => v = .d (.bool true) ∧ s = st := by
  refine rf_of ?_
  unfold gAlike
  try simp only [r1_some, r2_some, r1_none, r_var, r_c, r_op, r_fz, r_bval, r_btru, r_band, r_bor, r_bnot, r_if, r_and, r_or, r_not, r_nil, r_cons, r_tup, r_lst, r_lstN, r_cb, r_is, r_call, r_neg, r_chain, r_ixC, ro_no, ro_some, r_sl, rt_nm, rs_next, rs_ret, rs_seq, rs_if, rs_asg, rs_asgT, rs_par, rt_nil, rt_cons, rt_tp, ri_data, ri_range1, ri_range2, ri_enum, r_comp, startD, look_d, looks_nil, looks_d, datas_nil, datas_d, tru_b, tru_i, List.length_cons, List.length_nil, List.getElem?_cons_zero, List.getElem?_cons_succ, List.set_cons_zero, List.set_cons_succ, Option.map_some, List.map_cons, List.map_nil, Nat.reduceAdd, Nat.reduceSub, Nat.reduceEqDiff, List.reduceReplicate, List.cons_append, List.nil_append, List.append_nil, true_and, and_true, hr, gEq_self hd, gEq_self (d := .str t) (by simp [PyData.depth])]
  exact Nat.le_refl _
theorem pages_sp {many : Int} (m0 : 0 ≤ many) (m1 : many < 1000) (h : BagS tb rest st) : R2 (fPages (fSome fTake) [.r 1, .d (.int many)] st) fun v s => (∃ a b : Int, 0 ≤ a ∧ a ≤ 40 ∧ 1 ≤ b ∧ b ≤ 7 ∧ v = .d (.list ((List.range many.toNat).map fun i : Nat => .int (a + b * i)))) ∧ BagS tb rest s := by
  refine rf_of ?_
  unfold gPages gPages_1 gPages_2
  have one : (5 : Nat) ≤ sizeLine := by decide
  try simp only [r1_some, r2_some, r1_none, r_var, r_c, r_op, r_fz, r_bval, r_btru, r_band, r_bor, r_bnot, r_if, r_and, r_or, r_not, r_nil, r_cons, r_tup, r_lst, r_lstN, r_cb, r_is, r_call, r_neg, r_chain, r_ixC, ro_no, ro_some, r_sl, rt_nm, rs_next, rs_ret, rs_seq, rs_if, rs_asg, rs_asgT, rs_par, rt_nil, rt_cons, rt_tp, ri_data, ri_range1, ri_range2, ri_enum, r_comp, startD, look_d, looks_nil, looks_d, datas_nil, datas_d, tru_b, tru_i, List.length_cons, List.length_nil, List.getElem?_cons_zero, List.getElem?_cons_succ, List.set_cons_zero, List.set_cons_succ, Option.map_some, List.map_cons, List.map_nil, Nat.reduceAdd, Nat.reduceSub, Nat.reduceEqDiff, List.reduceReplicate, List.cons_append, List.nil_append, List.append_nil, true_and, and_true, one]
  refine (some_sp (by decide) (by decide) h).mono fun v s hv => ?_
  obtain ⟨⟨x, hx, rfl⟩, hs⟩ := hv
  try simp only [r1_some, r2_some, r1_none, r_var, r_c, r_op, r_fz, r_bval, r_btru, r_band, r_bor, r_bnot, r_if, r_and, r_or, r_not, r_nil, r_cons, r_tup, r_lst, r_lstN, r_cb, r_is, r_call, r_neg, r_chain, r_ixC, ro_no, ro_some, r_sl, rt_nm, rs_next, rs_ret, rs_seq, rs_if, rs_asg, rs_asgT, rs_par, rt_nil, rt_cons, rt_tp, ri_data, ri_range1, ri_range2, ri_enum, r_comp, startD, look_d, looks_nil, looks_d, datas_nil, datas_d, tru_b, tru_i, List.length_cons, List.length_nil, List.getElem?_cons_zero, List.getElem?_cons_succ, List.set_cons_zero, List.set_cons_succ, Option.map_some, List.map_cons, List.map_nil, Nat.reduceAdd, Nat.reduceSub, Nat.reduceEqDiff, List.reduceReplicate, List.cons_append, List.nil_append, List.append_nil, true_and, and_true, one]
  refine (some_sp (by decide) (by decide) hs).mono fun v s hv => ?_
  obtain ⟨⟨y, hy, rfl⟩, hs⟩ := hv
  try simp only [r1_some, r2_some, r1_none, r_var, r_c, r_op, r_fz, r_bval, r_btru, r_band, r_bor, r_bnot, r_if, r_and, r_or, r_not, r_nil, r_cons, r_tup, r_lst, r_lstN, r_cb, r_is, r_call, r_neg, r_chain, r_ixC, ro_no, ro_some, r_sl, rt_nm, rs_next, rs_ret, rs_seq, rs_if, rs_asg, rs_asgT, rs_par, rt_nil, rt_cons, rt_tp, ri_data, ri_range1, ri_range2, ri_enum, r_comp, startD, look_d, looks_nil, looks_d, datas_nil, datas_d, tru_b, tru_i, List.length_cons, List.length_nil, List.getElem?_cons_zero, List.getElem?_cons_succ, List.set_cons_zero, List.set_cons_succ, Option.map_some, List.map_cons, List.map_nil, Nat.reduceAdd, Nat.reduceSub, Nat.reduceEqDiff, List.reduceReplicate, List.cons_append, List.nil_append, List.append_nil, true_and, and_true, one]
  obtain ⟨a, rfl, a0, a1⟩ : ∃ a : Int, x = .int a ∧ 0 ≤ a ∧ a ≤ 40 := by
    simp only [List.mem_cons, List.not_mem_nil, or_false] at hx
    rcases hx with rfl | rfl | rfl | rfl | rfl <;> exact ⟨_, rfl, by decide, by decide⟩
  obtain ⟨b, rfl, b0, b1⟩ : ∃ b : Int, y = .int b ∧ 1 ≤ b ∧ b ≤ 7 := by
    simp only [List.mem_cons, List.not_mem_nil, or_false] at hy
    rcases hy with rfl | rfl | rfl | rfl | rfl <;> exact ⟨_, rfl, by decide, by decide⟩
  refine ⟨by decide, by omega, by omega, ?_⟩
  have e := comp_told (st := s) (t := tNm 4) (a := eOp gAdd (eVar 2) (eOp gMulD (eVar 3) (eVar 4))) (ρ := wipeD [some (.r 1), some (.d (.int many)), some (.d (.int a)), some (.d (.int b)), none] [4])
    (h := fun v => match v with
      | .d (.int k) => .int (a + b * k)
      | _ => .none) (items := (List.range many.toNat).map fun i : Nat => Dl.vInt i 0) fun v hv => by
    obtain ⟨i, _, rfl⟩ := List.mem_map.mp hv
    simp only [wipeD, Dl.vInt, Int.zero_add, r1_some, r2_some, r1_none, r_var, r_c, r_op, r_fz, r_bval, r_btru, r_band, r_bor, r_bnot, r_if, r_and, r_or, r_not, r_nil, r_cons, r_tup, r_lst, r_lstN, r_cb, r_is, r_call, r_neg, r_chain, r_ixC, ro_no, ro_some, r_sl, rt_nm, rs_next, rs_ret, rs_seq, rs_if, rs_asg, rs_asgT, rs_par, rt_nil, rt_cons, rt_tp, ri_data, ri_range1, ri_range2, ri_enum, r_comp, startD, look_d, looks_nil, looks_d, datas_nil, datas_d, tru_b, tru_i, List.length_cons, List.length_nil, List.getElem?_cons_zero, List.getElem?_cons_succ, List.set_cons_zero, List.set_cons_succ, Option.map_some, List.map_cons, List.map_nil, Nat.reduceAdd, Nat.reduceSub, Nat.reduceEqDiff, List.reduceReplicate, List.cons_append, List.nil_append, List.append_nil, true_and, and_true, gMul_l (i := b) (by omega), gAdd_int, one]
  rw [e, r2_some, datas_map, r1_some]
  try simp only [r1_some, r2_some, r1_none, r_var, r_c, r_op, r_fz, r_bval, r_btru, r_band, r_bor, r_bnot, r_if, r_and, r_or, r_not, r_nil, r_cons, r_tup, r_lst, r_lstN, r_cb, r_is, r_call, r_neg, r_chain, r_ixC, ro_no, ro_some, r_sl, rt_nm, rs_next, rs_ret, rs_seq, rs_if, rs_asg, rs_asgT, rs_par, rt_nil, rt_cons, rt_tp, ri_data, ri_range1, ri_range2, ri_enum, r_comp, startD, look_d, looks_nil, looks_d, datas_nil, datas_d, tru_b, tru_i, List.length_cons, List.length_nil, List.getElem?_cons_zero, List.getElem?_cons_succ, List.set_cons_zero, List.set_cons_succ, Option.map_some, List.map_cons, List.map_nil, Nat.reduceAdd, Nat.reduceSub, Nat.reduceEqDiff, List.reduceReplicate, List.cons_append, List.nil_append, List.append_nil, true_and, and_true, one]
  refine ⟨by simp; omega, by rw [h.len, hs.len]; omega, ⟨a, b, a0, a1, b0, b1, ?_⟩, hs⟩
  rw [List.map_map]
  simp [Dl.vInt, Function.comp_def]
end Gs

set_option Elab.async false
set_option linter.all false
set_option maxRecDepth 100000
set_option maxHeartbeats 4000000
namespace Dl
open PySem PySem.Spec PyProof.Rows L2 Pg
/-! ### walking loops, cells, dicts -/
theorem rs_for {src : IF} {t : TF} {body : SF} {ρ : Env} {st : Sto} {Qs : Out → Prop} : R1 (sFor src t body ρ st) Qs ↔ R2 (src ρ st) fun items s1 => R1 (forD t body items ρ s1) Qs := by
  unfold sFor
  constructor
  · rintro ⟨o, e, q⟩
    revert e
    split
    · rename_i items s1 e1
      exact fun e => ⟨_, _, e1, o, e, q⟩
    · intro e; cases e
  · rintro ⟨items, s1, e1, o, e2, q⟩
    exact ⟨o, by simp only [e1, e2], q⟩

section
variable {ρ : Env} {st : Sto} {a b c e : EF} {Q : Vd → Sto → Prop} {Qs : Out → Prop} {fa : AF}
theorem rs_drop : R1 (sDrop a ρ st) Qs ↔ R2 (a ρ st) fun _ s => Qs (.nx ρ s) := by
  unfold sDrop
  constructor
  · rintro ⟨o, e, q⟩
    revert e
    split
    · rename_i v s e1
      intro e; cases e
      exact ⟨_, _, e1, q⟩
    · intro e; cases e
  · rintro ⟨v, s, e, q⟩
    exact ⟨_, by simp only [e], q⟩
theorem rs_brk : R1 (sBrk ρ st) Qs ↔ Qs (.bk ρ st) := r1_some
theorem rs_aug_ {i : Nat} {g : PyData → PyData → Option PyData} {v : Vd} (hi : ρ[i]? = some (some v)) (h : R2 (e ρ st) fun w s1 => R1 (lookR s1 v) fun x => R1 (lookR s1 w) fun y => R1 (g x y) fun z => Qs (.nx (ρ.set i (some (.d z))) s1)) : R1 (sAug i g e ρ st) Qs := by
  obtain ⟨w, s1, e1, x, e2, y, e3, z, e4, q⟩ := h
  exact ⟨_, by unfold sAug; simp only [hi, e1, e2, e3, e4, Option.map_some], q⟩
/-- a loop: what holds of what is left -/
theorem for_go {t : TF} {body : SF} {I : List Vd → Env → Sto → Prop} {E : Vd → Sto → Prop} (f : ∀ v vs ρ st, I (v :: vs) ρ st → R2 (t v ρ st) fun ρ1 s1 => R1 (body ρ1 s1) fun o => match o with
    | .nx ρ2 s2 => I vs ρ2 s2
    | .ct ρ2 s2 => I vs ρ2 s2
    | .rt v s => E v s
    | .bk ρ2 s2 => False) : ∀ {items : List Vd} {ρ : Env} {st : Sto}, I items ρ st → R1 (forD t body items ρ st) fun o => match o with
    | .nx ρ2 s2 => I [] ρ2 s2
    | .rt v s => E v s
    | _ => False
  | [], ρ, st, h => r1_some.mpr h
  | v :: vs, ρ, st, h => by
    obtain ⟨ρ1, s1, e1, o, e2, q⟩ := f v vs ρ st h
    cases o with
    | nx ρ2 s2 =>
      obtain ⟨o, e3, q3⟩ := for_go f (items := vs) q
      exact ⟨o, by simp only [forD, e1, e2]; exact e3, q3⟩
    | ct ρ2 s2 =>
      obtain ⟨o, e3, q3⟩ := for_go f (items := vs) q
      exact ⟨o, by simp only [forD, e1, e2]; exact e3, q3⟩
    | rt v s => exact ⟨.rt v s, by simp only [forD, e1, e2], q⟩
    | bk _ _ => exact q.elim
theorem r_ins_ (h : R2 (a ρ st) fun v s1 => ∃ n l, v = .r n ∧ s1[n]? = some (.lst l) ∧ R2 (b ρ s1) fun u s2 => ∃ i : Int, u = .d (.int i) ∧ R2 (c ρ s2) fun w s3 => ∃ xs, s3[n]? = some (.lst xs) ∧ xs.length < 16000000 ∧ 0 ≤ i ∧ i < 2 ^ 63 ∧
    Q (.d .none) (s3.set n (.lst (xs.take i.toNat ++ [w] ++ xs.drop i.toNat)))) : R2 (eIns a b c ρ st) Q := by
  obtain ⟨_, s1, e1, n, l, rfl, e2, _, s2, e3, i, rfl, w, s3, e4, xs, e5, h1, h2, h3, q⟩ := h
  exact ⟨_, _, by unfold eIns; simp only [e1, e2, e3, e4, e5]; exact if_pos ⟨h1, h2, h3⟩, q⟩
theorem r_extL_ (h : R2 (a ρ st) fun v s1 => ∃ n l, v = .r n ∧ s1[n]? = some (.lst l) ∧ R2 (b ρ s1) fun u s2 => R1 (lookR s2 u) fun d => R1 (seqOf d) fun ys => ∃ xs, s2[n]? = some (.lst xs) ∧ xs.length + ys.length ≤ 16000000 ∧
    Q (.d .none) (s2.set n (.lst (xs ++ ys.map .d)))) : R2 (eExtL a b ρ st) Q := by
  obtain ⟨_, s1, e1, n, l, rfl, e2, u, s2, e3, d, e4, ys, e5, xs, e6, h1, q⟩ := h
  exact ⟨_, _, by unfold eExtL; simp only [e1, e2, e3, e4, e5, e6]; exact if_pos h1, q⟩
theorem r_putT_ {v : Vd} {Qt : Env → Sto → Prop} (h : R2 (a ρ st) fun w s1 => ∃ n, w = .r n ∧ R2 (b ρ s1) fun u s2 => ∃ ds k kvs, u = .d (.list ds) ∧ keysOf ds = some k ∧ s2[n]? = some (.dct kvs) ∧ kvs.length < 16000000 ∧ Qt ρ (s2.set n (.dct (putV kvs k v)))) : R2 (tPutT a b v ρ st) Qt := by
  obtain ⟨_, s1, e1, n, rfl, _, s2, e2, ds, k, kvs, rfl, e3, e4, h1, q⟩ := h
  exact ⟨_, _, by unfold tPutT; simp only [e1, e2, e3, e4]; exact if_pos h1, q⟩
theorem r_putK_ {v : Vd} {Qt : Env → Sto → Prop} (h : R2 (a ρ st) fun w s1 => ∃ n, w = .r n ∧ R2 (b ρ s1) fun u s2 => ∃ kd k kvs, u = .d kd ∧ keyOfD kd = some k ∧ s2[n]? = some (.dic kvs) ∧ kvs.length < 16000000 ∧ Qt ρ (s2.set n (.dic (putV kvs k v)))) : R2 (tPutK a b v ρ st) Qt := by
  obtain ⟨_, s1, e1, n, rfl, _, s2, e2, kd, k, kvs, rfl, e3, e4, h1, q⟩ := h
  exact ⟨_, _, by unfold tPutK; simp only [e1, e2, e3, e4]; exact if_pos h1, q⟩
theorem r_get_ (h : R2 (a ρ st) fun w s1 => ∃ n kv0, w = .r n ∧ s1[n]? = some (.dic kv0) ∧ R2 (b ρ s1) fun u s2 => ∃ kd k kvs, u = .d kd ∧ keyOfD kd = some k ∧ s2[n]? = some (.dic kvs) ∧ Q ((getV kvs k).getD (.d .none)) s2) : R2 (eGet a b ρ st) Q := by
  obtain ⟨_, s1, e1, n, kv0, rfl, e0, _, s2, e2, kd, k, kvs, rfl, e3, e4, q⟩ := h
  exact ⟨_, _, by unfold eGet; simp only [e1, e0, e2, e3, e4], q⟩
theorem r_sortI_ (h : R2 (a ρ st) fun w s1 => ∃ n kvs es, w = .r n ∧ s1[n]? = some (.dct kvs) ∧ intsV kvs = some es ∧ sortsB (es.map fun e => pairD e.1 e.2) = true ∧ Q (.d (.list (srt (es.map fun e => pairD e.1 e.2)))) s1) : R2 (eSortI a ρ st) Q := by
  obtain ⟨_, s1, e1, n, kvs, es, rfl, e2, e3, h1, q⟩ := h
  exact ⟨_, _, by unfold eSortI; simp only [e1, e2, e3]; exact if_pos h1, q⟩
theorem r_setS_ (h : R2 (a ρ st) fun w s1 => R1 (lookR s1 w) fun d => ∃ ds zs, d = .list ds ∧ intsOf ds = some zs ∧ zs.length < 4000 ∧ (sortSI zs).length < 64 ∧ Q (.d (.list ((sortSI zs).map .int))) s1) : R2 (eSetS a ρ st) Q := by
  obtain ⟨w, s1, e1, _, e2, ds, zs, rfl, e3, h1, h2, q⟩ := h
  exact ⟨_, _, by unfold eSetS; simp only [e1, e2, e3]; exact if_pos ⟨h1, h2⟩, q⟩
theorem r_repL_ (h : R2 (fa ρ st) fun vs s1 => R1 (datas vs) fun ds => ds.length ≤ 1000 ∧ R2 (b ρ s1) fun u s2 => ∃ k : Int, u = .d (.int k) ∧ 0 ≤ k ∧ k ≤ 1000 ∧ Q (.d (.list (List.replicate k.toNat ds).flatten)) s2) : R2 (eRepL fa b ρ st) Q := by
  obtain ⟨vs, s1, e1, ds, e2, h1, _, s2, e3, k, rfl, h2, h3, q⟩ := h
  exact ⟨_, _, by unfold eRepL; simp only [e1, e2, if_pos h1, e3]; exact if_pos ⟨h2, h3⟩, q⟩
theorem r_cnt_ (h : R2 (a ρ st) fun v s1 => ∃ ds, v = .d (.list ds) ∧ R2 (b ρ s1) fun u s2 => ∃ d, u = .d d ∧ PyData.plainAll ds = true ∧ d.plain = true ∧ d.depth ≤ 60 ∧ Q (.d (.int ((ds.countP fun y => PyData.eqv y d : Nat) : Int))) s2) : R2 (eCnt a b ρ st) Q := by
  obtain ⟨_, s1, e1, ds, rfl, _, s2, e2, d, rfl, h1, h2, h3, q⟩ := h
  exact ⟨_, _, by unfold eCnt; simp only [e1, e2]; exact if_pos ⟨h1, h2, h3⟩, q⟩
theorem r_sortL_ {P : Addr} {q : Str} (h : R2 (a ρ st) fun v s1 => ∃ ds tt, v = .d (.list ds) ∧ tupsOf ds = some tt ∧ (Cell.tbl P q) ∈ s1 ∧ Q (.d (.list ((tt.mergeSort lenLd).map .tuple))) s1) : R2 (eSortL P q a ρ st) Q := by
  obtain ⟨_, s1, e1, ds, tt, rfl, e2, h1, q⟩ := h
  exact ⟨_, _, by unfold eSortL; simp only [e1, e2]; exact if_pos h1, q⟩
theorem r_enumD_ {Qi : List Vd → Sto → Prop} (h : R2 (fa ρ st) fun vs s => ∃ xs, (vs = [.d (.list xs)] ∨ vs = [.d (.tuple xs)]) ∧ Qi (enumD 0 xs) s) : R2 (iEnumD fa ρ st) Qi := by
  obtain ⟨vs, s1, e1, xs, rfl | rfl, q⟩ := h
  · exact ⟨_, _, by unfold iEnumD; simp only [e1], q⟩
  · exact ⟨_, _, by unfold iEnumD; simp only [e1], q⟩
theorem r_dnK_ (h : Q (.r st.length) (st ++ [.dic []])) : R2 (eDNewK ρ st) Q := r2_some.mpr h
theorem r_dnT_ (h : Q (.r st.length) (st ++ [.dct []])) : R2 (eDNewT ρ st) Q := r2_some.mpr h
end
end Dl

set_option Elab.async false
set_option linter.all false
set_option maxRecDepth 100000
set_option maxHeartbeats 4000000
namespace Gs
open PySem PySem.Spec PyProof.Rows L2 Pg Dl
variable {tb : Cell} {rest st s : Sto}
theorem clo_bag (ht : ∀ n, CloC n tb) (hr : ∀ c ∈ rest, CloC (rest.length + 2) c) (h : BagS tb rest s) : Clo s.length s := by
  obtain ⟨a, b, c, cs, rfl, _⟩ := h
  intro k hk
  rcases List.mem_cons.mp hk with rfl | hk
  · exact ht _
  rcases List.mem_cons.mp hk with rfl | hk
  · intro x hx
    simp only [List.mem_cons, List.not_mem_nil, or_false] at hx
    rcases hx with rfl | rfl | rfl | rfl <;> trivial
  · exact hr k hk
theorem looks_r {st : Sto} {n : Nat} {x : PyData} {r : List Vd} (h : lookR st (.r n) = some x) : looks st (.r n :: r) = (looks st r).map (x :: ·) := by
  show (match lookR st (.r n), looks st r with
    | some x, some xs => some (x :: xs)
    | _, _ => none) = _
  rw [h]
  cases looks st r <;> rfl
theorem look_lst {st : Sto} {n : Nat} {ys : List PyData} (h : st[n]? = some (.lst (ys.map .d))) : lookR st (.r n) = some (.list ys) := by
  unfold lookR
  simp only [h, datas_map, Option.map_some]
theorem BagS.app (j : Sto) (h : BagS tb rest s) : BagS tb (rest ++ j) (s ++ j) := by
  obtain ⟨a, b, c, cs, rfl, ok⟩ := h
  exact ⟨a, b, c, cs, rfl, ok⟩
theorem BagS.un {j : Sto} (h : BagS tb (rest ++ j) s) : ∃ b, s = b ++ j ∧ BagS tb rest b := by
  obtain ⟨a, b, c, cs, rfl, ok⟩ := h
  exact ⟨tb :: bagC a b c cs :: rest, rfl, a, b, c, cs, rfl, ok⟩
theorem at_app {b j : Sto} {c : Cell} : (b ++ c :: j)[b.length]? = some c := by
  rw [List.getElem?_append_right (Nat.le_refl _), Nat.sub_self]
  rfl
theorem set_app {b j : Sto} {c d : Cell} : (b ++ c :: j).set b.length d = b ++ d :: j := by
  rw [List.set_append_right _ _ (Nat.le_refl _), Nat.sub_self]
  rfl
theorem takeJ_sp {many : Int} {b j : Sto} (m0 : 0 < many) (m1 : many < 2 ^ 60) (h : BagS tb rest b) : R2 (fTake [.r 1, .d (.int many)] (b ++ j)) fun v s => ∃ z b', v = .d (.int z) ∧ 0 ≤ z ∧ z < many ∧ s = b' ++ j ∧ b'.length = b.length ∧ BagS tb rest b' := by
  refine (take_sp m0 m1 (h.app j)).mono fun v s hv => ?_
  obtain ⟨⟨z, rfl, z0, z1⟩, hs⟩ := hv
  obtain ⟨b', rfl, hb⟩ := hs.un
  exact ⟨z, b', rfl, z0, z1, rfl, by rw [h.len, hb.len], hb⟩
theorem someJ_sp {xs : List PyData} {b j : Sto} (m0 : 0 < xs.length) (m1 : xs.length < 2 ^ 60) (h : BagS tb rest b) : R2 (fSome fTake [.r 1, .d (.list xs)] (b ++ j)) fun v s => ∃ x b', v = .d x ∧ x ∈ xs ∧ s = b' ++ j ∧ b'.length = b.length ∧ BagS tb rest b' := by
  refine (some_sp m0 m1 (h.app j)).mono fun v s hv => ?_
  obtain ⟨⟨x, hx, rfl⟩, hs⟩ := hv
  obtain ⟨b', rfl, hb⟩ := hs.un
  exact ⟨x, b', rfl, hx, rfl, by rw [h.len, hb.len], hb⟩
theorem mixed_sp {xs : List PyData} (ht : ∀ n, CloC n tb) (hr : ∀ c ∈ rest, CloC (rest.length + 2) c) (hl : xs.length < 1000) (h : BagS tb rest st) : R2 (fMixed fTake [.r 1, .d (.list xs)] st) fun v s => (∃ ys, v = .d (.list ys) ∧ ys.Perm xs) ∧ BagS tb rest s := by
  have i0 : (0 : Nat) ≤ sizeLine := by decide
  refine rf_cut ?_
  unfold gMixed gMixed_1 gMixed_2 gMixed_3
  try simp only [r1_some, r2_some, r1_none, r_var, r_c, r_op, r_fz, r_bval, r_btru, r_band, r_bor, r_bnot, r_if, r_and, r_or, r_not, r_nil, r_cons, r_tup, r_lst, r_lstN, r_cb, r_is, r_call, r_neg, r_chain, r_ixC, ro_no, ro_some, r_sl, rt_nm, rs_next, rs_ret, rs_seq, rs_if, rs_asg, rs_asgT, rs_par, rt_nil, rt_cons, rt_tp, ri_data, ri_range1, ri_range2, ri_enum, r_comp, startD, look_d, looks_nil, looks_d, datas_nil, datas_d, tru_b, tru_i, List.length_cons, List.length_nil, List.getElem?_cons_zero, List.getElem?_cons_succ, List.set_cons_zero, List.set_cons_succ, Option.map_some, List.map_cons, List.map_nil, Nat.reduceAdd, Nat.reduceSub, Nat.reduceEqDiff, List.reduceReplicate, List.cons_append, List.nil_append, List.append_nil, true_and, and_true, i0]
  rw [rs_for]
  try simp only [r1_some, r2_some, r1_none, r_var, r_c, r_op, r_fz, r_bval, r_btru, r_band, r_bor, r_bnot, r_if, r_and, r_or, r_not, r_nil, r_cons, r_tup, r_lst, r_lstN, r_cb, r_is, r_call, r_neg, r_chain, r_ixC, ro_no, ro_some, r_sl, rt_nm, rs_next, rs_ret, rs_seq, rs_if, rs_asg, rs_asgT, rs_par, rt_nil, rt_cons, rt_tp, ri_data, ri_range1, ri_range2, ri_enum, r_comp, startD, look_d, looks_nil, looks_d, datas_nil, datas_d, tru_b, tru_i, List.length_cons, List.length_nil, List.getElem?_cons_zero, List.getElem?_cons_succ, List.set_cons_zero, List.set_cons_succ, Option.map_some, List.map_cons, List.map_nil, Nat.reduceAdd, Nat.reduceSub, Nat.reduceEqDiff, List.reduceReplicate, List.cons_append, List.nil_append, List.append_nil, true_and, and_true]
  have key := for_go (t := tNm 3) (body := sDrop (eIns (eVar 2) (eCall 2 fTake (aCons (eVar 0) (aCons (eOp gAdd (eCB gLen (aCons (eVar 2) aNil)) (eC (.int 1))) aNil))) (eVar 3))) (E := fun _ _ => False)
    (I := fun vs ρ s => ∃ (b : Sto) (ys zs : List PyData) (w : Option Vd), vs = zs.map .d ∧ (ys ++ zs).Perm xs ∧ s = b ++ [.lst (ys.map .d)] ∧ b.length = st.length ∧ BagS tb rest b ∧ ρ = [some (.r 1), some (.d (.list xs)), some (.r st.length), w]) (fun v vs ρ s hI => ?_)
    (items := xs.map .d) (ρ := [some (.r 1), some (.d (.list xs)), some (.r st.length), none]) (st := st ++ [.lst []]) ⟨st, [], xs, none, rfl, .refl _, rfl, rfl, h, rfl⟩
  · refine key.mono fun o ho => ?_
    cases o with
    | nx ρ s =>
      obtain ⟨b, ys, zs, w, hz, hp, rfl, hb, hB, rfl⟩ := ho
      have hz' : zs = [] := List.map_eq_nil_iff.mp hz.symm
      subst hz'
      rw [List.append_nil] at hp
      have lk : lookR (b ++ [.lst (ys.map .d)]) (.r st.length) = some (.list ys) := look_lst (by rw [← hb]; exact at_app)
      try simp only [r1_some, r2_some, r1_none, r_var, r_c, r_op, r_fz, r_bval, r_btru, r_band, r_bor, r_bnot, r_if, r_and, r_or, r_not, r_nil, r_cons, r_tup, r_lst, r_lstN, r_cb, r_is, r_call, r_neg, r_chain, r_ixC, ro_no, ro_some, r_sl, rt_nm, rs_next, rs_ret, rs_seq, rs_if, rs_asg, rs_asgT, rs_par, rt_nil, rt_cons, rt_tp, ri_data, ri_range1, ri_range2, ri_enum, r_comp, startD, look_d, looks_nil, looks_d, datas_nil, datas_d, tru_b, tru_i, List.length_cons, List.length_nil, List.getElem?_cons_zero, List.getElem?_cons_succ, List.set_cons_zero, List.set_cons_succ, Option.map_some, List.map_cons, List.map_nil, Nat.reduceAdd, Nat.reduceSub, Nat.reduceEqDiff, List.reduceReplicate, List.cons_append, List.nil_append, List.append_nil, true_and, and_true, lk]
      refine ⟨b, [.dead], by rw [← hb, set_app], hb.symm, clo_bag ht hr hB, trivial, ⟨ys, rfl, hp⟩, hB⟩
    | _ => exact ho.elim
  · obtain ⟨b, ys, zs, w, hz, hp, rfl, hb, hB, rfl⟩ := hI
    cases zs with
    | nil => cases hz
    | cons z zs =>
      obtain ⟨rfl, rfl⟩ := List.cons.inj hz
      have lk : lookR (b ++ [.lst (ys.map .d)]) (.r st.length) = some (.list ys) := look_lst (by rw [← hb]; exact at_app)
      have hlen : ys.length < 1000 := by
        have := hp.length_eq
        rw [List.length_append] at this
        omega
      try simp only [r1_some, r2_some, r1_none, r_var, r_c, r_op, r_fz, r_bval, r_btru, r_band, r_bor, r_bnot, r_if, r_and, r_or, r_not, r_nil, r_cons, r_tup, r_lst, r_lstN, r_cb, r_is, r_call, r_neg, r_chain, r_ixC, ro_no, ro_some, r_sl, rt_nm, rs_next, rs_ret, rs_seq, rs_if, rs_asg, rs_asgT, rs_par, rt_nil, rt_cons, rt_tp, ri_data, ri_range1, ri_range2, ri_enum, r_comp, startD, look_d, looks_nil, looks_d, datas_nil, datas_d, tru_b, tru_i, List.length_cons, List.length_nil, List.getElem?_cons_zero, List.getElem?_cons_succ, List.set_cons_zero, List.set_cons_succ, Option.map_some, List.map_cons, List.map_nil, Nat.reduceAdd, Nat.reduceSub, Nat.reduceEqDiff, List.reduceReplicate, List.cons_append, List.nil_append, List.append_nil, true_and, and_true, rs_drop]
      refine r_ins_ ?_
      try simp only [r1_some, r2_some, r1_none, r_var, r_c, r_op, r_fz, r_bval, r_btru, r_band, r_bor, r_bnot, r_if, r_and, r_or, r_not, r_nil, r_cons, r_tup, r_lst, r_lstN, r_cb, r_is, r_call, r_neg, r_chain, r_ixC, ro_no, ro_some, r_sl, rt_nm, rs_next, rs_ret, rs_seq, rs_if, rs_asg, rs_asgT, rs_par, rt_nil, rt_cons, rt_tp, ri_data, ri_range1, ri_range2, ri_enum, r_comp, startD, look_d, looks_nil, looks_d, datas_nil, datas_d, tru_b, tru_i, List.length_cons, List.length_nil, List.getElem?_cons_zero, List.getElem?_cons_succ, List.set_cons_zero, List.set_cons_succ, Option.map_some, List.map_cons, List.map_nil, Nat.reduceAdd, Nat.reduceSub, Nat.reduceEqDiff, List.reduceReplicate, List.cons_append, List.nil_append, List.append_nil, true_and, and_true]
      refine ⟨st.length, ys.map .d, rfl, by rw [← hb]; exact at_app, ?_⟩
      try simp only [r1_some, r2_some, r1_none, r_var, r_c, r_op, r_fz, r_bval, r_btru, r_band, r_bor, r_bnot, r_if, r_and, r_or, r_not, r_nil, r_cons, r_tup, r_lst, r_lstN, r_cb, r_is, r_call, r_neg, r_chain, r_ixC, ro_no, ro_some, r_sl, rt_nm, rs_next, rs_ret, rs_seq, rs_if, rs_asg, rs_asgT, rs_par, rt_nil, rt_cons, rt_tp, ri_data, ri_range1, ri_range2, ri_enum, r_comp, startD, look_d, looks_nil, looks_d, datas_nil, datas_d, tru_b, tru_i, List.length_cons, List.length_nil, List.getElem?_cons_zero, List.getElem?_cons_succ, List.set_cons_zero, List.set_cons_succ, Option.map_some, List.map_cons, List.map_nil, Nat.reduceAdd, Nat.reduceSub, Nat.reduceEqDiff, List.reduceReplicate, List.cons_append, List.nil_append, List.append_nil, true_and, and_true, looks_r lk, gLen_list, gAdd_int]
      refine (takeJ_sp (by omega) (by omega) hB).mono fun v s hv => ?_
      obtain ⟨i, b', rfl, i0', i1, rfl, hb', hB'⟩ := hv
      try simp only [r1_some, r2_some, r1_none, r_var, r_c, r_op, r_fz, r_bval, r_btru, r_band, r_bor, r_bnot, r_if, r_and, r_or, r_not, r_nil, r_cons, r_tup, r_lst, r_lstN, r_cb, r_is, r_call, r_neg, r_chain, r_ixC, ro_no, ro_some, r_sl, rt_nm, rs_next, rs_ret, rs_seq, rs_if, rs_asg, rs_asgT, rs_par, rt_nil, rt_cons, rt_tp, ri_data, ri_range1, ri_range2, ri_enum, r_comp, startD, look_d, looks_nil, looks_d, datas_nil, datas_d, tru_b, tru_i, List.length_cons, List.length_nil, List.getElem?_cons_zero, List.getElem?_cons_succ, List.set_cons_zero, List.set_cons_succ, Option.map_some, List.map_cons, List.map_nil, Nat.reduceAdd, Nat.reduceSub, Nat.reduceEqDiff, List.reduceReplicate, List.cons_append, List.nil_append, List.append_nil, true_and, and_true, looks_r lk, gLen_list, gAdd_int]
      refine ⟨i, rfl, ys.map .d, by rw [← hb, ← hb']; exact at_app, by rw [List.length_map]; omega, i0', by omega, ?_⟩
      refine ⟨b', ys.take i.toNat ++ [z] ++ ys.drop i.toNat, zs, _, rfl, ?_, ?_, by rw [hb', hb], hB', rfl⟩
      · refine List.Perm.trans ?_ hp
        have e : ys = ys.take i.toNat ++ ys.drop i.toNat := (List.take_append_drop _ _).symm
        conv => rhs; rw [e]
        simp only [List.append_assoc, List.cons_append, List.nil_append]
        refine List.Perm.append_left _ ?_
        exact List.perm_middle.symm
      · rw [← hb, ← hb', set_app]
        simp
theorem tnum_sp {n : Int} {b j : Sto} (h : BagS tb rest b) : R2 (fTicketNumber fTake (fSome fTake) [.r 1, .d (.int n)] (b ++ j)) fun v s => ∃ z b', v = .d (.int z) ∧ 0 ≤ z ∧ z < 1000000000 ∧ s = b' ++ j ∧ b'.length = b.length ∧ BagS tb rest b' := by
  have i5 : (5 : Nat) ≤ sizeLine := by decide
  refine rf_of ?_
  unfold gTicketNumber gTicketNumber_1 gTicketNumber_2 gTicketNumber_3 gTicketNumber_4
  try simp only [r1_some, r2_some, r1_none, r_var, r_c, r_op, r_fz, r_bval, r_btru, r_band, r_bor, r_bnot, r_if, r_and, r_or, r_not, r_nil, r_cons, r_tup, r_lst, r_lstN, r_cb, r_is, r_call, r_neg, r_chain, r_ixC, ro_no, ro_some, r_sl, rt_nm, rs_next, rs_ret, rs_seq, rs_if, rs_asg, rs_asgT, rs_par, rt_nil, rt_cons, rt_tp, ri_data, ri_range1, ri_range2, ri_enum, r_comp, startD, look_d, looks_nil, looks_d, datas_nil, datas_d, tru_b, tru_i, List.length_cons, List.length_nil, List.getElem?_cons_zero, List.getElem?_cons_succ, List.set_cons_zero, List.set_cons_succ, Option.map_some, List.map_cons, List.map_nil, Nat.reduceAdd, Nat.reduceSub, Nat.reduceEqDiff, List.reduceReplicate, List.cons_append, List.nil_append, List.append_nil, true_and, and_true]
  refine (takeJ_sp (by decide) (by decide) h).mono fun v s hv => ?_
  obtain ⟨w, b1, rfl, w0, w1, rfl, l1, h1⟩ := hv
  try simp only [r1_some, r2_some, r1_none, r_var, r_c, r_op, r_fz, r_bval, r_btru, r_band, r_bor, r_bnot, r_if, r_and, r_or, r_not, r_nil, r_cons, r_tup, r_lst, r_lstN, r_cb, r_is, r_call, r_neg, r_chain, r_ixC, ro_no, ro_some, r_sl, rt_nm, rs_next, rs_ret, rs_seq, rs_if, rs_asg, rs_asgT, rs_par, rt_nil, rt_cons, rt_tp, ri_data, ri_range1, ri_range2, ri_enum, r_comp, startD, look_d, looks_nil, looks_d, datas_nil, datas_d, tru_b, tru_i, List.length_cons, List.length_nil, List.getElem?_cons_zero, List.getElem?_cons_succ, List.set_cons_zero, List.set_cons_succ, Option.map_some, List.map_cons, List.map_nil, Nat.reduceAdd, Nat.reduceSub, Nat.reduceEqDiff, List.reduceReplicate, List.cons_append, List.nil_append, List.append_nil, true_and, and_true, gCm_int, lt_int_]
  by_cases c3 : w < 3
  · try simp only [r1_some, r2_some, r1_none, r_var, r_c, r_op, r_fz, r_bval, r_btru, r_band, r_bor, r_bnot, r_if, r_and, r_or, r_not, r_nil, r_cons, r_tup, r_lst, r_lstN, r_cb, r_is, r_call, r_neg, r_chain, r_ixC, ro_no, ro_some, r_sl, rt_nm, rs_next, rs_ret, rs_seq, rs_if, rs_asg, rs_asgT, rs_par, rt_nil, rt_cons, rt_tp, ri_data, ri_range1, ri_range2, ri_enum, r_comp, startD, look_d, looks_nil, looks_d, datas_nil, datas_d, tru_b, tru_i, List.length_cons, List.length_nil, List.getElem?_cons_zero, List.getElem?_cons_succ, List.set_cons_zero, List.set_cons_succ, Option.map_some, List.map_cons, List.map_nil, Nat.reduceAdd, Nat.reduceSub, Nat.reduceEqDiff, List.reduceReplicate, List.cons_append, List.nil_append, List.append_nil, true_and, and_true, gCm_int, lt_int_, c3, decide_true]
    refine (takeJ_sp (by decide) (by decide) h1).mono fun v s hv => ?_
    obtain ⟨z, b2, rfl, z0, z1, rfl, l2, h2⟩ := hv
    exact ⟨by simp only [List.length_append]; omega, z, b2, rfl, z0, by omega, rfl, by omega, h2⟩
  · by_cases c6 : w < 6
    · try simp only [r1_some, r2_some, r1_none, r_var, r_c, r_op, r_fz, r_bval, r_btru, r_band, r_bor, r_bnot, r_if, r_and, r_or, r_not, r_nil, r_cons, r_tup, r_lst, r_lstN, r_cb, r_is, r_call, r_neg, r_chain, r_ixC, ro_no, ro_some, r_sl, rt_nm, rs_next, rs_ret, rs_seq, rs_if, rs_asg, rs_asgT, rs_par, rt_nil, rt_cons, rt_tp, ri_data, ri_range1, ri_range2, ri_enum, r_comp, startD, look_d, looks_nil, looks_d, datas_nil, datas_d, tru_b, tru_i, List.length_cons, List.length_nil, List.getElem?_cons_zero, List.getElem?_cons_succ, List.set_cons_zero, List.set_cons_succ, Option.map_some, List.map_cons, List.map_nil, Nat.reduceAdd, Nat.reduceSub, Nat.reduceEqDiff, List.reduceReplicate, List.cons_append, List.nil_append, List.append_nil, true_and, and_true, gCm_int, lt_int_, c3, c6, decide_true, decide_false]
      refine (takeJ_sp (by decide) (by decide) h1).mono fun v s hv => ?_
      obtain ⟨z, b2, rfl, z0, z1, rfl, l2, h2⟩ := hv
      try simp only [r1_some, r2_some, r1_none, r_var, r_c, r_op, r_fz, r_bval, r_btru, r_band, r_bor, r_bnot, r_if, r_and, r_or, r_not, r_nil, r_cons, r_tup, r_lst, r_lstN, r_cb, r_is, r_call, r_neg, r_chain, r_ixC, ro_no, ro_some, r_sl, rt_nm, rs_next, rs_ret, rs_seq, rs_if, rs_asg, rs_asgT, rs_par, rt_nil, rt_cons, rt_tp, ri_data, ri_range1, ri_range2, ri_enum, r_comp, startD, look_d, looks_nil, looks_d, datas_nil, datas_d, tru_b, tru_i, List.length_cons, List.length_nil, List.getElem?_cons_zero, List.getElem?_cons_succ, List.set_cons_zero, List.set_cons_succ, Option.map_some, List.map_cons, List.map_nil, Nat.reduceAdd, Nat.reduceSub, Nat.reduceEqDiff, List.reduceReplicate, List.cons_append, List.nil_append, List.append_nil, true_and, and_true, gCm_int, lt_int_, c3, c6, decide_true, decide_false, gAdd_int, gSub_int, gMin2, gMax2]
      refine ⟨by simp only [List.length_append]; omega, _, b2, rfl, ?_, ?_, rfl, by omega, h2⟩
      · split <;> omega
      · split <;> (try split) <;> omega
    · try simp only [r1_some, r2_some, r1_none, r_var, r_c, r_op, r_fz, r_bval, r_btru, r_band, r_bor, r_bnot, r_if, r_and, r_or, r_not, r_nil, r_cons, r_tup, r_lst, r_lstN, r_cb, r_is, r_call, r_neg, r_chain, r_ixC, ro_no, ro_some, r_sl, rt_nm, rs_next, rs_ret, rs_seq, rs_if, rs_asg, rs_asgT, rs_par, rt_nil, rt_cons, rt_tp, ri_data, ri_range1, ri_range2, ri_enum, r_comp, startD, look_d, looks_nil, looks_d, datas_nil, datas_d, tru_b, tru_i, List.length_cons, List.length_nil, List.getElem?_cons_zero, List.getElem?_cons_succ, List.set_cons_zero, List.set_cons_succ, Option.map_some, List.map_cons, List.map_nil, Nat.reduceAdd, Nat.reduceSub, Nat.reduceEqDiff, List.reduceReplicate, List.cons_append, List.nil_append, List.append_nil, true_and, and_true, gCm_int, lt_int_, c3, c6, decide_true, decide_false]
      refine (takeJ_sp (by decide) (by decide) h1).mono fun v s hv => ?_
      obtain ⟨z, b2, rfl, z0, z1, rfl, l2, h2⟩ := hv
      try simp only [r1_some, r2_some, r1_none, r_var, r_c, r_op, r_fz, r_bval, r_btru, r_band, r_bor, r_bnot, r_if, r_and, r_or, r_not, r_nil, r_cons, r_tup, r_lst, r_lstN, r_cb, r_is, r_call, r_neg, r_chain, r_ixC, ro_no, ro_some, r_sl, rt_nm, rs_next, rs_ret, rs_seq, rs_if, rs_asg, rs_asgT, rs_par, rt_nil, rt_cons, rt_tp, ri_data, ri_range1, ri_range2, ri_enum, r_comp, startD, look_d, looks_nil, looks_d, datas_nil, datas_d, tru_b, tru_i, List.length_cons, List.length_nil, List.getElem?_cons_zero, List.getElem?_cons_succ, List.set_cons_zero, List.set_cons_succ, Option.map_some, List.map_cons, List.map_nil, Nat.reduceAdd, Nat.reduceSub, Nat.reduceEqDiff, List.reduceReplicate, List.cons_append, List.nil_append, List.append_nil, true_and, and_true, gCm_int, lt_int_, c3, c6, decide_true, decide_false, gSub_int]
      refine (takeJ_sp (by decide) (by decide) h2).mono fun v s hv => ?_
      obtain ⟨y, b3, rfl, y0, y1, rfl, l3, h3⟩ := hv
      try simp only [r1_some, r2_some, r1_none, r_var, r_c, r_op, r_fz, r_bval, r_btru, r_band, r_bor, r_bnot, r_if, r_and, r_or, r_not, r_nil, r_cons, r_tup, r_lst, r_lstN, r_cb, r_is, r_call, r_neg, r_chain, r_ixC, ro_no, ro_some, r_sl, rt_nm, rs_next, rs_ret, rs_seq, rs_if, rs_asg, rs_asgT, rs_par, rt_nil, rt_cons, rt_tp, ri_data, ri_range1, ri_range2, ri_enum, r_comp, startD, look_d, looks_nil, looks_d, datas_nil, datas_d, tru_b, tru_i, List.length_cons, List.length_nil, List.getElem?_cons_zero, List.getElem?_cons_succ, List.set_cons_zero, List.set_cons_succ, Option.map_some, List.map_cons, List.map_nil, Nat.reduceAdd, Nat.reduceSub, Nat.reduceEqDiff, List.reduceReplicate, List.cons_append, List.nil_append, List.append_nil, true_and, and_true, gCm_int, lt_int_, c3, c6, decide_true, decide_false, gSub_int, i5]
      refine (someJ_sp (by simp) (by simp) h3).mono fun v s hv => ?_
      obtain ⟨x, b4, rfl, hx, rfl, l4, h4⟩ := hv
      have : ∃ i : Int, x = .int i ∧ 0 ≤ i ∧ i < 1000000000 := by
        simp only [List.mem_cons, List.not_mem_nil, or_false] at hx
        rcases hx with rfl | rfl | rfl | rfl | rfl <;> exact ⟨_, rfl, by omega, by omega⟩
      obtain ⟨i, rfl, q0, q1⟩ := this
      exact ⟨by simp only [List.length_append]; omega, i, b4, rfl, q0, q1, rfl, by omega, h4⟩
theorem nodup_len {l m : List Int} (hn : l.Nodup) (h : ∀ x ∈ l, x ∈ m) : l.length ≤ m.length := by
  induction l generalizing m with
  | nil => simp
  | cons x l ih =>
    obtain ⟨h1, h2⟩ := List.nodup_cons.mp hn
    have hx := h x List.mem_cons_self
    have := ih (m := m.erase x) h2 fun y hy => (List.mem_erase_of_ne (fun e => h1 (by rw [← e]; exact hy))).mpr (h y (List.mem_cons_of_mem _ hy))
    rw [List.length_erase_of_mem hx] at this
    have := List.length_pos_of_mem hx
    simp only [List.length_cons]
    omega
theorem sortSI_nodup (l : List Int) : (sortSI l).Nodup := List.Pairwise.imp (fun h => Int.ne_of_lt h) (asc_sortSI l)
theorem sortSI_few {zs pg : List Int} (h : ∀ z ∈ zs, z ∈ pg) : (sortSI zs).length ≤ pg.length := nodup_len (sortSI_nodup zs) fun x hx => h x (mem_sortSI.mp hx)
/-- a ticket over some pages -/
def Tk (m : Nat) (pg : List Int) (x : PyData) : Prop := ∃ (l : List Int) (z : Int), x = .tuple [.tuple (l.map .int), .int z] ∧ l.length ≤ m ∧ (∀ p ∈ l, p ∈ pg) ∧ 0 ≤ z ∧ z ≤ 1000000000
theorem alike_ints : ∀ a b : List Int, PySem.W.alikeAll (a.map .int) (b.map .int) = true
  | [], _ => by simp [PySem.W.alikeAll]
  | _ :: _, [] => by simp [PySem.W.alikeAll]
  | x :: a, y :: b => by simp [PySem.W.alikeAll, PySem.W.alike, alike_ints a b]
theorem depth_ints (a : List Int) : PyData.depthAll (a.map .int) = 0 := by
  induction a with
  | nil => rfl
  | cons x a ih => simp [PyData.depthAll, PyData.depth, ih]
theorem sorts_ints {a : List Int} (h : a.length ≤ 16000000) : sortsB (a.map .int) = true := by
  unfold sortsB alikesB
  simp only [Bool.and_eq_true, Bool.or_eq_true, List.all_eq_true, decide_eq_true_eq, List.length_map]
  refine ⟨⟨⟨?_, .inr ?_⟩, ?_⟩, h⟩
  · intro x hx y hy
    obtain ⟨i, _, rfl⟩ := List.mem_map.mp hx
    obtain ⟨j, _, rfl⟩ := List.mem_map.mp hy
    simp [PySem.W.alike]
  · intro x hx
    obtain ⟨i, _, rfl⟩ := List.mem_map.mp hx
    rfl
  · intro x hx
    obtain ⟨i, _, rfl⟩ := List.mem_map.mp hx
    simp [PyData.depth]
theorem sorts_tk {m : Nat} {pg : List Int} {ds : List PyData} (h : ∀ d ∈ ds, Tk m pg d) (hl : ds.length ≤ 16000000) : sortsB ds = true := by
  unfold sortsB alikesB
  simp only [Bool.and_eq_true, Bool.or_eq_true, List.all_eq_true, decide_eq_true_eq]
  refine ⟨⟨⟨?_, .inl ?_⟩, ?_⟩, hl⟩
  · intro x hx y hy
    obtain ⟨a, i, rfl, _⟩ := h x hx
    obtain ⟨b, j, rfl, _⟩ := h y hy
    simp [PySem.W.alike, PySem.W.alikeAll, alike_ints]
  · intro x hx
    obtain ⟨a, i, rfl, _⟩ := h x hx
    rfl
  · intro x hx
    obtain ⟨a, i, rfl, _⟩ := h x hx
    simp [PyData.depth, PyData.depthAll, depth_ints]
theorem srt_mem {ds : List PyData} {x : PyData} : x ∈ srt ds ↔ x ∈ ds := (List.mergeSort_perm _ _).mem_iff
theorem srt_len {ds : List PyData} : (srt ds).length = ds.length := List.length_mergeSort _
theorem srt_ints (a : List Int) : ∃ b : List Int, srt (a.map .int) = b.map .int ∧ b.Perm a := by
  have hp : (srt (a.map .int)).Perm (a.map PyData.int) := List.mergeSort_perm _ _
  generalize srt (a.map .int) = l at hp
  have : ∃ b : List Int, l = b.map .int := by
    have hm : ∀ x ∈ l, ∃ i : Int, x = .int i := fun x hx => by
      obtain ⟨i, _, rfl⟩ := List.mem_map.mp (hp.mem_iff.mp hx)
      exact ⟨i, rfl⟩
    clear hp
    induction l with
    | nil => exact ⟨[], rfl⟩
    | cons x l ih =>
      obtain ⟨i, rfl⟩ := hm x List.mem_cons_self
      obtain ⟨b, rfl⟩ := ih fun y hy => hm y (List.mem_cons_of_mem _ hy)
      exact ⟨i :: b, rfl⟩
  obtain ⟨b, rfl⟩ := this
  refine ⟨b, rfl, ?_⟩
  have := hp.map fun x => match x with
    | .int i => i
    | _ => 0
  rw [List.map_map, List.map_map] at this
  have e : ((fun x => match x with
    | .int i => i
    | _ => (0 : Int)) ∘ PyData.int) = id := rfl
  rw [e, List.map_id, List.map_id] at this
  exact this
theorem ints_map (a : List Int) : intsOf (a.map .int) = some a := by
  induction a with
  | nil => rfl
  | cons x a ih => simp [intsOf, ih]
def tp (t : List Int × Int) : PyData := .tuple [.tuple (t.1.map .int), .int t.2]
def lens (T : List (List Int × Int)) : Nat := (T.map fun t => t.1.length).sum
theorem lens_app (A B : List (List Int × Int)) : lens (A ++ B) = lens A + lens B := by simp [lens]
theorem lens_cut (T : List (List Int × Int)) (n : Nat) : lens (T.take n) + lens (T.drop n) = lens T := by rw [← lens_app, List.take_append_drop]
def Tok (pg : List Int) (T : List (List Int × Int)) : Prop := ∀ t ∈ T, ∀ p ∈ t.1, p ∈ pg
theorem ints_perm {l : List PyData} {a : List Int} (h : l.Perm (a.map .int)) : ∃ b : List Int, l = b.map .int ∧ b.Perm a := by
  have : ∃ b : List Int, l = b.map .int := by
    have hm : ∀ x ∈ l, ∃ i : Int, x = .int i := fun x hx => by
      obtain ⟨i, _, rfl⟩ := List.mem_map.mp (h.mem_iff.mp hx)
      exact ⟨i, rfl⟩
    clear h
    induction l with
    | nil => exact ⟨[], rfl⟩
    | cons x l ih =>
      obtain ⟨i, rfl⟩ := hm x List.mem_cons_self
      obtain ⟨b, rfl⟩ := ih fun y hy => hm y (List.mem_cons_of_mem _ hy)
      exact ⟨i :: b, rfl⟩
  obtain ⟨b, rfl⟩ := this
  refine ⟨b, rfl, ?_⟩
  have := h.map fun x => match x with
    | .int i => i
    | _ => 0
  rw [List.map_map, List.map_map] at this
  have e : ((fun x => match x with
    | .int i => i
    | _ => (0 : Int)) ∘ PyData.int) = id := rfl
  rw [e, List.map_id, List.map_id] at this
  exact this
theorem keys_ints (a : List Int) : keysOf (a.map .int) = some (a.map Sum.inl) := by
  induction a with
  | nil => rfl
  | cons x a ih => simp [keysOf, keyOfD, ih]
theorem r_dnT {ρ : Dl.Env} {st : Sto} {Q : Vd → Sto → Prop} : R2 (eDNewT ρ st) Q ↔ Q (.r st.length) (st ++ [.dct []]) := r2_some
theorem at_app2 {b b' j : Sto} {c d e : Cell} (h : b'.length = b.length) : (b' ++ d :: (j ++ [c]))[(b ++ e :: j).length]? = some c := by
  have : b' ++ d :: (j ++ [c]) = (b' ++ d :: j) ++ [c] := by simp
  rw [this]
  have e2 : (b ++ e :: j).length = (b' ++ d :: j).length := by simp [h]
  rw [e2]
  exact at_app (j := [])
theorem lay_ints : ∀ l : List Int, PyData.canLayAll0 (l.map .int) = true
  | [] => by simp [PyData.canLayAll0]
  | x :: l => by
    have := lay_ints l
    simp [PyData.canLayAll0, PyData.canLay0, this]
theorem any_ints (i : Int) (l : List Int) : ((l.map PyData.int).any fun z => PyData.eqv z (.int i)) = decide (i ∈ l) := by
  induction l with
  | nil => rfl
  | cons x l ih =>
    rw [List.map_cons, List.any_cons, ih, eqv_int]
    by_cases h : x = i
    · subst h; simp
    · have : ¬ i = x := fun e => h e.symm
      simp [h, this]
theorem gIn_intsT {b : Bool} {i : Int} {l : List Int} : gIn b (.int i) (.tuple (l.map .int)) = some (.bool (b != decide (i ∈ l))) := by
  have e : gIn b (.int i) (.tuple (l.map .int)) = some (.bool (b != (l.map PyData.int).any fun z => PyData.eqv z (.int i))) := if_pos ⟨shaped_int i, lay_ints l⟩
  rw [e, any_ints]
def Shp (x : PyData) : Prop := ∃ (l : List Int) (z : Int), x = .tuple [.tuple (l.map .int), .int z]
theorem sorts_shp0 {ds : List PyData} (h : ∀ d ∈ ds, Shp d) (hl : ds.length ≤ 16000000) : sortsB ds = true := by
  unfold sortsB alikesB
  simp only [Bool.and_eq_true, Bool.or_eq_true, List.all_eq_true, decide_eq_true_eq]
  refine ⟨⟨⟨?_, .inl ?_⟩, ?_⟩, hl⟩
  · intro x hx y hy
    obtain ⟨a, i, rfl⟩ := h x hx
    obtain ⟨b, j, rfl⟩ := h y hy
    simp [PySem.W.alike, PySem.W.alikeAll, alike_ints]
  · intro x hx
    obtain ⟨a, i, rfl⟩ := h x hx
    rfl
  · intro x hx
    obtain ⟨a, i, rfl⟩ := h x hx
    simp [PyData.depth, PyData.depthAll, depth_ints]

end Gs

set_option Elab.async false
set_option linter.all false
set_option maxRecDepth 100000
set_option maxHeartbeats 4000000
namespace Gs
open PySem PySem.Spec PyProof.Rows L2 Pg Dl
variable {tb : Cell} {rest st s : Sto}
/-! ### the forests that the laws draw -/
abbrev Tick := List Int × Int
def Sub (a b : List Int) : Prop := ∀ p ∈ a, p ∈ b
def Dis (a b : List Int) : Prop := ∀ p ∈ a, p ∉ b
def Nest (a b : List Int) : Prop := Sub a b ∨ Sub b a ∨ Dis a b
structure FOk (pg : List Int) (lim : Nat) (F : List Tick) : Prop where
  few : F.length ≤ lim
  asc : ∀ t ∈ F, t.1.Pairwise (· < ·)
  ne : ∀ t ∈ F, t.1 ≠ []
  sub : ∀ t ∈ F, Sub t.1 pg
  num : ∀ t ∈ F, 0 ≤ t.2 ∧ t.2 ≤ 999999999
  nod : (F.map (·.1)).Nodup
  lam : ∀ t ∈ F, ∀ u ∈ F, Nest t.1 u.1
/-- the found ones, under the tops -/
structure KOk (pg : List Int) (K T : List Tick) : Prop where
  asc : ∀ t ∈ K, t.1.Pairwise (· < ·)
  ne : ∀ t ∈ K, t.1 ≠ []
  num : ∀ t ∈ K, 0 ≤ t.2 ∧ t.2 ≤ 999999999
  nod : (K.map (·.1)).Nodup
  lam : ∀ t ∈ K, ∀ u ∈ K, Nest t.1 u.1
  und : ∀ t ∈ K, ∃ u ∈ T, Sub t.1 u.1
def kvD (e : Tick) : List Key × Vd := (e.1.map Sum.inl, .d (.int e.2))
def putI (K : List Tick) (k : List Int) (v : Int) : List Tick := if K.any (fun p => p.1 = k) then K.map (fun p => if p.1 = k then (p.1, v) else p) else K ++ [(k, v)]
theorem inl_inj {a b : List Int} : a.map (Sum.inl : Int → Key) = b.map Sum.inl ↔ a = b := by
  constructor
  · intro h
    induction a generalizing b with
    | nil => cases b with
      | nil => rfl
      | cons y b => cases h
    | cons x a ih => cases b with
      | nil => cases h
      | cons y b =>
        simp only [List.map_cons, List.cons.injEq] at h
        cases h.1
        rw [ih h.2]
  · intro h
    rw [h]
theorem putV_map (K : List Tick) (k : List Int) (v : Int) : putV (K.map kvD) (k.map Sum.inl) (.d (.int v)) = (putI K k v).map kvD := by
  have e : (K.map kvD).any (fun p => p.1 = k.map Sum.inl) = K.any (fun p => p.1 = k) := by
    rw [List.any_map]
    congr 1
    funext p
    simp only [Function.comp, kvD, inl_inj]
  unfold putV putI
  rw [e]
  split
  · rw [List.map_map, List.map_map]
    refine List.map_congr_left fun p _ => ?_
    simp only [Function.comp, kvD, inl_inj]
    split <;> simp_all
  · rw [List.map_append]
    rfl
theorem mem_putI {K : List Tick} {k : List Int} {v : Int} {t : Tick} (h : t ∈ putI K k v) : t = (k, v) ∨ t ∈ K := by
  unfold putI at h
  split at h
  · obtain ⟨q, hq, rfl⟩ := List.mem_map.mp h
    split
    · rename_i e
      rw [e]
      exact .inl rfl
    · exact .inr hq
  · rcases List.mem_append.mp h with h | h
    · exact .inr h
    · exact .inl (List.mem_singleton.mp h)
theorem putI_len {K : List Tick} {k : List Int} {v : Int} : (putI K k v).length ≤ K.length + 1 := by
  unfold putI
  split
  · rw [List.length_map]; omega
  · rw [List.length_append]; simp
theorem putI_nod {K : List Tick} {k : List Int} {v : Int} (h : (K.map (·.1)).Nodup) : ((putI K k v).map (·.1)).Nodup := by
  unfold putI
  split
  · rw [List.map_map]
    have e : ((fun x : Tick => x.1) ∘ fun p : Tick => if p.1 = k then (p.1, v) else p) = fun x => x.1 := by
      funext p
      simp only [Function.comp]
      split <;> rfl
    rw [e]
    exact h
  · rename_i hk
    rw [List.map_append]
    refine List.nodup_append.mpr ⟨h, by simp, fun a ha b hb e => hk ?_⟩
    simp only [List.map_cons, List.map_nil, List.mem_singleton] at hb
    obtain ⟨p, hp, e2⟩ := List.mem_map.mp ha
    rw [List.any_eq_true]
    exact ⟨p, hp, by simp [e2, e, hb]⟩
theorem Nest.symm {a b : List Int} (h : Nest a b) : Nest b a := by
  rcases h with h | h | h
  · exact .inr (.inl h)
  · exact .inl h
  · exact .inr (.inr fun p hp hq => h p hq hp)
theorem Nest.refl (a : List Int) : Nest a a := .inl fun _ h => h
/-- the tops: apart from each other, together all pages -/
def TOk (pg : List Int) (T : List Tick) : Prop := (T.flatMap (·.1)).Perm pg ∧ ∀ t ∈ T, t.1 ≠ []
theorem flat_len : ∀ {T : List Tick}, (∀ t ∈ T, t.1 ≠ []) → T.length ≤ (T.flatMap (·.1)).length
  | [], _ => by simp
  | t :: T, h => by
    have := flat_len (T := T) fun u hu => h u (List.mem_cons_of_mem _ hu)
    have h1 := List.length_pos_iff.mpr (h t List.mem_cons_self)
    rw [List.flatMap_cons, List.length_append, List.length_cons]
    omega
theorem TOk.len {pg : List Int} {T : List Tick} (h : TOk pg T) : T.length ≤ pg.length := by rw [← h.1.length_eq]; exact flat_len h.2
theorem lens_flat (T : List Tick) : (T.flatMap (·.1)).length = lens T := by
  induction T with
  | nil => rfl
  | cons t T ih =>
    rw [List.flatMap_cons, List.length_append, ih]
    simp [lens]
/-- two tops of a row without doubles -/
theorem flat_dis {A B : List Tick} (h : ((A ++ B).flatMap (·.1)).Nodup) {t u : Tick} (ht : t ∈ A) (hu : u ∈ B) : Dis t.1 u.1 := by
  rw [List.flatMap_append] at h
  intro p hp hq
  exact (List.nodup_append.mp h).2.2 p (List.mem_flatMap.mpr ⟨t, ht, hp⟩) p (List.mem_flatMap.mpr ⟨u, hu, hq⟩) rfl
theorem step_ok {pg : List Int} {K U : List Tick} {m : Nat} {l' : List Int} {num : Int} (hn : pg.Nodup) (hK : KOk pg K U) (hU : TOk pg U) (hm : 0 < m) (hm2 : m ≤ U.length) (hl : l'.Perm ((U.take m).flatMap (·.1))) (ha : l'.Pairwise (· < ·)) (n0 : 0 ≤ num) (n1 : num ≤ 999999999) :
    KOk pg (putI K l' num) (U.drop m ++ [((U.take m).flatMap (·.1), num)]) ∧ TOk pg (U.drop m ++ [((U.take m).flatMap (·.1), num)]) := by
  have hne : (U.take m).flatMap (·.1) ≠ [] := by
    have : (U.take m).length ≤ ((U.take m).flatMap (·.1)).length := flat_len fun t ht => hU.2 t (List.mem_of_mem_take ht)
    rw [List.length_take] at this
    intro e
    rw [e] at this
    simp only [List.length_nil] at this
    omega
  have hl0 : l' ≠ [] := fun e => hne (by rw [e] at hl; exact hl.nil_eq.symm)
  have nd : (U.flatMap (·.1)).Nodup := hU.1.nodup_iff.mpr hn
  have nd2 : ((U.take m ++ U.drop m).flatMap (·.1)).Nodup := by rw [List.take_append_drop]; exact nd
  -- a found one against the new one
  have key : ∀ t ∈ K, Sub t.1 l' ∨ (Dis t.1 l' ∧ ∃ u ∈ U.drop m, Sub t.1 u.1) := fun t ht => by
    obtain ⟨u, hu, hs⟩ := hK.und t ht
    rw [← List.take_append_drop m U] at hu
    rcases List.mem_append.mp hu with hu | hu
    · exact .inl fun p hp => hl.mem_iff.mpr (List.mem_flatMap.mpr ⟨u, hu, hs p hp⟩)
    · refine .inr ⟨fun p hp hq => ?_, u, hu, hs⟩
      obtain ⟨w, hw, hq⟩ := List.mem_flatMap.mp (hl.mem_iff.mp hq)
      exact flat_dis nd2 hw hu p hq (hs p hp)
  have keyN : ∀ t ∈ K, Nest t.1 l' := fun t ht => (key t ht).elim .inl fun h => .inr (.inr h.1)
  refine ⟨⟨fun t ht => ?_, fun t ht => ?_, fun t ht => ?_, putI_nod hK.nod, fun t ht u hu => ?_, fun t ht => ?_⟩, ?_, fun t ht => ?_⟩
  · rcases mem_putI ht with rfl | ht
    · exact ha
    · exact hK.asc t ht
  · rcases mem_putI ht with rfl | ht
    · exact hl0
    · exact hK.ne t ht
  · rcases mem_putI ht with rfl | ht
    · exact ⟨n0, n1⟩
    · exact hK.num t ht
  · rcases mem_putI ht with rfl | ht <;> rcases mem_putI hu with rfl | hu
    · exact Nest.refl _
    · exact (keyN u hu).symm
    · exact keyN t ht
    · exact hK.lam t ht u hu
  · rcases mem_putI ht with rfl | ht
    · exact ⟨_, List.mem_append_right _ List.mem_cons_self, fun p hp => hl.mem_iff.mp hp⟩
    · rcases key t ht with h | ⟨_, u, hu, hs⟩
      · exact ⟨_, List.mem_append_right _ List.mem_cons_self, fun p hp => hl.mem_iff.mp (h p hp)⟩
      · exact ⟨u, List.mem_append_left _ hu, hs⟩
  · rw [List.flatMap_append]
    simp only [List.flatMap_cons, List.flatMap_nil, List.append_nil]
    refine List.Perm.trans ?_ hU.1
    conv => rhs; rw [← List.take_append_drop m U]
    rw [List.flatMap_append]
    exact List.perm_append_comm
  · rcases List.mem_append.mp ht with ht | ht
    · exact hU.2 t (List.mem_of_mem_drop ht)
    · rw [List.mem_singleton.mp ht]
      exact hne
/-! sorting -/
theorem srt_asc {l : List Int} (hn : l.Nodup) : ∃ l' : List Int, srt (l.map .int) = l'.map .int ∧ l'.Perm l ∧ l'.Pairwise (· < ·) := by
  obtain ⟨b, h1, h2⟩ := srt_ints l
  refine ⟨b, h1, h2, ?_⟩
  have e : srt (l.map .int) = (l.mergeSort fun a b => decide (a ≤ b)).map .int := by
    have := (List.map_mergeSort (f := PyData.int) (r := fun a b : Int => decide (a ≤ b)) (s := PySem.W.dataLe false id) (l := l) (fun a _ b _ => by
      have := congrFun (congrFun (PySem.W.dataLe_int fun y : Int => y) a) b
      exact this.symm))
    exact this.symm
  have eb : b = l.mergeSort fun a b => decide (a ≤ b) := by
    have : b.map PyData.int = (l.mergeSort fun a b => decide (a ≤ b)).map .int := by rw [← h1, e]
    exact (List.map_inj_right (fun a b h => by injection h)).mp this
  have hs := List.pairwise_mergeSort (le := fun a b : Int => decide (a ≤ b)) (fun a b c h1 h2 => by simp only [decide_eq_true_eq] at *; omega) (fun a b => by simp only [Bool.or_eq_true, decide_eq_true_eq]; omega) l
  rw [← eb] at hs
  have hb : b.Nodup := h2.nodup_iff.mpr hn
  exact (hs.and hb).imp fun ⟨h1, h2⟩ => by simp only [decide_eq_true_eq] at h1; omega
theorem tp_inj {a b : Tick} (h : tp a = tp b) : a = b := by
  obtain ⟨a1, a2⟩ := a
  obtain ⟨b1, b2⟩ := b
  unfold tp at h
  simp only [PyData.tuple.injEq, List.cons.injEq, PyData.int.injEq, and_true] at h
  have h1 : a1 = b1 := (List.map_inj_right (fun a b h => by injection h)).mp h.1
  rw [h1, h.2]
def unI : PyData → Int
  | .int i => i
  | _ => 0
def unTp : PyData → Tick
  | .tuple [.tuple l, .int z] => (l.map unI, z)
  | _ => ([], 0)
theorem unTp_tp : unTp ∘ tp = id := by
  funext t
  obtain ⟨a, z⟩ := t
  show ((a.map PyData.int).map unI, z) = (a, z)
  rw [List.map_map]
  have e2 : (unI ∘ PyData.int) = id := rfl
  rw [e2, List.map_id]
theorem perm_tp {l : List PyData} {K : List Tick} (h : l.Perm (K.map tp)) : ∃ F : List Tick, l = F.map tp ∧ F.Perm K := by
  have : ∃ F : List Tick, l = F.map tp := by
    have hm : ∀ x ∈ l, ∃ i : Tick, x = tp i := fun x hx => by
      obtain ⟨i, _, rfl⟩ := List.mem_map.mp (h.mem_iff.mp hx)
      exact ⟨i, rfl⟩
    clear h
    induction l with
    | nil => exact ⟨[], rfl⟩
    | cons x l ih =>
      obtain ⟨i, rfl⟩ := hm x List.mem_cons_self
      obtain ⟨b, rfl⟩ := ih fun y hy => hm y (List.mem_cons_of_mem _ hy)
      exact ⟨i :: b, rfl⟩
  obtain ⟨F, rfl⟩ := this
  refine ⟨F, rfl, ?_⟩
  have := h.map unTp
  rw [List.map_map, List.map_map, unTp_tp, List.map_id, List.map_id] at this
  exact this
end Gs

set_option Elab.async false
set_option linter.all false
set_option maxRecDepth 100000
set_option maxHeartbeats 4000000
namespace Gs
open PySem PySem.Spec PyProof.Rows L2 Pg Dl
variable {tb : Cell} {rest st s : Sto}
theorem tk_nil {U : List Tick} {n : Nat} : ((U.map tp).take n) = (U.take n).map tp := (List.map_take).symm
theorem merge_for {pgD topsD w3 w4 w7 w8 w10 w13' w9' : Option Vd} {f n0 : Nat} {w2 : Option Vd} {S0 : Sto} (hn : n0 = S0.length) (U : List Tick) (hl : lens U ≤ 1000) :
    R1 (forD (tTp 2 (tsCons (tNm 13) (tsCons (tNm 9) tsNil))) (sSeq (sDrop (eExtL (eVar 11) (eVar 13))) (sAug 12 gAddI (eVar 9))) ((U.map tp).map .d)
      [some (.r 1), pgD, w2, w3, w4, topsD, some (.r f), w7, w8, w9', w10, some (.r n0), some (.d (.int 0)), w13'] (S0 ++ [.lst []])) fun o => match o with
    | .nx ρ s => ∃ (k : Int) (w9 w13 : Option Vd), ρ = [some (.r 1), pgD, w2, w3, w4, topsD, some (.r f), w7, w8, w9, w10, some (.r n0), some (.d (.int k)), w13] ∧ s = S0 ++ [.lst (((U.flatMap (·.1)).map PyData.int).map .d)]
    | _ => False := by
  subst hn
  refine (for_go (E := fun _ _ => False) (I := fun vs ρ s => ∃ (us : List Tick) (l : List Int) (k : Int) (w9 w13 : Option Vd), vs = (us.map tp).map .d ∧ l ++ us.flatMap (·.1) = U.flatMap (·.1) ∧
    ρ = [some (.r 1), pgD, w2, w3, w4, topsD, some (.r f), w7, w8, w9, w10, some (.r S0.length), some (.d (.int k)), w13] ∧ s = S0 ++ [.lst ((l.map PyData.int).map .d)]) (fun v vs ρ s hI => ?_)
    ⟨U, [], 0, _, _, rfl, rfl, rfl, rfl⟩).mono fun o ho => ?_
  · obtain ⟨us, l, k, w9, w13, hv, hu, rfl, rfl⟩ := hI
    cases us with
    | nil => cases hv
    | cons u us =>
      obtain ⟨rfl, rfl⟩ := List.cons.inj hv
      obtain ⟨x, n⟩ := u
      have hlx : l.length + x.length ≤ 1000 := by
        have := congrArg List.length hu
        rw [lens_flat U] at this
        simp only [List.flatMap_cons, List.length_append] at this
        omega
      unfold tp
      try simp only [r1_some, r2_some, r1_none, r_var, r_c, r_op, r_fz, r_bval, r_btru, r_band, r_bor, r_bnot, r_if, r_and, r_or, r_not, r_nil, r_cons, r_tup, r_lst, r_lstN, r_cb, r_is, r_call, r_neg, r_chain, r_ixC, ro_no, ro_some, r_sl, rt_nm, rs_next, rs_ret, rs_seq, rs_if, rs_asg, rs_asgT, rs_par, rt_nil, rt_cons, rt_tp, ri_data, ri_range1, ri_range2, ri_enum, r_comp, startD, look_d, looks_nil, looks_d, datas_nil, datas_d, tru_b, tru_i, List.length_cons, List.length_nil, List.getElem?_cons_zero, List.getElem?_cons_succ, List.set_cons_zero, List.set_cons_succ, Option.map_some, List.map_cons, List.map_nil, Nat.reduceAdd, Nat.reduceSub, Nat.reduceEqDiff, List.reduceReplicate, List.cons_append, List.nil_append, List.append_nil, true_and, and_true, rs_drop]
      refine r_extL_ ?_
      try simp only [r1_some, r2_some, r1_none, r_var, r_c, r_op, r_fz, r_bval, r_btru, r_band, r_bor, r_bnot, r_if, r_and, r_or, r_not, r_nil, r_cons, r_tup, r_lst, r_lstN, r_cb, r_is, r_call, r_neg, r_chain, r_ixC, ro_no, ro_some, r_sl, rt_nm, rs_next, rs_ret, rs_seq, rs_if, rs_asg, rs_asgT, rs_par, rt_nil, rt_cons, rt_tp, ri_data, ri_range1, ri_range2, ri_enum, r_comp, startD, look_d, looks_nil, looks_d, datas_nil, datas_d, tru_b, tru_i, List.length_cons, List.length_nil, List.getElem?_cons_zero, List.getElem?_cons_succ, List.set_cons_zero, List.set_cons_succ, Option.map_some, List.map_cons, List.map_nil, Nat.reduceAdd, Nat.reduceSub, Nat.reduceEqDiff, List.reduceReplicate, List.cons_append, List.nil_append, List.append_nil, true_and, and_true]
      refine ⟨S0.length, _, rfl, at_app, ?_⟩
      try simp only [r1_some, r2_some, r1_none, r_var, r_c, r_op, r_fz, r_bval, r_btru, r_band, r_bor, r_bnot, r_if, r_and, r_or, r_not, r_nil, r_cons, r_tup, r_lst, r_lstN, r_cb, r_is, r_call, r_neg, r_chain, r_ixC, ro_no, ro_some, r_sl, rt_nm, rs_next, rs_ret, rs_seq, rs_if, rs_asg, rs_asgT, rs_par, rt_nil, rt_cons, rt_tp, ri_data, ri_range1, ri_range2, ri_enum, r_comp, startD, look_d, looks_nil, looks_d, datas_nil, datas_d, tru_b, tru_i, List.length_cons, List.length_nil, List.getElem?_cons_zero, List.getElem?_cons_succ, List.set_cons_zero, List.set_cons_succ, Option.map_some, List.map_cons, List.map_nil, Nat.reduceAdd, Nat.reduceSub, Nat.reduceEqDiff, List.reduceReplicate, List.cons_append, List.nil_append, List.append_nil, true_and, and_true]
      refine ⟨x.map .int, rfl, _, at_app, by simp only [List.length_map]; omega, ?_⟩
      rw [set_app]
      refine rs_aug_ (v := .d (.int k)) rfl ?_
      try simp only [r1_some, r2_some, r1_none, r_var, r_c, r_op, r_fz, r_bval, r_btru, r_band, r_bor, r_bnot, r_if, r_and, r_or, r_not, r_nil, r_cons, r_tup, r_lst, r_lstN, r_cb, r_is, r_call, r_neg, r_chain, r_ixC, ro_no, ro_some, r_sl, rt_nm, rs_next, rs_ret, rs_seq, rs_if, rs_asg, rs_asgT, rs_par, rt_nil, rt_cons, rt_tp, ri_data, ri_range1, ri_range2, ri_enum, r_comp, startD, look_d, looks_nil, looks_d, datas_nil, datas_d, tru_b, tru_i, List.length_cons, List.length_nil, List.getElem?_cons_zero, List.getElem?_cons_succ, List.set_cons_zero, List.set_cons_succ, Option.map_some, List.map_cons, List.map_nil, Nat.reduceAdd, Nat.reduceSub, Nat.reduceEqDiff, List.reduceReplicate, List.cons_append, List.nil_append, List.append_nil, true_and, and_true, gAddI]
      refine ⟨us, l ++ x, _, _, _, rfl, by rw [← hu]; simp, rfl, by simp⟩
  · cases o with
    | nx ρ s =>
      obtain ⟨us, l, k, w9, w13, hv, hu, rfl, rfl⟩ := ho
      have : us = [] := List.map_eq_nil_iff.mp (List.map_eq_nil_iff.mp hv.symm)
      subst this
      simp only [List.flatMap_nil, List.append_nil] at hu
      subst hu
      exact ⟨k, w9, w13, rfl, rfl⟩
    | _ => exact ho.elim
noncomputable abbrev fTn : FF := fTicketNumber fTake (fSome fTake)
noncomputable def forBody : SF :=
  (sIf (bVal (eOp gNe (eVar 5) (eLst aNil)))
    (sSeq (sAsg (eCall 2 fTake (aCons (eVar 0) (aCons (eCB gLen (aCons (eVar 5) aNil)) aNil))) (tNm 7))
    (sSeq (sAsg (eOp gAdd (eSl (eVar 5) (oSome (eVar 7)) oNo) (eSl (eVar 5) oNo (oSome (eVar 7)))) (tNm 5))
    (sSeq (sAsg (eCB gMin2 (aCons (eCB gLen (aCons (eVar 5) aNil)) (aCons (eCall 2 (fSome fTake) (aCons (eVar 0) (aCons (eLst (aCons (eC (.int 1)) (aCons (eC (.int 2)) (aCons (eC (.int 1)) (aCons (eC (.int 2)) (aCons (eC (.int 3)) (aCons (eCB gLen (aCons (eVar 5) aNil)) aNil))))))) aNil))) aNil))) (tNm 8))
    (sSeq (sPar 11 12 (aCons (eLstN aNil) (aCons (eC (.int 0)) aNil)))
    (sSeq (sFor (iData (eSl (eVar 5) oNo (oSome (eVar 8)))) (tTp 2 (tsCons (tNm 13) (tsCons (tNm 9) tsNil)))
    (sSeq (sDrop (eExtL (eVar 11) (eVar 13)))
    (sAug 12 gAddI (eVar 9))))
    (sSeq (sAsg (eIf (bTru (eVar 3)) (eCall 2 fTake (aCons (eVar 0) (aCons (eC (.int 4)) aNil))) (eCall 2 fTn (aCons (eVar 0) (aCons (eVar 12) aNil)))) (tNm 9))
    (sSeq (sAsg (eVar 9) (tPutT (eVar 6) (eCB gSorted (aCons (eVar 11) aNil))))
    (sAsg (eOp gAdd (eSl (eVar 5) (oSome (eVar 8)) oNo) (eLst (aCons (eTup (aCons (eCB gTupleOf (aCons (eVar 11) aNil)) (aCons (eVar 9) aNil))) aNil))) (tNm 5)))))))))
    sNext)
/-- what holds between the turns -/
def FI (tb : Cell) (rest : Sto) (pg : List Int) (n0 lim : Nat) (sm : Bool) (pgD w2 : Option Vd) (ρ : Dl.Env) (s : Sto) (left : Nat) : Prop :=
  ∃ (b junk : Sto) (K T : List Tick) (w4 w7 w8 w9 w10 w11 w12 w13 : Option Vd),
    s = b ++ .dct (K.map kvD) :: junk ∧ b.length = n0 ∧ BagS tb rest b ∧ KOk pg K T ∧ K.length + left ≤ lim ∧ TOk pg T ∧
    ρ = [some (.r 1), pgD, w2, some (.d (.bool sm)), w4, some (.d (.list (T.map tp))), some (.r n0), w7, w8, w9, w10, w11, w12, w13]
theorem num_sp {sm : Bool} {ρ : Dl.Env} {k : Int} {b j : Sto} (h0 : ρ[0]? = some (some (.r 1))) (h3 : ρ[3]? = some (some (.d (.bool sm)))) (h12 : ρ[12]? = some (some (.d (.int k)))) (h : BagS tb rest b) :
    R2 (eIf (bTru (eVar 3)) (eCall 2 fTake (aCons (eVar 0) (aCons (eC (.int 4)) aNil))) (eCall 2 fTn (aCons (eVar 0) (aCons (eVar 12) aNil))) ρ (b ++ j)) fun v s => ∃ z b', v = .d (.int z) ∧ 0 ≤ z ∧ z ≤ 999999999 ∧ s = b' ++ j ∧ b'.length = b.length ∧ BagS tb rest b' := by
  cases sm with
  | true =>
    simp only [r1_some, r2_some, r1_none, r_var, r_c, r_op, r_fz, r_bval, r_btru, r_band, r_bor, r_bnot, r_if, r_and, r_or, r_not, r_nil, r_cons, r_tup, r_lst, r_lstN, r_cb, r_is, r_call, r_neg, r_chain, r_ixC, ro_no, ro_some, r_sl, rt_nm, rs_next, rs_ret, rs_seq, rs_if, rs_asg, rs_asgT, rs_par, rt_nil, rt_cons, rt_tp, ri_data, ri_range1, ri_range2, ri_enum, r_comp, startD, look_d, looks_nil, looks_d, datas_nil, datas_d, tru_b, tru_i, List.length_cons, List.length_nil, List.getElem?_cons_zero, List.getElem?_cons_succ, List.set_cons_zero, List.set_cons_succ, Option.map_some, List.map_cons, List.map_nil, Nat.reduceAdd, Nat.reduceSub, Nat.reduceEqDiff, List.reduceReplicate, List.cons_append, List.nil_append, List.append_nil, true_and, and_true, h0, h3, h12]
    refine (takeJ_sp (by decide) (by decide) h).mono fun v s hv => ?_
    obtain ⟨z, b', rfl, z0, z1, h'⟩ := hv
    exact ⟨z, b', rfl, z0, by omega, h'⟩
  | false =>
    simp only [r1_some, r2_some, r1_none, r_var, r_c, r_op, r_fz, r_bval, r_btru, r_band, r_bor, r_bnot, r_if, r_and, r_or, r_not, r_nil, r_cons, r_tup, r_lst, r_lstN, r_cb, r_is, r_call, r_neg, r_chain, r_ixC, ro_no, ro_some, r_sl, rt_nm, rs_next, rs_ret, rs_seq, rs_if, rs_asg, rs_asgT, rs_par, rt_nil, rt_cons, rt_tp, ri_data, ri_range1, ri_range2, ri_enum, r_comp, startD, look_d, looks_nil, looks_d, datas_nil, datas_d, tru_b, tru_i, List.length_cons, List.length_nil, List.getElem?_cons_zero, List.getElem?_cons_succ, List.set_cons_zero, List.set_cons_succ, Option.map_some, List.map_cons, List.map_nil, Nat.reduceAdd, Nat.reduceSub, Nat.reduceEqDiff, List.reduceReplicate, List.cons_append, List.nil_append, List.append_nil, true_and, and_true, h0, h3, h12]
    refine (tnum_sp h).mono fun v s hv => ?_
    obtain ⟨z, b', rfl, z0, z1, h'⟩ := hv
    exact ⟨z, b', rfl, z0, by omega, h'⟩
theorem forest_turn {pg : List Int} {n0 lim left : Nat} {sm : Bool} {pgD w2 : Option Vd} {v : Vd} {ρ : Dl.Env} {s : Sto} (hlim : lim ≤ 1000) (hpg : pg.length ≤ 1000) (hnd : pg.Nodup) (h : FI tb rest pg n0 lim sm pgD w2 ρ s (left + 1)) :
    R2 (tNm 4 v ρ s) fun ρ1 s1 => R1 (forBody ρ1 s1) fun o => match o with
    | .nx ρ2 s2 => FI tb rest pg n0 lim sm pgD w2 ρ2 s2 left
    | _ => False := by
  obtain ⟨b, junk, K, T, w4, w7, w8, w9, w10, w11, w12, w13, rfl, hb, hB, hK, hl, hT, rfl⟩ := h
  have i0 : (0 : Nat) ≤ sizeLine := by decide
  have i1 : (1 : Nat) ≤ sizeLine := by decide
  have i2 : (2 : Nat) ≤ sizeLine := by decide
  have i6 : (6 : Nat) ≤ sizeLine := by decide
  have hTl := hT.len
  unfold forBody
  try simp only [r1_some, r2_some, r1_none, r_var, r_c, r_op, r_fz, r_bval, r_btru, r_band, r_bor, r_bnot, r_if, r_and, r_or, r_not, r_nil, r_cons, r_tup, r_lst, r_lstN, r_cb, r_is, r_call, r_neg, r_chain, r_ixC, ro_no, ro_some, r_sl, rt_nm, rs_next, rs_ret, rs_seq, rs_if, rs_asg, rs_asgT, rs_par, rt_nil, rt_cons, rt_tp, ri_data, ri_range1, ri_range2, ri_enum, r_comp, startD, look_d, looks_nil, looks_d, datas_nil, datas_d, tru_b, tru_i, List.length_cons, List.length_nil, List.getElem?_cons_zero, List.getElem?_cons_succ, List.set_cons_zero, List.set_cons_succ, Option.map_some, List.map_cons, List.map_nil, Nat.reduceAdd, Nat.reduceSub, Nat.reduceEqDiff, List.reduceReplicate, List.cons_append, List.nil_append, List.append_nil, true_and, and_true, i0, gNe_nilL]
  by_cases hT0 : T = []
  · subst hT0
    simp only [List.map_nil, List.isEmpty_nil, Bool.not_true]
    exact ⟨b, junk, K, [], some v, w7, w8, w9, w10, w11, w12, w13, rfl, hb, hB, hK, by omega, hT, rfl⟩
  · have hpos : 0 < T.length := List.length_pos_iff.mpr hT0
    have hne : (T.map tp).isEmpty = false := by cases T with
      | nil => exact absurd rfl hT0
      | cons _ _ => rfl
    try simp only [r1_some, r2_some, r1_none, r_var, r_c, r_op, r_fz, r_bval, r_btru, r_band, r_bor, r_bnot, r_if, r_and, r_or, r_not, r_nil, r_cons, r_tup, r_lst, r_lstN, r_cb, r_is, r_call, r_neg, r_chain, r_ixC, ro_no, ro_some, r_sl, rt_nm, rs_next, rs_ret, rs_seq, rs_if, rs_asg, rs_asgT, rs_par, rt_nil, rt_cons, rt_tp, ri_data, ri_range1, ri_range2, ri_enum, r_comp, startD, look_d, looks_nil, looks_d, datas_nil, datas_d, tru_b, tru_i, List.length_cons, List.length_nil, List.getElem?_cons_zero, List.getElem?_cons_succ, List.set_cons_zero, List.set_cons_succ, Option.map_some, List.map_cons, List.map_nil, Nat.reduceAdd, Nat.reduceSub, Nat.reduceEqDiff, List.reduceReplicate, List.cons_append, List.nil_append, List.append_nil, true_and, and_true, hne, Bool.not_false, gLen_list, List.length_map]
    refine (takeJ_sp (by omega) (by omega) hB).mono fun v s hv => ?_
    obtain ⟨z, b1, rfl, z0, z1, rfl, l1, h1⟩ := hv
    obtain ⟨z, rfl⟩ := Int.eq_ofNat_of_zero_le z0
    try simp only [r1_some, r2_some, r1_none, r_var, r_c, r_op, r_fz, r_bval, r_btru, r_band, r_bor, r_bnot, r_if, r_and, r_or, r_not, r_nil, r_cons, r_tup, r_lst, r_lstN, r_cb, r_is, r_call, r_neg, r_chain, r_ixC, ro_no, ro_some, r_sl, rt_nm, rs_next, rs_ret, rs_seq, rs_if, rs_asg, rs_asgT, rs_par, rt_nil, rt_cons, rt_tp, ri_data, ri_range1, ri_range2, ri_enum, r_comp, startD, look_d, looks_nil, looks_d, datas_nil, datas_d, tru_b, tru_i, List.length_cons, List.length_nil, List.getElem?_cons_zero, List.getElem?_cons_succ, List.set_cons_zero, List.set_cons_succ, Option.map_some, List.map_cons, List.map_nil, Nat.reduceAdd, Nat.reduceSub, Nat.reduceEqDiff, List.reduceReplicate, List.cons_append, List.nil_append, List.append_nil, true_and, and_true, gSl_fromL, gSl_toL]
    rw [gAdd_fit (by rw [List.length_drop, List.length_take, List.length_map]; omega), r1_some]
    obtain ⟨U, hU, hUp⟩ : ∃ U : List Tick, (T.map tp).drop z ++ (T.map tp).take z = U.map tp ∧ U.Perm T := by
      refine ⟨T.drop z ++ T.take z, by rw [List.map_append, List.map_drop, List.map_take], ?_⟩
      exact List.perm_append_comm.trans (by rw [List.take_append_drop])
    have hUl := hUp.length_eq
    have hUT : TOk pg U := ⟨(hUp.flatMap_right _).trans hT.1, fun t ht => hT.2 t (hUp.mem_iff.mp ht)⟩
    have hUK : KOk pg K U := ⟨hK.asc, hK.ne, hK.num, hK.nod, hK.lam, fun t ht => by obtain ⟨u, hu, hs⟩ := hK.und t ht; exact ⟨u, hUp.mem_iff.mpr hu, hs⟩⟩
    have hUs : lens U ≤ 1000 := by rw [← lens_flat, hUT.1.length_eq]; exact hpg
    try simp only [r1_some, r2_some, r1_none, r_var, r_c, r_op, r_fz, r_bval, r_btru, r_band, r_bor, r_bnot, r_if, r_and, r_or, r_not, r_nil, r_cons, r_tup, r_lst, r_lstN, r_cb, r_is, r_call, r_neg, r_chain, r_ixC, ro_no, ro_some, r_sl, rt_nm, rs_next, rs_ret, rs_seq, rs_if, rs_asg, rs_asgT, rs_par, rt_nil, rt_cons, rt_tp, ri_data, ri_range1, ri_range2, ri_enum, r_comp, startD, look_d, looks_nil, looks_d, datas_nil, datas_d, tru_b, tru_i, List.length_cons, List.length_nil, List.getElem?_cons_zero, List.getElem?_cons_succ, List.set_cons_zero, List.set_cons_succ, Option.map_some, List.map_cons, List.map_nil, Nat.reduceAdd, Nat.reduceSub, Nat.reduceEqDiff, List.reduceReplicate, List.cons_append, List.nil_append, List.append_nil, true_and, and_true, hU, gLen_list, List.length_map, i6]
    refine (someJ_sp (by simp) (by simp) h1).mono fun v s hv => ?_
    obtain ⟨x, b2, rfl, hx, rfl, l2, h2⟩ := hv
    obtain ⟨y, rfl, y0⟩ : ∃ y : Nat, x = .int y ∧ 0 < y := by
      simp only [List.mem_cons, List.not_mem_nil, or_false] at hx
      rcases hx with rfl | rfl | rfl | rfl | rfl | rfl <;> first | exact ⟨1, rfl, by decide⟩ | exact ⟨2, rfl, by decide⟩ | exact ⟨3, rfl, by decide⟩ | exact ⟨_, rfl, by omega⟩
    try simp only [r1_some, r2_some, r1_none, r_var, r_c, r_op, r_fz, r_bval, r_btru, r_band, r_bor, r_bnot, r_if, r_and, r_or, r_not, r_nil, r_cons, r_tup, r_lst, r_lstN, r_cb, r_is, r_call, r_neg, r_chain, r_ixC, ro_no, ro_some, r_sl, rt_nm, rs_next, rs_ret, rs_seq, rs_if, rs_asg, rs_asgT, rs_par, rt_nil, rt_cons, rt_tp, ri_data, ri_range1, ri_range2, ri_enum, r_comp, startD, look_d, looks_nil, looks_d, datas_nil, datas_d, tru_b, tru_i, List.length_cons, List.length_nil, List.getElem?_cons_zero, List.getElem?_cons_succ, List.set_cons_zero, List.set_cons_succ, Option.map_some, List.map_cons, List.map_nil, Nat.reduceAdd, Nat.reduceSub, Nat.reduceEqDiff, List.reduceReplicate, List.cons_append, List.nil_append, List.append_nil, true_and, and_true, gMin2]
    obtain ⟨m, hm, m0, m1⟩ : ∃ m : Nat, (if (y : Int) < (U.length : Int) then (y : Int) else (U.length : Int)) = m ∧ 0 < m ∧ m ≤ U.length := by
      split
      · exact ⟨_, rfl, y0, by omega⟩
      · exact ⟨_, rfl, by omega, Nat.le_refl _⟩
    try simp only [r1_some, r2_some, r1_none, r_var, r_c, r_op, r_fz, r_bval, r_btru, r_band, r_bor, r_bnot, r_if, r_and, r_or, r_not, r_nil, r_cons, r_tup, r_lst, r_lstN, r_cb, r_is, r_call, r_neg, r_chain, r_ixC, ro_no, ro_some, r_sl, rt_nm, rs_next, rs_ret, rs_seq, rs_if, rs_asg, rs_asgT, rs_par, rt_nil, rt_cons, rt_tp, ri_data, ri_range1, ri_range2, ri_enum, r_comp, startD, look_d, looks_nil, looks_d, datas_nil, datas_d, tru_b, tru_i, List.length_cons, List.length_nil, List.getElem?_cons_zero, List.getElem?_cons_succ, List.set_cons_zero, List.set_cons_succ, Option.map_some, List.map_cons, List.map_nil, Nat.reduceAdd, Nat.reduceSub, Nat.reduceEqDiff, List.reduceReplicate, List.cons_append, List.nil_append, List.append_nil, true_and, and_true, hm, i0]
    rw [rs_for]
    try simp only [r1_some, r2_some, r1_none, r_var, r_c, r_op, r_fz, r_bval, r_btru, r_band, r_bor, r_bnot, r_if, r_and, r_or, r_not, r_nil, r_cons, r_tup, r_lst, r_lstN, r_cb, r_is, r_call, r_neg, r_chain, r_ixC, ro_no, ro_some, r_sl, rt_nm, rs_next, rs_ret, rs_seq, rs_if, rs_asg, rs_asgT, rs_par, rt_nil, rt_cons, rt_tp, ri_data, ri_range1, ri_range2, ri_enum, r_comp, startD, look_d, looks_nil, looks_d, datas_nil, datas_d, tru_b, tru_i, List.length_cons, List.length_nil, List.getElem?_cons_zero, List.getElem?_cons_succ, List.set_cons_zero, List.set_cons_succ, Option.map_some, List.map_cons, List.map_nil, Nat.reduceAdd, Nat.reduceSub, Nat.reduceEqDiff, List.reduceReplicate, List.cons_append, List.nil_append, List.append_nil, true_and, and_true, gSl_toL, tk_nil]
    have hc := lens_cut U m
    refine (merge_for (S0 := b2 ++ .dct (K.map kvD) :: junk) (n0 := (b2 ++ .dct (K.map kvD) :: junk).length) rfl (U.take m) (by omega)).mono fun o ho => ?_
    cases o with
    | nx ρ s =>
      obtain ⟨k, w9', w13', rfl, rfl⟩ := ho
      obtain ⟨l, hll⟩ : ∃ l, (U.take m).flatMap (·.1) = l := ⟨_, rfl⟩
      have hlen : l.length ≤ 1000 := by rw [← hll, lens_flat]; omega
      have lnd : l.Nodup := by
        have : (U.flatMap (·.1)).Nodup := hUT.1.nodup_iff.mpr hnd
        rw [← List.take_append_drop m U, List.flatMap_append] at this
        rw [← hll]
        exact (List.nodup_append.mp this).1
      rw [hll]
      have es : (b2 ++ .dct (K.map kvD) :: junk) ++ [.lst ((l.map PyData.int).map .d)] = b2 ++ .dct (K.map kvD) :: (junk ++ [.lst ((l.map PyData.int).map .d)]) := by simp
      dsimp only
      rw [rs_seq, rs_asg, es]
      refine (num_sp (sm := sm) (k := k) rfl rfl rfl h2).mono fun v s hv => ?_
      obtain ⟨num, b3, rfl, q0, q1, rfl, l3, h3⟩ := hv
      have lk : lookR (b3 ++ .dct (K.map kvD) :: (junk ++ [.lst ((l.map PyData.int).map .d)])) (.r (b2 ++ .dct (K.map kvD) :: junk).length) = some (.list (l.map .int)) := look_lst (at_app2 l3)
      try simp only [r1_some, r2_some, r1_none, r_var, r_c, r_op, r_fz, r_bval, r_btru, r_band, r_bor, r_bnot, r_if, r_and, r_or, r_not, r_nil, r_cons, r_tup, r_lst, r_lstN, r_cb, r_is, r_call, r_neg, r_chain, r_ixC, ro_no, ro_some, r_sl, rt_nm, rs_next, rs_ret, rs_seq, rs_if, rs_asg, rs_asgT, rs_par, rt_nil, rt_cons, rt_tp, ri_data, ri_range1, ri_range2, ri_enum, r_comp, startD, look_d, looks_nil, looks_d, datas_nil, datas_d, tru_b, tru_i, List.length_cons, List.length_nil, List.getElem?_cons_zero, List.getElem?_cons_succ, List.set_cons_zero, List.set_cons_succ, Option.map_some, List.map_cons, List.map_nil, Nat.reduceAdd, Nat.reduceSub, Nat.reduceEqDiff, List.reduceReplicate, List.cons_append, List.nil_append, List.append_nil, true_and, and_true]
      refine r_putT_ ?_
      have sl : gSorted [.list (l.map .int)] = some (.list (srt (l.map .int))) := if_pos (sorts_ints (by omega))
      obtain ⟨l', hl', hp', ha'⟩ := srt_asc lnd
      try simp only [r1_some, r2_some, r1_none, r_var, r_c, r_op, r_fz, r_bval, r_btru, r_band, r_bor, r_bnot, r_if, r_and, r_or, r_not, r_nil, r_cons, r_tup, r_lst, r_lstN, r_cb, r_is, r_call, r_neg, r_chain, r_ixC, ro_no, ro_some, r_sl, rt_nm, rs_next, rs_ret, rs_seq, rs_if, rs_asg, rs_asgT, rs_par, rt_nil, rt_cons, rt_tp, ri_data, ri_range1, ri_range2, ri_enum, r_comp, startD, look_d, looks_nil, looks_d, datas_nil, datas_d, tru_b, tru_i, List.length_cons, List.length_nil, List.getElem?_cons_zero, List.getElem?_cons_succ, List.set_cons_zero, List.set_cons_succ, Option.map_some, List.map_cons, List.map_nil, Nat.reduceAdd, Nat.reduceSub, Nat.reduceEqDiff, List.reduceReplicate, List.cons_append, List.nil_append, List.append_nil, true_and, and_true, looks_r lk, sl, hl']
      refine ⟨n0, rfl, l'.map .int, l'.map Sum.inl, K.map kvD, rfl, keys_ints l', by rw [← hb, ← l1, ← l2, ← l3]; exact at_app, by rw [List.length_map]; omega, ?_⟩
      have e3 : n0 = b3.length := by omega
      rw [e3, set_app, putV_map]
      have lk2 : lookR (b3 ++ .dct ((putI K l' num).map kvD) :: (junk ++ [.lst ((l.map PyData.int).map .d)])) (.r (b2 ++ .dct (K.map kvD) :: junk).length) = some (.list (l.map .int)) := look_lst (at_app2 l3)
      try simp only [r1_some, r2_some, r1_none, r_var, r_c, r_op, r_fz, r_bval, r_btru, r_band, r_bor, r_bnot, r_if, r_and, r_or, r_not, r_nil, r_cons, r_tup, r_lst, r_lstN, r_cb, r_is, r_call, r_neg, r_chain, r_ixC, ro_no, ro_some, r_sl, rt_nm, rs_next, rs_ret, rs_seq, rs_if, rs_asg, rs_asgT, rs_par, rt_nil, rt_cons, rt_tp, ri_data, ri_range1, ri_range2, ri_enum, r_comp, startD, look_d, looks_nil, looks_d, datas_nil, datas_d, tru_b, tru_i, List.length_cons, List.length_nil, List.getElem?_cons_zero, List.getElem?_cons_succ, List.set_cons_zero, List.set_cons_succ, Option.map_some, List.map_cons, List.map_nil, Nat.reduceAdd, Nat.reduceSub, Nat.reduceEqDiff, List.reduceReplicate, List.cons_append, List.nil_append, List.append_nil, true_and, and_true, gSl_fromL, looks_r lk2, gTupleOf, i2, i1]
      rw [gAdd_fit (by rw [List.length_drop, List.length_map]; simp only [List.length_cons, List.length_nil]; omega), r1_some]
      try simp only [r1_some, r2_some, r1_none, r_var, r_c, r_op, r_fz, r_bval, r_btru, r_band, r_bor, r_bnot, r_if, r_and, r_or, r_not, r_nil, r_cons, r_tup, r_lst, r_lstN, r_cb, r_is, r_call, r_neg, r_chain, r_ixC, ro_no, ro_some, r_sl, rt_nm, rs_next, rs_ret, rs_seq, rs_if, rs_asg, rs_asgT, rs_par, rt_nil, rt_cons, rt_tp, ri_data, ri_range1, ri_range2, ri_enum, r_comp, startD, look_d, looks_nil, looks_d, datas_nil, datas_d, tru_b, tru_i, List.length_cons, List.length_nil, List.getElem?_cons_zero, List.getElem?_cons_succ, List.set_cons_zero, List.set_cons_succ, Option.map_some, List.map_cons, List.map_nil, Nat.reduceAdd, Nat.reduceSub, Nat.reduceEqDiff, List.reduceReplicate, List.cons_append, List.nil_append, List.append_nil, true_and, and_true]
      have st := step_ok (num := num) hnd hUK hUT m0 m1 (by rw [hll]; exact hp') ha' q0 q1
      rw [hll] at st
      refine ⟨b3, junk ++ [.lst ((l.map PyData.int).map .d)], putI K l' num, U.drop m ++ [(l, num)], some v, some (.d (.int (z : Int))), some (.d (.int (m : Int))), some (.d (.int num)), w10, some (.r (b2 ++ .dct (K.map kvD) :: junk).length), some (.d (.int k)), w13', rfl, rfl, h3, st.1, ?_, st.2, ?_⟩
      · have := putI_len (K := K) (k := l') (v := num)
        omega
      · rw [List.map_append, List.map_drop]
        rfl
    | _ => exact ho.elim
noncomputable abbrev fFor : FF := fForest (fMixed fTake) fTake fTn (fSome fTake)
theorem intsV_kvD : ∀ K : List Tick, intsV (K.map kvD) = some (K.map fun e => (e.1.map Sum.inl, e.2))
  | [] => rfl
  | t :: K => by
    have := intsV_kvD K
    simp only [List.map_cons, kvD] at this ⊢
    simp [intsV, this]
theorem pair_tp (t : Tick) : pairD (t.1.map Sum.inl) t.2 = tp t := by
  show PyData.tuple [.tuple ((t.1.map Sum.inl).map keyD), .int t.2] = _
  rw [List.map_map]
  rfl
theorem sorts_tp {K : List Tick} (hl : K.length ≤ 1000) : sortsB (K.map tp) = true := by
  refine sorts_shp0 (fun d hd => ?_) (by rw [List.length_map]; omega)
  obtain ⟨t, _, rfl⟩ := List.mem_map.mp hd
  exact ⟨t.1, t.2, rfl⟩
theorem forest_sp {pg : List Int} {lim : Nat} {sm : Bool} (ht : ∀ n, CloC n tb) (hr : ∀ c ∈ rest, CloC (rest.length + 2) c) (hp : pg.length < 1000) (hnd : pg.Nodup) (hlim : lim ≤ 100) (h : BagS tb rest st) :
    R2 (fFor [.r 1, .d (.list (pg.map .int)), .d (.int lim), .d (.bool sm)] st) fun v s => (∃ F : List Tick, v = .d (.tuple (F.map tp)) ∧ FOk pg lim F) ∧ BagS tb rest s := by
  have i1 : (1 : Nat) ≤ sizeLine := by decide
  have i2 : (2 : Nat) ≤ sizeLine := by decide
  refine rf_cut ?_
  unfold gForest gForest_1 gForest_2 gForest_3
  try simp only [r1_some, r2_some, r1_none, r_var, r_c, r_op, r_fz, r_bval, r_btru, r_band, r_bor, r_bnot, r_if, r_and, r_or, r_not, r_nil, r_cons, r_tup, r_lst, r_lstN, r_cb, r_is, r_call, r_neg, r_chain, r_ixC, ro_no, ro_some, r_sl, rt_nm, rs_next, rs_ret, rs_seq, rs_if, rs_asg, rs_asgT, rs_par, rt_nil, rt_cons, rt_tp, ri_data, ri_range1, ri_range2, ri_enum, r_comp, startD, look_d, looks_nil, looks_d, datas_nil, datas_d, tru_b, tru_i, List.length_cons, List.length_nil, List.getElem?_cons_zero, List.getElem?_cons_succ, List.set_cons_zero, List.set_cons_succ, Option.map_some, List.map_cons, List.map_nil, Nat.reduceAdd, Nat.reduceSub, Nat.reduceEqDiff, List.reduceReplicate, List.cons_append, List.nil_append, List.append_nil, true_and, and_true]
  refine (mixed_sp ht hr (by rw [List.length_map]; omega) h).mono fun v s hv => ?_
  obtain ⟨⟨ys, rfl, hy⟩, hs⟩ := hv
  obtain ⟨b, rfl, hb⟩ := ints_perm hy
  try simp only [r1_some, r2_some, r1_none, r_var, r_c, r_op, r_fz, r_bval, r_btru, r_band, r_bor, r_bnot, r_if, r_and, r_or, r_not, r_nil, r_cons, r_tup, r_lst, r_lstN, r_cb, r_is, r_call, r_neg, r_chain, r_ixC, ro_no, ro_some, r_sl, rt_nm, rs_next, rs_ret, rs_seq, rs_if, rs_asg, rs_asgT, rs_par, rt_nil, rt_cons, rt_tp, ri_data, ri_range1, ri_range2, ri_enum, r_comp, startD, look_d, looks_nil, looks_d, datas_nil, datas_d, tru_b, tru_i, List.length_cons, List.length_nil, List.getElem?_cons_zero, List.getElem?_cons_succ, List.set_cons_zero, List.set_cons_succ, Option.map_some, List.map_cons, List.map_nil, Nat.reduceAdd, Nat.reduceSub, Nat.reduceEqDiff, List.reduceReplicate, List.cons_append, List.nil_append, List.append_nil, true_and, and_true]
  have e := comp_told (st := s) (t := tNm 10) (a := eTup (aCons (eTup (aCons (eVar 10) aNil)) (aCons (eC (.int 0)) aNil)))
    (ρ := wipeD [some (.r 1), some (.d (.list (pg.map .int))), some (.d (.int lim)), some (.d (.bool sm)), none, none, none, none, none, none, none, none, none, none] [10])
    (h := fun v => match v with
      | .d x => .tuple [.tuple [x], .int 0]
      | _ => .none) (items := (b.map PyData.int).map .d) fun v hv => by
    obtain ⟨x, hx, rfl⟩ := List.mem_map.mp hv
    simp only [wipeD, r1_some, r2_some, r1_none, r_var, r_c, r_op, r_fz, r_bval, r_btru, r_band, r_bor, r_bnot, r_if, r_and, r_or, r_not, r_nil, r_cons, r_tup, r_lst, r_lstN, r_cb, r_is, r_call, r_neg, r_chain, r_ixC, ro_no, ro_some, r_sl, rt_nm, rs_next, rs_ret, rs_seq, rs_if, rs_asg, rs_asgT, rs_par, rt_nil, rt_cons, rt_tp, ri_data, ri_range1, ri_range2, ri_enum, r_comp, startD, look_d, looks_nil, looks_d, datas_nil, datas_d, tru_b, tru_i, List.length_cons, List.length_nil, List.getElem?_cons_zero, List.getElem?_cons_succ, List.set_cons_zero, List.set_cons_succ, Option.map_some, List.map_cons, List.map_nil, Nat.reduceAdd, Nat.reduceSub, Nat.reduceEqDiff, List.reduceReplicate, List.cons_append, List.nil_append, List.append_nil, true_and, and_true, i1, i2]
  rw [e, r2_some, datas_map, r1_some]
  try simp only [r1_some, r2_some, r1_none, r_var, r_c, r_op, r_fz, r_bval, r_btru, r_band, r_bor, r_bnot, r_if, r_and, r_or, r_not, r_nil, r_cons, r_tup, r_lst, r_lstN, r_cb, r_is, r_call, r_neg, r_chain, r_ixC, ro_no, ro_some, r_sl, rt_nm, rs_next, rs_ret, rs_seq, rs_if, rs_asg, rs_asgT, rs_par, rt_nil, rt_cons, rt_tp, ri_data, ri_range1, ri_range2, ri_enum, r_comp, startD, look_d, looks_nil, looks_d, datas_nil, datas_d, tru_b, tru_i, List.length_cons, List.length_nil, List.getElem?_cons_zero, List.getElem?_cons_succ, List.set_cons_zero, List.set_cons_succ, Option.map_some, List.map_cons, List.map_nil, Nat.reduceAdd, Nat.reduceSub, Nat.reduceEqDiff, List.reduceReplicate, List.cons_append, List.nil_append, List.append_nil, true_and, and_true, r_dnT]
  have hbl := hb.length_eq
  refine ⟨by simp only [List.length_map]; omega, ?_⟩
  rw [rs_for]
  try simp only [r1_some, r2_some, r1_none, r_var, r_c, r_op, r_fz, r_bval, r_btru, r_band, r_bor, r_bnot, r_if, r_and, r_or, r_not, r_nil, r_cons, r_tup, r_lst, r_lstN, r_cb, r_is, r_call, r_neg, r_chain, r_ixC, ro_no, ro_some, r_sl, rt_nm, rs_next, rs_ret, rs_seq, rs_if, rs_asg, rs_asgT, rs_par, rt_nil, rt_cons, rt_tp, ri_data, ri_range1, ri_range2, ri_enum, r_comp, startD, look_d, looks_nil, looks_d, datas_nil, datas_d, tru_b, tru_i, List.length_cons, List.length_nil, List.getElem?_cons_zero, List.getElem?_cons_succ, List.set_cons_zero, List.set_cons_succ, Option.map_some, List.map_cons, List.map_nil, Nat.reduceAdd, Nat.reduceSub, Nat.reduceEqDiff, List.reduceReplicate, List.cons_append, List.nil_append, List.append_nil, true_and, and_true, gAdd_int]
  refine (takeJ_sp (b := s) (j := [.dct []]) (by omega) (by omega) hs).mono fun v s1 hv => ?_
  obtain ⟨z, b1, rfl, z0, z1, rfl, l1, h1⟩ := hv
  obtain ⟨z, rfl⟩ := Int.eq_ofNat_of_zero_le z0
  try simp only [r1_some, r2_some, r1_none, r_var, r_c, r_op, r_fz, r_bval, r_btru, r_band, r_bor, r_bnot, r_if, r_and, r_or, r_not, r_nil, r_cons, r_tup, r_lst, r_lstN, r_cb, r_is, r_call, r_neg, r_chain, r_ixC, ro_no, ro_some, r_sl, rt_nm, rs_next, rs_ret, rs_seq, rs_if, rs_asg, rs_asgT, rs_par, rt_nil, rt_cons, rt_tp, ri_data, ri_range1, ri_range2, ri_enum, r_comp, startD, look_d, looks_nil, looks_d, datas_nil, datas_d, tru_b, tru_i, List.length_cons, List.length_nil, List.getElem?_cons_zero, List.getElem?_cons_succ, List.set_cons_zero, List.set_cons_succ, Option.map_some, List.map_cons, List.map_nil, Nat.reduceAdd, Nat.reduceSub, Nat.reduceEqDiff, List.reduceReplicate, List.cons_append, List.nil_append, List.append_nil, true_and, and_true]
  refine ⟨by omega, by omega, ?_⟩
  have e0 : List.map (fun v => match v with
      | .d x => .tuple [.tuple [x], .int 0]
      | _ => .none) ((b.map PyData.int).map Vd.d) = (b.map fun p => ([p], (0 : Int))).map tp := by
    rw [List.map_map, List.map_map, List.map_map]
    rfl
  rw [e0]
  have flat0 : (b.map fun p => ([p], (0 : Int))).flatMap (·.1) = b := by
    clear e0 e hb hbl hy
    induction b with
    | nil => rfl
    | cons x b ih =>
      rw [List.map_cons, List.flatMap_cons, ih]
      rfl
  refine (for_go (E := fun _ _ => False) (I := fun vs ρ s2 => FI tb rest pg s.length z sm (some (.d (.list (pg.map .int)))) (some (.d (.int lim))) ρ s2 vs.length) (fun v vs ρ s2 hI => ?_)
    (ρ := [some (.r 1), some (.d (.list (pg.map .int))), some (.d (.int lim)), some (.d (.bool sm)), none, some (.d (.list ((b.map fun p => ([p], (0 : Int))).map tp))), some (.r s.length), none, none, none, none, none, none, none])
    (st := b1 ++ [.dct []]) ?_).mono fun o ho => ?_
  · refine (forest_turn (left := vs.length) (by omega) (by omega) hnd hI).mono fun ρ1 s1 hq => hq.mono fun o ho => ?_
    cases o <;> first | exact ho | exact ho.elim
  · refine ⟨b1, [], [], b.map fun p => ([p], (0 : Int)), none, none, none, none, none, none, none, none, rfl, l1, h1, ⟨(fun _ h => nomatch h), (fun _ h => nomatch h), (fun _ h => nomatch h), List.nodup_nil, (fun _ h => nomatch h), (fun _ h => nomatch h)⟩, ?_, ⟨by rw [flat0]; exact hb, fun t ht => ?_⟩, rfl⟩
    · simp
    · obtain ⟨q, hq, rfl⟩ := List.mem_map.mp ht
      simp
  · cases o with
    | nx ρ s2 =>
      obtain ⟨b2, junk, K, T, w4, w7, w8, w9, w10, w11, w12, w13, rfl, l2, h2, hK, hl, hT, rfl⟩ := ho
      have hl' : K.length ≤ z := by simpa using hl
      have epair : (K.map fun e => (e.1.map (Sum.inl : Int → Key), e.2)).map (fun e => pairD e.1 e.2) = K.map tp := by
        rw [List.map_map]
        exact List.map_congr_left fun t _ => pair_tp t
      try simp only [r1_some, r2_some, r1_none, r_var, r_c, r_op, r_fz, r_bval, r_btru, r_band, r_bor, r_bnot, r_if, r_and, r_or, r_not, r_nil, r_cons, r_tup, r_lst, r_lstN, r_cb, r_is, r_call, r_neg, r_chain, r_ixC, ro_no, ro_some, r_sl, rt_nm, rs_next, rs_ret, rs_seq, rs_if, rs_asg, rs_asgT, rs_par, rt_nil, rt_cons, rt_tp, ri_data, ri_range1, ri_range2, ri_enum, r_comp, startD, look_d, looks_nil, looks_d, datas_nil, datas_d, tru_b, tru_i, List.length_cons, List.length_nil, List.getElem?_cons_zero, List.getElem?_cons_succ, List.set_cons_zero, List.set_cons_succ, Option.map_some, List.map_cons, List.map_nil, Nat.reduceAdd, Nat.reduceSub, Nat.reduceEqDiff, List.reduceReplicate, List.cons_append, List.nil_append, List.append_nil, true_and, and_true]
      refine r_sortI_ ?_
      try simp only [r1_some, r2_some, r1_none, r_var, r_c, r_op, r_fz, r_bval, r_btru, r_band, r_bor, r_bnot, r_if, r_and, r_or, r_not, r_nil, r_cons, r_tup, r_lst, r_lstN, r_cb, r_is, r_call, r_neg, r_chain, r_ixC, ro_no, ro_some, r_sl, rt_nm, rs_next, rs_ret, rs_seq, rs_if, rs_asg, rs_asgT, rs_par, rt_nil, rt_cons, rt_tp, ri_data, ri_range1, ri_range2, ri_enum, r_comp, startD, look_d, looks_nil, looks_d, datas_nil, datas_d, tru_b, tru_i, List.length_cons, List.length_nil, List.getElem?_cons_zero, List.getElem?_cons_succ, List.set_cons_zero, List.set_cons_succ, Option.map_some, List.map_cons, List.map_nil, Nat.reduceAdd, Nat.reduceSub, Nat.reduceEqDiff, List.reduceReplicate, List.cons_append, List.nil_append, List.append_nil, true_and, and_true]
      refine ⟨s.length, K.map kvD, _, rfl, by rw [← l2]; exact at_app, intsV_kvD K, by rw [epair]; exact sorts_tp (by omega), ?_⟩
      rw [epair]
      obtain ⟨F, hF, hFp⟩ := perm_tp (K := K) (l := srt (K.map tp)) (List.mergeSort_perm _ _)
      rw [hF]
      try simp only [r1_some, r2_some, r1_none, r_var, r_c, r_op, r_fz, r_bval, r_btru, r_band, r_bor, r_bnot, r_if, r_and, r_or, r_not, r_nil, r_cons, r_tup, r_lst, r_lstN, r_cb, r_is, r_call, r_neg, r_chain, r_ixC, ro_no, ro_some, r_sl, rt_nm, rs_next, rs_ret, rs_seq, rs_if, rs_asg, rs_asgT, rs_par, rt_nil, rt_cons, rt_tp, ri_data, ri_range1, ri_range2, ri_enum, r_comp, startD, look_d, looks_nil, looks_d, datas_nil, datas_d, tru_b, tru_i, List.length_cons, List.length_nil, List.getElem?_cons_zero, List.getElem?_cons_succ, List.set_cons_zero, List.set_cons_succ, Option.map_some, List.map_cons, List.map_nil, Nat.reduceAdd, Nat.reduceSub, Nat.reduceEqDiff, List.reduceReplicate, List.cons_append, List.nil_append, List.append_nil, true_and, and_true, gTupleOf]
      have hsub : ∀ t ∈ K, Sub t.1 pg := fun t ht p hp => by
        obtain ⟨u, hu, hs⟩ := hK.und t ht
        exact hT.1.mem_iff.mp (List.mem_flatMap.mpr ⟨u, hu, hs p hp⟩)
      refine ⟨b2, .dct (K.map kvD) :: junk, rfl, by rw [h.len, h2.len], clo_bag ht hr h2, trivial, ⟨F, rfl, ?_, fun t ht => hK.asc t (hFp.mem_iff.mp ht), fun t ht => hK.ne t (hFp.mem_iff.mp ht), fun t ht => hsub t (hFp.mem_iff.mp ht), fun t ht => hK.num t (hFp.mem_iff.mp ht), (hFp.map _).nodup_iff.mpr hK.nod,
        fun t ht u hu => hK.lam t (hFp.mem_iff.mp ht) u (hFp.mem_iff.mp hu)⟩, h2⟩
      have := hFp.length_eq
      omega
    | _ => exact ho.elim
end Gs

set_option Elab.async false
set_option linter.all false
set_option maxRecDepth 100000
set_option maxHeartbeats 4000000
namespace Gs
open PySem PySem.Spec PyProof.Rows L2 Pg Dl
variable {tb : Cell} {rest st s : Sto}
/-! ### helpers -/
theorem eq_of {o : Option (Vd × Sto)} {a : Vd} {b : Sto} (h : R2 o fun v s => v = a ∧ s = b) : o = some (a, b) := by
  obtain ⟨v, s, e, rfl, rfl⟩ := h
  exact e
theorem comp_map {α : Type} {f : α → Vd} {h : α → PyData} {p : α → Bool} {t : TF} {c : BF} {a : EF} {ρ : Dl.Env} : ∀ {L : List α}, (∀ x ∈ L, R2 (t (f x) ρ st) fun ρ1 s1 => R2 (c ρ1 s1) fun b s2 => b = p x ∧ s2 = st ∧ (p x = true → R2 (a ρ1 st) fun w s3 => w = .d (h x) ∧ s3 = st)) →
    compD t c a ρ (L.map f) st = some (((L.filter p).map h).map .d, st)
  | [], _ => rfl
  | v :: vs, g => by
    have ih := comp_map (L := vs) (fun u hu => g u (List.mem_cons_of_mem _ hu))
    obtain ⟨ρ1, s1, e1, b, s2, e2, rfl, rfl, k⟩ := g v List.mem_cons_self
    rw [List.map_cons]
    unfold compD
    cases hp : p v with
    | true =>
      rw [hp] at e2
      obtain ⟨w, s3, e3, rfl, rfl⟩ := k hp
      simp only [e1, e2, e3, ih, Option.map_some, List.filter_cons, hp, if_true, List.map_cons]
    | false =>
      rw [hp] at e2
      simp only [e1, e2, ih, List.filter_cons, hp, Bool.false_eq_true, if_false]
theorem comp_map1 {α : Type} {f : α → Vd} {h : α → PyData} {t : TF} {a : EF} {ρ : Dl.Env} {L : List α} (g : ∀ x ∈ L, R2 (t (f x) ρ st) fun ρ1 s1 => s1 = st ∧ R2 (a ρ1 st) fun w s3 => w = .d (h x) ∧ s3 = st) :
    compD t bYes a ρ (L.map f) st = some ((L.map h).map .d, st) := by
  have := comp_map (p := fun _ => true) (c := bYes) (t := t) (a := a) (ρ := ρ) (h := h) (f := f) (L := L) (st := st) fun x hx => by
    obtain ⟨ρ1, s1, e1, rfl, k⟩ := g x hx
    exact ⟨ρ1, _, e1, true, _, rfl, rfl, rfl, fun _ => k⟩
  rw [List.filter_eq_self.mpr (fun _ _ => rfl)] at this
  exact this
def fT (t : Tick) : Vd := .d (tp t)
theorem map_tp (F : List Tick) : (F.map tp).map Vd.d = F.map fT := List.map_map
def iV (i : Int) : Vd := .d (.int i)
theorem map_int (l : List Int) : (l.map PyData.int).map Vd.d = l.map iV := List.map_map
/-- a couple of a page and a number -/
def cp (c : Int × Int) : PyData := .tuple [.int c.1, .int c.2]
def cV (c : Int × Int) : Vd := .d (cp c)
theorem map_cp (C : List (Int × Int)) : (C.map cp).map Vd.d = C.map cV := List.map_map
theorem gIn_f {i : Int} {l : List Int} : gIn false (.int i) (.tuple (l.map .int)) = some (.bool (decide (i ∈ l))) := by rw [gIn_intsT]; simp
theorem gIn_t {i : Int} {l : List Int} : gIn true (.int i) (.tuple (l.map .int)) = some (.bool (!decide (i ∈ l))) := by rw [gIn_intsT]; simp
theorem gt_int (i j : Int) : gCm (fun d e => PySem.W.dataLt e d) (.int i) (.int j) = some (.bool (decide (j < i))) := by rw [gCm_int, lt_int_]
theorem le_int (i j : Int) : gCm (fun d e => !PySem.W.dataLt e d) (.int i) (.int j) = some (.bool (decide (i ≤ j))) := by
  rw [gCm_int, lt_int_]
  by_cases h : j < i
  · rw [decide_eq_true h, decide_eq_false (by omega)]; rfl
  · rw [decide_eq_false h, decide_eq_true (by omega)]; rfl
theorem gLt_int (i j : Int) : gCm PySem.W.dataLt (.int i) (.int j) = some (.bool (decide (i < j))) := by rw [gCm_int, lt_int_]
theorem ge_int (i j : Int) : gCm (fun d e => !PySem.W.dataLt d e) (.int i) (.int j) = some (.bool (decide (j ≤ i))) := by
  rw [gCm_int, lt_int_]
  by_cases h : i < j
  · rw [decide_eq_true h, decide_eq_false (by omega)]; rfl
  · rw [decide_eq_false h, decide_eq_true (by omega)]; rfl
theorem intsD_m (ns : List Int) : intsD (ns.map .int) = some ns := by
  induction ns with
  | nil => rfl
  | cons n ns ih => simp [intsD, ih]
theorem gSum_m (ns : List Int) : gSum [.list (ns.map .int)] = some (.int ns.sum) := by
  show (intsD (ns.map .int)).map _ = _
  rw [intsD_m]
  rfl
theorem boolsD_m (bs : List Bool) : boolsD (bs.map .bool) = some bs := by
  induction bs with
  | nil => rfl
  | cons n ns ih => simp [boolsD, ih]
theorem gAll_m (bs : List Bool) : gAll [.list (bs.map .bool)] = some (.bool (bs.all id)) := by
  show (boolsD (bs.map .bool)).map _ = _
  rw [boolsD_m]
  rfl
theorem gMin_m (n : Int) (ns : List Int) : gMin [.list ((n :: ns).map .int)] = some (.int (ns.foldl min n)) := by
  show (if minsB (PyData.int n :: ns.map .int) = true then some (PySem.W.minD (.int n) (ns.map .int)) else none) = _
  rw [if_pos, PySem.W.minD_ints]
  have e : PyData.int n :: ns.map .int = (n :: ns).map .int := rfl
  rw [e]
  unfold minsB alikesB
  simp only [Bool.and_eq_true, List.all_eq_true, decide_eq_true_eq]
  refine ⟨⟨?_, ?_⟩, by rw [depth_ints]; omega⟩
  · intro x hx y hy
    obtain ⟨i, _, rfl⟩ := List.mem_map.mp hx
    obtain ⟨j, _, rfl⟩ := List.mem_map.mp hy
    simp [PySem.W.alike]
  · intro x hx
    obtain ⟨i, _, rfl⟩ := List.mem_map.mp hx
    rfl
theorem foldl_min_le (ns : List Int) : ∀ n : Int, ns.foldl min n ≤ n ∧ (∀ x ∈ ns, ns.foldl min n ≤ x) ∧ (ns.foldl min n = n ∨ ns.foldl min n ∈ ns) := by
  induction ns with
  | nil => intro n; exact ⟨Int.le_refl _, (fun _ h => nomatch h), .inl rfl⟩
  | cons y ns ih =>
    intro n
    obtain ⟨h1, h2, h3⟩ := ih (min n y)
    rw [List.foldl_cons]
    refine ⟨by omega, fun x hx => ?_, ?_⟩
    · rcases List.mem_cons.mp hx with rfl | hx
      · omega
      · exact h2 x hx
    · rcases h3 with h3 | h3
      · by_cases c : n ≤ y
        · left; omega
        · right; rw [h3]; rw [show min n y = y by omega]; exact List.mem_cons_self
      · exact .inr (List.mem_cons_of_mem _ h3)
theorem any_filter {α : Type} (L : List α) (p : α → Bool) : (!(L.filter p).isEmpty) = L.any p := by
  induction L with
  | nil => rfl
  | cons x L ih =>
    rw [List.filter_cons, List.any_cons]
    cases p x with
    | true => simp
    | false => simpa using ih
theorem isEmpty_map' {α β : Type} (L : List α) (f : α → β) : (L.map f).isEmpty = L.isEmpty := by cases L <;> rfl
/-! ### the pure readings -/
def hasP (F : List Tick) (p : Int) : Bool := F.any fun t => decide (p ∈ t.1)
def letsP (F : List Tick) (p : Int) : Bool := hasP F p && F.all fun t => !decide (p ∈ t.1) || decide (0 < t.2)
def spentP (F : List Tick) (p : Int) : List Tick := F.map fun t => (t.1, if p ∈ t.1 then t.2 - 1 else t.2)
def inC (l : List Int) (C : List (Int × Int)) : Int := ((C.filter fun c => decide (c.1 ∈ l)).map (·.2)).sum
def spentC (F : List Tick) (C : List (Int × Int)) : List Tick := F.map fun t => (t.1, t.2 - inC t.1 C)
def isLetP (F : List Tick) (C : List (Int × Int)) : Bool := (C.all fun c => hasP F c.1) && F.all fun t => decide (inC t.1 C ≤ t.2)
/-! ### has, has_page, lets, spent -/
theorem has_eq {F : List Tick} {p : Int} (hF : F.length ≤ 1000) : fHas [.d (.tuple (F.map tp)), .d (.int p)] st = some (.d (.bool (hasP F p)), st) := by
  refine eq_of (rf_of ?_)
  have i0 : (0 : Nat) ≤ sizeLine := by decide
  unfold gHas
  try simp only [r1_some, r2_some, r1_none, r_var, r_c, r_op, r_fz, r_bval, r_btru, r_band, r_bor, r_bnot, r_if, r_and, r_or, r_not, r_nil, r_cons, r_tup, r_lst, r_lstN, r_cb, r_is, r_call, r_neg, r_chain, r_ixC, ro_no, ro_some, r_sl, rt_nm, rs_next, rs_ret, rs_seq, rs_if, rs_asg, rs_asgT, rs_par, rt_nil, rt_cons, rt_tp, ri_data, ri_range1, ri_range2, ri_enum, r_comp, startD, look_d, looks_nil, looks_d, datas_nil, datas_d, tru_b, tru_i, List.length_cons, List.length_nil, List.getElem?_cons_zero, List.getElem?_cons_succ, List.set_cons_zero, List.set_cons_succ, Option.map_some, List.map_cons, List.map_nil, Nat.reduceAdd, Nat.reduceSub, Nat.reduceEqDiff, List.reduceReplicate, List.cons_append, List.nil_append, List.append_nil, true_and, and_true]
  rw [map_tp, comp_map (p := fun t => decide (p ∈ t.1)) (h := tp) fun x hx => by
    simp only [wipeD, fT, tp, r1_some, r2_some, r1_none, r_var, r_c, r_op, r_fz, r_bval, r_btru, r_band, r_bor, r_bnot, r_if, r_and, r_or, r_not, r_nil, r_cons, r_tup, r_lst, r_lstN, r_cb, r_is, r_call, r_neg, r_chain, r_ixC, ro_no, ro_some, r_sl, rt_nm, rs_next, rs_ret, rs_seq, rs_if, rs_asg, rs_asgT, rs_par, rt_nil, rt_cons, rt_tp, ri_data, ri_range1, ri_range2, ri_enum, r_comp, startD, look_d, looks_nil, looks_d, datas_nil, datas_d, tru_b, tru_i, List.length_cons, List.length_nil, List.getElem?_cons_zero, List.getElem?_cons_succ, List.set_cons_zero, List.set_cons_succ, Option.map_some, List.map_cons, List.map_nil, Nat.reduceAdd, Nat.reduceSub, Nat.reduceEqDiff, List.reduceReplicate, List.cons_append, List.nil_append, List.append_nil, true_and, and_true, gIx_tuple, atI_zero, gIn_f]
    exact fun _ => trivial]
  simp only [r2_some, datas_map, r1_some, r2_some, r1_none, r_var, r_c, r_op, r_fz, r_bval, r_btru, r_band, r_bor, r_bnot, r_if, r_and, r_or, r_not, r_nil, r_cons, r_tup, r_lst, r_lstN, r_cb, r_is, r_call, r_neg, r_chain, r_ixC, ro_no, ro_some, r_sl, rt_nm, rs_next, rs_ret, rs_seq, rs_if, rs_asg, rs_asgT, rs_par, rt_nil, rt_cons, rt_tp, ri_data, ri_range1, ri_range2, ri_enum, r_comp, startD, look_d, looks_nil, looks_d, datas_nil, datas_d, tru_b, tru_i, List.length_cons, List.length_nil, List.getElem?_cons_zero, List.getElem?_cons_succ, List.set_cons_zero, List.set_cons_succ, Option.map_some, List.map_cons, List.map_nil, Nat.reduceAdd, Nat.reduceSub, Nat.reduceEqDiff, List.reduceReplicate, List.cons_append, List.nil_append, List.append_nil, true_and, and_true]
  refine ⟨by rw [List.length_map]; exact Nat.le_trans (List.length_filter_le _ _) (by omega), i0, ?_⟩
  rw [gNe_nilL, r1_some, isEmpty_map', any_filter]
  exact ⟨Nat.le_refl _, rfl, rfl⟩
theorem spent_eq {F : List Tick} {p : Int} (hF : F.length ≤ 1000) : fPSpent [.d (.tuple (F.map tp)), .d (.int p)] st = some (.d (.tuple ((spentP F p).map tp)), st) := by
  refine eq_of (rf_of ?_)
  have i2 : (2 : Nat) ≤ sizeLine := by decide
  unfold gPSpent
  try simp only [r1_some, r2_some, r1_none, r_var, r_c, r_op, r_fz, r_bval, r_btru, r_band, r_bor, r_bnot, r_if, r_and, r_or, r_not, r_nil, r_cons, r_tup, r_lst, r_lstN, r_cb, r_is, r_call, r_neg, r_chain, r_ixC, ro_no, ro_some, r_sl, rt_nm, rs_next, rs_ret, rs_seq, rs_if, rs_asg, rs_asgT, rs_par, rt_nil, rt_cons, rt_tp, ri_data, ri_range1, ri_range2, ri_enum, r_comp, startD, look_d, looks_nil, looks_d, datas_nil, datas_d, tru_b, tru_i, List.length_cons, List.length_nil, List.getElem?_cons_zero, List.getElem?_cons_succ, List.set_cons_zero, List.set_cons_succ, Option.map_some, List.map_cons, List.map_nil, Nat.reduceAdd, Nat.reduceSub, Nat.reduceEqDiff, List.reduceReplicate, List.cons_append, List.nil_append, List.append_nil, true_and, and_true]
  rw [map_tp, comp_map1 (h := fun t => tp (t.1, if p ∈ t.1 then t.2 - 1 else t.2)) fun x hx => by
    by_cases hp : p ∈ x.1
    · simp only [wipeD, fT, tp, r1_some, r2_some, r1_none, r_var, r_c, r_op, r_fz, r_bval, r_btru, r_band, r_bor, r_bnot, r_if, r_and, r_or, r_not, r_nil, r_cons, r_tup, r_lst, r_lstN, r_cb, r_is, r_call, r_neg, r_chain, r_ixC, ro_no, ro_some, r_sl, rt_nm, rs_next, rs_ret, rs_seq, rs_if, rs_asg, rs_asgT, rs_par, rt_nil, rt_cons, rt_tp, ri_data, ri_range1, ri_range2, ri_enum, r_comp, startD, look_d, looks_nil, looks_d, datas_nil, datas_d, tru_b, tru_i, List.length_cons, List.length_nil, List.getElem?_cons_zero, List.getElem?_cons_succ, List.set_cons_zero, List.set_cons_succ, Option.map_some, List.map_cons, List.map_nil, Nat.reduceAdd, Nat.reduceSub, Nat.reduceEqDiff, List.reduceReplicate, List.cons_append, List.nil_append, List.append_nil, true_and, and_true, gIn_f, gSub_int, hp, decide_true, if_true]
      simp only [r1_some, r2_some, r1_none, r_var, r_c, r_op, r_fz, r_bval, r_btru, r_band, r_bor, r_bnot, r_if, r_and, r_or, r_not, r_nil, r_cons, r_tup, r_lst, r_lstN, r_cb, r_is, r_call, r_neg, r_chain, r_ixC, ro_no, ro_some, r_sl, rt_nm, rs_next, rs_ret, rs_seq, rs_if, rs_asg, rs_asgT, rs_par, rt_nil, rt_cons, rt_tp, ri_data, ri_range1, ri_range2, ri_enum, r_comp, startD, look_d, looks_nil, looks_d, datas_nil, datas_d, tru_b, tru_i, List.length_cons, List.length_nil, List.getElem?_cons_zero, List.getElem?_cons_succ, List.set_cons_zero, List.set_cons_succ, Option.map_some, List.map_cons, List.map_nil, Nat.reduceAdd, Nat.reduceSub, Nat.reduceEqDiff, List.reduceReplicate, List.cons_append, List.nil_append, List.append_nil, true_and, and_true, gSub_int, i2]
    · simp only [wipeD, fT, tp, r1_some, r2_some, r1_none, r_var, r_c, r_op, r_fz, r_bval, r_btru, r_band, r_bor, r_bnot, r_if, r_and, r_or, r_not, r_nil, r_cons, r_tup, r_lst, r_lstN, r_cb, r_is, r_call, r_neg, r_chain, r_ixC, ro_no, ro_some, r_sl, rt_nm, rs_next, rs_ret, rs_seq, rs_if, rs_asg, rs_asgT, rs_par, rt_nil, rt_cons, rt_tp, ri_data, ri_range1, ri_range2, ri_enum, r_comp, startD, look_d, looks_nil, looks_d, datas_nil, datas_d, tru_b, tru_i, List.length_cons, List.length_nil, List.getElem?_cons_zero, List.getElem?_cons_succ, List.set_cons_zero, List.set_cons_succ, Option.map_some, List.map_cons, List.map_nil, Nat.reduceAdd, Nat.reduceSub, Nat.reduceEqDiff, List.reduceReplicate, List.cons_append, List.nil_append, List.append_nil, true_and, and_true, gIn_f, hp, decide_false, if_false]
      simp only [r1_some, r2_some, r1_none, r_var, r_c, r_op, r_fz, r_bval, r_btru, r_band, r_bor, r_bnot, r_if, r_and, r_or, r_not, r_nil, r_cons, r_tup, r_lst, r_lstN, r_cb, r_is, r_call, r_neg, r_chain, r_ixC, ro_no, ro_some, r_sl, rt_nm, rs_next, rs_ret, rs_seq, rs_if, rs_asg, rs_asgT, rs_par, rt_nil, rt_cons, rt_tp, ri_data, ri_range1, ri_range2, ri_enum, r_comp, startD, look_d, looks_nil, looks_d, datas_nil, datas_d, tru_b, tru_i, List.length_cons, List.length_nil, List.getElem?_cons_zero, List.getElem?_cons_succ, List.set_cons_zero, List.set_cons_succ, Option.map_some, List.map_cons, List.map_nil, Nat.reduceAdd, Nat.reduceSub, Nat.reduceEqDiff, List.reduceReplicate, List.cons_append, List.nil_append, List.append_nil, true_and, and_true, i2]]
  simp only [r2_some, datas_map, r1_some, r2_some, r1_none, r_var, r_c, r_op, r_fz, r_bval, r_btru, r_band, r_bor, r_bnot, r_if, r_and, r_or, r_not, r_nil, r_cons, r_tup, r_lst, r_lstN, r_cb, r_is, r_call, r_neg, r_chain, r_ixC, ro_no, ro_some, r_sl, rt_nm, rs_next, rs_ret, rs_seq, rs_if, rs_asg, rs_asgT, rs_par, rt_nil, rt_cons, rt_tp, ri_data, ri_range1, ri_range2, ri_enum, r_comp, startD, look_d, looks_nil, looks_d, datas_nil, datas_d, tru_b, tru_i, List.length_cons, List.length_nil, List.getElem?_cons_zero, List.getElem?_cons_succ, List.set_cons_zero, List.set_cons_succ, Option.map_some, List.map_cons, List.map_nil, Nat.reduceAdd, Nat.reduceSub, Nat.reduceEqDiff, List.reduceReplicate, List.cons_append, List.nil_append, List.append_nil, true_and, and_true, gTupleOf]
  refine ⟨by rw [List.length_map]; omega, Nat.le_refl _, ?_⟩
  unfold spentP
  rw [List.map_map]
  rfl
theorem lets_eq {F : List Tick} {p : Int} (hF : F.length ≤ 1000) : fPLets [.d (.tuple (F.map tp)), .d (.int p)] st = some (.d (.bool (letsP F p)), st) := by
  refine eq_of (rf_of ?_)
  unfold gPLets gPLets_1 gPLets_2
  try simp only [r1_some, r2_some, r1_none, r_var, r_c, r_op, r_fz, r_bval, r_btru, r_band, r_bor, r_bnot, r_if, r_and, r_or, r_not, r_nil, r_cons, r_tup, r_lst, r_lstN, r_cb, r_is, r_call, r_neg, r_chain, r_ixC, ro_no, ro_some, r_sl, rt_nm, rs_next, rs_ret, rs_seq, rs_if, rs_asg, rs_asgT, rs_par, rt_nil, rt_cons, rt_tp, ri_data, ri_range1, ri_range2, ri_enum, r_comp, startD, look_d, looks_nil, looks_d, datas_nil, datas_d, tru_b, tru_i, List.length_cons, List.length_nil, List.getElem?_cons_zero, List.getElem?_cons_succ, List.set_cons_zero, List.set_cons_succ, Option.map_some, List.map_cons, List.map_nil, Nat.reduceAdd, Nat.reduceSub, Nat.reduceEqDiff, List.reduceReplicate, List.cons_append, List.nil_append, List.append_nil, true_and, and_true]
  rw [map_tp, comp_map (p := fun t => decide (p ∈ t.1)) (h := fun t => .int t.2) fun x hx => by
    simp only [wipeD, fT, tp, r1_some, r2_some, r1_none, r_var, r_c, r_op, r_fz, r_bval, r_btru, r_band, r_bor, r_bnot, r_if, r_and, r_or, r_not, r_nil, r_cons, r_tup, r_lst, r_lstN, r_cb, r_is, r_call, r_neg, r_chain, r_ixC, ro_no, ro_some, r_sl, rt_nm, rs_next, rs_ret, rs_seq, rs_if, rs_asg, rs_asgT, rs_par, rt_nil, rt_cons, rt_tp, ri_data, ri_range1, ri_range2, ri_enum, r_comp, startD, look_d, looks_nil, looks_d, datas_nil, datas_d, tru_b, tru_i, List.length_cons, List.length_nil, List.getElem?_cons_zero, List.getElem?_cons_succ, List.set_cons_zero, List.set_cons_succ, Option.map_some, List.map_cons, List.map_nil, Nat.reduceAdd, Nat.reduceSub, Nat.reduceEqDiff, List.reduceReplicate, List.cons_append, List.nil_append, List.append_nil, true_and, and_true, gIn_f]
    exact fun _ => trivial]
  have hl : (F.filter fun t => decide (p ∈ t.1)).length ≤ 1000 := Nat.le_trans (List.length_filter_le _ _) hF
  have e1 : ((F.filter fun t => decide (p ∈ t.1)).map fun t => PyData.int t.2) = ((F.filter fun t => decide (p ∈ t.1)).map (·.2)).map .int := by rw [List.map_map]; rfl
  have e2 := any_filter F fun t => decide (p ∈ t.1)
  have e3 : (F.all fun t => !decide (p ∈ t.1) || decide (0 < t.2)) = (F.filter fun t => decide (p ∈ t.1)).all fun t => decide (0 < t.2) := by rw [List.all_filter]
  unfold letsP hasP
  rw [e3, ← e2, e1]
  generalize F.filter (fun t => decide (p ∈ t.1)) = G at hl
  simp only [r2_some, datas_map, r1_some, r2_some, r1_none, r_var, r_c, r_op, r_fz, r_bval, r_btru, r_band, r_bor, r_bnot, r_if, r_and, r_or, r_not, r_nil, r_cons, r_tup, r_lst, r_lstN, r_cb, r_is, r_call, r_neg, r_chain, r_ixC, ro_no, ro_some, r_sl, rt_nm, rs_next, rs_ret, rs_seq, rs_if, rs_asg, rs_asgT, rs_par, rt_nil, rt_cons, rt_tp, ri_data, ri_range1, ri_range2, ri_enum, r_comp, startD, look_d, looks_nil, looks_d, datas_nil, datas_d, tru_b, tru_i, List.length_cons, List.length_nil, List.getElem?_cons_zero, List.getElem?_cons_succ, List.set_cons_zero, List.set_cons_succ, Option.map_some, List.map_cons, List.map_nil, Nat.reduceAdd, Nat.reduceSub, Nat.reduceEqDiff, List.reduceReplicate, List.cons_append, List.nil_append, List.append_nil, true_and, and_true, gLen_list, List.length_map]
  refine ⟨by omega, ?_⟩
  rw [gt_int, r1_some]
  cases G with
  | nil =>
    simp only [r1_some, r2_some, r1_none, r_var, r_c, r_op, r_fz, r_bval, r_btru, r_band, r_bor, r_bnot, r_if, r_and, r_or, r_not, r_nil, r_cons, r_tup, r_lst, r_lstN, r_cb, r_is, r_call, r_neg, r_chain, r_ixC, ro_no, ro_some, r_sl, rt_nm, rs_next, rs_ret, rs_seq, rs_if, rs_asg, rs_asgT, rs_par, rt_nil, rt_cons, rt_tp, ri_data, ri_range1, ri_range2, ri_enum, r_comp, startD, look_d, looks_nil, looks_d, datas_nil, datas_d, tru_b, tru_i, List.length_cons, List.length_nil, List.getElem?_cons_zero, List.getElem?_cons_succ, List.set_cons_zero, List.set_cons_succ, Option.map_some, List.map_cons, List.map_nil, Nat.reduceAdd, Nat.reduceSub, Nat.reduceEqDiff, List.reduceReplicate, List.cons_append, List.nil_append, List.append_nil, true_and, and_true, List.isEmpty_nil, List.length_nil]
    simp
  | cons g G =>
    have : decide ((0 : Int) < ((G.length + 1 : Nat) : Int)) = true := by simp
    simp only [r1_some, r2_some, r1_none, r_var, r_c, r_op, r_fz, r_bval, r_btru, r_band, r_bor, r_bnot, r_if, r_and, r_or, r_not, r_nil, r_cons, r_tup, r_lst, r_lstN, r_cb, r_is, r_call, r_neg, r_chain, r_ixC, ro_no, ro_some, r_sl, rt_nm, rs_next, rs_ret, rs_seq, rs_if, rs_asg, rs_asgT, rs_par, rt_nil, rt_cons, rt_tp, ri_data, ri_range1, ri_range2, ri_enum, r_comp, startD, look_d, looks_nil, looks_d, datas_nil, datas_d, tru_b, tru_i, List.length_cons, List.length_nil, List.getElem?_cons_zero, List.getElem?_cons_succ, List.set_cons_zero, List.set_cons_succ, Option.map_some, List.map_cons, List.map_nil, Nat.reduceAdd, Nat.reduceSub, Nat.reduceEqDiff, List.reduceReplicate, List.cons_append, List.nil_append, List.append_nil, true_and, and_true, this]
    rw [show PyData.int g.2 :: (G.map (·.2)).map .int = (g.2 :: G.map (·.2)).map .int from rfl, gMin_m, r1_some]
    simp only [r1_some, r2_some, r1_none, r_var, r_c, r_op, r_fz, r_bval, r_btru, r_band, r_bor, r_bnot, r_if, r_and, r_or, r_not, r_nil, r_cons, r_tup, r_lst, r_lstN, r_cb, r_is, r_call, r_neg, r_chain, r_ixC, ro_no, ro_some, r_sl, rt_nm, rs_next, rs_ret, rs_seq, rs_if, rs_asg, rs_asgT, rs_par, rt_nil, rt_cons, rt_tp, ri_data, ri_range1, ri_range2, ri_enum, r_comp, startD, look_d, looks_nil, looks_d, datas_nil, datas_d, tru_b, tru_i, List.length_cons, List.length_nil, List.getElem?_cons_zero, List.getElem?_cons_succ, List.set_cons_zero, List.set_cons_succ, Option.map_some, List.map_cons, List.map_nil, Nat.reduceAdd, Nat.reduceSub, Nat.reduceEqDiff, List.reduceReplicate, List.cons_append, List.nil_append, List.append_nil, true_and, and_true]
    rw [gt_int, r1_some]
    refine ⟨Nat.le_refl _, ?_, rfl⟩
    have hm := foldl_min_le (G.map (·.2)) g.2
    have : decide (0 < (G.map (·.2)).foldl min g.2) = (g :: G).all fun t => decide (0 < t.2) := by
      rw [Bool.eq_iff_iff, decide_eq_true_iff, List.all_eq_true]
      simp only [decide_eq_true_eq]
      constructor
      · intro h t ht
        rcases List.mem_cons.mp ht with rfl | ht
        · omega
        · have := hm.2.1 t.2 (List.mem_map.mpr ⟨t, ht, rfl⟩)
          omega
      · intro h
        rcases hm.2.2 with e | e
        · rw [e]; exact h g List.mem_cons_self
        · obtain ⟨t, ht, et⟩ := List.mem_map.mp e
          rw [← et]
          exact h t (List.mem_cons_of_mem _ ht)
    rw [this]
    simp
end Gs

set_option Elab.async false
set_option linter.all false
set_option maxRecDepth 100000
set_option maxHeartbeats 4000000
namespace Gs
open PySem PySem.Spec PyProof.Rows L2 Pg Dl
variable {tb : Cell} {rest st s : Sto}
/-! ### tickets_with, has_page -/
abbrev lamQ : Str := "tickets_with.<locals>.<lambda>"
def eV (q : Tick × Nat) : Vd := .d (.tuple [.int q.2, tp q.1])
theorem enum_zip : ∀ (F : List Tick) (n : Nat), enumD n (F.map tp) = (F.zipIdx n).map eV
  | [], _ => rfl
  | t :: F, n => by
    rw [List.map_cons, List.zipIdx_cons, List.map_cons, ← enum_zip F (n + 1)]
    rfl
def idxP (F : List Tick) (p : Int) : List Nat := (F.zipIdx.filter fun q => decide (p ∈ q.1.1)).map (·.2)
def lenAt (F : List Tick) (i : Nat) : Nat := match F[i]? with
  | some t => t.1.length
  | none => 0
def lenGe (F : List Tick) (i j : Nat) : Bool := decide (lenAt F j ≤ lenAt F i)
def withP (F : List Tick) (p : Int) : List Nat := (idxP F p).mergeSort (lenGe F)
theorem idxP_mem {F : List Tick} {p : Int} {i : Nat} : i ∈ idxP F p ↔ ∃ t, F[i]? = some t ∧ p ∈ t.1 := by
  unfold idxP
  simp only [List.mem_map, List.mem_filter, decide_eq_true_eq]
  constructor
  · rintro ⟨⟨t, j⟩, ⟨h1, h2⟩, rfl⟩
    have := List.mem_zipIdx_iff_getElem?.mp h1
    exact ⟨t, this, h2⟩
  · rintro ⟨t, h1, h2⟩
    exact ⟨(t, i), ⟨List.mem_zipIdx_iff_getElem?.mpr h1, h2⟩, rfl⟩
abbrev kyT : Ky := ⟨true, true, (.at (.ix .c .x) 0)⟩
theorem ky_at {F : List Tick} {i : Nat} (hF : F.length ≤ 1000) (hl : ∀ t ∈ F, t.1.length ≤ 1000) (hi : i < F.length) : kyD kyT (.tuple (F.map tp)) (.int i) = some (-(lenAt F i : Int)) := by
  have e1 : ixT (F.map tp) (i : Int) = some (tp F[i]) := by
    unfold ixT
    rw [if_pos (by rw [List.length_map]; exact Nat.le_trans hF (by decide)), atI_nat_, List.getElem?_map, List.getElem?_eq_getElem hi]
    rfl
  have e2 : ixT [PyData.tuple (F[i].1.map .int), .int F[i].2] 0 = some (.tuple (F[i].1.map .int)) := by
    unfold ixT
    exact (if_pos (show 2 ≤ sizeLine by decide)).trans (atI_zero _ _)
  have e3 : lenAt F i = F[i].1.length := by
    unfold lenAt
    rw [List.getElem?_eq_getElem hi]
  have h4 := hl _ (List.getElem_mem hi)
  unfold kyD
  simp only [ptD, e1, tp, e2]
  rw [if_pos (by rw [List.length_map]; exact Nat.le_trans h4 (by decide)), e3, List.length_map]
  rfl
theorem tickets_eq {P : Addr} {F : List Tick} {p : Int} (hF : F.length ≤ 1000) (hl : ∀ t ∈ F, t.1.length ≤ 1000) (ht : Cell.tbl P lamQ ∈ st) :
    fPTicketsWith P [.d (.tuple (F.map tp)), .d (.int p)] st = some (.t ((withP F p).map fun i : Nat => .int i), st) := by
  refine eq_of (rf_of ?_)
  unfold gPTicketsWith gPTicketsWith_1 gPTicketsWith_2
  simp only [r1_some, r2_some, r1_none, r_var, r_c, r_op, r_fz, r_bval, r_btru, r_band, r_bor, r_bnot, r_if, r_and, r_or, r_not, r_nil, r_cons, r_tup, r_lst, r_lstN, r_cb, r_is, r_call, r_neg, r_chain, r_ixC, ro_no, ro_some, r_sl, rt_nm, rs_next, rs_ret, rs_seq, rs_if, rs_asg, rs_asgT, rs_par, rt_nil, rt_cons, rt_tp, ri_data, ri_range1, ri_range2, ri_enum, r_comp, startD, look_d, looks_nil, looks_d, datas_nil, datas_d, tru_b, tru_i, List.length_cons, List.length_nil, List.getElem?_cons_zero, List.getElem?_cons_succ, List.set_cons_zero, List.set_cons_succ, Option.map_some, List.map_cons, List.map_nil, Nat.reduceAdd, Nat.reduceSub, Nat.reduceEqDiff, List.reduceReplicate, List.cons_append, List.nil_append, List.append_nil, true_and, and_true]
  refine r_enumD_ ?_
  simp only [r1_some, r2_some, r1_none, r_var, r_c, r_op, r_fz, r_bval, r_btru, r_band, r_bor, r_bnot, r_if, r_and, r_or, r_not, r_nil, r_cons, r_tup, r_lst, r_lstN, r_cb, r_is, r_call, r_neg, r_chain, r_ixC, ro_no, ro_some, r_sl, rt_nm, rs_next, rs_ret, rs_seq, rs_if, rs_asg, rs_asgT, rs_par, rt_nil, rt_cons, rt_tp, ri_data, ri_range1, ri_range2, ri_enum, r_comp, startD, look_d, looks_nil, looks_d, datas_nil, datas_d, tru_b, tru_i, List.length_cons, List.length_nil, List.getElem?_cons_zero, List.getElem?_cons_succ, List.set_cons_zero, List.set_cons_succ, Option.map_some, List.map_cons, List.map_nil, Nat.reduceAdd, Nat.reduceSub, Nat.reduceEqDiff, List.reduceReplicate, List.cons_append, List.nil_append, List.append_nil, true_and, and_true]
  refine ⟨_, .inr rfl, ?_⟩
  rw [enum_zip, comp_map (p := fun q => decide (p ∈ q.1.1)) (h := fun q => .int q.2) fun x hx => by
    simp only [wipeD, eV, tp, r1_some, r2_some, r1_none, r_var, r_c, r_op, r_fz, r_bval, r_btru, r_band, r_bor, r_bnot, r_if, r_and, r_or, r_not, r_nil, r_cons, r_tup, r_lst, r_lstN, r_cb, r_is, r_call, r_neg, r_chain, r_ixC, ro_no, ro_some, r_sl, rt_nm, rs_next, rs_ret, rs_seq, rs_if, rs_asg, rs_asgT, rs_par, rt_nil, rt_cons, rt_tp, ri_data, ri_range1, ri_range2, ri_enum, r_comp, startD, look_d, looks_nil, looks_d, datas_nil, datas_d, tru_b, tru_i, List.length_cons, List.length_nil, List.getElem?_cons_zero, List.getElem?_cons_succ, List.set_cons_zero, List.set_cons_succ, Option.map_some, List.map_cons, List.map_nil, Nat.reduceAdd, Nat.reduceSub, Nat.reduceEqDiff, List.reduceReplicate, List.cons_append, List.nil_append, List.append_nil, true_and, and_true, gIx_tuple, atI_zero, gIn_f]
    exact fun _ => trivial]
  have hz : ((F.zipIdx.filter fun q => decide (p ∈ q.1.1)).map fun q : Tick × Nat => PyData.int q.2) = (idxP F p).map fun i : Nat => .int i := by
    unfold idxP
    rw [List.map_map]
    rfl
  have hlen : (idxP F p).length ≤ 1000 := by
    unfold idxP
    rw [List.length_map]
    refine Nat.le_trans (List.length_filter_le _ _) ?_
    rw [List.length_zipIdx]
    exact hF
  have hmem : ∀ i ∈ idxP F p, i < F.length := fun i hi => by
    obtain ⟨t, h1, _⟩ := idxP_mem.mp hi
    exact (List.getElem?_eq_some_iff.mp h1).1
  rw [hz]
  simp only [r2_some, datas_map, r1_some, r2_some, r1_none, r_var, r_c, r_op, r_fz, r_bval, r_btru, r_band, r_bor, r_bnot, r_if, r_and, r_or, r_not, r_nil, r_cons, r_tup, r_lst, r_lstN, r_cb, r_is, r_call, r_neg, r_chain, r_ixC, ro_no, ro_some, r_sl, rt_nm, rs_next, rs_ret, rs_seq, rs_if, rs_asg, rs_asgT, rs_par, rt_nil, rt_cons, rt_tp, ri_data, ri_range1, ri_range2, ri_enum, r_comp, startD, look_d, looks_nil, looks_d, datas_nil, datas_d, tru_b, tru_i, List.length_cons, List.length_nil, List.getElem?_cons_zero, List.getElem?_cons_succ, List.set_cons_zero, List.set_cons_succ, Option.map_some, List.map_cons, List.map_nil, Nat.reduceAdd, Nat.reduceSub, Nat.reduceEqDiff, List.reduceReplicate, List.cons_append, List.nil_append, List.append_nil, true_and, and_true]
  refine ⟨by rw [List.length_map]; omega, ?_⟩
  have key : eSortK P lamQ (some 0) kyT (eVar 2) [some (.d (.tuple (F.map tp))), some (.d (.int p)), some (.d (.list ((idxP F p).map fun i : Nat => .int i))), none, none] st = some (.d (.list ((withP F p).map fun i : Nat => .int i)), st) := by
    unfold eSortK
    have e0 : eVar 2 [some (Vd.d (.tuple (F.map tp))), some (.d (.int p)), some (.d (.list ((idxP F p).map fun i : Nat => .int i))), none, none] st = some (.d (.list ((idxP F p).map fun i : Nat => .int i)), st) := rfl
    have e1 : capD [some (Vd.d (.tuple (F.map tp))), some (.d (.int p)), some (.d (.list ((idxP F p).map fun i : Nat => .int i))), none, none] (some 0) = some (.tuple (F.map tp)) := rfl
    simp only [e0, e1]
    have hall : ((idxP F p).map fun i : Nat => PyData.int i).all (fun d => (kyD kyT (.tuple (F.map tp)) d).isSome) = true := by
      rw [List.all_map, List.all_eq_true]
      intro i hi
      show (kyD kyT (.tuple (F.map tp)) (.int i)).isSome = true
      rw [ky_at hF hl (hmem i hi)]
      rfl
    rw [if_pos ⟨hall, ht⟩]
    · congr 4
      unfold withP
      refine (List.map_mergeSort (f := fun i : Nat => PyData.int i) (r := lenGe F) (s := keyLe kyT (.tuple (F.map tp))) (l := idxP F p) fun a ha b hb => ?_).symm
      unfold lenGe keyLe
      rw [ky_at hF hl (hmem a ha), ky_at hF hl (hmem b hb)]
      simp only [Option.getD_some]
      rw [decide_eq_decide]
      omega
  refine ⟨.t ((withP F p).map fun i : Nat => .int i), st, ?_, Nat.le_refl _, rfl, rfl⟩
  unfold eTupN
  rw [key]
  rfl
theorem with_len {F : List Tick} {p : Int} : (withP F p).length = (F.filter fun t => decide (p ∈ t.1)).length := by
  unfold withP idxP
  rw [List.length_mergeSort, List.length_map]
  have : ∀ (F : List Tick) (n : Nat), ((F.zipIdx n).filter fun q => decide (p ∈ q.1.1)).length = (F.filter fun t => decide (p ∈ t.1)).length := by
    intro F
    induction F with
    | nil => intro n; rfl
    | cons t F ih =>
      intro n
      rw [List.zipIdx_cons, List.filter_cons, List.filter_cons]
      by_cases h : p ∈ t.1
      · simp only [h, decide_true, if_true, List.length_cons, ih]
      · simp only [h, decide_false, Bool.false_eq_true, if_false, ih]
  exact this F 0
theorem has_page_eq {P : Addr} {F : List Tick} {p : Int} (hF : F.length ≤ 1000) (hl : ∀ t ∈ F, t.1.length ≤ 1000) (ht : Cell.tbl P lamQ ∈ st) :
    fPHasPage (fPTicketsWith P) [.d (.tuple (F.map tp)), .d (.int p)] st = some (.d (.bool (hasP F p)), st) := by
  refine eq_of (rf_of ?_)
  unfold gPHasPage
  simp only [r1_some, r2_some, r1_none, r_var, r_c, r_op, r_fz, r_bval, r_btru, r_band, r_bor, r_bnot, r_if, r_and, r_or, r_not, r_nil, r_cons, r_tup, r_lst, r_lstN, r_cb, r_is, r_call, r_neg, r_chain, r_ixC, ro_no, ro_some, r_sl, rt_nm, rs_next, rs_ret, rs_seq, rs_if, rs_asg, rs_asgT, rs_par, rt_nil, rt_cons, rt_tp, ri_data, ri_range1, ri_range2, ri_enum, r_comp, startD, look_d, looks_nil, looks_d, datas_nil, datas_d, tru_b, tru_i, List.length_cons, List.length_nil, List.getElem?_cons_zero, List.getElem?_cons_succ, List.set_cons_zero, List.set_cons_succ, Option.map_some, List.map_cons, List.map_nil, Nat.reduceAdd, Nat.reduceSub, Nat.reduceEqDiff, List.reduceReplicate, List.cons_append, List.nil_append, List.append_nil, true_and, and_true]
  refine ⟨.d (.tuple ((withP F p).map fun i : Nat => .int i)), st, ?_, ?_⟩
  · unfold eD
    have : eCall 2 (fPTicketsWith P) (aCons (eVar 0) (aCons (eVar 1) aNil)) [some (.d (.tuple (F.map tp))), some (.d (.int p))] st = some (.t ((withP F p).map fun i : Nat => .int i), st) := by
      have h : R2 (eCall 2 (fPTicketsWith P) (aCons (eVar 0) (aCons (eVar 1) aNil)) [some (.d (.tuple (F.map tp))), some (.d (.int p))] st) fun v s => v = .t ((withP F p).map fun i : Nat => .int i) ∧ s = st := by
        simp only [r1_some, r2_some, r1_none, r_var, r_c, r_op, r_fz, r_bval, r_btru, r_band, r_bor, r_bnot, r_if, r_and, r_or, r_not, r_nil, r_cons, r_tup, r_lst, r_lstN, r_cb, r_is, r_call, r_neg, r_chain, r_ixC, ro_no, ro_some, r_sl, rt_nm, rs_next, rs_ret, rs_seq, rs_if, rs_asg, rs_asgT, rs_par, rt_nil, rt_cons, rt_tp, ri_data, ri_range1, ri_range2, ri_enum, r_comp, startD, look_d, looks_nil, looks_d, datas_nil, datas_d, tru_b, tru_i, List.length_cons, List.length_nil, List.getElem?_cons_zero, List.getElem?_cons_succ, List.set_cons_zero, List.set_cons_succ, Option.map_some, List.map_cons, List.map_nil, Nat.reduceAdd, Nat.reduceSub, Nat.reduceEqDiff, List.reduceReplicate, List.cons_append, List.nil_append, List.append_nil, true_and, and_true]
        rw [tickets_eq hF hl ht]
        exact ⟨_, _, rfl, rfl, rfl⟩
      exact eq_of h
    rw [this]
  · simp only [r1_some, r2_some, r1_none, r_var, r_c, r_op, r_fz, r_bval, r_btru, r_band, r_bor, r_bnot, r_if, r_and, r_or, r_not, r_nil, r_cons, r_tup, r_lst, r_lstN, r_cb, r_is, r_call, r_neg, r_chain, r_ixC, ro_no, ro_some, r_sl, rt_nm, rs_next, rs_ret, rs_seq, rs_if, rs_asg, rs_asgT, rs_par, rt_nil, rt_cons, rt_tp, ri_data, ri_range1, ri_range2, ri_enum, r_comp, startD, look_d, looks_nil, looks_d, datas_nil, datas_d, tru_b, tru_i, List.length_cons, List.length_nil, List.getElem?_cons_zero, List.getElem?_cons_succ, List.set_cons_zero, List.set_cons_succ, Option.map_some, List.map_cons, List.map_nil, Nat.reduceAdd, Nat.reduceSub, Nat.reduceEqDiff, List.reduceReplicate, List.cons_append, List.nil_append, List.append_nil, true_and, and_true, gLen_tuple, List.length_map]
    rw [gt_int, r1_some, with_len]
    refine ⟨Nat.le_refl _, ?_, rfl⟩
    have e2 := any_filter F fun t => decide (p ∈ t.1)
    unfold hasP
    rw [← e2]
    cases F.filter fun t => decide (p ∈ t.1) with
    | nil => rfl
    | cons _ _ => simp
end Gs

set_option Elab.async false
set_option linter.all false
set_option maxRecDepth 100000
set_option maxHeartbeats 4000000
namespace Gs
open PySem PySem.Spec PyProof.Rows L2 Pg Dl
variable {tb : Cell} {rest st s : Sto}
theorem count_in_eq {l : List Int} {C : List (Int × Int)} (hC : C.length ≤ 1000) : fPCountIn [.d (.tuple (l.map .int)), .d (.tuple (C.map cp))] st = some (.d (.int (inC l C)), st) := by
  refine eq_of (rf_of ?_)
  unfold gPCountIn
  simp only [r1_some, r2_some, r1_none, r_var, r_c, r_op, r_fz, r_bval, r_btru, r_band, r_bor, r_bnot, r_if, r_and, r_or, r_not, r_nil, r_cons, r_tup, r_lst, r_lstN, r_cb, r_is, r_call, r_neg, r_chain, r_ixC, ro_no, ro_some, r_sl, rt_nm, rs_next, rs_ret, rs_seq, rs_if, rs_asg, rs_asgT, rs_par, rt_nil, rt_cons, rt_tp, ri_data, ri_range1, ri_range2, ri_enum, r_comp, startD, look_d, looks_nil, looks_d, datas_nil, datas_d, tru_b, tru_i, List.length_cons, List.length_nil, List.getElem?_cons_zero, List.getElem?_cons_succ, List.set_cons_zero, List.set_cons_succ, Option.map_some, List.map_cons, List.map_nil, Nat.reduceAdd, Nat.reduceSub, Nat.reduceEqDiff, List.reduceReplicate, List.cons_append, List.nil_append, List.append_nil, true_and, and_true]
  rw [map_cp, comp_map (p := fun c => decide (c.1 ∈ l)) (h := fun c => .int c.2) fun x hx => by
    simp only [wipeD, cV, cp, r1_some, r2_some, r1_none, r_var, r_c, r_op, r_fz, r_bval, r_btru, r_band, r_bor, r_bnot, r_if, r_and, r_or, r_not, r_nil, r_cons, r_tup, r_lst, r_lstN, r_cb, r_is, r_call, r_neg, r_chain, r_ixC, ro_no, ro_some, r_sl, rt_nm, rs_next, rs_ret, rs_seq, rs_if, rs_asg, rs_asgT, rs_par, rt_nil, rt_cons, rt_tp, ri_data, ri_range1, ri_range2, ri_enum, r_comp, startD, look_d, looks_nil, looks_d, datas_nil, datas_d, tru_b, tru_i, List.length_cons, List.length_nil, List.getElem?_cons_zero, List.getElem?_cons_succ, List.set_cons_zero, List.set_cons_succ, Option.map_some, List.map_cons, List.map_nil, Nat.reduceAdd, Nat.reduceSub, Nat.reduceEqDiff, List.reduceReplicate, List.cons_append, List.nil_append, List.append_nil, true_and, and_true, gIn_f]
    exact fun _ => trivial]
  simp only [r2_some, datas_map, r1_some, r2_some, r1_none, r_var, r_c, r_op, r_fz, r_bval, r_btru, r_band, r_bor, r_bnot, r_if, r_and, r_or, r_not, r_nil, r_cons, r_tup, r_lst, r_lstN, r_cb, r_is, r_call, r_neg, r_chain, r_ixC, ro_no, ro_some, r_sl, rt_nm, rs_next, rs_ret, rs_seq, rs_if, rs_asg, rs_asgT, rs_par, rt_nil, rt_cons, rt_tp, ri_data, ri_range1, ri_range2, ri_enum, r_comp, startD, look_d, looks_nil, looks_d, datas_nil, datas_d, tru_b, tru_i, List.length_cons, List.length_nil, List.getElem?_cons_zero, List.getElem?_cons_succ, List.set_cons_zero, List.set_cons_succ, Option.map_some, List.map_cons, List.map_nil, Nat.reduceAdd, Nat.reduceSub, Nat.reduceEqDiff, List.reduceReplicate, List.cons_append, List.nil_append, List.append_nil, true_and, and_true]
  refine ⟨by rw [List.length_map]; exact Nat.le_trans (List.length_filter_le _ _) (by omega), ?_⟩
  have e : ((C.filter fun c => decide (c.1 ∈ l)).map fun c => PyData.int c.2) = ((C.filter fun c => decide (c.1 ∈ l)).map (·.2)).map .int := by rw [List.map_map]; rfl
  rw [e, gSum_m, r1_some]
  exact ⟨Nat.le_refl _, rfl, rfl⟩
theorem spent_counts_eq {F : List Tick} {C : List (Int × Int)} (hF : F.length ≤ 1000) (hC : C.length ≤ 1000) : fPSpentCounts fPCountIn [.d (.tuple (F.map tp)), .d (.tuple (C.map cp))] st = some (.d (.tuple ((spentC F C).map tp)), st) := by
  refine eq_of (rf_of ?_)
  have i2 : (2 : Nat) ≤ sizeLine := by decide
  unfold gPSpentCounts
  simp only [r1_some, r2_some, r1_none, r_var, r_c, r_op, r_fz, r_bval, r_btru, r_band, r_bor, r_bnot, r_if, r_and, r_or, r_not, r_nil, r_cons, r_tup, r_lst, r_lstN, r_cb, r_is, r_call, r_neg, r_chain, r_ixC, ro_no, ro_some, r_sl, rt_nm, rs_next, rs_ret, rs_seq, rs_if, rs_asg, rs_asgT, rs_par, rt_nil, rt_cons, rt_tp, ri_data, ri_range1, ri_range2, ri_enum, r_comp, startD, look_d, looks_nil, looks_d, datas_nil, datas_d, tru_b, tru_i, List.length_cons, List.length_nil, List.getElem?_cons_zero, List.getElem?_cons_succ, List.set_cons_zero, List.set_cons_succ, Option.map_some, List.map_cons, List.map_nil, Nat.reduceAdd, Nat.reduceSub, Nat.reduceEqDiff, List.reduceReplicate, List.cons_append, List.nil_append, List.append_nil, true_and, and_true]
  rw [map_tp, comp_map1 (h := fun t => tp (t.1, t.2 - inC t.1 C)) fun x hx => by
    simp only [wipeD, fT, tp, r1_some, r2_some, r1_none, r_var, r_c, r_op, r_fz, r_bval, r_btru, r_band, r_bor, r_bnot, r_if, r_and, r_or, r_not, r_nil, r_cons, r_tup, r_lst, r_lstN, r_cb, r_is, r_call, r_neg, r_chain, r_ixC, ro_no, ro_some, r_sl, rt_nm, rs_next, rs_ret, rs_seq, rs_if, rs_asg, rs_asgT, rs_par, rt_nil, rt_cons, rt_tp, ri_data, ri_range1, ri_range2, ri_enum, r_comp, startD, look_d, looks_nil, looks_d, datas_nil, datas_d, tru_b, tru_i, List.length_cons, List.length_nil, List.getElem?_cons_zero, List.getElem?_cons_succ, List.set_cons_zero, List.set_cons_succ, Option.map_some, List.map_cons, List.map_nil, Nat.reduceAdd, Nat.reduceSub, Nat.reduceEqDiff, List.reduceReplicate, List.cons_append, List.nil_append, List.append_nil, true_and, and_true]
    rw [count_in_eq hC]
    simp only [r2_some, r1_some, r2_some, r1_none, r_var, r_c, r_op, r_fz, r_bval, r_btru, r_band, r_bor, r_bnot, r_if, r_and, r_or, r_not, r_nil, r_cons, r_tup, r_lst, r_lstN, r_cb, r_is, r_call, r_neg, r_chain, r_ixC, ro_no, ro_some, r_sl, rt_nm, rs_next, rs_ret, rs_seq, rs_if, rs_asg, rs_asgT, rs_par, rt_nil, rt_cons, rt_tp, ri_data, ri_range1, ri_range2, ri_enum, r_comp, startD, look_d, looks_nil, looks_d, datas_nil, datas_d, tru_b, tru_i, List.length_cons, List.length_nil, List.getElem?_cons_zero, List.getElem?_cons_succ, List.set_cons_zero, List.set_cons_succ, Option.map_some, List.map_cons, List.map_nil, Nat.reduceAdd, Nat.reduceSub, Nat.reduceEqDiff, List.reduceReplicate, List.cons_append, List.nil_append, List.append_nil, true_and, and_true, gSub_int, i2]]
  simp only [r2_some, datas_map, r1_some, r2_some, r1_none, r_var, r_c, r_op, r_fz, r_bval, r_btru, r_band, r_bor, r_bnot, r_if, r_and, r_or, r_not, r_nil, r_cons, r_tup, r_lst, r_lstN, r_cb, r_is, r_call, r_neg, r_chain, r_ixC, ro_no, ro_some, r_sl, rt_nm, rs_next, rs_ret, rs_seq, rs_if, rs_asg, rs_asgT, rs_par, rt_nil, rt_cons, rt_tp, ri_data, ri_range1, ri_range2, ri_enum, r_comp, startD, look_d, looks_nil, looks_d, datas_nil, datas_d, tru_b, tru_i, List.length_cons, List.length_nil, List.getElem?_cons_zero, List.getElem?_cons_succ, List.set_cons_zero, List.set_cons_succ, Option.map_some, List.map_cons, List.map_nil, Nat.reduceAdd, Nat.reduceSub, Nat.reduceEqDiff, List.reduceReplicate, List.cons_append, List.nil_append, List.append_nil, true_and, and_true, gTupleOf]
  refine ⟨by rw [List.length_map]; omega, Nat.le_refl _, ?_⟩
  unfold spentC
  rw [List.map_map]
  rfl
theorem lets_counts_eq {P : Addr} {F : List Tick} {C : List (Int × Int)} (hF : F.length ≤ 1000) (hl : ∀ t ∈ F, t.1.length ≤ 1000) (hC : C.length ≤ 1000) (ht : Cell.tbl P lamQ ∈ st) :
    fPLetsCounts (fPHasPage (fPTicketsWith P)) fPCountIn [.d (.tuple (F.map tp)), .d (.tuple (C.map cp))] st = some (.d (.bool (isLetP F C)), st) := by
  refine eq_of (rf_of ?_)
  unfold gPLetsCounts gPLetsCounts_1 gPLetsCounts_2
  simp only [r1_some, r2_some, r1_none, r_var, r_c, r_op, r_fz, r_bval, r_btru, r_band, r_bor, r_bnot, r_if, r_and, r_or, r_not, r_nil, r_cons, r_tup, r_lst, r_lstN, r_cb, r_is, r_call, r_neg, r_chain, r_ixC, ro_no, ro_some, r_sl, rt_nm, rs_next, rs_ret, rs_seq, rs_if, rs_asg, rs_asgT, rs_par, rt_nil, rt_cons, rt_tp, ri_data, ri_range1, ri_range2, ri_enum, r_comp, startD, look_d, looks_nil, looks_d, datas_nil, datas_d, tru_b, tru_i, List.length_cons, List.length_nil, List.getElem?_cons_zero, List.getElem?_cons_succ, List.set_cons_zero, List.set_cons_succ, Option.map_some, List.map_cons, List.map_nil, Nat.reduceAdd, Nat.reduceSub, Nat.reduceEqDiff, List.reduceReplicate, List.cons_append, List.nil_append, List.append_nil, true_and, and_true]
  rw [map_cp, comp_map1 (h := fun c => .bool (hasP F c.1)) fun x hx => by
    simp only [wipeD, cV, cp, r1_some, r2_some, r1_none, r_var, r_c, r_op, r_fz, r_bval, r_btru, r_band, r_bor, r_bnot, r_if, r_and, r_or, r_not, r_nil, r_cons, r_tup, r_lst, r_lstN, r_cb, r_is, r_call, r_neg, r_chain, r_ixC, ro_no, ro_some, r_sl, rt_nm, rs_next, rs_ret, rs_seq, rs_if, rs_asg, rs_asgT, rs_par, rt_nil, rt_cons, rt_tp, ri_data, ri_range1, ri_range2, ri_enum, r_comp, startD, look_d, looks_nil, looks_d, datas_nil, datas_d, tru_b, tru_i, List.length_cons, List.length_nil, List.getElem?_cons_zero, List.getElem?_cons_succ, List.set_cons_zero, List.set_cons_succ, Option.map_some, List.map_cons, List.map_nil, Nat.reduceAdd, Nat.reduceSub, Nat.reduceEqDiff, List.reduceReplicate, List.cons_append, List.nil_append, List.append_nil, true_and, and_true]
    rw [has_page_eq hF hl ht]
    simp only [r2_some]
    trivial]
  simp only [r2_some, datas_map, r1_some, r2_some, r1_none, r_var, r_c, r_op, r_fz, r_bval, r_btru, r_band, r_bor, r_bnot, r_if, r_and, r_or, r_not, r_nil, r_cons, r_tup, r_lst, r_lstN, r_cb, r_is, r_call, r_neg, r_chain, r_ixC, ro_no, ro_some, r_sl, rt_nm, rs_next, rs_ret, rs_seq, rs_if, rs_asg, rs_asgT, rs_par, rt_nil, rt_cons, rt_tp, ri_data, ri_range1, ri_range2, ri_enum, r_comp, startD, look_d, looks_nil, looks_d, datas_nil, datas_d, tru_b, tru_i, List.length_cons, List.length_nil, List.getElem?_cons_zero, List.getElem?_cons_succ, List.set_cons_zero, List.set_cons_succ, Option.map_some, List.map_cons, List.map_nil, Nat.reduceAdd, Nat.reduceSub, Nat.reduceEqDiff, List.reduceReplicate, List.cons_append, List.nil_append, List.append_nil, true_and, and_true]
  refine ⟨by rw [List.length_map]; omega, ?_⟩
  have e : (C.map fun c => PyData.bool (hasP F c.1)) = (C.map fun c => hasP F c.1).map .bool := by rw [List.map_map]; rfl
  rw [e, gAll_m, r1_some]
  simp only [r1_some, r2_some, r1_none, r_var, r_c, r_op, r_fz, r_bval, r_btru, r_band, r_bor, r_bnot, r_if, r_and, r_or, r_not, r_nil, r_cons, r_tup, r_lst, r_lstN, r_cb, r_is, r_call, r_neg, r_chain, r_ixC, ro_no, ro_some, r_sl, rt_nm, rs_next, rs_ret, rs_seq, rs_if, rs_asg, rs_asgT, rs_par, rt_nil, rt_cons, rt_tp, ri_data, ri_range1, ri_range2, ri_enum, r_comp, startD, look_d, looks_nil, looks_d, datas_nil, datas_d, tru_b, tru_i, List.length_cons, List.length_nil, List.getElem?_cons_zero, List.getElem?_cons_succ, List.set_cons_zero, List.set_cons_succ, Option.map_some, List.map_cons, List.map_nil, Nat.reduceAdd, Nat.reduceSub, Nat.reduceEqDiff, List.reduceReplicate, List.cons_append, List.nil_append, List.append_nil, true_and, and_true, List.all_map, Function.id_comp]
  have e0 : (C.all (id ∘ fun c => hasP F c.1)) = C.all fun c => hasP F c.1 := rfl
  unfold isLetP
  cases hh : C.all fun c => hasP F c.1 with
  | false =>
    simp only [hh, r1_some, r2_some, r1_none, r_var, r_c, r_op, r_fz, r_bval, r_btru, r_band, r_bor, r_bnot, r_if, r_and, r_or, r_not, r_nil, r_cons, r_tup, r_lst, r_lstN, r_cb, r_is, r_call, r_neg, r_chain, r_ixC, ro_no, ro_some, r_sl, rt_nm, rs_next, rs_ret, rs_seq, rs_if, rs_asg, rs_asgT, rs_par, rt_nil, rt_cons, rt_tp, ri_data, ri_range1, ri_range2, ri_enum, r_comp, startD, look_d, looks_nil, looks_d, datas_nil, datas_d, tru_b, tru_i, List.length_cons, List.length_nil, List.getElem?_cons_zero, List.getElem?_cons_succ, List.set_cons_zero, List.set_cons_succ, Option.map_some, List.map_cons, List.map_nil, Nat.reduceAdd, Nat.reduceSub, Nat.reduceEqDiff, List.reduceReplicate, List.cons_append, List.nil_append, List.append_nil, true_and, and_true, Bool.not_false]
    simp
  | true =>
    simp only [hh, r1_some, r2_some, r1_none, r_var, r_c, r_op, r_fz, r_bval, r_btru, r_band, r_bor, r_bnot, r_if, r_and, r_or, r_not, r_nil, r_cons, r_tup, r_lst, r_lstN, r_cb, r_is, r_call, r_neg, r_chain, r_ixC, ro_no, ro_some, r_sl, rt_nm, rs_next, rs_ret, rs_seq, rs_if, rs_asg, rs_asgT, rs_par, rt_nil, rt_cons, rt_tp, ri_data, ri_range1, ri_range2, ri_enum, r_comp, startD, look_d, looks_nil, looks_d, datas_nil, datas_d, tru_b, tru_i, List.length_cons, List.length_nil, List.getElem?_cons_zero, List.getElem?_cons_succ, List.set_cons_zero, List.set_cons_succ, Option.map_some, List.map_cons, List.map_nil, Nat.reduceAdd, Nat.reduceSub, Nat.reduceEqDiff, List.reduceReplicate, List.cons_append, List.nil_append, List.append_nil, true_and, and_true, Bool.not_true]
    rw [map_tp, comp_map1 (h := fun t => .bool (decide (inC t.1 C ≤ t.2))) fun x hx => by
      simp only [wipeD, fT, tp, r1_some, r2_some, r1_none, r_var, r_c, r_op, r_fz, r_bval, r_btru, r_band, r_bor, r_bnot, r_if, r_and, r_or, r_not, r_nil, r_cons, r_tup, r_lst, r_lstN, r_cb, r_is, r_call, r_neg, r_chain, r_ixC, ro_no, ro_some, r_sl, rt_nm, rs_next, rs_ret, rs_seq, rs_if, rs_asg, rs_asgT, rs_par, rt_nil, rt_cons, rt_tp, ri_data, ri_range1, ri_range2, ri_enum, r_comp, startD, look_d, looks_nil, looks_d, datas_nil, datas_d, tru_b, tru_i, List.length_cons, List.length_nil, List.getElem?_cons_zero, List.getElem?_cons_succ, List.set_cons_zero, List.set_cons_succ, Option.map_some, List.map_cons, List.map_nil, Nat.reduceAdd, Nat.reduceSub, Nat.reduceEqDiff, List.reduceReplicate, List.cons_append, List.nil_append, List.append_nil, true_and, and_true]
      rw [count_in_eq hC]
      simp only [r2_some, r1_some, r2_some, r1_none, r_var, r_c, r_op, r_fz, r_bval, r_btru, r_band, r_bor, r_bnot, r_if, r_and, r_or, r_not, r_nil, r_cons, r_tup, r_lst, r_lstN, r_cb, r_is, r_call, r_neg, r_chain, r_ixC, ro_no, ro_some, r_sl, rt_nm, rs_next, rs_ret, rs_seq, rs_if, rs_asg, rs_asgT, rs_par, rt_nil, rt_cons, rt_tp, ri_data, ri_range1, ri_range2, ri_enum, r_comp, startD, look_d, looks_nil, looks_d, datas_nil, datas_d, tru_b, tru_i, List.length_cons, List.length_nil, List.getElem?_cons_zero, List.getElem?_cons_succ, List.set_cons_zero, List.set_cons_succ, Option.map_some, List.map_cons, List.map_nil, Nat.reduceAdd, Nat.reduceSub, Nat.reduceEqDiff, List.reduceReplicate, List.cons_append, List.nil_append, List.append_nil, true_and, and_true]
      rw [le_int, r1_some]
      trivial]
    simp only [r2_some, datas_map, r1_some, r2_some, r1_none, r_var, r_c, r_op, r_fz, r_bval, r_btru, r_band, r_bor, r_bnot, r_if, r_and, r_or, r_not, r_nil, r_cons, r_tup, r_lst, r_lstN, r_cb, r_is, r_call, r_neg, r_chain, r_ixC, ro_no, ro_some, r_sl, rt_nm, rs_next, rs_ret, rs_seq, rs_if, rs_asg, rs_asgT, rs_par, rt_nil, rt_cons, rt_tp, ri_data, ri_range1, ri_range2, ri_enum, r_comp, startD, look_d, looks_nil, looks_d, datas_nil, datas_d, tru_b, tru_i, List.length_cons, List.length_nil, List.getElem?_cons_zero, List.getElem?_cons_succ, List.set_cons_zero, List.set_cons_succ, Option.map_some, List.map_cons, List.map_nil, Nat.reduceAdd, Nat.reduceSub, Nat.reduceEqDiff, List.reduceReplicate, List.cons_append, List.nil_append, List.append_nil, true_and, and_true]
    refine ⟨by rw [List.length_map]; omega, ?_⟩
    have e : (F.map fun t => PyData.bool (decide (inC t.1 C ≤ t.2))) = (F.map fun t => decide (inC t.1 C ≤ t.2)).map .bool := by rw [List.map_map]; rfl
    rw [e, gAll_m, r1_some]
    refine ⟨Nat.le_refl _, ?_, rfl⟩
    rw [List.all_map]
    rfl
/-! ### rows -/
theorem for_cons {t : TF} {body : SF} {ρ : Dl.Env} {v : Vd} {vs : List Vd} {Q : Out → Prop} (h : R2 (t v ρ st) fun ρ1 s1 => R1 (body ρ1 s1) fun o => match o with
    | .nx ρ2 s2 => R1 (forD t body vs ρ2 s2) Q
    | .ct ρ2 s2 => R1 (forD t body vs ρ2 s2) Q
    | .rt v s => Q (.rt v s)
    | .bk ρ2 s2 => Q (.nx ρ2 s2)) : R1 (forD t body (v :: vs) ρ st) Q := by
  obtain ⟨ρ1, s1, e1, o, e2, q⟩ := h
  cases o with
  | nx ρ2 s2 =>
    obtain ⟨o, e3, q3⟩ := q
    exact ⟨o, by simp only [forD, e1, e2]; exact e3, q3⟩
  | ct ρ2 s2 =>
    obtain ⟨o, e3, q3⟩ := q
    exact ⟨o, by simp only [forD, e1, e2]; exact e3, q3⟩
  | rt v s => exact ⟨.rt v s, by simp only [forD, e1, e2], q⟩
  | bk ρ2 s2 => exact ⟨.nx ρ2 s2, by simp only [forD, e1, e2], q⟩
theorem for_nil {t : TF} {body : SF} {ρ : Dl.Env} {Q : Out → Prop} (h : Q (.nx ρ st)) : R1 (forD t body [] ρ st) Q := r1_some.mpr h
def rowP : List Tick → List Int → Option (List Tick)
  | F, [] => some F
  | F, p :: r => if letsP F p = true then rowP (spentP F p) r else none
theorem spentP_len {F : List Tick} {p : Int} : (spentP F p).length = F.length := List.length_map _
theorem row_loop (row : List Int) : ∀ (F : List Tick) (w0 w1 w3 : Option Vd), F.length ≤ 1000 →
    R1 (forD (tNm 3) (sSeq (sIf (bNot (bTru (eCall 2 fPLets (aCons (eVar 2) (aCons (eVar 3) aNil))))) (sRet (eC (.bool false))) sNext) (sAsg (eCall 2 fPSpent (aCons (eVar 2) (aCons (eVar 3) aNil))) (tNm 2))) (row.map iV) [w0, w1, some (.d (.tuple (F.map tp))), w3] st) fun o =>
      match rowP F row with
      | some F' => ∃ w, o = .nx [w0, w1, some (.d (.tuple (F'.map tp))), w] st
      | none => o = .rt (.d (.bool false)) st := by
  induction row with
  | nil =>
    intro F w0 w1 w3 hF
    exact for_nil ⟨w3, rfl⟩
  | cons p row ih =>
    intro F w0 w1 w3 hF
    rw [List.map_cons]
    refine for_cons ?_
    unfold iV
    simp only [r1_some, r2_some, r1_none, r_var, r_c, r_op, r_fz, r_bval, r_btru, r_band, r_bor, r_bnot, r_if, r_and, r_or, r_not, r_nil, r_cons, r_tup, r_lst, r_lstN, r_cb, r_is, r_call, r_neg, r_chain, r_ixC, ro_no, ro_some, r_sl, rt_nm, rs_next, rs_ret, rs_seq, rs_if, rs_asg, rs_asgT, rs_par, rt_nil, rt_cons, rt_tp, ri_data, ri_range1, ri_range2, ri_enum, r_comp, startD, look_d, looks_nil, looks_d, datas_nil, datas_d, tru_b, tru_i, List.length_cons, List.length_nil, List.getElem?_cons_zero, List.getElem?_cons_succ, List.set_cons_zero, List.set_cons_succ, Option.map_some, List.map_cons, List.map_nil, Nat.reduceAdd, Nat.reduceSub, Nat.reduceEqDiff, List.reduceReplicate, List.cons_append, List.nil_append, List.append_nil, true_and, and_true]
    rw [lets_eq hF]
    simp only [r1_some, r2_some, r1_none, r_var, r_c, r_op, r_fz, r_bval, r_btru, r_band, r_bor, r_bnot, r_if, r_and, r_or, r_not, r_nil, r_cons, r_tup, r_lst, r_lstN, r_cb, r_is, r_call, r_neg, r_chain, r_ixC, ro_no, ro_some, r_sl, rt_nm, rs_next, rs_ret, rs_seq, rs_if, rs_asg, rs_asgT, rs_par, rt_nil, rt_cons, rt_tp, ri_data, ri_range1, ri_range2, ri_enum, r_comp, startD, look_d, looks_nil, looks_d, datas_nil, datas_d, tru_b, tru_i, List.length_cons, List.length_nil, List.getElem?_cons_zero, List.getElem?_cons_succ, List.set_cons_zero, List.set_cons_succ, Option.map_some, List.map_cons, List.map_nil, Nat.reduceAdd, Nat.reduceSub, Nat.reduceEqDiff, List.reduceReplicate, List.cons_append, List.nil_append, List.append_nil, true_and, and_true, rowP]
    cases hl : letsP F p with
    | false =>
      simp only [r1_some, r2_some, r1_none, r_var, r_c, r_op, r_fz, r_bval, r_btru, r_band, r_bor, r_bnot, r_if, r_and, r_or, r_not, r_nil, r_cons, r_tup, r_lst, r_lstN, r_cb, r_is, r_call, r_neg, r_chain, r_ixC, ro_no, ro_some, r_sl, rt_nm, rs_next, rs_ret, rs_seq, rs_if, rs_asg, rs_asgT, rs_par, rt_nil, rt_cons, rt_tp, ri_data, ri_range1, ri_range2, ri_enum, r_comp, startD, look_d, looks_nil, looks_d, datas_nil, datas_d, tru_b, tru_i, List.length_cons, List.length_nil, List.getElem?_cons_zero, List.getElem?_cons_succ, List.set_cons_zero, List.set_cons_succ, Option.map_some, List.map_cons, List.map_nil, Nat.reduceAdd, Nat.reduceSub, Nat.reduceEqDiff, List.reduceReplicate, List.cons_append, List.nil_append, List.append_nil, true_and, and_true, Bool.not_false, hl, if_false]
      simp
    | true =>
      simp only [r1_some, r2_some, r1_none, r_var, r_c, r_op, r_fz, r_bval, r_btru, r_band, r_bor, r_bnot, r_if, r_and, r_or, r_not, r_nil, r_cons, r_tup, r_lst, r_lstN, r_cb, r_is, r_call, r_neg, r_chain, r_ixC, ro_no, ro_some, r_sl, rt_nm, rs_next, rs_ret, rs_seq, rs_if, rs_asg, rs_asgT, rs_par, rt_nil, rt_cons, rt_tp, ri_data, ri_range1, ri_range2, ri_enum, r_comp, startD, look_d, looks_nil, looks_d, datas_nil, datas_d, tru_b, tru_i, List.length_cons, List.length_nil, List.getElem?_cons_zero, List.getElem?_cons_succ, List.set_cons_zero, List.set_cons_succ, Option.map_some, List.map_cons, List.map_nil, Nat.reduceAdd, Nat.reduceSub, Nat.reduceEqDiff, List.reduceReplicate, List.cons_append, List.nil_append, List.append_nil, true_and, and_true, Bool.not_true, if_true]
      rw [spent_eq hF]
      simp only [r1_some, r2_some, r1_none, r_var, r_c, r_op, r_fz, r_bval, r_btru, r_band, r_bor, r_bnot, r_if, r_and, r_or, r_not, r_nil, r_cons, r_tup, r_lst, r_lstN, r_cb, r_is, r_call, r_neg, r_chain, r_ixC, ro_no, ro_some, r_sl, rt_nm, rs_next, rs_ret, rs_seq, rs_if, rs_asg, rs_asgT, rs_par, rt_nil, rt_cons, rt_tp, ri_data, ri_range1, ri_range2, ri_enum, r_comp, startD, look_d, looks_nil, looks_d, datas_nil, datas_d, tru_b, tru_i, List.length_cons, List.length_nil, List.getElem?_cons_zero, List.getElem?_cons_succ, List.set_cons_zero, List.set_cons_succ, Option.map_some, List.map_cons, List.map_nil, Nat.reduceAdd, Nat.reduceSub, Nat.reduceEqDiff, List.reduceReplicate, List.cons_append, List.nil_append, List.append_nil, true_and, and_true]
      exact ih (spentP F p) w0 w1 _ (by rw [spentP_len]; exact hF)
theorem is_let_row_eq {F : List Tick} {row : List Int} (hF : F.length ≤ 1000) : fPIsLetRow fPSpent fPLets [.d (.tuple (F.map tp)), .d (.tuple (row.map .int))] st = some (.d (.bool (rowP F row).isSome), st) := by
  refine eq_of (rf_of ?_)
  unfold gPIsLetRow gPIsLetRow_1 gPIsLetRow_2 gPIsLetRow_3
  simp only [r1_some, r2_some, r1_none, r_var, r_c, r_op, r_fz, r_bval, r_btru, r_band, r_bor, r_bnot, r_if, r_and, r_or, r_not, r_nil, r_cons, r_tup, r_lst, r_lstN, r_cb, r_is, r_call, r_neg, r_chain, r_ixC, ro_no, ro_some, r_sl, rt_nm, rs_next, rs_ret, rs_seq, rs_if, rs_asg, rs_asgT, rs_par, rt_nil, rt_cons, rt_tp, ri_data, ri_range1, ri_range2, ri_enum, r_comp, startD, look_d, looks_nil, looks_d, datas_nil, datas_d, tru_b, tru_i, List.length_cons, List.length_nil, List.getElem?_cons_zero, List.getElem?_cons_succ, List.set_cons_zero, List.set_cons_succ, Option.map_some, List.map_cons, List.map_nil, Nat.reduceAdd, Nat.reduceSub, Nat.reduceEqDiff, List.reduceReplicate, List.cons_append, List.nil_append, List.append_nil, true_and, and_true]
  rw [rs_for]
  simp only [r1_some, r2_some, r1_none, r_var, r_c, r_op, r_fz, r_bval, r_btru, r_band, r_bor, r_bnot, r_if, r_and, r_or, r_not, r_nil, r_cons, r_tup, r_lst, r_lstN, r_cb, r_is, r_call, r_neg, r_chain, r_ixC, ro_no, ro_some, r_sl, rt_nm, rs_next, rs_ret, rs_seq, rs_if, rs_asg, rs_asgT, rs_par, rt_nil, rt_cons, rt_tp, ri_data, ri_range1, ri_range2, ri_enum, r_comp, startD, look_d, looks_nil, looks_d, datas_nil, datas_d, tru_b, tru_i, List.length_cons, List.length_nil, List.getElem?_cons_zero, List.getElem?_cons_succ, List.set_cons_zero, List.set_cons_succ, Option.map_some, List.map_cons, List.map_nil, Nat.reduceAdd, Nat.reduceSub, Nat.reduceEqDiff, List.reduceReplicate, List.cons_append, List.nil_append, List.append_nil, true_and, and_true]
  rw [map_int]
  refine R1.mono (row_loop row F _ _ none hF) fun o ho => ?_
  cases hr : rowP F row with
  | none =>
    rw [hr] at ho
    subst ho
    simp only [r1_some, r2_some, r1_none, r_var, r_c, r_op, r_fz, r_bval, r_btru, r_band, r_bor, r_bnot, r_if, r_and, r_or, r_not, r_nil, r_cons, r_tup, r_lst, r_lstN, r_cb, r_is, r_call, r_neg, r_chain, r_ixC, ro_no, ro_some, r_sl, rt_nm, rs_next, rs_ret, rs_seq, rs_if, rs_asg, rs_asgT, rs_par, rt_nil, rt_cons, rt_tp, ri_data, ri_range1, ri_range2, ri_enum, r_comp, startD, look_d, looks_nil, looks_d, datas_nil, datas_d, tru_b, tru_i, List.length_cons, List.length_nil, List.getElem?_cons_zero, List.getElem?_cons_succ, List.set_cons_zero, List.set_cons_succ, Option.map_some, List.map_cons, List.map_nil, Nat.reduceAdd, Nat.reduceSub, Nat.reduceEqDiff, List.reduceReplicate, List.cons_append, List.nil_append, List.append_nil, true_and, and_true]
    simp
  | some F' =>
    rw [hr] at ho
    obtain ⟨w, rfl⟩ := ho
    simp only [r1_some, r2_some, r1_none, r_var, r_c, r_op, r_fz, r_bval, r_btru, r_band, r_bor, r_bnot, r_if, r_and, r_or, r_not, r_nil, r_cons, r_tup, r_lst, r_lstN, r_cb, r_is, r_call, r_neg, r_chain, r_ixC, ro_no, ro_some, r_sl, rt_nm, rs_next, rs_ret, rs_seq, rs_if, rs_asg, rs_asgT, rs_par, rt_nil, rt_cons, rt_tp, ri_data, ri_range1, ri_range2, ri_enum, r_comp, startD, look_d, looks_nil, looks_d, datas_nil, datas_d, tru_b, tru_i, List.length_cons, List.length_nil, List.getElem?_cons_zero, List.getElem?_cons_succ, List.set_cons_zero, List.set_cons_succ, Option.map_some, List.map_cons, List.map_nil, Nat.reduceAdd, Nat.reduceSub, Nat.reduceEqDiff, List.reduceReplicate, List.cons_append, List.nil_append, List.append_nil, true_and, and_true]
    simp
/-! ### counts_of -/
theorem put_get {kvs : List (Key × Vd)} {k k' : Key} {v : Vd} : getV (putV kvs k v) k' = if k' = k then some v else getV kvs k' := by
  unfold putV getV
  split
  · rename_i h
    rw [List.find?_map]
    have e : ((fun kv : Key × Vd => decide (kv.1 = k')) ∘ fun kv : Key × Vd => if kv.1 = k then (kv.1, v) else kv) = fun kv => decide (kv.1 = k') := by
      funext q
      simp only [Function.comp]
      split <;> rfl
    rw [e]
    cases hf : kvs.find? fun kv => decide (kv.1 = k') with
    | none =>
      by_cases hk : k' = k
      · exfalso
        subst hk
        obtain ⟨q, hq, h2⟩ := List.any_eq_true.mp h
        have := List.find?_eq_none.mp hf q hq
        exact this h2
      · simp [hk]
    | some q =>
      have hq := List.find?_some hf
      simp only [decide_eq_true_eq] at hq
      by_cases hk : k' = k
      · subst hk
        simp [hq]
      · have : ¬ q.1 = k := fun z => hk (hq.symm.trans z)
        simp [hk, this]
  · rename_i h
    rw [List.find?_append]
    by_cases hk : k' = k
    · subst hk
      have hf : kvs.find? (fun kv => decide (kv.1 = k')) = none := List.find?_eq_none.mpr fun q hq z => h (List.any_eq_true.mpr ⟨q, hq, z⟩)
      rw [hf]
      simp
    · have h1 : ¬ k = k' := fun e => hk e.symm
      cases hf : kvs.find? (fun kv => decide (kv.1 = k')) with
      | none => simp [hk, h1]
      | some q => simp [hk]
theorem any_key : ∀ {kvs : List (Key × Vd)} {ks : List Int} {k : Int}, intKeys kvs = some ks → (kvs.any fun kv => decide (kv.1 = Sum.inl k)) = decide (k ∈ ks)
  | [], _, _, h => by cases h; rfl
  | (.inl i, w) :: r, _, k, h => by
    simp only [intKeys, Option.map_eq_some_iff] at h
    obtain ⟨n2, h1, rfl⟩ := h
    rw [List.any_cons, any_key h1]
    by_cases e : i = k
    · subst e; simp
    · have : ¬ k = i := fun z => e z.symm
      simp [e, this]
theorem put_keys : ∀ {kvs : List (Key × Vd)} {ks : List Int} {k : Int} {v : Vd}, intKeys kvs = some ks → intKeys (putV kvs (.inl k) v) = some (if k ∈ ks then ks else ks ++ [k]) := by
  intro kvs ks k v h
  unfold putV
  rw [any_key h]
  have e1 : ∀ {kvs : List (Key × Vd)} {ks : List Int}, intKeys kvs = some ks → intKeys (kvs.map fun kv => if kv.1 = Sum.inl k then (kv.1, v) else kv) = some ks := by
    intro kvs
    induction kvs with
    | nil => intro ks h; exact h
    | cons q kvs ih =>
      intro ks h
      obtain ⟨a, w⟩ := q
      cases a with
      | inr x => cases h
      | inl i =>
        simp only [intKeys, Option.map_eq_some_iff] at h
        obtain ⟨n2, h1, rfl⟩ := h
        rw [List.map_cons]
        have := ih h1
        by_cases e : (Sum.inl i : Key) = Sum.inl k
        · simp only [e, if_true, intKeys]
          cases e
          rw [this]
          rfl
        · simp only [e, if_false, intKeys]
          rw [this]
          rfl
  have e2 : ∀ {kvs : List (Key × Vd)} {ks : List Int}, intKeys kvs = some ks → intKeys (kvs ++ [(.inl k, v)]) = some (ks ++ [k]) := by
    intro kvs
    induction kvs with
    | nil => intro ks h; cases h; rfl
    | cons q kvs ih =>
      intro ks h
      obtain ⟨a, w⟩ := q
      cases a with
      | inr x => cases h
      | inl i =>
        simp only [intKeys, Option.map_eq_some_iff] at h
        obtain ⟨n2, h1, rfl⟩ := h
        rw [List.cons_append]
        simp only [intKeys]
        rw [ih h1]
        rfl
  by_cases hk : k ∈ ks
  · simp only [hk, decide_true, if_true]
    exact e1 h
  · simp only [hk, decide_false, Bool.false_eq_true, if_false]
    exact e2 h
def countsP (row : List Int) : List (Int × Int) := (sortSI row).map fun p => (p, (row.count p : Nat))
/-- the dict of the counts so far -/
structure Cnt (r : List Int) (kvs : List (Key × Vd)) : Prop where
  get : ∀ k : Int, getV kvs (.inl k) = if k ∈ r then some (.d (.int (r.count k : Nat))) else none
  keys : ∃ ks, intKeys kvs = some ks ∧ ks.Nodup ∧ ∀ k, k ∈ ks ↔ k ∈ r
  len : kvs.length ≤ r.length
theorem Cnt.nil : Cnt [] [] := ⟨fun _ => rfl, ⟨[], rfl, List.nodup_nil, fun _ => Iff.rfl⟩, Nat.le_refl _⟩
theorem putV_length {kvs : List (Key × Vd)} {k : Key} {v : Vd} : (putV kvs k v).length ≤ kvs.length + 1 := by
  unfold putV
  split
  · rw [List.length_map]; omega
  · rw [List.length_append]; simp
theorem Cnt.put {r : List Int} {kvs : List (Key × Vd)} {p : Int} {w : Vd} (h : Cnt r kvs) (hw : w = .d (.int ((r.count p : Nat) + 1))) : Cnt (r ++ [p]) (putV kvs (.inl p) w) := by
  obtain ⟨ks, h1, h2, h3⟩ := h.keys
  refine ⟨fun k => ?_, ⟨_, put_keys h1, ?_, fun k => ?_⟩, ?_⟩
  · rw [put_get, h.get k]
    by_cases e : k = p
    · subst e
      simp [hw, List.count_append]
    · have e1 : ¬ (Sum.inl k : Key) = Sum.inl p := fun z => e (by injection z)
      have e2 : ¬ p = k := fun z => e z.symm
      simp [e1, e, e2, List.count_append]
  · split
    · exact h2
    · rename_i hk
      exact List.nodup_append.mpr ⟨h2, by simp, fun a ha b hb e => hk (by rw [List.mem_singleton.mp hb] at e; exact e ▸ ha)⟩
  · split
    · rename_i hk
      rw [h3 k, List.mem_append, List.mem_singleton]
      constructor
      · exact .inl
      · rintro (z | rfl)
        · exact z
        · exact (h3 k).mp hk
    · rw [List.mem_append, List.mem_append, h3 k]
  · have := putV_length (kvs := kvs) (k := .inl p) (v := w)
    have := h.len
    rw [List.length_append]
    simp only [List.length_cons, List.length_nil]
    omega
theorem getD_cnt {r : List Int} {kvs : List (Key × Vd)} (h : Cnt r kvs) (p : Int) : (getV kvs (.inl p)).getD (.d (.int 0)) = .d (.int (r.count p : Nat)) := by
  rw [h.get p]
  by_cases e : p ∈ r
  · rw [if_pos e]; rfl
  · rw [if_neg e, List.count_eq_zero_of_not_mem e]; rfl
theorem r_get2_ {a b c : EF} {ρ : Dl.Env} {Q : Vd → Sto → Prop} (h : R2 (a ρ st) fun v s1 => ∃ n kv0, v = .r n ∧ s1[n]? = some (.dic kv0) ∧ R2 (b ρ s1) fun u s2 => ∃ kd, u = .d kd ∧ R2 (c ρ s2) fun w s3 => ∃ k kvs, keyOfD kd = some k ∧ s3[n]? = some (.dic kvs) ∧ Q ((getV kvs k).getD w) s3) : R2 (eGet2 a b c ρ st) Q := by
  obtain ⟨_, s1, e1, n, kv0, rfl, e0, _, s2, e2, kd, rfl, w, s3, e3, k, kvs, e4, e5, q⟩ := h
  exact ⟨_, _, by unfold eGet2; simp only [e1, e0, e2, e3, e4, e5], q⟩
theorem r_dix_ {a b : EF} {ρ : Dl.Env} {Q : Vd → Sto → Prop} (h : R2 (a ρ st) fun v s1 => ∃ n, v = .r n ∧ R2 (b ρ s1) fun u s2 => ∃ kd k kvs w, u = .d kd ∧ keyOfD kd = some k ∧ s2[n]? = some (.dic kvs) ∧ getV kvs k = some w ∧ Q w s2) : R2 (eDix a b ρ st) Q := by
  obtain ⟨_, s1, e1, n, rfl, _, s2, e2, kd, k, kvs, w, rfl, e3, e4, e5, q⟩ := h
  exact ⟨_, _, by unfold eDix; simp only [e1, e2, e3, e4, e5, Option.map_some], q⟩
theorem r_sortDI_ {a : EF} {ρ : Dl.Env} {Q : Vd → Sto → Prop} (h : R2 (a ρ st) fun v s1 => ∃ n kvs ks, v = .r n ∧ s1[n]? = some (.dic kvs) ∧ intKeys kvs = some ks ∧ ks.length < 64 ∧ Q (.d (.list ((ks.mergeSort (fun a b => decide (a ≤ b))).map .int))) s1) : R2 (eSortDI a ρ st) Q := by
  obtain ⟨_, s1, e1, n, kvs, ks, rfl, e2, e3, h1, q⟩ := h
  exact ⟨_, _, by unfold eSortDI; simp only [e1, e2, e3]; exact if_pos h1, q⟩
theorem sort_keys {ks r : List Int} (hn : ks.Nodup) (h : ∀ k, k ∈ ks ↔ k ∈ r) : ks.mergeSort (fun a b => decide (a ≤ b)) = sortSI r := by
  refine asc_same ?_ (asc_sortSI r) fun z => by rw [(List.mergeSort_perm _ _).mem_iff, h z, mem_sortSI]
  have hs := List.pairwise_mergeSort (le := fun a b : Int => decide (a ≤ b)) (fun a b c h1 h2 => by simp only [decide_eq_true_eq] at *; omega) (fun a b => by simp only [Bool.or_eq_true, decide_eq_true_eq]; omega) ks
  have hb : (ks.mergeSort (fun a b => decide (a ≤ b))).Nodup := (List.mergeSort_perm _ _).nodup_iff.mpr hn
  exact (hs.and hb).imp fun ⟨h1, h2⟩ => by simp only [decide_eq_true_eq] at h1; omega
theorem counts_of_eq {row : List Int} (hr : row.length ≤ 60) (hc : Clo st.length st) : fPCountsOf [.d (.tuple (row.map .int))] st = some (.d (.tuple ((countsP row).map cp)), st) := by
  refine eq_of (rf_cut ?_)
  have i2 : (2 : Nat) ≤ sizeLine := by decide
  unfold gPCountsOf gPCountsOf_1 gPCountsOf_2 gPCountsOf_3
  rw [rs_seq, rs_asg]
  refine r_dnK_ ?_
  simp only [r1_some, r2_some, r1_none, r_var, r_c, r_op, r_fz, r_bval, r_btru, r_band, r_bor, r_bnot, r_if, r_and, r_or, r_not, r_nil, r_cons, r_tup, r_lst, r_lstN, r_cb, r_is, r_call, r_neg, r_chain, r_ixC, ro_no, ro_some, r_sl, rt_nm, rs_next, rs_ret, rs_seq, rs_if, rs_asg, rs_asgT, rs_par, rt_nil, rt_cons, rt_tp, ri_data, ri_range1, ri_range2, ri_enum, r_comp, startD, look_d, looks_nil, looks_d, datas_nil, datas_d, tru_b, tru_i, List.length_cons, List.length_nil, List.getElem?_cons_zero, List.getElem?_cons_succ, List.set_cons_zero, List.set_cons_succ, Option.map_some, List.map_cons, List.map_nil, Nat.reduceAdd, Nat.reduceSub, Nat.reduceEqDiff, List.reduceReplicate, List.cons_append, List.nil_append, List.append_nil, true_and, and_true]
  rw [rs_for]
  simp only [r1_some, r2_some, r1_none, r_var, r_c, r_op, r_fz, r_bval, r_btru, r_band, r_bor, r_bnot, r_if, r_and, r_or, r_not, r_nil, r_cons, r_tup, r_lst, r_lstN, r_cb, r_is, r_call, r_neg, r_chain, r_ixC, ro_no, ro_some, r_sl, rt_nm, rs_next, rs_ret, rs_seq, rs_if, rs_asg, rs_asgT, rs_par, rt_nil, rt_cons, rt_tp, ri_data, ri_range1, ri_range2, ri_enum, r_comp, startD, look_d, looks_nil, looks_d, datas_nil, datas_d, tru_b, tru_i, List.length_cons, List.length_nil, List.getElem?_cons_zero, List.getElem?_cons_succ, List.set_cons_zero, List.set_cons_succ, Option.map_some, List.map_cons, List.map_nil, Nat.reduceAdd, Nat.reduceSub, Nat.reduceEqDiff, List.reduceReplicate, List.cons_append, List.nil_append, List.append_nil, true_and, and_true]
  rw [map_int]
  refine (for_go (E := fun _ _ => False) (I := fun vs ρ s => ∃ (r0 r1 : List Int) (kvs : List (Key × Vd)) (w : Option Vd), vs = r1.map iV ∧ r0 ++ r1 = row ∧ Cnt r0 kvs ∧ s = st ++ [.dic kvs] ∧ ρ = [some (.d (.tuple (row.map .int))), some (.r st.length), w]) (fun v vs ρ s hI => ?_)
    ⟨[], row, [], none, rfl, rfl, Cnt.nil, rfl, rfl⟩).mono fun o ho => ?_
  · obtain ⟨r0, r1, kvs, w, hv, hrr, hC, rfl, rfl⟩ := hI
    cases r1 with
    | nil => cases hv
    | cons p r1 =>
      obtain ⟨rfl, rfl⟩ := List.cons.inj hv
      have hl : r0.length ≤ 60 := by
        have := congrArg List.length hrr
        rw [List.length_append] at this
        omega
      unfold iV
      simp only [rt_nm, r1_some, rs_asg, r_op]
      refine r_get2_ ?_
      simp only [r1_some, r2_some, r1_none, r_var, r_c, r_op, r_fz, r_bval, r_btru, r_band, r_bor, r_bnot, r_if, r_and, r_or, r_not, r_nil, r_cons, r_tup, r_lst, r_lstN, r_cb, r_is, r_call, r_neg, r_chain, r_ixC, ro_no, ro_some, r_sl, rt_nm, rs_next, rs_ret, rs_seq, rs_if, rs_asg, rs_asgT, rs_par, rt_nil, rt_cons, rt_tp, ri_data, ri_range1, ri_range2, ri_enum, r_comp, startD, look_d, looks_nil, looks_d, datas_nil, datas_d, tru_b, tru_i, List.length_cons, List.length_nil, List.getElem?_cons_zero, List.getElem?_cons_succ, List.set_cons_zero, List.set_cons_succ, Option.map_some, List.map_cons, List.map_nil, Nat.reduceAdd, Nat.reduceSub, Nat.reduceEqDiff, List.reduceReplicate, List.cons_append, List.nil_append, List.append_nil, true_and, and_true]
      refine ⟨st.length, kvs, rfl, at_app, ?_⟩
      refine ⟨.int p, rfl, ?_⟩
      refine ⟨.inl p, kvs, rfl, at_app, ?_⟩
      rw [getD_cnt hC p]
      simp only [r1_some, r2_some, r1_none, r_var, r_c, r_op, r_fz, r_bval, r_btru, r_band, r_bor, r_bnot, r_if, r_and, r_or, r_not, r_nil, r_cons, r_tup, r_lst, r_lstN, r_cb, r_is, r_call, r_neg, r_chain, r_ixC, ro_no, ro_some, r_sl, rt_nm, rs_next, rs_ret, rs_seq, rs_if, rs_asg, rs_asgT, rs_par, rt_nil, rt_cons, rt_tp, ri_data, ri_range1, ri_range2, ri_enum, r_comp, startD, look_d, looks_nil, looks_d, datas_nil, datas_d, tru_b, tru_i, List.length_cons, List.length_nil, List.getElem?_cons_zero, List.getElem?_cons_succ, List.set_cons_zero, List.set_cons_succ, Option.map_some, List.map_cons, List.map_nil, Nat.reduceAdd, Nat.reduceSub, Nat.reduceEqDiff, List.reduceReplicate, List.cons_append, List.nil_append, List.append_nil, true_and, and_true, gAdd_int]
      refine r_putK_ ?_
      simp only [r1_some, r2_some, r1_none, r_var, r_c, r_op, r_fz, r_bval, r_btru, r_band, r_bor, r_bnot, r_if, r_and, r_or, r_not, r_nil, r_cons, r_tup, r_lst, r_lstN, r_cb, r_is, r_call, r_neg, r_chain, r_ixC, ro_no, ro_some, r_sl, rt_nm, rs_next, rs_ret, rs_seq, rs_if, rs_asg, rs_asgT, rs_par, rt_nil, rt_cons, rt_tp, ri_data, ri_range1, ri_range2, ri_enum, r_comp, startD, look_d, looks_nil, looks_d, datas_nil, datas_d, tru_b, tru_i, List.length_cons, List.length_nil, List.getElem?_cons_zero, List.getElem?_cons_succ, List.set_cons_zero, List.set_cons_succ, Option.map_some, List.map_cons, List.map_nil, Nat.reduceAdd, Nat.reduceSub, Nat.reduceEqDiff, List.reduceReplicate, List.cons_append, List.nil_append, List.append_nil, true_and, and_true]
      refine ⟨st.length, rfl, .int p, .inl p, kvs, rfl, rfl, at_app, by have := hC.len; omega, ?_⟩
      rw [set_app]
      exact ⟨r0 ++ [p], r1, _, _, rfl, by rw [← hrr]; simp, hC.put rfl, rfl, rfl⟩
  · cases o with
    | nx ρ s =>
      obtain ⟨r0, r1, kvs, w, hv, hrr, hC, rfl, rfl⟩ := ho
      have h1 : r1 = [] := List.map_eq_nil_iff.mp hv.symm
      subst h1
      rw [List.append_nil] at hrr
      subst hrr
      obtain ⟨ks, k1, k2, k3⟩ := hC.keys
      have kl : ks.length ≤ r0.length := nodup_len k2 fun x hx => (k3 x).mp hx
      simp only [rs_ret, r_cb, r_cons, r_comp, ri_data, r_nil]
      refine r_sortDI_ ?_
      simp only [r1_some, r2_some, r1_none, r_var, r_c, r_op, r_fz, r_bval, r_btru, r_band, r_bor, r_bnot, r_if, r_and, r_or, r_not, r_nil, r_cons, r_tup, r_lst, r_lstN, r_cb, r_is, r_call, r_neg, r_chain, r_ixC, ro_no, ro_some, r_sl, rt_nm, rs_next, rs_ret, rs_seq, rs_if, rs_asg, rs_asgT, rs_par, rt_nil, rt_cons, rt_tp, ri_data, ri_range1, ri_range2, ri_enum, r_comp, startD, look_d, looks_nil, looks_d, datas_nil, datas_d, tru_b, tru_i, List.length_cons, List.length_nil, List.getElem?_cons_zero, List.getElem?_cons_succ, List.set_cons_zero, List.set_cons_succ, Option.map_some, List.map_cons, List.map_nil, Nat.reduceAdd, Nat.reduceSub, Nat.reduceEqDiff, List.reduceReplicate, List.cons_append, List.nil_append, List.append_nil, true_and, and_true]
      refine ⟨st.length, kvs, ks, rfl, at_app, k1, by omega, ?_⟩
      rw [sort_keys k2 k3, map_int, comp_map1 (h := fun p => cp (p, (r0.count p : Nat))) fun p hp => by
        have hp' : p ∈ r0 := mem_sortSI.mp hp
        simp only [wipeD, iV, rt_nm, r_tup, r_cons, List.set_cons_succ, List.set_cons_zero, r_var, List.getElem?_cons_zero, List.getElem?_cons_succ, r1_some, true_and]
        refine r_dix_ ?_
        simp only [r1_some, r2_some, r1_none, r_var, r_c, r_op, r_fz, r_bval, r_btru, r_band, r_bor, r_bnot, r_if, r_and, r_or, r_not, r_nil, r_cons, r_tup, r_lst, r_lstN, r_cb, r_is, r_call, r_neg, r_chain, r_ixC, ro_no, ro_some, r_sl, rt_nm, rs_next, rs_ret, rs_seq, rs_if, rs_asg, rs_asgT, rs_par, rt_nil, rt_cons, rt_tp, ri_data, ri_range1, ri_range2, ri_enum, r_comp, startD, look_d, looks_nil, looks_d, datas_nil, datas_d, tru_b, tru_i, List.length_cons, List.length_nil, List.getElem?_cons_zero, List.getElem?_cons_succ, List.set_cons_zero, List.set_cons_succ, Option.map_some, List.map_cons, List.map_nil, Nat.reduceAdd, Nat.reduceSub, Nat.reduceEqDiff, List.reduceReplicate, List.cons_append, List.nil_append, List.append_nil, true_and, and_true]
        refine ⟨st.length, rfl, .int p, .inl p, kvs, _, rfl, rfl, at_app, by rw [hC.get p, if_pos hp'], ?_⟩
        simp only [r1_some, r2_some, r1_none, r_var, r_c, r_op, r_fz, r_bval, r_btru, r_band, r_bor, r_bnot, r_if, r_and, r_or, r_not, r_nil, r_cons, r_tup, r_lst, r_lstN, r_cb, r_is, r_call, r_neg, r_chain, r_ixC, ro_no, ro_some, r_sl, rt_nm, rs_next, rs_ret, rs_seq, rs_if, rs_asg, rs_asgT, rs_par, rt_nil, rt_cons, rt_tp, ri_data, ri_range1, ri_range2, ri_enum, r_comp, startD, look_d, looks_nil, looks_d, datas_nil, datas_d, tru_b, tru_i, List.length_cons, List.length_nil, List.getElem?_cons_zero, List.getElem?_cons_succ, List.set_cons_zero, List.set_cons_succ, Option.map_some, List.map_cons, List.map_nil, Nat.reduceAdd, Nat.reduceSub, Nat.reduceEqDiff, List.reduceReplicate, List.cons_append, List.nil_append, List.append_nil, true_and, and_true, i2]
        rfl]
      have lenS : (sortSI r0).length ≤ 60 := Nat.le_trans (sortSI_few (pg := r0) fun z hz => hz) hr
      simp only [r2_some, datas_map, r1_some, r2_some, r1_none, r_var, r_c, r_op, r_fz, r_bval, r_btru, r_band, r_bor, r_bnot, r_if, r_and, r_or, r_not, r_nil, r_cons, r_tup, r_lst, r_lstN, r_cb, r_is, r_call, r_neg, r_chain, r_ixC, ro_no, ro_some, r_sl, rt_nm, rs_next, rs_ret, rs_seq, rs_if, rs_asg, rs_asgT, rs_par, rt_nil, rt_cons, rt_tp, ri_data, ri_range1, ri_range2, ri_enum, r_comp, startD, look_d, looks_nil, looks_d, datas_nil, datas_d, tru_b, tru_i, List.length_cons, List.length_nil, List.getElem?_cons_zero, List.getElem?_cons_succ, List.set_cons_zero, List.set_cons_succ, Option.map_some, List.map_cons, List.map_nil, Nat.reduceAdd, Nat.reduceSub, Nat.reduceEqDiff, List.reduceReplicate, List.cons_append, List.nil_append, List.append_nil, true_and, and_true, gTupleOf]
      refine ⟨by rw [List.length_map]; omega, st, [.dic kvs], rfl, rfl, hc, trivial, ?_, rfl⟩
      unfold countsP
      rw [List.map_map]
      rfl
    | _ => exact ho.elim
end Gs

set_option Elab.async false
set_option linter.all false
set_option maxRecDepth 100000
set_option maxHeartbeats 4000000
namespace Gs
open PySem PySem.Spec PyProof.Rows L2 Pg Dl
/-! ### rows and their sums -/
def cntIn (l row : List Int) : Nat := row.countP fun p => decide (p ∈ l)
theorem sum_ind (x : Int) : ∀ {S : List Int}, S.Nodup → (S.map fun p => if x = p then (1 : Int) else 0).sum = if x ∈ S then 1 else 0
  | [], _ => rfl
  | y :: S, h => by
    obtain ⟨h1, h2⟩ := List.nodup_cons.mp h
    rw [List.map_cons, List.sum_cons, sum_ind x h2]
    by_cases e : x = y
    · subst e
      simp [h1]
    · simp [e]
theorem sum_add {S : List Int} (f g : Int → Int) : (S.map fun p => f p + g p).sum = (S.map f).sum + (S.map g).sum := by
  induction S with
  | nil => rfl
  | cons y S ih =>
    simp only [List.map_cons, List.sum_cons, ih]
    omega
theorem sum_zero {S : List Int} {f : Int → Int} (h : ∀ p ∈ S, f p = 0) : (S.map f).sum = 0 := by
  induction S with
  | nil => rfl
  | cons y S ih =>
    rw [List.map_cons, List.sum_cons, h y List.mem_cons_self, ih fun p hp => h p (List.mem_cons_of_mem _ hp)]
    rfl
theorem sum_count {l S : List Int} (hn : S.Nodup) : ∀ row : List Int, (∀ p ∈ row, p ∈ S) → ((S.filter fun p => decide (p ∈ l)).map fun p => ((row.count p : Nat) : Int)).sum = (cntIn l row : Nat)
  | [], _ => by
    refine (sum_zero fun p _ => ?_).trans rfl
    rfl
  | x :: row, h => by
    have ih := sum_count (l := l) hn row fun p hp => h p (List.mem_cons_of_mem _ hp)
    have hx := h x List.mem_cons_self
    have e : (fun p : Int => (((x :: row).count p : Nat) : Int)) = fun p => ((row.count p : Nat) : Int) + if x = p then (1 : Int) else 0 := by
      funext p
      rw [List.count_cons]
      by_cases e : x = p
      · subst e; simp
      · simp [e]
    rw [e, sum_add, ih, sum_ind x (hn.filter _)]
    unfold cntIn
    rw [List.countP_cons]
    by_cases hl : x ∈ l
    · simp [List.mem_filter, hx, hl]
    · simp [List.mem_filter, hl]
theorem inC_counts (l row : List Int) : inC l (countsP row) = (cntIn l row : Nat) := by
  unfold inC countsP
  rw [List.filter_map, List.map_map]
  exact sum_count (sortSI_nodup row) row fun p hp => mem_sortSI.mpr hp
theorem all_counts (F : List Tick) (row : List Int) : ((countsP row).all fun c => hasP F c.1) = row.all (hasP F) := by
  unfold countsP
  rw [Bool.eq_iff_iff, List.all_map, List.all_eq_true, List.all_eq_true]
  constructor
  · exact fun h p hp => h p (mem_sortSI.mpr hp)
  · exact fun h p hp => h p (mem_sortSI.mp hp)
def isLetR (F : List Tick) (row : List Int) : Bool := row.all (hasP F) && F.all fun t => decide ((cntIn t.1 row : Int) ≤ t.2)
def spentR (F : List Tick) (row : List Int) : List Tick := F.map fun t => (t.1, t.2 - (cntIn t.1 row : Nat))
theorem isLet_counts (F : List Tick) (row : List Int) : isLetP F (countsP row) = isLetR F row := by
  unfold isLetP isLetR
  rw [all_counts]
  congr 2
  funext t
  rw [inC_counts]
theorem spent_counts (F : List Tick) (row : List Int) : spentC F (countsP row) = spentR F row := by
  unfold spentC spentR
  refine List.map_congr_left fun t _ => ?_
  rw [inC_counts]
theorem has_spent (F : List Tick) (p q : Int) : hasP (spentP F p) q = hasP F q := by
  unfold hasP spentP
  rw [List.any_map]
  rfl
theorem cnt_cons (l row : List Int) (p : Int) : cntIn l (p :: row) = cntIn l row + if p ∈ l then 1 else 0 := by
  unfold cntIn
  rw [List.countP_cons]
  by_cases h : p ∈ l <;> simp [h]
theorem row_eq : ∀ (row : List Int) (F : List Tick), (∀ t ∈ F, 0 ≤ t.2) → rowP F row = if isLetR F row = true then some (spentR F row) else none
  | [], F, h => by
    have e1 : isLetR F [] = true := by
      unfold isLetR cntIn
      rw [List.all_nil, Bool.true_and, List.all_eq_true]
      exact fun t ht => decide_eq_true (by rw [List.countP_nil]; exact h t ht)
    rw [if_pos e1]
    have e2 : spentR F [] = F := by
      unfold spentR cntIn
      simp
    rw [e2]
    rfl
  | p :: row, F, h => by
    unfold rowP
    cases hl : letsP F p with
    | false =>
      rw [if_neg (by simp), if_neg]
      intro hc
      unfold isLetR at hc
      simp only [List.all_cons, Bool.and_eq_true, List.all_eq_true, decide_eq_true_eq] at hc
      unfold letsP at hl
      rw [hc.1.1, Bool.true_and, Bool.eq_false_iff] at hl
      refine hl ?_
      rw [List.all_eq_true]
      intro t ht
      have := hc.2 t ht
      rw [cnt_cons] at this
      by_cases hp : p ∈ t.1
      · simp only [hp, decide_true, Bool.not_true, Bool.false_or, decide_eq_true_eq]
        rw [if_pos hp] at this
        omega
      · simp [hp]
    | true =>
      rw [if_pos rfl]
      unfold letsP at hl
      simp only [Bool.and_eq_true, List.all_eq_true, Bool.or_eq_true, Bool.not_eq_true', decide_eq_false_iff_not, decide_eq_true_eq] at hl
      have h' : ∀ t ∈ spentP F p, 0 ≤ t.2 := fun t ht => by
        obtain ⟨u, hu, rfl⟩ := List.mem_map.mp ht
        have h0 := h u hu
        dsimp only
        split
        · rename_i hp
          rcases hl.2 u hu with z | z
          · exact absurd hp z
          · omega
        · exact h0
      rw [row_eq row (spentP F p) h']
      have e1 : isLetR (spentP F p) row = isLetR F (p :: row) := by
        unfold isLetR
        rw [List.all_cons, hl.1, Bool.true_and]
        have a : row.all (hasP (spentP F p)) = row.all (hasP F) := by
          congr 1
          funext q
          exact has_spent F p q
        rw [a]
        congr 1
        unfold spentP
        rw [List.all_map]
        congr 1
        funext t
        simp only [Function.comp]
        rw [cnt_cons, decide_eq_decide]
        split <;> omega
      have e2 : spentR (spentP F p) row = spentR F (p :: row) := by
        unfold spentR spentP
        rw [List.map_map]
        refine List.map_congr_left fun t _ => ?_
        simp only [Function.comp]
        rw [cnt_cons]
        split
        · congr 1
          omega
        · congr 1
      rw [e1, e2]
theorem perm_isLet {F : List Tick} {r q : List Int} (h : r.Perm q) : isLetR F r = isLetR F q := by
  unfold isLetR cntIn
  congr 1
  · rw [Bool.eq_iff_iff, List.all_eq_true, List.all_eq_true]
    exact ⟨fun k p hp => k p (h.mem_iff.mpr hp), fun k p hp => k p (h.mem_iff.mp hp)⟩
  · congr 1
    funext t
    rw [h.countP_eq]
theorem perm_spent {F : List Tick} {r q : List Int} (h : r.Perm q) : spentR F r = spentR F q := by
  unfold spentR cntIn
  refine List.map_congr_left fun t _ => ?_
  rw [h.countP_eq]
theorem perm_counts {r q : List Int} (h : r.Perm q) : countsP r = countsP q := by
  unfold countsP
  have e : sortSI r = sortSI q := asc_same (asc_sortSI r) (asc_sortSI q) fun z => by rw [mem_sortSI, mem_sortSI, h.mem_iff]
  rw [e]
  refine List.map_congr_left fun p _ => ?_
  rw [h.count_eq]
theorem isLet_take {F : List Tick} {r : List Int} {k : Nat} (h : isLetR F r = true) : isLetR F (r.take k) = true := by
  unfold isLetR at h ⊢
  simp only [Bool.and_eq_true, List.all_eq_true, decide_eq_true_eq] at h ⊢
  refine ⟨fun p hp => h.1 p (List.mem_of_mem_take hp), fun t ht => ?_⟩
  have h1 := h.2 t ht
  have : cntIn t.1 (r.take k) ≤ cntIn t.1 r := (List.take_sublist k r).countP_le
  omega
end Gs

set_option Elab.async false
set_option linter.all false
set_option maxRecDepth 100000
set_option maxHeartbeats 4000000
namespace Gs
open PySem PySem.Spec PyProof.Rows L2 Pg Dl
variable {tb : Cell} {rest st s : Sto}
theorem CloV.up {n m : Nat} (h : n ≤ m) : ∀ {v : Vd}, CloV n v → CloV m v
  | .d _, _ => trivial
  | .r _, k => Nat.lt_of_lt_of_le k h
  | .t _, _ => trivial
theorem CloC.up {n m : Nat} (h : n ≤ m) : ∀ {c : Cell}, CloC n c → CloC m c
  | .dead, _ => trivial
  | .lst _, k => fun x hx => CloV.up h (k x hx)
  | .dic _, k => fun x hx => CloV.up h (k x hx)
  | .dct _, k => fun x hx => CloV.up h (k x hx)
  | .tbl _ _, _ => trivial
theorem Clo.app {b j : Sto} (h : Clo b.length b) (hj : ∀ c ∈ j, CloC (b ++ j).length c) : Clo (b ++ j).length (b ++ j) := fun c hc => by
  rcases List.mem_append.mp hc with hc | hc
  · exact CloC.up (by rw [List.length_append]; omega) (h c hc)
  · exact hj c hc
theorem clo_lst {n : Nat} {xs : List PyData} : CloC n (.lst (xs.map .d)) := fun x hx => by
  obtain ⟨d, _, rfl⟩ := List.mem_map.mp hx
  trivial
theorem someT_sp {xs : List PyData} {b j : Sto} (m0 : 0 < xs.length) (m1 : xs.length < 2 ^ 60) (h : BagS tb rest b) : R2 (fSome fTake [.r 1, .d (.tuple xs)] (b ++ j)) fun v s => ∃ x b', v = .d x ∧ x ∈ xs ∧ s = b' ++ j ∧ b'.length = b.length ∧ BagS tb rest b' := by
  refine rf_of ?_
  unfold gSome
  simp only [r1_some, r2_some, r1_none, r_var, r_c, r_op, r_fz, r_bval, r_btru, r_band, r_bor, r_bnot, r_if, r_and, r_or, r_not, r_nil, r_cons, r_tup, r_lst, r_lstN, r_cb, r_is, r_call, r_neg, r_chain, r_ixC, ro_no, ro_some, r_sl, rt_nm, rs_next, rs_ret, rs_seq, rs_if, rs_asg, rs_asgT, rs_par, rt_nil, rt_cons, rt_tp, ri_data, ri_range1, ri_range2, ri_enum, r_comp, startD, look_d, looks_nil, looks_d, datas_nil, datas_d, tru_b, tru_i, List.length_cons, List.length_nil, List.getElem?_cons_zero, List.getElem?_cons_succ, List.set_cons_zero, List.set_cons_succ, Option.map_some, List.map_cons, List.map_nil, Nat.reduceAdd, Nat.reduceSub, Nat.reduceEqDiff, List.reduceReplicate, List.cons_append, List.nil_append, List.append_nil, true_and, and_true, gLen_tuple]
  refine (takeJ_sp (by omega) (by omega) h).mono fun v s hv => ?_
  obtain ⟨z, b', rfl, z0, z1, rfl, l1, hs⟩ := hv
  simp only [r1_some, r2_some, r1_none, r_var, r_c, r_op, r_fz, r_bval, r_btru, r_band, r_bor, r_bnot, r_if, r_and, r_or, r_not, r_nil, r_cons, r_tup, r_lst, r_lstN, r_cb, r_is, r_call, r_neg, r_chain, r_ixC, ro_no, ro_some, r_sl, rt_nm, rs_next, rs_ret, rs_seq, rs_if, rs_asg, rs_asgT, rs_par, rt_nil, rt_cons, rt_tp, ri_data, ri_range1, ri_range2, ri_enum, r_comp, startD, look_d, looks_nil, looks_d, datas_nil, datas_d, tru_b, tru_i, List.length_cons, List.length_nil, List.getElem?_cons_zero, List.getElem?_cons_succ, List.set_cons_zero, List.set_cons_succ, Option.map_some, List.map_cons, List.map_nil, Nat.reduceAdd, Nat.reduceSub, Nat.reduceEqDiff, List.reduceReplicate, List.cons_append, List.nil_append, List.append_nil, true_and, and_true, gLen_tuple]
  obtain ⟨x, hx, e⟩ := at_in z0 z1
  simp only [r1_some, r2_some, r1_none, r_var, r_c, r_op, r_fz, r_bval, r_btru, r_band, r_bor, r_bnot, r_if, r_and, r_or, r_not, r_nil, r_cons, r_tup, r_lst, r_lstN, r_cb, r_is, r_call, r_neg, r_chain, r_ixC, ro_no, ro_some, r_sl, rt_nm, rs_next, rs_ret, rs_seq, rs_if, rs_asg, rs_asgT, rs_par, rt_nil, rt_cons, rt_tp, ri_data, ri_range1, ri_range2, ri_enum, r_comp, startD, look_d, looks_nil, looks_d, datas_nil, datas_d, tru_b, tru_i, List.length_cons, List.length_nil, List.getElem?_cons_zero, List.getElem?_cons_succ, List.set_cons_zero, List.set_cons_succ, Option.map_some, List.map_cons, List.map_nil, Nat.reduceAdd, Nat.reduceSub, Nat.reduceEqDiff, List.reduceReplicate, List.cons_append, List.nil_append, List.append_nil, true_and, and_true, gIx_tuple, e]
  exact ⟨by simp only [List.length_append]; omega, x, b', rfl, hx, rfl, l1, hs⟩
theorem someJ0 {xs : List PyData} {b : Sto} (m0 : 0 < xs.length) (m1 : xs.length < 2 ^ 60) (h : BagS tb rest b) : R2 (fSome fTake [.r 1, .d (.list xs)] b) fun v s => ∃ x, v = .d x ∧ x ∈ xs ∧ s.length = b.length ∧ BagS tb rest s := by
  refine (some_sp m0 m1 h).mono fun v s hv => ?_
  obtain ⟨⟨x, hx, rfl⟩, hs⟩ := hv
  exact ⟨x, rfl, hx, by rw [h.len, hs.len], hs⟩
/-! dicts of ints -/
def kI (c : Int × Int) : Key × Vd := (.inl c.1, .d (.int c.2))
def putM (M : List (Int × Int)) (k v : Int) : List (Int × Int) := if M.any (fun p => p.1 = k) then M.map (fun p => if p.1 = k then (p.1, v) else p) else M ++ [(k, v)]
theorem inl_key {a b : Int} : (Sum.inl a : Key) = Sum.inl b ↔ a = b := ⟨fun h => by injection h, fun h => by rw [h]⟩
theorem putV_kI (M : List (Int × Int)) (k v : Int) : putV (M.map kI) (.inl k) (.d (.int v)) = (putM M k v).map kI := by
  have e : (M.map kI).any (fun p => p.1 = (.inl k : Key)) = M.any (fun p => p.1 = k) := by
    rw [List.any_map]
    congr 1
    funext p
    simp only [Function.comp, kI, inl_key]
  unfold putV putM
  rw [e]
  split
  · rw [List.map_map, List.map_map]
    refine List.map_congr_left fun p _ => ?_
    simp only [Function.comp, kI, inl_key]
    split <;> simp_all
  · rw [List.map_append]
    rfl
theorem mem_putM {M : List (Int × Int)} {k v : Int} {t : Int × Int} (h : t ∈ putM M k v) : t = (k, v) ∨ t ∈ M := by
  unfold putM at h
  split at h
  · obtain ⟨q, hq, rfl⟩ := List.mem_map.mp h
    split
    · rename_i e
      rw [e]
      exact .inl rfl
    · exact .inr hq
  · rcases List.mem_append.mp h with h | h
    · exact .inr h
    · exact .inl (List.mem_singleton.mp h)
theorem putM_len {M : List (Int × Int)} {k v : Int} : (putM M k v).length ≤ M.length + 1 := by
  unfold putM
  split
  · rw [List.length_map]; omega
  · rw [List.length_append]; simp
theorem intsKV_kI : ∀ M : List (Int × Int), intsKV (M.map kI) = some M
  | [] => rfl
  | c :: M => by simp [intsKV, kI, intsKV_kI M]
theorem get_kI (M : List (Int × Int)) (k : Int) : (getV (M.map kI) (.inl k)).getD (.d (.int 0)) = .d (.int (((M.find? fun c => decide (c.1 = k)).map (·.2)).getD 0)) := by
  unfold getV
  rw [List.find?_map]
  have e : ((fun kv : Key × Vd => decide (kv.1 = (.inl k : Key))) ∘ kI) = fun c : Int × Int => decide (c.1 = k) := by
    funext c
    simp only [Function.comp, kI, inl_key]
  rw [e]
  cases M.find? fun c => decide (c.1 = k) <;> rfl
theorem get_mem {M : List (Int × Int)} {k : Int} : ((M.find? fun c => decide (c.1 = k)).map (·.2)).getD 0 = 0 ∨ ∃ c ∈ M, ((M.find? fun c => decide (c.1 = k)).map (·.2)).getD 0 = c.2 := by
  cases h : M.find? fun c => decide (c.1 = k) with
  | none => exact .inl rfl
  | some c => exact .inr ⟨c, List.mem_of_find?_eq_some h, rfl⟩
theorem r_sortIK_ {a : EF} {ρ : Dl.Env} {Q : Vd → Sto → Prop} (h : R2 (a ρ st) fun w s1 => ∃ n kvs es, w = .r n ∧ s1[n]? = some (.dic kvs) ∧ intsKV kvs = some es ∧ sortsB (es.map fun e => pairI e.1 e.2) = true ∧ Q (.d (.list (srt (es.map fun e => pairI e.1 e.2)))) s1) : R2 (eSortIK a ρ st) Q := by
  obtain ⟨_, s1, e1, n, kvs, es, rfl, e2, e3, h1, q⟩ := h
  exact ⟨_, _, by unfold eSortIK; simp only [e1, e2, e3]; exact if_pos h1, q⟩
theorem sorts_cp {M : List (Int × Int)} (hl : M.length ≤ 1000) : sortsB (M.map fun e => pairI e.1 e.2) = true := by
  unfold sortsB alikesB
  simp only [Bool.and_eq_true, Bool.or_eq_true, List.all_eq_true, decide_eq_true_eq]
  refine ⟨⟨⟨?_, .inl ?_⟩, ?_⟩, by rw [List.length_map]; omega⟩
  · intro x hx y hy
    obtain ⟨a, _, rfl⟩ := List.mem_map.mp hx
    obtain ⟨b, _, rfl⟩ := List.mem_map.mp hy
    simp [pairI, PySem.W.alike, PySem.W.alikeAll]
  · intro x hx
    obtain ⟨a, _, rfl⟩ := List.mem_map.mp hx
    rfl
  · intro x hx
    obtain ⟨a, _, rfl⟩ := List.mem_map.mp hx
    simp [pairI, PyData.depth, PyData.depthAll]
def unCp : PyData → Int × Int
  | .tuple [.int a, .int b] => (a, b)
  | _ => (0, 0)
theorem perm_cp {l : List PyData} {K : List (Int × Int)} (h : l.Perm (K.map cp)) : ∃ F : List (Int × Int), l = F.map cp ∧ F.Perm K := by
  have : ∃ F : List (Int × Int), l = F.map cp := by
    have hm : ∀ x ∈ l, ∃ i : Int × Int, x = cp i := fun x hx => by
      obtain ⟨i, _, rfl⟩ := List.mem_map.mp (h.mem_iff.mp hx)
      exact ⟨i, rfl⟩
    clear h
    induction l with
    | nil => exact ⟨[], rfl⟩
    | cons x l ih =>
      obtain ⟨i, rfl⟩ := hm x List.mem_cons_self
      obtain ⟨b, rfl⟩ := ih fun y hy => hm y (List.mem_cons_of_mem _ hy)
      exact ⟨i :: b, rfl⟩
  obtain ⟨F, rfl⟩ := this
  refine ⟨F, rfl, ?_⟩
  have := h.map unCp
  have e : unCp ∘ cp = id := rfl
  rw [List.map_map, List.map_map, e, List.map_id, List.map_id] at this
  exact this
/-! what may be shown -/
theorem nic_int {k n W : Nat} {z : Int} (h : z.natAbs ≤ 10 ^ 13) (hW : 50 ≤ W) : Nic k n W (.int z) := by
  refine ⟨?_, by simp [PyData.depth], ?_⟩
  · simp only [gd, decide_eq_true_eq]
    have : (10 : Nat) ^ 13 ≤ 10 ^ 39 := by decide
    omega
  · simp only [PyData.weight]
    have : z.natAbs.log2 < 44 := log2_le (by have : (10 : Nat) ^ 13 < 2 ^ 44 := by decide
                                             omega) (by decide)
    split <;> omega
theorem nic_all {n W B : Nat} {ds : List PyData} (h : ∀ d ∈ ds, Nic 0 n W d) (hl : ds.length ≤ B) : Nic 0 (n + 1) (B * (W + 1)) (.tuple ds) ∧ Nic 0 (n + 1) (B * (W + 1)) (.list ds) := by
  have hw : PyData.weightAll ds ≤ B * (W + 1) := Nat.le_trans (weightAll_le fun d hd => (h d hd).wt) (Nat.mul_le_mul_right _ hl)
  exact ⟨Nic.tup (fun d hd => ⟨(h d hd).g, (h d hd).dp⟩) hw, Nic.list (fun d hd => ⟨(h d hd).g, (h d hd).dp⟩) hw⟩
theorem nic_bool {b : Bool} : Nic 0 0 50 (.bool b) := ⟨rfl, by simp [PyData.depth], by simp [PyData.weight]⟩
theorem nic_non : Nic 0 0 50 .none := ⟨rfl, by simp [PyData.depth], by simp [PyData.weight]⟩
theorem nic_cp {c : Int × Int} (h1 : c.1.natAbs ≤ 10 ^ 13) (h2 : c.2.natAbs ≤ 10 ^ 13) : Nic 0 1 102 (cp c) :=
  (nic_all (n := 0) (W := 50) (B := 2) (fun d hd => by
    simp only [List.mem_cons, List.not_mem_nil, or_false] at hd
    rcases hd with rfl | rfl
    · exact nic_int h1 (Nat.le_refl _)
    · exact nic_int h2 (Nat.le_refl _)) (by simp)).1
theorem nic_tp {t : Tick} {B : Nat} (hl : t.1.length ≤ B) (h1 : ∀ p ∈ t.1, p.natAbs ≤ 10 ^ 13) (h2 : t.2.natAbs ≤ 10 ^ 13) : Nic 0 2 (2 * (B * 51 + 50 + 1)) (tp t) :=
  (nic_all (n := 1) (W := B * 51 + 50) (B := 2) (fun d hd => by
    simp only [List.mem_cons, List.not_mem_nil, or_false] at hd
    rcases hd with rfl | rfl
    · exact (nic_all (n := 0) (W := 50) (B := B) (fun d hd => by
        obtain ⟨p, hp, rfl⟩ := List.mem_map.mp hd
        exact nic_int (h1 p hp) (Nat.le_refl _)) (by rw [List.length_map]; exact hl)).1.up (Nat.le_refl _) (Nat.le_refl _) (Nat.le_add_right _ _)
    · exact nic_int h2 (by omega)) (by simp)).1
theorem alike_of {d : PyData} {n W : Nat} (h : Nic 0 n W d) (hn : n ≤ 60) (hw : W ≤ 250000) : fAlike [.d d, .d d] st = some (.d (.bool true), st) :=
  eq_of (alike_sp (h.repr (by decide) hn hw) (Nat.le_trans h.dp hn))
end Gs

set_option Elab.async false
set_option linter.all false
set_option maxRecDepth 100000
set_option maxHeartbeats 4000000
namespace Gs
open PySem PySem.Spec PyProof.Rows L2 Pg Dl
variable {tb : Cell} {rest st s : Sto}
/-- a loop that runs to its end, with what holds behind each turn -/
theorem for_cnt {t : TF} {body : SF} {n : Nat} {I : Nat → Dl.Env → Sto → Prop} (f : ∀ i v ρ st, i < n → I i ρ st → R2 (t v ρ st) fun ρ1 s1 => R1 (body ρ1 s1) fun o => match o with
    | .nx ρ2 s2 => I (i + 1) ρ2 s2
    | .ct ρ2 s2 => I (i + 1) ρ2 s2
    | _ => False) : ∀ {items : List Vd} {i : Nat} {ρ : Dl.Env} {st : Sto}, i + items.length = n → I i ρ st → R1 (forD t body items ρ st) fun o => match o with
    | .nx ρ2 s2 => I n ρ2 s2
    | _ => False
  | [], i, ρ, st, hn, h => r1_some.mpr (by
      have : i = n := by simpa using hn
      exact this ▸ h)
  | v :: vs, i, ρ, st, hn, h => by
    rw [List.length_cons] at hn
    obtain ⟨ρ1, s1, e1, o, e2, q⟩ := f i v ρ st (by omega) h
    have go : ∀ ρ2 s2, I (i + 1) ρ2 s2 → (forD t body (v :: vs) ρ st = forD t body vs ρ2 s2) → R1 (forD t body (v :: vs) ρ st) fun o => match o with
        | .nx ρ2 s2 => I n ρ2 s2
        | _ => False := fun ρ2 s2 h2 e => by
      have ih := for_cnt f (items := vs) (by omega) h2
      rw [← e] at ih
      exact ih
    cases o with
    | nx ρ2 s2 => exact go ρ2 s2 q (by simp only [forD, e1, e2])
    | ct ρ2 s2 => exact go ρ2 s2 q (by simp only [forD, e1, e2])
    | _ => exact q.elim
theorem bag_sp (ns : List Int) : R2 (fBag [.d (.list (ns.map .int))] [tb]) fun v s => v = .r 1 ∧ BagS tb [] s := by
  refine rf_of ?_
  unfold gBag
  have sl : gSl none (some 63) (.list (ns.map .int)) = some (.list ((ns.map PyData.int).take 63)) := gSl_toL (z := 63)
  try simp only [r1_some, r2_some, r1_none, r_var, r_c, r_op, r_fz, r_bval, r_btru, r_band, r_bor, r_bnot, r_if, r_and, r_or, r_not, r_nil, r_cons, r_tup, r_lst, r_lstN, r_cb, r_is, r_call, r_neg, r_chain, r_ixC, ro_no, ro_some, r_sl, rt_nm, rs_next, rs_ret, rs_seq, rs_if, rs_asg, rs_asgT, rs_par, rt_nil, rt_cons, rt_tp, ri_data, ri_range1, ri_range2, ri_enum, r_comp, startD, look_d, looks_nil, looks_d, datas_nil, datas_d, tru_b, tru_i, List.length_cons, List.length_nil, List.getElem?_cons_zero, List.getElem?_cons_succ, List.set_cons_zero, List.set_cons_succ, Option.map_some, List.map_cons, List.map_nil, Nat.reduceAdd, Nat.reduceSub, Nat.reduceEqDiff, List.reduceReplicate, List.cons_append, List.nil_append, List.append_nil, true_and, and_true, sl]
  have e := comp_told (st := [tb]) (t := tNm 1) (a := eCB gAbs (aCons (eVar 1) aNil)) (ρ := wipeD [some (.d (.list (ns.map .int))), none] [1])
    (h := fun v => match v with
      | .d (.int k) => .int (if k < 0 then -k else k)
      | _ => .none) (items := ((ns.map PyData.int).take 63).map .d) fun v hv => by
    obtain ⟨x, hx, rfl⟩ := List.mem_map.mp hv
    obtain ⟨k, _, rfl⟩ := List.mem_map.mp (List.mem_of_mem_take hx)
    simp only [wipeD, r1_some, r2_some, r1_none, r_var, r_c, r_op, r_fz, r_bval, r_btru, r_band, r_bor, r_bnot, r_if, r_and, r_or, r_not, r_nil, r_cons, r_tup, r_lst, r_lstN, r_cb, r_is, r_call, r_neg, r_chain, r_ixC, ro_no, ro_some, r_sl, rt_nm, rs_next, rs_ret, rs_seq, rs_if, rs_asg, rs_asgT, rs_par, rt_nil, rt_cons, rt_tp, ri_data, ri_range1, ri_range2, ri_enum, r_comp, startD, look_d, looks_nil, looks_d, datas_nil, datas_d, tru_b, tru_i, List.length_cons, List.length_nil, List.getElem?_cons_zero, List.getElem?_cons_succ, List.set_cons_zero, List.set_cons_succ, Option.map_some, List.map_cons, List.map_nil, Nat.reduceAdd, Nat.reduceSub, Nat.reduceEqDiff, List.reduceReplicate, List.cons_append, List.nil_append, List.append_nil, true_and, and_true, gAbs, sl]
  rw [e, r2_some, datas_map, r1_some]
  try simp only [r1_some, r2_some, r1_none, r_var, r_c, r_op, r_fz, r_bval, r_btru, r_band, r_bor, r_bnot, r_if, r_and, r_or, r_not, r_nil, r_cons, r_tup, r_lst, r_lstN, r_cb, r_is, r_call, r_neg, r_chain, r_ixC, ro_no, ro_some, r_sl, rt_nm, rs_next, rs_ret, rs_seq, rs_if, rs_asg, rs_asgT, rs_par, rt_nil, rt_cons, rt_tp, ri_data, ri_range1, ri_range2, ri_enum, r_comp, startD, look_d, looks_nil, looks_d, datas_nil, datas_d, tru_b, tru_i, List.length_cons, List.length_nil, List.getElem?_cons_zero, List.getElem?_cons_succ, List.set_cons_zero, List.set_cons_succ, Option.map_some, List.map_cons, List.map_nil, Nat.reduceAdd, Nat.reduceSub, Nat.reduceEqDiff, List.reduceReplicate, List.cons_append, List.nil_append, List.append_nil, true_and, and_true, sl]
  have m : ((((ns.map PyData.int).take 63).map Vd.d).map fun v => match v with
      | .d (.int k) => PyData.int (if k < 0 then -k else k)
      | _ => .none) = ((ns.take 63).map fun k => if k < 0 then -k else k).map .int := by
    rw [← List.map_take, List.map_map, List.map_map, List.map_map]
    rfl
  rw [m]
  refine ⟨by simp; omega, ?_⟩
  have i4 : (4 : Nat) ≤ sizeLine := by decide
  try simp only [r1_some, r2_some, r1_none, r_var, r_c, r_op, r_fz, r_bval, r_btru, r_band, r_bor, r_bnot, r_if, r_and, r_or, r_not, r_nil, r_cons, r_tup, r_lst, r_lstN, r_cb, r_is, r_call, r_neg, r_chain, r_ixC, ro_no, ro_some, r_sl, rt_nm, rs_next, rs_ret, rs_seq, rs_if, rs_asg, rs_asgT, rs_par, rt_nil, rt_cons, rt_tp, ri_data, ri_range1, ri_range2, ri_enum, r_comp, startD, look_d, looks_nil, looks_d, datas_nil, datas_d, tru_b, tru_i, List.length_cons, List.length_nil, List.getElem?_cons_zero, List.getElem?_cons_succ, List.set_cons_zero, List.set_cons_succ, Option.map_some, List.map_cons, List.map_nil, Nat.reduceAdd, Nat.reduceSub, Nat.reduceEqDiff, List.reduceReplicate, List.cons_append, List.nil_append, List.append_nil, true_and, and_true, i4, sl]
  refine ⟨by simp, 0, 1234567891, 0, (ns.take 63).map fun k => if k < 0 then -k else k, rfl, ⟨by decide, by decide, by decide, by decide, fun n hn => ?_, by simp; omega⟩⟩
  obtain ⟨k, _, rfl⟩ := List.mem_map.mp hn
  split <;> omega


noncomputable abbrev fPgs : FF := fPages (fSome fTake)
def pagesL (a b : Int) (n : Nat) : List Int := (List.range n).map fun i : Nat => a + b * (i : Int)
theorem pages_ints {a b : Int} {n : Nat} : ((List.range n).map fun i : Nat => PyData.int (a + b * i)) = (pagesL a b n).map .int := by unfold pagesL; rw [List.map_map]; rfl
theorem pagesL_nodup {a b : Int} {n : Nat} (hb : 1 ≤ b) : (pagesL a b n).Nodup := by
  unfold pagesL
  rw [List.Nodup, List.pairwise_map]
  refine List.pairwise_lt_range.imp fun {i j} h e => ?_
  have h1 : b * (i : Int) = b * (j : Int) := by omega
  have := Int.eq_of_mul_eq_mul_left (by omega) h1
  omega
theorem pagesL_bd {a b : Int} {n : Nat} (a0 : 0 ≤ a) (a1 : a ≤ 40) (b0 : 1 ≤ b) (b1 : b ≤ 7) (hn : n ≤ 40) : ∀ p ∈ pagesL a b n, 0 ≤ p ∧ p ≤ 320 := fun p hp => by
  obtain ⟨i, hi, rfl⟩ := List.mem_map.mp hp
  have hi' := List.mem_range.mp hi
  have h1 : 0 ≤ b * (i : Int) := Int.mul_nonneg (by omega) (by omega)
  have h2 : b * (i : Int) ≤ 7 * 40 := Int.mul_le_mul b1 (by omega) (by omega) (by omega)
  omega
theorem pagesL_len {a b : Int} {n : Nat} : (pagesL a b n).length = n := by unfold pagesL; simp
theorem pgs_sp {n : Nat} (hn : n < 1000) (h : BagS tb rest st) : R2 (fPgs [.r 1, .d (.int n)] st) fun v s => (∃ a b : Int, 0 ≤ a ∧ a ≤ 40 ∧ 1 ≤ b ∧ b ≤ 7 ∧ v = .d (.list ((pagesL a b n).map .int))) ∧ BagS tb rest s := by
  refine (pages_sp (by omega) (by omega) h).mono fun v s hv => ?_
  obtain ⟨⟨a, b, a0, a1, b0, b1, rfl⟩, hs⟩ := hv
  refine ⟨⟨a, b, a0, a1, b0, b1, ?_⟩, hs⟩
  rw [Int.toNat_natCast, pages_ints]
/-- the tickets of a drawn forest may be shown -/
theorem nic_forest {pg : List Int} {lim B : Nat} {F : List Tick} (hF : FOk pg lim F) (hl : lim ≤ 10) (hp : pg.length ≤ B) (hb : ∀ p ∈ pg, 0 ≤ p ∧ p ≤ 10000) : ∀ t ∈ F, t.1.length ≤ B ∧ ∀ p ∈ t.1, p.natAbs ≤ 10 ^ 13 := fun t ht => by
  have hn : t.1.Nodup := (hF.asc t ht).imp fun h => Int.ne_of_lt h
  refine ⟨Nat.le_trans (nodup_len hn (hF.sub t ht)) hp, fun p hp => ?_⟩
  have := hb p (hF.sub t ht p hp)
  omega
theorem nic_F {F : List Tick} {B : Nat} (hl : F.length ≤ 10) (h : ∀ t ∈ F, (t.1.length ≤ B ∧ ∀ p ∈ t.1, p.natAbs ≤ 10 ^ 13) ∧ t.2.natAbs ≤ 10 ^ 13) : Nic 0 3 (10 * (2 * (B * 51 + 50 + 1) + 1)) (.tuple (F.map tp)) :=
  (nic_all (fun d hd => by
    obtain ⟨t, ht, rfl⟩ := List.mem_map.mp hd
    exact nic_tp (h t ht).1.1 (h t ht).1.2 (h t ht).2) (by rw [List.length_map]; exact hl)).1
end Gs

set_option Elab.async false
set_option linter.all false
set_option maxRecDepth 100000
set_option maxHeartbeats 4000000
namespace Gs
open PySem PySem.Spec PyProof.Rows L2 Pg Dl
variable {tb : Cell} {rest st s : Sto}
/-! ### tickets of a page by the lengths of their lots -/
structure LOk (F : List Tick) : Prop where
  asc : ∀ t ∈ F, t.1.Pairwise (· < ·)
  ne : ∀ t ∈ F, t.1 ≠ []
  nod : (F.map (·.1)).Nodup
  lam : ∀ t ∈ F, ∀ u ∈ F, Nest t.1 u.1
theorem FOk.lots {pg : List Int} {lim : Nat} {F : List Tick} (h : FOk pg lim F) : LOk F := ⟨h.asc, h.ne, h.nod, h.lam⟩
theorem LOk.of {F G : List Tick} (h : LOk F) (e : G.map (·.1) = F.map (·.1)) : LOk G := by
  have m : ∀ t ∈ G, ∃ u ∈ F, u.1 = t.1 := fun t ht => by
    have : t.1 ∈ F.map (·.1) := by rw [← e]; exact List.mem_map.mpr ⟨t, ht, rfl⟩
    obtain ⟨u, hu, eu⟩ := List.mem_map.mp this
    exact ⟨u, hu, eu⟩
  refine ⟨fun t ht => ?_, fun t ht => ?_, by rw [e]; exact h.nod, fun t ht v hv => ?_⟩
  · obtain ⟨u, hu, eu⟩ := m t ht
    rw [← eu]
    exact h.asc u hu
  · obtain ⟨u, hu, eu⟩ := m t ht
    rw [← eu]
    exact h.ne u hu
  · obtain ⟨u, hu, eu⟩ := m t ht
    obtain ⟨w, hw, ew⟩ := m v hv
    rw [← eu, ← ew]
    exact h.lam u hu w hw
theorem sub_same {a b : List Int} (ha : a.Pairwise (· < ·)) (hb : b.Pairwise (· < ·)) (h : Sub a b) (hl : a.length = b.length) : a = b := by
  refine asc_same ha hb fun z => ⟨h z, fun hz => ?_⟩
  by_cases hza : z ∈ a
  · exact hza
  · exfalso
    have na : a.Nodup := ha.imp fun h => Int.ne_of_lt h
    have := nodup_len (l := z :: a) (m := b) (List.nodup_cons.mpr ⟨hza, na⟩) fun x hx => by
      rcases List.mem_cons.mp hx with rfl | hx
      · exact hz
      · exact h x hx
    simp only [List.length_cons] at this
    omega
theorem lot_inj {F : List Tick} (h : (F.map (·.1)).Nodup) {i j : Nat} {t u : Tick} (hi : F[i]? = some t) (hj : F[j]? = some u) (e : t.1 = u.1) : i = j := by
  have h1 : (F.map (·.1))[i]? = some t.1 := by rw [List.getElem?_map, hi]; rfl
  have h2 : (F.map (·.1))[j]? = some t.1 := by rw [List.getElem?_map, hj, e]; rfl
  have hl : i < (F.map (·.1)).length := (List.getElem?_eq_some_iff.mp h1).1
  exact (List.getElem?_inj hl h).mp (h1.trans h2.symm)
theorem len_inj {F : List Tick} (h : LOk F) {p : Int} {i j : Nat} (hi : i ∈ idxP F p) (hj : j ∈ idxP F p) (e : lenAt F i = lenAt F j) : i = j := by
  obtain ⟨t, ti, tp⟩ := idxP_mem.mp hi
  obtain ⟨u, uj, up⟩ := idxP_mem.mp hj
  have mt := List.mem_of_getElem? ti
  have mu := List.mem_of_getElem? uj
  unfold lenAt at e
  rw [ti, uj] at e
  simp only at e
  refine lot_inj h.nod ti uj ?_
  rcases h.lam t mt u mu with z | z | z
  · exact sub_same (h.asc t mt) (h.asc u mu) z e
  · exact (sub_same (h.asc u mu) (h.asc t mt) z e.symm).symm
  · exact absurd up (z p tp)
def Desc (F : List Tick) (l : List Nat) : Prop := l.Pairwise fun i j => lenAt F j < lenAt F i
theorem idxP_nodup {F : List Tick} {p : Int} : (idxP F p).Nodup := by
  unfold idxP
  rw [List.Nodup, List.pairwise_map]
  refine List.Pairwise.filter _ ?_
  have : ∀ (F : List Tick) (n : Nat), (F.zipIdx n).Pairwise fun a b => a.2 ≠ b.2 := by
    intro F
    induction F with
    | nil => intro n; exact .nil
    | cons t F ih =>
      intro n
      rw [List.zipIdx_cons]
      refine .cons (fun b hb => ?_) (ih (n + 1))
      obtain ⟨b1, b2⟩ := b
      have := List.le_snd_of_mem_zipIdx hb
      simp only at this ⊢
      omega
  exact this F 0
theorem desc_of {F : List Tick} (h : LOk F) {p : Int} {l : List Nat} (hp : l.Perm (idxP F p)) (hs : l.Pairwise fun i j => lenAt F j ≤ lenAt F i) : Desc F l := by
  have nd : l.Nodup := hp.nodup_iff.mpr idxP_nodup
  have := hs.and nd
  refine List.Pairwise.imp_of_mem (fun {a b} ha hb hab => ?_) this
  have ne : lenAt F a ≠ lenAt F b := fun e => hab.2 (len_inj h (hp.mem_iff.mp ha) (hp.mem_iff.mp hb) e)
  have := hab.1
  omega
theorem desc_uniq {F : List Tick} {l m : List Nat} (hp : l.Perm m) (hl : Desc F l) (hm : Desc F m) : l = m :=
  List.Perm.eq_of_pairwise (le := fun i j => lenAt F j < lenAt F i) (fun a b _ _ h1 h2 => by omega) hl hm hp
theorem withP_perm {F : List Tick} {p : Int} : (withP F p).Perm (idxP F p) := List.mergeSort_perm _ _
theorem withP_desc {F : List Tick} (h : LOk F) {p : Int} : Desc F (withP F p) := by
  refine desc_of h withP_perm ?_
  have := List.pairwise_mergeSort (le := lenGe F) (fun a b c h1 h2 => by unfold lenGe at *; simp only [decide_eq_true_eq] at *; omega) (fun a b => by unfold lenGe; simp only [Bool.or_eq_true, decide_eq_true_eq]; omega) (idxP F p)
  exact this.imp fun h => by unfold lenGe at h; simpa using h
/-- the place ahead of i in a row that falls -/
theorem desc_before {F : List Tick} : ∀ {l : List Nat} {i : Nat}, Desc F l → i ∈ l → (l.idxOf i = 0 → ∀ k ∈ l, lenAt F k ≤ lenAt F i) ∧ ∀ n, l.idxOf i = n + 1 → ∃ j, l[n]? = some j ∧ j ∈ l ∧ lenAt F i < lenAt F j ∧ ∀ k ∈ l, lenAt F i < lenAt F k → lenAt F j ≤ lenAt F k
  | [], i, _, h => nomatch h
  | x :: l, i, hd, hi => by
    have hx := (List.pairwise_cons.mp hd).1
    have hl := (List.pairwise_cons.mp hd).2
    by_cases e : x = i
    · subst e
      rw [List.idxOf_cons_self]
      refine ⟨fun _ k hk => ?_, fun n h => by omega⟩
      rcases List.mem_cons.mp hk with rfl | hk
      · exact Nat.le_refl _
      · exact Nat.le_of_lt (hx k hk)
    · have hi' : i ∈ l := (List.mem_cons.mp hi).resolve_left fun z => e z.symm
      have e' : (x == i) = false := by simp [e]
      have ec : (x :: l).idxOf i = l.idxOf i + 1 := by rw [List.idxOf_cons, e']; rfl
      rw [ec]
      refine ⟨fun h => by omega, fun n h => ?_⟩
      have hn : l.idxOf i = n := by omega
      obtain ⟨a0, a1⟩ := desc_before hl hi'
      cases n with
      | zero =>
        refine ⟨x, rfl, List.mem_cons_self, hx i hi', fun k hk hlt => ?_⟩
        rcases List.mem_cons.mp hk with rfl | hk
        · exact Nat.le_refl _
        · have := a0 hn k hk
          omega
      | succ n =>
        obtain ⟨j, j1, j2, j3, j4⟩ := a1 n hn
        refine ⟨j, by simpa using j1, List.mem_cons_of_mem _ j2, j3, fun k hk hlt => ?_⟩
        rcases List.mem_cons.mp hk with rfl | hk
        · exact Nat.le_of_lt (hx j j2)
        · exact j4 k hk hlt
/-! the least couple -/
def lxC (a b : Int × Int) : Bool := decide (a.1 < b.1 ∨ (a.1 = b.1 ∧ a.2 < b.2))
theorem lt_cp (a b : Int × Int) : PySem.W.dataLt (cp a) (cp b) = lxC a b := PySem.W.dataLt_ii a.1 a.2 b.1 b.2
theorem min_cp (C : List (Int × Int)) : ∀ c : Int × Int, ∃ m, PySem.W.minD (cp c) (C.map cp) = cp m ∧ m ∈ c :: C ∧ ∀ x ∈ c :: C, lxC x m = false := by
  induction C with
  | nil =>
    intro c
    refine ⟨c, rfl, List.mem_cons_self, fun x hx => ?_⟩
    rw [List.mem_singleton.mp hx]
    simp [lxC]
  | cons y C ih =>
    intro c
    have e : PySem.W.minD (cp c) ((y :: C).map cp) = PySem.W.minD (cp (if lxC y c = true then y else c)) (C.map cp) := by
      unfold PySem.W.minD
      rw [List.map_cons, List.foldl_cons, lt_cp]
      split <;> rfl
    obtain ⟨m, h1, h2, h3⟩ := ih (if lxC y c = true then y else c)
    refine ⟨m, e.trans h1, ?_, fun x hx => ?_⟩
    · rcases List.mem_cons.mp h2 with rfl | h2
      · split
        · exact List.mem_cons_of_mem _ List.mem_cons_self
        · exact List.mem_cons_self
      · exact List.mem_cons_of_mem _ (List.mem_cons_of_mem _ h2)
    · have hm := h3 _ List.mem_cons_self
      rcases List.mem_cons.mp hx with rfl | hx
      · split at hm
        · rename_i hy
          simp only [lxC, decide_eq_true_eq, decide_eq_false_iff_not] at hy hm ⊢
          omega
        · exact hm
      · rcases List.mem_cons.mp hx with rfl | hx
        · split at hm
          · exact hm
          · rename_i hy
            simp only [lxC, decide_eq_true_eq, decide_eq_false_iff_not] at hy hm ⊢
            omega
        · exact h3 x (List.mem_cons_of_mem _ hx)
theorem gMin_cp {c : Int × Int} {C : List (Int × Int)} : ∃ m, gMin [.list ((c :: C).map cp)] = some (cp m) ∧ m ∈ c :: C ∧ ∀ x ∈ c :: C, lxC x m = false := by
  obtain ⟨m, h1, h2, h3⟩ := min_cp C c
  refine ⟨m, ?_, h2, h3⟩
  show (if minsB ((c :: C).map cp) = true then some (PySem.W.minD (cp c) (C.map cp)) else none) = _
  rw [if_pos, h1]
  unfold minsB alikesB
  simp only [Bool.and_eq_true, List.all_eq_true, decide_eq_true_eq]
  refine ⟨⟨?_, ?_⟩, depthAll_iff.mpr fun x hx => ?_⟩
  · intro x hx y hy
    obtain ⟨a, _, rfl⟩ := List.mem_map.mp hx
    obtain ⟨b, _, rfl⟩ := List.mem_map.mp hy
    simp [cp, PySem.W.alike, PySem.W.alikeAll]
  · intro x hx
    obtain ⟨a, _, rfl⟩ := List.mem_map.mp hx
    rfl
  · obtain ⟨a, _, rfl⟩ := List.mem_map.mp hx
    simp [cp, PyData.depth, PyData.depthAll]
/-- sorting couples -/
theorem srt_cp {α : Type} (L : List α) (f g : α → Int) : srt (L.map fun q => cp (f q, g q)) = (L.mergeSort fun a b => decide (f a < f b ∨ (f a = f b ∧ g a ≤ g b))).map fun q => cp (f q, g q) := by
  refine (List.map_mergeSort (f := fun q => cp (f q, g q)) (r := fun a b => decide (f a < f b ∨ (f a = f b ∧ g a ≤ g b))) (s := PySem.W.dataLe false id) (l := L) fun a _ b _ => ?_).symm
  exact (congrFun (congrFun (PySem.W.dataLe_ii (fun q : α => f q) fun q => g q) a) b).symm
end Gs

set_option Elab.async false
set_option linter.all false
set_option maxRecDepth 100000
set_option maxHeartbeats 4000000
namespace D06
open PySem PySem.Spec PyProof.Rows L2 Pg Dl Gs
variable {tb : Cell} {rest st s : Sto}
/-! ### with_due -/
theorem with_due_eq {F : List Tick} {p : Int} (hF : F.length ≤ 1000) (h : LOk F) : fWithDue [.d (.tuple (F.map tp)), .d (.int p)] st = some (.d (.tuple ((withP F p).map fun i : Nat => .int i)), st) := by
  refine eq_of (rf_of ?_)
  have i2 : (2 : Nat) ≤ sizeLine := by decide
  unfold gWithDue gWithDue_1 gWithDue_2
  simp only [r1_some, r2_some, r1_none, r_var, r_c, r_op, r_fz, r_bval, r_btru, r_band, r_bor, r_bnot, r_if, r_and, r_or, r_not, r_nil, r_cons, r_tup, r_lst, r_lstN, r_cb, r_is, r_call, r_neg, r_chain, r_ixC, ro_no, ro_some, r_sl, rt_nm, rs_next, rs_ret, rs_seq, rs_if, rs_asg, rs_asgT, rs_par, rt_nil, rt_cons, rt_tp, ri_data, ri_range1, ri_range2, ri_enum, r_comp, startD, look_d, looks_nil, looks_d, datas_nil, datas_d, tru_b, tru_i, List.length_cons, List.length_nil, List.getElem?_cons_zero, List.getElem?_cons_succ, List.set_cons_zero, List.set_cons_succ, Option.map_some, List.map_cons, List.map_nil, Nat.reduceAdd, Nat.reduceSub, Nat.reduceEqDiff, List.reduceReplicate, List.cons_append, List.nil_append, List.append_nil, true_and, and_true]
  refine r_enumD_ ?_
  simp only [r1_some, r2_some, r1_none, r_var, r_c, r_op, r_fz, r_bval, r_btru, r_band, r_bor, r_bnot, r_if, r_and, r_or, r_not, r_nil, r_cons, r_tup, r_lst, r_lstN, r_cb, r_is, r_call, r_neg, r_chain, r_ixC, ro_no, ro_some, r_sl, rt_nm, rs_next, rs_ret, rs_seq, rs_if, rs_asg, rs_asgT, rs_par, rt_nil, rt_cons, rt_tp, ri_data, ri_range1, ri_range2, ri_enum, r_comp, startD, look_d, looks_nil, looks_d, datas_nil, datas_d, tru_b, tru_i, List.length_cons, List.length_nil, List.getElem?_cons_zero, List.getElem?_cons_succ, List.set_cons_zero, List.set_cons_succ, Option.map_some, List.map_cons, List.map_nil, Nat.reduceAdd, Nat.reduceSub, Nat.reduceEqDiff, List.reduceReplicate, List.cons_append, List.nil_append, List.append_nil, true_and, and_true]
  refine ⟨_, .inr rfl, ?_⟩
  rw [Gs.enum_zip, comp_map (p := fun q => decide (p ∈ q.1.1)) (h := fun q => cp (0 - (q.1.1.length : Int), (q.2 : Int))) fun x hx => by
    simp only [wipeD, eV, tp, r1_some, r2_some, r1_none, r_var, r_c, r_op, r_fz, r_bval, r_btru, r_band, r_bor, r_bnot, r_if, r_and, r_or, r_not, r_nil, r_cons, r_tup, r_lst, r_lstN, r_cb, r_is, r_call, r_neg, r_chain, r_ixC, ro_no, ro_some, r_sl, rt_nm, rs_next, rs_ret, rs_seq, rs_if, rs_asg, rs_asgT, rs_par, rt_nil, rt_cons, rt_tp, ri_data, ri_range1, ri_range2, ri_enum, r_comp, startD, look_d, looks_nil, looks_d, datas_nil, datas_d, tru_b, tru_i, List.length_cons, List.length_nil, List.getElem?_cons_zero, List.getElem?_cons_succ, List.set_cons_zero, List.set_cons_succ, Option.map_some, List.map_cons, List.map_nil, Nat.reduceAdd, Nat.reduceSub, Nat.reduceEqDiff, List.reduceReplicate, List.cons_append, List.nil_append, List.append_nil, true_and, and_true, gIx_tuple, atI_zero, gIn_f]
    refine fun _ => ?_
    simp only [r1_some, r2_some, r1_none, r_var, r_c, r_op, r_fz, r_bval, r_btru, r_band, r_bor, r_bnot, r_if, r_and, r_or, r_not, r_nil, r_cons, r_tup, r_lst, r_lstN, r_cb, r_is, r_call, r_neg, r_chain, r_ixC, ro_no, ro_some, r_sl, rt_nm, rs_next, rs_ret, rs_seq, rs_if, rs_asg, rs_asgT, rs_par, rt_nil, rt_cons, rt_tp, ri_data, ri_range1, ri_range2, ri_enum, r_comp, startD, look_d, looks_nil, looks_d, datas_nil, datas_d, tru_b, tru_i, List.length_cons, List.length_nil, List.getElem?_cons_zero, List.getElem?_cons_succ, List.set_cons_zero, List.set_cons_succ, Option.map_some, List.map_cons, List.map_nil, Nat.reduceAdd, Nat.reduceSub, Nat.reduceEqDiff, List.reduceReplicate, List.cons_append, List.nil_append, List.append_nil, true_and, and_true, gIx_tuple, atI_zero, gLen_tuple, List.length_map, gSub_int, i2]
    rfl]
  obtain ⟨L, hL⟩ : ∃ L, F.zipIdx.filter (fun q => decide (p ∈ q.1.1)) = L := ⟨_, rfl⟩
  have hlen : L.length ≤ 1000 := by
    rw [← hL]
    refine Nat.le_trans (List.length_filter_le _ _) ?_
    rw [List.length_zipIdx]
    exact hF
  have hLi : L.map (·.2) = idxP F p := by rw [← hL]; rfl
  have hLm : ∀ q ∈ L, F[q.2]? = some q.1 := fun q hq => by
    rw [← hL] at hq
    exact List.mem_zipIdx_iff_getElem?.mp (List.mem_filter.mp hq).1
  rw [hL]
  simp only [r2_some, datas_map, r1_some, r2_some, r1_none, r_var, r_c, r_op, r_fz, r_bval, r_btru, r_band, r_bor, r_bnot, r_if, r_and, r_or, r_not, r_nil, r_cons, r_tup, r_lst, r_lstN, r_cb, r_is, r_call, r_neg, r_chain, r_ixC, ro_no, ro_some, r_sl, rt_nm, rs_next, rs_ret, rs_seq, rs_if, rs_asg, rs_asgT, rs_par, rt_nil, rt_cons, rt_tp, ri_data, ri_range1, ri_range2, ri_enum, r_comp, startD, look_d, looks_nil, looks_d, datas_nil, datas_d, tru_b, tru_i, List.length_cons, List.length_nil, List.getElem?_cons_zero, List.getElem?_cons_succ, List.set_cons_zero, List.set_cons_succ, Option.map_some, List.map_cons, List.map_nil, Nat.reduceAdd, Nat.reduceSub, Nat.reduceEqDiff, List.reduceReplicate, List.cons_append, List.nil_append, List.append_nil, true_and, and_true]
  refine ⟨by rw [List.length_map]; omega, ?_⟩
  have sb : sortsB (L.map fun q => cp (0 - (q.1.1.length : Int), (q.2 : Int))) = true := by
    have := sorts_cp (M := L.map fun q => (0 - (q.1.1.length : Int), (q.2 : Int))) (by rw [List.length_map]; exact hlen)
    rw [List.map_map] at this
    exact this
  have sl : gSorted [.list (L.map fun q => cp (0 - (q.1.1.length : Int), (q.2 : Int)))] = some (.list (srt (L.map fun q => cp (0 - (q.1.1.length : Int), (q.2 : Int))))) := if_pos sb
  rw [sl, r1_some, srt_cp]
  simp only [r1_some, r2_some, r1_none, r_var, r_c, r_op, r_fz, r_bval, r_btru, r_band, r_bor, r_bnot, r_if, r_and, r_or, r_not, r_nil, r_cons, r_tup, r_lst, r_lstN, r_cb, r_is, r_call, r_neg, r_chain, r_ixC, ro_no, ro_some, r_sl, rt_nm, rs_next, rs_ret, rs_seq, rs_if, rs_asg, rs_asgT, rs_par, rt_nil, rt_cons, rt_tp, ri_data, ri_range1, ri_range2, ri_enum, r_comp, startD, look_d, looks_nil, looks_d, datas_nil, datas_d, tru_b, tru_i, List.length_cons, List.length_nil, List.getElem?_cons_zero, List.getElem?_cons_succ, List.set_cons_zero, List.set_cons_succ, Option.map_some, List.map_cons, List.map_nil, Nat.reduceAdd, Nat.reduceSub, Nat.reduceEqDiff, List.reduceReplicate, List.cons_append, List.nil_append, List.append_nil, true_and, and_true]
  obtain ⟨M, hM⟩ : ∃ M, L.mergeSort (fun a b => decide (0 - (a.1.1.length : Int) < 0 - (b.1.1.length : Int) ∨ (0 - (a.1.1.length : Int) = 0 - (b.1.1.length : Int) ∧ (a.2 : Int) ≤ (b.2 : Int)))) = M := ⟨_, rfl⟩
  rw [hM, List.map_map, comp_map1 (L := M) (f := Vd.d ∘ fun q : Tick × Nat => cp (0 - (q.1.1.length : Int), (q.2 : Int))) (h := fun q => .int q.2) fun x hx => by
    simp only [Function.comp, wipeD, cp, r1_some, r2_some, r1_none, r_var, r_c, r_op, r_fz, r_bval, r_btru, r_band, r_bor, r_bnot, r_if, r_and, r_or, r_not, r_nil, r_cons, r_tup, r_lst, r_lstN, r_cb, r_is, r_call, r_neg, r_chain, r_ixC, ro_no, ro_some, r_sl, rt_nm, rs_next, rs_ret, rs_seq, rs_if, rs_asg, rs_asgT, rs_par, rt_nil, rt_cons, rt_tp, ri_data, ri_range1, ri_range2, ri_enum, r_comp, startD, look_d, looks_nil, looks_d, datas_nil, datas_d, tru_b, tru_i, List.length_cons, List.length_nil, List.getElem?_cons_zero, List.getElem?_cons_succ, List.set_cons_zero, List.set_cons_succ, Option.map_some, List.map_cons, List.map_nil, Nat.reduceAdd, Nat.reduceSub, Nat.reduceEqDiff, List.reduceReplicate, List.cons_append, List.nil_append, List.append_nil, true_and, and_true, gIx_tuple]
    rw [show atI [PyData.int (0 - (x.1.1.length : Int)), .int (x.2 : Int)] 1 = some (.int x.2) from atI_nat_ _ 1, r1_some]
    exact ⟨rfl, rfl⟩]
  simp only [r2_some, datas_map, r1_some, r2_some, r1_none, r_var, r_c, r_op, r_fz, r_bval, r_btru, r_band, r_bor, r_bnot, r_if, r_and, r_or, r_not, r_nil, r_cons, r_tup, r_lst, r_lstN, r_cb, r_is, r_call, r_neg, r_chain, r_ixC, ro_no, ro_some, r_sl, rt_nm, rs_next, rs_ret, rs_seq, rs_if, rs_asg, rs_asgT, rs_par, rt_nil, rt_cons, rt_tp, ri_data, ri_range1, ri_range2, ri_enum, r_comp, startD, look_d, looks_nil, looks_d, datas_nil, datas_d, tru_b, tru_i, List.length_cons, List.length_nil, List.getElem?_cons_zero, List.getElem?_cons_succ, List.set_cons_zero, List.set_cons_succ, Option.map_some, List.map_cons, List.map_nil, Nat.reduceAdd, Nat.reduceSub, Nat.reduceEqDiff, List.reduceReplicate, List.cons_append, List.nil_append, List.append_nil, true_and, and_true, gTupleOf]
  have hMp : M.Perm L := by rw [← hM]; exact List.mergeSort_perm _ _
  refine ⟨by rw [List.length_map, hMp.length_eq]; omega, Nat.le_refl _, ?_⟩
  have e : M.map (·.2) = withP F p := by
    refine desc_uniq (F := F) ?_ (desc_of h ((hMp.map _).trans (by rw [hLi])) ?_) (withP_desc h)
    · exact ((hMp.map _).trans (by rw [hLi])).trans withP_perm.symm
    · have hs := List.pairwise_mergeSort (le := fun a b : Tick × Nat => decide (0 - (a.1.1.length : Int) < 0 - (b.1.1.length : Int) ∨ (0 - (a.1.1.length : Int) = 0 - (b.1.1.length : Int) ∧ (a.2 : Int) ≤ (b.2 : Int))))
        (fun a b c h1 h2 => by simp only [decide_eq_true_eq] at *; omega) (fun a b => by simp only [Bool.or_eq_true, decide_eq_true_eq]; omega) L
      rw [hM] at hs
      rw [List.pairwise_map]
      refine List.Pairwise.imp_of_mem (fun {a b} ha hb hab => ?_) hs
      have ea := hLm a (hMp.mem_iff.mp ha)
      have eb := hLm b (hMp.mem_iff.mp hb)
      simp only [decide_eq_true_eq] at hab
      unfold lenAt
      rw [ea, eb]
      simp only
      omega
  rw [← e, List.map_map]
  rfl
/-! ### arounds -/
def headP (F : List Tick) (i : Nat) : Int := match F[i]? with
  | some t => t.1.headD 0
  | none => 0
def arP (F : List Tick) (i : Nat) : PyData := match (withP F (headP F i)).idxOf i with
  | 0 => .none
  | n + 1 => .int ((withP F (headP F i)).getD n 0 : Nat)
theorem intsT_map (l : List Nat) : intsT (l.map fun i : Nat => PyData.int i) = some (l.map fun i : Nat => (i : Int)) := by
  induction l with
  | nil => rfl
  | cons x l ih => simp [intsT, ih]
theorem idxOf_cast (l : List Nat) (i : Nat) : (l.map fun i : Nat => (i : Int)).idxOf (i : Int) = l.idxOf i := by
  induction l with
  | nil => rfl
  | cons x l ih =>
    rw [List.map_cons, List.idxOf_cons, List.idxOf_cons, ih]
    have : ((x : Int) == (i : Int)) = (x == i) := by
      rw [Bool.eq_iff_iff]
      simp only [beq_iff_eq]
      omega
    rw [this]
theorem head_at {F : List Tick} (h : LOk F) {i : Nat} {t : Tick} (hi : F[i]? = some t) : headP F i ∈ t.1 ∧ gIx (.tuple (t.1.map .int)) (.int 0) = some (.int (headP F i)) := by
  have h0 := h.ne t (List.mem_of_getElem? hi)
  unfold headP
  rw [hi]
  simp only
  cases ht : t.1 with
  | nil => exact absurd ht h0
  | cons x l =>
    refine ⟨List.mem_cons_self, ?_⟩
    rw [gIx_tuple]
    exact atI_zero _ _
theorem around_at_eq {P : Addr} {F : List Tick} {i : Nat} (hF : F.length ≤ 1000) (hl : ∀ t ∈ F, t.1.length ≤ 1000) (h : LOk F) (hi : i < F.length) (ht : Cell.tbl P lamQ ∈ st) :
    fPAroundAt (fPTicketsWith P) [.d (.tuple (F.map tp)), .d (.int i)] st = some (.d (arP F i), st) := by
  refine eq_of (rf_of ?_)
  have ei : F[i]? = some F[i] := List.getElem?_eq_getElem hi
  obtain ⟨h1, h2⟩ := head_at h ei
  have e1 : gIx (.tuple (F.map tp)) (.int i) = some (tp F[i]) := by rw [gIx_tuple, atI_nat_, List.getElem?_map, ei]; rfl
  have e2 : gIx (tp F[i]) (.int 0) = some (.tuple (F[i].1.map .int)) := by unfold tp; rw [gIx_tuple]; exact atI_zero _ _
  have hm : i ∈ withP F (headP F i) := withP_perm.mem_iff.mpr (idxP_mem.mpr ⟨_, ei, h1⟩)
  have hlen : (withP F (headP F i)).length ≤ 1000 := by
    rw [with_len]
    exact Nat.le_trans (List.length_filter_le _ _) hF
  unfold gPAroundAt gPAroundAt_1 gPAroundAt_2 gPAroundAt_3
  simp only [r1_some, r2_some, r1_none, r_var, r_c, r_op, r_fz, r_bval, r_btru, r_band, r_bor, r_bnot, r_if, r_and, r_or, r_not, r_nil, r_cons, r_tup, r_lst, r_lstN, r_cb, r_is, r_call, r_neg, r_chain, r_ixC, ro_no, ro_some, r_sl, rt_nm, rs_next, rs_ret, rs_seq, rs_if, rs_asg, rs_asgT, rs_par, rt_nil, rt_cons, rt_tp, ri_data, ri_range1, ri_range2, ri_enum, r_comp, startD, look_d, looks_nil, looks_d, datas_nil, datas_d, tru_b, tru_i, List.length_cons, List.length_nil, List.getElem?_cons_zero, List.getElem?_cons_succ, List.set_cons_zero, List.set_cons_succ, Option.map_some, List.map_cons, List.map_nil, Nat.reduceAdd, Nat.reduceSub, Nat.reduceEqDiff, List.reduceReplicate, List.cons_append, List.nil_append, List.append_nil, true_and, and_true, e1, e2, h2]
  rw [tickets_eq hF hl ht]
  simp only [r2_some, rt_nm, r1_some, List.set_cons_zero, List.set_cons_succ, rs_seq, rs_asg]
  refine ⟨.d (.int ((withP F (headP F i)).idxOf i : Nat)), st, ?_, ?_⟩
  · unfold eIdxT
    simp only [eVar, List.getElem?_cons_zero, List.getElem?_cons_succ, intsT_map]
    rw [if_pos (List.mem_map.mpr ⟨i, hm, rfl⟩), idxOf_cast]
  · simp only [r1_some, r2_some, r1_none, r_var, r_c, r_op, r_fz, r_bval, r_btru, r_band, r_bor, r_bnot, r_if, r_and, r_or, r_not, r_nil, r_cons, r_tup, r_lst, r_lstN, r_cb, r_is, r_call, r_neg, r_chain, r_ixC, ro_no, ro_some, r_sl, rt_nm, rs_next, rs_ret, rs_seq, rs_if, rs_asg, rs_asgT, rs_par, rt_nil, rt_cons, rt_tp, ri_data, ri_range1, ri_range2, ri_enum, r_comp, startD, look_d, looks_nil, looks_d, datas_nil, datas_d, tru_b, tru_i, List.length_cons, List.length_nil, List.getElem?_cons_zero, List.getElem?_cons_succ, List.set_cons_zero, List.set_cons_succ, Option.map_some, List.map_cons, List.map_nil, Nat.reduceAdd, Nat.reduceSub, Nat.reduceEqDiff, List.reduceReplicate, List.cons_append, List.nil_append, List.append_nil, true_and, and_true, gEq_int]
    unfold arP
    cases hn : (withP F (headP F i)).idxOf i with
    | zero =>
      simp
    | succ n =>
      have e0 : decide (((n + 1 : Nat) : Int) = 0) = false := decide_eq_false (by omega)
      simp only [e0]
      refine ⟨.d (.tuple ((withP F (headP F i)).map fun i : Nat => .int i)), st, by unfold eD eVar; rfl, ?_⟩
      have e3 : (((n + 1 : Nat) : Int) - 1) = ((n : Nat) : Int) := by omega
      simp only [r1_some, r2_some, r1_none, r_var, r_c, r_op, r_fz, r_bval, r_btru, r_band, r_bor, r_bnot, r_if, r_and, r_or, r_not, r_nil, r_cons, r_tup, r_lst, r_lstN, r_cb, r_is, r_call, r_neg, r_chain, r_ixC, ro_no, ro_some, r_sl, rt_nm, rs_next, rs_ret, rs_seq, rs_if, rs_asg, rs_asgT, rs_par, rt_nil, rt_cons, rt_tp, ri_data, ri_range1, ri_range2, ri_enum, r_comp, startD, look_d, looks_nil, looks_d, datas_nil, datas_d, tru_b, tru_i, List.length_cons, List.length_nil, List.getElem?_cons_zero, List.getElem?_cons_succ, List.set_cons_zero, List.set_cons_succ, Option.map_some, List.map_cons, List.map_nil, Nat.reduceAdd, Nat.reduceSub, Nat.reduceEqDiff, List.reduceReplicate, List.cons_append, List.nil_append, List.append_nil, true_and, and_true, gSub_int, e3]
      obtain ⟨j, j1, _⟩ := (desc_before (withP_desc h) hm).2 n hn
      rw [gIx_tuple, atI_nat_, List.getElem?_map, j1]
      simp only [Option.map_some, r1_some, r2_some, r1_none, r_var, r_c, r_op, r_fz, r_bval, r_btru, r_band, r_bor, r_bnot, r_if, r_and, r_or, r_not, r_nil, r_cons, r_tup, r_lst, r_lstN, r_cb, r_is, r_call, r_neg, r_chain, r_ixC, ro_no, ro_some, r_sl, rt_nm, rs_next, rs_ret, rs_seq, rs_if, rs_asg, rs_asgT, rs_par, rt_nil, rt_cons, rt_tp, ri_data, ri_range1, ri_range2, ri_enum, r_comp, startD, look_d, looks_nil, looks_d, datas_nil, datas_d, tru_b, tru_i, List.length_cons, List.length_nil, List.getElem?_cons_zero, List.getElem?_cons_succ, List.set_cons_zero, List.set_cons_succ, Option.map_some, List.map_cons, List.map_nil, Nat.reduceAdd, Nat.reduceSub, Nat.reduceEqDiff, List.reduceReplicate, List.cons_append, List.nil_append, List.append_nil, true_and, and_true]
      refine ⟨Nat.le_refl _, ?_⟩
      rw [List.getD_eq_getElem?_getD, j1]
      rfl
theorem arounds_eq {P : Addr} {F : List Tick} (hF : F.length ≤ 1000) (hl : ∀ t ∈ F, t.1.length ≤ 1000) (h : LOk F) (ht : Cell.tbl P lamQ ∈ st) :
    fPArounds (fPAroundAt (fPTicketsWith P)) [.d (.tuple (F.map tp))] st = some (.d (.tuple ((List.range F.length).map (arP F))), st) := by
  refine eq_of (rf_of ?_)
  unfold gPArounds
  simp only [r1_some, r2_some, r1_none, r_var, r_c, r_op, r_fz, r_bval, r_btru, r_band, r_bor, r_bnot, r_if, r_and, r_or, r_not, r_nil, r_cons, r_tup, r_lst, r_lstN, r_cb, r_is, r_call, r_neg, r_chain, r_ixC, ro_no, ro_some, r_sl, rt_nm, rs_next, rs_ret, rs_seq, rs_if, rs_asg, rs_asgT, rs_par, rt_nil, rt_cons, rt_tp, ri_data, ri_range1, ri_range2, ri_enum, r_comp, startD, look_d, looks_nil, looks_d, datas_nil, datas_d, tru_b, tru_i, List.length_cons, List.length_nil, List.getElem?_cons_zero, List.getElem?_cons_succ, List.set_cons_zero, List.set_cons_succ, Option.map_some, List.map_cons, List.map_nil, Nat.reduceAdd, Nat.reduceSub, Nat.reduceEqDiff, List.reduceReplicate, List.cons_append, List.nil_append, List.append_nil, true_and, and_true, gLen_tuple, List.length_map]
  refine ⟨by omega, by omega, ?_⟩
  rw [comp_map1 (h := arP F) fun k hk => by
    have hk' : k < F.length := by simpa using List.mem_range.mp hk
    simp only [wipeD, Dl.vInt, Int.zero_add, r1_some, r2_some, r1_none, r_var, r_c, r_op, r_fz, r_bval, r_btru, r_band, r_bor, r_bnot, r_if, r_and, r_or, r_not, r_nil, r_cons, r_tup, r_lst, r_lstN, r_cb, r_is, r_call, r_neg, r_chain, r_ixC, ro_no, ro_some, r_sl, rt_nm, rs_next, rs_ret, rs_seq, rs_if, rs_asg, rs_asgT, rs_par, rt_nil, rt_cons, rt_tp, ri_data, ri_range1, ri_range2, ri_enum, r_comp, startD, look_d, looks_nil, looks_d, datas_nil, datas_d, tru_b, tru_i, List.length_cons, List.length_nil, List.getElem?_cons_zero, List.getElem?_cons_succ, List.set_cons_zero, List.set_cons_succ, Option.map_some, List.map_cons, List.map_nil, Nat.reduceAdd, Nat.reduceSub, Nat.reduceEqDiff, List.reduceReplicate, List.cons_append, List.nil_append, List.append_nil, true_and, and_true]
    rw [around_at_eq hF hl h hk' ht]
    simp only [r2_some]
    trivial]
  simp only [r2_some, datas_map, r1_some, r2_some, r1_none, r_var, r_c, r_op, r_fz, r_bval, r_btru, r_band, r_bor, r_bnot, r_if, r_and, r_or, r_not, r_nil, r_cons, r_tup, r_lst, r_lstN, r_cb, r_is, r_call, r_neg, r_chain, r_ixC, ro_no, ro_some, r_sl, rt_nm, rs_next, rs_ret, rs_seq, rs_if, rs_asg, rs_asgT, rs_par, rt_nil, rt_cons, rt_tp, ri_data, ri_range1, ri_range2, ri_enum, r_comp, startD, look_d, looks_nil, looks_d, datas_nil, datas_d, tru_b, tru_i, List.length_cons, List.length_nil, List.getElem?_cons_zero, List.getElem?_cons_succ, List.set_cons_zero, List.set_cons_succ, Option.map_some, List.map_cons, List.map_nil, Nat.reduceAdd, Nat.reduceSub, Nat.reduceEqDiff, List.reduceReplicate, List.cons_append, List.nil_append, List.append_nil, true_and, and_true, gTupleOf, Int.toNat_natCast]
  refine ⟨by simp; omega, ?_⟩
  simp
end D06

set_option Elab.async false
set_option linter.all false
set_option maxRecDepth 100000
set_option maxHeartbeats 4000000
namespace D06
open PySem PySem.Spec PyProof.Rows L2 Pg Dl Gs
variable {tb : Cell} {rest st s : Sto}
theorem r_app_ {a b : EF} {ρ : Dl.Env} {Q : Vd → Sto → Prop} (h : R2 (a ρ st) fun v s1 => ∃ n l, v = .r n ∧ s1[n]? = some (.lst l) ∧ R2 (b ρ s1) fun w s2 => ∃ xs, s2[n]? = some (.lst xs) ∧ xs.length < 16000000 ∧ Q (.d .none) (s2.set n (.lst (xs ++ [w])))) : R2 (eApp a b ρ st) Q := by
  obtain ⟨_, s1, e1, n, l, rfl, e2, w, s2, e3, xs, e4, h1, q⟩ := h
  exact ⟨_, _, by unfold eApp; simp only [e1, e2, e3, e4]; exact if_pos h1, q⟩
/-- the tickets around the one at i -/
def outP (F : List Tick) (t : Tick) (p : Int) : List (Tick × Nat) := F.zipIdx.filter fun q => decide (t.1.length < q.1.1.length) && decide (p ∈ q.1.1)
theorem out_mem {F : List Tick} {t : Tick} {p : Int} {q : Tick × Nat} : q ∈ outP F t p ↔ F[q.2]? = some q.1 ∧ t.1.length < q.1.1.length ∧ p ∈ q.1.1 := by
  unfold outP
  simp only [List.mem_filter, Bool.and_eq_true, decide_eq_true_eq]
  rw [List.mem_zipIdx_iff_getElem?]
/-- the least of those around is the place ahead -/
theorem out_due {F : List Tick} (h : LOk F) {i : Nat} {t : Tick} (hi : F[i]? = some t) :
    (outP F t (headP F i) = [] → arP F i = .none) ∧ ∀ c C, (outP F t (headP F i)).map (fun q => ((q.1.1.length : Int), (q.2 : Int))) = c :: C → ∀ m, m ∈ c :: C → (∀ x ∈ c :: C, lxC x m = false) → arP F i = .int m.2 := by
  obtain ⟨h1, _⟩ := head_at h hi
  have hm : i ∈ withP F (headP F i) := withP_perm.mem_iff.mpr (idxP_mem.mpr ⟨_, hi, h1⟩)
  have li : lenAt F i = t.1.length := by unfold lenAt; rw [hi]
  have inO : ∀ j, j ∈ withP F (headP F i) → lenAt F i < lenAt F j → ∃ u, (u, j) ∈ outP F t (headP F i) ∧ u.1.length = lenAt F j := fun j hj hlt => by
    obtain ⟨u, uj, up⟩ := idxP_mem.mp (withP_perm.mem_iff.mp hj)
    have lj : lenAt F j = u.1.length := by unfold lenAt; rw [uj]
    exact ⟨u, out_mem.mpr ⟨uj, by show t.1.length < u.1.length; omega, up⟩, lj.symm⟩
  have ofO : ∀ q ∈ outP F t (headP F i), q.2 ∈ withP F (headP F i) ∧ lenAt F i < lenAt F q.2 ∧ lenAt F q.2 = q.1.1.length := fun q hq => by
    obtain ⟨a, b, c⟩ := out_mem.mp hq
    have lq : lenAt F q.2 = q.1.1.length := by unfold lenAt; rw [a]
    exact ⟨withP_perm.mem_iff.mpr (idxP_mem.mpr ⟨_, a, c⟩), by omega, lq⟩
  obtain ⟨d0, d1⟩ := desc_before (withP_desc h) hm
  constructor
  · intro he
    unfold arP
    cases hn : (withP F (headP F i)).idxOf i with
    | zero => rfl
    | succ n =>
      obtain ⟨j, j1, j2, j3, j4⟩ := d1 n hn
      obtain ⟨u, hu, _⟩ := inO j j2 j3
      rw [he] at hu
      exact nomatch hu
  · intro c C hC m hm2 hmin
    rw [← hC] at hm2 hmin
    obtain ⟨q, hq, eq⟩ := List.mem_map.mp hm2
    obtain ⟨q1, q2, q3⟩ := ofO q hq
    unfold arP
    cases hn : (withP F (headP F i)).idxOf i with
    | zero =>
      have := d0 hn q.2 q1
      omega
    | succ n =>
      obtain ⟨j, j1, j2, j3, j4⟩ := d1 n hn
      obtain ⟨u, hu, hul⟩ := inO j j2 j3
      have e1 := j4 q.2 q1 q2
      have e2 := hmin _ (List.mem_map.mpr ⟨(u, j), hu, rfl⟩)
      rw [← eq] at e2
      simp only [lxC, decide_eq_false_iff_not] at e2
      have el : lenAt F j = lenAt F q.2 := by omega
      have ej := len_inj h (withP_perm.mem_iff.mp j2) (withP_perm.mem_iff.mp q1) el
      simp only
      rw [List.getD_eq_getElem?_getD, j1, ← eq, ej]
      rfl
theorem arounds_due_eq {F : List Tick} (hF : F.length ≤ 1000) (h : LOk F) (hc : Clo st.length st) : fAroundsDue [.d (.tuple (F.map tp))] st = some (.d (.tuple ((List.range F.length).map (arP F))), st) := by
  refine eq_of (rf_cut ?_)
  have i0 : (0 : Nat) ≤ sizeLine := by decide
  have i2 : (2 : Nat) ≤ sizeLine := by decide
  unfold gAroundsDue gAroundsDue_1 gAroundsDue_2 gAroundsDue_3
  simp only [r1_some, r2_some, r1_none, r_var, r_c, r_op, r_fz, r_bval, r_btru, r_band, r_bor, r_bnot, r_if, r_and, r_or, r_not, r_nil, r_cons, r_tup, r_lst, r_lstN, r_cb, r_is, r_call, r_neg, r_chain, r_ixC, ro_no, ro_some, r_sl, rt_nm, rs_next, rs_ret, rs_seq, rs_if, rs_asg, rs_asgT, rs_par, rt_nil, rt_cons, rt_tp, ri_data, ri_range1, ri_range2, ri_enum, r_comp, startD, look_d, looks_nil, looks_d, datas_nil, datas_d, tru_b, tru_i, List.length_cons, List.length_nil, List.getElem?_cons_zero, List.getElem?_cons_succ, List.set_cons_zero, List.set_cons_succ, Option.map_some, List.map_cons, List.map_nil, Nat.reduceAdd, Nat.reduceSub, Nat.reduceEqDiff, List.reduceReplicate, List.cons_append, List.nil_append, List.append_nil, true_and, and_true, i0]
  rw [rs_for]
  simp only [r1_some, r2_some, r1_none, r_var, r_c, r_op, r_fz, r_bval, r_btru, r_band, r_bor, r_bnot, r_if, r_and, r_or, r_not, r_nil, r_cons, r_tup, r_lst, r_lstN, r_cb, r_is, r_call, r_neg, r_chain, r_ixC, ro_no, ro_some, r_sl, rt_nm, rs_next, rs_ret, rs_seq, rs_if, rs_asg, rs_asgT, rs_par, rt_nil, rt_cons, rt_tp, ri_data, ri_range1, ri_range2, ri_enum, r_comp, startD, look_d, looks_nil, looks_d, datas_nil, datas_d, tru_b, tru_i, List.length_cons, List.length_nil, List.getElem?_cons_zero, List.getElem?_cons_succ, List.set_cons_zero, List.set_cons_succ, Option.map_some, List.map_cons, List.map_nil, Nat.reduceAdd, Nat.reduceSub, Nat.reduceEqDiff, List.reduceReplicate, List.cons_append, List.nil_append, List.append_nil, true_and, and_true]
  rw [map_tp]
  refine (for_go (E := fun _ _ => False) (I := fun vs ρ s => ∃ (f0 f1 : List Tick) (w2 w3 w4 w5 w6 : Option Vd), vs = f1.map fT ∧ f0 ++ f1 = F ∧ s = st ++ [.lst (((List.range f0.length).map (arP F)).map .d)] ∧ ρ = [some (.d (.tuple (F.map tp))), some (.r st.length), w2, w3, w4, w5, w6]) (fun v vs ρ s hI => ?_)
    ⟨[], F, none, none, none, none, none, rfl, rfl, rfl, rfl⟩).mono fun o ho => ?_
  · obtain ⟨f0, f1, w2, w3, w4, w5, w6, hv, hf, rfl, rfl⟩ := hI
    cases f1 with
    | nil => cases hv
    | cons t f1 =>
      obtain ⟨rfl, rfl⟩ := List.cons.inj hv
      have hi : F[f0.length]? = some t := by rw [← hf]; simp
      obtain ⟨h1, h2⟩ := head_at h hi
      have hl : f0.length ≤ 1000 := by
        have := congrArg List.length hf
        rw [List.length_append] at this
        omega
      obtain ⟨d0, d1⟩ := out_due h hi
      simp only [fT, tp, r1_some, r2_some, r1_none, r_var, r_c, r_op, r_fz, r_bval, r_btru, r_band, r_bor, r_bnot, r_if, r_and, r_or, r_not, r_nil, r_cons, r_tup, r_lst, r_lstN, r_cb, r_is, r_call, r_neg, r_chain, r_ixC, ro_no, ro_some, r_sl, rt_nm, rs_next, rs_ret, rs_seq, rs_if, rs_asg, rs_asgT, rs_par, rt_nil, rt_cons, rt_tp, ri_data, ri_range1, ri_range2, ri_enum, r_comp, startD, look_d, looks_nil, looks_d, datas_nil, datas_d, tru_b, tru_i, List.length_cons, List.length_nil, List.getElem?_cons_zero, List.getElem?_cons_succ, List.set_cons_zero, List.set_cons_succ, Option.map_some, List.map_cons, List.map_nil, Nat.reduceAdd, Nat.reduceSub, Nat.reduceEqDiff, List.reduceReplicate, List.cons_append, List.nil_append, List.append_nil, true_and, and_true]
      refine r_enumD_ ?_
      simp only [r1_some, r2_some, r1_none, r_var, r_c, r_op, r_fz, r_bval, r_btru, r_band, r_bor, r_bnot, r_if, r_and, r_or, r_not, r_nil, r_cons, r_tup, r_lst, r_lstN, r_cb, r_is, r_call, r_neg, r_chain, r_ixC, ro_no, ro_some, r_sl, rt_nm, rs_next, rs_ret, rs_seq, rs_if, rs_asg, rs_asgT, rs_par, rt_nil, rt_cons, rt_tp, ri_data, ri_range1, ri_range2, ri_enum, r_comp, startD, look_d, looks_nil, looks_d, datas_nil, datas_d, tru_b, tru_i, List.length_cons, List.length_nil, List.getElem?_cons_zero, List.getElem?_cons_succ, List.set_cons_zero, List.set_cons_succ, Option.map_some, List.map_cons, List.map_nil, Nat.reduceAdd, Nat.reduceSub, Nat.reduceEqDiff, List.reduceReplicate, List.cons_append, List.nil_append, List.append_nil, true_and, and_true]
      refine ⟨_, .inr rfl, ?_⟩
      rw [Gs.enum_zip, comp_map (p := fun q => decide (t.1.length < q.1.1.length) && decide (headP F f0.length ∈ q.1.1)) (h := fun q => cp ((q.1.1.length : Int), (q.2 : Int))) fun x hx => by
        simp only [wipeD, eV, tp, r1_some, r2_some, r1_none, r_var, r_c, r_op, r_fz, r_bval, r_btru, r_band, r_bor, r_bnot, r_if, r_and, r_or, r_not, r_nil, r_cons, r_tup, r_lst, r_lstN, r_cb, r_is, r_call, r_neg, r_chain, r_ixC, ro_no, ro_some, r_sl, rt_nm, rs_next, rs_ret, rs_seq, rs_if, rs_asg, rs_asgT, rs_par, rt_nil, rt_cons, rt_tp, ri_data, ri_range1, ri_range2, ri_enum, r_comp, startD, look_d, looks_nil, looks_d, datas_nil, datas_d, tru_b, tru_i, List.length_cons, List.length_nil, List.getElem?_cons_zero, List.getElem?_cons_succ, List.set_cons_zero, List.set_cons_succ, Option.map_some, List.map_cons, List.map_nil, Nat.reduceAdd, Nat.reduceSub, Nat.reduceEqDiff, List.reduceReplicate, List.cons_append, List.nil_append, List.append_nil, true_and, and_true, gIx_tuple, atI_zero, gLen_tuple, List.length_map]
        rw [Gs.gt_int, r1_some]
        have ec : decide ((t.1.length : Int) < (x.1.1.length : Int)) = decide (t.1.length < x.1.1.length) := by rw [decide_eq_decide]; omega
        rw [ec]
        rw [gIx_tuple] at h2
        cases hd : decide (t.1.length < x.1.1.length) with
        | false =>
          simp
        | true =>
          simp only [r1_some, r2_some, r1_none, r_var, r_c, r_op, r_fz, r_bval, r_btru, r_band, r_bor, r_bnot, r_if, r_and, r_or, r_not, r_nil, r_cons, r_tup, r_lst, r_lstN, r_cb, r_is, r_call, r_neg, r_chain, r_ixC, ro_no, ro_some, r_sl, rt_nm, rs_next, rs_ret, rs_seq, rs_if, rs_asg, rs_asgT, rs_par, rt_nil, rt_cons, rt_tp, ri_data, ri_range1, ri_range2, ri_enum, r_comp, startD, look_d, looks_nil, looks_d, datas_nil, datas_d, tru_b, tru_i, List.length_cons, List.length_nil, List.getElem?_cons_zero, List.getElem?_cons_succ, List.set_cons_zero, List.set_cons_succ, Option.map_some, List.map_cons, List.map_nil, Nat.reduceAdd, Nat.reduceSub, Nat.reduceEqDiff, List.reduceReplicate, List.cons_append, List.nil_append, List.append_nil, true_and, and_true, h2, gIn_f, Bool.true_and, gLen_tuple, List.length_map, gIx_tuple, atI_zero, i2]
          exact fun _ => rfl]
      obtain ⟨O, hO⟩ : ∃ O, F.zipIdx.filter (fun q => decide (t.1.length < q.1.1.length) && decide (headP F f0.length ∈ q.1.1)) = O := ⟨_, rfl⟩
      have hOe : outP F t (headP F f0.length) = O := hO
      rw [hOe] at d0 d1
      have hOl : O.length ≤ 1000 := by
        rw [← hO]
        refine Nat.le_trans (List.length_filter_le _ _) ?_
        rw [List.length_zipIdx]
        exact hF
      rw [hO]
      simp only [r2_some, datas_map, r1_some, r2_some, r1_none, r_var, r_c, r_op, r_fz, r_bval, r_btru, r_band, r_bor, r_bnot, r_if, r_and, r_or, r_not, r_nil, r_cons, r_tup, r_lst, r_lstN, r_cb, r_is, r_call, r_neg, r_chain, r_ixC, ro_no, ro_some, r_sl, rt_nm, rs_next, rs_ret, rs_seq, rs_if, rs_asg, rs_asgT, rs_par, rt_nil, rt_cons, rt_tp, ri_data, ri_range1, ri_range2, ri_enum, r_comp, startD, look_d, looks_nil, looks_d, datas_nil, datas_d, tru_b, tru_i, List.length_cons, List.length_nil, List.getElem?_cons_zero, List.getElem?_cons_succ, List.set_cons_zero, List.set_cons_succ, Option.map_some, List.map_cons, List.map_nil, Nat.reduceAdd, Nat.reduceSub, Nat.reduceEqDiff, List.reduceReplicate, List.cons_append, List.nil_append, List.append_nil, true_and, and_true, rs_drop]
      refine ⟨by rw [List.length_map]; omega, ?_⟩
      refine r_app_ ?_
      simp only [r1_some, r2_some, r1_none, r_var, r_c, r_op, r_fz, r_bval, r_btru, r_band, r_bor, r_bnot, r_if, r_and, r_or, r_not, r_nil, r_cons, r_tup, r_lst, r_lstN, r_cb, r_is, r_call, r_neg, r_chain, r_ixC, ro_no, ro_some, r_sl, rt_nm, rs_next, rs_ret, rs_seq, rs_if, rs_asg, rs_asgT, rs_par, rt_nil, rt_cons, rt_tp, ri_data, ri_range1, ri_range2, ri_enum, r_comp, startD, look_d, looks_nil, looks_d, datas_nil, datas_d, tru_b, tru_i, List.length_cons, List.length_nil, List.getElem?_cons_zero, List.getElem?_cons_succ, List.set_cons_zero, List.set_cons_succ, Option.map_some, List.map_cons, List.map_nil, Nat.reduceAdd, Nat.reduceSub, Nat.reduceEqDiff, List.reduceReplicate, List.cons_append, List.nil_append, List.append_nil, true_and, and_true, i0]
      refine ⟨st.length, _, rfl, at_app, ?_⟩
      rw [gNe_nilL, r1_some, isEmpty_map']
      have fin : ∀ x : PyData, arP F f0.length = x → ∃ xs, (st ++ [Cell.lst (((List.range f0.length).map (arP F)).map .d)])[st.length]? = some (.lst xs) ∧ xs.length < 16000000 ∧
          ∃ (g0 g1 : List Tick) (u2 u3 u4 u5 u6 : Option Vd), f1.map fT = g1.map fT ∧ g0 ++ g1 = F ∧ (st ++ [Cell.lst (((List.range f0.length).map (arP F)).map .d)]).set st.length (.lst (xs ++ [.d x])) = st ++ [.lst (((List.range g0.length).map (arP F)).map .d)] ∧
            [some (.d (.tuple (F.map tp))), some (.r st.length), some (.d (.tuple (t.1.map .int))), some (.d (.int t.2)), some (.d (.list (O.map fun q => cp ((q.1.1.length : Int), (q.2 : Int))))), w5, w6] = [some (.d (.tuple (F.map tp))), some (.r st.length), u2, u3, u4, u5, u6] := fun x hx => by
        refine ⟨_, at_app, by simp; omega, f0 ++ [t], f1, _, _, _, _, _, rfl, by rw [← hf]; simp, ?_, rfl⟩
        rw [set_app, List.length_append, List.length_cons, List.length_nil, Nat.zero_add, List.range_succ, List.map_append, List.map_append, ← hx]
        rfl
      cases hE : O with
      | nil =>
        simp only [List.isEmpty_nil, Bool.not_true]
        simp only [r1_some, r2_some, r1_none, r_var, r_c, r_op, r_fz, r_bval, r_btru, r_band, r_bor, r_bnot, r_if, r_and, r_or, r_not, r_nil, r_cons, r_tup, r_lst, r_lstN, r_cb, r_is, r_call, r_neg, r_chain, r_ixC, ro_no, ro_some, r_sl, rt_nm, rs_next, rs_ret, rs_seq, rs_if, rs_asg, rs_asgT, rs_par, rt_nil, rt_cons, rt_tp, ri_data, ri_range1, ri_range2, ri_enum, r_comp, startD, look_d, looks_nil, looks_d, datas_nil, datas_d, tru_b, tru_i, List.length_cons, List.length_nil, List.getElem?_cons_zero, List.getElem?_cons_succ, List.set_cons_zero, List.set_cons_succ, Option.map_some, List.map_cons, List.map_nil, Nat.reduceAdd, Nat.reduceSub, Nat.reduceEqDiff, List.reduceReplicate, List.cons_append, List.nil_append, List.append_nil, true_and, and_true]
        have := fin .none (d0 hE)
        rw [hE] at this
        exact this
      | cons o O' =>
        simp only [List.isEmpty_cons, Bool.not_false]
        obtain ⟨m, m1, m2, m3⟩ := gMin_cp (c := ((o.1.1.length : Int), (o.2 : Int))) (C := O'.map fun q => ((q.1.1.length : Int), (q.2 : Int)))
        have em : (o :: O').map (fun q => cp ((q.1.1.length : Int), (q.2 : Int))) = ((((o.1.1.length : Int), (o.2 : Int)) :: O'.map fun q => ((q.1.1.length : Int), (q.2 : Int)))).map cp := by
          rw [List.map_cons, List.map_cons, List.map_map]
          rfl
        have ear := d1 _ _ (by rw [hE]; rfl) m m2 m3
        have := fin (.int m.2) ear
        rw [hE] at this
        rw [← em] at m1
        have m1' : gMin [.list (cp ((o.1.1.length : Int), (o.2 : Int)) :: O'.map fun q => cp ((q.1.1.length : Int), (q.2 : Int)))] = some (cp m) := m1
        simp only [r1_some, r2_some, r1_none, r_var, r_c, r_op, r_fz, r_bval, r_btru, r_band, r_bor, r_bnot, r_if, r_and, r_or, r_not, r_nil, r_cons, r_tup, r_lst, r_lstN, r_cb, r_is, r_call, r_neg, r_chain, r_ixC, ro_no, ro_some, r_sl, rt_nm, rs_next, rs_ret, rs_seq, rs_if, rs_asg, rs_asgT, rs_par, rt_nil, rt_cons, rt_tp, ri_data, ri_range1, ri_range2, ri_enum, r_comp, startD, look_d, looks_nil, looks_d, datas_nil, datas_d, tru_b, tru_i, List.length_cons, List.length_nil, List.getElem?_cons_zero, List.getElem?_cons_succ, List.set_cons_zero, List.set_cons_succ, Option.map_some, List.map_cons, List.map_nil, Nat.reduceAdd, Nat.reduceSub, Nat.reduceEqDiff, List.reduceReplicate, List.cons_append, List.nil_append, List.append_nil, true_and, and_true]
        rw [m1', r1_some]
        simp only [cp, r1_some, r2_some, r1_none, r_var, r_c, r_op, r_fz, r_bval, r_btru, r_band, r_bor, r_bnot, r_if, r_and, r_or, r_not, r_nil, r_cons, r_tup, r_lst, r_lstN, r_cb, r_is, r_call, r_neg, r_chain, r_ixC, ro_no, ro_some, r_sl, rt_nm, rs_next, rs_ret, rs_seq, rs_if, rs_asg, rs_asgT, rs_par, rt_nil, rt_cons, rt_tp, ri_data, ri_range1, ri_range2, ri_enum, r_comp, startD, look_d, looks_nil, looks_d, datas_nil, datas_d, tru_b, tru_i, List.length_cons, List.length_nil, List.getElem?_cons_zero, List.getElem?_cons_succ, List.set_cons_zero, List.set_cons_succ, Option.map_some, List.map_cons, List.map_nil, Nat.reduceAdd, Nat.reduceSub, Nat.reduceEqDiff, List.reduceReplicate, List.cons_append, List.nil_append, List.append_nil, true_and, and_true, gIx_tuple]
        rw [show atI [PyData.int m.1, .int m.2] 1 = some (.int m.2) from atI_nat_ _ 1, r1_some]
        exact this
  · cases o with
    | nx ρ s =>
      obtain ⟨f0, f1, w2, w3, w4, w5, w6, hv, hf, rfl, rfl⟩ := ho
      have h1 : f1 = [] := List.map_eq_nil_iff.mp hv.symm
      subst h1
      rw [List.append_nil] at hf
      subst hf
      simp only [r1_some, r2_some, r1_none, r_var, r_c, r_op, r_fz, r_bval, r_btru, r_band, r_bor, r_bnot, r_if, r_and, r_or, r_not, r_nil, r_cons, r_tup, r_lst, r_lstN, r_cb, r_is, r_call, r_neg, r_chain, r_ixC, ro_no, ro_some, r_sl, rt_nm, rs_next, rs_ret, rs_seq, rs_if, rs_asg, rs_asgT, rs_par, rt_nil, rt_cons, rt_tp, ri_data, ri_range1, ri_range2, ri_enum, r_comp, startD, look_d, looks_nil, looks_d, datas_nil, datas_d, tru_b, tru_i, List.length_cons, List.length_nil, List.getElem?_cons_zero, List.getElem?_cons_succ, List.set_cons_zero, List.set_cons_succ, Option.map_some, List.map_cons, List.map_nil, Nat.reduceAdd, Nat.reduceSub, Nat.reduceEqDiff, List.reduceReplicate, List.cons_append, List.nil_append, List.append_nil, true_and, and_true, looks_r (look_lst at_app), gTupleOf]
      exact ⟨st, _, rfl, rfl, hc, trivial, rfl⟩
    | _ => exact ho.elim
end D06

set_option Elab.async false
set_option linter.all false
set_option maxRecDepth 100000
set_option maxHeartbeats 4000000
namespace D06
open PySem PySem.Spec PyProof.Rows L2 Pg Dl Gs
variable {tb : Cell} {rest st s : Sto}
theorem gIn_intsL {b : Bool} {i : Int} {l : List Int} : gIn b (.int i) (.list (l.map .int)) = some (.bool (b != decide (i ∈ l))) := by
  have e : gIn b (.int i) (.list (l.map .int)) = some (.bool (b != (l.map PyData.int).any fun z => PyData.eqv z (.int i))) := if_pos ⟨shaped_int i, lay_ints l⟩
  rw [e, Gs.any_ints]
theorem lets_due_eq {F : List Tick} {p : Int} (hF : F.length ≤ 1000) (hn : ∀ t ∈ F, 0 ≤ t.2) : fLetsDue [.d (.tuple (F.map tp)), .d (.int p)] st = some (.d (.bool (letsP F p)), st) := by
  refine eq_of (rf_of ?_)
  have i0 : (0 : Nat) ≤ sizeLine := by decide
  unfold gLetsDue gLetsDue_1 gLetsDue_2
  simp only [r1_some, r2_some, r1_none, r_var, r_c, r_op, r_fz, r_bval, r_btru, r_band, r_bor, r_bnot, r_if, r_and, r_or, r_not, r_nil, r_cons, r_tup, r_lst, r_lstN, r_cb, r_is, r_call, r_neg, r_chain, r_ixC, ro_no, ro_some, r_sl, rt_nm, rs_next, rs_ret, rs_seq, rs_if, rs_asg, rs_asgT, rs_par, rt_nil, rt_cons, rt_tp, ri_data, ri_range1, ri_range2, ri_enum, r_comp, startD, look_d, looks_nil, looks_d, datas_nil, datas_d, tru_b, tru_i, List.length_cons, List.length_nil, List.getElem?_cons_zero, List.getElem?_cons_succ, List.set_cons_zero, List.set_cons_succ, Option.map_some, List.map_cons, List.map_nil, Nat.reduceAdd, Nat.reduceSub, Nat.reduceEqDiff, List.reduceReplicate, List.cons_append, List.nil_append, List.append_nil, true_and, and_true]
  rw [map_tp, comp_map (p := fun t => decide (p ∈ t.1)) (h := fun t => .int t.2) fun x hx => by
    simp only [wipeD, fT, tp, r1_some, r2_some, r1_none, r_var, r_c, r_op, r_fz, r_bval, r_btru, r_band, r_bor, r_bnot, r_if, r_and, r_or, r_not, r_nil, r_cons, r_tup, r_lst, r_lstN, r_cb, r_is, r_call, r_neg, r_chain, r_ixC, ro_no, ro_some, r_sl, rt_nm, rs_next, rs_ret, rs_seq, rs_if, rs_asg, rs_asgT, rs_par, rt_nil, rt_cons, rt_tp, ri_data, ri_range1, ri_range2, ri_enum, r_comp, startD, look_d, looks_nil, looks_d, datas_nil, datas_d, tru_b, tru_i, List.length_cons, List.length_nil, List.getElem?_cons_zero, List.getElem?_cons_succ, List.set_cons_zero, List.set_cons_succ, Option.map_some, List.map_cons, List.map_nil, Nat.reduceAdd, Nat.reduceSub, Nat.reduceEqDiff, List.reduceReplicate, List.cons_append, List.nil_append, List.append_nil, true_and, and_true, gIx_tuple, atI_zero, gIn_f]
    refine fun _ => ?_
    try simp only [r1_some, r2_some, r1_none, r_var, r_c, r_op, r_fz, r_bval, r_btru, r_band, r_bor, r_bnot, r_if, r_and, r_or, r_not, r_nil, r_cons, r_tup, r_lst, r_lstN, r_cb, r_is, r_call, r_neg, r_chain, r_ixC, ro_no, ro_some, r_sl, rt_nm, rs_next, rs_ret, rs_seq, rs_if, rs_asg, rs_asgT, rs_par, rt_nil, rt_cons, rt_tp, ri_data, ri_range1, ri_range2, ri_enum, r_comp, startD, look_d, looks_nil, looks_d, datas_nil, datas_d, tru_b, tru_i, List.length_cons, List.length_nil, List.getElem?_cons_zero, List.getElem?_cons_succ, List.set_cons_zero, List.set_cons_succ, Option.map_some, List.map_cons, List.map_nil, Nat.reduceAdd, Nat.reduceSub, Nat.reduceEqDiff, List.reduceReplicate, List.cons_append, List.nil_append, List.append_nil, true_and, and_true, gIx_tuple]
    rw [show atI [PyData.tuple (x.1.map .int), .int x.2] 1 = some (.int x.2) from atI_nat_ _ 1, r1_some]
    exact ⟨rfl, rfl⟩]
  have e1 : ((F.filter fun t => decide (p ∈ t.1)).map fun t => PyData.int t.2) = ((F.filter fun t => decide (p ∈ t.1)).map (·.2)).map .int := by rw [List.map_map]; rfl
  have hl : (F.filter fun t => decide (p ∈ t.1)).length ≤ 1000 := Nat.le_trans (List.length_filter_le _ _) hF
  have e2 := any_filter F fun t => decide (p ∈ t.1)
  have e3 : (F.all fun t => !decide (p ∈ t.1) || decide (0 < t.2)) = (F.filter fun t => decide (p ∈ t.1)).all fun t => decide (0 < t.2) := by rw [List.all_filter]
  have hn' : ∀ t ∈ F.filter (fun t => decide (p ∈ t.1)), 0 ≤ t.2 := fun t ht => hn t (List.mem_filter.mp ht).1
  unfold letsP hasP
  rw [e3, ← e2, e1]
  generalize F.filter (fun t => decide (p ∈ t.1)) = G at hl hn'
  simp only [r2_some, datas_map, r1_some, r2_some, r1_none, r_var, r_c, r_op, r_fz, r_bval, r_btru, r_band, r_bor, r_bnot, r_if, r_and, r_or, r_not, r_nil, r_cons, r_tup, r_lst, r_lstN, r_cb, r_is, r_call, r_neg, r_chain, r_ixC, ro_no, ro_some, r_sl, rt_nm, rs_next, rs_ret, rs_seq, rs_if, rs_asg, rs_asgT, rs_par, rt_nil, rt_cons, rt_tp, ri_data, ri_range1, ri_range2, ri_enum, r_comp, startD, look_d, looks_nil, looks_d, datas_nil, datas_d, tru_b, tru_i, List.length_cons, List.length_nil, List.getElem?_cons_zero, List.getElem?_cons_succ, List.set_cons_zero, List.set_cons_succ, Option.map_some, List.map_cons, List.map_nil, Nat.reduceAdd, Nat.reduceSub, Nat.reduceEqDiff, List.reduceReplicate, List.cons_append, List.nil_append, List.append_nil, true_and, and_true]
  refine ⟨by simp only [List.length_map]; omega, i0, ?_⟩
  rw [gNe_nilL, r1_some]
  have e4 : (!((G.map (·.2)).map PyData.int).isEmpty) = !G.isEmpty := by cases G <;> rfl
  rw [e4]
  cases hG : G.isEmpty with
  | true =>
    simp only [r1_some, r2_some, r1_none, r_var, r_c, r_op, r_fz, r_bval, r_btru, r_band, r_bor, r_bnot, r_if, r_and, r_or, r_not, r_nil, r_cons, r_tup, r_lst, r_lstN, r_cb, r_is, r_call, r_neg, r_chain, r_ixC, ro_no, ro_some, r_sl, rt_nm, rs_next, rs_ret, rs_seq, rs_if, rs_asg, rs_asgT, rs_par, rt_nil, rt_cons, rt_tp, ri_data, ri_range1, ri_range2, ri_enum, r_comp, startD, look_d, looks_nil, looks_d, datas_nil, datas_d, tru_b, tru_i, List.length_cons, List.length_nil, List.getElem?_cons_zero, List.getElem?_cons_succ, List.set_cons_zero, List.set_cons_succ, Option.map_some, List.map_cons, List.map_nil, Nat.reduceAdd, Nat.reduceSub, Nat.reduceEqDiff, List.reduceReplicate, List.cons_append, List.nil_append, List.append_nil, true_and, and_true, Bool.not_true]
    simp
  | false =>
    simp only [r1_some, r2_some, r1_none, r_var, r_c, r_op, r_fz, r_bval, r_btru, r_band, r_bor, r_bnot, r_if, r_and, r_or, r_not, r_nil, r_cons, r_tup, r_lst, r_lstN, r_cb, r_is, r_call, r_neg, r_chain, r_ixC, ro_no, ro_some, r_sl, rt_nm, rs_next, rs_ret, rs_seq, rs_if, rs_asg, rs_asgT, rs_par, rt_nil, rt_cons, rt_tp, ri_data, ri_range1, ri_range2, ri_enum, r_comp, startD, look_d, looks_nil, looks_d, datas_nil, datas_d, tru_b, tru_i, List.length_cons, List.length_nil, List.getElem?_cons_zero, List.getElem?_cons_succ, List.set_cons_zero, List.set_cons_succ, Option.map_some, List.map_cons, List.map_nil, Nat.reduceAdd, Nat.reduceSub, Nat.reduceEqDiff, List.reduceReplicate, List.cons_append, List.nil_append, List.append_nil, true_and, and_true, Bool.not_false]
    rw [gIn_intsL, r1_some]
    refine ⟨Nat.le_refl _, ?_⟩
    have : (true != decide (0 ∈ G.map (·.2))) = G.all fun t => decide (0 < t.2) := by
      rw [Bool.eq_iff_iff]
      simp only [bne_iff_ne, ne_eq, List.all_eq_true, decide_eq_true_eq]
      constructor
      · intro h t ht
        have h0 := hn' t ht
        by_cases e : t.2 = 0
        · exact absurd (decide_eq_true (List.mem_map.mpr ⟨t, ht, e⟩)).symm h
        · omega
      · intro h e
        obtain ⟨t, ht, et⟩ := List.mem_map.mp (of_decide_eq_true e.symm)
        have := h t ht
        omega
    rw [this]
    simp
theorem spent_due_eq {F : List Tick} {p : Int} (hF : F.length ≤ 1000) : fSpentDue [.d (.tuple (F.map tp)), .d (.int p)] st = some (.d (.tuple ((spentP F p).map tp)), st) := by
  refine eq_of (rf_of ?_)
  have i2 : (2 : Nat) ≤ sizeLine := by decide
  unfold gSpentDue
  simp only [r1_some, r2_some, r1_none, r_var, r_c, r_op, r_fz, r_bval, r_btru, r_band, r_bor, r_bnot, r_if, r_and, r_or, r_not, r_nil, r_cons, r_tup, r_lst, r_lstN, r_cb, r_is, r_call, r_neg, r_chain, r_ixC, ro_no, ro_some, r_sl, rt_nm, rs_next, rs_ret, rs_seq, rs_if, rs_asg, rs_asgT, rs_par, rt_nil, rt_cons, rt_tp, ri_data, ri_range1, ri_range2, ri_enum, r_comp, startD, look_d, looks_nil, looks_d, datas_nil, datas_d, tru_b, tru_i, List.length_cons, List.length_nil, List.getElem?_cons_zero, List.getElem?_cons_succ, List.set_cons_zero, List.set_cons_succ, Option.map_some, List.map_cons, List.map_nil, Nat.reduceAdd, Nat.reduceSub, Nat.reduceEqDiff, List.reduceReplicate, List.cons_append, List.nil_append, List.append_nil, true_and, and_true]
  rw [map_tp, comp_map1 (h := fun t => tp (t.1, if p ∈ t.1 then t.2 - 1 else t.2)) fun x hx => by
    simp only [wipeD, fT, tp, r1_some, r2_some, r1_none, r_var, r_c, r_op, r_fz, r_bval, r_btru, r_band, r_bor, r_bnot, r_if, r_and, r_or, r_not, r_nil, r_cons, r_tup, r_lst, r_lstN, r_cb, r_is, r_call, r_neg, r_chain, r_ixC, ro_no, ro_some, r_sl, rt_nm, rs_next, rs_ret, rs_seq, rs_if, rs_asg, rs_asgT, rs_par, rt_nil, rt_cons, rt_tp, ri_data, ri_range1, ri_range2, ri_enum, r_comp, startD, look_d, looks_nil, looks_d, datas_nil, datas_d, tru_b, tru_i, List.length_cons, List.length_nil, List.getElem?_cons_zero, List.getElem?_cons_succ, List.set_cons_zero, List.set_cons_succ, Option.map_some, List.map_cons, List.map_nil, Nat.reduceAdd, Nat.reduceSub, Nat.reduceEqDiff, List.reduceReplicate, List.cons_append, List.nil_append, List.append_nil, true_and, and_true, gIx_tuple, atI_zero]
    rw [show atI [PyData.tuple (x.1.map .int), .int x.2] 1 = some (.int x.2) from atI_nat_ _ 1]
    by_cases hp : p ∈ x.1
    · simp only [r1_some, r2_some, r1_none, r_var, r_c, r_op, r_fz, r_bval, r_btru, r_band, r_bor, r_bnot, r_if, r_and, r_or, r_not, r_nil, r_cons, r_tup, r_lst, r_lstN, r_cb, r_is, r_call, r_neg, r_chain, r_ixC, ro_no, ro_some, r_sl, rt_nm, rs_next, rs_ret, rs_seq, rs_if, rs_asg, rs_asgT, rs_par, rt_nil, rt_cons, rt_tp, ri_data, ri_range1, ri_range2, ri_enum, r_comp, startD, look_d, looks_nil, looks_d, datas_nil, datas_d, tru_b, tru_i, List.length_cons, List.length_nil, List.getElem?_cons_zero, List.getElem?_cons_succ, List.set_cons_zero, List.set_cons_succ, Option.map_some, List.map_cons, List.map_nil, Nat.reduceAdd, Nat.reduceSub, Nat.reduceEqDiff, List.reduceReplicate, List.cons_append, List.nil_append, List.append_nil, true_and, and_true, gIx_tuple, atI_zero, gIn_f, hp, decide_true, gInt, if_true, gSub_int, i2]
    · simp only [r1_some, r2_some, r1_none, r_var, r_c, r_op, r_fz, r_bval, r_btru, r_band, r_bor, r_bnot, r_if, r_and, r_or, r_not, r_nil, r_cons, r_tup, r_lst, r_lstN, r_cb, r_is, r_call, r_neg, r_chain, r_ixC, ro_no, ro_some, r_sl, rt_nm, rs_next, rs_ret, rs_seq, rs_if, rs_asg, rs_asgT, rs_par, rt_nil, rt_cons, rt_tp, ri_data, ri_range1, ri_range2, ri_enum, r_comp, startD, look_d, looks_nil, looks_d, datas_nil, datas_d, tru_b, tru_i, List.length_cons, List.length_nil, List.getElem?_cons_zero, List.getElem?_cons_succ, List.set_cons_zero, List.set_cons_succ, Option.map_some, List.map_cons, List.map_nil, Nat.reduceAdd, Nat.reduceSub, Nat.reduceEqDiff, List.reduceReplicate, List.cons_append, List.nil_append, List.append_nil, true_and, and_true, gIx_tuple, atI_zero, gIn_f, hp, decide_false, gInt, Bool.false_eq_true, if_false, gSub_int, i2, Int.sub_zero]]
  simp only [r2_some, datas_map, r1_some, r2_some, r1_none, r_var, r_c, r_op, r_fz, r_bval, r_btru, r_band, r_bor, r_bnot, r_if, r_and, r_or, r_not, r_nil, r_cons, r_tup, r_lst, r_lstN, r_cb, r_is, r_call, r_neg, r_chain, r_ixC, ro_no, ro_some, r_sl, rt_nm, rs_next, rs_ret, rs_seq, rs_if, rs_asg, rs_asgT, rs_par, rt_nil, rt_cons, rt_tp, ri_data, ri_range1, ri_range2, ri_enum, r_comp, startD, look_d, looks_nil, looks_d, datas_nil, datas_d, tru_b, tru_i, List.length_cons, List.length_nil, List.getElem?_cons_zero, List.getElem?_cons_succ, List.set_cons_zero, List.set_cons_succ, Option.map_some, List.map_cons, List.map_nil, Nat.reduceAdd, Nat.reduceSub, Nat.reduceEqDiff, List.reduceReplicate, List.cons_append, List.nil_append, List.append_nil, true_and, and_true, gTupleOf]
  refine ⟨by rw [List.length_map]; omega, Nat.le_refl _, ?_⟩
  unfold spentP
  rw [List.map_map]
  rfl
theorem eqv_lots : ∀ a b : List Int, PyData.eqv (.tuple (a.map .int)) (.tuple (b.map .int)) = decide (a = b)
  | [], [] => by simp [PyData.eqv, PyData.eqvAll]
  | [], _ :: _ => by simp [PyData.eqv, PyData.eqvAll]
  | _ :: _, [] => by simp [PyData.eqv, PyData.eqvAll]
  | x :: a, y :: b => by
    have ih := eqv_lots a b
    simp only [PyData.eqv, List.map_cons, PyData.eqvAll] at ih ⊢
    rw [ih]
    by_cases h : x = y <;> simp [h]
theorem shaped_lot (a : List Int) : SeqAt.shaped (.tuple (a.map .int)) = true := by
  simp [SeqAt.shaped, PyData.canLay0, PyData.depth, lay_ints, depth_ints]
theorem gEq_lots (a b : List Int) : gEq (.tuple (a.map .int)) (.tuple (b.map .int)) = some (.bool (decide (a = b))) := by
  unfold gEq
  rw [if_pos ⟨shaped_lot a, shaped_lot b⟩, eqv_lots]
def lessP (F : List Tick) (l : List Int) (n : Int) : List Tick := F.map fun t => if t.1 = l then (l, n) else t
theorem lessened_eq {F : List Tick} {l : List Int} {n : Int} (hF : F.length ≤ 1000) : fPLessened [.d (.tuple (F.map tp)), .d (.tuple (l.map .int)), .d (.int n)] st = some (.d (.tuple ((lessP F l n).map tp)), st) := by
  refine eq_of (rf_of ?_)
  have i2 : (2 : Nat) ≤ sizeLine := by decide
  unfold gPLessened
  simp only [r1_some, r2_some, r1_none, r_var, r_c, r_op, r_fz, r_bval, r_btru, r_band, r_bor, r_bnot, r_if, r_and, r_or, r_not, r_nil, r_cons, r_tup, r_lst, r_lstN, r_cb, r_is, r_call, r_neg, r_chain, r_ixC, ro_no, ro_some, r_sl, rt_nm, rs_next, rs_ret, rs_seq, rs_if, rs_asg, rs_asgT, rs_par, rt_nil, rt_cons, rt_tp, ri_data, ri_range1, ri_range2, ri_enum, r_comp, startD, look_d, looks_nil, looks_d, datas_nil, datas_d, tru_b, tru_i, List.length_cons, List.length_nil, List.getElem?_cons_zero, List.getElem?_cons_succ, List.set_cons_zero, List.set_cons_succ, Option.map_some, List.map_cons, List.map_nil, Nat.reduceAdd, Nat.reduceSub, Nat.reduceEqDiff, List.reduceReplicate, List.cons_append, List.nil_append, List.append_nil, true_and, and_true]
  rw [map_tp, comp_map1 (h := fun t => tp (if t.1 = l then (l, n) else t)) fun x hx => by
    simp only [wipeD, fT, tp, r1_some, r2_some, r1_none, r_var, r_c, r_op, r_fz, r_bval, r_btru, r_band, r_bor, r_bnot, r_if, r_and, r_or, r_not, r_nil, r_cons, r_tup, r_lst, r_lstN, r_cb, r_is, r_call, r_neg, r_chain, r_ixC, ro_no, ro_some, r_sl, rt_nm, rs_next, rs_ret, rs_seq, rs_if, rs_asg, rs_asgT, rs_par, rt_nil, rt_cons, rt_tp, ri_data, ri_range1, ri_range2, ri_enum, r_comp, startD, look_d, looks_nil, looks_d, datas_nil, datas_d, tru_b, tru_i, List.length_cons, List.length_nil, List.getElem?_cons_zero, List.getElem?_cons_succ, List.set_cons_zero, List.set_cons_succ, Option.map_some, List.map_cons, List.map_nil, Nat.reduceAdd, Nat.reduceSub, Nat.reduceEqDiff, List.reduceReplicate, List.cons_append, List.nil_append, List.append_nil, true_and, and_true, gIx_tuple, atI_zero, gEq_lots]
    by_cases e : x.1 = l
    · simp only [e, decide_true, if_true]
      simp only [r1_some, r2_some, r1_none, r_var, r_c, r_op, r_fz, r_bval, r_btru, r_band, r_bor, r_bnot, r_if, r_and, r_or, r_not, r_nil, r_cons, r_tup, r_lst, r_lstN, r_cb, r_is, r_call, r_neg, r_chain, r_ixC, ro_no, ro_some, r_sl, rt_nm, rs_next, rs_ret, rs_seq, rs_if, rs_asg, rs_asgT, rs_par, rt_nil, rt_cons, rt_tp, ri_data, ri_range1, ri_range2, ri_enum, r_comp, startD, look_d, looks_nil, looks_d, datas_nil, datas_d, tru_b, tru_i, List.length_cons, List.length_nil, List.getElem?_cons_zero, List.getElem?_cons_succ, List.set_cons_zero, List.set_cons_succ, Option.map_some, List.map_cons, List.map_nil, Nat.reduceAdd, Nat.reduceSub, Nat.reduceEqDiff, List.reduceReplicate, List.cons_append, List.nil_append, List.append_nil, true_and, and_true, i2]
    · simp only [e, decide_false, if_false]]
  simp only [r2_some, datas_map, r1_some, r2_some, r1_none, r_var, r_c, r_op, r_fz, r_bval, r_btru, r_band, r_bor, r_bnot, r_if, r_and, r_or, r_not, r_nil, r_cons, r_tup, r_lst, r_lstN, r_cb, r_is, r_call, r_neg, r_chain, r_ixC, ro_no, ro_some, r_sl, rt_nm, rs_next, rs_ret, rs_seq, rs_if, rs_asg, rs_asgT, rs_par, rt_nil, rt_cons, rt_tp, ri_data, ri_range1, ri_range2, ri_enum, r_comp, startD, look_d, looks_nil, looks_d, datas_nil, datas_d, tru_b, tru_i, List.length_cons, List.length_nil, List.getElem?_cons_zero, List.getElem?_cons_succ, List.set_cons_zero, List.set_cons_succ, Option.map_some, List.map_cons, List.map_nil, Nat.reduceAdd, Nat.reduceSub, Nat.reduceEqDiff, List.reduceReplicate, List.cons_append, List.nil_append, List.append_nil, true_and, and_true, gTupleOf]
  refine ⟨by rw [List.length_map]; omega, Nat.le_refl _, ?_⟩
  unfold lessP
  rw [List.map_map]
  rfl
theorem less_at : ∀ {F : List Tick} {i : Nat} {t : Tick} {n : Int}, (F.map (·.1)).Nodup → F[i]? = some t → lessP F t.1 n = F.take i ++ (t.1, n) :: F.drop (i + 1)
  | [], _, _, _, _, h => by simp at h
  | u :: F, 0, t, n, hn, h => by
    simp at h
    subst h
    have h1 := (List.nodup_cons.mp hn).1
    unfold lessP
    rw [List.map_cons, if_pos rfl]
    have e : F.map (fun t => if t.1 = u.1 then (u.1, n) else t) = F := by
      conv => rhs; rw [← List.map_id F]
      refine List.map_congr_left fun v hv => ?_
      rw [if_neg fun z => h1 (List.mem_map.mpr ⟨v, hv, z⟩)]
      rfl
    rw [e]
    rfl
  | u :: F, i + 1, t, n, hn, h => by
    have hc := List.nodup_cons.mp hn
    have h' : F[i]? = some t := by simpa using h
    have ih := less_at (n := n) hc.2 h'
    unfold lessP at ih ⊢
    rw [List.map_cons, ih, if_neg fun z => hc.1 (List.mem_map.mpr ⟨t, List.mem_of_getElem? h', z.symm⟩)]
    rfl
/-! ### the law -/
structure Fo (F : List Tick) : Prop where
  few : F.length ≤ 10
  num : ∀ t ∈ F, 0 ≤ t.2 ∧ t.2 ≤ 999999999
  lot : ∀ t ∈ F, t.1.length ≤ 12 ∧ ∀ p ∈ t.1, p.natAbs ≤ 10 ^ 13
  lok : LOk F
theorem Fo.f (h : Fo F) : F.length ≤ 1000 := Nat.le_trans h.few (by decide)
theorem Fo.l (h : Fo F) : ∀ t ∈ F, t.1.length ≤ 1000 := fun t ht => Nat.le_trans (h.lot t ht).1 (by decide)
theorem Fo.n (h : Fo F) : ∀ t ∈ F, 0 ≤ t.2 := fun t ht => (h.num t ht).1
theorem Fo.nic (h : Fo F) : Nic 0 3 (10 * (2 * (12 * 51 + 50 + 1) + 1)) (.tuple (F.map tp)) :=
  nic_F h.few fun t ht => ⟨h.lot t ht, by
    have := h.num t ht
    have e : (10 : Nat) ^ 13 = 10000000000000 := by decide
    omega⟩
theorem Fo.spent (h : Fo F) {p : Int} (hl : letsP F p = true) : Fo (spentP F p) := by
  unfold letsP at hl
  simp only [Bool.and_eq_true, List.all_eq_true, Bool.or_eq_true, Bool.not_eq_true', decide_eq_false_iff_not, decide_eq_true_eq] at hl
  refine ⟨by rw [spentP_len]; exact h.few, fun t ht => ?_, fun t ht => ?_, h.lok.of ?_⟩
  · obtain ⟨u, hu, rfl⟩ := List.mem_map.mp ht
    have h0 := h.num u hu
    dsimp only
    split
    · rename_i hp
      rcases hl.2 u hu with z | z
      · exact absurd hp z
      · omega
    · exact h0
  · obtain ⟨u, hu, rfl⟩ := List.mem_map.mp ht
    exact h.lot u hu
  · unfold spentP
    rw [List.map_map]
    rfl
theorem Fo.less (h : Fo F) {l : List Int} {n : Int} (hn : 0 ≤ n ∧ n ≤ 999999999) : Fo (lessP F l n) := by
  refine ⟨by unfold lessP; rw [List.length_map]; exact h.few, fun t ht => ?_, fun t ht => ?_, h.lok.of ?_⟩
  · obtain ⟨u, hu, rfl⟩ := List.mem_map.mp ht
    split
    · exact hn
    · exact h.num u hu
  · obtain ⟨u, hu, rfl⟩ := List.mem_map.mp ht
    split
    · rename_i e
      rw [← e]
      exact h.lot u hu
    · exact h.lot u hu
  · unfold lessP
    rw [List.map_map]
    refine List.map_congr_left fun t _ => ?_
    simp only [Function.comp]
    split
    · rename_i e
      exact e.symm
    · rfl
theorem arP_nic {F : List Tick} (hF : F.length ≤ 10) (i : Nat) : Nic 0 0 50 (arP F i) := by
  unfold arP
  split
  · exact nic_non
  · rename_i n e
    refine nic_int ?_ (Nat.le_refl _)
    have hl : ((withP F (headP F i)).getD n 0) ≤ 10 := by
      rw [List.getD_eq_getElem?_getD]
      cases h : (withP F (headP F i))[n]? with
      | none => simp
      | some k =>
        have hk := withP_perm.mem_iff.mp (List.mem_of_getElem? h)
        obtain ⟨t, ht, _⟩ := idxP_mem.mp hk
        have := (List.getElem?_eq_some_iff.mp ht).1
        simp only [Option.getD_some]
        omega
    have e : (10 : Nat) ^ 13 = 10000000000000 := by decide
    omega
end D06

set_option Elab.async false
set_option linter.all false
set_option maxRecDepth 100000
set_option maxHeartbeats 4000000
namespace D06
open PySem PySem.Spec PyProof.Rows L2 Pg Dl Gs
variable {tb : Cell} {st s : Sto}
noncomputable abbrev fTW (P : Addr) : FF := fPTicketsWith P
noncomputable abbrev fHP (P : Addr) : FF := fPHasPage (fPTicketsWith P)
noncomputable abbrev fAr (P : Addr) : FF := fPArounds (fPAroundAt (fPTicketsWith P))
noncomputable def askA (P : Addr) : SF := (sIf (bNot (bTru (eCall 2 fAlike (aCons (eCall 1 (fAr P) (aCons (eVar 4) aNil)) (aCons (eCall 1 fAroundsDue (aCons (eVar 4) aNil)) aNil)))))
    (sRet (eC (.bool false)))
    sNext)
noncomputable def ask1 (P : Addr) : SF := (sIf (bNot (bTru (eCall 2 fAlike (aCons (eD (eCall 2 (fTW P) (aCons (eVar 4) (aCons (eVar 6) aNil)))) (aCons (eCall 2 fWithDue (aCons (eVar 4) (aCons (eVar 6) aNil))) aNil)))))
    (sRet (eC (.bool false)))
    sNext)
noncomputable def ask2 (P : Addr) : SF := (sIf (bNot (bTru (eCall 2 fAlike (aCons (eCall 2 (fHP P) (aCons (eVar 4) (aCons (eVar 6) aNil))) (aCons (eCall 2 fHas (aCons (eVar 4) (aCons (eVar 6) aNil))) aNil)))))
    (sRet (eC (.bool false)))
    sNext)
noncomputable def ask3 : SF := (sIf (bNot (bTru (eCall 2 fAlike (aCons (eCall 2 fPLets (aCons (eVar 4) (aCons (eVar 6) aNil))) (aCons (eCall 2 fLetsDue (aCons (eVar 4) (aCons (eVar 6) aNil))) aNil)))))
    (sRet (eC (.bool false)))
    sNext)
noncomputable def pagesS (P : Addr) : SF := (sFor (iData (eOp gAdd (eVar 3) (eLst (aCons (eOp gAdd (eOp gIx (eVar 3) (eNeg (eC (.int 1)))) (eC (.int 1))) (aCons (eC (.int 998)) aNil))))) (tNm 6)
    (sSeq (ask1 P) (sSeq (ask2 P) ask3)))
noncomputable def freeS : SF := (sAsg (eComp (iData (eVar 3)) (tNm 6) (bTru (eCall 2 fLetsDue (aCons (eVar 4) (aCons (eVar 6) aNil)))) (eVar 6) [6]) (tNm 7))
noncomputable def spS : SF := (sIf (bVal (eOp gNe (eVar 7) (eLst aNil)))
    (sSeq (sAsg (eCall 2 (fSome fTake) (aCons (eVar 1) (aCons (eVar 7) aNil))) (tNm 6))
    (sSeq (sAsg (eCall 2 fSpentDue (aCons (eVar 4) (aCons (eVar 6) aNil))) (tNm 8))
    (sSeq (sIf (bOr (bNot (bTru (eCall 2 fAlike (aCons (eCall 2 fPSpent (aCons (eVar 4) (aCons (eVar 6) aNil))) (aCons (eVar 8) aNil))))) (bNot (bTru (eCall 2 fAlike (aCons (eCall 2 fPSpent (aCons (eVar 4) (aCons (eVar 6) aNil))) (aCons (eVar 8) aNil))))))
    (sRet (eC (.bool false)))
    sNext)
    (sAsg (eVar 8) (tNm 4)))))
    sNext)
noncomputable def leS : SF := (sIf (bAnd (bVal (eOp gNe (eVar 4) (eTup aNil))) (bVal (eOp gEq (eCall 2 fTake (aCons (eVar 1) (aCons (eC (.int 3)) aNil))) (eC (.int 0)))))
    (sSeq (sAsg (eCall 2 fTake (aCons (eVar 1) (aCons (eCB gLen (aCons (eVar 4) aNil)) aNil))) (tNm 9))
    (sSeq (sAsg (eOp gIx (eVar 4) (eVar 9)) (tTp 2 (tsCons (tNm 11) (tsCons (tNm 10) tsNil))))
    (sSeq (sAsg (eCall 2 (fSome fTake) (aCons (eVar 1) (aCons (eLst (aCons (eC (.int 0)) (aCons (eVar 10) (aCons (eOp gDiv (eVar 10) (eC (.int 2))) (aCons (eCB gMin2 (aCons (eC (.int 999999999)) (aCons (eOp gAdd (eVar 10) (eC (.int 1))) aNil))) (aCons (eC (.int 999999999)) aNil)))))) aNil))) (tNm 10))
    (sSeq (sAsg (eOp gAdd (eOp gAdd (eSl (eVar 4) oNo (oSome (eVar 9))) (eTup (aCons (eTup (aCons (eVar 11) (aCons (eVar 10) aNil))) aNil))) (eSl (eVar 4) (oSome (eOp gAdd (eVar 9) (eC (.int 1)))) oNo)) (tNm 8))
    (sSeq (sIf (bNot (bTru (eCall 2 fAlike (aCons (eCall 3 fPLessened (aCons (eVar 4) (aCons (eVar 11) (aCons (eVar 10) aNil)))) (aCons (eVar 8) aNil)))))
    (sRet (eC (.bool false)))
    sNext)
    (sAsg (eIf (bVal (eOp gEq (eCall 2 fTake (aCons (eVar 1) (aCons (eC (.int 2)) aNil))) (eC (.int 0)))) (eVar 8) (eVar 4)) (tNm 4)))))))
    sNext)
noncomputable def stepS (P : Addr) : SF := sSeq (pagesS P) (sSeq freeS (sSeq spS leS))
noncomputable def stepsS (P : Addr) : SF := sFor (iRange1 (aCons (eC (.int 6)) aNil)) (tNm 5) (stepS P)
noncomputable def turnS (P : Addr) : SF := (sSeq (sAsg (eCall 2 fPgs (aCons (eVar 1) (aCons (eCall 2 (fSome fTake) (aCons (eVar 1) (aCons (eLst (aCons (eC (.int 1)) (aCons (eC (.int 2)) (aCons (eC (.int 3)) (aCons (eC (.int 4)) (aCons (eC (.int 6)) (aCons (eC (.int 12)) aNil))))))) aNil))) aNil))) (tNm 3))
    (sSeq (sAsg (eCall 4 fFor (aCons (eVar 1) (aCons (eVar 3) (aCons (eC (.int 10)) (aCons (eOp gEq (eCall 2 fTake (aCons (eVar 1) (aCons (eC (.int 3)) aNil))) (eC (.int 0))) aNil))))) (tNm 4))
    (sSeq (askA P) (stepsS P))))
noncomputable def law2 (P : Addr) : SF := gPLaw_2 fBag fTake fAlike fPLessened (fSome fTake) fPSpent fSpentDue fLetsDue fPLets fHas (fHP P) fWithDue (fTW P) fAroundsDue (fAr P) fFor fPgs
theorem law2_eq (P : Addr) : law2 P = sFor (iRange1 (aCons (eC (.int 8)) aNil)) (tNm 2) (turnS P) := by
  unfold law2 gPLaw_2 turnS stepsS stepS leS spS freeS pagesS ask3 ask2 ask1 askA
  rfl
theorem tbl_in {P : Addr} (h : BagS (.tbl P lamQ) [] st) : Cell.tbl P lamQ ∈ st := by
  obtain ⟨_, _, _, _, rfl, _⟩ := h
  exact List.mem_cons_self
theorem tclo {P : Addr} : ∀ n, CloC n (Cell.tbl P lamQ) := fun _ => trivial
theorem bclo {P : Addr} (h : BagS (.tbl P lamQ) [] st) : Clo st.length st := clo_bag tclo (fun c hc => absurd hc (by simp)) h
section
variable {P : Addr} {F : List Tick} {pg : List Int} {w0 w2 w3 w5 w6 w7 w8 w9 w10 w11 : Option Vd}
theorem askA_ok (hF : Fo F) (h : BagS (.tbl P lamQ) [] st) : R1 (askA P [w0, some (.r 1), w2, w3, some (.d (.tuple (F.map tp))), w5, w6, w7, w8, w9, w10, w11] st) fun o => o = .nx [w0, some (.r 1), w2, w3, some (.d (.tuple (F.map tp))), w5, w6, w7, w8, w9, w10, w11] st := by
  have nic := (nic_all (n := 0) (W := 50) (B := 10) (ds := (List.range F.length).map (arP F)) (fun d hd => by
    obtain ⟨i, _, rfl⟩ := List.mem_map.mp hd
    exact arP_nic hF.few i) (by simp; exact hF.few)).1
  unfold askA fAr
  simp only [r1_some, r2_some, r1_none, r_var, r_c, r_op, r_fz, r_bval, r_btru, r_band, r_bor, r_bnot, r_if, r_and, r_or, r_not, r_nil, r_cons, r_tup, r_lst, r_lstN, r_cb, r_is, r_call, r_neg, r_chain, r_ixC, ro_no, ro_some, r_sl, rt_nm, rs_next, rs_ret, rs_seq, rs_if, rs_asg, rs_asgT, rs_par, rt_nil, rt_cons, rt_tp, ri_data, ri_range1, ri_range2, ri_enum, r_comp, startD, look_d, looks_nil, looks_d, datas_nil, datas_d, tru_b, tru_i, List.length_cons, List.length_nil, List.getElem?_cons_zero, List.getElem?_cons_succ, List.set_cons_zero, List.set_cons_succ, Option.map_some, List.map_cons, List.map_nil, Nat.reduceAdd, Nat.reduceSub, Nat.reduceEqDiff, List.reduceReplicate, List.cons_append, List.nil_append, List.append_nil, true_and, and_true]
  rw [arounds_eq hF.f hF.l hF.lok (tbl_in h)]
  simp only [r1_some, r2_some, r1_none, r_var, r_c, r_op, r_fz, r_bval, r_btru, r_band, r_bor, r_bnot, r_if, r_and, r_or, r_not, r_nil, r_cons, r_tup, r_lst, r_lstN, r_cb, r_is, r_call, r_neg, r_chain, r_ixC, ro_no, ro_some, r_sl, rt_nm, rs_next, rs_ret, rs_seq, rs_if, rs_asg, rs_asgT, rs_par, rt_nil, rt_cons, rt_tp, ri_data, ri_range1, ri_range2, ri_enum, r_comp, startD, look_d, looks_nil, looks_d, datas_nil, datas_d, tru_b, tru_i, List.length_cons, List.length_nil, List.getElem?_cons_zero, List.getElem?_cons_succ, List.set_cons_zero, List.set_cons_succ, Option.map_some, List.map_cons, List.map_nil, Nat.reduceAdd, Nat.reduceSub, Nat.reduceEqDiff, List.reduceReplicate, List.cons_append, List.nil_append, List.append_nil, true_and, and_true]
  rw [arounds_due_eq hF.f hF.lok (bclo h)]
  simp only [r1_some, r2_some, r1_none, r_var, r_c, r_op, r_fz, r_bval, r_btru, r_band, r_bor, r_bnot, r_if, r_and, r_or, r_not, r_nil, r_cons, r_tup, r_lst, r_lstN, r_cb, r_is, r_call, r_neg, r_chain, r_ixC, ro_no, ro_some, r_sl, rt_nm, rs_next, rs_ret, rs_seq, rs_if, rs_asg, rs_asgT, rs_par, rt_nil, rt_cons, rt_tp, ri_data, ri_range1, ri_range2, ri_enum, r_comp, startD, look_d, looks_nil, looks_d, datas_nil, datas_d, tru_b, tru_i, List.length_cons, List.length_nil, List.getElem?_cons_zero, List.getElem?_cons_succ, List.set_cons_zero, List.set_cons_succ, Option.map_some, List.map_cons, List.map_nil, Nat.reduceAdd, Nat.reduceSub, Nat.reduceEqDiff, List.reduceReplicate, List.cons_append, List.nil_append, List.append_nil, true_and, and_true]
  rw [alike_of nic (by decide) (by decide)]
  simp only [r1_some, r2_some, r1_none, r_var, r_c, r_op, r_fz, r_bval, r_btru, r_band, r_bor, r_bnot, r_if, r_and, r_or, r_not, r_nil, r_cons, r_tup, r_lst, r_lstN, r_cb, r_is, r_call, r_neg, r_chain, r_ixC, ro_no, ro_some, r_sl, rt_nm, rs_next, rs_ret, rs_seq, rs_if, rs_asg, rs_asgT, rs_par, rt_nil, rt_cons, rt_tp, ri_data, ri_range1, ri_range2, ri_enum, r_comp, startD, look_d, looks_nil, looks_d, datas_nil, datas_d, tru_b, tru_i, List.length_cons, List.length_nil, List.getElem?_cons_zero, List.getElem?_cons_succ, List.set_cons_zero, List.set_cons_succ, Option.map_some, List.map_cons, List.map_nil, Nat.reduceAdd, Nat.reduceSub, Nat.reduceEqDiff, List.reduceReplicate, List.cons_append, List.nil_append, List.append_nil, true_and, and_true, Bool.not_true]
theorem ask1_ok {p : Int} (hF : Fo F) (h : BagS (.tbl P lamQ) [] st) : R1 (ask1 P [w0, some (.r 1), w2, w3, some (.d (.tuple (F.map tp))), w5, some (.d (.int p)), w7, w8, w9, w10, w11] st) fun o => o = .nx [w0, some (.r 1), w2, w3, some (.d (.tuple (F.map tp))), w5, some (.d (.int p)), w7, w8, w9, w10, w11] st := by
  have nic := (nic_all (n := 0) (W := 50) (B := 10) (ds := (withP F p).map fun i : Nat => .int i) (fun d hd => by
    obtain ⟨i, hi, rfl⟩ := List.mem_map.mp hd
    obtain ⟨t, ht, _⟩ := idxP_mem.mp (withP_perm.mem_iff.mp hi)
    have := (List.getElem?_eq_some_iff.mp ht).1
    have h10 := hF.few
    have e : (10 : Nat) ^ 13 = 10000000000000 := by decide
    exact nic_int (by omega) (Nat.le_refl _)) (by
      rw [List.length_map, with_len]
      exact Nat.le_trans (List.length_filter_le _ _) hF.few)).1
  unfold ask1 fTW
  have e1 : eCall 2 (fPTicketsWith P) (aCons (eVar 4) (aCons (eVar 6) aNil)) [w0, some (.r 1), w2, w3, some (.d (.tuple (F.map tp))), w5, some (.d (.int p)), w7, w8, w9, w10, w11] st = some (.t ((withP F p).map fun i : Nat => .int i), st) := by
    refine eq_of ?_
    simp only [r1_some, r2_some, r1_none, r_var, r_c, r_op, r_fz, r_bval, r_btru, r_band, r_bor, r_bnot, r_if, r_and, r_or, r_not, r_nil, r_cons, r_tup, r_lst, r_lstN, r_cb, r_is, r_call, r_neg, r_chain, r_ixC, ro_no, ro_some, r_sl, rt_nm, rs_next, rs_ret, rs_seq, rs_if, rs_asg, rs_asgT, rs_par, rt_nil, rt_cons, rt_tp, ri_data, ri_range1, ri_range2, ri_enum, r_comp, startD, look_d, looks_nil, looks_d, datas_nil, datas_d, tru_b, tru_i, List.length_cons, List.length_nil, List.getElem?_cons_zero, List.getElem?_cons_succ, List.set_cons_zero, List.set_cons_succ, Option.map_some, List.map_cons, List.map_nil, Nat.reduceAdd, Nat.reduceSub, Nat.reduceEqDiff, List.reduceReplicate, List.cons_append, List.nil_append, List.append_nil, true_and, and_true]
    rw [tickets_eq hF.f hF.l (tbl_in h)]
    exact ⟨_, _, rfl, rfl, rfl⟩
  have e2 : eD (eCall 2 (fPTicketsWith P) (aCons (eVar 4) (aCons (eVar 6) aNil))) [w0, some (.r 1), w2, w3, some (.d (.tuple (F.map tp))), w5, some (.d (.int p)), w7, w8, w9, w10, w11] st = some (.d (.tuple ((withP F p).map fun i : Nat => .int i)), st) := by
    unfold eD
    rw [e1]
  simp only [rs_if, r_bnot, r_btru, r_call, r_cons]
  rw [e2]
  simp only [r1_some, r2_some, r1_none, r_var, r_c, r_op, r_fz, r_bval, r_btru, r_band, r_bor, r_bnot, r_if, r_and, r_or, r_not, r_nil, r_cons, r_tup, r_lst, r_lstN, r_cb, r_is, r_call, r_neg, r_chain, r_ixC, ro_no, ro_some, r_sl, rt_nm, rs_next, rs_ret, rs_seq, rs_if, rs_asg, rs_asgT, rs_par, rt_nil, rt_cons, rt_tp, ri_data, ri_range1, ri_range2, ri_enum, r_comp, startD, look_d, looks_nil, looks_d, datas_nil, datas_d, tru_b, tru_i, List.length_cons, List.length_nil, List.getElem?_cons_zero, List.getElem?_cons_succ, List.set_cons_zero, List.set_cons_succ, Option.map_some, List.map_cons, List.map_nil, Nat.reduceAdd, Nat.reduceSub, Nat.reduceEqDiff, List.reduceReplicate, List.cons_append, List.nil_append, List.append_nil, true_and, and_true]
  rw [with_due_eq hF.f hF.lok]
  simp only [r1_some, r2_some, r1_none, r_var, r_c, r_op, r_fz, r_bval, r_btru, r_band, r_bor, r_bnot, r_if, r_and, r_or, r_not, r_nil, r_cons, r_tup, r_lst, r_lstN, r_cb, r_is, r_call, r_neg, r_chain, r_ixC, ro_no, ro_some, r_sl, rt_nm, rs_next, rs_ret, rs_seq, rs_if, rs_asg, rs_asgT, rs_par, rt_nil, rt_cons, rt_tp, ri_data, ri_range1, ri_range2, ri_enum, r_comp, startD, look_d, looks_nil, looks_d, datas_nil, datas_d, tru_b, tru_i, List.length_cons, List.length_nil, List.getElem?_cons_zero, List.getElem?_cons_succ, List.set_cons_zero, List.set_cons_succ, Option.map_some, List.map_cons, List.map_nil, Nat.reduceAdd, Nat.reduceSub, Nat.reduceEqDiff, List.reduceReplicate, List.cons_append, List.nil_append, List.append_nil, true_and, and_true]
  rw [alike_of nic (by decide) (by decide)]
  simp only [r1_some, r2_some, r1_none, r_var, r_c, r_op, r_fz, r_bval, r_btru, r_band, r_bor, r_bnot, r_if, r_and, r_or, r_not, r_nil, r_cons, r_tup, r_lst, r_lstN, r_cb, r_is, r_call, r_neg, r_chain, r_ixC, ro_no, ro_some, r_sl, rt_nm, rs_next, rs_ret, rs_seq, rs_if, rs_asg, rs_asgT, rs_par, rt_nil, rt_cons, rt_tp, ri_data, ri_range1, ri_range2, ri_enum, r_comp, startD, look_d, looks_nil, looks_d, datas_nil, datas_d, tru_b, tru_i, List.length_cons, List.length_nil, List.getElem?_cons_zero, List.getElem?_cons_succ, List.set_cons_zero, List.set_cons_succ, Option.map_some, List.map_cons, List.map_nil, Nat.reduceAdd, Nat.reduceSub, Nat.reduceEqDiff, List.reduceReplicate, List.cons_append, List.nil_append, List.append_nil, true_and, and_true, Bool.not_true]
theorem ask2_ok {p : Int} (hF : Fo F) (h : BagS (.tbl P lamQ) [] st) : R1 (ask2 P [w0, some (.r 1), w2, w3, some (.d (.tuple (F.map tp))), w5, some (.d (.int p)), w7, w8, w9, w10, w11] st) fun o => o = .nx [w0, some (.r 1), w2, w3, some (.d (.tuple (F.map tp))), w5, some (.d (.int p)), w7, w8, w9, w10, w11] st := by
  unfold ask2 fHP
  simp only [r1_some, r2_some, r1_none, r_var, r_c, r_op, r_fz, r_bval, r_btru, r_band, r_bor, r_bnot, r_if, r_and, r_or, r_not, r_nil, r_cons, r_tup, r_lst, r_lstN, r_cb, r_is, r_call, r_neg, r_chain, r_ixC, ro_no, ro_some, r_sl, rt_nm, rs_next, rs_ret, rs_seq, rs_if, rs_asg, rs_asgT, rs_par, rt_nil, rt_cons, rt_tp, ri_data, ri_range1, ri_range2, ri_enum, r_comp, startD, look_d, looks_nil, looks_d, datas_nil, datas_d, tru_b, tru_i, List.length_cons, List.length_nil, List.getElem?_cons_zero, List.getElem?_cons_succ, List.set_cons_zero, List.set_cons_succ, Option.map_some, List.map_cons, List.map_nil, Nat.reduceAdd, Nat.reduceSub, Nat.reduceEqDiff, List.reduceReplicate, List.cons_append, List.nil_append, List.append_nil, true_and, and_true]
  rw [has_page_eq hF.f hF.l (tbl_in h)]
  simp only [r1_some, r2_some, r1_none, r_var, r_c, r_op, r_fz, r_bval, r_btru, r_band, r_bor, r_bnot, r_if, r_and, r_or, r_not, r_nil, r_cons, r_tup, r_lst, r_lstN, r_cb, r_is, r_call, r_neg, r_chain, r_ixC, ro_no, ro_some, r_sl, rt_nm, rs_next, rs_ret, rs_seq, rs_if, rs_asg, rs_asgT, rs_par, rt_nil, rt_cons, rt_tp, ri_data, ri_range1, ri_range2, ri_enum, r_comp, startD, look_d, looks_nil, looks_d, datas_nil, datas_d, tru_b, tru_i, List.length_cons, List.length_nil, List.getElem?_cons_zero, List.getElem?_cons_succ, List.set_cons_zero, List.set_cons_succ, Option.map_some, List.map_cons, List.map_nil, Nat.reduceAdd, Nat.reduceSub, Nat.reduceEqDiff, List.reduceReplicate, List.cons_append, List.nil_append, List.append_nil, true_and, and_true]
  rw [has_eq hF.f]
  simp only [r1_some, r2_some, r1_none, r_var, r_c, r_op, r_fz, r_bval, r_btru, r_band, r_bor, r_bnot, r_if, r_and, r_or, r_not, r_nil, r_cons, r_tup, r_lst, r_lstN, r_cb, r_is, r_call, r_neg, r_chain, r_ixC, ro_no, ro_some, r_sl, rt_nm, rs_next, rs_ret, rs_seq, rs_if, rs_asg, rs_asgT, rs_par, rt_nil, rt_cons, rt_tp, ri_data, ri_range1, ri_range2, ri_enum, r_comp, startD, look_d, looks_nil, looks_d, datas_nil, datas_d, tru_b, tru_i, List.length_cons, List.length_nil, List.getElem?_cons_zero, List.getElem?_cons_succ, List.set_cons_zero, List.set_cons_succ, Option.map_some, List.map_cons, List.map_nil, Nat.reduceAdd, Nat.reduceSub, Nat.reduceEqDiff, List.reduceReplicate, List.cons_append, List.nil_append, List.append_nil, true_and, and_true]
  rw [alike_of nic_bool (by decide) (by decide)]
  simp only [r1_some, r2_some, r1_none, r_var, r_c, r_op, r_fz, r_bval, r_btru, r_band, r_bor, r_bnot, r_if, r_and, r_or, r_not, r_nil, r_cons, r_tup, r_lst, r_lstN, r_cb, r_is, r_call, r_neg, r_chain, r_ixC, ro_no, ro_some, r_sl, rt_nm, rs_next, rs_ret, rs_seq, rs_if, rs_asg, rs_asgT, rs_par, rt_nil, rt_cons, rt_tp, ri_data, ri_range1, ri_range2, ri_enum, r_comp, startD, look_d, looks_nil, looks_d, datas_nil, datas_d, tru_b, tru_i, List.length_cons, List.length_nil, List.getElem?_cons_zero, List.getElem?_cons_succ, List.set_cons_zero, List.set_cons_succ, Option.map_some, List.map_cons, List.map_nil, Nat.reduceAdd, Nat.reduceSub, Nat.reduceEqDiff, List.reduceReplicate, List.cons_append, List.nil_append, List.append_nil, true_and, and_true, Bool.not_true]
theorem ask3_ok {p : Int} (hF : Fo F) : R1 (ask3 [w0, some (.r 1), w2, w3, some (.d (.tuple (F.map tp))), w5, some (.d (.int p)), w7, w8, w9, w10, w11] st) fun o => o = .nx [w0, some (.r 1), w2, w3, some (.d (.tuple (F.map tp))), w5, some (.d (.int p)), w7, w8, w9, w10, w11] st := by
  unfold ask3
  simp only [r1_some, r2_some, r1_none, r_var, r_c, r_op, r_fz, r_bval, r_btru, r_band, r_bor, r_bnot, r_if, r_and, r_or, r_not, r_nil, r_cons, r_tup, r_lst, r_lstN, r_cb, r_is, r_call, r_neg, r_chain, r_ixC, ro_no, ro_some, r_sl, rt_nm, rs_next, rs_ret, rs_seq, rs_if, rs_asg, rs_asgT, rs_par, rt_nil, rt_cons, rt_tp, ri_data, ri_range1, ri_range2, ri_enum, r_comp, startD, look_d, looks_nil, looks_d, datas_nil, datas_d, tru_b, tru_i, List.length_cons, List.length_nil, List.getElem?_cons_zero, List.getElem?_cons_succ, List.set_cons_zero, List.set_cons_succ, Option.map_some, List.map_cons, List.map_nil, Nat.reduceAdd, Nat.reduceSub, Nat.reduceEqDiff, List.reduceReplicate, List.cons_append, List.nil_append, List.append_nil, true_and, and_true]
  rw [lets_eq hF.f]
  simp only [r1_some, r2_some, r1_none, r_var, r_c, r_op, r_fz, r_bval, r_btru, r_band, r_bor, r_bnot, r_if, r_and, r_or, r_not, r_nil, r_cons, r_tup, r_lst, r_lstN, r_cb, r_is, r_call, r_neg, r_chain, r_ixC, ro_no, ro_some, r_sl, rt_nm, rs_next, rs_ret, rs_seq, rs_if, rs_asg, rs_asgT, rs_par, rt_nil, rt_cons, rt_tp, ri_data, ri_range1, ri_range2, ri_enum, r_comp, startD, look_d, looks_nil, looks_d, datas_nil, datas_d, tru_b, tru_i, List.length_cons, List.length_nil, List.getElem?_cons_zero, List.getElem?_cons_succ, List.set_cons_zero, List.set_cons_succ, Option.map_some, List.map_cons, List.map_nil, Nat.reduceAdd, Nat.reduceSub, Nat.reduceEqDiff, List.reduceReplicate, List.cons_append, List.nil_append, List.append_nil, true_and, and_true]
  rw [lets_due_eq hF.f hF.n]
  simp only [r1_some, r2_some, r1_none, r_var, r_c, r_op, r_fz, r_bval, r_btru, r_band, r_bor, r_bnot, r_if, r_and, r_or, r_not, r_nil, r_cons, r_tup, r_lst, r_lstN, r_cb, r_is, r_call, r_neg, r_chain, r_ixC, ro_no, ro_some, r_sl, rt_nm, rs_next, rs_ret, rs_seq, rs_if, rs_asg, rs_asgT, rs_par, rt_nil, rt_cons, rt_tp, ri_data, ri_range1, ri_range2, ri_enum, r_comp, startD, look_d, looks_nil, looks_d, datas_nil, datas_d, tru_b, tru_i, List.length_cons, List.length_nil, List.getElem?_cons_zero, List.getElem?_cons_succ, List.set_cons_zero, List.set_cons_succ, Option.map_some, List.map_cons, List.map_nil, Nat.reduceAdd, Nat.reduceSub, Nat.reduceEqDiff, List.reduceReplicate, List.cons_append, List.nil_append, List.append_nil, true_and, and_true]
  rw [alike_of nic_bool (by decide) (by decide)]
  simp only [r1_some, r2_some, r1_none, r_var, r_c, r_op, r_fz, r_bval, r_btru, r_band, r_bor, r_bnot, r_if, r_and, r_or, r_not, r_nil, r_cons, r_tup, r_lst, r_lstN, r_cb, r_is, r_call, r_neg, r_chain, r_ixC, ro_no, ro_some, r_sl, rt_nm, rs_next, rs_ret, rs_seq, rs_if, rs_asg, rs_asgT, rs_par, rt_nil, rt_cons, rt_tp, ri_data, ri_range1, ri_range2, ri_enum, r_comp, startD, look_d, looks_nil, looks_d, datas_nil, datas_d, tru_b, tru_i, List.length_cons, List.length_nil, List.getElem?_cons_zero, List.getElem?_cons_succ, List.set_cons_zero, List.set_cons_succ, Option.map_some, List.map_cons, List.map_nil, Nat.reduceAdd, Nat.reduceSub, Nat.reduceEqDiff, List.reduceReplicate, List.cons_append, List.nil_append, List.append_nil, true_and, and_true, Bool.not_true]
theorem pages_ok (hF : Fo F) (hpg : pg.length ≤ 1000) (hp0 : pg ≠ []) (h : BagS (.tbl P lamQ) [] st) :
    R1 (pagesS P [w0, some (.r 1), w2, some (.d (.list (pg.map .int))), some (.d (.tuple (F.map tp))), w5, w6, w7, w8, w9, w10, w11] st) fun o => ∃ w6, o = .nx [w0, some (.r 1), w2, some (.d (.list (pg.map .int))), some (.d (.tuple (F.map tp))), w5, w6, w7, w8, w9, w10, w11] st := by
  have i2 : (2 : Nat) ≤ sizeLine := by decide
  obtain ⟨q, pg', rfl⟩ : ∃ q pg', pg = pg' ++ [q] := ⟨_, _, (List.dropLast_concat_getLast hp0).symm⟩
  have ela : atI ((pg' ++ [q]).map PyData.int) (-1) = some (.int q) := by rw [List.map_append]; exact atI_last _ _
  unfold pagesS
  rw [rs_for]
  simp only [r1_some, r2_some, r1_none, r_var, r_c, r_op, r_fz, r_bval, r_btru, r_band, r_bor, r_bnot, r_if, r_and, r_or, r_not, r_nil, r_cons, r_tup, r_lst, r_lstN, r_cb, r_is, r_call, r_neg, r_chain, r_ixC, ro_no, ro_some, r_sl, rt_nm, rs_next, rs_ret, rs_seq, rs_if, rs_asg, rs_asgT, rs_par, rt_nil, rt_cons, rt_tp, ri_data, ri_range1, ri_range2, ri_enum, r_comp, startD, look_d, looks_nil, looks_d, datas_nil, datas_d, tru_b, tru_i, List.length_cons, List.length_nil, List.getElem?_cons_zero, List.getElem?_cons_succ, List.set_cons_zero, List.set_cons_succ, Option.map_some, List.map_cons, List.map_nil, Nat.reduceAdd, Nat.reduceSub, Nat.reduceEqDiff, List.reduceReplicate, List.cons_append, List.nil_append, List.append_nil, true_and, and_true, gIx_list, ela, gAdd_int, i2]
  rw [gAdd_fit (by simp only [List.length_map, List.length_cons, List.length_nil] at hpg ⊢; omega), r1_some]
  have e0 : (pg' ++ [q]).map PyData.int ++ [PyData.int (q + 1), .int 998] = (pg' ++ [q] ++ [q + 1, 998]).map PyData.int := by simp
  simp only [e0, r1_some, r2_some, r1_none, r_var, r_c, r_op, r_fz, r_bval, r_btru, r_band, r_bor, r_bnot, r_if, r_and, r_or, r_not, r_nil, r_cons, r_tup, r_lst, r_lstN, r_cb, r_is, r_call, r_neg, r_chain, r_ixC, ro_no, ro_some, r_sl, rt_nm, rs_next, rs_ret, rs_seq, rs_if, rs_asg, rs_asgT, rs_par, rt_nil, rt_cons, rt_tp, ri_data, ri_range1, ri_range2, ri_enum, r_comp, startD, look_d, looks_nil, looks_d, datas_nil, datas_d, tru_b, tru_i, List.length_cons, List.length_nil, List.getElem?_cons_zero, List.getElem?_cons_succ, List.set_cons_zero, List.set_cons_succ, Option.map_some, List.map_cons, List.map_nil, Nat.reduceAdd, Nat.reduceSub, Nat.reduceEqDiff, List.reduceReplicate, List.cons_append, List.nil_append, List.append_nil, true_and, and_true]
  rw [map_int]
  refine R1.mono (for_go (E := fun _ _ => False) (I := fun vs ρ s => ∃ (r : List Int) (w6 : Option Vd), vs = r.map iV ∧ s = st ∧ ρ = [w0, some (.r 1), w2, some (.d (.list ((pg' ++ [q]).map .int))), some (.d (.tuple (F.map tp))), w5, w6, w7, w8, w9, w10, w11]) (fun v vs ρ s hI => ?_) ⟨_, w6, rfl, rfl, rfl⟩) fun o ho => ?_
  · obtain ⟨r, w6, hv, rfl, rfl⟩ := hI
    cases r with
    | nil => cases hv
    | cons p r =>
      obtain ⟨rfl, rfl⟩ := List.cons.inj hv
      simp only [iV, rt_nm, List.set_cons_zero, List.set_cons_succ, rs_seq]
      refine R1.mono (ask1_ok hF h) fun o ho => ?_
      subst ho
      dsimp only
      rw [rs_seq]
      refine R1.mono (ask2_ok hF h) fun o ho => ?_
      subst ho
      dsimp only
      refine R1.mono (ask3_ok hF) fun o ho => ?_
      subst ho
      exact ⟨r, _, rfl, rfl, rfl⟩
  · cases o with
    | nx ρ s =>
      obtain ⟨_, w6, _, rfl, rfl⟩ := ho
      exact ⟨w6, rfl⟩
    | _ => exact ho.elim
theorem sp_ok (hF : Fo F) (hpg : pg.length ≤ 1000) (h : BagS (.tbl P lamQ) [] st) :
    R1 ((sSeq freeS spS) [w0, some (.r 1), w2, some (.d (.list (pg.map .int))), some (.d (.tuple (F.map tp))), w5, w6, w7, w8, w9, w10, w11] st) fun o => match o with
      | .nx ρ s => (∃ F w6 w7 w8, Fo F ∧ ρ = [w0, some (.r 1), w2, some (.d (.list (pg.map .int))), some (.d (.tuple (F.map tp))), w5, w6, w7, w8, w9, w10, w11]) ∧ BagS (.tbl P lamQ) [] s
      | _ => False := by
  have i0 : (0 : Nat) ≤ sizeLine := by decide
  unfold freeS spS
  simp only [r1_some, r2_some, r1_none, r_var, r_c, r_op, r_fz, r_bval, r_btru, r_band, r_bor, r_bnot, r_if, r_and, r_or, r_not, r_nil, r_cons, r_tup, r_lst, r_lstN, r_cb, r_is, r_call, r_neg, r_chain, r_ixC, ro_no, ro_some, r_sl, rt_nm, rs_next, rs_ret, rs_seq, rs_if, rs_asg, rs_asgT, rs_par, rt_nil, rt_cons, rt_tp, ri_data, ri_range1, ri_range2, ri_enum, r_comp, startD, look_d, looks_nil, looks_d, datas_nil, datas_d, tru_b, tru_i, List.length_cons, List.length_nil, List.getElem?_cons_zero, List.getElem?_cons_succ, List.set_cons_zero, List.set_cons_succ, Option.map_some, List.map_cons, List.map_nil, Nat.reduceAdd, Nat.reduceSub, Nat.reduceEqDiff, List.reduceReplicate, List.cons_append, List.nil_append, List.append_nil, true_and, and_true]
  rw [map_int, comp_map (p := fun p => letsP F p) (h := fun p => .int p) fun x hx => by
    simp only [wipeD, iV, r1_some, r2_some, r1_none, r_var, r_c, r_op, r_fz, r_bval, r_btru, r_band, r_bor, r_bnot, r_if, r_and, r_or, r_not, r_nil, r_cons, r_tup, r_lst, r_lstN, r_cb, r_is, r_call, r_neg, r_chain, r_ixC, ro_no, ro_some, r_sl, rt_nm, rs_next, rs_ret, rs_seq, rs_if, rs_asg, rs_asgT, rs_par, rt_nil, rt_cons, rt_tp, ri_data, ri_range1, ri_range2, ri_enum, r_comp, startD, look_d, looks_nil, looks_d, datas_nil, datas_d, tru_b, tru_i, List.length_cons, List.length_nil, List.getElem?_cons_zero, List.getElem?_cons_succ, List.set_cons_zero, List.set_cons_succ, Option.map_some, List.map_cons, List.map_nil, Nat.reduceAdd, Nat.reduceSub, Nat.reduceEqDiff, List.reduceReplicate, List.cons_append, List.nil_append, List.append_nil, true_and, and_true]
    rw [lets_due_eq hF.f hF.n]
    simp only [r1_some, r2_some, r1_none, r_var, r_c, r_op, r_fz, r_bval, r_btru, r_band, r_bor, r_bnot, r_if, r_and, r_or, r_not, r_nil, r_cons, r_tup, r_lst, r_lstN, r_cb, r_is, r_call, r_neg, r_chain, r_ixC, ro_no, ro_some, r_sl, rt_nm, rs_next, rs_ret, rs_seq, rs_if, rs_asg, rs_asgT, rs_par, rt_nil, rt_cons, rt_tp, ri_data, ri_range1, ri_range2, ri_enum, r_comp, startD, look_d, looks_nil, looks_d, datas_nil, datas_d, tru_b, tru_i, List.length_cons, List.length_nil, List.getElem?_cons_zero, List.getElem?_cons_succ, List.set_cons_zero, List.set_cons_succ, Option.map_some, List.map_cons, List.map_nil, Nat.reduceAdd, Nat.reduceSub, Nat.reduceEqDiff, List.reduceReplicate, List.cons_append, List.nil_append, List.append_nil, true_and, and_true]
    exact fun _ => trivial]
  obtain ⟨fr, hfr⟩ : ∃ fr, pg.filter (fun p => letsP F p) = fr := ⟨_, rfl⟩
  have frl : fr.length ≤ 1000 := by rw [← hfr]; exact Nat.le_trans (List.length_filter_le _ _) hpg
  have frm : ∀ p ∈ fr, letsP F p = true := fun p hp => by rw [← hfr] at hp; exact (List.mem_filter.mp hp).2
  rw [hfr]
  simp only [r2_some, datas_map, r1_some, r2_some, r1_none, r_var, r_c, r_op, r_fz, r_bval, r_btru, r_band, r_bor, r_bnot, r_if, r_and, r_or, r_not, r_nil, r_cons, r_tup, r_lst, r_lstN, r_cb, r_is, r_call, r_neg, r_chain, r_ixC, ro_no, ro_some, r_sl, rt_nm, rs_next, rs_ret, rs_seq, rs_if, rs_asg, rs_asgT, rs_par, rt_nil, rt_cons, rt_tp, ri_data, ri_range1, ri_range2, ri_enum, r_comp, startD, look_d, looks_nil, looks_d, datas_nil, datas_d, tru_b, tru_i, List.length_cons, List.length_nil, List.getElem?_cons_zero, List.getElem?_cons_succ, List.set_cons_zero, List.set_cons_succ, Option.map_some, List.map_cons, List.map_nil, Nat.reduceAdd, Nat.reduceSub, Nat.reduceEqDiff, List.reduceReplicate, List.cons_append, List.nil_append, List.append_nil, true_and, and_true, i0]
  refine ⟨by rw [List.length_map]; omega, ?_⟩
  rw [gNe_nilL, r1_some, isEmpty_map']
  cases hfe : fr.isEmpty with
  | true =>
    simp only [r1_some, r2_some, r1_none, r_var, r_c, r_op, r_fz, r_bval, r_btru, r_band, r_bor, r_bnot, r_if, r_and, r_or, r_not, r_nil, r_cons, r_tup, r_lst, r_lstN, r_cb, r_is, r_call, r_neg, r_chain, r_ixC, ro_no, ro_some, r_sl, rt_nm, rs_next, rs_ret, rs_seq, rs_if, rs_asg, rs_asgT, rs_par, rt_nil, rt_cons, rt_tp, ri_data, ri_range1, ri_range2, ri_enum, r_comp, startD, look_d, looks_nil, looks_d, datas_nil, datas_d, tru_b, tru_i, List.length_cons, List.length_nil, List.getElem?_cons_zero, List.getElem?_cons_succ, List.set_cons_zero, List.set_cons_succ, Option.map_some, List.map_cons, List.map_nil, Nat.reduceAdd, Nat.reduceSub, Nat.reduceEqDiff, List.reduceReplicate, List.cons_append, List.nil_append, List.append_nil, true_and, and_true, Bool.not_true]
    exact ⟨⟨F, _, _, _, hF, rfl⟩, h⟩
  | false =>
    have frp : 0 < fr.length := List.length_pos_iff.mpr fun z => by rw [z] at hfe; cases hfe
    simp only [r1_some, r2_some, r1_none, r_var, r_c, r_op, r_fz, r_bval, r_btru, r_band, r_bor, r_bnot, r_if, r_and, r_or, r_not, r_nil, r_cons, r_tup, r_lst, r_lstN, r_cb, r_is, r_call, r_neg, r_chain, r_ixC, ro_no, ro_some, r_sl, rt_nm, rs_next, rs_ret, rs_seq, rs_if, rs_asg, rs_asgT, rs_par, rt_nil, rt_cons, rt_tp, ri_data, ri_range1, ri_range2, ri_enum, r_comp, startD, look_d, looks_nil, looks_d, datas_nil, datas_d, tru_b, tru_i, List.length_cons, List.length_nil, List.getElem?_cons_zero, List.getElem?_cons_succ, List.set_cons_zero, List.set_cons_succ, Option.map_some, List.map_cons, List.map_nil, Nat.reduceAdd, Nat.reduceSub, Nat.reduceEqDiff, List.reduceReplicate, List.cons_append, List.nil_append, List.append_nil, true_and, and_true, Bool.not_false]
    refine (someJ0 (by simpa using frp) (by simp; omega) h).mono fun v1 s1 hv => ?_
    obtain ⟨x, rfl, hx, _, h1⟩ := hv
    obtain ⟨p, hp, rfl⟩ := List.mem_map.mp hx
    have hsp := hF.spent (frm p hp)
    simp only [r1_some, r2_some, r1_none, r_var, r_c, r_op, r_fz, r_bval, r_btru, r_band, r_bor, r_bnot, r_if, r_and, r_or, r_not, r_nil, r_cons, r_tup, r_lst, r_lstN, r_cb, r_is, r_call, r_neg, r_chain, r_ixC, ro_no, ro_some, r_sl, rt_nm, rs_next, rs_ret, rs_seq, rs_if, rs_asg, rs_asgT, rs_par, rt_nil, rt_cons, rt_tp, ri_data, ri_range1, ri_range2, ri_enum, r_comp, startD, look_d, looks_nil, looks_d, datas_nil, datas_d, tru_b, tru_i, List.length_cons, List.length_nil, List.getElem?_cons_zero, List.getElem?_cons_succ, List.set_cons_zero, List.set_cons_succ, Option.map_some, List.map_cons, List.map_nil, Nat.reduceAdd, Nat.reduceSub, Nat.reduceEqDiff, List.reduceReplicate, List.cons_append, List.nil_append, List.append_nil, true_and, and_true]
    rw [spent_due_eq hF.f]
    simp only [r1_some, r2_some, r1_none, r_var, r_c, r_op, r_fz, r_bval, r_btru, r_band, r_bor, r_bnot, r_if, r_and, r_or, r_not, r_nil, r_cons, r_tup, r_lst, r_lstN, r_cb, r_is, r_call, r_neg, r_chain, r_ixC, ro_no, ro_some, r_sl, rt_nm, rs_next, rs_ret, rs_seq, rs_if, rs_asg, rs_asgT, rs_par, rt_nil, rt_cons, rt_tp, ri_data, ri_range1, ri_range2, ri_enum, r_comp, startD, look_d, looks_nil, looks_d, datas_nil, datas_d, tru_b, tru_i, List.length_cons, List.length_nil, List.getElem?_cons_zero, List.getElem?_cons_succ, List.set_cons_zero, List.set_cons_succ, Option.map_some, List.map_cons, List.map_nil, Nat.reduceAdd, Nat.reduceSub, Nat.reduceEqDiff, List.reduceReplicate, List.cons_append, List.nil_append, List.append_nil, true_and, and_true]
    rw [spent_eq hF.f]
    simp only [r1_some, r2_some, r1_none, r_var, r_c, r_op, r_fz, r_bval, r_btru, r_band, r_bor, r_bnot, r_if, r_and, r_or, r_not, r_nil, r_cons, r_tup, r_lst, r_lstN, r_cb, r_is, r_call, r_neg, r_chain, r_ixC, ro_no, ro_some, r_sl, rt_nm, rs_next, rs_ret, rs_seq, rs_if, rs_asg, rs_asgT, rs_par, rt_nil, rt_cons, rt_tp, ri_data, ri_range1, ri_range2, ri_enum, r_comp, startD, look_d, looks_nil, looks_d, datas_nil, datas_d, tru_b, tru_i, List.length_cons, List.length_nil, List.getElem?_cons_zero, List.getElem?_cons_succ, List.set_cons_zero, List.set_cons_succ, Option.map_some, List.map_cons, List.map_nil, Nat.reduceAdd, Nat.reduceSub, Nat.reduceEqDiff, List.reduceReplicate, List.cons_append, List.nil_append, List.append_nil, true_and, and_true]
    rw [alike_of hsp.nic (by decide) (by decide)]
    simp only [r1_some, r2_some, r1_none, r_var, r_c, r_op, r_fz, r_bval, r_btru, r_band, r_bor, r_bnot, r_if, r_and, r_or, r_not, r_nil, r_cons, r_tup, r_lst, r_lstN, r_cb, r_is, r_call, r_neg, r_chain, r_ixC, ro_no, ro_some, r_sl, rt_nm, rs_next, rs_ret, rs_seq, rs_if, rs_asg, rs_asgT, rs_par, rt_nil, rt_cons, rt_tp, ri_data, ri_range1, ri_range2, ri_enum, r_comp, startD, look_d, looks_nil, looks_d, datas_nil, datas_d, tru_b, tru_i, List.length_cons, List.length_nil, List.getElem?_cons_zero, List.getElem?_cons_succ, List.set_cons_zero, List.set_cons_succ, Option.map_some, List.map_cons, List.map_nil, Nat.reduceAdd, Nat.reduceSub, Nat.reduceEqDiff, List.reduceReplicate, List.cons_append, List.nil_append, List.append_nil, true_and, and_true, Bool.not_true]
    rw [spent_eq hF.f]
    simp only [r1_some, r2_some, r1_none, r_var, r_c, r_op, r_fz, r_bval, r_btru, r_band, r_bor, r_bnot, r_if, r_and, r_or, r_not, r_nil, r_cons, r_tup, r_lst, r_lstN, r_cb, r_is, r_call, r_neg, r_chain, r_ixC, ro_no, ro_some, r_sl, rt_nm, rs_next, rs_ret, rs_seq, rs_if, rs_asg, rs_asgT, rs_par, rt_nil, rt_cons, rt_tp, ri_data, ri_range1, ri_range2, ri_enum, r_comp, startD, look_d, looks_nil, looks_d, datas_nil, datas_d, tru_b, tru_i, List.length_cons, List.length_nil, List.getElem?_cons_zero, List.getElem?_cons_succ, List.set_cons_zero, List.set_cons_succ, Option.map_some, List.map_cons, List.map_nil, Nat.reduceAdd, Nat.reduceSub, Nat.reduceEqDiff, List.reduceReplicate, List.cons_append, List.nil_append, List.append_nil, true_and, and_true]
    rw [alike_of hsp.nic (by decide) (by decide)]
    simp only [r1_some, r2_some, r1_none, r_var, r_c, r_op, r_fz, r_bval, r_btru, r_band, r_bor, r_bnot, r_if, r_and, r_or, r_not, r_nil, r_cons, r_tup, r_lst, r_lstN, r_cb, r_is, r_call, r_neg, r_chain, r_ixC, ro_no, ro_some, r_sl, rt_nm, rs_next, rs_ret, rs_seq, rs_if, rs_asg, rs_asgT, rs_par, rt_nil, rt_cons, rt_tp, ri_data, ri_range1, ri_range2, ri_enum, r_comp, startD, look_d, looks_nil, looks_d, datas_nil, datas_d, tru_b, tru_i, List.length_cons, List.length_nil, List.getElem?_cons_zero, List.getElem?_cons_succ, List.set_cons_zero, List.set_cons_succ, Option.map_some, List.map_cons, List.map_nil, Nat.reduceAdd, Nat.reduceSub, Nat.reduceEqDiff, List.reduceReplicate, List.cons_append, List.nil_append, List.append_nil, true_and, and_true, Bool.not_true]
    exact ⟨⟨_, _, _, _, hsp, rfl⟩, h1⟩
theorem le_ok (hF : Fo F) (h : BagS (.tbl P lamQ) [] st) :
    R1 (leS [w0, some (.r 1), w2, w3, some (.d (.tuple (F.map tp))), w5, w6, w7, w8, w9, w10, w11] st) fun o => match o with
      | .nx ρ s => (∃ F w8 w9 w10 w11, Fo F ∧ ρ = [w0, some (.r 1), w2, w3, some (.d (.tuple (F.map tp))), w5, w6, w7, w8, w9, w10, w11]) ∧ BagS (.tbl P lamQ) [] s
      | _ => False := by
  have i0 : (0 : Nat) ≤ sizeLine := by decide
  have i1 : (1 : Nat) ≤ sizeLine := by decide
  have i2 : (2 : Nat) ≤ sizeLine := by decide
  have i5 : (5 : Nat) ≤ sizeLine := by decide
  have k5 : ∀ i : Int, gDiv (.int i) (.int 2) = some (.int (i / 2)) := fun i => gDiv_int (by decide) (by decide)
  unfold leS
  simp only [r1_some, r2_some, r1_none, r_var, r_c, r_op, r_fz, r_bval, r_btru, r_band, r_bor, r_bnot, r_if, r_and, r_or, r_not, r_nil, r_cons, r_tup, r_lst, r_lstN, r_cb, r_is, r_call, r_neg, r_chain, r_ixC, ro_no, ro_some, r_sl, rt_nm, rs_next, rs_ret, rs_seq, rs_if, rs_asg, rs_asgT, rs_par, rt_nil, rt_cons, rt_tp, ri_data, ri_range1, ri_range2, ri_enum, r_comp, startD, look_d, looks_nil, looks_d, datas_nil, datas_d, tru_b, tru_i, List.length_cons, List.length_nil, List.getElem?_cons_zero, List.getElem?_cons_succ, List.set_cons_zero, List.set_cons_succ, Option.map_some, List.map_cons, List.map_nil, Nat.reduceAdd, Nat.reduceSub, Nat.reduceEqDiff, List.reduceReplicate, List.cons_append, List.nil_append, List.append_nil, true_and, and_true, i0]
  rw [gNe_nilT, r1_some, isEmpty_map']
  cases hfe : F.isEmpty with
  | true =>
    simp only [r1_some, r2_some, r1_none, r_var, r_c, r_op, r_fz, r_bval, r_btru, r_band, r_bor, r_bnot, r_if, r_and, r_or, r_not, r_nil, r_cons, r_tup, r_lst, r_lstN, r_cb, r_is, r_call, r_neg, r_chain, r_ixC, ro_no, ro_some, r_sl, rt_nm, rs_next, rs_ret, rs_seq, rs_if, rs_asg, rs_asgT, rs_par, rt_nil, rt_cons, rt_tp, ri_data, ri_range1, ri_range2, ri_enum, r_comp, startD, look_d, looks_nil, looks_d, datas_nil, datas_d, tru_b, tru_i, List.length_cons, List.length_nil, List.getElem?_cons_zero, List.getElem?_cons_succ, List.set_cons_zero, List.set_cons_succ, Option.map_some, List.map_cons, List.map_nil, Nat.reduceAdd, Nat.reduceSub, Nat.reduceEqDiff, List.reduceReplicate, List.cons_append, List.nil_append, List.append_nil, true_and, and_true, Bool.not_true]
    exact ⟨⟨F, _, _, _, _, hF, rfl⟩, h⟩
  | false =>
    have hpos : 0 < F.length := List.length_pos_iff.mpr fun z => by rw [z] at hfe; cases hfe
    have hfew := hF.few
    simp only [r1_some, r2_some, r1_none, r_var, r_c, r_op, r_fz, r_bval, r_btru, r_band, r_bor, r_bnot, r_if, r_and, r_or, r_not, r_nil, r_cons, r_tup, r_lst, r_lstN, r_cb, r_is, r_call, r_neg, r_chain, r_ixC, ro_no, ro_some, r_sl, rt_nm, rs_next, rs_ret, rs_seq, rs_if, rs_asg, rs_asgT, rs_par, rt_nil, rt_cons, rt_tp, ri_data, ri_range1, ri_range2, ri_enum, r_comp, startD, look_d, looks_nil, looks_d, datas_nil, datas_d, tru_b, tru_i, List.length_cons, List.length_nil, List.getElem?_cons_zero, List.getElem?_cons_succ, List.set_cons_zero, List.set_cons_succ, Option.map_some, List.map_cons, List.map_nil, Nat.reduceAdd, Nat.reduceSub, Nat.reduceEqDiff, List.reduceReplicate, List.cons_append, List.nil_append, List.append_nil, true_and, and_true, Bool.not_false]
    refine (take_sp (by decide) (by decide) h).mono fun v s1 hv => ?_
    obtain ⟨⟨z, rfl, z0, z1⟩, h1⟩ := hv
    simp only [r1_some, r2_some, r1_none, r_var, r_c, r_op, r_fz, r_bval, r_btru, r_band, r_bor, r_bnot, r_if, r_and, r_or, r_not, r_nil, r_cons, r_tup, r_lst, r_lstN, r_cb, r_is, r_call, r_neg, r_chain, r_ixC, ro_no, ro_some, r_sl, rt_nm, rs_next, rs_ret, rs_seq, rs_if, rs_asg, rs_asgT, rs_par, rt_nil, rt_cons, rt_tp, ri_data, ri_range1, ri_range2, ri_enum, r_comp, startD, look_d, looks_nil, looks_d, datas_nil, datas_d, tru_b, tru_i, List.length_cons, List.length_nil, List.getElem?_cons_zero, List.getElem?_cons_succ, List.set_cons_zero, List.set_cons_succ, Option.map_some, List.map_cons, List.map_nil, Nat.reduceAdd, Nat.reduceSub, Nat.reduceEqDiff, List.reduceReplicate, List.cons_append, List.nil_append, List.append_nil, true_and, and_true, gEq_int]
    by_cases hz : z = 0
    · simp only [hz, decide_true]
      simp only [r1_some, r2_some, r1_none, r_var, r_c, r_op, r_fz, r_bval, r_btru, r_band, r_bor, r_bnot, r_if, r_and, r_or, r_not, r_nil, r_cons, r_tup, r_lst, r_lstN, r_cb, r_is, r_call, r_neg, r_chain, r_ixC, ro_no, ro_some, r_sl, rt_nm, rs_next, rs_ret, rs_seq, rs_if, rs_asg, rs_asgT, rs_par, rt_nil, rt_cons, rt_tp, ri_data, ri_range1, ri_range2, ri_enum, r_comp, startD, look_d, looks_nil, looks_d, datas_nil, datas_d, tru_b, tru_i, List.length_cons, List.length_nil, List.getElem?_cons_zero, List.getElem?_cons_succ, List.set_cons_zero, List.set_cons_succ, Option.map_some, List.map_cons, List.map_nil, Nat.reduceAdd, Nat.reduceSub, Nat.reduceEqDiff, List.reduceReplicate, List.cons_append, List.nil_append, List.append_nil, true_and, and_true, gLen_tuple, List.length_map]
      refine (take_sp (by omega) (by omega) h1).mono fun v s2 hv => ?_
      obtain ⟨⟨a, rfl, a0, a1⟩, h2⟩ := hv
      obtain ⟨i, rfl⟩ := Int.eq_ofNat_of_zero_le a0
      have hi : i < F.length := by omega
      have ei : F[i]? = some F[i] := List.getElem?_eq_getElem hi
      have e1 : gIx (.tuple (F.map tp)) (.int i) = some (tp F[i]) := by rw [gIx_tuple, atI_nat_, List.getElem?_map, ei]; rfl
      have hn := hF.num _ (List.getElem_mem hi)
      simp only [r1_some, r2_some, r1_none, r_var, r_c, r_op, r_fz, r_bval, r_btru, r_band, r_bor, r_bnot, r_if, r_and, r_or, r_not, r_nil, r_cons, r_tup, r_lst, r_lstN, r_cb, r_is, r_call, r_neg, r_chain, r_ixC, ro_no, ro_some, r_sl, rt_nm, rs_next, rs_ret, rs_seq, rs_if, rs_asg, rs_asgT, rs_par, rt_nil, rt_cons, rt_tp, ri_data, ri_range1, ri_range2, ri_enum, r_comp, startD, look_d, looks_nil, looks_d, datas_nil, datas_d, tru_b, tru_i, List.length_cons, List.length_nil, List.getElem?_cons_zero, List.getElem?_cons_succ, List.set_cons_zero, List.set_cons_succ, Option.map_some, List.map_cons, List.map_nil, Nat.reduceAdd, Nat.reduceSub, Nat.reduceEqDiff, List.reduceReplicate, List.cons_append, List.nil_append, List.append_nil, true_and, and_true, e1]
      unfold tp
      simp only [r1_some, r2_some, r1_none, r_var, r_c, r_op, r_fz, r_bval, r_btru, r_band, r_bor, r_bnot, r_if, r_and, r_or, r_not, r_nil, r_cons, r_tup, r_lst, r_lstN, r_cb, r_is, r_call, r_neg, r_chain, r_ixC, ro_no, ro_some, r_sl, rt_nm, rs_next, rs_ret, rs_seq, rs_if, rs_asg, rs_asgT, rs_par, rt_nil, rt_cons, rt_tp, ri_data, ri_range1, ri_range2, ri_enum, r_comp, startD, look_d, looks_nil, looks_d, datas_nil, datas_d, tru_b, tru_i, List.length_cons, List.length_nil, List.getElem?_cons_zero, List.getElem?_cons_succ, List.set_cons_zero, List.set_cons_succ, Option.map_some, List.map_cons, List.map_nil, Nat.reduceAdd, Nat.reduceSub, Nat.reduceEqDiff, List.reduceReplicate, List.cons_append, List.nil_append, List.append_nil, true_and, and_true, k5, gAdd_int, gMin2, i5]
      refine (someJ0 (by simp) (by simp) h2).mono fun v3 s3 hv => ?_
      obtain ⟨x, rfl, hx, _, h3⟩ := hv
      obtain ⟨n, rfl, hn2⟩ : ∃ n : Int, x = .int n ∧ 0 ≤ n ∧ n ≤ 999999999 := by
        simp only [List.mem_cons, List.not_mem_nil, or_false] at hx
        rcases hx with rfl | rfl | rfl | rfl | rfl
        · exact ⟨_, rfl, by decide, by decide⟩
        · exact ⟨_, rfl, hn⟩
        · exact ⟨_, rfl, by omega, by omega⟩
        · refine ⟨_, rfl, ?_, ?_⟩ <;> (split <;> omega)
        · exact ⟨_, rfl, by decide, by decide⟩
      have e2 : gAdd (.int i) (.int 1) = some (.int ((i + 1 : Nat) : Int)) := by rw [gAdd_int]; congr 2
      have tpe : (fun t : Tick => PyData.tuple [.tuple (t.1.map .int), .int t.2]) = tp := rfl
      simp only [tpe, r1_some, r2_some, r1_none, r_var, r_c, r_op, r_fz, r_bval, r_btru, r_band, r_bor, r_bnot, r_if, r_and, r_or, r_not, r_nil, r_cons, r_tup, r_lst, r_lstN, r_cb, r_is, r_call, r_neg, r_chain, r_ixC, ro_no, ro_some, r_sl, rt_nm, rs_next, rs_ret, rs_seq, rs_if, rs_asg, rs_asgT, rs_par, rt_nil, rt_cons, rt_tp, ri_data, ri_range1, ri_range2, ri_enum, r_comp, startD, look_d, looks_nil, looks_d, datas_nil, datas_d, tru_b, tru_i, List.length_cons, List.length_nil, List.getElem?_cons_zero, List.getElem?_cons_succ, List.set_cons_zero, List.set_cons_succ, Option.map_some, List.map_cons, List.map_nil, Nat.reduceAdd, Nat.reduceSub, Nat.reduceEqDiff, List.reduceReplicate, List.cons_append, List.nil_append, List.append_nil, true_and, and_true, gSl_toT, e2, gSl_fromT, i2, i1]
      rw [gAdd_fitT (by simp only [List.length_take, List.length_map, List.length_cons, List.length_nil]; omega), r1_some]
      simp only [r1_some, r2_some, r1_none, r_var, r_c, r_op, r_fz, r_bval, r_btru, r_band, r_bor, r_bnot, r_if, r_and, r_or, r_not, r_nil, r_cons, r_tup, r_lst, r_lstN, r_cb, r_is, r_call, r_neg, r_chain, r_ixC, ro_no, ro_some, r_sl, rt_nm, rs_next, rs_ret, rs_seq, rs_if, rs_asg, rs_asgT, rs_par, rt_nil, rt_cons, rt_tp, ri_data, ri_range1, ri_range2, ri_enum, r_comp, startD, look_d, looks_nil, looks_d, datas_nil, datas_d, tru_b, tru_i, List.length_cons, List.length_nil, List.getElem?_cons_zero, List.getElem?_cons_succ, List.set_cons_zero, List.set_cons_succ, Option.map_some, List.map_cons, List.map_nil, Nat.reduceAdd, Nat.reduceSub, Nat.reduceEqDiff, List.reduceReplicate, List.cons_append, List.nil_append, List.append_nil, true_and, and_true, gSl_toT, e2, gSl_fromT, i2, i1]
      rw [gAdd_fitT (by simp only [List.length_append, List.length_drop, List.length_take, List.length_map, List.length_cons, List.length_nil]; omega), r1_some]
      have ed : (F.map tp).take i ++ [PyData.tuple [.tuple (F[i].1.map .int), .int n]] ++ (F.map tp).drop (i + 1) = (lessP F F[i].1 n).map tp := by
        rw [less_at hF.lok.nod ei, List.map_append, List.map_cons, List.map_take, List.map_drop]
        simp [tp]
      simp only [r1_some, r2_some, r1_none, r_var, r_c, r_op, r_fz, r_bval, r_btru, r_band, r_bor, r_bnot, r_if, r_and, r_or, r_not, r_nil, r_cons, r_tup, r_lst, r_lstN, r_cb, r_is, r_call, r_neg, r_chain, r_ixC, ro_no, ro_some, r_sl, rt_nm, rs_next, rs_ret, rs_seq, rs_if, rs_asg, rs_asgT, rs_par, rt_nil, rt_cons, rt_tp, ri_data, ri_range1, ri_range2, ri_enum, r_comp, startD, look_d, looks_nil, looks_d, datas_nil, datas_d, tru_b, tru_i, List.length_cons, List.length_nil, List.getElem?_cons_zero, List.getElem?_cons_succ, List.set_cons_zero, List.set_cons_succ, Option.map_some, List.map_cons, List.map_nil, Nat.reduceAdd, Nat.reduceSub, Nat.reduceEqDiff, List.reduceReplicate, List.cons_append, List.nil_append, List.append_nil, true_and, and_true]
      rw [ed, lessened_eq hF.f]
      have hle := hF.less (l := F[i].1) hn2
      simp only [r1_some, r2_some, r1_none, r_var, r_c, r_op, r_fz, r_bval, r_btru, r_band, r_bor, r_bnot, r_if, r_and, r_or, r_not, r_nil, r_cons, r_tup, r_lst, r_lstN, r_cb, r_is, r_call, r_neg, r_chain, r_ixC, ro_no, ro_some, r_sl, rt_nm, rs_next, rs_ret, rs_seq, rs_if, rs_asg, rs_asgT, rs_par, rt_nil, rt_cons, rt_tp, ri_data, ri_range1, ri_range2, ri_enum, r_comp, startD, look_d, looks_nil, looks_d, datas_nil, datas_d, tru_b, tru_i, List.length_cons, List.length_nil, List.getElem?_cons_zero, List.getElem?_cons_succ, List.set_cons_zero, List.set_cons_succ, Option.map_some, List.map_cons, List.map_nil, Nat.reduceAdd, Nat.reduceSub, Nat.reduceEqDiff, List.reduceReplicate, List.cons_append, List.nil_append, List.append_nil, true_and, and_true]
      rw [alike_of hle.nic (by decide) (by decide)]
      simp only [r1_some, r2_some, r1_none, r_var, r_c, r_op, r_fz, r_bval, r_btru, r_band, r_bor, r_bnot, r_if, r_and, r_or, r_not, r_nil, r_cons, r_tup, r_lst, r_lstN, r_cb, r_is, r_call, r_neg, r_chain, r_ixC, ro_no, ro_some, r_sl, rt_nm, rs_next, rs_ret, rs_seq, rs_if, rs_asg, rs_asgT, rs_par, rt_nil, rt_cons, rt_tp, ri_data, ri_range1, ri_range2, ri_enum, r_comp, startD, look_d, looks_nil, looks_d, datas_nil, datas_d, tru_b, tru_i, List.length_cons, List.length_nil, List.getElem?_cons_zero, List.getElem?_cons_succ, List.set_cons_zero, List.set_cons_succ, Option.map_some, List.map_cons, List.map_nil, Nat.reduceAdd, Nat.reduceSub, Nat.reduceEqDiff, List.reduceReplicate, List.cons_append, List.nil_append, List.append_nil, true_and, and_true, Bool.not_true]
      refine (take_sp (by decide) (by decide) h3).mono fun v s4 hv => ?_
      obtain ⟨⟨y, rfl, y0, y1⟩, h4⟩ := hv
      simp only [r1_some, r2_some, r1_none, r_var, r_c, r_op, r_fz, r_bval, r_btru, r_band, r_bor, r_bnot, r_if, r_and, r_or, r_not, r_nil, r_cons, r_tup, r_lst, r_lstN, r_cb, r_is, r_call, r_neg, r_chain, r_ixC, ro_no, ro_some, r_sl, rt_nm, rs_next, rs_ret, rs_seq, rs_if, rs_asg, rs_asgT, rs_par, rt_nil, rt_cons, rt_tp, ri_data, ri_range1, ri_range2, ri_enum, r_comp, startD, look_d, looks_nil, looks_d, datas_nil, datas_d, tru_b, tru_i, List.length_cons, List.length_nil, List.getElem?_cons_zero, List.getElem?_cons_succ, List.set_cons_zero, List.set_cons_succ, Option.map_some, List.map_cons, List.map_nil, Nat.reduceAdd, Nat.reduceSub, Nat.reduceEqDiff, List.reduceReplicate, List.cons_append, List.nil_append, List.append_nil, true_and, and_true, gEq_int]
      by_cases hy : y = 0
      · simp only [hy, decide_true]
        exact ⟨⟨_, _, _, _, _, hle, rfl⟩, h4⟩
      · simp only [hy, decide_false]
        exact ⟨⟨_, _, _, _, _, hF, rfl⟩, h4⟩
    · simp only [hz, decide_false]
      exact ⟨⟨F, _, _, _, _, hF, rfl⟩, h1⟩
end
end D06

set_option Elab.async false
set_option linter.all false
set_option maxRecDepth 100000
set_option maxHeartbeats 4000000
namespace D06
open PySem PySem.Spec PyProof.Rows L2 Pg Dl Gs
variable {tb : Cell} {st s : Sto}
section
variable {P : Addr} {F : List Tick} {pg : List Int} {w0 w2 w3 w4 w5 w6 w7 w8 w9 w10 w11 : Option Vd}
theorem step_ok (hF : Fo F) (hpg : pg.length ≤ 900) (hp0 : pg ≠ []) (h : BagS (.tbl P lamQ) [] st) :
    R1 (stepS P [w0, some (.r 1), w2, some (.d (.list (pg.map .int))), some (.d (.tuple (F.map tp))), w5, w6, w7, w8, w9, w10, w11] st) fun o => match o with
      | .nx ρ s => (∃ F w6 w7 w8 w9 w10 w11, Fo F ∧ ρ = [w0, some (.r 1), w2, some (.d (.list (pg.map .int))), some (.d (.tuple (F.map tp))), w5, w6, w7, w8, w9, w10, w11]) ∧ BagS (.tbl P lamQ) [] s
      | _ => False := by
  unfold stepS
  rw [rs_seq]
  refine R1.mono (pages_ok hF (by omega) hp0 h) fun o ho => ?_
  obtain ⟨u6, rfl⟩ := ho
  dsimp only
  have hs := sp_ok (P := P) (w0 := w0) (w2 := w2) (w5 := w5) (w6 := u6) (w7 := w7) (w8 := w8) (w9 := w9) (w10 := w10) (w11 := w11) hF (pg := pg) (by omega) h
  rw [rs_seq] at hs
  rw [rs_seq]
  refine R1.mono hs fun o ho => ?_
  cases o with
  | nx ρ s1 =>
    dsimp only at ho ⊢
    rw [rs_seq]
    refine R1.mono ho fun o ho => ?_
    cases o with
    | nx ρ s2 =>
      obtain ⟨⟨F2, u6, u7, u8, hF2, rfl⟩, h2⟩ := ho
      dsimp only
      refine R1.mono (le_ok hF2 h2) fun o ho => ?_
      cases o with
      | nx ρ s3 =>
        obtain ⟨⟨F3, _, _, _, _, hF3, rfl⟩, h3⟩ := ho
        exact ⟨⟨F3, _, _, _, _, _, _, hF3, rfl⟩, h3⟩
      | _ => exact ho.elim
    | _ => exact ho.elim
  | _ => exact ho.elim
theorem turn_ok (h : BagS (.tbl P lamQ) [] st) : R1 (turnS P [w0, some (.r 1), w2, w3, w4, w5, w6, w7, w8, w9, w10, w11] st) fun o => match o with
      | .nx ρ s => (∃ w3 w4 w5 w6 w7 w8 w9 w10 w11, ρ = [w0, some (.r 1), w2, w3, w4, w5, w6, w7, w8, w9, w10, w11]) ∧ BagS (.tbl P lamQ) [] s
      | _ => False := by
  have i6 : (6 : Nat) ≤ sizeLine := by decide
  unfold turnS
  simp only [r1_some, r2_some, r1_none, r_var, r_c, r_op, r_fz, r_bval, r_btru, r_band, r_bor, r_bnot, r_if, r_and, r_or, r_not, r_nil, r_cons, r_tup, r_lst, r_lstN, r_cb, r_is, r_call, r_neg, r_chain, r_ixC, ro_no, ro_some, r_sl, rt_nm, rs_next, rs_ret, rs_seq, rs_if, rs_asg, rs_asgT, rs_par, rt_nil, rt_cons, rt_tp, ri_data, ri_range1, ri_range2, ri_enum, r_comp, startD, look_d, looks_nil, looks_d, datas_nil, datas_d, tru_b, tru_i, List.length_cons, List.length_nil, List.getElem?_cons_zero, List.getElem?_cons_succ, List.set_cons_zero, List.set_cons_succ, Option.map_some, List.map_cons, List.map_nil, Nat.reduceAdd, Nat.reduceSub, Nat.reduceEqDiff, List.reduceReplicate, List.cons_append, List.nil_append, List.append_nil, true_and, and_true, i6]
  refine (someJ0 (by decide) (by decide) h).mono fun v s1 hv => ?_
  obtain ⟨x, rfl, hx, _, h1⟩ := hv
  obtain ⟨n, rfl, hn0, hn⟩ : ∃ n : Nat, x = .int n ∧ 1 ≤ n ∧ n ≤ 12 := by
    simp only [List.mem_cons, List.not_mem_nil, or_false] at hx
    rcases hx with rfl | rfl | rfl | rfl | rfl | rfl
    · exact ⟨1, rfl, by decide, by decide⟩
    · exact ⟨2, rfl, by decide, by decide⟩
    · exact ⟨3, rfl, by decide, by decide⟩
    · exact ⟨4, rfl, by decide, by decide⟩
    · exact ⟨6, rfl, by decide, by decide⟩
    · exact ⟨12, rfl, by decide, by decide⟩
  simp only [r1_some, r2_some, r1_none, r_var, r_c, r_op, r_fz, r_bval, r_btru, r_band, r_bor, r_bnot, r_if, r_and, r_or, r_not, r_nil, r_cons, r_tup, r_lst, r_lstN, r_cb, r_is, r_call, r_neg, r_chain, r_ixC, ro_no, ro_some, r_sl, rt_nm, rs_next, rs_ret, rs_seq, rs_if, rs_asg, rs_asgT, rs_par, rt_nil, rt_cons, rt_tp, ri_data, ri_range1, ri_range2, ri_enum, r_comp, startD, look_d, looks_nil, looks_d, datas_nil, datas_d, tru_b, tru_i, List.length_cons, List.length_nil, List.getElem?_cons_zero, List.getElem?_cons_succ, List.set_cons_zero, List.set_cons_succ, Option.map_some, List.map_cons, List.map_nil, Nat.reduceAdd, Nat.reduceSub, Nat.reduceEqDiff, List.reduceReplicate, List.cons_append, List.nil_append, List.append_nil, true_and, and_true]
  refine (pgs_sp (by omega) h1).mono fun v s2 hv => ?_
  obtain ⟨⟨a, b, a0, a1, b0, b1, rfl⟩, h2⟩ := hv
  have hnd := pagesL_nodup (a := a) (n := n) b0
  have hbd := pagesL_bd a0 a1 b0 b1 (show n ≤ 40 by omega)
  have hlen : (pagesL a b n).length = n := pagesL_len
  generalize pagesL a b n = pg at hnd hbd hlen
  have hp0 : pg ≠ [] := fun e => by rw [e] at hlen; simp at hlen; omega
  simp only [r1_some, r2_some, r1_none, r_var, r_c, r_op, r_fz, r_bval, r_btru, r_band, r_bor, r_bnot, r_if, r_and, r_or, r_not, r_nil, r_cons, r_tup, r_lst, r_lstN, r_cb, r_is, r_call, r_neg, r_chain, r_ixC, ro_no, ro_some, r_sl, rt_nm, rs_next, rs_ret, rs_seq, rs_if, rs_asg, rs_asgT, rs_par, rt_nil, rt_cons, rt_tp, ri_data, ri_range1, ri_range2, ri_enum, r_comp, startD, look_d, looks_nil, looks_d, datas_nil, datas_d, tru_b, tru_i, List.length_cons, List.length_nil, List.getElem?_cons_zero, List.getElem?_cons_succ, List.set_cons_zero, List.set_cons_succ, Option.map_some, List.map_cons, List.map_nil, Nat.reduceAdd, Nat.reduceSub, Nat.reduceEqDiff, List.reduceReplicate, List.cons_append, List.nil_append, List.append_nil, true_and, and_true]
  refine (take_sp (by decide) (by decide) h2).mono fun v s3 hv => ?_
  obtain ⟨⟨z, rfl, z0, z1⟩, h3⟩ := hv
  simp only [r1_some, r2_some, r1_none, r_var, r_c, r_op, r_fz, r_bval, r_btru, r_band, r_bor, r_bnot, r_if, r_and, r_or, r_not, r_nil, r_cons, r_tup, r_lst, r_lstN, r_cb, r_is, r_call, r_neg, r_chain, r_ixC, ro_no, ro_some, r_sl, rt_nm, rs_next, rs_ret, rs_seq, rs_if, rs_asg, rs_asgT, rs_par, rt_nil, rt_cons, rt_tp, ri_data, ri_range1, ri_range2, ri_enum, r_comp, startD, look_d, looks_nil, looks_d, datas_nil, datas_d, tru_b, tru_i, List.length_cons, List.length_nil, List.getElem?_cons_zero, List.getElem?_cons_succ, List.set_cons_zero, List.set_cons_succ, Option.map_some, List.map_cons, List.map_nil, Nat.reduceAdd, Nat.reduceSub, Nat.reduceEqDiff, List.reduceReplicate, List.cons_append, List.nil_append, List.append_nil, true_and, and_true, gEq_int]
  refine (forest_sp (lim := 10) tclo (fun c hc => absurd hc (by simp)) (by omega) hnd (by decide) h3).mono fun v s4 hv => ?_
  obtain ⟨⟨F, rfl, hFO⟩, h4⟩ := hv
  have hF : Fo F := ⟨hFO.few, hFO.num, nic_forest hFO (by decide) (by omega) (fun p hp => by have := hbd p hp; omega), hFO.lots⟩
  simp only [r1_some, r2_some, r1_none, r_var, r_c, r_op, r_fz, r_bval, r_btru, r_band, r_bor, r_bnot, r_if, r_and, r_or, r_not, r_nil, r_cons, r_tup, r_lst, r_lstN, r_cb, r_is, r_call, r_neg, r_chain, r_ixC, ro_no, ro_some, r_sl, rt_nm, rs_next, rs_ret, rs_seq, rs_if, rs_asg, rs_asgT, rs_par, rt_nil, rt_cons, rt_tp, ri_data, ri_range1, ri_range2, ri_enum, r_comp, startD, look_d, looks_nil, looks_d, datas_nil, datas_d, tru_b, tru_i, List.length_cons, List.length_nil, List.getElem?_cons_zero, List.getElem?_cons_succ, List.set_cons_zero, List.set_cons_succ, Option.map_some, List.map_cons, List.map_nil, Nat.reduceAdd, Nat.reduceSub, Nat.reduceEqDiff, List.reduceReplicate, List.cons_append, List.nil_append, List.append_nil, true_and, and_true]
  refine R1.mono (askA_ok hF h4) fun o ho => ?_
  subst ho
  dsimp only
  unfold stepsS
  rw [rs_for]
  simp only [r1_some, r2_some, r1_none, r_var, r_c, r_op, r_fz, r_bval, r_btru, r_band, r_bor, r_bnot, r_if, r_and, r_or, r_not, r_nil, r_cons, r_tup, r_lst, r_lstN, r_cb, r_is, r_call, r_neg, r_chain, r_ixC, ro_no, ro_some, r_sl, rt_nm, rs_next, rs_ret, rs_seq, rs_if, rs_asg, rs_asgT, rs_par, rt_nil, rt_cons, rt_tp, ri_data, ri_range1, ri_range2, ri_enum, r_comp, startD, look_d, looks_nil, looks_d, datas_nil, datas_d, tru_b, tru_i, List.length_cons, List.length_nil, List.getElem?_cons_zero, List.getElem?_cons_succ, List.set_cons_zero, List.set_cons_succ, Option.map_some, List.map_cons, List.map_nil, Nat.reduceAdd, Nat.reduceSub, Nat.reduceEqDiff, List.reduceReplicate, List.cons_append, List.nil_append, List.append_nil, true_and, and_true]
  refine ⟨by decide, by decide, R1.mono (for_cnt (n := 6) (I := fun _ ρ s => (∃ F w5 w6 w7 w8 w9 w10 w11, Fo F ∧ ρ = [w0, some (.r 1), w2, some (.d (.list (pg.map .int))), some (.d (.tuple (F.map tp))), w5, w6, w7, w8, w9, w10, w11]) ∧ BagS (.tbl P lamQ) [] s) (fun j u ρ st hj hI => ?_) (i := 0) (by simp) ⟨⟨F, _, _, _, _, _, _, _, hF, rfl⟩, h4⟩) fun o ho => ?_⟩
  · obtain ⟨⟨F, w5, w6, w7, w8, w9, w10, w11, hF, rfl⟩, h5⟩ := hI
    simp only [rt_nm, List.set_cons_zero, List.set_cons_succ]
    refine R1.mono (step_ok hF (by omega) hp0 h5) fun o ho => ?_
    cases o with
    | nx ρ s =>
      obtain ⟨⟨F, _, _, _, _, _, _, hF, rfl⟩, h6⟩ := ho
      exact ⟨⟨F, _, _, _, _, _, _, _, hF, rfl⟩, h6⟩
    | _ => exact ho.elim
  · cases o with
    | nx ρ s =>
      obtain ⟨⟨F, _, _, _, _, _, _, _, hF, rfl⟩, h6⟩ := ho
      exact ⟨⟨_, _, _, _, _, _, _, _, _, rfl⟩, h6⟩
    | _ => exact ho.elim
end
noncomputable abbrev fLawP (P : Addr) : FF := fPLaw fBag fTake fAlike fPLessened (fSome fTake) fPSpent fSpentDue fLetsDue fPLets fHas (fHP P) fWithDue (fTW P) fAroundsDue (fAr P) fFor fPgs
theorem law_sp (P : Addr) (ns : List Int) : R2 (fLawP P [.d (.list (ns.map .int))] [.tbl P lamQ]) fun v _ => v = .d (.bool true) := by
  refine rf_of ?_
  unfold gPLaw gPLaw_1
  rw [rs_seq]
  simp only [r1_some, r2_some, r1_none, r_var, r_c, r_op, r_fz, r_bval, r_btru, r_band, r_bor, r_bnot, r_if, r_and, r_or, r_not, r_nil, r_cons, r_tup, r_lst, r_lstN, r_cb, r_is, r_call, r_neg, r_chain, r_ixC, ro_no, ro_some, r_sl, rt_nm, rs_next, rs_ret, rs_seq, rs_if, rs_asg, rs_asgT, rs_par, rt_nil, rt_cons, rt_tp, ri_data, ri_range1, ri_range2, ri_enum, r_comp, startD, look_d, looks_nil, looks_d, datas_nil, datas_d, tru_b, tru_i, List.length_cons, List.length_nil, List.getElem?_cons_zero, List.getElem?_cons_succ, List.set_cons_zero, List.set_cons_succ, Option.map_some, List.map_cons, List.map_nil, Nat.reduceAdd, Nat.reduceSub, Nat.reduceEqDiff, List.reduceReplicate, List.cons_append, List.nil_append, List.append_nil, true_and, and_true]
  refine (bag_sp (tb := .tbl P lamQ) ns).mono fun v s hv => ?_
  obtain ⟨rfl, hs⟩ := hv
  simp only [r1_some, r2_some, r1_none, r_var, r_c, r_op, r_fz, r_bval, r_btru, r_band, r_bor, r_bnot, r_if, r_and, r_or, r_not, r_nil, r_cons, r_tup, r_lst, r_lstN, r_cb, r_is, r_call, r_neg, r_chain, r_ixC, ro_no, ro_some, r_sl, rt_nm, rs_next, rs_ret, rs_seq, rs_if, rs_asg, rs_asgT, rs_par, rt_nil, rt_cons, rt_tp, ri_data, ri_range1, ri_range2, ri_enum, r_comp, startD, look_d, looks_nil, looks_d, datas_nil, datas_d, tru_b, tru_i, List.length_cons, List.length_nil, List.getElem?_cons_zero, List.getElem?_cons_succ, List.set_cons_zero, List.set_cons_succ, Option.map_some, List.map_cons, List.map_nil, Nat.reduceAdd, Nat.reduceSub, Nat.reduceEqDiff, List.reduceReplicate, List.cons_append, List.nil_append, List.append_nil, true_and, and_true]
  refine R1.mono (P := fun o : Out => match o with
      | .nx _ s => BagS (.tbl P lamQ) [] s
      | _ => False) (show R1 (law2 P [some (.d (.list (ns.map .int))), some (.r 1), none, none, none, none, none, none, none, none, none, none] s) _ from ?_) fun o ho => ?_
  · rw [law2_eq, rs_for]
    simp only [r1_some, r2_some, r1_none, r_var, r_c, r_op, r_fz, r_bval, r_btru, r_band, r_bor, r_bnot, r_if, r_and, r_or, r_not, r_nil, r_cons, r_tup, r_lst, r_lstN, r_cb, r_is, r_call, r_neg, r_chain, r_ixC, ro_no, ro_some, r_sl, rt_nm, rs_next, rs_ret, rs_seq, rs_if, rs_asg, rs_asgT, rs_par, rt_nil, rt_cons, rt_tp, ri_data, ri_range1, ri_range2, ri_enum, r_comp, startD, look_d, looks_nil, looks_d, datas_nil, datas_d, tru_b, tru_i, List.length_cons, List.length_nil, List.getElem?_cons_zero, List.getElem?_cons_succ, List.set_cons_zero, List.set_cons_succ, Option.map_some, List.map_cons, List.map_nil, Nat.reduceAdd, Nat.reduceSub, Nat.reduceEqDiff, List.reduceReplicate, List.cons_append, List.nil_append, List.append_nil, true_and, and_true]
    refine ⟨by decide, by decide, R1.mono (for_cnt (n := 8) (I := fun _ ρ s => (∃ w2 w3 w4 w5 w6 w7 w8 w9 w10 w11, ρ = [some (.d (.list (ns.map .int))), some (.r 1), w2, w3, w4, w5, w6, w7, w8, w9, w10, w11]) ∧ BagS (.tbl P lamQ) [] s) (fun j u ρ st hj hI => ?_) (i := 0) (by simp) ⟨⟨_, _, _, _, _, _, _, _, _, _, rfl⟩, hs⟩) fun o ho => ?_⟩
    · obtain ⟨⟨w2, w3, w4, w5, w6, w7, w8, w9, w10, w11, rfl⟩, h1⟩ := hI
      simp only [rt_nm, List.set_cons_zero, List.set_cons_succ]
      refine R1.mono (turn_ok h1) fun o ho => ?_
      cases o with
      | nx ρ s =>
        obtain ⟨⟨_, _, _, _, _, _, _, _, _, rfl⟩, h2⟩ := ho
        exact ⟨⟨_, _, _, _, _, _, _, _, _, _, rfl⟩, h2⟩
      | _ => exact ho.elim
    · cases o with
      | nx ρ s => exact ho.2
      | _ => exact ho.elim
  · cases o with
    | nx ρ s =>
      have h2 : BagS (.tbl P lamQ) [] s := ho
      unfold gPLaw_3
      simp only [r1_some, r2_some, r1_none, r_var, r_c, r_op, r_fz, r_bval, r_btru, r_band, r_bor, r_bnot, r_if, r_and, r_or, r_not, r_nil, r_cons, r_tup, r_lst, r_lstN, r_cb, r_is, r_call, r_neg, r_chain, r_ixC, ro_no, ro_some, r_sl, rt_nm, rs_next, rs_ret, rs_seq, rs_if, rs_asg, rs_asgT, rs_par, rt_nil, rt_cons, rt_tp, ri_data, ri_range1, ri_range2, ri_enum, r_comp, startD, look_d, looks_nil, looks_d, datas_nil, datas_d, tru_b, tru_i, List.length_cons, List.length_nil, List.getElem?_cons_zero, List.getElem?_cons_succ, List.set_cons_zero, List.set_cons_succ, Option.map_some, List.map_cons, List.map_nil, Nat.reduceAdd, Nat.reduceSub, Nat.reduceEqDiff, List.reduceReplicate, List.cons_append, List.nil_append, List.append_nil, true_and, and_true]
      rw [h2.len]
      simp
    | _ => exact ho.elim
end D06

set_option Elab.async false
set_option linter.all false
set_option maxRecDepth 100000
set_option maxHeartbeats 4000000
namespace Pg
open PySem PySem.Spec PyProof.Rows L2
/-! ### the end of a law's row, where a def makes a lambda -/
theorem law_goesT {Pr : Program} {w : World} {K : PySem.W.Frag} {mg mb : Str → Option Value} {k : Nat} {fa a c P : Addr} {fd : FuncData} {x : Str} {sp : Sp} {s₁ : Shared} {vs : List Value} {ns : List Int}
    (KX : K.In s₁.heap) (hns : s₁.heap.Ns mainGlobals mg) (hb : s₁.heap.Ns builtinsNs mb) (hbb : ∀ x : Str, x ≠ "__name__" → mb x = bootBuiltins x) (hlim : s₁.heap.NoLimit) (hg : s₁.gens = #[])
    (hT : s₁.heap.get? P = some { cls := .none, data := .fields #[] }) (nT : K.lookup P = none) (C : PySem.W.CodeHd s₁.heap c P)
    (hbm : ∃ (bm : Addr) (ob : Obj), mg "__builtins__" = some (.ref bm) ∧ bm ≠ builtinsNs ∧ s₁.heap.get? bm = some ob ∧ ob.cls = .type "module" ∧ ob.dict = some builtinsNs ∧ ob.data = .plain)
    (ha : s₁.heap.get? a = some { cls := .type "list", data := .seq vs.toArray }) (hi : IntsAre vs ns) (hl : ns.length ≤ sizeLine) (hr : Room k callerA)
    (F : ∀ base : Heap, K.In base → base.Ns mainGlobals mg → LamX.TabB base mg c P → FnG Pr w K mg base k fa fd [x] sp) (hbind : ∀ (s : Shared) (u : Value), BindsTo s fd ⟨[u], []⟩ [(x, u)])
    (hsp : ∀ H : Hp, H P = some (.tbl #[]) → SqL K H a (ns.map V.int) → sp [.ref a] H (fun v _ => v = .bl true) fun _ _ _ => False) :
    codeAny (model Pr w) callerA (.call (.ref fa) ⟨[.ref a], []⟩) (fun r s' => r = .ok (.ret (.bool true)) ∧ OldK s₁.heap s'.heap ∧ s'.os = s₁.os ∧ AllBare s'.gens) s₁ := by
  have rv := vals_ints hi
  have aP : a ≠ P := fun z => by
    rw [z, hT] at ha
    have z' : Data.fields #[] = Data.seq vs.toArray _ := congrArg Obj.data (Option.some.inj ha)
    cases z'
  have main : ∀ H : Hp, H P = some (.tbl #[]) → (∀ b, H b = none ∨ b = P ∨ (b = a ∧ K.lookup a = none ∧ ∃ o xs, H b = some (.frz o (.lst xs)))) → SqL K H a (ns.map V.int) → HOk Pr w H s₁.heap →
      codeAny (model Pr w) callerA (.call (.ref fa) ⟨[.ref a], []⟩) (fun r s' => r = .ok (.ret (.bool true)) ∧ OldK s₁.heap s'.heap ∧ s'.os = s₁.os ∧ AllBare s'.gens) s₁ := by
    intro H hP hO hS ok
    have free : ∀ {b : Addr} {o : Obj} {es : Array DictEntry} {ep : Nat}, s₁.heap.get? b = some o → o.data = .dict es ep → H b = none := fun {b o es ep} e d => by
      rcases hO b with z | rfl | ⟨rfl, _, _⟩
      · exact z
      · rw [hT] at e
        cases e
        exact nomatch (show Data.fields #[] = Data.dict es ep from d)
      · rw [ha] at e
        cases e
        exact nomatch (show Data.seq vs.toArray _ = Data.dict es ep from d)
    have ns' : ∀ {b : Addr} {m : Str → Option Value}, s₁.heap.Ns b m → (hidT s₁.heap H).Ns b m := fun {b m} ⟨o, es, ep, e, d, r⟩ => ⟨o, es, ep, hidT_get e (free e d), d, r⟩
    have kb : K.In (hidT s₁.heap H) := fun b o e => hidT_get (KX b o e) (by
      rcases hO b with z | rfl | ⟨rfl, z, _⟩
      · exact z
      · rw [nT] at e
        cases e
      · rw [z] at e
        cases e)
    obtain ⟨mc, l1, l2⟩ := hlim
    have plain : ∀ {b : Addr} {o : Obj}, s₁.heap.get? b = some o → (∀ vs n, o.data ≠ .seq vs n) → b ≠ P → H b = none := fun {b o} e h1 h2 => by
      rcases hO b with z | rfl | ⟨rfl, _, _⟩
      · exact z
      · exact absurd rfl h2
      · rw [ha] at e
        cases e
        exact (h1 _ _ rfl).elim
    have TB : LamX.TabB (hidT s₁.heap H) mg c P := by
      refine ⟨?_, ?_, fun z => ?_⟩
      · obtain ⟨o, us, file, tf, flags, tg, inF, text, tt, e1, r1, r2, r3, r4, r5, r6, r7, r8, hne⟩ := C
        exact ⟨o, us, file, tf, flags, tg, inF, text, tt, hidT_get e1 (plain e1 (fun vs n z => by rw [r2] at z; cases z) hne), r1, r2, r3, r4, r5, r6, r7, r8, hne⟩
      · obtain ⟨bm, ob, b1, b2, b3, b4, b5, b6⟩ := hbm
        have nG : bm ≠ mainGlobals := fun q => by
          obtain ⟨o, es, ep, e, hd, _⟩ := hns
          rw [q, e] at b3
          cases b3
          rw [hd] at b6
          cases b6
        have nP : bm ≠ P := fun q => by
          rw [q, hT] at b3
          cases b3
          cases b6
        exact ⟨bm, ob, b1, b2, nG, nP, hidT_get b3 (plain b3 (fun vs n z => by rw [b6] at z; cases z) nP), b4, b5, b6⟩
      · obtain ⟨o, es, ep, e, hd, _⟩ := hns
        rw [z, hT] at e
        cases e
        cases hd
    have e0 : Env0 Pr w K mg (hidT s₁.heap H) callerA [] s₁ H :=
      { frames := rfl, mod := ⟨kb, ns' hns, ⟨mb, ns' hb, hbb⟩, ⟨mc, ns' l1, l2⟩⟩, bs := fun b o e => of_hidT e, bsz := Nat.le_of_eq (hidT_size _ _), funs := trivial, frf := fun b z => (by cases z), hok := ok, bare := .of_eq hg }
    refine codeAny_mono ((F _ kb (ns' hns) TB).goes callerA [] s₁ H ⟨[.ref a], []⟩ [.ref a] [.ref a] _ _ rfl hr e0 (hbind s₁ (.ref a)) (.cons rfl .nil) (hsp H hP hS)) fun r s' h => ?_
    cases r with
    | error e => exact False.elim h
    | ok fl =>
      cases fl with
      | next => exact False.elim h
      | brk => exact False.elim h
      | cont => exact False.elim h
      | ret u =>
        obtain ⟨v, H', os, bare, un, ok', r', q⟩ := h
        have q' : v = .bl true := q
        subst q'
        have eu : u = Value.bool true := r'
        subst eu
        obtain ⟨more, hm0⟩ := un.tbls P #[] hP
        have hm : s'.heap.get? P = some { cls := .none, data := .fields (#[] ++ more) } := ok' P _ hm0
        rw [Array.empty_append] at hm
        have key : ∀ b o, b ≠ P → s₁.heap.get? b = some o → s'.heap.get? b = some o := fun b o nb e => by
          rcases hO b with z | z | ⟨rfl, _, ob, xs, z⟩
          · exact un.keep b o e z (fun m => nomatch m) (fun m => nomatch m)
          · exact absurd z nb
          · have z2 := un.frzs _ ob _ z
            obtain ⟨e1, _⟩ := ok _ _ z
            obtain ⟨e2, _⟩ := ok' _ _ z2
            rw [e] at e1
            cases e1
            exact e2
        refine ⟨rfl, ⟨fun b o e => ?_, fun b o e => ?_⟩, os, bare⟩
        · by_cases hb : b = P
          · subst hb
            rw [hT] at e
            cases e
            exact .inr (.inl ⟨(C.tab hT).isCodeTable, rfl, #[], more, rfl, by first | exact hm | (rw [Array.empty_append]; exact hm)⟩)
          · exact .inl (key b o hb e)
        · by_cases hb : b = P
          · subst hb
            exact ⟨_, hm⟩
          · exact ⟨o, key b o hb e⟩
  cases hk : K.lookup a with
  | some o =>
    have e := (KX a o hk).symm.trans ha
    cases e
    refine main (upd (fun _ => none) P (.tbl #[])) upd_same (fun b => ?_) (.inr ⟨_, vs.toArray, _, hk, rfl, rfl, rfl, ?_, by simpa using rv⟩) fun b u z => ?_
    · by_cases e : b = P
      · exact .inr (.inl e)
      · exact .inl (by rw [upd_ne e])
    · rw [List.size_toArray, hi.length]
      exact hl
    · by_cases e : b = P
      · subst e
        rw [upd_same] at z
        cases z
        exact hT
      · rw [upd_ne e] at z
        exact nomatch z
  | none =>
    let ob : Obj := { cls := .type "list", data := .seq vs.toArray }
    refine main (upd (upd (fun _ => none) a (.frz ob (.lst (ns.map V.int)))) P (.tbl #[])) upd_same (fun b => ?_) (.inl (.inr ⟨ob, by rw [upd_ne aP]; exact upd_same⟩)) fun b u z => ?_
    · by_cases e2 : b = P
      · exact .inr (.inl e2)
      · by_cases e : b = a
        · exact .inr (.inr ⟨e, hk, ob, _, by rw [upd_ne e2, e]; exact upd_same⟩)
        · exact .inl (by rw [upd_ne e2, upd_ne e])
    · by_cases e2 : b = P
      · subst e2
        rw [upd_same] at z
        cases z
        exact hT
      · rw [upd_ne e2] at z
        by_cases e : b = a
        · subst e
          rw [upd_same] at z
          cases z
          exact ⟨ha, by rw [List.length_map]; exact hl, vs, _, rv, ha⟩
        · rw [upd_ne e] at z
          exact nomatch z
/-- .. where the def nm makes a lambda -/
theorem walkGT {l : PySem.W.OpenLaw} {n k : Nat} {q : Program} {loose : List Str} {XP : (Str → Option Value) → Heap → Prop} {YP : World → Heap → Prop} {d : DefRec} {K : Params → PySem.W.Frag} {sp : PySem.W.Frag → Addr → Sp} {x nm : Str}
    (hn : l.most = some n) (hn2 : n ≤ sizeLine) (hdf : d.params.defaults = []) (hr : Room k callerA) (hrec : ((recsOf q).any fun e => e.name == nm) = true)
    (hY : ∀ (w : World) (h : Heap), YP w h → (K w.params).In h)
    (F : ∀ (w : World) (mg : Str → Option Value) (fa u c P : Addr) (o : Obj) (fdN : FuncData) (h : Heap), (K w.params).In h → h.Ns mainGlobals mg → mg d.name = some (.ref fa) → mg nm = some (.ref u) → h.get? u = some o → o.data = .func fdN → fdN.code = .ref c → h.TableAt c P #[] →
      (K w.params).lookup P = none ∧ ∃ fd : FuncData, (∀ (s : Shared) (v : Value), BindsTo s fd ⟨[v], []⟩ [(x, v)]) ∧
        ∀ base : Heap, (K w.params).In base → base.Ns mainGlobals mg → LamX.TabB base mg c P → FnG l.prog w (K w.params) mg base k fa fd [x] (sp (K w.params) P))
    (hsp : ∀ (K : PySem.W.Frag) (P : Addr) (H : Hp) (a : Addr) (ns : List Int), ns.length ≤ n → H P = some (.tbl #[]) → SqL K H a (ns.map V.int) → sp K P [.ref a] H (fun v _ => v = .bl true) fun _ _ _ => False) :
    PySem.W.WalkO q loose XP YP l.row.toRowW d [] (fun f vs => PySem.call f vs) := by
  refine Att.attach_call hn hdf fun w s₀ s₁ mg mb fa o pm cd doc a vs ns G Y ho hd hcd hmg hobj hints hlen hg => ?_
  have KX := hY w _ Y
  obtain ⟨dL, hm, hn1⟩ := List.any_eq_true.mp hrec
  obtain ⟨u, o', fd', c, P, h1, h2, h3, h4, h5, h6⟩ := G.T.tab dL hm
  rw [beq_iff_eq.mp hn1] at h1
  obtain ⟨nT, fd, hb, hF⟩ := F w mg fa u c P o' fd' _ KX G.T.g hmg h1 h2 h3 h4 h6
  exact law_goesT KX G.T.g G.T.b G.T.builtins G.T.nolimit hg h6.2 nT (PySem.W.CodeHd.of h5 h6) G.T.bmain hobj hints (Nat.le_trans hlen hn2) hr hF hb fun H hP hS => hsp _ P H a ns hlen hP hS
end Pg

set_option Elab.async false
set_option linter.all false
set_option maxRecDepth 100000
set_option maxHeartbeats 16000000
namespace D06
open PySem PySem.Spec PyProof.Rows L2 Pg Dl Gs
/-- what the top has written; the law's own head -/
theorem all_mk {Pr : Program} {w : World} {K : PySem.W.Frag} {h : Heap} {mg : Str → Option Value} {fa u c P : Addr} {o : Obj} {fdN : FuncData} (X : K.In h) (G : h.Ns mainGlobals mg) (hfa : mg "law" = some (.ref fa))
    (hu : mg "tickets_with" = some (.ref u)) (ho : h.get? u = some o) (hod : o.data = .func fdN) (hoc : fdN.code = .ref c) (hTA : h.TableAt c P #[])
    {uPTicketsWith : Addr} {odPTicketsWith anPTicketsWith : Option Addr} {slPTicketsWith : Array (Option Value)} {ocPTicketsWith kVPTicketsWith dcPTicketsWith pmPTicketsWith cdPTicketsWith ctPTicketsWith : Value}
    {uPHasPage : Addr} {odPHasPage anPHasPage : Option Addr} {slPHasPage : Array (Option Value)} {ocPHasPage kVPHasPage dcPHasPage pmPHasPage cdPHasPage ctPHasPage : Value}
    {uPAroundAt : Addr} {odPAroundAt anPAroundAt : Option Addr} {slPAroundAt : Array (Option Value)} {ocPAroundAt kVPAroundAt dcPAroundAt pmPAroundAt cdPAroundAt ctPAroundAt : Value}
    {uPArounds : Addr} {odPArounds anPArounds : Option Addr} {slPArounds : Array (Option Value)} {ocPArounds kVPArounds dcPArounds pmPArounds cdPArounds ctPArounds : Value}
    {uPLets : Addr} {odPLets anPLets : Option Addr} {slPLets : Array (Option Value)} {ocPLets kVPLets dcPLets pmPLets cdPLets ctPLets : Value}
    {uPSpent : Addr} {odPSpent anPSpent : Option Addr} {slPSpent : Array (Option Value)} {ocPSpent kVPSpent dcPSpent pmPSpent cdPSpent ctPSpent : Value}
    {uPLessened : Addr} {odPLessened anPLessened : Option Addr} {slPLessened : Array (Option Value)} {ocPLessened kVPLessened dcPLessened pmPLessened cdPLessened ctPLessened : Value}
    {uBag : Addr} {odBag anBag : Option Addr} {slBag : Array (Option Value)} {ocBag kVBag dcBag pmBag cdBag ctBag : Value}
    {uTake : Addr} {odTake anTake : Option Addr} {slTake : Array (Option Value)} {ocTake kVTake dcTake pmTake cdTake ctTake : Value}
    {uSome : Addr} {odSome anSome : Option Addr} {slSome : Array (Option Value)} {ocSome kVSome dcSome pmSome cdSome ctSome : Value}
    {uMixed : Addr} {odMixed anMixed : Option Addr} {slMixed : Array (Option Value)} {ocMixed kVMixed dcMixed pmMixed cdMixed ctMixed : Value}
    {uAlike : Addr} {odAlike anAlike : Option Addr} {slAlike : Array (Option Value)} {ocAlike kVAlike dcAlike pmAlike cdAlike ctAlike : Value}
    {uPages : Addr} {odPages anPages : Option Addr} {slPages : Array (Option Value)} {ocPages kVPages dcPages pmPages cdPages ctPages : Value}
    {uTicketNumber : Addr} {odTicketNumber anTicketNumber : Option Addr} {slTicketNumber : Array (Option Value)} {ocTicketNumber kVTicketNumber dcTicketNumber pmTicketNumber cdTicketNumber ctTicketNumber : Value}
    {uForest : Addr} {odForest anForest : Option Addr} {slForest : Array (Option Value)} {ocForest kVForest dcForest pmForest cdForest ctForest : Value}
    {uHas : Addr} {odHas anHas : Option Addr} {slHas : Array (Option Value)} {ocHas kVHas dcHas pmHas cdHas ctHas : Value}
    {uWithDue : Addr} {odWithDue anWithDue : Option Addr} {slWithDue : Array (Option Value)} {ocWithDue kVWithDue dcWithDue pmWithDue cdWithDue ctWithDue : Value}
    {uAroundsDue : Addr} {odAroundsDue anAroundsDue : Option Addr} {slAroundsDue : Array (Option Value)} {ocAroundsDue kVAroundsDue dcAroundsDue pmAroundsDue cdAroundsDue ctAroundsDue : Value}
    {uLetsDue : Addr} {odLetsDue anLetsDue : Option Addr} {slLetsDue : Array (Option Value)} {ocLetsDue kVLetsDue dcLetsDue pmLetsDue cdLetsDue ctLetsDue : Value}
    {uSpentDue : Addr} {odSpentDue anSpentDue : Option Addr} {slSpentDue : Array (Option Value)} {ocSpentDue kVSpentDue dcSpentDue pmSpentDue cdSpentDue ctSpentDue : Value}
    {uPLaw : Addr} {odPLaw anPLaw : Option Addr} {slPLaw : Array (Option Value)} {ocPLaw kVPLaw dcPLaw pmPLaw cdPLaw ctPLaw : Value}
    {cN PN : Addr} {eN : Value} {ddN : Option Addr} {vsN : Array Value} {slN : Array (Option Value)}
    (aPTicketsWith : PySem.W.nsIn K mainGlobals "tickets_with" = some (some (.ref uPTicketsWith)))
    (lPTicketsWith : K.lookup uPTicketsWith = some ⟨ocPTicketsWith, odPTicketsWith, .func (PySem.W.fnOf "tickets_with" "tickets_with" (defArgs sPTicketsWith) (defBody sPTicketsWith) (defScope sPTicketsWith) .none kVPTicketsWith dcPTicketsWith pmPTicketsWith anPTicketsWith cdPTicketsWith ctPTicketsWith), slPTicketsWith⟩)
    (cPTicketsWith : PySem.W.codeIn K cdPTicketsWith "tickets_with" = true)
    (kPTicketsWith : PySem.W.keepIn K (.ref uPTicketsWith) = true)
    (aPHasPage : PySem.W.nsIn K mainGlobals "has_page" = some (some (.ref uPHasPage)))
    (lPHasPage : K.lookup uPHasPage = some ⟨ocPHasPage, odPHasPage, .func (PySem.W.fnOf "has_page" "has_page" (defArgs sPHasPage) (defBody sPHasPage) (defScope sPHasPage) .none kVPHasPage dcPHasPage pmPHasPage anPHasPage cdPHasPage ctPHasPage), slPHasPage⟩)
    (cPHasPage : PySem.W.codeIn K cdPHasPage "has_page" = true)
    (kPHasPage : PySem.W.keepIn K (.ref uPHasPage) = true)
    (aPAroundAt : PySem.W.nsIn K mainGlobals "around_at" = some (some (.ref uPAroundAt)))
    (lPAroundAt : K.lookup uPAroundAt = some ⟨ocPAroundAt, odPAroundAt, .func (PySem.W.fnOf "around_at" "around_at" (defArgs sPAroundAt) (defBody sPAroundAt) (defScope sPAroundAt) .none kVPAroundAt dcPAroundAt pmPAroundAt anPAroundAt cdPAroundAt ctPAroundAt), slPAroundAt⟩)
    (cPAroundAt : PySem.W.codeIn K cdPAroundAt "around_at" = true)
    (kPAroundAt : PySem.W.keepIn K (.ref uPAroundAt) = true)
    (aPArounds : PySem.W.nsIn K mainGlobals "arounds" = some (some (.ref uPArounds)))
    (lPArounds : K.lookup uPArounds = some ⟨ocPArounds, odPArounds, .func (PySem.W.fnOf "arounds" "arounds" (defArgs sPArounds) (defBody sPArounds) (defScope sPArounds) .none kVPArounds dcPArounds pmPArounds anPArounds cdPArounds ctPArounds), slPArounds⟩)
    (cPArounds : PySem.W.codeIn K cdPArounds "arounds" = true)
    (kPArounds : PySem.W.keepIn K (.ref uPArounds) = true)
    (aPLets : PySem.W.nsIn K mainGlobals "lets" = some (some (.ref uPLets)))
    (lPLets : K.lookup uPLets = some ⟨ocPLets, odPLets, .func (PySem.W.fnOf "lets" "lets" (defArgs sPLets) (defBody sPLets) (defScope sPLets) .none kVPLets dcPLets pmPLets anPLets cdPLets ctPLets), slPLets⟩)
    (cPLets : PySem.W.codeIn K cdPLets "lets" = true)
    (kPLets : PySem.W.keepIn K (.ref uPLets) = true)
    (aPSpent : PySem.W.nsIn K mainGlobals "spent" = some (some (.ref uPSpent)))
    (lPSpent : K.lookup uPSpent = some ⟨ocPSpent, odPSpent, .func (PySem.W.fnOf "spent" "spent" (defArgs sPSpent) (defBody sPSpent) (defScope sPSpent) .none kVPSpent dcPSpent pmPSpent anPSpent cdPSpent ctPSpent), slPSpent⟩)
    (cPSpent : PySem.W.codeIn K cdPSpent "spent" = true)
    (kPSpent : PySem.W.keepIn K (.ref uPSpent) = true)
    (aPLessened : PySem.W.nsIn K mainGlobals "lessened" = some (some (.ref uPLessened)))
    (lPLessened : K.lookup uPLessened = some ⟨ocPLessened, odPLessened, .func (PySem.W.fnOf "lessened" "lessened" (defArgs sPLessened) (defBody sPLessened) (defScope sPLessened) .none kVPLessened dcPLessened pmPLessened anPLessened cdPLessened ctPLessened), slPLessened⟩)
    (cPLessened : PySem.W.codeIn K cdPLessened "lessened" = true)
    (kPLessened : PySem.W.keepIn K (.ref uPLessened) = true)
    (aBag : PySem.W.nsIn K mainGlobals "_law_bag" = some (some (.ref uBag)))
    (lBag : K.lookup uBag = some ⟨ocBag, odBag, .func (PySem.W.fnOf "_law_bag" "_law_bag" (defArgs sBag) (defBody sBag) (defScope sBag) .none kVBag dcBag pmBag anBag cdBag ctBag), slBag⟩)
    (cBag : PySem.W.codeIn K cdBag "_law_bag" = true)
    (kBag : PySem.W.keepIn K (.ref uBag) = true)
    (aTake : PySem.W.nsIn K mainGlobals "_law_take" = some (some (.ref uTake)))
    (lTake : K.lookup uTake = some ⟨ocTake, odTake, .func (PySem.W.fnOf "_law_take" "_law_take" (defArgs sTake) (defBody sTake) (defScope sTake) .none kVTake dcTake pmTake anTake cdTake ctTake), slTake⟩)
    (cTake : PySem.W.codeIn K cdTake "_law_take" = true)
    (kTake : PySem.W.keepIn K (.ref uTake) = true)
    (aSome : PySem.W.nsIn K mainGlobals "_law_some" = some (some (.ref uSome)))
    (lSome : K.lookup uSome = some ⟨ocSome, odSome, .func (PySem.W.fnOf "_law_some" "_law_some" (defArgs sSome) (defBody sSome) (defScope sSome) .none kVSome dcSome pmSome anSome cdSome ctSome), slSome⟩)
    (cSome : PySem.W.codeIn K cdSome "_law_some" = true)
    (kSome : PySem.W.keepIn K (.ref uSome) = true)
    (aMixed : PySem.W.nsIn K mainGlobals "_law_mixed" = some (some (.ref uMixed)))
    (lMixed : K.lookup uMixed = some ⟨ocMixed, odMixed, .func (PySem.W.fnOf "_law_mixed" "_law_mixed" (defArgs sMixed) (defBody sMixed) (defScope sMixed) .none kVMixed dcMixed pmMixed anMixed cdMixed ctMixed), slMixed⟩)
    (cMixed : PySem.W.codeIn K cdMixed "_law_mixed" = true)
    (kMixed : PySem.W.keepIn K (.ref uMixed) = true)
    (aAlike : PySem.W.nsIn K mainGlobals "_law_alike" = some (some (.ref uAlike)))
    (lAlike : K.lookup uAlike = some ⟨ocAlike, odAlike, .func (PySem.W.fnOf "_law_alike" "_law_alike" (defArgs sAlike) (defBody sAlike) (defScope sAlike) .none kVAlike dcAlike pmAlike anAlike cdAlike ctAlike), slAlike⟩)
    (cAlike : PySem.W.codeIn K cdAlike "_law_alike" = true)
    (kAlike : PySem.W.keepIn K (.ref uAlike) = true)
    (aPages : PySem.W.nsIn K mainGlobals "_law_pages" = some (some (.ref uPages)))
    (lPages : K.lookup uPages = some ⟨ocPages, odPages, .func (PySem.W.fnOf "_law_pages" "_law_pages" (defArgs sPages) (defBody sPages) (defScope sPages) .none kVPages dcPages pmPages anPages cdPages ctPages), slPages⟩)
    (cPages : PySem.W.codeIn K cdPages "_law_pages" = true)
    (kPages : PySem.W.keepIn K (.ref uPages) = true)
    (aTicketNumber : PySem.W.nsIn K mainGlobals "_law_ticket_number" = some (some (.ref uTicketNumber)))
    (lTicketNumber : K.lookup uTicketNumber = some ⟨ocTicketNumber, odTicketNumber, .func (PySem.W.fnOf "_law_ticket_number" "_law_ticket_number" (defArgs sTicketNumber) (defBody sTicketNumber) (defScope sTicketNumber) .none kVTicketNumber dcTicketNumber pmTicketNumber anTicketNumber cdTicketNumber ctTicketNumber), slTicketNumber⟩)
    (cTicketNumber : PySem.W.codeIn K cdTicketNumber "_law_ticket_number" = true)
    (kTicketNumber : PySem.W.keepIn K (.ref uTicketNumber) = true)
    (aForest : PySem.W.nsIn K mainGlobals "_law_forest" = some (some (.ref uForest)))
    (lForest : K.lookup uForest = some ⟨ocForest, odForest, .func (PySem.W.fnOf "_law_forest" "_law_forest" (defArgs sForest) (defBody sForest) (defScope sForest) .none kVForest dcForest pmForest anForest cdForest ctForest), slForest⟩)
    (cForest : PySem.W.codeIn K cdForest "_law_forest" = true)
    (kForest : PySem.W.keepIn K (.ref uForest) = true)
    (aHas : PySem.W.nsIn K mainGlobals "_law_has" = some (some (.ref uHas)))
    (lHas : K.lookup uHas = some ⟨ocHas, odHas, .func (PySem.W.fnOf "_law_has" "_law_has" (defArgs sHas) (defBody sHas) (defScope sHas) .none kVHas dcHas pmHas anHas cdHas ctHas), slHas⟩)
    (cHas : PySem.W.codeIn K cdHas "_law_has" = true)
    (kHas : PySem.W.keepIn K (.ref uHas) = true)
    (aWithDue : PySem.W.nsIn K mainGlobals "_law_with_due" = some (some (.ref uWithDue)))
    (lWithDue : K.lookup uWithDue = some ⟨ocWithDue, odWithDue, .func (PySem.W.fnOf "_law_with_due" "_law_with_due" (defArgs sWithDue) (defBody sWithDue) (defScope sWithDue) .none kVWithDue dcWithDue pmWithDue anWithDue cdWithDue ctWithDue), slWithDue⟩)
    (cWithDue : PySem.W.codeIn K cdWithDue "_law_with_due" = true)
    (kWithDue : PySem.W.keepIn K (.ref uWithDue) = true)
    (aAroundsDue : PySem.W.nsIn K mainGlobals "_law_arounds_due" = some (some (.ref uAroundsDue)))
    (lAroundsDue : K.lookup uAroundsDue = some ⟨ocAroundsDue, odAroundsDue, .func (PySem.W.fnOf "_law_arounds_due" "_law_arounds_due" (defArgs sAroundsDue) (defBody sAroundsDue) (defScope sAroundsDue) .none kVAroundsDue dcAroundsDue pmAroundsDue anAroundsDue cdAroundsDue ctAroundsDue), slAroundsDue⟩)
    (cAroundsDue : PySem.W.codeIn K cdAroundsDue "_law_arounds_due" = true)
    (kAroundsDue : PySem.W.keepIn K (.ref uAroundsDue) = true)
    (aLetsDue : PySem.W.nsIn K mainGlobals "_law_lets_due" = some (some (.ref uLetsDue)))
    (lLetsDue : K.lookup uLetsDue = some ⟨ocLetsDue, odLetsDue, .func (PySem.W.fnOf "_law_lets_due" "_law_lets_due" (defArgs sLetsDue) (defBody sLetsDue) (defScope sLetsDue) .none kVLetsDue dcLetsDue pmLetsDue anLetsDue cdLetsDue ctLetsDue), slLetsDue⟩)
    (cLetsDue : PySem.W.codeIn K cdLetsDue "_law_lets_due" = true)
    (kLetsDue : PySem.W.keepIn K (.ref uLetsDue) = true)
    (aSpentDue : PySem.W.nsIn K mainGlobals "_law_spent_due" = some (some (.ref uSpentDue)))
    (lSpentDue : K.lookup uSpentDue = some ⟨ocSpentDue, odSpentDue, .func (PySem.W.fnOf "_law_spent_due" "_law_spent_due" (defArgs sSpentDue) (defBody sSpentDue) (defScope sSpentDue) .none kVSpentDue dcSpentDue pmSpentDue anSpentDue cdSpentDue ctSpentDue), slSpentDue⟩)
    (cSpentDue : PySem.W.codeIn K cdSpentDue "_law_spent_due" = true)
    (kSpentDue : PySem.W.keepIn K (.ref uSpentDue) = true)
    (aPLaw : PySem.W.nsIn K mainGlobals "law" = some (some (.ref uPLaw)))
    (lPLaw : K.lookup uPLaw = some ⟨ocPLaw, odPLaw, .func (PySem.W.fnOf "law" "law" (defArgs sPLaw) (defBody sPLaw) (defScope sPLaw) .none kVPLaw dcPLaw pmPLaw anPLaw cdPLaw ctPLaw), slPLaw⟩)
    (cPLaw : PySem.W.codeIn K cdPLaw "law" = true)
    (kPLaw : PySem.W.keepIn K (.ref uPLaw) = true)
    (hcN : cdPTicketsWith = Value.ref cN)
    (lcN : K.lookup cN = some ⟨eN, ddN, .fields vsN, slN⟩)
    (hvN : vsN[11]? = some (Value.ref PN))
    (nPN : K.lookup PN = none)
    (b_abs : PySem.W.nsIn K mainGlobals "abs" = some none)
    (b_enumerate : PySem.W.nsIn K mainGlobals "enumerate" = some none)
    (b_int : PySem.W.nsIn K mainGlobals "int" = some none)
    (b_len : PySem.W.nsIn K mainGlobals "len" = some none)
    (b_list : PySem.W.nsIn K mainGlobals "list" = some none)
    (b_max : PySem.W.nsIn K mainGlobals "max" = some none)
    (b_min : PySem.W.nsIn K mainGlobals "min" = some none)
    (b_range : PySem.W.nsIn K mainGlobals "range" = some none)
    (b_repr : PySem.W.nsIn K mainGlobals "repr" = some none)
    (b_sorted : PySem.W.nsIn K mainGlobals "sorted" = some none)
    (b_tuple : PySem.W.nsIn K mainGlobals "tuple" = some none)
    : K.lookup P = none ∧ ∃ fd : FuncData, (∀ (s : Shared) (v : Value), BindsTo s fd ⟨[v], []⟩ [("_law_script", v)]) ∧ ∀ base : Heap, K.In base → base.Ns mainGlobals mg → LamX.TabB base mg c P → FnG Pr w K mg base 6 fa fd ["_law_script"] (spD K 1 (fLawP P)) := by
  have e := hfa.symm.trans (PySem.W.mg_of X G aPLaw)
  cases e
  have eu := hu.symm.trans (PySem.W.mg_of X G aPTicketsWith)
  cases eu
  have g1 := X _ _ lPTicketsWith
  rw [g1] at ho
  cases ho
  have hod' := Data.func.inj hod
  subst hod'
  have hcc : cdPTicketsWith = .ref c := hoc
  have hcc2 := hcN.symm.trans hcc
  cases hcc2
  obtain ⟨⟨ocx, vcx, e1, _, e3, e4⟩, hPx⟩ := hTA
  have g2 := X _ _ lcN
  rw [g2] at e1
  cases e1
  cases e3
  rw [hvN] at e4
  cases e4
  have FPTicketsWith := fun_mk (st := sPTicketsWith) lPTicketsWith cPTicketsWith kPTicketsWith
  have BPTicketsWith := FPTicketsWith.binds (ps := ["forest", "page"]) fun _ _ _ _ _ _ us hl => match us, hl with | [_, _], _ => rfl
  have DPTicketsWith : Df K mg "tickets_with" ["forest", "page"] sPTicketsWith _ _ := ⟨FPTicketsWith, BPTicketsWith, PySem.W.mg_of X G aPTicketsWith⟩
  have FPHasPage := fun_mk (st := sPHasPage) lPHasPage cPHasPage kPHasPage
  have BPHasPage := FPHasPage.binds (ps := ["forest", "page"]) fun _ _ _ _ _ _ us hl => match us, hl with | [_, _], _ => rfl
  have DPHasPage : Df K mg "has_page" ["forest", "page"] sPHasPage _ _ := ⟨FPHasPage, BPHasPage, PySem.W.mg_of X G aPHasPage⟩
  have FPAroundAt := fun_mk (st := sPAroundAt) lPAroundAt cPAroundAt kPAroundAt
  have BPAroundAt := FPAroundAt.binds (ps := ["forest", "index"]) fun _ _ _ _ _ _ us hl => match us, hl with | [_, _], _ => rfl
  have DPAroundAt : Df K mg "around_at" ["forest", "index"] sPAroundAt _ _ := ⟨FPAroundAt, BPAroundAt, PySem.W.mg_of X G aPAroundAt⟩
  have FPArounds := fun_mk (st := sPArounds) lPArounds cPArounds kPArounds
  have BPArounds := FPArounds.binds (ps := ["forest"]) fun _ _ _ _ _ _ us hl => match us, hl with | [_], _ => rfl
  have DPArounds : Df K mg "arounds" ["forest"] sPArounds _ _ := ⟨FPArounds, BPArounds, PySem.W.mg_of X G aPArounds⟩
  have FPLets := fun_mk (st := sPLets) lPLets cPLets kPLets
  have BPLets := FPLets.binds (ps := ["forest", "page"]) fun _ _ _ _ _ _ us hl => match us, hl with | [_, _], _ => rfl
  have DPLets : Df K mg "lets" ["forest", "page"] sPLets _ _ := ⟨FPLets, BPLets, PySem.W.mg_of X G aPLets⟩
  have FPSpent := fun_mk (st := sPSpent) lPSpent cPSpent kPSpent
  have BPSpent := FPSpent.binds (ps := ["forest", "page"]) fun _ _ _ _ _ _ us hl => match us, hl with | [_, _], _ => rfl
  have DPSpent : Df K mg "spent" ["forest", "page"] sPSpent _ _ := ⟨FPSpent, BPSpent, PySem.W.mg_of X G aPSpent⟩
  have FPLessened := fun_mk (st := sPLessened) lPLessened cPLessened kPLessened
  have BPLessened := FPLessened.binds (ps := ["forest", "lot", "number"]) fun _ _ _ _ _ _ us hl => match us, hl with | [_, _, _], _ => rfl
  have DPLessened : Df K mg "lessened" ["forest", "lot", "number"] sPLessened _ _ := ⟨FPLessened, BPLessened, PySem.W.mg_of X G aPLessened⟩
  have FBag := fun_mk (st := sBag) lBag cBag kBag
  have BBag := FBag.binds (ps := ["_law_script"]) fun _ _ _ _ _ _ us hl => match us, hl with | [_], _ => rfl
  have DBag : Df K mg "_law_bag" ["_law_script"] sBag _ _ := ⟨FBag, BBag, PySem.W.mg_of X G aBag⟩
  have FTake := fun_mk (st := sTake) lTake cTake kTake
  have BTake := FTake.binds (ps := ["_law_bag_here", "_law_many"]) fun _ _ _ _ _ _ us hl => match us, hl with | [_, _], _ => rfl
  have DTake : Df K mg "_law_take" ["_law_bag_here", "_law_many"] sTake _ _ := ⟨FTake, BTake, PySem.W.mg_of X G aTake⟩
  have FSome := fun_mk (st := sSome) lSome cSome kSome
  have BSome := FSome.binds (ps := ["_law_bag_here", "_law_things"]) fun _ _ _ _ _ _ us hl => match us, hl with | [_, _], _ => rfl
  have DSome : Df K mg "_law_some" ["_law_bag_here", "_law_things"] sSome _ _ := ⟨FSome, BSome, PySem.W.mg_of X G aSome⟩
  have FMixed := fun_mk (st := sMixed) lMixed cMixed kMixed
  have BMixed := FMixed.binds (ps := ["_law_bag_here", "_law_things"]) fun _ _ _ _ _ _ us hl => match us, hl with | [_, _], _ => rfl
  have DMixed : Df K mg "_law_mixed" ["_law_bag_here", "_law_things"] sMixed _ _ := ⟨FMixed, BMixed, PySem.W.mg_of X G aMixed⟩
  have FAlike := fun_mk (st := sAlike) lAlike cAlike kAlike
  have BAlike := FAlike.binds (ps := ["_law_found", "_law_due"]) fun _ _ _ _ _ _ us hl => match us, hl with | [_, _], _ => rfl
  have DAlike : Df K mg "_law_alike" ["_law_found", "_law_due"] sAlike _ _ := ⟨FAlike, BAlike, PySem.W.mg_of X G aAlike⟩
  have FPages := fun_mk (st := sPages) lPages cPages kPages
  have BPages := FPages.binds (ps := ["_law_bag_here", "_law_many"]) fun _ _ _ _ _ _ us hl => match us, hl with | [_, _], _ => rfl
  have DPages : Df K mg "_law_pages" ["_law_bag_here", "_law_many"] sPages _ _ := ⟨FPages, BPages, PySem.W.mg_of X G aPages⟩
  have FTicketNumber := fun_mk (st := sTicketNumber) lTicketNumber cTicketNumber kTicketNumber
  have BTicketNumber := FTicketNumber.binds (ps := ["_law_bag_here", "_law_inner"]) fun _ _ _ _ _ _ us hl => match us, hl with | [_, _], _ => rfl
  have DTicketNumber : Df K mg "_law_ticket_number" ["_law_bag_here", "_law_inner"] sTicketNumber _ _ := ⟨FTicketNumber, BTicketNumber, PySem.W.mg_of X G aTicketNumber⟩
  have FForest := fun_mk (st := sForest) lForest cForest kForest
  have BForest := FForest.binds (ps := ["_law_bag_here", "_law_pages_here", "_law_limit", "_law_small"]) fun _ _ _ _ _ _ us hl => match us, hl with | [_, _, _, _], _ => rfl
  have DForest : Df K mg "_law_forest" ["_law_bag_here", "_law_pages_here", "_law_limit", "_law_small"] sForest _ _ := ⟨FForest, BForest, PySem.W.mg_of X G aForest⟩
  have FHas := fun_mk (st := sHas) lHas cHas kHas
  have BHas := FHas.binds (ps := ["_law_forest_here", "_law_page"]) fun _ _ _ _ _ _ us hl => match us, hl with | [_, _], _ => rfl
  have DHas : Df K mg "_law_has" ["_law_forest_here", "_law_page"] sHas _ _ := ⟨FHas, BHas, PySem.W.mg_of X G aHas⟩
  have FWithDue := fun_mk (st := sWithDue) lWithDue cWithDue kWithDue
  have BWithDue := FWithDue.binds (ps := ["_law_forest_here", "_law_page"]) fun _ _ _ _ _ _ us hl => match us, hl with | [_, _], _ => rfl
  have DWithDue : Df K mg "_law_with_due" ["_law_forest_here", "_law_page"] sWithDue _ _ := ⟨FWithDue, BWithDue, PySem.W.mg_of X G aWithDue⟩
  have FAroundsDue := fun_mk (st := sAroundsDue) lAroundsDue cAroundsDue kAroundsDue
  have BAroundsDue := FAroundsDue.binds (ps := ["_law_forest_here"]) fun _ _ _ _ _ _ us hl => match us, hl with | [_], _ => rfl
  have DAroundsDue : Df K mg "_law_arounds_due" ["_law_forest_here"] sAroundsDue _ _ := ⟨FAroundsDue, BAroundsDue, PySem.W.mg_of X G aAroundsDue⟩
  have FLetsDue := fun_mk (st := sLetsDue) lLetsDue cLetsDue kLetsDue
  have BLetsDue := FLetsDue.binds (ps := ["_law_forest_here", "_law_page"]) fun _ _ _ _ _ _ us hl => match us, hl with | [_, _], _ => rfl
  have DLetsDue : Df K mg "_law_lets_due" ["_law_forest_here", "_law_page"] sLetsDue _ _ := ⟨FLetsDue, BLetsDue, PySem.W.mg_of X G aLetsDue⟩
  have FSpentDue := fun_mk (st := sSpentDue) lSpentDue cSpentDue kSpentDue
  have BSpentDue := FSpentDue.binds (ps := ["_law_forest_here", "_law_page"]) fun _ _ _ _ _ _ us hl => match us, hl with | [_, _], _ => rfl
  have DSpentDue : Df K mg "_law_spent_due" ["_law_forest_here", "_law_page"] sSpentDue _ _ := ⟨FSpentDue, BSpentDue, PySem.W.mg_of X G aSpentDue⟩
  have FPLaw := fun_mk (st := sPLaw) lPLaw cPLaw kPLaw
  have BPLaw := FPLaw.binds (ps := ["_law_script"]) fun _ _ _ _ _ _ us hl => match us, hl with | [_], _ => rfl
  have DPLaw : Df K mg "law" ["_law_script"] sPLaw _ _ := ⟨FPLaw, BPLaw, PySem.W.mg_of X G aPLaw⟩
  have m_abs := PySem.W.mg_none_of X G b_abs
  have m_enumerate := PySem.W.mg_none_of X G b_enumerate
  have m_int := PySem.W.mg_none_of X G b_int
  have m_len := PySem.W.mg_none_of X G b_len
  have m_list := PySem.W.mg_none_of X G b_list
  have m_max := PySem.W.mg_none_of X G b_max
  have m_min := PySem.W.mg_none_of X G b_min
  have m_range := PySem.W.mg_none_of X G b_range
  have m_repr := PySem.W.mg_none_of X G b_repr
  have m_sorted := PySem.W.mg_none_of X G b_sorted
  have m_tuple := PySem.W.mg_none_of X G b_tuple
  refine ⟨nPN, PySem.W.fnOf "law" "law" (defArgs sPLaw) (defBody sPLaw) (defScope sPLaw) .none kVPLaw dcPLaw pmPLaw anPLaw cdPLaw ctPLaw, fun s v => .of_eq rfl, fun base _ _ TB => ?_⟩
  have hcd : (PySem.W.fnOf "tickets_with" "tickets_with" (defArgs sPTicketsWith) (defBody sPTicketsWith) (defScope sPTicketsWith) .none kVPTicketsWith dcPTicketsWith pmPTicketsWith anPTicketsWith cdPTicketsWith ctPTicketsWith).code = .ref c := hcc
  have q_Bag : Cal Pr w K mg base 1 "_law_bag" ["_law_script"] fBag := isBag DBag m_abs 
  have q_Take : Cal Pr w K mg base 1 "_law_take" ["_law_bag_here", "_law_many"] fTake := isTake DTake m_int 
  have q_Alike : Cal Pr w K mg base 1 "_law_alike" ["_law_found", "_law_due"] fAlike := isAlike DAlike m_repr 
  have q_PLessened : Cal Pr w K mg base 1 "lessened" ["forest", "lot", "number"] fPLessened := isPLessened DPLessened m_tuple 
  have q_Some : Cal Pr w K mg base 2 "_law_some" ["_law_bag_here", "_law_things"] (fSome fTake) := isSome DSome m_len (q_Take.mono (show 1 ≤ 1 from by omega))
  have q_PSpent : Cal Pr w K mg base 1 "spent" ["forest", "page"] fPSpent := isPSpent DPSpent m_tuple 
  have q_SpentDue : Cal Pr w K mg base 1 "_law_spent_due" ["_law_forest_here", "_law_page"] fSpentDue := isSpentDue DSpentDue m_int m_tuple 
  have q_LetsDue : Cal Pr w K mg base 1 "_law_lets_due" ["_law_forest_here", "_law_page"] fLetsDue := isLetsDue DLetsDue  
  have q_PLets : Cal Pr w K mg base 1 "lets" ["forest", "page"] fPLets := isPLets DPLets m_len m_min 
  have q_Has : Cal Pr w K mg base 1 "_law_has" ["_law_forest_here", "_law_page"] fHas := isHas DHas  
  have q_PTicketsWith : Cal Pr w K mg base 3 "tickets_with" ["forest", "page"] (fPTicketsWith P) := isPTicketsWith (k := 0) DPTicketsWith TB hcd m_enumerate m_len m_sorted m_tuple 
  have q_PHasPage : Cal Pr w K mg base 4 "has_page" ["forest", "page"] (fPHasPage (fPTicketsWith P)) := isPHasPage DPHasPage m_len (q_PTicketsWith.mono (show 3 ≤ 3 from by omega))
  have q_WithDue : Cal Pr w K mg base 1 "_law_with_due" ["_law_forest_here", "_law_page"] fWithDue := isWithDue DWithDue m_enumerate m_len m_sorted m_tuple 
  have q_AroundsDue : Cal Pr w K mg base 1 "_law_arounds_due" ["_law_forest_here"] fAroundsDue := isAroundsDue DAroundsDue m_enumerate m_len m_min m_tuple 
  have q_PAroundAt : Cal Pr w K mg base 4 "around_at" ["forest", "index"] (fPAroundAt (fPTicketsWith P)) := isPAroundAt DPAroundAt  (q_PTicketsWith.mono (show 3 ≤ 3 from by omega))
  have q_PArounds : Cal Pr w K mg base 5 "arounds" ["forest"] (fPArounds (fPAroundAt (fPTicketsWith P))) := isPArounds DPArounds m_len m_range m_tuple (q_PAroundAt.mono (show 4 ≤ 4 from by omega))
  have q_Mixed : Cal Pr w K mg base 2 "_law_mixed" ["_law_bag_here", "_law_things"] (fMixed fTake) := isMixed DMixed m_len (q_Take.mono (show 1 ≤ 1 from by omega))
  have q_TicketNumber : Cal Pr w K mg base 3 "_law_ticket_number" ["_law_bag_here", "_law_inner"] (fTicketNumber fTake (fSome fTake)) := isTicketNumber DTicketNumber m_max m_min (q_Take.mono (show 1 ≤ 2 from by omega)) (q_Some.mono (show 2 ≤ 2 from by omega))
  have q_Forest : Cal Pr w K mg base 4 "_law_forest" ["_law_bag_here", "_law_pages_here", "_law_limit", "_law_small"] (fForest (fMixed fTake) fTake (fTicketNumber fTake (fSome fTake)) (fSome fTake)) := isForest DForest m_len m_list m_min m_range m_sorted m_tuple (q_Mixed.mono (show 2 ≤ 3 from by omega)) (q_Take.mono (show 1 ≤ 3 from by omega)) (q_TicketNumber.mono (show 3 ≤ 3 from by omega)) (q_Some.mono (show 2 ≤ 3 from by omega))
  have q_Pages : Cal Pr w K mg base 3 "_law_pages" ["_law_bag_here", "_law_many"] (fPages (fSome fTake)) := isPages DPages m_range (q_Some.mono (show 2 ≤ 2 from by omega))
  exact isPLaw (k := 5) DPLaw m_len m_min m_range (q_Bag.mono (show 1 ≤ 5 from by omega)) (q_Take.mono (show 1 ≤ 5 from by omega)) (q_Alike.mono (show 1 ≤ 5 from by omega)) (q_PLessened.mono (show 1 ≤ 5 from by omega)) (q_Some.mono (show 2 ≤ 5 from by omega)) (q_PSpent.mono (show 1 ≤ 5 from by omega)) (q_SpentDue.mono (show 1 ≤ 5 from by omega)) (q_LetsDue.mono (show 1 ≤ 5 from by omega)) (q_PLets.mono (show 1 ≤ 5 from by omega)) (q_Has.mono (show 1 ≤ 5 from by omega)) (q_PHasPage.mono (show 4 ≤ 5 from by omega)) (q_WithDue.mono (show 1 ≤ 5 from by omega)) (q_PTicketsWith.mono (show 3 ≤ 5 from by omega)) (q_AroundsDue.mono (show 1 ≤ 5 from by omega)) (q_PArounds.mono (show 5 ≤ 5 from by omega)) (q_Forest.mono (show 4 ≤ 5 from by omega)) (q_Pages.mono (show 3 ≤ 5 from by omega))
end D06
open PySem PySem.W PyProof.Rows
set_option maxHeartbeats 0 in
theorem PySem.Challenge.cw_pagesworn_k06_tickets_of_a_page_holds : PySem.Challenge.rw_pagesworn_k06_tickets_of_a_page.Holds := by
  w_on; o_law; k_head; (case hw => w_witness2)
  k_fill
  refine Pg.walkGT (l := PySem.Challenge.rw_pagesworn_k06_tickets_of_a_page) (n := 63) (k := 6) (x := "_law_script") (nm := "tickets_with") (sp := fun K P => Dl.spD K 1 (D06.fLawP P)) rfl (by decide) rfl ⟨rfl, by decide, by decide⟩ (by decide +kernel) (fun w h Y => PySem.W.km_in_of Y) ?F (fun K P H a ns hl hP hS => Dl.law_of hP hS (let ⟨v, s, e, hv⟩ := D06.law_sp P ns; ⟨s, by rw [e, hv]⟩) (Dl.ints_dds ns))
  case F =>
    intro w mg fa u c P o fdN h KX G hmg hu ho hod hoc hTA
    refine' D06.all_mk KX G hmg hu ho hod hoc hTA ?aPTicketsWith ?lPTicketsWith ?cPTicketsWith ?kPTicketsWith ?aPHasPage ?lPHasPage ?cPHasPage ?kPHasPage ?aPAroundAt ?lPAroundAt ?cPAroundAt ?kPAroundAt ?aPArounds ?lPArounds ?cPArounds ?kPArounds ?aPLets ?lPLets ?cPLets ?kPLets ?aPSpent ?lPSpent ?cPSpent ?kPSpent ?aPLessened ?lPLessened ?cPLessened ?kPLessened ?aBag ?lBag ?cBag ?kBag ?aTake ?lTake ?cTake ?kTake ?aSome ?lSome ?cSome ?kSome ?aMixed ?lMixed ?cMixed ?kMixed ?aAlike ?lAlike ?cAlike ?kAlike ?aPages ?lPages ?cPages ?kPages ?aTicketNumber ?lTicketNumber ?cTicketNumber ?kTicketNumber ?aForest ?lForest ?cForest ?kForest ?aHas ?lHas ?cHas ?kHas ?aWithDue ?lWithDue ?cWithDue ?kWithDue ?aAroundsDue ?lAroundsDue ?cAroundsDue ?kAroundsDue ?aLetsDue ?lLetsDue ?cLetsDue ?kLetsDue ?aSpentDue ?lSpentDue ?cSpentDue ?kSpentDue ?aPLaw ?lPLaw ?cPLaw ?kPLaw ?hcN ?lcN ?hvN ?nPN ?b_abs ?b_enumerate ?b_int ?b_len ?b_list ?b_max ?b_min ?b_range ?b_repr ?b_sorted ?b_tuple
    (case aPTicketsWith => k_is); (case lPTicketsWith => k_is); (case cPTicketsWith => k_is); (case kPTicketsWith => k_is); (case aPHasPage => k_is); (case lPHasPage => k_is)
    (case cPHasPage => k_is); (case kPHasPage => k_is); (case aPAroundAt => k_is); (case lPAroundAt => k_is); (case cPAroundAt => k_is); (case kPAroundAt => k_is)
    (case aPArounds => k_is); (case lPArounds => k_is); (case cPArounds => k_is); (case kPArounds => k_is); (case aPLets => k_is); (case lPLets => k_is)
    (case cPLets => k_is); (case kPLets => k_is); (case aPSpent => k_is); (case lPSpent => k_is); (case cPSpent => k_is); (case kPSpent => k_is)
    (case aPLessened => k_is); (case lPLessened => k_is); (case cPLessened => k_is); (case kPLessened => k_is); (case aBag => k_is); (case lBag => k_is)
    (case cBag => k_is); (case kBag => k_is); (case aTake => k_is); (case lTake => k_is); (case cTake => k_is); (case kTake => k_is)
    (case aSome => k_is); (case lSome => k_is); (case cSome => k_is); (case kSome => k_is); (case aMixed => k_is); (case lMixed => k_is)
    (case cMixed => k_is); (case kMixed => k_is); (case aAlike => k_is); (case lAlike => k_is); (case cAlike => k_is); (case kAlike => k_is)
    (case aPages => k_is); (case lPages => k_is); (case cPages => k_is); (case kPages => k_is); (case aTicketNumber => k_is); (case lTicketNumber => k_is)
    (case cTicketNumber => k_is); (case kTicketNumber => k_is); (case aForest => k_is); (case lForest => k_is); (case cForest => k_is); (case kForest => k_is)
    (case aHas => k_is); (case lHas => k_is); (case cHas => k_is); (case kHas => k_is); (case aWithDue => k_is); (case lWithDue => k_is)
    (case cWithDue => k_is); (case kWithDue => k_is); (case aAroundsDue => k_is); (case lAroundsDue => k_is); (case cAroundsDue => k_is); (case kAroundsDue => k_is)
    (case aLetsDue => k_is); (case lLetsDue => k_is); (case cLetsDue => k_is); (case kLetsDue => k_is); (case aSpentDue => k_is); (case lSpentDue => k_is)
    (case cSpentDue => k_is); (case kSpentDue => k_is); (case aPLaw => k_is); (case lPLaw => k_is); (case cPLaw => k_is); (case kPLaw => k_is)
    (case hcN => rfl); (case lcN => k_is); (case hvN => rfl); (case nPN => first | kernel_rfl | rfl); (case b_abs => k_is); (case b_enumerate => k_is)
    (case b_int => k_is); (case b_len => k_is); (case b_list => k_is); (case b_max => k_is); (case b_min => k_is); (case b_range => k_is)
    (case b_repr => k_is); (case b_sorted => k_is); (case b_tuple => k_is)
