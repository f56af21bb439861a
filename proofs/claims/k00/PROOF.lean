import PyProof.Rows.All
import Wide.All
import OpenK.AllK
import Wide.FinOn
import PyProof.ReprRoads
import PyProof.ReprLen
import HandS.ForMost
import HandS.DeepEq
import HandS.Wide
import HandS.WordsList
import HandS.ExcInit
import HandS.ExcField
import KE.KExcIs
import PySem.Challenge.RW_pagesworn_k00_errors_of_any_values
set_option Elab.async false
set_option linter.all false
set_option maxRecDepth 100000
set_option maxHeartbeats 4000000
namespace Pg
open PySem PySem.Spec PyProof.Rows L2

/-! ### data at any depth, dicts too -/
def keyD : Key → PyData
  | .inl i => .int i
  | .inr x => .str x
mutual
inductive Dd (K : PySem.W.Frag) (H : Hp) : V → PyData → Prop
  | non : Dd K H .non .none
  | bl (b : Bool) : Dd K H (.bl b) (.bool b)
  | int (i : Int) : Dd K H (.int i) (.int i)
  | str (x : Str) : Dd K H (.str x) (.str x)
  | lst {a : Addr} {xs : List V} {ds : List PyData} (q : SqL K H a xs) (r : Dds K H xs ds) : Dd K H (.ref a) (.list ds)
  | tup {a : Addr} {xs : List V} {ds : List PyData} (q : SqT K H a xs) (r : Dds K H xs ds) : Dd K H (.ref a) (.tuple ds)
  | dic {a : Addr} {kvs : List (Key × V)} {ds : List (PyData × PyData)} (q : H a = some (.dK kvs)) (r : Ddk K H kvs ds) : Dd K H (.ref a) (.dict ds)
inductive Dds (K : PySem.W.Frag) (H : Hp) : List V → List PyData → Prop
  | nil : Dds K H [] []
  | cons {v : V} {vs : List V} {d : PyData} {ds : List PyData} (h : Dd K H v d) (r : Dds K H vs ds) : Dds K H (v :: vs) (d :: ds)
inductive Ddk (K : PySem.W.Frag) (H : Hp) : List (Key × V) → List (PyData × PyData) → Prop
  | nil : Ddk K H [] []
  | cons {k : Key} {v : V} {vs : List (Key × V)} {d : PyData} {ds : List (PyData × PyData)} (h : Dd K H v d) (r : Ddk K H vs ds) : Ddk K H ((k, v) :: vs) ((keyD k, d) :: ds)
end
theorem same_seqT {K : PySem.W.Frag} {H H' : Hp} {a : Addr} {xs : List V} (e : Same H H') (h : SqT K H a xs) : SqT K H' a xs :=
  h.elim (fun r => .inl (r.elim (fun z => .inl (e _ _ z)) fun ⟨o, z⟩ => .inr ⟨o, e _ _ z⟩)) .inr
mutual
theorem Dd.up {K : PySem.W.Frag} {H H' : Hp} (e : Same H H') : ∀ (d : PyData) (v : V), Dd K H v d → Dd K H' v d
  | .none, _, h => by cases h; exact .non
  | .bool b, _, h => by cases h; exact .bl b
  | .int i, _, h => by cases h; exact .int i
  | .str x, _, h => by cases h; exact .str x
  | .list ds, _, h => by
    cases h with
    | lst q r => exact .lst (e.seq q) (Dds.up e ds _ r)
  | .tuple ds, _, h => by
    cases h with
    | tup q r => exact .tup (same_seqT e q) (Dds.up e ds _ r)
  | .dict ds, _, h => by
    cases h with
    | dic q r => exact .dic (e _ _ q) (Ddk.up e ds _ r)
theorem Dds.up {K : PySem.W.Frag} {H H' : Hp} (e : Same H H') : ∀ (ds : List PyData) (vs : List V), Dds K H vs ds → Dds K H' vs ds
  | [], _, h => by cases h; exact .nil
  | d :: ds, _, h => by
    cases h with
    | cons h r => exact .cons (Dd.up e d _ h) (Dds.up e ds _ r)
theorem Ddk.up {K : PySem.W.Frag} {H H' : Hp} (e : Same H H') : ∀ (ds : List (PyData × PyData)) (vs : List (Key × V)), Ddk K H vs ds → Ddk K H' vs ds
  | [], _, h => by cases h; exact .nil
  | (k, d) :: ds, _, h => by
    cases h with
    | cons h r => exact .cons (Dd.up e d _ h) (Ddk.up e ds _ r)
end
theorem all_in {bs cs ds : List Addr} {P : Addr → Prop} (h1 : ∀ b ∈ bs, P b) (h2 : ∀ b ∈ cs, P b) : ∀ b ∈ bs ++ cs, P b := fun b hb =>
  (List.mem_append.mp hb).elim (h1 b) (h2 b)

theorem rm0 (h : Heap) (n : Nat) : ReadAtMost h n [] := fun _ z => by cases z
section
variable {X : Cx} {pins : List (Addr × Obj)} {σ : L2.St} {H : Hp} {s : Shared}
theorem key_say {k : Key} {u : Value} (h : keyIs k u = true) : Reads s.heap u (keyD k) [] ∧ (keyD k).depth = 0 ∧
    ((keyD k).showable = true → (keyD k).shown.length ≤ sizeLine → ∀ bs n, ReprK X.prog X.w bs s.heap n u (keyD k).shown) := by
  rcases keyIs_shape h with ⟨i, t, rfl, rfl⟩ | ⟨x, t, rfl, rfl⟩
  · refine ⟨.int i t, rfl, fun hs _ bs n => ?_⟩
    show ReprK X.prog X.w bs s.heap n _ (PyData.int i).shown
    rw [show (PyData.int i).shown = toString i by simp only [PyData.shown]]
    refine ReprK.of_is (ReprIs.int t ?_) bs _ n
    simpa [keyD, PyData.showable] using hs
  · refine ⟨.str x t, rfl, fun _ hz bs n => ?_⟩
    show ReprK X.prog X.w bs s.heap n _ (PyData.str x).shown
    rw [show (PyData.str x).shown = reprText x by simp only [PyData.shown]]
    refine ReprK.of_is (ReprIs.str x t ?_) bs _ n
    simpa [keyD, PyData.shown] using hz
mutual
/-- a value that stands for d reads as d, and its repr is the text of d -/
theorem dd_say (I : Inv X pins σ H s) : ∀ (d : PyData) (v : V) (u : Value), Dd X.K H v d → RelV v u →
    ∃ as, Reads s.heap u d as ∧ (d.showable = true → d.shown.length ≤ sizeLine → ∃ bs, ReadAtMost s.heap d.depth bs ∧ ReprK X.prog X.w bs s.heap d.depth u d.shown)
  | .none, _, _, h, r => by
    cases h; cases r
    exact ⟨_, .none, fun _ _ => ⟨[], rm0 _ _, by simp only [PyData.shown]; exact ReprK.of_is ReprIs.none _ _ _⟩⟩
  | .bool b, _, _, h, r => by
    cases h; cases r
    exact ⟨_, .bool b, fun _ _ => ⟨[], rm0 _ _, by simp only [PyData.shown]; exact ReprK.of_is (ReprIs.bool b) _ _ _⟩⟩
  | .int i, _, _, h, r => by
    cases h
    obtain ⟨t, rfl⟩ := r
    refine ⟨_, .int i t, fun hs _ => ⟨[], rm0 _ _, ?_⟩⟩
    simp only [PyData.shown]
    exact ReprK.of_is (ReprIs.int t (by simpa [PyData.showable] using hs)) _ _ _
  | .str x, _, _, h, r => by
    cases h
    obtain ⟨t, rfl⟩ := r
    refine ⟨_, .str x t, fun _ hz => ⟨[], rm0 _ _, ?_⟩⟩
    simp only [PyData.shown] at hz ⊢
    exact ReprK.of_is (ReprIs.str x t hz) _ _ _
  | .list ds, _, _, h, r => by
    cases h with
    | @lst a xs _ q rr =>
      cases r
      obtain ⟨its, rv, ⟨o, n, ho, hc, _, hd⟩, _⟩ := I.list q
      obtain ⟨as, hr, hk⟩ := dds_say I ds xs its rr rv
      have R : Reads s.heap (.ref a) (.list ds) (a :: as) := Reads.list ho hc hd hr
      refine ⟨_, R, fun hs hz => ?_⟩
      simp only [PyData.shown] at hz
      obtain ⟨bs, hb, kk⟩ := hk (by simpa [PyData.showable] using hs) fun t ht => Nat.le_trans (listText_mem_le ht) hz
      have hna : a ∉ bs := not_mem_of_deeper R (by simp only [PyData.depth]; omega) hb
      refine ⟨a :: bs, ReadAtMost.cons R (by simp only [PyData.depth]; omega) hb, ?_⟩
      simp only [PyData.depth, PyData.shown]
      cases its with
      | nil =>
        cases kk' : PyData.shownAll ds with
        | nil => rw [listText_nil]; exact ReprK.listEmpty ho hc hd
        | cons t ts =>
          rw [kk'] at kk
          exact nomatch kk
      | cons z its =>
        refine ReprK.list ho hc hd hna (by simpa using kk.length_eq) fun i y e => ?_
        exact kk.item i y (by simpa using e)
  | .tuple ds, _, _, h, r => by
    cases h with
    | @tup a xs _ q rr =>
      cases r
      obtain ⟨its, rv, ⟨o, ho, hc, n, hd⟩, _⟩ := I.tuple q
      obtain ⟨as, hr, hk⟩ := dds_say I ds xs its rr rv
      have R : Reads s.heap (.ref a) (.tuple ds) as := Reads.tuple ho hc hd hr
      refine ⟨_, R, fun hs hz => ?_⟩
      simp only [PyData.shown] at hz
      obtain ⟨bs, hb, kk⟩ := hk (by simpa [PyData.showable] using hs) fun t ht => Nat.le_trans (tupleText_mem_le ht) hz
      have hna : a ∉ bs := not_mem_of_deeper R (by simp only [PyData.depth]; omega) hb
      refine ⟨a :: bs, ReadAtMost.cons R (by simp only [PyData.depth]; omega) hb, ?_⟩
      simp only [PyData.depth, PyData.shown]
      exact ReprK.tuple ho hc hd hna kk
  | .dict ds, _, _, h, r => by
    cases h with
    | @dic a kvs _ q rr =>
      cases r
      obtain ⟨_, lo, vs, rel, o, es, ep, ho, hx, hd, _, hp, _⟩ := (show ObjOk X.prog X.w H s.heap a (.dK kvs) from I.hok a _ q)
      obtain ⟨as, cs, h1, h2, hk⟩ := ddk_say I ds kvs es.toList vs rr rel hp
      have R : Reads s.heap (.ref a) (.dict ds) (a :: as ++ cs) := Reads.dict ho hx.1 hd h1 h2
      refine ⟨_, R, fun hs hz => ?_⟩
      simp only [PyData.shown] at hz
      obtain ⟨bs, hb, kk⟩ := hk (by simpa [PyData.showable] using hs) fun t ht => Nat.le_trans (dictText_mem_le ht) hz
      have hna : a ∉ bs := not_mem_of_deeper R (by simp only [PyData.depth]; omega) hb
      refine ⟨a :: bs, ReadAtMost.cons R (by simp only [PyData.depth]; omega) hb, ?_⟩
      simp only [PyData.depth, PyData.shown]
      exact ReprK.dict ho hx.1 hd lo hna kk
theorem dds_say (I : Inv X pins σ H s) : ∀ (ds : List PyData) (vs : List V) (us : List Value), Dds X.K H vs ds → Vals vs us →
    ∃ as, ReadsAll s.heap us ds as ∧ (PyData.showableAll ds = true → (∀ t ∈ PyData.shownAll ds, t.length ≤ sizeLine) → ∃ bs, ReadAtMost s.heap (PyData.depthAll ds) bs ∧ ReprAllK X.prog X.w bs s.heap (PyData.depthAll ds) us (PyData.shownAll ds))
  | [], _, _, h, r => by
    cases h; cases r
    exact ⟨_, .nil, fun _ _ => ⟨[], rm0 _ _, by simp only [PyData.shownAll]; exact .nil⟩⟩
  | d :: ds, _, _, h, r => by
    cases h with
    | cons h1 h2 =>
      cases r with
      | cons r1 r2 =>
        obtain ⟨as, q1, k1⟩ := dd_say I d _ _ h1 r1
        obtain ⟨cs, q2, k2⟩ := dds_say I ds _ _ h2 r2
        refine ⟨_, .cons q1 q2, fun hs hz => ?_⟩
        have hs' : d.showable = true ∧ PyData.showableAll ds = true := by simpa [PyData.showableAll] using hs
        simp only [PyData.shownAll, List.mem_cons] at hz
        obtain ⟨b1, m1, j1⟩ := k1 hs'.1 (hz _ (.inl rfl))
        obtain ⟨b2, m2, j2⟩ := k2 hs'.2 fun t ht => hz t (.inr ht)
        refine ⟨b1 ++ b2, ?_, ?_⟩
        · simp only [PyData.depthAll]
          exact (m1.mono (Nat.le_max_left _ _)).append (m2.mono (Nat.le_max_right _ _))
        · simp only [PyData.depthAll, PyData.shownAll]
          refine .cons ((j1.more fun b hb => ?_).level_le (Nat.le_max_left _ _)) (j2.more_le (fun b hb => ?_) (Nat.le_max_right _ _))
          · exact List.mem_append.mpr (.inl hb)
          · exact List.mem_append.mpr (.inr hb)
theorem ddk_say (I : Inv X pins σ H s) : ∀ (ds : List (PyData × PyData)) (kvs : List (Key × V)) (es : List DictEntry) (vs : List (Key × Value)), Ddk X.K H kvs ds → KV kvs vs → Pairs (mixKind X.prog X.w) es vs →
    ∃ as cs, ReadsAll s.heap (es.map (·.key)) (ds.map (·.1)) as ∧ ReadsAll s.heap (es.map (·.val)) (ds.map (·.2)) cs ∧
      (PyData.showableKv ds = true → (∀ t ∈ PyData.shownKv ds, t.length ≤ sizeLine) → ∃ bs, ReadAtMost s.heap (PyData.depthKv ds) bs ∧ ReprEntriesK X.prog X.w bs s.heap (PyData.depthKv ds) es (PyData.shownKv ds))
  | [], _, _, _, h, r, p => by
    cases h; cases r; cases p
    exact ⟨_, _, .nil, .nil, fun _ _ => ⟨[], rm0 _ _, by simp only [PyData.shownKv]; exact .nil⟩⟩
  | (kd, d) :: ds, _, _, _, h, r, p => by
    cases h with
    | @cons k v vr _ _ h1 h2 =>
      cases r with
      | @cons _ kv _ vs r1 r2 =>
        cases p with
        | @cons e _ es _ pk pv pr =>
          obtain ⟨ke, rv⟩ := r1
          obtain ⟨k', u⟩ := kv
          have ek : k = k' := ke
          subst ek
          have ev : e.val = u := pv
          obtain ⟨ka, k0, kr⟩ := key_say (X := X) (s := s) (k := k) (u := e.key) pk
          obtain ⟨as, q1, j1⟩ := dd_say I d v e.val h1 (by rw [ev]; exact rv)
          obtain ⟨as2, cs2, q2, q3, j2⟩ := ddk_say I ds vr es vs h2 r2 pr
          refine ⟨_, _, .cons ka q2, .cons q1 q3, fun hs hz => ?_⟩
          have hs' : ((keyD k).showable = true ∧ d.showable = true) ∧ PyData.showableKv ds = true := by simpa [PyData.showableKv] using hs
          simp only [PyData.shownKv, List.mem_cons] at hz
          have hl := hz _ (.inl rfl)
          rw [strLen_append, strLen_append] at hl
          obtain ⟨b1, m1, g1⟩ := j1 hs'.1.2 (by omega)
          obtain ⟨b2, m2, g2⟩ := j2 hs'.2 fun t ht => hz t (.inr ht)
          refine ⟨b1 ++ b2, ?_, ?_⟩
          · simp only [PyData.depthKv]
            exact (m1.mono (by omega)).append (m2.mono (by omega))
          · simp only [PyData.depthKv, PyData.shownKv]
            refine .cons (kr hs'.1.1 (by omega) _ _) ((g1.more fun b hb => List.mem_append.mpr (.inl hb)).level_le (by omega)) ?_
            exact entries_more (fun b hb => List.mem_append.mpr (.inr hb)) (by omega) g2
theorem entries_more {prog : Program} {w : World} {h₀ : Heap} {as cs : List Addr} {m n : Nat} (hs : ∀ b ∈ as, b ∈ cs) (hn : m ≤ n) : ∀ {es : List DictEntry} {ps : List Str}, ReprEntriesK prog w as h₀ m es ps → ReprEntriesK prog w cs h₀ n es ps
  | _, _, .nil => .nil
  | _, _, .cons a b c => .cons ((a.more hs).level_le hn) ((b.more hs).level_le hn) (entries_more hs hn c)
end
end
end Pg

set_option Elab.async false
set_option linter.all false
set_option maxRecDepth 100000
set_option maxHeartbeats 4000000
namespace Pg
open PySem PySem.Spec PyProof.Rows L2

/-! ### == of two values that stand for the same data -/
section
open PySem.SeqAt PySem.AutoSeq1
variable {prog : Program} {w : World}
theorem tup_alike (l b : Addr) (xs ys : Array Value) (n n2 : Nat) (dd dd2 : Option Addr) (sl sl2 : Array (Option Value)) (hsz : xs.size = ys.size) :
    MeetsIn prog w (Builtin.«tuple.__eq__» ⟨[.ref l, .ref b], []⟩)
      (fun A R s => s.heap.get? l = some { cls := .type "tuple", dict := dd, data := .seq xs n, slots := sl } ∧
        s.heap.get? b = some { cls := .type "tuple", dict := dd2, data := .seq ys n2, slots := sl2 } ∧
        (∀ j (h1 : j < xs.size) (h2 : j < ys.size), EqP prog w A.in1 s xs[j] ys[j] true) ∧ R (.ok (.ret (.bool true))) s) := by
  intro A R s h
  obtain ⟨hp, g, d, tk, os⟩ := s
  obtain ⟨hl, hb, he, hR⟩ := h
  have f2 := PySem.AutoSeq1.sub_tuple_tuple
  have hZ : (xs.toList.zip ys.toList).length = xs.size := by simp; omega
  wp_walk using wpAny_loadPart' hl, wpAny_loadPart' hb, wpAny_forIn_list _ (fun rest z s' => z.1 = none ∧ s' = ⟨hp, g, d, tk, os⟩ ∧ ∃ i, rest = (xs.toList.zip ys.toList).drop i) _
  case turn =>
    rintro ⟨y, x⟩ rest z s' ⟨hz', rfl, i, hz⟩
    have hlt : i < (xs.toList.zip ys.toList).length := by
      rcases Nat.lt_or_ge i (xs.toList.zip ys.toList).length with k | k
      · exact k
      · rw [List.drop_of_length_le k] at hz
        cases hz
    have h1 : i < xs.size := by omega
    have h2 : i < ys.size := by omega
    rw [List.drop_eq_getElem_cons hlt] at hz
    injection hz with hyx hrest
    have hy : y = xs[i] := by simpa using congrArg Prod.fst hyx
    have hx : x = ys[i] := by simpa using congrArg Prod.snd hyx
    subst hy hx
    refine wpAny_bind (he i h1 h2 _ _ ?_)
    wp_walk
    exact ⟨rfl, rfl, i + 1, hrest⟩
  case fin =>
    rintro ⟨z1, z2⟩ s' ⟨hz', rfl, _⟩
    simp only at hz'
    subst hz'
    wp_walk
    simpa [Builtin.Tuple.tupleCompareSizes, hsz] using hR
  case h =>
    exact ⟨rfl, rfl, 0, rfl⟩
theorem rc_tuples {A : Around} {s : Shared} {l b : Addr} {xs ys : Array Value} (hl : s.heap.IsTuple l xs) (hb : s.heap.IsTuple b ys) (hsz : xs.size = ys.size) (hu : A.units < cLine)
    (he : ∀ j (h1 : j < xs.size) (h2 : j < ys.size), EqP prog w A.in1 s xs[j] ys[j] true) (E Q : Value → Shared → Prop) (h : Q (.bool true) s) : wpAny (model prog w) A (richCompare .Eq (.ref l) (.ref b)) Q E s := by
  obtain ⟨⟨c1, d1, t1, s1⟩, o1, e1, n1, k1⟩ := id hl
  obtain ⟨⟨c2, d2, t2, s2⟩, o2, e2, n2, k2⟩ := id hb
  simp only at e1 k1 e2 k2
  subst e1 k1 e2 k2
  have ta : s.TypeIs (.ref l) "tuple" := ⟨_, o1, rfl⟩
  have tb : s.TypeIs (.ref b) "tuple" := ⟨_, o2, rfl⟩
  refine wpAny_richCompare_same_room (op := .Eq) ta tb F.slot_tuple_eq (call_meetsIn F.slot_tuple_eq ta F.entry_tuple_eq (F.args_tuple_eq_2 _ _) (tup_alike l b xs ys n1 n2 d1 d2 s1 s2 hsz) ⟨o1, o2, he, ?_⟩) hu
  show Value.bool true ≠ Value.notImplemented ∧ Q (.bool true) s
  exact ⟨(fun x => nomatch x), h⟩
end

section
variable {X : Cx} {pins : List (Addr × Obj)} {σ : L2.St} {H : Hp} {s : Shared}
theorem rc_list (I : Inv X pins σ H s) (ds : List PyData) (A : Around) (a b : Addr) (xs ys : List V) (hu : A.units < cLine) (q1 : SqL X.K H a xs) (q2 : SqL X.K H b ys)
    (k : ∀ A' : Around, A'.units + PyData.depthAll ds < cLine → ∀ (us vs : List Value), Vals xs us → Vals ys vs → us.length = vs.length ∧ ∀ j (h1 : j < us.length) (h2 : j < vs.length), SeqAt.EqP X.prog X.w A' s us[j] vs[j] true)
    (hu2 : A.units + 1 + PyData.depthAll ds < cLine) (E Q : Value → Shared → Prop) (h : Q (.bool true) s) : wpAny (model X.prog X.w) A (richCompare .Eq (.ref a) (.ref b)) Q E s := by
  obtain ⟨us, r1, p1, _⟩ := I.list q1
  obtain ⟨vs, r2, p2, _⟩ := I.list q2
  obtain ⟨hl, hj⟩ := k A.in1 hu2 us vs r1 r2
  refine SeqAt.rcP_lists (e := fun _ => true) p1.isList p2.isList (by simpa using hl) hu (fun j h1 h2 => ?_) E Q ?_
  · simpa using hj j (by simpa using h1) (by simpa using h2)
  · rw [show ((List.range us.toArray.size).all fun _ => true) = true from List.all_eq_true.mpr fun _ _ => rfl]
    exact h
theorem rc_tup (I : Inv X pins σ H s) (ds : List PyData) (A : Around) (a b : Addr) (xs ys : List V) (hu : A.units < cLine) (q1 : SqT X.K H a xs) (q2 : SqT X.K H b ys)
    (k : ∀ A' : Around, A'.units + PyData.depthAll ds < cLine → ∀ (us vs : List Value), Vals xs us → Vals ys vs → us.length = vs.length ∧ ∀ j (h1 : j < us.length) (h2 : j < vs.length), SeqAt.EqP X.prog X.w A' s us[j] vs[j] true)
    (hu2 : A.units + 1 + PyData.depthAll ds < cLine) (E Q : Value → Shared → Prop) (h : Q (.bool true) s) : wpAny (model X.prog X.w) A (richCompare .Eq (.ref a) (.ref b)) Q E s := by
  obtain ⟨us, r1, p1, _⟩ := I.tuple q1
  obtain ⟨vs, r2, p2, _⟩ := I.tuple q2
  obtain ⟨hl, hj⟩ := k A.in1 hu2 us vs r1 r2
  obtain ⟨o1, g1, c1, n1, t1⟩ := p1
  obtain ⟨o2, g2, c2, n2, t2⟩ := p2
  refine rc_tuples ⟨o1, g1, c1, n1, t1⟩ ⟨o2, g2, c2, n2, t2⟩ (by simpa using hl) hu (fun j h1 h2 => ?_) E Q h
  simpa using hj j (by simpa using h1) (by simpa using h2)
theorem rc_dic (I : Inv X pins σ H s) (ds : List (PyData × PyData)) (A : Around) (a b : Addr) (ks ls : List (Key × V)) (hu : A.units < cLine) (q1 : H a = some (.dK ks)) (q2 : H b = some (.dK ls))
    (k : ∀ A' : Around, A'.units + PyData.depthKv ds < cLine → ∀ (vs ws pre : List (Key × Value)), KV ks vs → KV ls ws → ((pre ++ ws).map (·.1)).Nodup → vs.length = ws.length ∧ PySem.W.KeqHitsP X.prog X.w A' s (pre ++ ws) vs true)
    (hu2 : A.units + 1 + PyData.depthKv ds < cLine) (E Q : Value → Shared → Prop) (h : Q (.bool true) s) : wpAny (model X.prog X.w) A (richCompare .Eq (.ref a) (.ref b)) Q E s := by
  obtain ⟨_, ya, va, ra, da⟩ := (show ObjOk X.prog X.w H s.heap a (.dK ks) from I.hok a _ q1)
  obtain ⟨_, yb, vb, rb, db⟩ := (show ObjOk X.prog X.w H s.heap b (.dK ls) from I.hok b _ q2)
  obtain ⟨_, _, _, _, _, _, _, _, hn⟩ := id db
  obtain ⟨hl, hh⟩ := k A.in1 hu2 va vb [] ra rb hn
  refine PySem.W.rcP_dicts (knd := mixKind X.prog X.w) (r := true) ya yb da db hu (fun _ => hh) E Q ?_
  rw [show (va.length == vb.length && true) = true by rw [hl]; simp]
  exact h
theorem value_mid {k : Key} {y : Value} {pre r : List (Key × Value)} (h : ((pre ++ (k, y) :: r).map (·.1)).Nodup) : valueAt (pre ++ (k, y) :: r) k = some y := by
  have hn : pre.find? (fun kv => decide (kv.1 = k)) = none := by
    rw [List.find?_eq_none]
    intro z hz e
    have e' : z.1 = k := by simpa using e
    rw [List.map_append, List.nodup_append] at h
    exact h.2.2 z.1 (List.mem_map.mpr ⟨z, hz, rfl⟩) k (by simp) e'
  unfold valueAt
  rw [List.find?_append, hn]
  simp
mutual
theorem dd_eq (I : Inv X pins σ H s) : ∀ (d : PyData) (A : Around) (x y : V) (u v : Value), A.units + d.depth < cLine → Dd X.K H x d → Dd X.K H y d → RelV x u → RelV y v → SeqAt.EqP X.prog X.w A s u v true
  | .none, _, _, _, _, _, _, h1, h2, r1, r2 => by
    cases h1; cases h2
    exact (eqAt_same r1 r2 rfl).eqP
  | .bool _, _, _, _, _, _, _, h1, h2, r1, r2 => by
    cases h1; cases h2
    exact (eqAt_same r1 r2 rfl).eqP
  | .int _, _, _, _, _, _, _, h1, h2, r1, r2 => by
    cases h1; cases h2
    exact (eqAt_same r1 r2 rfl).eqP
  | .str _, _, _, _, _, _, _, h1, h2, r1, r2 => by
    cases h1; cases h2
    exact (eqAt_same r1 r2 rfl).eqP
  | .list ds, A, _, _, _, _, hu, h1, h2, r1, r2 => by
    have hd : PyData.depth (.list ds) = PyData.depthAll ds + 1 := by simp only [PyData.depth]
    cases h1 with
    | @lst a xs _ q1 k1 =>
      cases h2 with
      | @lst b ys _ q2 k2 =>
        cases r1; cases r2
        by_cases e : a = b
        · subst e
          exact (SeqAt.EqAt.same _).eqP
        · exact SeqAt.eqP_refs e fun E Q hq => rc_list I ds A a b xs ys (by omega) q1 q2 (fun A' hA' => dds_eq I ds A' xs ys hA' k1 k2) (by omega) E Q hq
  | .tuple ds, A, _, _, _, _, hu, h1, h2, r1, r2 => by
    have hd : PyData.depth (.tuple ds) = PyData.depthAll ds + 1 := by simp only [PyData.depth]
    cases h1 with
    | @tup a xs _ q1 k1 =>
      cases h2 with
      | @tup b ys _ q2 k2 =>
        cases r1; cases r2
        by_cases e : a = b
        · subst e
          exact (SeqAt.EqAt.same _).eqP
        · exact SeqAt.eqP_refs e fun E Q hq => rc_tup I ds A a b xs ys (by omega) q1 q2 (fun A' hA' => dds_eq I ds A' xs ys hA' k1 k2) (by omega) E Q hq
  | .dict ds, A, _, _, _, _, hu, h1, h2, r1, r2 => by
    have hd : PyData.depth (.dict ds) = PyData.depthKv ds + 1 := by simp only [PyData.depth]
    cases h1 with
    | @dic a ks _ q1 k1 =>
      cases h2 with
      | @dic b ls _ q2 k2 =>
        cases r1; cases r2
        by_cases e : a = b
        · subst e
          exact (SeqAt.EqAt.same _).eqP
        · exact SeqAt.eqP_refs e fun E Q hq => rc_dic I ds A a b ks ls (by omega) q1 q2 (fun A' hA' vs ws pre e1 e2 e3 => ddk_eq I ds A' ks ls vs ws pre hA' k1 k2 e1 e2 e3) (by omega) E Q hq
theorem dds_eq (I : Inv X pins σ H s) : ∀ (ds : List PyData) (A : Around) (xs ys : List V), A.units + PyData.depthAll ds < cLine → Dds X.K H xs ds → Dds X.K H ys ds →
    ∀ (us vs : List Value), Vals xs us → Vals ys vs → us.length = vs.length ∧ ∀ j (h1 : j < us.length) (h2 : j < vs.length), SeqAt.EqP X.prog X.w A s us[j] vs[j] true
  | [], _, _, _, _, h1, h2, _, _, r1, r2 => by
    cases h1; cases h2; cases r1; cases r2
    exact ⟨rfl, fun j h1 _ => absurd h1 (Nat.not_lt_zero j)⟩
  | d :: ds, A, _, _, hu, h1, h2, _, _, r1, r2 => by
    simp only [PyData.depthAll] at hu
    cases h1 with
    | cons a1 b1 =>
      cases h2 with
      | cons a2 b2 =>
        cases r1 with
        | cons c1 e1 =>
          cases r2 with
          | cons c2 e2 =>
            obtain ⟨hl, hj⟩ := dds_eq I ds A _ _ (by omega) b1 b2 _ _ e1 e2
            refine ⟨by rw [List.length_cons, List.length_cons, hl], fun j h1 h2 => ?_⟩
            cases j with
            | zero => exact dd_eq I d A _ _ _ _ (by omega) a1 a2 c1 c2
            | succ j => exact hj j (Nat.lt_of_succ_lt_succ h1) (Nat.lt_of_succ_lt_succ h2)
theorem ddk_eq (I : Inv X pins σ H s) : ∀ (ds : List (PyData × PyData)) (A : Around) (ks ls : List (Key × V)) (vs ws pre : List (Key × Value)), A.units + PyData.depthKv ds < cLine → Ddk X.K H ks ds → Ddk X.K H ls ds → KV ks vs → KV ls ws →
    ((pre ++ ws).map (·.1)).Nodup → vs.length = ws.length ∧ PySem.W.KeqHitsP X.prog X.w A s (pre ++ ws) vs true
  | [], _, _, _, _, _, _, _, h1, h2, r1, r2, _ => by
    cases h1; cases h2; cases r1; cases r2
    exact ⟨rfl, .nil⟩
  | (kd, d) :: ds, A, _, _, _, _, pre, hu, h1, h2, r1, r2, hn => by
    simp only [PyData.depthKv] at hu
    generalize hz : ((kd, d) :: ds : List (PyData × PyData)) = zs at h2
    cases h1 with
    | @cons k x xs _ _ a1 b1 =>
      cases h2 with
      | nil => cases hz
      | @cons k2 y ys d2 ds2 a2 b2 =>
        injection hz with hz1 hz2
        injection hz1 with hz3 hz4
        subst hz2 hz4
        have ek : k = k2 := by
          cases k <;> cases k2 <;> simp [keyD] at hz3 <;> simp [hz3]
        subst ek
        cases r1 with
        | @cons _ p1 _ vs c1 e1 =>
          cases r2 with
          | @cons _ p2 _ ws c2 e2 =>
            obtain ⟨f1, g1⟩ := c1
            obtain ⟨f2, g2⟩ := c2
            obtain ⟨k1, u⟩ := p1
            obtain ⟨k3, v⟩ := p2
            have m1 : k = k1 := f1
            have m2 : k = k3 := f2
            subst m1 m2
            have hn' : (((pre ++ [(k, v)]) ++ ws).map (·.1)).Nodup := by simpa using hn
            obtain ⟨hl, hh⟩ := ddk_eq I ds A _ _ _ _ (pre ++ [(k, v)]) (by omega) b1 b2 e1 e2 hn'
            have hh' : PySem.W.KeqHitsP X.prog X.w A s (pre ++ (k, v) :: ws) vs true := by simpa using hh
            refine ⟨by rw [List.length_cons, List.length_cons, hl], ?_⟩
            exact PySem.W.KeqHitsP.hit (e := true) (b := true) (value_mid hn) (dd_eq I d A _ _ _ _ (by omega) a1 a2 g1 g2) hh'
end
end

section
variable {X : Cx}
/-- x == y where both stand for the same data -/
def rAlike (K : PySem.W.Frag) : R2 := fun x y H Q => ∃ d, Dd K H x d ∧ Dd K H y d ∧ d.depth ≤ 60 ∧ Q (.bl true) H
theorem op_alike (hu : X.A.units + 64 < cLine) : OpR X (compareOp .Eq) (rAlike X.K) := by
  intro pins s σ H x y v u Q I rx ry h
  obtain ⟨d, h1, h2, hd, q⟩ := h
  have fin : EP X pins σ Q (.bool true) s := ⟨.bl true, H, I, rfl, q⟩
  have flat : ∀ z : V, x = z → y = z → scal z z = true → wpAny (model X.prog X.w) X.A (compareOp .Eq v u) (EP X pins σ Q) X.xe s := fun z e1 e2 e3 => by
    subst e1
    subst e2
    refine op_eq pins s σ H _ _ v u Q I rx ry ⟨e3, ?_⟩
    rw [decide_eq_true rfl]
    exact q
  cases d with
  | none => cases h1; cases h2; exact flat _ rfl rfl rfl
  | bool b => cases h1; cases h2; exact flat _ rfl rfl rfl
  | int i => cases h1; cases h2; exact flat _ rfl rfl rfl
  | str i => cases h1; cases h2; exact flat _ rfl rfl rfl
  | list ds =>
    simp only [PyData.depth] at hd
    cases h1 with
    | @lst a xs _ q1 k1 =>
      cases h2 with
      | @lst b ys _ q2 k2 =>
        cases rx; cases ry
        exact rc_list I ds X.A a b xs ys (by omega) q1 q2 (fun A' hA' => dds_eq I ds A' xs ys hA' k1 k2) (by omega) _ _ fin
  | tuple ds =>
    simp only [PyData.depth] at hd
    cases h1 with
    | @tup a xs _ q1 k1 =>
      cases h2 with
      | @tup b ys _ q2 k2 =>
        cases rx; cases ry
        exact rc_tup I ds X.A a b xs ys (by omega) q1 q2 (fun A' hA' => dds_eq I ds A' xs ys hA' k1 k2) (by omega) _ _ fin
  | dict ds =>
    simp only [PyData.depth] at hd
    cases h1 with
    | @dic a ks _ q1 k1 =>
      cases h2 with
      | @dic b ls _ q2 k2 =>
        cases rx; cases ry
        exact rc_dic I ds X.A a b ks ls (by omega) q1 q2 (fun A' hA' vs ws pre e1 e2 e3 => ddk_eq I ds A' ks ls vs ws pre hA' k1 k2 e1 e2 e3) (by omega) _ _ fin

/-! ### repr -/
def rRepr (K : PySem.W.Frag) : List V → Hp → VK → Prop := fun xs H Q => ∃ v d, xs = [v] ∧ Dd K H v d ∧ d.depth ≤ 60 ∧ d.showable = true ∧ d.shown.length ≤ sizeLine ∧ Q (.str d.shown) H
theorem call_reprD (hg : X.A.guards = some []) (hu : X.A.units + 64 < cLine) : CallR X (.builtin "repr") (rRepr X.K) := by
  intro pins s σ H xs us Q I r h
  obtain ⟨v, d, rfl, hd, hz, hs, hl, q⟩ := h
  obtain ⟨u, rfl, ru⟩ := vals1 r
  have fin : ∀ (h' : Heap) (tk : Tok) (t : Nat), (∀ b o, s.heap.get? b = some o → h'.get? b = some o) → EP X pins σ Q (.str d.shown tk) { s with heap := h', toks := t } :=
    fun h' tk t k => ⟨.str d.shown, H, I.kept (t' := t) k, ⟨_, rfl⟩, q⟩
  cases d with
  | none =>
    cases hd; cases ru
    have f := fin s.heap
    simp only [PyData.shown] at f
    exact PySem.P.repr_of_none (f _ _ fun _ _ e => e)
  | bool b =>
    cases hd; cases ru
    have f := fin s.heap
    simp only [PyData.shown] at f
    exact PySem.P.repr_of_bool (f _ _ fun _ _ e => e)
  | int i =>
    cases hd
    obtain ⟨t, rfl⟩ := ru
    have f := fin s.heap
    simp only [PyData.shown] at f
    exact PySem.P.repr_of_int (by simpa [PyData.showable] using hs) (f _ _ fun _ _ e => e)
  | str x =>
    cases hd
    obtain ⟨t, rfl⟩ := ru
    have f := fin s.heap
    simp only [PyData.shown] at f hl
    exact PySem.P.repr_of_str (f _ _ fun _ _ e => e) hl
  | list ds =>
    cases hd with
    | @lst a xs _ q1 k1 =>
      cases ru
      obtain ⟨its, rv, ⟨o, n, ho, hc, _, hd⟩, _⟩ := I.list q1
      obtain ⟨as, hr, hk⟩ := dds_say I ds xs its k1 rv
      have R : Reads s.heap (.ref a) (.list ds) (a :: as) := Reads.list ho hc hd hr
      simp only [PyData.shown] at hl fin
      obtain ⟨bs, hb, kk⟩ := hk (by simpa [PyData.showable] using hs) fun t ht => Nat.le_trans (listText_mem_le ht) hl
      have hna : a ∉ bs := not_mem_of_deeper R (by simp only [PyData.depth]; omega) hb
      simp only [PyData.depth] at hz
      refine call_repr_slot (by omega) ⟨o, ho, hc⟩ PySem.F.slot_list_repr.toG ?_
      cases its with
      | nil =>
        cases kk' : PyData.shownAll ds with
        | nil =>
          rw [kk', listText_nil] at fin
          exact call_list_repr_empty ⟨o, ho, hc⟩ ho hd ⟨_, _, rfl, fin s.heap _ _ fun _ _ e => e⟩
        | cons t ts =>
          rw [kk'] at kk
          exact nomatch kk
      | cons z its =>
        exact call_list_reprK ho hc hd hna (by simpa using kk.length_eq) (fun i y e => kk.item i y (by simpa using e)) hg (fun b _ => Clear.nil b) (by show X.A.units + 1 + _ < cLine; omega) (fun _ _ e => e) (fun h' u tk k => ⟨_, _, rfl, fin h' u tk k⟩) hl
  | tuple ds =>
    cases hd with
    | @tup a xs _ q1 k1 =>
      cases ru
      obtain ⟨its, rv, ⟨o, ho, hc, n, hd⟩, _⟩ := I.tuple q1
      obtain ⟨as, hr, hk⟩ := dds_say I ds xs its k1 rv
      have R : Reads s.heap (.ref a) (.tuple ds) as := Reads.tuple ho hc hd hr
      simp only [PyData.shown] at hl fin
      obtain ⟨bs, hb, kk⟩ := hk (by simpa [PyData.showable] using hs) fun t ht => Nat.le_trans (tupleText_mem_le ht) hl
      have hna : a ∉ bs := not_mem_of_deeper R (by simp only [PyData.depth]; omega) hb
      simp only [PyData.depth] at hz
      refine call_repr_slot (by omega) ⟨o, ho, hc⟩ PySem.F.slot_tuple_repr ?_
      exact call_tuple_reprK ho hc hd hna kk hg (fun b _ => Clear.nil b) (by show X.A.units + 1 + _ < cLine; omega) (fun _ _ e => e) (fun h' u tk k => ⟨_, _, rfl, fin h' u tk k⟩) hl
  | dict ds =>
    cases hd with
    | @dic a kvs _ q1 k1 =>
      cases ru
      obtain ⟨_, lo, vs, rel, o, es, ep, ho, hx, hd, _, hp, _⟩ := (show ObjOk X.prog X.w H s.heap a (.dK kvs) from I.hok a _ q1)
      obtain ⟨as, cs, h1, h2, hk⟩ := ddk_say I ds kvs es.toList vs k1 rel hp
      have R : Reads s.heap (.ref a) (.dict ds) (a :: as ++ cs) := Reads.dict ho hx.1 hd h1 h2
      simp only [PyData.shown] at hl fin
      obtain ⟨bs, hb, kk⟩ := hk (by simpa [PyData.showable] using hs) fun t ht => Nat.le_trans (dictText_mem_le ht) hl
      have hna : a ∉ bs := not_mem_of_deeper R (by simp only [PyData.depth]; omega) hb
      simp only [PyData.depth] at hz
      refine call_repr_slot (by omega) ⟨o, ho, hx.1⟩ PySem.F.slot_dict_repr ?_
      exact call_dict_reprK ho hx.1 hd lo hna kk hg (fun b _ => Clear.nil b) (by show X.A.units + 1 + _ < cLine; omega) (fun _ _ e => e) (fun h' u tk k => ⟨_, _, rfl, fin h' u tk k⟩) hl
end

/-! ### promises where no repr is under way -/
structure FnG (P : Program) (w : World) (K : PySem.W.Frag) (mg : Str → Option Value) (base : Heap) (k : Nat) (f : Addr) (fd : FuncData) (ps : List Str) (sp : Sp) : Prop where
  size : ∀ vs H Q E, sp vs H Q E → vs.length = ps.length
  goes : ∀ (A : Around) (outer : List Env) (s : Shared) (H : Hp) (args : Args) (us : List Value) (vs : List V) (Q : VK) (E : XK), A.guards = some [] → Room k A → Env0 P w K mg base A outer s H →
    BindsTo s fd args (ps.zip us) → Vals vs us → sp vs H Q E → codeAny (model P w) A (.call (.ref f) args) (CR CX0 outer P w H s Q E) s
section
variable {P : Program} {w : World} {K : PySem.W.Frag} {mg : Str → Option Value} {base : Heap}
theorem okG {x qual : Str} {st : Stmt} {f : Addr} {fd : FuncData} {N ps : List Str} {k : Nat} {sp : Sp} (F : Fun K x qual st f fd) (S : FnScope N ps (defScope st)) (size : ∀ vs H Q E, sp vs H Q E → vs.length = ps.length)
    (body : ∀ (cdv : Value) (A : Around) (outer : List Env) (s : Shared) (H : Hp) (vs : List V) (Q : VK) (E : XK), A.guards = some [] → Room k (A.deeper (envOfC qual (defScope st) s.heap.objs.size f cdv)) → sp vs H Q E →
      ∃ t, PSs (cxOf CX0 P w K mg base N qual (defScope st) f cdv A outer s H E).nox (defBody st) t ∧ t { nx := fun _ H' => Q .non H', rt := Q } (start N vs) H) : FnG P w K mg base (k + 1) f fd ps sp := by
  obtain ⟨c1, c2, c3, c4, c5, c6, cd, c7, c8, rfl, found, coded⟩ := F.ex
  refine ⟨size, fun A outer s H args us vs Q E hg hr e0 hb r hsp => ?_⟩
  have lens := size _ _ _ _ hsp
  have KX : K.In s.heap := e0.mod.kin.keeps fun b o e => (e0.bs b o e).1
  have lim : s.heap.NoLimit := e0.mod.nolimit.keeps fun b o e => (e0.bs b o e).1
  refine codeAny_call_function hr.depth (KX _ _ found) rfl S.co S.gen rfl (PySem.W.codeRec_of KX coded) (hb _ _ _ _ ?_)
  refine wpAny_newFunctionEnv_cells S.kind (fun ⟨n, v⟩ hy => ?_) fun env he s1 new => ?_
  · rcases S.par n (List.of_mem_zip hy).1 with q | q
    · exact .inl q
    · exact .inr ⟨q, PySem.W.cellsFrom_some _ _ _ (.inl q)⟩
  subst he
  refine ⟨lim.keeps new.toInCall.keep, codeAny_func ?_⟩
  obtain ⟨t, ht, hq⟩ := body cd A outer s H vs Q E hg (hr.deeper _) hsp
  have I : Inv (cxOf CX0 P w K mg base N qual (defScope st) f cd A outer s H E) [] (start N vs) H s1 := inv_start S hr.hd e0 lens r new
  refine wpAny_mono (ht.nox.run [] s1 (start N vs) H _ I hq) (fun fl s' hs => ?_) fun e s' hs => hs
  cases fl with
  | ret u =>
    obtain ⟨v, σ', H', J, rv, q⟩ := hs
    exact ⟨v, H', J.os, J.bare, J.base, J.hok, rv, q⟩
  | next =>
    obtain ⟨σ', H', J, q⟩ := hs
    exact ⟨V.non, H', J.os, J.bare, J.base, J.hok, rfl, q⟩
  | brk =>
    obtain ⟨_, _, _, q⟩ := hs
    exact q.elim
  | cont =>
    obtain ⟨_, _, _, q⟩ := hs
    exact q.elim
end
section
variable {X : Cx} {k : Nat} {f : Addr} {fd : FuncData} {ps : List Str} {sp : Sp} {x : Str} {p pos : Pos} {e : Expr} {es : List Expr} {t : TA}
theorem callG (F : FnG X.prog X.w X.K X.mg X.base k f fd ps sp) (hg : X.A.guards = some []) (hr : Room k X.A) (gl : Gl X x) (hm : X.mg x = some (.ref f)) (hk : PySem.W.keepIn X.K (.ref f) = true) (hb : Binds X.K fd ps [])
    (ha : PA X (e :: es) t) (hdb : (x == ("__debug__" : Str)) = false := by decide) (he : starEach (e :: es) X.env = (false, eval e X.env) :: starEach es X.env := by rfl) (hpl : (backTo pos (starEach es X.env)).any (·.1) = false := by rfl) :
    PE X (.Call (.Name x p) (e :: es) [] pos) (tCall sp [] E0 t) := by
  refine ⟨fun pins s σ H Q I h => ?_⟩
  refine wpAny_Call_Name_kw (ld_glob I gl hm ?_ hdb)
  refine PySem.W.callWith_K (h₀ := X.base) I.ok.mod.kin hk (thn (ha.run pos pins s σ H _ I h) fun us s1 ⟨vs, H1, I1, r, q⟩ => ⟨I1.kIn, ?_⟩) he hpl
  have q' : sp vs H1 Q E0 := by simpa using q
  have hl : (us ++ []).length = ps.length := by
    rw [List.append_nil, ← r.length]
    exact F.size _ _ _ _ q'
  have hb' : BindsTo s1 fd ⟨us, []⟩ (ps.zip us) := by simpa using hb s1 us I1.kIn hl
  refine wpAny_call (codeAny_mono (F.goes X.A X.stack s1 H1 ⟨us, []⟩ us vs Q E0 hg hr I1.env0 hb' r q') fun r s' hq => ?_)
  cases r with
  | error e => exact False.elim hq
  | ok fl =>
    cases fl with
    | ret u => exact I1.after hq
    | next => exact False.elim hq
    | brk => exact False.elim hq
    | cont => exact False.elim hq
end

/-! ### the end of a law's row -/
theorem law_goes {P : Program} {w : World} {K : PySem.W.Frag} {mg mb : Str → Option Value} {k : Nat} {fa a : Addr} {fd : FuncData} {x : Str} {sp : Sp} {s₁ : Shared} {vs : List Value} {ns : List Int}
    (KX : K.In s₁.heap) (hns : s₁.heap.Ns mainGlobals mg) (hb : s₁.heap.Ns builtinsNs mb) (hbb : ∀ x : Str, x ≠ "__name__" → mb x = bootBuiltins x) (hlim : s₁.heap.NoLimit) (hg : s₁.gens = #[])
    (ha : s₁.heap.get? a = some { cls := .type "list", data := .seq vs.toArray }) (hi : IntsAre vs ns) (hl : ns.length ≤ sizeLine) (hr : Room k callerA)
    (F : ∀ base : Heap, K.In base → base.Ns mainGlobals mg → FnG P w K mg base k fa fd [x] sp) (hbind : ∀ (s : Shared) (u : Value), BindsTo s fd ⟨[u], []⟩ [(x, u)])
    (hsp : ∀ H : Hp, SqL K H a (ns.map V.int) → sp [.ref a] H (fun v _ => v = .bl true) fun _ _ _ => False) :
    codeAny (model P w) callerA (.call (.ref fa) ⟨[.ref a], []⟩) (fun r s' => r = .ok (.ret (.bool true)) ∧ OldK s₁.heap s'.heap ∧ s'.os = s₁.os ∧ AllBare s'.gens) s₁ := by
  have rv := vals_ints hi
  -- H tracks the script at most, as a frozen thing
  have main : ∀ H : Hp, (∀ b, H b = none ∨ (b = a ∧ K.lookup a = none ∧ ∃ o xs, H b = some (.frz o (.lst xs)))) → SqL K H a (ns.map V.int) → HOk P w H s₁.heap →
      codeAny (model P w) callerA (.call (.ref fa) ⟨[.ref a], []⟩) (fun r s' => r = .ok (.ret (.bool true)) ∧ OldK s₁.heap s'.heap ∧ s'.os = s₁.os ∧ AllBare s'.gens) s₁ := by
    intro H hO hS ok
    have free : ∀ {b : Addr} {o : Obj} {es : Array DictEntry} {ep : Nat}, s₁.heap.get? b = some o → o.data = .dict es ep → H b = none := fun {b o es ep} e d => by
      rcases hO b with z | ⟨rfl, _, _⟩
      · exact z
      · rw [ha] at e
        cases e
        exact nomatch (show Data.seq vs.toArray _ = Data.dict es ep from d)
    have ns' : ∀ {b : Addr} {m : Str → Option Value}, s₁.heap.Ns b m → (hidT s₁.heap H).Ns b m := fun {b m} ⟨o, es, ep, e, d, r⟩ => ⟨o, es, ep, hidT_get e (free e d), d, r⟩
    have kb : K.In (hidT s₁.heap H) := fun b o e => hidT_get (KX b o e) (by
      rcases hO b with z | ⟨rfl, z, _⟩
      · exact z
      · rw [z] at e
        cases e)
    obtain ⟨mc, l1, l2⟩ := hlim
    have e0 : Env0 P w K mg (hidT s₁.heap H) callerA [] s₁ H :=
      { frames := rfl, mod := ⟨kb, ns' hns, ⟨mb, ns' hb, hbb⟩, ⟨mc, ns' l1, l2⟩⟩, bs := fun b o e => of_hidT e, bsz := Nat.le_of_eq (hidT_size _ _), funs := trivial, frf := fun b z => (by cases z), hok := ok, bare := .of_eq hg }
    refine codeAny_mono ((F _ kb (ns' hns)).goes callerA [] s₁ H ⟨[.ref a], []⟩ [.ref a] [.ref a] _ _ rfl hr e0 (hbind s₁ (.ref a)) (.cons rfl .nil) (hsp H hS)) fun r s' h => ?_
    cases r with
    | error e => exact False.elim h
    | ok fl =>
      cases fl with
      | next => exact False.elim h
      | brk => exact False.elim h
      | cont => exact False.elim h
      | ret u =>
        obtain ⟨v, H', os, bare, un, ok', r', q⟩ := h
        have q' : v = .bl true := q
        subst q'
        have eu : u = Value.bool true := r'
        subst eu
        refine ⟨rfl, OldK.of_keep fun b o e => ?_, os, bare⟩
        rcases hO b with z | ⟨rfl, _, ob, xs, z⟩
        · exact un.keep b o e z (fun m => nomatch m) (fun m => nomatch m)
        · have z2 := un.frzs _ ob _ z
          obtain ⟨e1, _⟩ := ok _ _ z
          obtain ⟨e2, _⟩ := ok' _ _ z2
          rw [e] at e1
          cases e1
          exact e2
  cases hk : K.lookup a with
  | some o =>
    have e := (KX a o hk).symm.trans ha
    cases e
    refine main (fun _ => none) (fun _ => .inl rfl) (.inr ⟨_, vs.toArray, _, hk, rfl, rfl, rfl, ?_, by simpa using rv⟩) fun b u z => nomatch (show (none : Option HO) = some u from z)
    rw [List.size_toArray, hi.length]
    exact hl
  | none =>
    let ob : Obj := { cls := .type "list", data := .seq vs.toArray }
    refine main (upd (fun _ => none) a (.frz ob (.lst (ns.map V.int)))) (fun b => ?_) (.inl (.inr ⟨ob, upd_same⟩)) fun b u z => ?_
    · by_cases e : b = a
      · exact .inr ⟨e, hk, ob, _, by rw [e]; exact upd_same⟩
      · exact .inl (by rw [upd_ne e])
    · by_cases e : b = a
      · subst e
        rw [upd_same] at z
        cases z
        exact ⟨ha, by rw [List.length_map]; exact hl, vs, _, rv, ha⟩
      · rw [upd_ne e] at z
        exact nomatch z
theorem walkG {l : PySem.W.OpenLaw} {n k : Nat} {q : Program} {loose : List Str} {XP : (Str → Option Value) → Heap → Prop} {YP : World → Heap → Prop} {d : DefRec} {K : Params → PySem.W.Frag} {sp : PySem.W.Frag → Sp} {x : Str}
    (hn : l.most = some n) (hn2 : n ≤ sizeLine) (hdf : d.params.defaults = []) (hr : Room k callerA)
    (hY : ∀ (w : World) (h : Heap), YP w h → (K w.params).In h)
    (F : ∀ (w : World) (mg : Str → Option Value) (fa : Addr) (h : Heap), (K w.params).In h → h.Ns mainGlobals mg → mg d.name = some (.ref fa) →
      ∃ fd : FuncData, (∀ (s : Shared) (u : Value), BindsTo s fd ⟨[u], []⟩ [(x, u)]) ∧
        ∀ base : Heap, (K w.params).In base → base.Ns mainGlobals mg → FnG l.prog w (K w.params) mg base k fa fd [x] (sp (K w.params)))
    (hsp : ∀ (K : PySem.W.Frag) (H : Hp) (a : Addr) (ns : List Int), ns.length ≤ n → SqL K H a (ns.map V.int) → sp K [.ref a] H (fun v _ => v = .bl true) fun _ _ _ => False) :
    PySem.W.WalkO q loose XP YP l.row.toRowW d [] (fun f vs => PySem.call f vs) := by
  refine Att.attach_call hn hdf fun w s₀ s₁ mg mb fa o pm cd doc a vs ns G Y ho hd hcd hmg hobj hints hlen hg => ?_
  have KX := hY w _ Y
  obtain ⟨fd, hb, hF⟩ := F w mg fa _ KX G.T.g hmg
  exact law_goes KX G.T.g G.T.b G.T.builtins G.T.nolimit hg hobj hints (Nat.le_trans hlen hn2) hr hF hb fun H hS => hsp _ H a ns hlen hS
end Pg

set_option Elab.async false
set_option linter.all false
set_option maxRecDepth 100000
set_option maxHeartbeats 4000000
namespace Pg
open PySem PySem.Spec PyProof.Rows L2
/-! ### small helps -/
def rGetL (K : PySem.W.Frag) : V → V → Hp → VK → Prop := fun o i H Q => ∃ (p : Addr) (xs : List V) (j : Nat) (v : V), o = .ref p ∧ i = .int j ∧ SqL K H p xs ∧ xs[j]? = some v ∧ Q v H
theorem get_list {X : Cx} : PGet X (rGetL X.K) := by
  intro pins s σ H o i ov iv Q I ro ri h
  obtain ⟨p, xs, j, v, rfl, rfl, hp, hv, q⟩ := h
  cases ro
  obtain ⟨t, rfl⟩ := ri
  obtain ⟨its, r, pl, hz⟩ := I.list hp
  obtain ⟨u, eu, ru⟩ := r.get hv
  have hj : j < xs.length := (List.getElem?_eq_some_iff.mp hv).1
  have hn := sizeLine_eq
  exact wpAny_getItem_list pl.isList (by omega) (by omega) (by simpa using eu) ⟨v, H, I, ru, q⟩
/-- a statement, then M between it and the rest -/
theorem seqI {tA tR : TS} {D : Ends} {σ : L2.St} {H : Hp} (M : L2.St → Hp → Prop) (h1 : ∀ nx : L2.St → Hp → Prop, (∀ σ' H', M σ' H' → nx σ' H') → tA { D with nx := nx } σ H) (h2 : ∀ σ' H', M σ' H' → tR D σ' H') : tSeq tA tR D σ H := h1 _ h2
/-- all that stood, but the object at b, stands -/
def Off (b : Addr) (H H' : Hp) : Prop := ∀ a o, a ≠ b → H a = some o → H' a = some o
theorem Off.refl (b : Addr) (H : Hp) : Off b H H := fun _ _ _ h => h
theorem Off.trans {b : Addr} {H H1 H2 : Hp} (x : Off b H H1) (y : Off b H1 H2) : Off b H H2 := fun a o n h => y a o n (x a o n h)
theorem Off.new {b p : Addr} {H H1 : Hp} {o : HO} (x : Off b H H1) (hp : H1 p = none) : Off b H (upd H1 p o) := fun a u n h => by
  rw [upd_ne (ne_of_none (x a u n h) hp)]
  exact x a u n h
theorem Off.put {b : Addr} {H H1 : Hp} {o : HO} (x : Off b H H1) : Off b H (upd H1 b o) := fun a u n h => by
  rw [upd_ne n]
  exact x a u n h
theorem Off.of {b : Addr} {H H1 : Hp} (x : Same H H1) : Off b H H1 := fun a o _ h => x a o h
/-- the drawing bag at b -/
structure BagA (H : Hp) (b c : Addr) (hold stir place : Int) (cells : List Int) : Prop where
  at_ : H b = some (.lst [.int hold, .int stir, .int place, .ref c])
  row : H c = some (.lst (cells.map V.int))
  hold0 : 0 ≤ hold
  stir0 : 0 ≤ stir
  stir1 : stir < 2147483647
  place0 : 0 ≤ place
  pos : ∀ n ∈ cells, 0 ≤ n
  few : cells.length ≤ 1000
def Bag (H : Hp) (b c : Addr) : Prop := ∃ hold stir place cells, BagA H b c hold stir place cells
theorem BagA.ne {H : Hp} {b c : Addr} {hold stir place : Int} {cells : List Int} (x : BagA H b c hold stir place cells) : c ≠ b := fun e => by
  have h1 := x.at_
  rw [← e, x.row] at h1
  have h2 : cells.map V.int = [.int hold, .int stir, .int place, .ref c] := HO.lst.inj (Option.some.inj h1)
  have h3 : (cells.map V.int)[3]? = some (.ref c) := by rw [h2] <;> rfl
  rw [List.getElem?_map] at h3
  cases h4 : cells[3]? with
  | none => rw [h4] at h3; cases h3
  | some z => rw [h4] at h3; cases h3
theorem BagA.new {H : Hp} {b c p : Addr} {hold stir place : Int} {cells : List Int} {o : HO} (x : BagA H b c hold stir place cells) (hp : H p = none) : BagA (upd H p o) b c hold stir place cells :=
  { x with at_ := by rw [upd_ne (ne_of_none x.at_ hp)]; exact x.at_, row := by rw [upd_ne (ne_of_none x.row hp)]; exact x.row }
theorem BagA.put {H : Hp} {b c : Addr} {hold stir place hold' stir' place' : Int} {cells : List Int} (x : BagA H b c hold stir place cells) (h0 : 0 ≤ hold') (h1 : 0 ≤ stir') (h2 : stir' < 2147483647) (h3 : 0 ≤ place') :
    BagA (upd H b (.lst [.int hold', .int stir', .int place', .ref c])) b c hold' stir' place' cells :=
  ⟨upd_same, by rw [upd_ne x.ne]; exact x.row, h0, h1, h2, h3, x.pos, x.few⟩
theorem Bag.new {H : Hp} {b c p : Addr} {o : HO} (x : Bag H b c) (hp : H p = none) : Bag (upd H p o) b c := by
  obtain ⟨h, s, p', cs, y⟩ := x
  exact ⟨h, s, p', cs, y.new hp⟩
theorem Bag.same {H H' : Hp} {b c : Addr} (x : Bag H b c) (e : Same H H') : Bag H' b c := by
  obtain ⟨h, s, p', cs, y⟩ := x
  exact ⟨h, s, p', cs, { y with at_ := e _ _ y.at_, row := e _ _ y.row }⟩
theorem Bag.upd {H : Hp} {b c p : Addr} {o : HO} (x : Bag H b c) (hb : p ≠ b) (hc : p ≠ c) : Bag (L2.upd H p o) b c := by
  obtain ⟨h, s, p', cs, y⟩ := x
  exact ⟨h, s, p', cs, { y with at_ := by rw [upd_ne hb.symm]; exact y.at_, row := by rw [upd_ne hc.symm]; exact y.row }⟩
theorem Bag.apart {H : Hp} {b c p : Addr} (x : Bag H b c) (hp : H p = none) : p ≠ b ∧ p ≠ c := by
  obtain ⟨h, s, p', cs, y⟩ := x
  exact ⟨(ne_of_none y.at_ hp).symm, (ne_of_none y.row hp).symm⟩
/-- a drawn number -/
def spTake : Sp := fun vs H Q _ => ∃ (b c : Addr) (many : Int), vs = [.ref b, .int many] ∧ Bag H b c ∧ 0 < many ∧ many < 2 ^ 60 ∧ ∀ H' v, Off b H H' → Bag H' b c → 0 ≤ v → v < many → Q (.int v) H'
def spBag (K : PySem.W.Frag) : Sp := fun vs H Q _ => ∃ (a : Addr) (ns : List Int), vs = [.ref a] ∧ SqL K H a (ns.map V.int) ∧ ns.length ≤ 63 ∧ ∀ H' b c, Same H H' → H b = none → H c = none → Bag H' b c → Q (.ref b) H'
/-- one of the things of a list -/
def spSome : Sp := fun vs H Q _ => ∃ (b c t : Addr) (xs : List V), vs = [.ref b, .ref t] ∧ Bag H b c ∧ t ≠ b ∧ H t = some (.lst xs) ∧ xs ≠ [] ∧ xs.length ≤ 1000 ∧ ∀ H' v, Off b H H' → Bag H' b c → v ∈ xs → Q v H'
/-- what a comprehension's turn asks: its element is added to the list at D -/
def adds (te : TE) (D : Addr) (P' : Hp → Prop) (σ : L2.St) (H : Hp) : Prop := te σ H fun y H' => ∃ acc, H' D = some (.lst acc) ∧ acc.length < sizeLine ∧ P' (upd H' D (.lst (acc ++ [y])))
/-- a comprehension over a list, one name, no test -/
theorem lcl {K : PySem.W.Frag} {a : Addr} {xs : List V} {j : Nat} {te : TE} {vs : List Nat} {σ : L2.St} {H : Hp} {Qd : Addr → Hp → Prop} (Pv : Addr → Nat → Hp → Prop)
    (h : ∀ D, H D = none → Pv D 0 (upd H D (.lst [])) ∧ (∀ i H', Pv D i H' → SqL K H' a xs) ∧
      (∀ i x H', xs[i]? = some x → Pv D i H' → wipe ((wipe σ vs).set j (some x)) vs = wipe σ vs ∧ adds te D (Pv D (i + 1)) ((wipe σ vs).set j (some x)) H') ∧ ∀ H', Pv D xs.length H' → Qd D H') :
    ∀ D, H D = none → ∃ W : Nat → Nat → Hp → Prop, (∃ m, W 0 m (upd H D (.lst []))) ∧ ∀ i m G, W i m G → ((Itl K a).stop i G ∧ Qd D G) ∨ ((Itl K a).go i G ∧ ∃ Nx : Hp → Prop, (∀ G', Nx G' → ∃ m', m' < m ∧ W (i + 1) m' G') ∧ ∀ x G', (Itl K a).yld i G x G' → gName j x (wipe σ vs) G' fun σ2 G2 => wipe σ2 vs = wipe σ vs ∧ tYes σ2 G2 fun b G3 => if b = true then te σ2 G3 fun y G4 => ∃ acc, G4 D = some (.lst acc) ∧ acc.length < sizeLine ∧ Nx (upd G4 D (.lst (acc ++ [y]))) else Nx G3) := fun D nD => by
  obtain ⟨h0, hl, hs, hd⟩ := h D nD
  refine lc_list (xs := xs) (Pv D) h0 (fun i H' _ p => hl i H' p) (fun i x H' e p => ?_) hd
  obtain ⟨h1, h2⟩ := hs i x H' e p
  exact ⟨h1, h2⟩
/-- .. over a range -/
theorem lcr {lo : Int} {n j : Nat} {te : TE} {vs : List Nat} {σ : L2.St} {H : Hp} {Qd : Addr → Hp → Prop} (Pv : Addr → Nat → Hp → Prop)
    (h : ∀ D, H D = none → Pv D 0 (upd H D (.lst [])) ∧
      (∀ i H', i < n → Pv D i H' → wipe ((wipe σ vs).set j (some (.int (lo + i)))) vs = wipe σ vs ∧ adds te D (Pv D (i + 1)) ((wipe σ vs).set j (some (.int (lo + i)))) H') ∧ ∀ H', Pv D n H' → Qd D H') :
    ∀ D, H D = none → ∃ W : Nat → Nat → Hp → Prop, (∃ m, W 0 m (upd H D (.lst []))) ∧ ∀ i m G, W i m G → ((Itr lo n).stop i G ∧ Qd D G) ∨ ((Itr lo n).go i G ∧ ∃ Nx : Hp → Prop, (∀ G', Nx G' → ∃ m', m' < m ∧ W (i + 1) m' G') ∧ ∀ x G', (Itr lo n).yld i G x G' → gName j x (wipe σ vs) G' fun σ2 G2 => wipe σ2 vs = wipe σ vs ∧ tYes σ2 G2 fun b G3 => if b = true then te σ2 G3 fun y G4 => ∃ acc, G4 D = some (.lst acc) ∧ acc.length < sizeLine ∧ Nx (upd G4 D (.lst (acc ++ [y]))) else Nx G3) := fun D nD => by
  obtain ⟨h0, hs, hd⟩ := h D nD
  refine lc_range (Pv D) h0 (fun i H' e p => ?_) hd
  obtain ⟨h1, h2⟩ := hs i H' e p
  exact ⟨h1, h2⟩
theorem mod_in {i j : Int} (h : 0 < j) : 0 ≤ i % j ∧ i % j < j := ⟨Int.emod_nonneg i (by omega), Int.emod_lt_of_pos i h⟩
end Pg
namespace K00
open PySem PySem.Spec PyProof.Rows L2 Pg
def topS (i : Nat) : Stmt := PySem.Challenge.pw_pagesworn_k00_errors_of_any_values.main.body.getD i (.Pass ⟨0, 0, 0, 0⟩)
abbrev sBag : Stmt := topS 13
abbrev sTake : Stmt := topS 14
abbrev sSome : Stmt := topS 15
theorem scBag : FnScope ["_law_script", "_law_cell"] ["_law_script"] (defScope sBag) := ⟨rfl, rfl, rfl, by decide +kernel, rfl, by decide +kernel, by decide +kernel⟩
theorem scTake : FnScope ["_law_bag_here", "_law_many", "_law_cell", "_law_stirred", "_law_value_here", "_law_begin", "_law_second"] ["_law_bag_here", "_law_many"] (defScope sTake) := ⟨rfl, rfl, rfl, by decide +kernel, rfl, by decide +kernel, by decide +kernel⟩
theorem scSome : FnScope ["_law_bag_here", "_law_things"] ["_law_bag_here", "_law_things"] (defScope sSome) := ⟨rfl, rfl, rfl, by decide +kernel, rfl, by decide +kernel, by decide +kernel⟩
section
variable {P : Program} {w : World} {K : PySem.W.Frag} {mg : Str → Option Value} {base : Heap}
theorem okTake {f : Addr} {fd : FuncData} {k : Nat} (F : Fun K "_law_take" "_law_take" sTake f fd) (mi : mg "int" = none) : FnOk P w K mg base CX0 (k + 1) f fd ["_law_bag_here", "_law_many"] spTake := by
  refine F.ok scTake (fun vs H Q E h => ?_) (fun cdv A outer s H vs Q E hr h => ?_)
  · obtain ⟨a, ns, _, rfl, _⟩ := h
    rfl
  · obtain ⟨b, c, many, rfl, hB, hm0, hm1, q⟩ := h
    refine ⟨_, pss_cons (ps_if (pt_cmpR op_eq (pe_ix ix_list (pv 0) pe_int (fun _ _ => rfl)) pe_int (nomark _))
        (pss_cons (ps_set (i := 2) scTake.nd rfl (.inl rfl) (pe_ix ix_list (pe_op op_cat (pe_slice sl_list (pe_ix ix_list (pv 0) pe_int (fun _ _ => rfl)) (po_some (pe_ix ix_list (pv 0) pe_int (fun _ _ => rfl))) po_none)
            (pe_lst (pa_cons pe_int pa_nil))) pe_int (fun _ _ => rfl)))
        (pss_cons (ps_augS (pv 0) pe_int get_list pe_int ip_add set_list)
        (pss_cons (ps_if (pt_cmpR op_ge (pv 2) (pe_op op_pow pe_int pe_int) (nomark _)) (pss_one (ps_asg (pv 2) (pg_sub (pv 0) pe_int set_list))) pss_nil)
        (pss_cons (ps_set (i := 3) scTake.nd rfl (.inl rfl) (pe_op op_add (pe_op op_add (pe_op op_mul (pe_ix ix_list (pv 0) pe_int (fun _ _ => rfl)) pe_int)
            (pe_op op_mod (pe_callTy call_int1 (by rfl) mi (by decide +kernel) (pa_cons (pv 2) pa_nil)) pe_int)) (pe_op op_mul pe_int (pe_ix ix_list (pv 0) pe_int (fun _ _ => rfl)))))
        (pss_one (ps_asg (pe_op op_mod (pe_callTy call_int1 (by rfl) mi (by decide +kernel) (pa_cons (pv 3) pa_nil)) pe_int) (pg_sub (pv 0) pe_int set_list))))))) pss_nil)
      (pss_cons (ps_if (pt_cmpR op_gt (pe_ix ix_list (pv 0) pe_int (fun _ _ => rfl)) pe_int (nomark _))
        (pss_cons (ps_set (i := 4) scTake.nd rfl (.inl rfl) (pe_op op_mod (pe_callTy call_int1 (by rfl) mi (by decide +kernel) (pa_cons (pe_ix ix_list (pv 0) pe_int (fun _ _ => rfl)) pa_nil)) (pv 1)))
        (pss_cons (ps_asg (pe_op op_fdivW (pe_callTy call_int1 (by rfl) mi (by decide +kernel) (pa_cons (pe_ix ix_list (pv 0) pe_int (fun _ _ => rfl)) pa_nil)) (pv 1)) (pg_sub (pv 0) pe_int set_list))
        (pss_one (ps_ret (pv 4))))) pss_nil)
      (pss_cons (ps_set (i := 5) scTake.nd rfl (.inl rfl) (pe_op op_mod (pe_callTy call_int1 (by rfl) mi (by decide +kernel) (pa_cons (pe_op op_mul (pe_op op_add (pe_ix ix_list (pv 0) pe_int (fun _ _ => rfl)) pe_int) pe_int) pa_nil)) pe_int))
      (pss_cons (ps_set (i := 6) scTake.nd rfl (.inl rfl) (pe_op op_mod (pe_callTy call_int1 (by rfl) mi (by decide +kernel) (pa_cons (pe_op op_mul (pe_op op_mod (pe_callTy call_int1 (by rfl) mi (by decide +kernel) (pa_cons (pe_op op_mul (pv 5) (pv 5)) pa_nil)) pe_int) pe_int) pa_nil)) pe_int))
      (pss_one (ps_ret (pe_op op_mod (pe_callTy call_int1 (by rfl) mi (by decide +kernel) (pa_cons (pe_op op_fdivW (pv 6) pe_int) pa_nil)) (pv 1))))))), ?_⟩
    refine seqI (fun σ' H' => ∃ x2 x3, σ' = [some (.ref b), some (.int many), x2, x3, none, none, none] ∧ Off b H H' ∧ Bag H' b c) (fun nx hnx => ?_) fun σ' H' hM => ?_
    · obtain ⟨hold, stir, place, cells, B⟩ := hB
      refine ⟨.ref b, rfl, b, _, 0, _, rfl, rfl, SqL.of B.at_, rfl, rfl, _, rfl, ite2 (fun _ => ?_) (fun _ => ?_)⟩
      · -- a cell is taken
        refine ⟨.ref b, rfl, b, _, 3, _, rfl, rfl, SqL.of B.at_, rfl, .ref b, rfl, b, _, 2, _, rfl, rfl, SqL.of B.at_, rfl, place, rfl, c, _, rfl, SqL.of B.row, fun p1 n1 => ?_⟩
        have B1 := B.new (o := .lst (cutV (cells.map V.int) (some place) none)) n1
        refine ⟨by decide, fun p2 n2 => ?_⟩
        have B2 := B1.new (o := .lst [.int 0]) n2
        have o2 : Off b H _ := ((Off.refl b H).new (o := .lst (cutV (cells.map V.int) (some place) none)) n1).new (o := .lst [V.int 0]) n2
        have e12 : p1 ≠ p2 := ne_of_none (upd_same (H := H) (a := p1) (o := .lst (cutV (cells.map V.int) (some place) none))) n2
        refine ⟨p1, p2, _, _, rfl, rfl, by rw [upd_ne e12, upd_same], upd_same, ?_, fun p3 n3 => ?_⟩
        · have h1 := cutV_length (cells.map V.int) (some place) none
          have h2 := B.few
          rw [List.length_map] at h1
          show (cutV (cells.map V.int) (some place) none).length + 1 ≤ sizeLine
          have := sizeLine_eq
          omega
        · have o3 := o2.new (o := .lst (cutV (cells.map V.int) (some place) none ++ [.int 0])) n3
          have B3 := B2.new (o := .lst (cutV (cells.map V.int) (some place) none ++ [.int 0])) n3
          obtain ⟨cell, hc0, hc⟩ : ∃ cell : Int, 0 ≤ cell ∧ (cutV (cells.map V.int) (some place) none ++ [V.int 0])[0]? = some (.int cell) := by
            have hall : ∀ v ∈ cutV (cells.map V.int) (some place) none, ∃ z : Int, v = .int z ∧ 0 ≤ z := fun v hv => by
              obtain ⟨z, hz, e⟩ := List.mem_map.mp (List.mem_of_mem_drop (List.mem_of_mem_take hv))
              exact ⟨z, e.symm, B.pos z hz⟩
            cases hq : cutV (cells.map V.int) (some place) none with
            | nil => exact ⟨0, Int.le_refl 0, rfl⟩
            | cons v r =>
              obtain ⟨z, e, hz⟩ := hall v (by rw [hq]; exact List.mem_cons_self)
              exact ⟨z, hz, by rw [e]; rfl⟩
          refine ⟨p3, _, 0, .int cell, rfl, rfl, SqL.of upd_same, at_of (j := 0) rfl hc, ?_⟩
          -- the place goes on
          refine ⟨.ref b, rfl, b, _, 2, _, rfl, rfl, SqL.of B3.at_, rfl, place, 1, rfl, rfl, b, _, 2, 2, rfl, rfl, B3.at_, rfl, ?_⟩
          have B4 := B3.put (hold' := hold) (stir' := stir) (place' := place + 1) B.hold0 B.stir0 B.stir1 (by have := B.place0; omega)
          have o4 := o3.put (o := .lst [.int hold, .int stir, .int (place + 1), .ref c])
          dsimp only
          refine seqI (fun σ' H' => σ' = [some (.ref b), some (.int many), some (.int cell), none, none, none, none] ∧ Off b H H' ∧ ∃ hold', BagA H' b c hold' stir (place + 1) cells) (fun nx2 hnx2 => ?_) fun σ2 H2 hM2 => ?_
          · refine ⟨.int cell, rfl, _, _, rfl, rfl, ⟨by decide, by decide, by decide⟩, _, _, rfl, rfl, _, rfl, ite2 (fun _ => ?_) (fun _ => ?_)⟩
            · refine ⟨.int cell, rfl, .ref b, rfl, b, _, 0, 0, rfl, rfl, B4.at_, rfl, hnx2 _ _ ⟨rfl, o4.put, cell, ?_⟩⟩
              exact B4.put hc0 B.stir0 B.stir1 B4.place0
            · exact hnx2 _ _ ⟨rfl, o4, hold, B4⟩
          · obtain ⟨rfl, oo, hold2, Bh⟩ := hM2
            refine ⟨.ref b, rfl, b, _, 1, _, rfl, rfl, SqL.of Bh.at_, rfl, _, _, rfl, rfl, .inl ⟨by have := B.stir0; omega, by have := B.stir1; omega⟩, .int cell, rfl, .inl ⟨_, rfl, _, _, rfl, rfl, (show (0 : Int) < 2147483647 by decide), ?_⟩⟩
            refine ⟨_, _, rfl, rfl, .ref b, rfl, b, _, 2, _, rfl, rfl, SqL.of Bh.at_, rfl, _, _, rfl, rfl, .inl ⟨by decide, by decide⟩, _, _, rfl, rfl, ?_⟩
            refine ⟨_, rfl, .inl ⟨_, rfl, _, _, rfl, rfl, (show (0 : Int) < 2147483647 by decide), .ref b, rfl, b, _, 1, 1, rfl, rfl, Bh.at_, rfl, hnx _ _ ⟨_, _, rfl, oo.put, hold2, (stir * 48271 + cell % 2147483647 + 7919 * (place + 1)) % 2147483647, place + 1, cells, ?_⟩⟩⟩
            have hz := mod_in (i := stir * 48271 + cell % 2147483647 + 7919 * (place + 1)) (j := 2147483647) (by decide)
            exact Bh.put Bh.hold0 hz.1 hz.2 Bh.place0
      · exact hnx _ _ ⟨none, none, rfl, Off.refl b H, hold, stir, place, cells, B⟩
    · obtain ⟨x2, x3, rfl, oo, hold, stir, place, cells, B⟩ := hM
      refine ⟨.ref b, rfl, b, _, 0, _, rfl, rfl, SqL.of B.at_, rfl, _, _, rfl, rfl, _, rfl, ite2 (fun hp => ?_) (fun _ => ?_)⟩
      · have hp' : 0 < hold := of_decide_eq_true hp
        have hd : CDivW hold many := ⟨hm0, Nat.lt_of_lt_of_le (PySem.Flt.log2_lt_of (k := 60) (by decide) (by omega)) (by decide)⟩
        refine ⟨.ref b, rfl, b, _, 0, _, rfl, rfl, SqL.of B.at_, rfl, .inl ⟨_, rfl, .int many, rfl, _, _, rfl, rfl, hm0, ?_⟩⟩
        refine ⟨.ref b, rfl, b, _, 0, _, rfl, rfl, SqL.of B.at_, rfl, .inl ⟨_, rfl, .int many, rfl, _, _, rfl, rfl, hd, ?_⟩⟩
        have hz := mod_in (i := hold) hm0
        refine ⟨.ref b, rfl, b, _, 0, 0, rfl, rfl, B.at_, rfl, .int (hold % many), rfl, q _ _ oo.put ⟨_, stir, place, cells, B.put ?_ B.stir0 B.stir1 B.place0⟩ hz.1 hz.2⟩
        exact Int.ediv_nonneg B.hold0 (by omega)
      · refine ⟨.ref b, rfl, b, _, 1, _, rfl, rfl, SqL.of B.at_, rfl, _, _, rfl, rfl, _, _, rfl, rfl, .inr ⟨by decide, by decide⟩, .inl ⟨_, rfl, _, _, rfl, rfl, (show (0 : Int) < 1000000007 by decide), ?_⟩⟩
        have h1 := mod_in (i := (stir + 1) * 39373) (j := 1000000007) (by decide)
        refine ⟨_, rfl, _, rfl, _, _, rfl, rfl, .inl ⟨by omega, by omega⟩, .inl ⟨_, rfl, _, _, rfl, rfl, (show (0 : Int) < 998244353 by decide), ?_⟩⟩
        refine ⟨_, _, rfl, rfl, .inr ⟨by decide, by decide⟩, .inl ⟨_, rfl, _, _, rfl, rfl, (show (0 : Int) < 998244353 by decide), ?_⟩⟩
        refine ⟨_, rfl, _, _, rfl, rfl, ⟨by decide, by decide⟩, .inl ⟨_, rfl, .int many, rfl, _, _, rfl, rfl, hm0, ?_⟩⟩
        exact q _ _ oo ⟨hold, stir, place, cells, B⟩ (mod_in hm0).1 (mod_in hm0).2
theorem cut_map (ns : List Int) (lo hi : Option Int) : ∃ zs : List Int, cutV (ns.map V.int) lo hi = zs.map V.int ∧ zs.length ≤ ns.length := by
  unfold cutV
  rw [List.length_map, ← List.map_drop, ← List.map_take]
  refine ⟨_, rfl, ?_⟩
  rw [List.length_take, List.length_drop]
  omega
theorem okBag {f : Addr} {fd : FuncData} {k : Nat} (F : Fun K "_law_bag" "_law_bag" sBag f fd) (ma : mg "abs" = none) : FnOk P w K mg base CX0 (k + 1) f fd ["_law_script"] (spBag K) := by
  refine F.ok scBag (fun vs H Q E h => ?_) (fun cdv A outer s H vs Q E hr h => ?_)
  · obtain ⟨a, ns, rfl, _⟩ := h
    rfl
  · obtain ⟨a, ns, rfl, hS, hl, q⟩ := h
    refine ⟨_, pss_one (ps_ret (pe_lst (pa_cons pe_int (pa_cons pe_int (pa_cons pe_int (pa_cons (pe_lc (own := [("_law_cell", 1)]) (g := gName 1) (tt := tYes) rfl scBag.nd (pi_list (pe_slice sl_list (pv 0) po_none (po_some pe_int)))
      (blkOk_by (N := ["_law_script", "_law_cell"]) (sc := defScope sBag) (by decide +kernel)) (fun _ _ _ _ _ => pg_name (i := 1) scBag.nd rfl (Or.inl rfl)) (fun _ _ _ _ _ => pts_nil)
      (fun _ _ _ _ _ => pe_callB call_abs (by rfl) ma (by decide +kernel) (pa_cons (pv 1) pa_nil))) pa_nil)))))), ?_⟩
    refine ⟨.ref a, rfl, 63, rfl, a, _, rfl, hS, fun p1 n1 => ⟨p1, rfl, ⟨_, SqL.of upd_same⟩, ?_⟩⟩
    obtain ⟨zs, ez, lz⟩ := cut_map ns none (some 63)
    rw [ez]
    refine lcl (xs := zs.map V.int) (fun D i H2 => Same H H2 ∧ H2 p1 = some (.lst (zs.map V.int)) ∧ H2 D = some (.lst ((zs.take i).map fun z => V.int (if z < 0 then -z else z)))) fun D nD => ?_
    have nDp : p1 ≠ D := ne_of_none upd_same nD
    have nH : H D = none := by
      rw [upd_ne nDp.symm] at nD
      exact nD
    refine ⟨⟨?_, ?_, ?_⟩, fun i H2 hP => SqL.of hP.2.1, fun i x H2 hx hP => ?_, fun H2 hP => ?_⟩
    · intro b o e
      rw [upd_ne (ne_of_none e nH), upd_ne (ne_of_none e n1)]
      exact e
    · rw [upd_ne nDp, upd_same]
    · rw [upd_same]
      rfl
    · obtain ⟨s1, e1, e2⟩ := hP
      rw [List.getElem?_map] at hx
      cases hz : zs[i]? with
      | none => rw [hz] at hx; cases hx
      | some z =>
        rw [hz] at hx
        cases hx
        have hi : i < zs.length := (List.getElem?_eq_some_iff.mp hz).1
        refine ⟨rfl, .int z, rfl, z, rfl, _, e2, ?_, ?_, ?_, ?_⟩
        · rw [List.length_map, List.length_take]
          have := sizeLine_eq
          omega
        · intro b o e
          rw [upd_ne (ne_of_none e nH)]
          exact s1 b o e
        · rw [upd_ne nDp]
          exact e1
        · rw [upd_same, List.take_add_one, hz]
          simp
    · obtain ⟨s1, e1, e2⟩ := hP
      rw [List.length_map, List.take_length] at e2
      refine ⟨by show 4 ≤ sizeLine; decide, fun p2 n2 => q _ p2 D ?_ (s1.free n2) nH ⟨0, 1234567891, 0, zs.map fun z => if z < 0 then -z else z, ⟨upd_same, ?_, by decide, by decide, by decide, by decide, fun n hn => ?_, ?_⟩⟩⟩
      · intro b o e
        have e' := s1 b o e
        rw [upd_ne (ne_of_none e' n2)]
        exact e'
      · rw [upd_ne (ne_of_none e2 n2), e2, List.map_map]
        rfl
      · obtain ⟨z, _, e⟩ := List.mem_map.mp hn
        subst e
        show 0 ≤ if z < 0 then -z else z
        split <;> omega
      · rw [List.length_map]
        omega
theorem okSome {f fT : Addr} {fd fdT : FuncData} {k : Nat} (F : Fun K "_law_some" "_law_some" sSome f fd) (G : FnOk P w K mg base CX0 k fT fdT ["_law_bag_here", "_law_many"] spTake) (bT : Binds K fdT ["_law_bag_here", "_law_many"] [])
    (gT : mg "_law_take" = some (.ref fT)) (kT : PySem.W.keepIn K (.ref fT) = true) (ml : mg "len" = none) : FnOk P w K mg base CX0 (k + 1) f fd ["_law_bag_here", "_law_things"] spSome := by
  refine F.ok scSome (fun vs H Q E h => ?_) (fun cdv A outer s H vs Q E hr h => ?_)
  · obtain ⟨b, c, t, xs, rfl, _⟩ := h
    rfl
  · obtain ⟨b, c, t, xs, rfl, hB, ne, ht, hx, hl, q⟩ := h
    refine ⟨_, pss_one (ps_ret (pe_ix ix_list (pv 1) (pe_call G hr (by rfl) gT kT bT .nil pass0 (pa_cons (pv 0) (pa_cons (pe_callB call_len_seq (by rfl) ml PySem.boot_len (pa_cons (pv 1) pa_nil)) pa_nil))) (fun _ _ => rfl))), ?_⟩
    have hp : 0 < xs.length := List.length_pos_iff.mpr hx
    refine ⟨.ref t, rfl, .ref b, rfl, .ref t, rfl, t, xs, rfl, .inl (SqL.of ht), b, c, xs.length, rfl, hB, by omega, by omega, fun H' v oo hB' h0 h1 => ?_⟩
    obtain ⟨j, rfl⟩ : ∃ j : Nat, v = (j : Int) := ⟨v.toNat, by omega⟩
    have hj : j < xs.length := by omega
    exact ⟨t, xs, _, xs[j], rfl, rfl, SqL.of (oo t _ ne ht), atI_nat (List.getElem?_eq_getElem hj), q _ _ oo hB' (List.getElem_mem hj)⟩
end
end K00

set_option Elab.async false
set_option linter.all false
set_option maxRecDepth 100000
set_option maxHeartbeats 4000000
namespace Pg
open PySem PySem.Spec PyProof.Rows L2
/-! ### z * n, a text so many times -/
theorem size_times (a : Array Nat) : ∀ (k : Nat) (acc : Array Nat), ((List.replicate k a).foldl (· ++ ·) acc).size = acc.size + k * a.size
  | 0, acc => by simp
  | k + 1, acc => by
    rw [List.replicate_succ, List.foldl_cons, size_times a k, Array.size_append, Nat.add_mul]
    omega
theorem op_repS {X : Cx} : OpR X (binaryOp .Mult) (fun x y H Q => ∃ (z : Str) (n : Int), x = .str z ∧ y = .int n ∧ 2 ≤ n ∧ n ≤ 1000 ∧ 0 < z.length ∧ z.length ≤ 1000 ∧ Q (.str ⟨(List.replicate n.toNat z.cps).foldl (· ++ ·) #[]⟩) H) := by
  intro pins s σ H x y v u Q I rx ry h
  obtain ⟨z, n, rfl, rfl, h1, h2, h3, h4, q⟩ := h
  obtain ⟨t, rfl⟩ := rx
  obtain ⟨t', rfl⟩ := ry
  have fits : z.length * n.toNat ≤ sizeLine := Nat.le_trans (Nat.mul_le_mul h4 (show n.toNat ≤ 1000 by omega)) (by decide)
  have c1 : ¬ n < 1 := by omega
  have c2 : ¬ (n == 1 || z.length == 0) = true := by
    simp only [Bool.or_eq_true, beq_iff_eq]
    omega
  refine PySem.P.mul_str (by simp; omega) (fun _ _ => ?_) (fun _ _ => ?_) ?_
  · have h5 : (1000 : Int) ≤ (2 ^ 63 - 1) / n := (Int.le_ediv_iff_mul_le (by omega)).mpr (by omega)
    omega
  · show decide (z.length * n.toNat > sizeLine) = false
    exact decide_eq_false (by omega)
  · rw [if_neg c1, if_neg c2]
    dsimp only [Made.post]
    refine ⟨?_, .str _, H, I.tok _, ⟨_, rfl⟩, q⟩
    show ((List.replicate n.toNat z.cps).foldl (· ++ ·) #[]).size ≤ sizeLine
    rw [size_times, Nat.mul_comm]
    have : z.length = z.cps.size := rfl
    rw [this] at fits
    simpa using fits

/-! ### data of bounded depth and text -/
inductive Ok : Nat → PyData → Prop
  | leaf {n : Nat} {d : PyData} (hd : d.depth = 0) (hs : d.showable = true) (hl : d.shown.length ≤ 4000) : Ok n d
  | list {n : Nat} {ds : List PyData} (hl : ds.length ≤ 3) (h : ∀ d, d ∈ ds → Ok n d) : Ok (n + 1) (.list ds)
  | tup {n : Nat} {ds : List PyData} (hl : ds.length ≤ 3) (h : ∀ d, d ∈ ds → Ok n d) : Ok (n + 1) (.tuple ds)
  | dic {n : Nat} {ds : List (PyData × PyData)} (hl : ds.length ≤ 3) (hk : ∀ p, p ∈ ds → p.1.depth = 0 ∧ p.1.showable = true ∧ p.1.shown.length ≤ 20) (h : ∀ p, p ∈ ds → Ok n p.2) : Ok (n + 1) (.dict ds)
def Fit (n B : Nat) (d : PyData) : Prop := d.depth ≤ n ∧ d.showable = true ∧ d.shown.length ≤ B
theorem fit_all {n B : Nat} : ∀ {ds : List PyData}, (∀ d, d ∈ ds → Fit n B d) → PyData.depthAll ds ≤ n ∧ PyData.showableAll ds = true ∧ ((PyData.shownAll ds).map (·.length)).sum ≤ ds.length * B ∧ (PyData.shownAll ds).length = ds.length
  | [], _ => by simp [PyData.depthAll, PyData.showableAll, PyData.shownAll]
  | d :: ds, h => by
    obtain ⟨a1, a2, a3⟩ := h d List.mem_cons_self
    obtain ⟨b1, b2, b3, b4⟩ := fit_all fun z hz => h z (List.mem_cons_of_mem d hz)
    simp only [PyData.depthAll, PyData.showableAll, PyData.shownAll, List.map_cons, List.sum_cons, List.length_cons, a2, b2, Bool.and_self, true_and]
    refine ⟨by omega, ?_, by omega⟩
    rw [Nat.add_mul]
    omega
theorem fit_kv {n B : Nat} : ∀ {ds : List (PyData × PyData)}, (∀ p, p ∈ ds → p.1.depth = 0 ∧ p.1.showable = true ∧ p.1.shown.length ≤ 20) → (∀ p, p ∈ ds → Fit n B p.2) →
    PyData.depthKv ds ≤ n ∧ PyData.showableKv ds = true ∧ ((PyData.shownKv ds).map (·.length)).sum ≤ ds.length * (B + 22) ∧ (PyData.shownKv ds).length = ds.length
  | [], _, _ => by simp [PyData.depthKv, PyData.showableKv, PyData.shownKv]
  | (k, d) :: ds, h, g => by
    obtain ⟨c1, c2, c3⟩ := h (k, d) List.mem_cons_self
    obtain ⟨a1, a2, a3⟩ := g (k, d) List.mem_cons_self
    obtain ⟨b1, b2, b3, b4⟩ := fit_kv (fun z hz => h z (List.mem_cons_of_mem _ hz)) fun z hz => g z (List.mem_cons_of_mem _ hz)
    have e : (k.shown ++ ": " ++ d.shown).length = k.shown.length + 2 + d.shown.length := by
      rw [strLen_append, strLen_append]
      rfl
    dsimp only at c1 c2 c3 a1 a2 a3
    simp only [PyData.depthKv, PyData.showableKv, PyData.shownKv, List.map_cons, List.sum_cons, List.length_cons, a2, b2, c2, Bool.and_self, true_and, e]
    refine ⟨by omega, ?_, by omega⟩
    rw [Nat.add_mul]
    omega
theorem Ok.fit {n : Nat} {d : PyData} (h : Ok n d) : Fit n (4000 * 4 ^ n) d := by
  induction h with
  | @leaf n d hd hs hl =>
    have : 1 ≤ 4 ^ n := Nat.pow_pos (by decide)
    exact ⟨by omega, hs, by omega⟩
  | @list n ds hl _ ih =>
    obtain ⟨b1, b2, b3, b4⟩ := fit_all ih
    have e := listText_len_le (PyData.shownAll ds)
    have : 1 ≤ 4 ^ n := Nat.pow_pos (by decide)
    have m : ds.length * (4000 * 4 ^ n) ≤ 3 * (4000 * 4 ^ n) := Nat.mul_le_mul_right _ hl
    refine ⟨by simp only [PyData.depth]; omega, by simpa only [PyData.showable] using b2, ?_⟩
    simp only [PyData.shown, Nat.pow_succ]
    omega
  | @tup n ds hl _ ih =>
    obtain ⟨b1, b2, b3, b4⟩ := fit_all ih
    have e := tupleText_len_le (PyData.shownAll ds)
    have : 1 ≤ 4 ^ n := Nat.pow_pos (by decide)
    have m : ds.length * (4000 * 4 ^ n) ≤ 3 * (4000 * 4 ^ n) := Nat.mul_le_mul_right _ hl
    refine ⟨by simp only [PyData.depth]; omega, by simpa only [PyData.showable] using b2, ?_⟩
    simp only [PyData.shown, Nat.pow_succ]
    omega
  | @dic n ds hl hk _ ih =>
    obtain ⟨b1, b2, b3, b4⟩ := fit_kv hk ih
    have e := dictText_len_le (PyData.shownKv ds)
    have : 1 ≤ 4 ^ n := Nat.pow_pos (by decide)
    have m : ds.length * (4000 * 4 ^ n + 22) ≤ 3 * (4000 * 4 ^ n + 22) := Nat.mul_le_mul_right _ hl
    refine ⟨by simp only [PyData.depth]; omega, by simpa only [PyData.showable] using b2, ?_⟩
    simp only [PyData.shown, Nat.pow_succ]
    omega
theorem Ok.int {n : Nat} {i : Int} (h : i.natAbs < 10 ^ 12) : Ok n (.int i) := by
  refine .leaf (by simp only [PyData.depth]) ?_ ?_
  · simp only [PyData.showable]
    exact decide_eq_true (Nat.lt_of_lt_of_le (PySem.Flt.log2_lt_of (k := 60) (by decide) (by omega)) (by decide))
  · exact Nat.le_trans (PyData.shown_int_le h) (by decide)

theorem Ok.lf {n : Nat} {d : PyData} (h : (d.depth == 0 && d.showable && decide (d.shown.length ≤ 4000)) = true) : Ok n d := by
  simp only [Bool.and_eq_true, beq_iff_eq, decide_eq_true_eq] at h
  exact .leaf h.1.1 h.1.2 h.2
theorem mem_times (a : Array Nat) (c : Nat) : ∀ (k : Nat) (acc : Array Nat), c ∈ ((List.replicate k a).foldl (· ++ ·) acc).toList → c ∈ acc.toList ∨ c ∈ a.toList
  | 0, acc, h => .inl (by simpa using h)
  | k + 1, acc, h => by
    rw [List.replicate_succ, List.foldl_cons] at h
    rcases mem_times a c k (acc ++ a) h with h | h
    · rw [Array.toList_append, List.mem_append] at h
      exact h
    · exact .inr h
theorem Ok.times {n : Nat} {z : Str} {k : Nat} (h : (z.cps.toList.all fun c => decide (c < 16 ^ 8)) = true) (hl : k * z.cps.size ≤ 300) : Ok n (.str ⟨(List.replicate k z.cps).foldl (· ++ ·) #[]⟩) := by
  have hx : ∀ c ∈ ((List.replicate k z.cps).foldl (· ++ ·) #[]).toList, c < 16 ^ 8 := fun c hc => by
    rcases mem_times z.cps c k #[] hc with q | q
    · exact nomatch q
    · exact of_decide_eq_true (List.all_eq_true.mp h c q)
  have e := PySem.StrLaws.reprText_len (⟨(List.replicate k z.cps).foldl (· ++ ·) #[]⟩ : Str) hx
  have e2 : (⟨(List.replicate k z.cps).foldl (· ++ ·) #[]⟩ : Str).length = ((List.replicate k z.cps).foldl (· ++ ·) #[]).size := rfl
  rw [e2, size_times] at e
  have e3 : (#[] : Array Nat).size = 0 := rfl
  refine .leaf (by simp only [PyData.depth]) (by simp only [PyData.showable]) ?_
  simp only [PyData.shown]
  omega
theorem Ok.str {n : Nat} {x : Str} (h : (x.cps.toList.all fun c => decide (c < 16 ^ 8)) = true) (hl : x.cps.size ≤ 300) : Ok n (.str x) := by
  have hx : ∀ c ∈ x.cps.toList, c < 16 ^ 8 := by simpa only [List.all_eq_true, decide_eq_true_eq] using h
  have e := PySem.StrLaws.reprText_len x hx
  have e2 : x.length = x.cps.size := rfl
  refine .leaf (by simp only [PyData.depth]) (by simp only [PyData.showable]) ?_
  simp only [PyData.shown]
  omega
theorem Dds.snoc {K : PySem.W.Frag} {H : Hp} {v : V} {d : PyData} (h : Dd K H v d) : ∀ {xs : List V} {ds : List PyData}, Dds K H xs ds → Dds K H (xs ++ [v]) (ds ++ [d])
  | _, _, .nil => .cons h .nil
  | _, _, .cons a r => .cons a (Dds.snoc h r)
theorem Dds.len {K : PySem.W.Frag} {H : Hp} : ∀ {xs : List V} {ds : List PyData}, Dds K H xs ds → xs.length = ds.length
  | _, _, .nil => rfl
  | _, _, .cons _ r => by rw [List.length_cons, List.length_cons, Dds.len r]

theorem mem3 {α : Type} {v a b c : α} (h : v ∈ [a, b, c]) : v = a ∨ v = b ∨ v = c := by simpa using h
theorem mem9 {α : Type} {v a b c d e f g i j : α} (h : v ∈ [a, b, c, d, e, f, g, i, j]) : v = a ∨ v = b ∨ v = c ∨ v = d ∨ v = e ∨ v = f ∨ v = g ∨ v = i ∨ v = j := by simpa using h

/-! ### what is new -/
/-- the objects of H' that did not stand in H -/
def newer (H H' : Hp) : Hp := fun a => match H a with
  | none => H' a
  | some _ => none
theorem newer_at {H H' : Hp} {a : Addr} (h : H a = none) : newer H H' a = H' a := by
  unfold newer
  rw [h]
theorem of_newer {H H' : Hp} {a : Addr} {o : HO} (h : newer H H' a = some o) : H a = none ∧ H' a = some o := by
  cases e : H a with
  | none =>
    rw [newer_at e] at h
    exact ⟨rfl, h⟩
  | some u =>
    unfold newer at h
    rw [e] at h
    cases h
theorem newer_same (H H' : Hp) : Same (newer H H') H' := fun _ _ h => (of_newer h).2
/-- what is new stays where only the object at b may change -/
theorem newer_off {H H1 H2 : Hp} {b : Addr} {o : HO} (hb : H b = some o) (x : Off b H1 H2) : Same (newer H H1) (newer H H2) := fun a u h => by
  obtain ⟨h1, h2⟩ := of_newer h
  rw [newer_at h1]
  exact x a u (fun e => by rw [e, hb] at h1; cases h1) h2
/-- new since later is new since earlier -/
theorem newer_back {H0 H1 H2 : Hp} (x : ∀ a, H1 a = none → H0 a = none) : Same (newer H1 H2) (newer H0 H2) := fun a u h => by
  obtain ⟨h1, h2⟩ := of_newer h
  rw [newer_at (x a h1)]
  exact h2
theorem newer_put {H H1 : Hp} {p : Addr} {o u : HO} (hp : H p = some o) : Same (newer H H1) (newer H (upd H1 p u)) := fun a z h => by
  obtain ⟨h1, h2⟩ := of_newer h
  rw [newer_at h1, upd_ne (fun e => by rw [e, hp] at h1; cases h1)]
  exact h2
theorem newer_more {H H1 : Hp} {p : Addr} {u : HO} (hp : H1 p = none) : Same (newer H H1) (newer H (upd H1 p u)) := fun a z h => by
  obtain ⟨h1, h2⟩ := of_newer h
  rw [newer_at h1, upd_ne (ne_of_none h2 hp)]
  exact h2
theorem Bag.there {H : Hp} {b c : Addr} (x : Bag H b c) : ∃ o, H b = some o := by
  obtain ⟨h, s, p, cs, y⟩ := x
  exact ⟨_, y.at_⟩
/-- what was free stays free backwards -/
theorem off_free {H H1 : Hp} {b : Addr} {o : HO} (x : Off b H H1) (hb : H1 b = some o) : ∀ a, H1 a = none → H a = none := fun a h => by
  cases e : H a with
  | none => rfl
  | some u =>
    by_cases k : a = b
    · rw [k, hb] at h
      cases h
    · rw [x a u k e] at h
      cases h

/-! ### a comprehension over enumerate -/
theorem lce {K : PySem.W.Frag} {a : Addr} {xs : List V} {g : TG} {te : TE} {vs : List Nat} {σ : L2.St} {H : Hp} {Qd : Addr → Hp → Prop} (Pv : Addr → Nat → Hp → Prop)
    (h : ∀ D, H D = none → Pv D 0 (upd H D (.lst [])) ∧ (∀ i H', Pv D i H' → SqL K H' a xs) ∧
      (∀ i x H' T, xs[i]? = some x → Pv D i H' → H' T = none → g (.ref T) (wipe σ vs) (upd H' T (.tup [.int (i : Nat), x])) fun σ2 H2 => wipe σ2 vs = wipe σ vs ∧ adds te D (Pv D (i + 1)) σ2 H2) ∧ ∀ H', Pv D xs.length H' → Qd D H') :
    ∀ D, H D = none → ∃ W : Nat → Nat → Hp → Prop, (∃ m, W 0 m (upd H D (.lst []))) ∧ ∀ i m G, W i m G → ((Ite K a).stop i G ∧ Qd D G) ∨ ((Ite K a).go i G ∧ ∃ Nx : Hp → Prop, (∀ G', Nx G' → ∃ m', m' < m ∧ W (i + 1) m' G') ∧ ∀ x G', (Ite K a).yld i G x G' → g x (wipe σ vs) G' fun σ2 G2 => wipe σ2 vs = wipe σ vs ∧ tYes σ2 G2 fun b G3 => if b = true then te σ2 G3 fun y G4 => ∃ acc, G4 D = some (.lst acc) ∧ acc.length < sizeLine ∧ Nx (upd G4 D (.lst (acc ++ [y]))) else Nx G3) := fun D nD => by
  obtain ⟨h0, hl, hs, hd⟩ := h D nD
  refine ⟨fun i m G => m = xs.length - i ∧ i ≤ xs.length ∧ Pv D i G, ⟨_, rfl, Nat.zero_le _, h0⟩, fun i m G hW => ?_⟩
  obtain ⟨em, hi, hP⟩ := hW
  have hq := hl i G hP
  by_cases hlt : i < xs.length
  · refine .inr ⟨⟨xs, xs[i], hq, List.getElem?_eq_getElem hlt⟩, Pv D (i + 1), fun G' hN => ⟨m - 1, by omega, by omega, hlt, hN⟩, fun x G' hy => ?_⟩
    obtain ⟨T, z, e1, nT, e2, hz⟩ := hy
    subst e1 e2
    exact hs i z G T (hz xs hq) hP nT
  · have e : i = xs.length := by omega
    subst e
    exact .inl ⟨⟨xs, hq, Nat.le_refl _⟩, hd G hP⟩
/-! ### a dict by the places of a list -/
def keyOf (i : Nat) : Key := .inr (toString ((i : Nat) : Int))
def kvFrom : Nat → List V → List (Key × V)
  | _, [] => []
  | i, v :: r => (keyOf i, v) :: kvFrom (i + 1) r
def kdFrom : Nat → List PyData → List (PyData × PyData)
  | _, [] => []
  | i, d :: r => (keyD (keyOf i), d) :: kdFrom (i + 1) r
theorem kvFrom_snoc (x : V) : ∀ (xs : List V) (i : Nat), kvFrom i (xs ++ [x]) = kvFrom i xs ++ [(keyOf (i + xs.length), x)]
  | [], i => rfl
  | y :: xs, i => by
    show (keyOf i, y) :: kvFrom (i + 1) (xs ++ [x]) = _
    rw [kvFrom_snoc x xs (i + 1), List.length_cons, show i + 1 + xs.length = i + (xs.length + 1) by omega]
    rfl
theorem kvFrom_data {K : PySem.W.Frag} {H : Hp} : ∀ {xs : List V} {ds : List PyData} (i : Nat), Dds K H xs ds → Ddk K H (kvFrom i xs) (kdFrom i ds)
  | _, _, _, .nil => .nil
  | _, _, i, .cons h r => .cons h (kvFrom_data (i + 1) r)
theorem kdFrom_mem {p : PyData × PyData} : ∀ {ds : List PyData} {i : Nat}, p ∈ kdFrom i ds → ∃ j, i ≤ j ∧ j < i + ds.length ∧ p.1 = keyD (keyOf j) ∧ p.2 ∈ ds
  | [], _, h => nomatch h
  | d :: ds, i, h => by
    rcases List.mem_cons.mp h with rfl | h
    · exact ⟨i, Nat.le_refl _, by simp, rfl, List.mem_cons_self⟩
    · obtain ⟨j, h1, h2, h3, h4⟩ := kdFrom_mem h
      exact ⟨j, by omega, by rw [List.length_cons]; omega, h3, List.mem_cons_of_mem _ h4⟩
theorem kdFrom_len : ∀ (ds : List PyData) (i : Nat), (kdFrom i ds).length = ds.length
  | [], _ => rfl
  | d :: ds, i => by
    show (kdFrom (i + 1) ds).length + 1 = ds.length + 1
    rw [kdFrom_len ds]
theorem key_small {j : Nat} (h : j < 3) : (keyD (keyOf j)).depth = 0 ∧ (keyD (keyOf j)).showable = true ∧ (keyD (keyOf j)).shown.length ≤ 20 := by
  match j, h with
  | 0, _ => exact ⟨rfl, rfl, by decide +kernel⟩
  | 1, _ => exact ⟨rfl, rfl, by decide +kernel⟩
  | 2, _ => exact ⟨rfl, rfl, by decide +kernel⟩
theorem key_ne {i j : Nat} (hi : i < 3) (hj : j < 3) (h : i ≠ j) : keyOf i ≠ keyOf j := by
  match i, j, hi, hj with
  | 0, 0, _, _ => exact absurd rfl h
  | 0, 1, _, _ => decide +kernel
  | 0, 2, _, _ => decide +kernel
  | 1, 0, _, _ => decide +kernel
  | 1, 1, _, _ => exact absurd rfl h
  | 1, 2, _, _ => decide +kernel
  | 2, 0, _, _ => decide +kernel
  | 2, 1, _, _ => decide +kernel
  | 2, 2, _, _ => exact absurd rfl h
theorem merge_three {xs : List V} (h : xs.length ≤ 3) : mergeK [] (kvFrom 0 xs) = kvFrom 0 xs := by
  have e01 : ¬ keyOf 0 = keyOf 1 := key_ne (by decide) (by decide) (by decide)
  have e02 : ¬ keyOf 0 = keyOf 2 := key_ne (by decide) (by decide) (by decide)
  have e12 : ¬ keyOf 1 = keyOf 2 := key_ne (by decide) (by decide) (by decide)
  match xs, h with
  | [], _ => rfl
  | [a], _ => rfl
  | [a, b], _ => simp [mergeK, kvFrom, putK, e01]
  | [a, b, c], _ => simp [mergeK, kvFrom, putK, e01, e02, e12]
  | a :: b :: c :: d :: r, h => exact absurd h (by simp)
/-- a drawn value of depth below n: it is made of new things -/
def spVal (K : PySem.W.Frag) (n : Nat) : Sp := fun vs H Q _ => ∃ (b c : Addr) (deep : Int), vs = [.ref b, .int deep] ∧ Bag H b c ∧ 0 ≤ deep ∧ deep < n ∧
  ∀ H' v d, Off b H H' → Bag H' b c → Dd K (newer H H') v d → Ok n d → Q v H'
/-- two values of the same data are alike -/
def spAlike (K : PySem.W.Frag) : Sp := fun vs H Q _ => ∃ x y d, vs = [x, y] ∧ Dd K H x d ∧ Dd K H y d ∧ Fit 60 sizeLine d ∧ Q (.bl true) H
end Pg

set_option Elab.async false
set_option linter.all false
set_option maxRecDepth 100000
set_option maxHeartbeats 8000000
namespace K00
open PySem PySem.Spec PyProof.Rows L2 Pg
abbrev sAlike : Stmt := topS 16
abbrev sValue : Stmt := topS 17
theorem scAlike : FnScope ["_law_found", "_law_due_here"] ["_law_found", "_law_due_here"] (defScope sAlike) := ⟨rfl, rfl, rfl, by decide +kernel, rfl, by decide +kernel, by decide +kernel⟩
theorem scValue : FnScope ["_law_bag_here", "_law_deep", "_law_way", "_law_parts", "_law_k", "_law_part"] ["_law_bag_here", "_law_deep"] (defScope sValue) := ⟨rfl, rfl, rfl, by decide +kernel, rfl, by decide +kernel, by decide +kernel⟩
section
variable {P : Program} {w : World} {K : PySem.W.Frag} {mg : Str → Option Value} {base : Heap}
theorem okAlike {f : Addr} {fd : FuncData} {k : Nat} (F : Fun K "_law_alike" "_law_alike" sAlike f fd) (mr : mg "repr" = none) : FnG P w K mg base (k + 1) f fd ["_law_found", "_law_due_here"] (spAlike K) := by
  refine okG F scAlike (fun vs H Q E h => ?_) (fun cdv A outer s H vs Q E hg hr h => ?_)
  · obtain ⟨x, y, d, rfl, _⟩ := h
    rfl
  · obtain ⟨x, y, d, rfl, h1, h2, hf, q⟩ := h
    refine ⟨_, pss_one (ps_ret (pe_and (pe_cmpR (op_alike hr.units) (pv 0) (pv 1) (nomark _))
      (pe_one (pe_cmpR op_eq (pe_callB (call_reprD hg hr.units) (by rfl) mr (by decide +kernel) (pa_cons (pv 0) pa_nil)) (pe_callB (call_reprD hg hr.units) (by rfl) mr (by decide +kernel) (pa_cons (pv 1) pa_nil)) (nomark _))))), ?_⟩
    refine ⟨x, rfl, y, rfl, d, h1, h2, hf.1, true, rfl, ?_⟩
    refine iteT (B := _) ?_
    refine ⟨x, rfl, x, d, rfl, h1, hf.1, hf.2.1, hf.2.2, y, rfl, y, d, rfl, h2, hf.1, hf.2.1, hf.2.2, rfl, ?_⟩
    rw [decide_eq_true rfl]
    exact q
/-- below depth 0 there is nothing to draw -/
theorem okVal0 {f : Addr} {fd : FuncData} : FnOk P w K mg base CX0 0 f fd ["_law_bag_here", "_law_deep"] (spVal K 0) :=
  ⟨fun vs H Q E h => by
    obtain ⟨b, c, deep, _, _, h0, h1, _⟩ := h
    exact absurd (Int.lt_of_le_of_lt h0 h1) (by decide), fun A outer s H args us vs Q E _ _ _ _ h => by
    obtain ⟨b, c, deep, _, _, h0, h1, _⟩ := h
    exact absurd (Int.lt_of_le_of_lt h0 h1) (by decide)⟩
theorem okValS {f fT fS : Addr} {fd fdT fdS : FuncData} {k n : Nat} (F : Fun K "_law_value" "_law_value" sValue f fd) (bV : Binds K fd ["_law_bag_here", "_law_deep"] [])
    (GV : FnOk P w K mg base CX0 (k + 2) f fd ["_law_bag_here", "_law_deep"] (spVal K n)) (gV : mg "_law_value" = some (.ref f)) (kV : PySem.W.keepIn K (.ref f) = true)
    (GT : FnOk P w K mg base CX0 (k + 2) fT fdT ["_law_bag_here", "_law_many"] spTake) (bT : Binds K fdT ["_law_bag_here", "_law_many"] []) (gT : mg "_law_take" = some (.ref fT)) (kT : PySem.W.keepIn K (.ref fT) = true)
    (GS : FnOk P w K mg base CX0 (k + 2) fS fdS ["_law_bag_here", "_law_things"] spSome) (bS : Binds K fdS ["_law_bag_here", "_law_things"] []) (gS : mg "_law_some" = some (.ref fS)) (kS : PySem.W.keepIn K (.ref fS) = true)
    (mr : mg "range" = none) (mt : mg "tuple" = none) (md : mg "dict" = none) (me : mg "enumerate" = none) (ms : mg "str" = none) :
    FnOk P w K mg base CX0 (k + 3) f fd ["_law_bag_here", "_law_deep"] (spVal K (n + 1)) := by
  refine F.ok scValue (fun vs H Q E h => ?_) (fun cdv A outer s H vs Q E hr h => ?_)
  · obtain ⟨x, z, y, rfl, _⟩ := h
    rfl
  · obtain ⟨b, c, deep, rfl, hB, h0, h1, q⟩ := h
    have nd := scValue.nd
    refine ⟨_, pss_cons (ps_set (i := 2) nd rfl (.inl rfl) (pe_call GT hr (by rfl) gT kT bT .nil pass0 (pa_cons (pv 0) (pa_cons (pe_ifExp (pt_cmpR op_gt (pv 1) pe_int (nomark _)) pe_int pe_int) pa_nil))))
      (pss_cons (ps_if (pt_cmpR op_lt (pv 2) pe_int (nomark _)) (pss_one (ps_ret (pe_call GS hr (by rfl) gS kS bS .nil pass0 (pa_cons (pv 0) (pa_cons
        (pe_lst (pa_cons pe_non (pa_cons pe_bl (pa_cons pe_bl (pa_cons pe_int (pa_cons pe_int (pa_cons (pe_un un_neg pe_int) (pa_cons (pe_op op_pow pe_int pe_int)
          (pa_cons (pe_call GT hr (by rfl) gT kT bT .nil pass0 (pa_cons (pv 0) (pa_cons (pe_op op_pow pe_int pe_int) pa_nil))) (pa_cons (pe_op op_sub pe_int (pe_op op_pow pe_int pe_int)) pa_nil)))))))))) pa_nil))))) pss_nil)
      (pss_cons (ps_if (pt_cmpR op_lt (pv 2) pe_int (nomark _)) (pss_one (ps_ret (pe_call GS hr (by rfl) gS kS bS .nil pass0 (pa_cons (pv 0) (pa_cons
        (pe_lst (pa_cons pe_str (pa_cons pe_str (pa_cons pe_str (pa_cons pe_str (pa_cons pe_str (pa_cons pe_str (pa_cons (pe_op op_repS pe_str pe_int) (pa_cons pe_str (pa_cons pe_str pa_nil)))))))))) pa_nil))))) pss_nil)
      (pss_cons (ps_if (pt_cmpR op_eq (pv 2) pe_int (nomark _)) (pss_one (ps_ret (pe_call GS hr (by rfl) gS kS bS .nil pass0 (pa_cons (pv 0) (pa_cons
        (pe_lst (pa_cons (pe_tup pa_nil) (pa_cons (pe_lst pa_nil) (pa_cons pe_dnewK pa_nil)))) pa_nil))))) pss_nil)
      (pss_cons (ps_setLc (i := 3) (own := [("_law_k", 4)]) (g := gName 4) (tt := tYes) rfl nd rfl rfl (sw_true rfl rfl rfl (by decide +kernel))
        (pi_range1 (by rfl) mr (pa_cons (pe_call GT hr (by rfl) gT kT bT .nil pass0 (pa_cons (pv 0) (pa_cons pe_int pa_nil))) pa_nil))
        (blkOk_by (N := ["_law_bag_here", "_law_deep", "_law_way", "_law_parts", "_law_k", "_law_part"]) (sc := defScope sValue) (by decide +kernel)) (fun _ _ _ _ _ => pg_name (i := 4) nd rfl (Or.inl rfl)) (fun _ _ _ _ _ => pts_nil)
        (fun _ _ _ _ _ => pe_call GV hr (by rfl) gV kV bV .nil pass0 (pa_cons (pv 0) (pa_cons (pe_op op_sub (pv 1) pe_int) pa_nil))))
      (pss_cons (ps_if (pt_cmpR op_lt (pv 2) pe_int (nomark _)) (pss_one (ps_ret (pe_callTy call_tuple_of (by rfl) mt (by decide +kernel) (pa_cons (pv 3) pa_nil)))) pss_nil)
      (pss_cons (ps_if (pt_cmpR op_eq (pv 2) pe_int (nomark _)) (pss_one (ps_ret (pv 3))) pss_nil)
      (pss_one (ps_ret (pe_callTy (call_dictP rfl) (by rfl) md (by decide +kernel) (pa_cons
        (pe_lc (own := [("_law_k", 4), ("_law_part", 5)]) (g := gTup K 2 (gCons (gName 4) (gCons (gName 5) gNil))) (tt := tYes) rfl nd (pi_enum (by rfl) me (pa_cons (pv 3) pa_nil))
          (blkOk_by (N := ["_law_bag_here", "_law_deep", "_law_way", "_law_parts", "_law_k", "_law_part"]) (sc := defScope sValue) (by decide +kernel))
          (fun _ _ _ _ _ => pg_tup rfl (pgs_cons (pg_name (i := 4) nd rfl (.inl rfl)) (pgs_cons (pg_name (i := 5) nd rfl (.inl rfl)) pgs_nil))) (fun _ _ _ _ _ => pts_nil)
          (fun _ _ _ _ _ => pe_tup (pa_cons (pe_callTy call_str_int (by rfl) ms (by decide +kernel) (pa_cons (pv 4) pa_nil)) (pa_cons (pv 5) pa_nil)))) pa_nil)))))))))), ?_⟩
    refine seqI (fun σ' H' => ∃ way : Int, σ' = [some (.ref b), some (.int deep), some (.int way), none, none, none] ∧ Off b H H' ∧ Bag H' b c ∧ (way < 9 ∨ 0 < deep)) (fun nx hnx => ?_) fun σ1 H1 hM => ?_
    · refine ⟨.ref b, rfl, .int deep, rfl, _, _, rfl, rfl, _, rfl, ite2 (fun hd => ?_) (fun hd => ?_)⟩
      · exact ⟨b, c, 14, rfl, hB, by decide, by decide, fun H' v oo hB' _ _ => hnx _ _ ⟨v, rfl, oo, hB', .inr (of_decide_eq_true hd)⟩⟩
      · exact ⟨b, c, 9, rfl, hB, by decide, by decide, fun H' v oo hB' _ h => hnx _ _ ⟨v, rfl, oo, hB', .inl h⟩⟩
    obtain ⟨way, rfl, o1, B1, hw⟩ := hM
    obtain ⟨ob, eb⟩ := hB.there
    have apart : ∀ {G : Hp} {p : Addr}, Bag G b c → G p = none → p ≠ b := fun {G p} BG np => (BG.apart np).1
    refine ⟨.int way, rfl, _, _, rfl, rfl, _, rfl, ite2 (fun h4 => ?_) (fun h4 => ?_)⟩
    · -- None, a truth, an integer
      refine ⟨.ref b, rfl, _, rfl, _, _, rfl, rfl, ⟨by decide, by decide, by decide⟩, .ref b, rfl, _, _, rfl, rfl, ⟨by decide, by decide, by decide⟩, b, c, _, rfl, B1, by decide, by decide, fun H2 z o2 B2 z0 z1 => ?_⟩
      refine ⟨_, _, rfl, rfl, ⟨by decide, by decide, by decide⟩, _, _, rfl, rfl, (by show 9 ≤ sizeLine; decide), fun p np => ?_⟩
      refine ⟨b, c, p, _, rfl, B2.new np, apart B2 np, upd_same, List.cons_ne_nil _ _, (by show 9 ≤ 1000; decide), fun H3 v o3 B3 hv => ?_⟩
      have oo : Off b H H3 := (o1.trans (o2.new np)).trans o3
      have z2 : z < 10 ^ 9 := z1
      rcases mem9 hv with rfl | rfl | rfl | rfl | rfl | rfl | rfl | rfl | rfl
      · exact q H3 _ _ oo B3 .non (Ok.lf (by decide +kernel))
      · exact q H3 _ _ oo B3 (.bl _) (Ok.lf (by decide +kernel))
      · exact q H3 _ _ oo B3 (.bl _) (Ok.lf (by decide +kernel))
      · exact q H3 _ _ oo B3 (.int _) (Ok.lf (by decide +kernel))
      · exact q H3 _ _ oo B3 (.int _) (Ok.lf (by decide +kernel))
      · exact q H3 _ _ oo B3 (.int _) (Ok.lf (by decide +kernel))
      · exact q H3 _ _ oo B3 (.int _) (Ok.lf (by decide +kernel))
      · exact q H3 _ _ oo B3 (.int _) (Ok.int (by omega))
      · exact q H3 _ _ oo B3 (.int _) (Ok.lf (by decide +kernel))
    refine ⟨.int way, rfl, _, _, rfl, rfl, _, rfl, ite2 (fun h8 => ?_) (fun h8 => ?_)⟩
    · -- a text
      refine ⟨.ref b, rfl, _, _, rfl, rfl, by decide, by decide, by decide +kernel, by decide +kernel, (by show 9 ≤ sizeLine; decide), fun p np => ?_⟩
      refine ⟨b, c, p, _, rfl, B1.new np, apart B1 np, upd_same, List.cons_ne_nil _ _, (by show 9 ≤ 1000; decide), fun H3 v o3 B3 hv => ?_⟩
      have oo : Off b H H3 := (o1.new np).trans o3
      rcases mem9 hv with rfl | rfl | rfl | rfl | rfl | rfl | rfl | rfl | rfl
      · exact q H3 _ _ oo B3 (.str _) (Ok.str (by decide +kernel) (by decide +kernel))
      · exact q H3 _ _ oo B3 (.str _) (Ok.str (by decide +kernel) (by decide +kernel))
      · exact q H3 _ _ oo B3 (.str _) (Ok.str (by decide +kernel) (by decide +kernel))
      · exact q H3 _ _ oo B3 (.str _) (Ok.str (by decide +kernel) (by decide +kernel))
      · exact q H3 _ _ oo B3 (.str _) (Ok.str (by decide +kernel) (by decide +kernel))
      · exact q H3 _ _ oo B3 (.str _) (Ok.str (by decide +kernel) (by decide +kernel))
      · exact q H3 _ _ oo B3 (.str _) (Ok.times (by decide +kernel) (by decide +kernel))
      · exact q H3 _ _ oo B3 (.str _) (Ok.str (by decide +kernel) (by decide +kernel))
      · exact q H3 _ _ oo B3 (.str _) (Ok.str (by decide +kernel) (by decide +kernel))
    refine ⟨.int way, rfl, rfl, _, rfl, ite2 (fun h9 => ?_) (fun h9 => ?_)⟩
    · -- something empty
      refine ⟨.ref b, rfl, Nat.zero_le _, fun p1 n1 => ⟨Nat.zero_le _, fun p2 n2 => fun p3 n3 => ⟨by show 3 ≤ sizeLine; decide, fun p4 n4 => ?_⟩⟩⟩
      have B4 := (((B1.new (o := .tup []) n1).new (o := .lst []) n2).new (o := .dK []) n3).new (o := .lst [.ref p1, .ref p2, .ref p3]) n4
      have o4 := (((o1.new (o := .tup []) n1).new (o := .lst []) n2).new (o := .dK []) n3).new (o := .lst [.ref p1, .ref p2, .ref p3]) n4
      have e2 : p1 ≠ p2 := ne_of_none upd_same n2
      have f2 : H1 p2 = none := by rw [upd_ne e2.symm] at n2; exact n2
      have e3 : p2 ≠ p3 := ne_of_none upd_same n3
      have e3' : p1 ≠ p3 := ne_of_none (by rw [upd_ne e2]; exact upd_same) n3
      have f3 : H1 p3 = none := by rw [upd_ne e3.symm, upd_ne e3'.symm] at n3; exact n3
      have e4 : p3 ≠ p4 := ne_of_none upd_same n4
      have e4' : p2 ≠ p4 := ne_of_none (by rw [upd_ne e3]; exact upd_same) n4
      have e4'' : p1 ≠ p4 := ne_of_none (by rw [upd_ne e3', upd_ne e2]; exact upd_same) n4
      obtain ⟨u1, hu1⟩ := B1.there
      have fr := off_free o1 hu1
      have f4 : p4 ≠ b := apart (((B1.new (o := .tup []) n1).new (o := .lst []) n2).new (o := .dK []) n3) n4
      refine ⟨b, c, p4, _, rfl, B4, f4, upd_same, List.cons_ne_nil _ _, (by show 3 ≤ 1000; decide), fun H3 v o3 B3 hv => ?_⟩
      have oo : Off b H H3 := o4.trans o3
      have g1 : newer H H3 p1 = some (.tup []) := by
        rw [newer_at (fr p1 n1)]
        refine o3 _ _ (apart B1 n1) ?_
        rw [upd_ne e4'', upd_ne e3', upd_ne e2]
        exact upd_same
      have g2 : newer H H3 p2 = some (.lst []) := by
        rw [newer_at (fr p2 f2)]
        refine o3 _ _ (apart B1 f2) ?_
        rw [upd_ne e4', upd_ne e3]
        exact upd_same
      have g3 : newer H H3 p3 = some (.dK []) := by
        rw [newer_at (fr p3 f3)]
        refine o3 _ _ (apart B1 f3) ?_
        rw [upd_ne e4]
        exact upd_same
      rcases mem3 hv with rfl | rfl | rfl
      · exact q H3 _ _ oo B3 (.tup (SqT.of g1) .nil) (.tup (by decide) fun d hd => nomatch hd)
      · exact q H3 _ _ oo B3 (.lst (SqL.of g2) .nil) (.list (by decide) fun d hd => nomatch hd)
      · exact q H3 _ _ oo B3 (.dic g3 .nil) (.dic (by decide) (fun d hd => nomatch hd) fun d hd => nomatch hd)
    have hd : 0 < deep := by
      have a1 : ¬ way < 8 := fun z => h8 (decide_eq_true z)
      have a2 : way ≠ 8 := fun z => h9 (by rw [z]; decide)
      omega
    -- the parts
    refine ⟨.ref b, rfl, b, c, 4, rfl, B1, by decide, by decide, fun H2 z o2 B2 z0 z1 => ⟨z, rfl, by omega, by omega, ?_⟩⟩
    have o12 := o1.trans o2
    obtain ⟨u2, hu2⟩ := B2.there
    have fr2 := off_free o12 hu2
    refine lcr (n := z.toNat) (fun D i H3 => Off b H H3 ∧ Bag H3 b c ∧ (∀ a, H3 a = none → upd H2 D (.lst []) a = none) ∧ ∃ xs ds, H3 D = some (.lst xs) ∧ xs.length = i ∧ Dds K (newer (upd H2 D (.lst [])) H3) xs ds ∧ ∀ d, d ∈ ds → Ok n d) fun D nD => ?_
    have nb := B2.apart nD
    have hD := fr2 D nD
    refine ⟨⟨o12.new nD, B2.new nD, fun _ e => e, [], [], upd_same, rfl, .nil, fun d hd => nomatch hd⟩, fun i H3 hi hP => ?_, fun H3 hP => ?_⟩
    · obtain ⟨o3, B3, old, xs, ds, e3, l3, dd3, k3⟩ := hP
      refine ⟨rfl, .ref b, rfl, .int deep, rfl, _, _, rfl, rfl, b, c, deep - 1, rfl, B3, by omega, by omega, fun H4 v d o4 B4 hv hk => ?_⟩
      have e4 : H4 D = some (.lst xs) := o4 D _ nb.1 e3
      have hi3 : i < 3 := by omega
      have hD0 : upd H2 D (.lst []) D = some (.lst []) := upd_same
      have hb0 : upd H2 D (.lst []) b = some u2 := by rw [upd_ne nb.1.symm]; exact hu2
      obtain ⟨u4, hu4⟩ := B4.there
      have old4 := off_free o4 hu4
      refine ⟨xs, e4, ?_, ?_⟩
      · have := sizeLine_eq
        omega
      · refine ⟨fun a o na e => ?_, B4.upd nb.1 nb.2, fun a na => ?_, xs ++ [v], ds ++ [d], upd_same, by rw [List.length_append, l3]; rfl, ?_, ?_⟩
        · rw [upd_ne (ne_of_none e hD)]
          exact (o3.trans o4) a o na e
        · by_cases k : a = D
          · rw [k, upd_same] at na
            cases na
          · rw [upd_ne k] at na
            exact old a (old4 a na)
        · refine Dds.snoc (Dd.up (fun a u h => ?_) d v hv) (Dds.up (fun a u h => ?_) ds xs dd3)
          · obtain ⟨h1, h2⟩ := of_newer h
            have h3 := old a h1
            rw [newer_at h3, upd_ne (fun k => by rw [k, hD0] at h3; cases h3)]
            exact h2
          · obtain ⟨h1, h2⟩ := of_newer h
            rw [newer_at h1, upd_ne (fun k => by rw [k, hD0] at h1; cases h1)]
            exact o4 a u (fun k => by rw [k, hb0] at h1; cases h1) h2
        · intro z hz
          rcases List.mem_append.mp hz with hz | hz
          · exact k3 z hz
          · rw [List.mem_singleton.mp hz]
            exact hk
    · obtain ⟨o3, B3, old, xs, ds, e3, l3, dd3, k3⟩ := hP
      have up3 : Same (newer (upd H2 D (.lst [])) H3) (newer H H3) := newer_back fun a na => by
        by_cases k : a = D
        · rw [k, upd_same] at na
          cases na
        · rw [upd_ne k] at na
          exact fr2 a na
      have dd := Dds.up up3 ds xs dd3
      have ld : ds.length ≤ 3 := by
        rw [← dd.len, l3]
        omega
      have eD : newer H H3 D = some (.lst xs) := by rw [newer_at hD]; exact e3
      -- a tuple of them
      refine ⟨.int way, rfl, _, _, rfl, rfl, _, rfl, ite2 (fun h12 => ?_) (fun h12 => ?_)⟩
      · refine ⟨.ref D, rfl, D, xs, rfl, .inl ⟨SqL.of e3, fun l nl => ?_⟩⟩
        have fl : H l = none := by
          obtain ⟨u3, hu3⟩ := B3.there
          exact off_free o3 hu3 l nl
        refine q _ (.ref l) (.tuple ds) (o3.new nl) (B3.new nl) (.tup (SqT.of ?_) (Dds.up (newer_more nl) ds xs dd)) (.tup ld k3)
        rw [newer_at fl]
        exact upd_same
      -- the list itself
      refine ⟨.int way, rfl, rfl, _, rfl, ite2 (fun h12 => ?_) (fun h12 => ?_)⟩
      · exact ⟨.ref D, rfl, q H3 (.ref D) (.list ds) o3 B3 (.lst (SqL.of eD) dd) (.list ld k3)⟩
      -- a dict
      refine ⟨.ref D, rfl, D, xs, rfl, SqL.of e3, lce (xs := xs) (fun D2 i H6 => Same H3 H6 ∧ ∃ ps : List Addr, H6 D2 = some (.lst (ps.map V.ref)) ∧ ps.length = i ∧ Paired (fun p kv => H6 p = some (.tup [L2.kV kv.1, kv.2])) ps (kvFrom 0 (xs.take i))) fun D2 nD2 => ?_⟩
      refine ⟨⟨fun a o e => ?_, [], upd_same, rfl, .nil⟩, fun i H6 hP => SqL.of (hP.1 _ _ e3), fun i x H6 T hx hP nT => ?_, fun H6 hP => ?_⟩
      · rw [upd_ne (ne_of_none e nD2)]
        exact e
      · obtain ⟨s6, ps, e6, l6, pp⟩ := hP
        have hi : i < xs.length := (List.getElem?_eq_some_iff.mp hx).1
        have hlog : ((i : Nat) : Int).natAbs.log2 < 1920 := Nat.lt_of_lt_of_le (PySem.Flt.log2_lt_of (k := 60) (by decide) (by omega)) (by decide)
        refine ⟨T, [.int i, x], rfl, SqT.of upd_same, rfl, .int i, [x], rfl, x, [], rfl, rfl, rfl, .int i, rfl, i, rfl, hlog, x, rfl, (by show 2 ≤ sizeLine; decide), fun p np => ?_⟩
        have dT : D2 ≠ T := ne_of_none e6 nT
        have e7 : upd H6 T (.tup [.int i, x]) D2 = some (.lst (ps.map V.ref)) := by
          rw [upd_ne dT]
          exact e6
        have dp : D2 ≠ p := ne_of_none e7 np
        have pT : T ≠ p := ne_of_none upd_same np
        have n6 : H6 p = none := by
          rw [upd_ne pT.symm] at np
          exact np
        refine ⟨ps.map V.ref, ?_, ?_, fun a o e => ?_, ps ++ [p], ?_, ?_, ?_⟩
        · rw [upd_ne dp]
          exact e7
        · rw [List.length_map, l6]
          have := sizeLine_eq
          omega
        · have k6 := s6 a o e
          rw [upd_ne (ne_of_none e nD2), upd_ne (ne_of_none k6 n6), upd_ne (ne_of_none k6 nT)]
          exact k6
        · rw [upd_same, List.map_append]
          rfl
        · rw [List.length_append, l6]
          rfl
        · rw [List.take_add_one, hx]
          show Paired _ (ps ++ [p]) (kvFrom 0 (xs.take i ++ [x]))
          rw [kvFrom_snoc, List.length_take, Nat.min_eq_left (Nat.le_of_lt hi), Nat.zero_add]
          refine Paired.snoc (L2.Paired.mapP pp fun p' kv h => ?_) ?_
          · rw [upd_ne (ne_of h e6 (by intro z; cases z)), upd_ne (ne_of_none h n6), upd_ne (ne_of_none h nT)]
            exact h
          · rw [upd_ne dp.symm, upd_same]
            rfl
      · obtain ⟨s6, ps, e6, l6, pp⟩ := hP
        rw [List.take_length] at pp
        have lx : xs.length ≤ 3 := by
          rw [dd.len]
          exact ld
        refine ⟨D2, ps, kvFrom 0 xs, rfl, SqL.of e6, L2.Paired.mapP pp fun p' kv h => SqT.of h, fun p np => ?_⟩
        have n3 : H3 p = none := s6.free np
        obtain ⟨u3, hu3⟩ := B3.there
        have fl : H p = none := off_free o3 hu3 p n3
        rw [merge_three lx]
        refine q _ (.ref p) (.dict (kdFrom 0 ds)) ((o3.trans (Off.of s6)).new np) ((B3.same s6).new np) (.dic ?_ (Ddk.up (fun a u h => ?_) _ _ (kvFrom_data 0 dd))) (.dic ?_ (fun z hz => ?_) fun z hz => ?_)
        · rw [newer_at fl]
          exact upd_same
        · obtain ⟨h1, h2⟩ := of_newer h
          have h3 := s6 a u h2
          rw [newer_at h1, upd_ne (ne_of_none h3 np)]
          exact h3
        · rw [kdFrom_len]
          exact ld
        · obtain ⟨j, _, h2, h3, _⟩ := kdFrom_mem hz
          rw [h3]
          exact key_small (by omega)
        · obtain ⟨j, _, _, _, h4⟩ := kdFrom_mem hz
          exact k3 _ h4
end
end K00

set_option Elab.async false
set_option linter.all false
set_option maxRecDepth 100000
set_option maxHeartbeats 4000000
namespace Pg
open PySem PySem.Spec PyProof.Rows L2
/-! ### own exceptions as values: made, looked into, asked for their class -/
/-- what the written part says of such a class at C -/
structure XCls (K : PySem.W.Frag) (C : Addr) : Prop where
  ox : OexC K C
  fld : XfC K C
  cl : (PySem.W.clsIn K C).isSome = true
  ha : PySem.W.findIn K (.ref C) "__class__" = some (some (.builtin "object.__class__"))
  hn : PySem.W.specialIn K (.builtin "object.__class__") "__get__" = some (some (.builtin "getset_descriptor.__get__"))
  htk : PySem.W.takesIn K (.builtin "object.__class__") = some true
  hm : PySem.W.mroIn K C (.type "object") = some true
/-- its own __init__ -/
structure XIni (K : PySem.W.Frag) (C fI : Addr) : Prop where
  iC : PySem.W.findIn K (.ref C) "__init__" = some (some (.ref fI))
  tI : PySem.W.typeIn K (.ref fI) = some (.type "function")
def tMkV (C : Addr) (sp : Sp) (ta : TA) : TE := fun σ H Q => ta σ H fun vs H1 => vs.length ≤ 1000 ∧ ∀ e, H1 e = none → sp (.ref e :: vs) (upd H1 e (exo e C none)) (fun v H2 => v = .non ∧ Q (.ref e) H2) E0
section
variable {X : Cx} {pins : List (Addr × Obj)} {σ : L2.St} {H : Hp} {s : Shared} {C fI : Addr} {k : Nat} {fd : FuncData} {ps : List Str} {sp : Sp}
theorem run_mkV {Q : VK} {us : List Value} {vs : List V} (T : OexC X.K C) (N : XIni X.K C fI) (F : FnOk X.prog X.w X.K X.mg X.base CX0 k fI fd ps sp) (hr : Room (k + 1) X.A) (hb : Binds X.K fd ps [])
    (I : Inv X pins σ H s) (r : Vals vs us) (hz : vs.length ≤ 1000) (q : ∀ e, H e = none → sp (.ref e :: vs) (upd H e (exo e C none)) (fun v H2 => v = .non ∧ Q (.ref e) H2) E0) :
    wpAny (model X.prog X.w) X.A (call (.ref C) us) (EP X pins σ Q) X.xe s := by
  obtain ⟨nm, qn, ns, bs, bm, sn, sub, ab, col, dd, k0, k1, k2, k3, k5, hC, hbm⟩ := T.cls
  obtain ⟨hp, g, dr, tk, os⟩ := s
  have big : hp.objs.size ≤ hp.objs.size + 1 := Nat.le_succ _
  have hn : H (hp.objs.size + 1) = none := I.hok.fresh big
  have hq := q (hp.objs.size + 1) hn
  have kept : ∀ b o, hp.get? b = some o → ((hp.push (PySem.W.kdv_tup us)).push (PySem.HandSPX.excO C hp.objs.size)).get? b = some o := fun b o z => Heap.get?_push_of_some _ (Heap.get?_push_of_some _ z)
  have there : ((hp.push (PySem.W.kdv_tup us)).push (PySem.HandSPX.excO C hp.objs.size)).get? (hp.objs.size + 1) = some (PySem.HandSPX.excO C hp.objs.size) := by heap_get
  have J : Inv X pins σ (upd H (hp.objs.size + 1) (exo (hp.objs.size + 1) C none)) ⟨(hp.push (PySem.W.kdv_tup us)).push (PySem.HandSPX.excO C hp.objs.size), g, dr, tk, os⟩ :=
    I.laid (t' := tk) kept big (exo_ok there)
  have r2 : Vals (V.ref (hp.objs.size + 1) :: vs) (Value.ref (hp.objs.size + 1) :: us) := .cons rfl r
  have hl : (Value.ref (hp.objs.size + 1) :: us ++ []).length = ps.length := by
    rw [List.append_nil, ← r2.length]
    exact F.len _ _ _ _ hq
  have hb' := hb ⟨(hp.push (PySem.W.kdv_tup us)).push (PySem.HandSPX.excO C hp.objs.size), g, dr, tk, os⟩ (Value.ref (hp.objs.size + 1) :: us) J.kIn hl
  rw [List.append_nil] at hb'
  have few : us.length ≤ sizeLine := by
    rw [← Paired.length r, sizeLine_eq]
    omega
  refine wpAny_call (PySem.HandSPX.call_own PySem.F.excBase_ValueError (fun Y => PySem.HandSPX.refsVE_contains Y bm hbm) (I.kIn _ _ hC) (PySem.W.looks_findIn I.kIn N.iC) (fun self => PySem.W.bind_fn I.kIn self N.tI) few ?_)
  refine codeAny_mono (F.run _ X.stack _ _ ⟨Value.ref (hp.objs.size + 1) :: us, []⟩ (Value.ref (hp.objs.size + 1) :: us) _ _ E0 (hr.make C us []) (J.env0.make C us []) hb' r2 hq) fun r' s' h' => ?_
  cases r' with
  | error er => exact False.elim h'
  | ok fl =>
    cases fl with
    | ret u =>
      obtain ⟨v, H', I3, rv, ev, q3⟩ := J.after h'
      subst ev
      exact ⟨rv, .ref (hp.objs.size + 1), H', I3, rfl, q3⟩
    | next => exact False.elim h'
    | brk => exact False.elim h'
    | cont => exact False.elim h'
variable {x : Str} {p pos : Pos} {e : Expr} {es : List Expr} {ta : TA}
theorem pe_mkV (T : OexC X.K C) (N : XIni X.K C fI) (F : FnOk X.prog X.w X.K X.mg X.base CX0 k fI fd ps sp) (hr : Room (k + 1) X.A) (hb : Binds X.K fd ps []) (hg : Gl X x) (hm : X.mg x = some (.ref C)) (ha : PA X (e :: es) ta)
    (hdb : (x == ("__debug__" : Str)) = false := by decide) (he : starEach (e :: es) X.env = (false, eval e X.env) :: starEach es X.env := by rfl) (hpl : (backTo pos (starEach es X.env)).any (·.1) = false := by rfl) :
    PE X (.Call (.Name x p) (e :: es) [] pos) (tMkV C sp ta) := by
  refine ⟨fun pins s σ H Q I h => ?_⟩
  refine wpAny_Call_Name_kw (ld_glob I hg hm ?_ hdb)
  refine PySem.W.callWith_K (h₀ := X.base) I.ok.mod.kin T.kC (thn (ha.run pos pins s σ H _ I h) fun us s1 ⟨vs, H1, I1, r1, hz, q1⟩ => ⟨I1.kIn, ?_⟩) he hpl
  exact run_mkV T N F hr hb I1 r1 hz q1
theorem pe_mkV0 (T : OexC X.K C) (N : XIni X.K C fI) (F : FnOk X.prog X.w X.K X.mg X.base CX0 k fI fd ps sp) (hr : Room (k + 1) X.A) (hb : Binds X.K fd ps []) (hg : Gl X x) (hm : X.mg x = some (.ref C))
    (hdb : (x == ("__debug__" : Str)) = false := by decide) : PE X (.Call (.Name x p) [] [] pos) (tMkV C sp tNil) := by
  refine ⟨fun pins s σ H Q I h => ?_⟩
  refine wpAny_Call_Name_kw (ld_glob I hg hm ?_ hdb)
  exact PySem.W.callWith_K0 I.kIn T.kC (run_mkV (us := []) T N F hr hb I .nil h.1 h.2)
/-- e.f of such an exception -/
def tXV (K : PySem.W.Frag) (f : Str) (te : TE) : TE := fun σ H Q => te σ H fun x H1 => ∃ (e C d : Addr) (fs : List (Str × V)) (v : V), x = .ref e ∧ XfC K C ∧ PySem.W.findIn K (.ref C) f = some none ∧ H1 e = some (exo e C (some d)) ∧ H1 d = some (exd d fs) ∧ fs.lookup f = some v ∧ Q v H1
theorem pe_xv {o : Expr} {te : TE} {f : Str} (he : PE X o te) (hb : attributeBase o f X.env (eval o X.env) = eval o X.env := by rfl) : PE X (.Attribute o f pos) (tXV X.K f te) := by
  refine ⟨fun pins s σ H Q I h => ?_⟩
  refine attr_of hb (thn (he.run pins s σ H _ I h) fun u s1 ⟨x, H1, I1, rx, e, C, d, fs, v, ex, T, hno, h1, h2, hl, q⟩ => ?_)
  subst ex
  cases rx
  obtain ⟨t1, ho⟩ := exo_at I1.hok h1
  obtain ⟨mA, hns, rel⟩ := exd_at I1.hok h2
  obtain ⟨od, hod, look⟩ := lookIn_ns hns
  obtain ⟨u, hu, ru⟩ := RelO.some_of (v := v) (o := mA f) (by rw [← hl]; exact rel f)
  exact HandSPX.exc_get I1.kIn ⟨ho, rfl, rfl, hod⟩ T.ga T.gg T.exC (PySem.W.findObj_own T.hdC hno rfl (by rw [look, hu])) (handed_of ru) ⟨v, H1, I1.tok _, ru, q⟩
/-- isinstance(e, c) of such an exception -/
def rXI (K : PySem.W.Frag) : List V → Hp → VK → Prop := fun xs H Q => ∃ (e D : Addr) (d : Option Addr) (c : V) (cv : Value) (b : Bool), xs = [.ref e, c] ∧ H e = some (exo e D d) ∧ (∀ z, d = some z → ∃ fs, H z = some (exd z fs)) ∧ XCls K D ∧ (∀ u, RelV c u → u = cv) ∧ PySem.W.kitOne K (.ref D) cv = some b ∧ Q (.bl b) H
theorem call_xi : CallR X (.builtin "isinstance") (rXI X.K) := by
  intro pins s σ H xs us Q I r h
  obtain ⟨e, D, d, c, cv, b, rfl, h1, h2, T, hcv, hk, q⟩ := h
  obtain ⟨u1, u2, rfl, r1, r2⟩ := vals2 r
  cases r1
  have ec := hcv _ r2
  subst ec
  obtain ⟨t1, ho⟩ := exo_at I.hok h1
  have Z : ∀ od, PySem.W.KitX X.K (.ref e) (.ref D) (fun h => PySem.W.InstAt h e _ D od) := fun od =>
    PySem.W.kitx_exc (ox := ({ cls := .ref D, dict := d, data := .fields #[.ref t1, .none, .none, .none, .bool false, .none] } : Obj)) (od := od) T.cl T.fld.ga T.fld.gg T.fld.exC T.ha T.hn T.htk T.hm
  cases d with
  | none => exact PySem.W.kia_one (Z none) I.kIn ⟨ho, rfl, rfl, trivial⟩ hk (fun z => nomatch z) fun tk => ⟨.bl b, H, I.tok tk, rfl, q⟩
  | some z =>
    obtain ⟨fs, hz⟩ := h2 z rfl
    obtain ⟨mA, hns, rel⟩ := exd_at I.hok hz
    obtain ⟨od, hod, look⟩ := lookIn_ns hns
    exact PySem.W.kia_one (Z (some od)) I.kIn ⟨ho, rfl, rfl, hod⟩ hk (fun z => nomatch z) fun tk => ⟨.bl b, H, I.tok tk, rfl, q⟩
end
/-- __init__ that keeps one thing, two things, nothing -/
def spIni1 (C : Addr) (f : Str) : Sp := fun vs H Q _ => ∃ (a : Addr) (v : V), vs = [.ref a, v] ∧ H a = some (exo a C none) ∧ ∀ dx, H dx = none → dx ≠ a → Q .non (upd (upd H dx (exd dx [(f, v)])) a (exo a C (some dx)))
def spIni2 (C : Addr) (f g : Str) : Sp := fun vs H Q _ => ∃ (a : Addr) (v z : V), vs = [.ref a, v, z] ∧ H a = some (exo a C none) ∧ ∀ dx H', H dx = none → dx ≠ a → (∀ b o, b ≠ a → H b = some o → H' b = some o) → H' a = some (exo a C (some dx)) → H' dx = some (exd dx [(g, z), (f, v)]) → (∀ b, H' b = none → H b = none) → Q .non H'
def spIni0 : Sp := fun vs H Q _ => ∃ a : Addr, vs = [.ref a] ∧ Q .non H
/-- e is an exception of the class at C with the fields fs -/
def ErrIs (H : Hp) (e C : Addr) : Option (List (Str × V)) → Prop
  | none => H e = some (exo e C none)
  | some fs => ∃ d, H e = some (exo e C (some d)) ∧ H d = some (exd d fs)
theorem ErrIs.same {H H' : Hp} {e C : Addr} (s : Same H H') : ∀ {fs : Option (List (Str × V))}, ErrIs H e C fs → ErrIs H' e C fs
  | none, h => s _ _ h
  | some _, ⟨d, h1, h2⟩ => ⟨d, s _ _ h1, s _ _ h2⟩
theorem ErrIs.some_of {H : Hp} {e C : Addr} : ∀ {fs : Option (List (Str × V))}, ErrIs H e C fs → ∃ d, H e = some (exo e C d) ∧ ∀ z, d = some z → ∃ gs, H z = some (exd z gs)
  | none, h => ⟨none, h, fun _ z => nomatch z⟩
  | some fs, ⟨d, h1, h2⟩ => ⟨some d, h1, fun z e => by cases e; exact ⟨fs, h2⟩⟩
theorem PE_imp {X : Cx} {e : Expr} {t t' : TE} (h : PE X e t) (i : ∀ σ H Q, t' σ H Q → t σ H Q) : PE X e t' := ⟨fun pins s σ H Q I q => h.run pins s σ H Q I (i σ H Q q)⟩
/-- C(a): a new exception -/
def tMk1 (C : Addr) (f : Str) (ta : TA) : TE := fun σ H Q => ta σ H fun vs H1 => ∃ v, vs = [v] ∧ ∀ e H2, Same H1 H2 → ErrIs H2 e C (some [(f, v)]) → Q (.ref e) H2
def tMk2 (C : Addr) (f g : Str) (ta : TA) : TE := fun σ H Q => ta σ H fun vs H1 => ∃ v z, vs = [v, z] ∧ ∀ e H2, Same H1 H2 → ErrIs H2 e C (some [(g, z), (f, v)]) → Q (.ref e) H2
def tMk0 (C : Addr) : TE := fun _ H Q => ∀ e H2, Same H H2 → ErrIs H2 e C none → Q (.ref e) H2
section
variable {X : Cx} {C fI : Addr} {k : Nat} {fd : FuncData} {ps : List Str} {x f g : Str} {p pos : Pos} {e : Expr} {es : List Expr} {ta : TA}
/-- TA is monotone where it is a list of names: given apart -/
theorem pe_mk1 {i : Nat} (T : OexC X.K C) (N : XIni X.K C fI) (F : FnOk X.prog X.w X.K X.mg X.base CX0 k fI fd ps (spIni1 C f)) (hr : Room (k + 1) X.A) (hb : Binds X.K fd ps []) (hg : Gl X x) (hm : X.mg x = some (.ref C)) (ha : PE X e (tVar i))
    (hdb : (x == ("__debug__" : Str)) = false := by decide) (he : starEach [e] X.env = (false, eval e X.env) :: starEach [] X.env := by rfl) (hpl : (backTo pos (starEach [] X.env)).any (·.1) = false := by rfl) :
    PE X (.Call (.Name x p) [e] [] pos) (tMk1 C f (tCons (tVar i) tNil)) := by
  refine PE_imp (pe_mkV T N F hr hb hg hm (pa_cons ha pa_nil (hs := he)) hdb he hpl) fun σ H Q h => ?_
  obtain ⟨v, e0, v', e1, q⟩ := h
  cases e1
  refine ⟨v, e0, by show 1 ≤ 1000; decide, fun a na => ⟨a, v, rfl, upd_same, fun dx nx ne => ⟨rfl, q a _ (fun b o hb => ?_) ⟨dx, upd_same, by rw [upd_ne ne]; exact upd_same⟩⟩⟩⟩
  have hd : H dx = none := by
    rw [upd_ne ne] at nx
    exact nx
  rw [upd_ne (ne_of_none hb na), upd_ne (ne_of_none hb hd), upd_ne (ne_of_none hb na)]
  exact hb
theorem pe_mk2 {i j : Nat} {e' : Expr} (T : OexC X.K C) (N : XIni X.K C fI) (F : FnOk X.prog X.w X.K X.mg X.base CX0 k fI fd ps (spIni2 C f g)) (hr : Room (k + 1) X.A) (hb : Binds X.K fd ps []) (hg : Gl X x) (hm : X.mg x = some (.ref C)) (ha : PE X e (tVar i)) (ha' : PE X e' (tVar j))
    (hdb : (x == ("__debug__" : Str)) = false := by decide) (he : starEach [e, e'] X.env = (false, eval e X.env) :: starEach [e'] X.env := by rfl) (hpl : (backTo pos (starEach [e'] X.env)).any (·.1) = false := by rfl)
    (he2 : starEach [e'] X.env = (false, eval e' X.env) :: starEach [] X.env := by rfl) :
    PE X (.Call (.Name x p) [e, e'] [] pos) (tMk2 C f g (tCons (tVar i) (tCons (tVar j) tNil))) := by
  refine PE_imp (pe_mkV T N F hr hb hg hm (pa_cons ha (pa_cons ha' pa_nil (hs := he2)) (hs := he)) hdb he hpl) fun σ H Q h => ?_
  obtain ⟨v, e0, z, e1, v', z', e2, q⟩ := h
  cases e2
  refine ⟨v, e0, z, e1, by show 2 ≤ 1000; decide, fun a na => ⟨a, v, z, rfl, upd_same, fun dx H' nx ne keep h1 h2 _ => ⟨rfl, q a _ (fun b o hb => ?_) ⟨dx, h1, h2⟩⟩⟩⟩
  exact keep b o (ne_of_none hb na) (by rw [upd_ne (ne_of_none hb na)]; exact hb)
theorem pe_mk0 (T : OexC X.K C) (N : XIni X.K C fI) (F : FnOk X.prog X.w X.K X.mg X.base CX0 k fI fd ps spIni0) (hr : Room (k + 1) X.A) (hb : Binds X.K fd ps []) (hg : Gl X x) (hm : X.mg x = some (.ref C))
    (hdb : (x == ("__debug__" : Str)) = false := by decide) : PE X (.Call (.Name x p) [] [] pos) (tMk0 C) := by
  refine PE_imp (pe_mkV0 T N F hr hb hg hm hdb) fun σ H Q q => ?_
  refine ⟨by show 0 ≤ 1000; decide, fun a na => ⟨a, rfl, rfl, q a _ (fun b o hb => ?_) upd_same⟩⟩
  rw [upd_ne (ne_of_none hb na)]
  exact hb
end
end Pg

set_option Elab.async false
set_option linter.all false
set_option maxRecDepth 100000
set_option maxHeartbeats 8000000
namespace K00
open PySem PySem.Spec PyProof.Rows L2 Pg
/-- what the top has written of the classes, in the law's order -/
structure Cl (K : PySem.W.Frag) (mg : Str → Option Value) (cs fs : Nat → Addr) (sw : Addr) : Prop where
  g0 : mg "NoCommand" = some (.ref (cs 0))
  g1 : mg "NoGroup" = some (.ref (cs 1))
  g2 : mg "NoPlace" = some (.ref (cs 2))
  g3 : mg "NoProcess" = some (.ref (cs 3))
  g4 : mg "NoSnapshot" = some (.ref (cs 4))
  g5 : mg "NoText" = some (.ref (cs 5))
  g6 : mg "NoTicket" = some (.ref (cs 6))
  g7 : mg "Nothing" = some (.ref (cs 7))
  g8 : mg "TooMany" = some (.ref (cs 8))
  g9 : mg "Wrong" = some (.ref (cs 9))
  gS : mg "SwornError" = some (.ref sw)
  gV : mg "ValueError" = none
  cls : ∀ i, i < 10 → XCls K (cs i)
  ini : ∀ i, i < 10 → XIni K (cs i) (fs i)
  kit : ∀ i j, i < 10 → j < 12 → PySem.W.kitOne K (.ref (cs i)) (if j < 10 then .ref (cs j) else if j = 10 then .ref sw else .type "ValueError") = some (decide (j = i) || decide (9 < j))
  n0 : PySem.W.findIn K (.ref (cs 0)) "line" = some none
  n1 : PySem.W.findIn K (.ref (cs 1)) "group" = some none
  n3 : PySem.W.findIn K (.ref (cs 3)) "process" = some none
  n4 : PySem.W.findIn K (.ref (cs 4)) "snapshot" = some none
  n5 : PySem.W.findIn K (.ref (cs 5)) "line" = some none
  n8 : PySem.W.findIn K (.ref (cs 8)) "most" = some none
  n9 : PySem.W.findIn K (.ref (cs 9)) "place" = some none
  n2a : PySem.W.findIn K (.ref (cs 2)) "process" = some none
  n2b : PySem.W.findIn K (.ref (cs 2)) "page" = some none
  n6a : PySem.W.findIn K (.ref (cs 6)) "process" = some none
  n6b : PySem.W.findIn K (.ref (cs 6)) "lot" = some none
section
variable {P : Program} {w : World} {K : PySem.W.Frag} {mg : Str → Option Value} {base : Heap}
abbrev sI0 : Stmt := inClass (topS 9) 0
theorem scI0 : FnScope ["self", "line"] ["self", "line"] (defScope sI0) := ⟨rfl, rfl, rfl, by decide +kernel, rfl, by decide +kernel, by decide +kernel⟩
theorem okI0 {f : Addr} {fd : FuncData} {k : Nat} {C : Addr} (F : Fun K "__init__" "NoCommand.__init__" sI0 f fd) (T : OexC K C) (hno : PySem.W.findIn K (.ref C) "line" = some none) : FnOk P w K mg base CX0 (k + 1) f fd ["self", "line"] (spIni1 C "line") := by
  refine F.ok scI0 (fun vs H Q E h => ?_) (fun cdv A outer s H vs Q E hr h => ?_)
  · obtain ⟨a, v, rfl, _⟩ := h
    rfl
  · obtain ⟨a, v, rfl, ha, q⟩ := h
    exact ⟨_, pss_one (ps_ost (pv 0) (pv 1)), v, rfl, .ref a, rfl, a, C, rfl, T, hno, .inl ⟨ha, fun dx n ne => q dx n ne⟩⟩
abbrev sI1 : Stmt := inClass (topS 5) 0
theorem scI1 : FnScope ["self", "group"] ["self", "group"] (defScope sI1) := ⟨rfl, rfl, rfl, by decide +kernel, rfl, by decide +kernel, by decide +kernel⟩
theorem okI1 {f : Addr} {fd : FuncData} {k : Nat} {C : Addr} (F : Fun K "__init__" "NoGroup.__init__" sI1 f fd) (T : OexC K C) (hno : PySem.W.findIn K (.ref C) "group" = some none) : FnOk P w K mg base CX0 (k + 1) f fd ["self", "group"] (spIni1 C "group") := by
  refine F.ok scI1 (fun vs H Q E h => ?_) (fun cdv A outer s H vs Q E hr h => ?_)
  · obtain ⟨a, v, rfl, _⟩ := h
    rfl
  · obtain ⟨a, v, rfl, ha, q⟩ := h
    exact ⟨_, pss_one (ps_ost (pv 0) (pv 1)), v, rfl, .ref a, rfl, a, C, rfl, T, hno, .inl ⟨ha, fun dx n ne => q dx n ne⟩⟩
abbrev sI3 : Stmt := inClass (topS 4) 0
theorem scI3 : FnScope ["self", "process"] ["self", "process"] (defScope sI3) := ⟨rfl, rfl, rfl, by decide +kernel, rfl, by decide +kernel, by decide +kernel⟩
theorem okI3 {f : Addr} {fd : FuncData} {k : Nat} {C : Addr} (F : Fun K "__init__" "NoProcess.__init__" sI3 f fd) (T : OexC K C) (hno : PySem.W.findIn K (.ref C) "process" = some none) : FnOk P w K mg base CX0 (k + 1) f fd ["self", "process"] (spIni1 C "process") := by
  refine F.ok scI3 (fun vs H Q E h => ?_) (fun cdv A outer s H vs Q E hr h => ?_)
  · obtain ⟨a, v, rfl, _⟩ := h
    rfl
  · obtain ⟨a, v, rfl, ha, q⟩ := h
    exact ⟨_, pss_one (ps_ost (pv 0) (pv 1)), v, rfl, .ref a, rfl, a, C, rfl, T, hno, .inl ⟨ha, fun dx n ne => q dx n ne⟩⟩
abbrev sI4 : Stmt := inClass (topS 6) 0
theorem scI4 : FnScope ["self", "snapshot"] ["self", "snapshot"] (defScope sI4) := ⟨rfl, rfl, rfl, by decide +kernel, rfl, by decide +kernel, by decide +kernel⟩
theorem okI4 {f : Addr} {fd : FuncData} {k : Nat} {C : Addr} (F : Fun K "__init__" "NoSnapshot.__init__" sI4 f fd) (T : OexC K C) (hno : PySem.W.findIn K (.ref C) "snapshot" = some none) : FnOk P w K mg base CX0 (k + 1) f fd ["self", "snapshot"] (spIni1 C "snapshot") := by
  refine F.ok scI4 (fun vs H Q E h => ?_) (fun cdv A outer s H vs Q E hr h => ?_)
  · obtain ⟨a, v, rfl, _⟩ := h
    rfl
  · obtain ⟨a, v, rfl, ha, q⟩ := h
    exact ⟨_, pss_one (ps_ost (pv 0) (pv 1)), v, rfl, .ref a, rfl, a, C, rfl, T, hno, .inl ⟨ha, fun dx n ne => q dx n ne⟩⟩
abbrev sI5 : Stmt := inClass (topS 8) 0
theorem scI5 : FnScope ["self", "line"] ["self", "line"] (defScope sI5) := ⟨rfl, rfl, rfl, by decide +kernel, rfl, by decide +kernel, by decide +kernel⟩
theorem okI5 {f : Addr} {fd : FuncData} {k : Nat} {C : Addr} (F : Fun K "__init__" "NoText.__init__" sI5 f fd) (T : OexC K C) (hno : PySem.W.findIn K (.ref C) "line" = some none) : FnOk P w K mg base CX0 (k + 1) f fd ["self", "line"] (spIni1 C "line") := by
  refine F.ok scI5 (fun vs H Q E h => ?_) (fun cdv A outer s H vs Q E hr h => ?_)
  · obtain ⟨a, v, rfl, _⟩ := h
    rfl
  · obtain ⟨a, v, rfl, ha, q⟩ := h
    exact ⟨_, pss_one (ps_ost (pv 0) (pv 1)), v, rfl, .ref a, rfl, a, C, rfl, T, hno, .inl ⟨ha, fun dx n ne => q dx n ne⟩⟩
abbrev sI8 : Stmt := inClass (topS 11) 0
theorem scI8 : FnScope ["self", "most"] ["self", "most"] (defScope sI8) := ⟨rfl, rfl, rfl, by decide +kernel, rfl, by decide +kernel, by decide +kernel⟩
theorem okI8 {f : Addr} {fd : FuncData} {k : Nat} {C : Addr} (F : Fun K "__init__" "TooMany.__init__" sI8 f fd) (T : OexC K C) (hno : PySem.W.findIn K (.ref C) "most" = some none) : FnOk P w K mg base CX0 (k + 1) f fd ["self", "most"] (spIni1 C "most") := by
  refine F.ok scI8 (fun vs H Q E h => ?_) (fun cdv A outer s H vs Q E hr h => ?_)
  · obtain ⟨a, v, rfl, _⟩ := h
    rfl
  · obtain ⟨a, v, rfl, ha, q⟩ := h
    exact ⟨_, pss_one (ps_ost (pv 0) (pv 1)), v, rfl, .ref a, rfl, a, C, rfl, T, hno, .inl ⟨ha, fun dx n ne => q dx n ne⟩⟩
abbrev sI9 : Stmt := inClass (topS 2) 0
theorem scI9 : FnScope ["self", "place"] ["self", "place"] (defScope sI9) := ⟨rfl, rfl, rfl, by decide +kernel, rfl, by decide +kernel, by decide +kernel⟩
theorem okI9 {f : Addr} {fd : FuncData} {k : Nat} {C : Addr} (F : Fun K "__init__" "Wrong.__init__" sI9 f fd) (T : OexC K C) (hno : PySem.W.findIn K (.ref C) "place" = some none) : FnOk P w K mg base CX0 (k + 1) f fd ["self", "place"] (spIni1 C "place") := by
  refine F.ok scI9 (fun vs H Q E h => ?_) (fun cdv A outer s H vs Q E hr h => ?_)
  · obtain ⟨a, v, rfl, _⟩ := h
    rfl
  · obtain ⟨a, v, rfl, ha, q⟩ := h
    exact ⟨_, pss_one (ps_ost (pv 0) (pv 1)), v, rfl, .ref a, rfl, a, C, rfl, T, hno, .inl ⟨ha, fun dx n ne => q dx n ne⟩⟩
abbrev sI2 : Stmt := inClass (topS 3) 0
theorem scI2 : FnScope ["self", "process", "page"] ["self", "process", "page"] (defScope sI2) := ⟨rfl, rfl, rfl, by decide +kernel, rfl, by decide +kernel, by decide +kernel⟩
theorem okI2 {f : Addr} {fd : FuncData} {k : Nat} {C : Addr} (F : Fun K "__init__" "NoPlace.__init__" sI2 f fd) (T : OexC K C) (hna : PySem.W.findIn K (.ref C) "process" = some none) (hnb : PySem.W.findIn K (.ref C) "page" = some none) :
    FnOk P w K mg base CX0 (k + 1) f fd ["self", "process", "page"] (spIni2 C "process" "page") := by
  refine F.ok scI2 (fun vs H Q E h => ?_) (fun cdv A outer s H vs Q E hr h => ?_)
  · obtain ⟨a, v, z, rfl, _⟩ := h
    rfl
  · obtain ⟨a, v, z, rfl, ha, q⟩ := h
    refine ⟨_, pss_cons (ps_ost (pv 0) (pv 1)) (pss_one (ps_ost (pv 0) (pv 2))), v, rfl, .ref a, rfl, a, C, rfl, T, hna, .inl ⟨ha, fun dx n ne => ?_⟩⟩
    refine ⟨z, rfl, .ref a, rfl, a, C, rfl, T, hnb, .inr ⟨dx, _, upd_same, by rw [upd_ne ne]; exact upd_same, by show 1 ≤ 900; decide, q dx _ n ne (fun b o hb e => ?_) ?_ upd_same fun b hb => ?_⟩⟩
    · rw [upd_ne (ne_of_none e n), upd_ne hb, upd_ne (ne_of_none e n)]
      exact e
    · rw [upd_ne ne.symm]
      exact upd_same
    · by_cases e1 : b = dx
      · rw [e1]
        exact n
      · rw [upd_ne e1] at hb
        by_cases e2 : b = a
        · rw [e2, upd_same] at hb
          cases hb
        · rw [upd_ne e2, upd_ne e1] at hb
          exact hb
abbrev sI6 : Stmt := inClass (topS 7) 0
theorem scI6 : FnScope ["self", "process", "lot"] ["self", "process", "lot"] (defScope sI6) := ⟨rfl, rfl, rfl, by decide +kernel, rfl, by decide +kernel, by decide +kernel⟩
theorem okI6 {f : Addr} {fd : FuncData} {k : Nat} {C : Addr} (F : Fun K "__init__" "NoTicket.__init__" sI6 f fd) (T : OexC K C) (hna : PySem.W.findIn K (.ref C) "process" = some none) (hnb : PySem.W.findIn K (.ref C) "lot" = some none) :
    FnOk P w K mg base CX0 (k + 1) f fd ["self", "process", "lot"] (spIni2 C "process" "lot") := by
  refine F.ok scI6 (fun vs H Q E h => ?_) (fun cdv A outer s H vs Q E hr h => ?_)
  · obtain ⟨a, v, z, rfl, _⟩ := h
    rfl
  · obtain ⟨a, v, z, rfl, ha, q⟩ := h
    refine ⟨_, pss_cons (ps_ost (pv 0) (pv 1)) (pss_one (ps_ost (pv 0) (pv 2))), v, rfl, .ref a, rfl, a, C, rfl, T, hna, .inl ⟨ha, fun dx n ne => ?_⟩⟩
    refine ⟨z, rfl, .ref a, rfl, a, C, rfl, T, hnb, .inr ⟨dx, _, upd_same, by rw [upd_ne ne]; exact upd_same, by show 1 ≤ 900; decide, q dx _ n ne (fun b o hb e => ?_) ?_ upd_same fun b hb => ?_⟩⟩
    · rw [upd_ne (ne_of_none e n), upd_ne hb, upd_ne (ne_of_none e n)]
      exact e
    · rw [upd_ne ne.symm]
      exact upd_same
    · by_cases e1 : b = dx
      · rw [e1]
        exact n
      · rw [upd_ne e1] at hb
        by_cases e2 : b = a
        · rw [e2, upd_same] at hb
          cases hb
        · rw [upd_ne e2, upd_ne e1] at hb
          exact hb
abbrev sI7 : Stmt := inClass (topS 10) 0
theorem scI7 : FnScope ["self"] ["self"] (defScope sI7) := ⟨rfl, rfl, rfl, by decide +kernel, rfl, by decide +kernel, by decide +kernel⟩
theorem okI7 {f : Addr} {fd : FuncData} {k : Nat} (F : Fun K "__init__" "Nothing.__init__" sI7 f fd) : FnOk P w K mg base CX0 (k + 1) f fd ["self"] spIni0 := by
  refine F.ok scI7 (fun vs H Q E h => ?_) (fun cdv A outer s H vs Q E hr h => ?_)
  · obtain ⟨a, rfl, _⟩ := h
    rfl
  · obtain ⟨a, rfl, q⟩ := h
    exact ⟨_, pss_one ps_pass, q⟩
/-- all the __init__s keep their promises -/
structure Inis (P : Program) (w : World) (K : PySem.W.Frag) (mg : Str → Option Value) (base : Heap) (k : Nat) (cs fs : Nat → Addr) (fd : Nat → FuncData) : Prop where
  o0 : FnOk P w K mg base CX0 k (fs 0) (fd 0) ["self", "line"] (spIni1 (cs 0) "line")
  b0 : Binds K (fd 0) ["self", "line"] []
  o1 : FnOk P w K mg base CX0 k (fs 1) (fd 1) ["self", "group"] (spIni1 (cs 1) "group")
  b1 : Binds K (fd 1) ["self", "group"] []
  o3 : FnOk P w K mg base CX0 k (fs 3) (fd 3) ["self", "process"] (spIni1 (cs 3) "process")
  b3 : Binds K (fd 3) ["self", "process"] []
  o4 : FnOk P w K mg base CX0 k (fs 4) (fd 4) ["self", "snapshot"] (spIni1 (cs 4) "snapshot")
  b4 : Binds K (fd 4) ["self", "snapshot"] []
  o5 : FnOk P w K mg base CX0 k (fs 5) (fd 5) ["self", "line"] (spIni1 (cs 5) "line")
  b5 : Binds K (fd 5) ["self", "line"] []
  o8 : FnOk P w K mg base CX0 k (fs 8) (fd 8) ["self", "most"] (spIni1 (cs 8) "most")
  b8 : Binds K (fd 8) ["self", "most"] []
  o9 : FnOk P w K mg base CX0 k (fs 9) (fd 9) ["self", "place"] (spIni1 (cs 9) "place")
  b9 : Binds K (fd 9) ["self", "place"] []
  o2 : FnOk P w K mg base CX0 k (fs 2) (fd 2) ["self", "process", "page"] (spIni2 (cs 2) "process" "page")
  b2 : Binds K (fd 2) ["self", "process", "page"] []
  o6 : FnOk P w K mg base CX0 k (fs 6) (fd 6) ["self", "process", "lot"] (spIni2 (cs 6) "process" "lot")
  b6 : Binds K (fd 6) ["self", "process", "lot"] []
  o7 : FnOk P w K mg base CX0 k (fs 7) (fd 7) ["self"] spIni0
  b7 : Binds K (fd 7) ["self"] []
abbrev sKinds : Stmt := topS 18
abbrev sMade : Stmt := topS 19
abbrev sKept : Stmt := topS 20
abbrev sDue : Stmt := topS 21
theorem scKinds : FnScope ["_law_error", "_law_first", "_law_second", "_law_third", "_law_last"] ["_law_error"] (defScope sKinds) := ⟨rfl, rfl, rfl, by decide +kernel, rfl, by decide +kernel, by decide +kernel⟩
theorem scMade : FnScope ["_law_one", "_law_other", "_law_first"] ["_law_one", "_law_other"] (defScope sMade) := ⟨rfl, rfl, rfl, by decide +kernel, rfl, by decide +kernel, by decide +kernel⟩
theorem scKept : FnScope ["_law_made_here", "_law_first"] ["_law_made_here"] (defScope sKept) := ⟨rfl, rfl, rfl, by decide +kernel, rfl, by decide +kernel, by decide +kernel⟩
theorem scDue : FnScope ["_law_one", "_law_other"] ["_law_one", "_law_other"] (defScope sDue) := ⟨rfl, rfl, rfl, by decide +kernel, rfl, by decide +kernel, by decide +kernel⟩
/-- the fields of the i-th error -/
def fieldsOf (one other : V) : Nat → Option (List (Str × V))
  | 0 => some [("line", one)]
  | 1 => some [("group", one)]
  | 2 => some [("page", other), ("process", one)]
  | 3 => some [("process", one)]
  | 4 => some [("snapshot", one)]
  | 5 => some [("line", one)]
  | 6 => some [("lot", other), ("process", one)]
  | 7 => none
  | 8 => some [("most", one)]
  | _ => some [("place", one)]
/-- ten errors, one of each class -/
def Ten (H : Hp) (cs : Nat → Addr) (one other : V) (es : List Addr) : Prop := es.length = 10 ∧ ∀ i e, es[i]? = some e → ErrIs H e (cs i) (fieldsOf one other i)
theorem Ten.same {H H' : Hp} {cs : Nat → Addr} {one other : V} {es : List Addr} (s : Same H H') (h : Ten H cs one other es) : Ten H' cs one other es := ⟨h.1, fun i e q => (h.2 i e q).same s⟩
def spMade (cs : Nat → Addr) : Sp := fun vs H Q _ => ∃ one other, vs = [one, other] ∧ ∀ H' p es, Same H H' → H p = none → H' p = some (.lst (es.map V.ref)) → Ten H' cs one other es → Q (.ref p) H'
def kindRow (i : Nat) : List V := (List.range 12).map fun j => V.bl (decide (j = i) || decide (9 < j))
def spKinds (cs : Nat → Addr) : Sp := fun vs H Q _ => ∃ e i fl, vs = [.ref e] ∧ i < 10 ∧ ErrIs H e (cs i) fl ∧ ∀ H' p, Same H H' → H' p = some (.lst (kindRow i)) → Q (.ref p) H'
def nineOf (one other : V) (p q : Addr) : List V := [one, one, .ref p, one, one, one, .ref q, one, one]
def spKept (cs : Nat → Addr) : Sp := fun vs H Q _ => ∃ p es one other, vs = [.ref p] ∧ H p = some (.lst (es.map V.ref)) ∧ Ten H cs one other es ∧
  ∀ H' r p q, Same H H' → H' r = some (.lst (nineOf one other p q)) → H' p = some (.tup [one, other]) → H' q = some (.tup [one, other]) → Q (.ref r) H'
def spDue : Sp := fun vs H Q _ => ∃ one other, vs = [one, other] ∧ ∀ H' r p q, Same H H' → H' r = some (.lst (nineOf one other p q)) → H' p = some (.tup [one, other]) → H' q = some (.tup [one, other]) → Q (.ref r) H'
theorem same_new {H H1 : Hp} {p : Addr} {o : HO} (s : Same H H1) (np : H1 p = none) : Same H (upd H1 p o) := fun b u e => by
  rw [upd_ne (ne_of_none (s b u e) np)]
  exact s b u e
theorem okDue {f : Addr} {fd : FuncData} {k : Nat} (F : Fun K "_law_due" "_law_due" sDue f fd) : FnOk P w K mg base CX0 (k + 1) f fd ["_law_one", "_law_other"] spDue := by
  refine F.ok scDue (fun vs H Q E h => ?_) (fun cdv A outer s H vs Q E hr h => ?_)
  · obtain ⟨a, v, rfl, _⟩ := h
    rfl
  · obtain ⟨one, other, rfl, q⟩ := h
    refine ⟨_, pss_one (ps_ret (pe_lst (pa_cons (pv 0) (pa_cons (pv 0) (pa_cons (pe_tup (pa_cons (pv 0) (pa_cons (pv 1) pa_nil))) (pa_cons (pv 0) (pa_cons (pv 0) (pa_cons (pv 0)
      (pa_cons (pe_tup (pa_cons (pv 0) (pa_cons (pv 1) pa_nil))) (pa_cons (pv 0) (pa_cons (pv 0) pa_nil))))))))))), ?_⟩
    refine ⟨one, rfl, one, rfl, one, rfl, other, rfl, (by show 2 ≤ sizeLine; decide), fun p np => ⟨one, rfl, one, rfl, one, rfl, one, rfl, other, rfl, (by show 2 ≤ sizeLine; decide), fun p2 np2 => ⟨one, rfl, one, rfl, (by show 9 ≤ sizeLine; decide), fun r nr => ?_⟩⟩⟩
    have e12 : p ≠ p2 := ne_of_none upd_same np2
    have e1 : p ≠ r := ne_of_none (by rw [upd_ne e12]; exact upd_same) nr
    have e2 : p2 ≠ r := ne_of_none upd_same nr
    exact q _ r p p2 (same_new (same_new (same_new (Same.refl H) np) np2) nr) upd_same (by rw [upd_ne e1, upd_ne e12]; exact upd_same) (by rw [upd_ne e2]; exact upd_same)
theorem okMade {f : Addr} {fd : FuncData} {k : Nat} {cs fs : Nat → Addr} {fds : Nat → FuncData} {sw : Addr} (F : Fun K "_law_made" "_law_made" sMade f fd) (C : Cl K mg cs fs sw) (G : Inis P w K mg base k cs fs fds) :
    FnOk P w K mg base CX0 (k + 2) f fd ["_law_one", "_law_other"] (spMade cs) := by
  refine F.ok scMade (fun vs H Q E h => ?_) (fun cdv A outer s H vs Q E hr h => ?_)
  · obtain ⟨a, v, rfl, _⟩ := h
    rfl
  · obtain ⟨one, other, rfl, q⟩ := h
    refine ⟨_, pss_cons (ps_set (i := 2) scMade.nd rfl (.inl rfl) (pe_lst (pa_cons (pe_mk1 (C.cls 0 (by decide)).ox (C.ini 0 (by decide)) G.o0 hr G.b0 (by rfl) C.g0 (pv 0)) (pa_cons (pe_mk1 (C.cls 1 (by decide)).ox (C.ini 1 (by decide)) G.o1 hr G.b1 (by rfl) C.g1 (pv 0)) (pa_cons (pe_mk2 (C.cls 2 (by decide)).ox (C.ini 2 (by decide)) G.o2 hr G.b2 (by rfl) C.g2 (pv 0) (pv 1)) (pa_cons (pe_mk1 (C.cls 3 (by decide)).ox (C.ini 3 (by decide)) G.o3 hr G.b3 (by rfl) C.g3 (pv 0)) (pa_cons (pe_mk1 (C.cls 4 (by decide)).ox (C.ini 4 (by decide)) G.o4 hr G.b4 (by rfl) C.g4 (pv 0)) (pa_cons (pe_mk1 (C.cls 5 (by decide)).ox (C.ini 5 (by decide)) G.o5 hr G.b5 (by rfl) C.g5 (pv 0)) pa_nil))))))))
      (pss_one (ps_ret (pe_op op_cat (pv 2) (pe_lst (pa_cons (pe_mk2 (C.cls 6 (by decide)).ox (C.ini 6 (by decide)) G.o6 hr G.b6 (by rfl) C.g6 (pv 0) (pv 1)) (pa_cons (pe_mk0 (C.cls 7 (by decide)).ox (C.ini 7 (by decide)) G.o7 hr G.b7 (by rfl) C.g7) (pa_cons (pe_mk1 (C.cls 8 (by decide)).ox (C.ini 8 (by decide)) G.o8 hr G.b8 (by rfl) C.g8 (pv 0)) (pa_cons (pe_mk1 (C.cls 9 (by decide)).ox (C.ini 9 (by decide)) G.o9 hr G.b9 (by rfl) C.g9 (pv 0)) pa_nil)))))))), ?_⟩
    refine ⟨one, rfl, one, rfl, fun e0 H0 s0 x0 => ⟨one, rfl, one, rfl, fun e1 H1 s1 x1 => ⟨one, rfl, other, rfl, one, other, rfl, fun e2 H2 s2 x2 => ⟨one, rfl, one, rfl, fun e3 H3 s3 x3 => ⟨one, rfl, one, rfl, fun e4 H4 s4 x4 => ⟨one, rfl, one, rfl, fun e5 H5 s5 x5 => ⟨(by show 6 ≤ sizeLine; decide), fun l nl => ?_⟩⟩⟩⟩⟩⟩⟩
    refine ⟨.ref l, rfl, ⟨one, rfl, other, rfl, one, other, rfl, fun e6 H6 s6 x6 => fun e7 H7 s7 x7 => ⟨one, rfl, one, rfl, fun e8 H8 s8 x8 => ⟨one, rfl, one, rfl, fun e9 H9 s9 x9 => ⟨(by show 4 ≤ sizeLine; decide), fun m nm => ?_⟩⟩⟩⟩⟩
    have f5 : Same H H5 := ((((s0.trans s1).trans s2).trans s3).trans s4).trans s5
    have fl : Same H5 (upd H5 l (.lst [.ref e0, .ref e1, .ref e2, .ref e3, .ref e4, .ref e5])) := same_new (Same.refl H5) nl
    have f9 : Same (upd H5 l (.lst [.ref e0, .ref e1, .ref e2, .ref e3, .ref e4, .ref e5])) H9 := ((s6.trans s7).trans s8).trans s9
    have hl : H9 l = some (.lst [.ref e0, .ref e1, .ref e2, .ref e3, .ref e4, .ref e5]) := f9 _ _ upd_same
    have lm : l ≠ m := ne_of_none hl nm
    refine ⟨l, m, _, _, rfl, rfl, by rw [upd_ne lm]; exact hl, upd_same, (by show 6 + 4 ≤ sizeLine; decide), fun r nr => ?_⟩
    have fin : Same H9 (upd (upd H9 m (.lst [.ref e6, .ref e7, .ref e8, .ref e9])) r (.lst ([.ref e0, .ref e1, .ref e2, .ref e3, .ref e4, .ref e5] ++ [.ref e6, .ref e7, .ref e8, .ref e9]))) := same_new (same_new (Same.refl H9) nm) nr
    have all : Same H5 _ := (fl.trans f9).trans fin
    have whole : Same H _ := f5.trans all
    have whole0 : Same H (upd H9 m (.lst [.ref e6, .ref e7, .ref e8, .ref e9])) := f5.trans ((fl.trans f9).trans (same_new (Same.refl H9) nm))
    refine q _ r [e0, e1, e2, e3, e4, e5, e6, e7, e8, e9] whole (whole0.free nr) upd_same ⟨rfl, fun i e he => ?_⟩
    match i, he with
    | 0, he =>
      cases he
      exact x0.same ((((((s1).trans s2).trans s3).trans s4).trans s5).trans all)
    | 1, he =>
      cases he
      exact x1.same (((((s2).trans s3).trans s4).trans s5).trans all)
    | 2, he =>
      cases he
      exact x2.same ((((s3).trans s4).trans s5).trans all)
    | 3, he =>
      cases he
      exact x3.same (((s4).trans s5).trans all)
    | 4, he =>
      cases he
      exact x4.same ((s5).trans all)
    | 5, he =>
      cases he
      exact x5.same (all)
    | 6, he =>
      cases he
      exact x6.same ((((s7).trans s8).trans s9).trans fin)
    | 7, he =>
      cases he
      exact x7.same (((s8).trans s9).trans fin)
    | 8, he =>
      cases he
      exact x8.same ((s9).trans fin)
    | 9, he =>
      cases he
      exact x9.same (fin)
    | n + 10, he => exact absurd he (by simp)
theorem look_at {H : Hp} {cs : Nat → Addr} {one other : V} {es : List Addr} (h : Ten H cs one other es) {i : Nat} (hi : i < 10) : ∃ e, es[i]? = some e ∧ ErrIs H e (cs i) (fieldsOf one other i) := by
  have hi' : i < es.length := by rw [h.1]; exact hi
  exact ⟨es[i], List.getElem?_eq_getElem hi', h.2 i _ (List.getElem?_eq_getElem hi')⟩
/-- the i-th error, in the list and in the heap -/
theorem err_at {H : Hp} {cs : Nat → Addr} {es : List Addr} {one other : V} {gs : List (Str × V)} (i : Nat) (T : Ten H cs one other es) (hi : i < 10) (hg : fieldsOf one other i = some gs) :
    ∃ e d, (es.map V.ref)[i]? = some (.ref e) ∧ H e = some (exo e (cs i) (some d)) ∧ H d = some (exd d gs) := by
  obtain ⟨e, he, hE⟩ := look_at T hi
  rw [hg] at hE
  obtain ⟨d, h1, h2⟩ := hE
  exact ⟨e, d, by rw [List.getElem?_map, he] <;> rfl, h1, h2⟩
theorem okKept {f : Addr} {fd : FuncData} {k : Nat} {cs fs : Nat → Addr} {sw : Addr} (F : Fun K "_law_kept" "_law_kept" sKept f fd) (C : Cl K mg cs fs sw) : FnOk P w K mg base CX0 (k + 1) f fd ["_law_made_here"] (spKept cs) := by
  refine F.ok scKept (fun vs H Q E h => ?_) (fun cdv A outer s H vs Q E hr h => ?_)
  · obtain ⟨a, _, _, _, rfl, _⟩ := h
    rfl
  · obtain ⟨p, es, one, other, rfl, hp, T, q⟩ := h
    refine ⟨_, pss_cons (ps_set (i := 1) scKept.nd rfl (.inl rfl) (pe_lst (pa_cons (pe_xv (pe_ix ix_list (pv 0) pe_int (fun _ _ => rfl))) (pa_cons (pe_xv (pe_ix ix_list (pv 0) pe_int (fun _ _ => rfl))) (pa_cons (pe_tup (pa_cons (pe_xv (pe_ix ix_list (pv 0) pe_int (fun _ _ => rfl))) (pa_cons (pe_xv (pe_ix ix_list (pv 0) pe_int (fun _ _ => rfl))) pa_nil))) (pa_cons (pe_xv (pe_ix ix_list (pv 0) pe_int (fun _ _ => rfl))) (pa_cons (pe_xv (pe_ix ix_list (pv 0) pe_int (fun _ _ => rfl))) pa_nil)))))))
      (pss_one (ps_ret (pe_op op_cat (pv 1) (pe_lst (pa_cons (pe_xv (pe_ix ix_list (pv 0) pe_int (fun _ _ => rfl))) (pa_cons (pe_tup (pa_cons (pe_xv (pe_ix ix_list (pv 0) pe_int (fun _ _ => rfl))) (pa_cons (pe_xv (pe_ix ix_list (pv 0) pe_int (fun _ _ => rfl))) pa_nil))) (pa_cons (pe_xv (pe_ix ix_list (pv 0) pe_int (fun _ _ => rfl))) (pa_cons (pe_xv (pe_ix ix_list (pv 0) pe_int (fun _ _ => rfl))) pa_nil)))))))), ?_⟩
    obtain ⟨a1, d1, u1, v1, w1⟩ := err_at 0 T (by decide) rfl
    refine ⟨.ref p, rfl, p, _, _, .ref a1, rfl, rfl, SqL.of hp, at_of (j := 0) rfl u1, a1, cs 0, d1, _, _, rfl, (C.cls 0 (by decide)).fld, C.n0, v1, w1, rfl, ?_⟩
    obtain ⟨a2, d2, u2, v2, w2⟩ := err_at 1 T (by decide) rfl
    refine ⟨.ref p, rfl, p, _, _, .ref a2, rfl, rfl, SqL.of hp, at_of (j := 1) rfl u2, a2, cs 1, d2, _, _, rfl, (C.cls 1 (by decide)).fld, C.n1, v2, w2, rfl, ?_⟩
    obtain ⟨a3, d3, u3, v3, w3⟩ := err_at 2 T (by decide) rfl
    refine ⟨.ref p, rfl, p, _, _, .ref a3, rfl, rfl, SqL.of hp, at_of (j := 2) rfl u3, a3, cs 2, d3, _, _, rfl, (C.cls 2 (by decide)).fld, C.n2a, v3, w3, rfl, ?_⟩
    obtain ⟨a4, d4, u4, v4, w4⟩ := err_at 2 T (by decide) rfl
    refine ⟨.ref p, rfl, p, _, _, .ref a4, rfl, rfl, SqL.of hp, at_of (j := 2) rfl u4, a4, cs 2, d4, _, _, rfl, (C.cls 2 (by decide)).fld, C.n2b, v4, w4, rfl, ?_⟩
    refine ⟨(by show 2 ≤ sizeLine; decide), fun t1 nt1 => ?_⟩
    have s1 : Same H (upd H t1 (.tup [one, other])) := same_new (Same.refl H) nt1
    obtain ⟨a5, d5, u5, v5, w5⟩ := err_at 3 (T.same s1) (by decide) rfl
    refine ⟨.ref p, rfl, p, _, _, .ref a5, rfl, rfl, SqL.of (s1 _ _ hp), at_of (j := 3) rfl u5, a5, cs 3, d5, _, _, rfl, (C.cls 3 (by decide)).fld, C.n3, v5, w5, rfl, ?_⟩
    obtain ⟨a6, d6, u6, v6, w6⟩ := err_at 4 (T.same s1) (by decide) rfl
    refine ⟨.ref p, rfl, p, _, _, .ref a6, rfl, rfl, SqL.of (s1 _ _ hp), at_of (j := 4) rfl u6, a6, cs 4, d6, _, _, rfl, (C.cls 4 (by decide)).fld, C.n4, v6, w6, rfl, ?_⟩
    refine ⟨(by show 5 ≤ sizeLine; decide), fun l nl => ?_⟩
    have s2 := same_new (o := .lst [one, one, .ref t1, one, one]) s1 nl
    refine ⟨.ref l, rfl, ?_⟩
    obtain ⟨a7, d7, u7, v7, w7⟩ := err_at 5 (T.same s2) (by decide) rfl
    refine ⟨.ref p, rfl, p, _, _, .ref a7, rfl, rfl, SqL.of (s2 _ _ hp), at_of (j := 5) rfl u7, a7, cs 5, d7, _, _, rfl, (C.cls 5 (by decide)).fld, C.n5, v7, w7, rfl, ?_⟩
    obtain ⟨a8, d8, u8, v8, w8⟩ := err_at 6 (T.same s2) (by decide) rfl
    refine ⟨.ref p, rfl, p, _, _, .ref a8, rfl, rfl, SqL.of (s2 _ _ hp), at_of (j := 6) rfl u8, a8, cs 6, d8, _, _, rfl, (C.cls 6 (by decide)).fld, C.n6a, v8, w8, rfl, ?_⟩
    obtain ⟨a9, d9, u9, v9, w9⟩ := err_at 6 (T.same s2) (by decide) rfl
    refine ⟨.ref p, rfl, p, _, _, .ref a9, rfl, rfl, SqL.of (s2 _ _ hp), at_of (j := 6) rfl u9, a9, cs 6, d9, _, _, rfl, (C.cls 6 (by decide)).fld, C.n6b, v9, w9, rfl, ?_⟩
    refine ⟨(by show 2 ≤ sizeLine; decide), fun t2 nt2 => ?_⟩
    have s3 := same_new (o := .tup [one, other]) s2 nt2
    obtain ⟨a10, d10, u10, v10, w10⟩ := err_at 8 (T.same s3) (by decide) rfl
    refine ⟨.ref p, rfl, p, _, _, .ref a10, rfl, rfl, SqL.of (s3 _ _ hp), at_of (j := 8) rfl u10, a10, cs 8, d10, _, _, rfl, (C.cls 8 (by decide)).fld, C.n8, v10, w10, rfl, ?_⟩
    obtain ⟨a11, d11, u11, v11, w11⟩ := err_at 9 (T.same s3) (by decide) rfl
    refine ⟨.ref p, rfl, p, _, _, .ref a11, rfl, rfl, SqL.of (s3 _ _ hp), at_of (j := 9) rfl u11, a11, cs 9, d11, _, _, rfl, (C.cls 9 (by decide)).fld, C.n9, v11, w11, rfl, ?_⟩
    refine ⟨(by show 4 ≤ sizeLine; decide), fun m nm => ?_⟩
    have tl : t1 ≠ l := ne_of_none upd_same nl
    have lt : l ≠ t2 := ne_of_none upd_same nt2
    have tt : t1 ≠ t2 := ne_of_none (by rw [upd_ne tl]; exact upd_same) nt2
    have t2m : t2 ≠ m := ne_of_none upd_same nm
    have lm : l ≠ m := ne_of_none (by rw [upd_ne lt]; exact upd_same) nm
    have t1m : t1 ≠ m := ne_of_none (by rw [upd_ne tt, upd_ne tl]; exact upd_same) nm
    have s4 := same_new (o := .lst [one, .ref t2, one, one]) s3 nm
    refine ⟨l, m, _, _, rfl, rfl, by rw [upd_ne lm, upd_ne lt]; exact upd_same, upd_same, (by show 5 + 4 ≤ sizeLine; decide), fun r nr => ?_⟩
    have t1r : t1 ≠ r := ne_of_none (by rw [upd_ne t1m, upd_ne tt, upd_ne tl]; exact upd_same) nr
    have t2r : t2 ≠ r := ne_of_none (by rw [upd_ne t2m]; exact upd_same) nr
    exact q _ r t1 t2 (same_new s4 nr) upd_same (by rw [upd_ne t1r, upd_ne t1m, upd_ne tt, upd_ne tl]; exact upd_same) (by rw [upd_ne t2r, upd_ne t2m]; exact upd_same)
theorem okKinds {f : Addr} {fd : FuncData} {k : Nat} {cs fs : Nat → Addr} {sw : Addr} (F : Fun K "_law_kinds" "_law_kinds" sKinds f fd) (C : Cl K mg cs fs sw) (mi : mg "isinstance" = none) : FnOk P w K mg base CX0 (k + 1) f fd ["_law_error"] (spKinds cs) := by
  refine F.ok scKinds (fun vs H Q E h => ?_) (fun cdv A outer s H vs Q E hr h => ?_)
  · obtain ⟨a, _, _, rfl, _⟩ := h
    rfl
  · obtain ⟨e, i, fl, rfl, hi, hE, q⟩ := h
    obtain ⟨d, h1, h2⟩ := hE.some_of
    refine ⟨_, pss_cons (ps_set (i := 1) scKinds.nd rfl (.inl rfl) (pe_lst (pa_cons (pe_callB call_xi (by rfl) mi (by decide +kernel) (pa_cons (pv 0) (pa_cons (pe_glob (v := .ref (cs 0)) (by rfl) C.g0 rfl) pa_nil))) (pa_cons (pe_callB call_xi (by rfl) mi (by decide +kernel) (pa_cons (pv 0) (pa_cons (pe_glob (v := .ref (cs 1)) (by rfl) C.g1 rfl) pa_nil))) (pa_cons (pe_callB call_xi (by rfl) mi (by decide +kernel) (pa_cons (pv 0) (pa_cons (pe_glob (v := .ref (cs 2)) (by rfl) C.g2 rfl) pa_nil))) pa_nil)))))
      (pss_cons (ps_set (i := 2) scKinds.nd rfl (.inl rfl) (pe_lst (pa_cons (pe_callB call_xi (by rfl) mi (by decide +kernel) (pa_cons (pv 0) (pa_cons (pe_glob (v := .ref (cs 3)) (by rfl) C.g3 rfl) pa_nil))) (pa_cons (pe_callB call_xi (by rfl) mi (by decide +kernel) (pa_cons (pv 0) (pa_cons (pe_glob (v := .ref (cs 4)) (by rfl) C.g4 rfl) pa_nil))) (pa_cons (pe_callB call_xi (by rfl) mi (by decide +kernel) (pa_cons (pv 0) (pa_cons (pe_glob (v := .ref (cs 5)) (by rfl) C.g5 rfl) pa_nil))) pa_nil)))))
      (pss_cons (ps_set (i := 3) scKinds.nd rfl (.inl rfl) (pe_lst (pa_cons (pe_callB call_xi (by rfl) mi (by decide +kernel) (pa_cons (pv 0) (pa_cons (pe_glob (v := .ref (cs 6)) (by rfl) C.g6 rfl) pa_nil))) (pa_cons (pe_callB call_xi (by rfl) mi (by decide +kernel) (pa_cons (pv 0) (pa_cons (pe_glob (v := .ref (cs 7)) (by rfl) C.g7 rfl) pa_nil))) (pa_cons (pe_callB call_xi (by rfl) mi (by decide +kernel) (pa_cons (pv 0) (pa_cons (pe_glob (v := .ref (cs 8)) (by rfl) C.g8 rfl) pa_nil))) pa_nil)))))
      (pss_cons (ps_set (i := 4) scKinds.nd rfl (.inl rfl) (pe_lst (pa_cons (pe_callB call_xi (by rfl) mi (by decide +kernel) (pa_cons (pv 0) (pa_cons (pe_glob (v := .ref (cs 9)) (by rfl) C.g9 rfl) pa_nil))) (pa_cons (pe_callB call_xi (by rfl) mi (by decide +kernel) (pa_cons (pv 0) (pa_cons (pe_glob (v := .ref sw) (by rfl) C.gS rfl) pa_nil))) (pa_cons (pe_callB call_xi (by rfl) mi (by decide +kernel) (pa_cons (pv 0) (pa_cons (pe_bltn (v := .ty "ValueError") (by rfl) C.gV (by decide +kernel) rfl) pa_nil))) pa_nil)))))
      (pss_one (ps_ret (pe_op op_cat (pe_op op_cat (pe_op op_cat (pv 1) (pv 2)) (pv 3)) (pv 4))))))), ?_⟩
    refine ⟨.ref e, rfl, e, cs i, d, .ref (cs 0), _, _, rfl, h1, h2, C.cls i hi, fun u r => r, C.kit i 0 hi (by decide), ?_⟩
    refine ⟨.ref e, rfl, e, cs i, d, .ref (cs 1), _, _, rfl, h1, h2, C.cls i hi, fun u r => r, C.kit i 1 hi (by decide), ?_⟩
    refine ⟨.ref e, rfl, e, cs i, d, .ref (cs 2), _, _, rfl, h1, h2, C.cls i hi, fun u r => r, C.kit i 2 hi (by decide), ?_⟩
    refine ⟨(by show 3 ≤ sizeLine; decide), fun l0 n0 => ?_⟩
    have z0 := same_new (o := .lst [.bl (decide (0 = i) || decide (9 < 0)), .bl (decide (1 = i) || decide (9 < 1)), .bl (decide (2 = i) || decide (9 < 2))]) (Same.refl H) n0
    refine ⟨.ref e, rfl, e, cs i, d, .ref (cs 3), _, _, rfl, (z0 _ _ h1), (fun z e => let ⟨gs, g⟩ := h2 z e; ⟨gs, z0 _ _ g⟩), C.cls i hi, fun u r => r, C.kit i 3 hi (by decide), ?_⟩
    refine ⟨.ref e, rfl, e, cs i, d, .ref (cs 4), _, _, rfl, (z0 _ _ h1), (fun z e => let ⟨gs, g⟩ := h2 z e; ⟨gs, z0 _ _ g⟩), C.cls i hi, fun u r => r, C.kit i 4 hi (by decide), ?_⟩
    refine ⟨.ref e, rfl, e, cs i, d, .ref (cs 5), _, _, rfl, (z0 _ _ h1), (fun z e => let ⟨gs, g⟩ := h2 z e; ⟨gs, z0 _ _ g⟩), C.cls i hi, fun u r => r, C.kit i 5 hi (by decide), ?_⟩
    refine ⟨(by show 3 ≤ sizeLine; decide), fun l1 n1 => ?_⟩
    have z1 := same_new (o := .lst [.bl (decide (3 = i) || decide (9 < 3)), .bl (decide (4 = i) || decide (9 < 4)), .bl (decide (5 = i) || decide (9 < 5))]) z0 n1
    refine ⟨.ref e, rfl, e, cs i, d, .ref (cs 6), _, _, rfl, (z1 _ _ h1), (fun z e => let ⟨gs, g⟩ := h2 z e; ⟨gs, z1 _ _ g⟩), C.cls i hi, fun u r => r, C.kit i 6 hi (by decide), ?_⟩
    refine ⟨.ref e, rfl, e, cs i, d, .ref (cs 7), _, _, rfl, (z1 _ _ h1), (fun z e => let ⟨gs, g⟩ := h2 z e; ⟨gs, z1 _ _ g⟩), C.cls i hi, fun u r => r, C.kit i 7 hi (by decide), ?_⟩
    refine ⟨.ref e, rfl, e, cs i, d, .ref (cs 8), _, _, rfl, (z1 _ _ h1), (fun z e => let ⟨gs, g⟩ := h2 z e; ⟨gs, z1 _ _ g⟩), C.cls i hi, fun u r => r, C.kit i 8 hi (by decide), ?_⟩
    refine ⟨(by show 3 ≤ sizeLine; decide), fun l2 n2 => ?_⟩
    have z2 := same_new (o := .lst [.bl (decide (6 = i) || decide (9 < 6)), .bl (decide (7 = i) || decide (9 < 7)), .bl (decide (8 = i) || decide (9 < 8))]) z1 n2
    refine ⟨.ref e, rfl, e, cs i, d, .ref (cs 9), _, _, rfl, (z2 _ _ h1), (fun z e => let ⟨gs, g⟩ := h2 z e; ⟨gs, z2 _ _ g⟩), C.cls i hi, fun u r => r, C.kit i 9 hi (by decide), ?_⟩
    refine ⟨.ref e, rfl, e, cs i, d, .ref sw, _, _, rfl, (z2 _ _ h1), (fun z e => let ⟨gs, g⟩ := h2 z e; ⟨gs, z2 _ _ g⟩), C.cls i hi, fun u r => r, C.kit i 10 hi (by decide), ?_⟩
    refine ⟨.ref e, rfl, e, cs i, d, .ty "ValueError", _, _, rfl, (z2 _ _ h1), (fun z e => let ⟨gs, g⟩ := h2 z e; ⟨gs, z2 _ _ g⟩), C.cls i hi, fun u r => r, C.kit i 11 hi (by decide), ?_⟩
    refine ⟨(by show 3 ≤ sizeLine; decide), fun l3 n3 => ?_⟩
    have z3 := same_new (o := .lst [.bl (decide (9 = i) || decide (9 < 9)), .bl (decide (10 = i) || decide (9 < 10)), .bl (decide (11 = i) || decide (9 < 11))]) z2 n3
    have a01 : l0 ≠ l1 := ne_of_none upd_same n1
    have a12 : l1 ≠ l2 := ne_of_none upd_same n2
    have a23 : l2 ≠ l3 := ne_of_none upd_same n3
    have a02 : l0 ≠ l2 := ne_of_none (by rw [upd_ne a01]; exact upd_same) n2
    have a13 : l1 ≠ l3 := ne_of_none (by rw [upd_ne a12]; exact upd_same) n3
    have a03 : l0 ≠ l3 := ne_of_none (by rw [upd_ne a02, upd_ne a01]; exact upd_same) n3
    refine ⟨.ref l0, rfl, .ref l1, rfl, l0, l1, _, _, rfl, rfl, by rw [upd_ne a03, upd_ne a02, upd_ne a01]; exact upd_same, by rw [upd_ne a13, upd_ne a12]; exact upd_same, (by show 3 + 3 ≤ sizeLine; decide), fun m0 k0 => ?_⟩
    have b2 : l2 ≠ m0 := ne_of_none (by rw [upd_ne a23]; exact upd_same) k0
    have b3 : l3 ≠ m0 := ne_of_none upd_same k0
    refine ⟨.ref l2, rfl, m0, l2, _, _, rfl, rfl, upd_same, by rw [upd_ne b2, upd_ne a23]; exact upd_same, (by show 6 + 3 ≤ sizeLine; decide), fun m1 k1 => ?_⟩
    have c3 : l3 ≠ m1 := ne_of_none (by rw [upd_ne b3]; exact upd_same) k1
    refine ⟨.ref l3, rfl, m1, l3, _, _, rfl, rfl, upd_same, by rw [upd_ne c3, upd_ne b3]; exact upd_same, (by show 9 + 3 ≤ sizeLine; decide), fun m2 k2 => ?_⟩
    exact q _ m2 (same_new (same_new (same_new z3 k0) k1) k2) upd_same
end
end K00

set_option Elab.async false
set_option linter.all false
set_option maxRecDepth 100000
set_option maxHeartbeats 8000000
namespace K00
open PySem PySem.Spec PyProof.Rows L2 Pg
def nineD (d1 d2 : PyData) : PyData := .list [d1, d1, .tuple [d1, d2], d1, d1, d1, .tuple [d1, d2], d1, d1]
theorem nine_is {K : PySem.W.Frag} {H : Hp} {one other : V} {p q r : Addr} {d1 d2 : PyData} (h1 : Dd K H one d1) (h2 : Dd K H other d2) (hr : H r = some (.lst (nineOf one other p q))) (hp : H p = some (.tup [one, other])) (hq : H q = some (.tup [one, other])) : Dd K H (.ref r) (nineD d1 d2) := by
  have t1 : Dd K H (.ref p) (.tuple [d1, d2]) := .tup (SqT.of hp) (.cons h1 (.cons h2 .nil))
  have t2 : Dd K H (.ref q) (.tuple [d1, d2]) := .tup (SqT.of hq) (.cons h1 (.cons h2 .nil))
  exact .lst (SqL.of hr) (.cons h1 (.cons h1 (.cons t1 (.cons h1 (.cons h1 (.cons h1 (.cons t2 (.cons h1 (.cons h1 .nil)))))))))
theorem pair_fit {n B1 B2 : Nat} {a b : PyData} (h1 : Fit n B1 a) (h2 : Fit n B2 b) : Fit (n + 1) (B1 + B2 + 7) (.tuple [a, b]) ∧ Fit (n + 1) (B1 + B2 + 7) (.list [a, b]) := by
  obtain ⟨a1, a2, a3⟩ := h1
  obtain ⟨b1, b2, b3⟩ := h2
  have e1 := tupleText_len_le (PyData.shownAll [a, b])
  have e2 := listText_len_le (PyData.shownAll [a, b])
  simp only [PyData.shownAll, List.map_cons, List.map_nil, List.sum_cons, List.sum_nil, List.length_cons, List.length_nil] at e1 e2
  constructor
  · refine ⟨by simp only [PyData.depth, PyData.depthAll]; omega, by simp only [PyData.showable, PyData.showableAll, a2, b2]; rfl, ?_⟩
    simp only [PyData.shown, PyData.shownAll]
    omega
  · refine ⟨by simp only [PyData.depth, PyData.depthAll]; omega, by simp only [PyData.showable, PyData.showableAll, a2, b2]; rfl, ?_⟩
    simp only [PyData.shown, PyData.shownAll]
    omega
theorem nine_fit {n B1 B2 : Nat} {a b : PyData} (h1 : Fit n B1 a) (h2 : Fit n B2 b) : Fit (n + 2) (9 * B1 + 2 * B2 + 35) (nineD a b) := by
  obtain ⟨c1, c2, c3⟩ := (pair_fit h1 h2).1
  obtain ⟨a1, a2, a3⟩ := h1
  have e2 := listText_len_le (PyData.shownAll [a, a, .tuple [a, b], a, a, a, .tuple [a, b], a, a])
  simp only [PyData.shownAll.eq_2, PyData.shownAll.eq_1, List.map_cons, List.map_nil, List.sum_cons, List.sum_nil, List.length_cons, List.length_nil] at e2
  refine ⟨?_, ?_, ?_⟩
  · simp only [nineD, PyData.depth.eq_1, PyData.depthAll.eq_2, PyData.depthAll.eq_1]
    omega
  · simp only [nineD, PyData.showable.eq_5, PyData.showableAll.eq_2, PyData.showableAll.eq_1, a2, c2]
    rfl
  · show (listText (PyData.shownAll [a, a, .tuple [a, b], a, a, a, .tuple [a, b], a, a])).length ≤ _
    simp only [PyData.shownAll.eq_2, PyData.shownAll.eq_1]
    omega
end K00

set_option Elab.async false
set_option linter.all false
set_option maxRecDepth 100000
set_option maxHeartbeats 16000000
namespace K00
open PySem PySem.Spec PyProof.Rows L2 Pg
abbrev sLaw : Stmt := topS 22
theorem scLaw : FnScope ["_law_script", "_law_bag_here", "_law_turn", "_law_one", "_law_other", "_law_made_here", "_law_at", "_law_error", "_law_k"] ["_law_script"] (defScope sLaw) := ⟨rfl, rfl, rfl, by decide +kernel, rfl, by decide +kernel, by decide +kernel⟩
def spLaw (K : PySem.W.Frag) : Sp := fun vs H Q _ => ∃ (a : Addr) (ns : List Int), vs = [.ref a] ∧ SqL K H a (ns.map V.int) ∧ ns.length ≤ 63 ∧ ∀ H', Q (.bl true) H'
/-- the bools of kindRow as data -/
def rowD (i : Nat) : List PyData := (List.range 12).map fun j => .bool (decide (j = i) || decide (9 < j))
theorem dpBools {K : PySem.W.Frag} {H : Hp} : ∀ bs : List Bool, DpAll K H (bs.map V.bl) (bs.map .bool)
  | [] => .nil
  | b :: bs => .cons (.bl b) (dpBools bs)
theorem rowDp {K : PySem.W.Frag} {H : Hp} {a : Addr} {i : Nat} (h : H a = some (.lst (kindRow i))) : Dp K H (.ref a) (.list (rowD i)) := by
  have e1 : kindRow i = ((List.range 12).map fun j => (decide (j = i) || decide (9 < j))).map V.bl := by
    unfold kindRow
    rw [List.map_map]
    rfl
  have e2 : rowD i = ((List.range 12).map fun j => (decide (j = i) || decide (9 < j))).map .bool := by
    unfold rowD
    rw [List.map_map]
    rfl
  rw [e2]
  refine .lst (SqL.of ?_) (dpBools _)
  rw [← e1]
  exact h
theorem shBools : ∀ bs : List Bool, PyData.canLayAll0 (bs.map .bool) = true ∧ PyData.depthAll (bs.map .bool) = 0
  | [] => ⟨by simp [PyData.canLayAll0], by simp [PyData.depthAll]⟩
  | b :: bs => by
    obtain ⟨h1, h2⟩ := shBools bs
    exact ⟨by simp [PyData.canLayAll0, PyData.canLay0, h1], by simp [PyData.depthAll, PyData.depth, h2]⟩
theorem rowSh (i : Nat) : SeqAt.shaped (.list (rowD i)) = true ∧ PyData.eqv (.list (rowD i)) (.list (rowD i)) = true := by
  have e2 : rowD i = ((List.range 12).map fun j => (decide (j = i) || decide (9 < j))).map .bool := by
    unfold rowD
    rw [List.map_map]
    rfl
  obtain ⟨h1, h2⟩ := shBools ((List.range 12).map fun j => (decide (j = i) || decide (9 < j)))
  have c : PyData.canLay0 (.list (rowD i)) = true := by
    simp only [PyData.canLay0]
    rw [e2]
    exact h1
  refine ⟨?_, PySem.SeqAt.eqv_refl _ c⟩
  show (PyData.canLay0 (.list (rowD i)) && decide (PyData.depth (.list (rowD i)) ≤ 64)) = true
  rw [c, e2]
  simp only [PyData.depth, h2]
  rfl
/-- what is no list stays -/
def Keep (H H' : Hp) : Prop := ∀ a o, (∀ xs, o ≠ .lst xs) → H a = some o → H' a = some o
theorem Keep.of {H H' : Hp} (s : Same H H') : Keep H H' := fun a o _ h => s a o h
theorem Keep.trans {H H1 H2 : Hp} (x : Keep H H1) (y : Keep H1 H2) : Keep H H2 := fun a o n h => y a o n (x a o n h)
theorem Keep.put {H : Hp} {p : Addr} {xs : List V} {u : HO} (h : H p = some (.lst xs)) : Keep H (upd H p u) := fun a o n e => by
  rw [upd_ne (fun z => by rw [z, h] at e; exact n xs (Option.some.inj e).symm)]
  exact e
theorem Keep.off {H H' : Hp} {b : Addr} {xs : List V} (h : H b = some (.lst xs)) (x : Off b H H') : Keep H H' := fun a o n e => x a o (fun z => by rw [z, h] at e; exact n xs (Option.some.inj e).symm) e
theorem exo_lst {e C : Addr} {d : Option Addr} (xs : List V) : exo e C d ≠ .lst xs := fun z => by
  have z' : HO.ext _ = HO.lst xs := z
  cases z'
theorem exd_lst {e : Addr} {fs : List (Str × V)} (xs : List V) : exd e fs ≠ .lst xs := fun z => by
  have z' : HO.ext _ = HO.lst xs := z
  cases z'
theorem err_keep {H H' : Hp} {e C : Addr} (s : Keep H H') : ∀ {fs : Option (List (Str × V))}, ErrIs H e C fs → ErrIs H' e C fs
  | none, h => s _ _ exo_lst h
  | some _, ⟨d, h1, h2⟩ => ⟨d, s _ _ exo_lst h1, s _ _ exd_lst h2⟩
theorem ten_keep {H H' : Hp} {cs : Nat → Addr} {one other : V} {es : List Addr} (s : Keep H H') (h : Ten H cs one other es) : Ten H' cs one other es := ⟨h.1, fun i e q => err_keep s (h.2 i e q)⟩
theorem bag_lst {H : Hp} {b c : Addr} (x : Bag H b c) : ∃ xs, H b = some (.lst xs) := by
  obtain ⟨h, s, p, cs, y⟩ := x
  exact ⟨_, y.at_⟩
section
variable {P : Program} {w : World} {K : PySem.W.Frag} {mg : Str → Option Value} {base : Heap}
theorem okLaw {f fB fV fT fM fK fP fD fA : Addr} {fd fdB fdV fdT fdM fdK fdP fdD fdA : FuncData} {cs fs : Nat → Addr} {sw : Addr} (F : Fun K "law" "law" sLaw f fd) (C : Cl K mg cs fs sw)
    (GB : FnOk P w K mg base CX0 6 fB fdB ["_law_script"] (spBag K)) (bB : Binds K fdB ["_law_script"] []) (gB : mg "_law_bag" = some (.ref fB)) (kB : PySem.W.keepIn K (.ref fB) = true)
    (GV : FnOk P w K mg base CX0 6 fV fdV ["_law_bag_here", "_law_deep"] (spVal K 4)) (bV : Binds K fdV ["_law_bag_here", "_law_deep"] []) (gV : mg "_law_value" = some (.ref fV)) (kV : PySem.W.keepIn K (.ref fV) = true)
    (GT : FnOk P w K mg base CX0 6 fT fdT ["_law_bag_here", "_law_many"] spTake) (bT : Binds K fdT ["_law_bag_here", "_law_many"] []) (gT : mg "_law_take" = some (.ref fT)) (kT : PySem.W.keepIn K (.ref fT) = true)
    (GM : FnOk P w K mg base CX0 6 fM fdM ["_law_one", "_law_other"] (spMade cs)) (bM : Binds K fdM ["_law_one", "_law_other"] []) (gM : mg "_law_made" = some (.ref fM)) (kM : PySem.W.keepIn K (.ref fM) = true)
    (GK : FnOk P w K mg base CX0 6 fK fdK ["_law_error"] (spKinds cs)) (bK : Binds K fdK ["_law_error"] []) (gK : mg "_law_kinds" = some (.ref fK)) (kK : PySem.W.keepIn K (.ref fK) = true)
    (GP : FnOk P w K mg base CX0 6 fP fdP ["_law_made_here"] (spKept cs)) (bP : Binds K fdP ["_law_made_here"] []) (gP : mg "_law_kept" = some (.ref fP)) (kP : PySem.W.keepIn K (.ref fP) = true)
    (GD : FnOk P w K mg base CX0 6 fD fdD ["_law_one", "_law_other"] spDue) (bD : Binds K fdD ["_law_one", "_law_other"] []) (gD : mg "_law_due" = some (.ref fD)) (kD : PySem.W.keepIn K (.ref fD) = true)
    (GA : FnG P w K mg base 6 fA fdA ["_law_found", "_law_due_here"] (spAlike K)) (bA : Binds K fdA ["_law_found", "_law_due_here"] []) (gA : mg "_law_alike" = some (.ref fA)) (kA : PySem.W.keepIn K (.ref fA) = true)
    (mr : mg "range" = none) (me : mg "enumerate" = none) (ml : mg "len" = none) : FnG P w K mg base 7 f fd ["_law_script"] (spLaw K) := by
  refine okG F scLaw (fun vs H Q E h => ?_) (fun cdv A outer s H vs Q E hg hr h => ?_)
  · obtain ⟨a, _, rfl, _⟩ := h
    rfl
  · obtain ⟨a, ns, rfl, hS, hl, q⟩ := h
    have nd := scLaw.nd
    refine ⟨_, pss_cons (ps_set (i := 1) nd rfl (.inl rfl) (pe_call GB hr (by rfl) gB kB bB .nil pass0 (pa_cons (pv 0) pa_nil)))
      (pss_cons (ps_for PassesOwn.never rfl (pi_range1 (by rfl) mr (pa_cons pe_int pa_nil)) (pg_name (i := 2) nd rfl (Or.inl rfl))
        (pss_cons (ps_par (i := 3) (j := 4) (by rfl) nd rfl rfl (by decide) rfl rfl (pa_cons (pe_call GV hr (by rfl) gV kV bV .nil pass0 (pa_cons (pv 1) (pa_cons pe_int pa_nil))) (pa_cons (pe_call GV hr (by rfl) gV kV bV .nil pass0 (pa_cons (pv 1) (pa_cons pe_int pa_nil))) pa_nil)) (by rfl))
        (pss_cons (ps_set (i := 5) nd rfl (.inl rfl) (pe_call GM hr (by rfl) gM kM bM .nil pass0 (pa_cons (pv 3) (pa_cons (pv 4) pa_nil))))
        (pss_cons (ps_for PassesOwn.never rfl (pi_enum (by rfl) me (pa_cons (pv 5) pa_nil)) (pg_tup rfl (pgs_cons (pg_name (i := 6) nd rfl (.inr rfl)) (pgs_cons (pg_name (i := 7) nd rfl (.inl rfl)) pgs_nil)))
          (pss_one (ps_if (pt_cmpR (op_neD hr.units) (pe_call GK hr (by rfl) gK kK bK .nil pass0 (pa_cons (pv 7) pa_nil))
            (pe_lc (own := [("_law_k", 8)]) (g := gName 8) (tt := tYes) rfl nd (pi_range1 (by rfl) mr (pa_cons pe_int pa_nil))
              (blkOk_by (N := ["_law_script", "_law_bag_here", "_law_turn", "_law_one", "_law_other", "_law_made_here", "_law_at", "_law_error", "_law_k"]) (sc := defScope sLaw) (by decide +kernel))
              (fun _ _ _ _ _ => pg_name (i := 8) nd rfl (Or.inl rfl)) (fun _ _ _ _ _ => pts_nil)
              (fun _ _ _ _ _ => pe_or (pe_cmpR op_eq (pv 8) (pv 6) (nomark _)) (pe_one (pe_cmpR op_gt (pv 8) pe_int (nomark _))))) (nomark _)) (pss_one (ps_ret pe_bl)) pss_nil)))
        (pss_one (ps_if (pt_not (pt_val (callG GA hg hr (by rfl) gA kA bA (pa_cons (pe_call GP hr (by rfl) gP kP bP .nil pass0 (pa_cons (pv 5) pa_nil)) (pa_cons (pe_call GD hr (by rfl) gD kD bD .nil pass0 (pa_cons (pv 3) (pa_cons (pv 4) pa_nil))) pa_nil)))))
          (pss_one (ps_ret pe_bl)) pss_nil))))))
      (pss_cons (ps_par (i := 3) (j := 4) (by rfl) nd rfl rfl (by decide) rfl rfl (pa_cons (pe_lst (pa_cons (pe_call GT hr (by rfl) gT kT bT .nil pass0 (pa_cons (pv 1) (pa_cons pe_int pa_nil))) pa_nil))
          (pa_cons (pe_lst (pa_cons (pe_call GV hr (by rfl) gV kV bV .nil pass0 (pa_cons (pv 1) (pa_cons pe_int pa_nil))) pa_nil)) pa_nil)) (by rfl))
      (pss_cons (ps_set (i := 5) nd rfl (.inl rfl) (pe_call GM hr (by rfl) gM kM bM .nil pass0 (pa_cons (pv 3) (pa_cons (pv 4) pa_nil))))
      (pss_cons (ps_expr (pe_bm PySem.F.plainAttrs_list PySem.F.slot_list_append PySem.F.type_list_append mt_append (pv 3) (pa_cons pe_int pa_nil)))
      (pss_cons (ps_expr (pe_bm PySem.F.plainAttrs_list PySem.F.slot_list_append PySem.F.type_list_append mt_append (pv 4) (pa_cons (pv 3) pa_nil)))
      (pss_cons (ps_if (pt_not (pt_val (callG GA hg hr (by rfl) gA kA bA (pa_cons (pe_call GP hr (by rfl) gP kP bP .nil pass0 (pa_cons (pv 5) pa_nil))
          (pa_cons (pe_call GD hr (by rfl) gD kD bD .nil pass0 (pa_cons (pe_lst (pa_cons (pe_ix ix_list (pv 3) pe_int (fun _ _ => rfl)) (pa_cons pe_int pa_nil)))
            (pa_cons (pe_lst (pa_cons (pe_ix ix_list (pv 4) pe_int (fun _ _ => rfl)) (pa_cons (pe_lst (pa_cons (pe_ix ix_list (pv 3) pe_int (fun _ _ => rfl)) (pa_cons pe_int pa_nil))) pa_nil))) pa_nil))) pa_nil)))))
        (pss_one (ps_ret pe_bl)) pss_nil)
      (pss_cons (ps_expr (pe_bm PySem.F.plainAttrs_list PySem.F.slot_list_append PySem.F.type_list_append mt_append (pe_xv (pe_ix ix_list (pv 5) pe_int (fun _ _ => rfl))) (pa_cons (pe_call GT hr (by rfl) gT kT bT .nil pass0 (pa_cons (pv 1) (pa_cons pe_int pa_nil))) pa_nil)))
      (pss_one (ps_ret (pe_and (pe_cmpR op_eq (pe_callB call_len_seq (by rfl) ml PySem.boot_len (pa_cons (pv 4) pa_nil)) pe_int (nomark _))
        (pe_one (pe_cmpR op_eq (pe_callB call_len_seq (by rfl) ml PySem.boot_len (pa_cons (pe_xv (pe_ix ix_list (pv 5) pe_int (fun _ _ => rfl))) pa_nil)) pe_int (nomark _))))))))))))), ?_⟩
    -- the bag
    refine ⟨.ref a, rfl, a, ns, rfl, hS, hl, fun H1 b c s1 nb nc hB => ?_⟩
    refine ⟨6, rfl, by decide, by decide, for_range (n := 6) (fun i σ H' => ∃ x2 x3 x4 x5 x6 x7 x8, σ = [some (.ref a), some (.ref b), x2, x3, x4, x5, x6, x7, x8] ∧ Bag H' b c) ⟨none, none, none, none, none, none, none, rfl, hB⟩ (fun i σ H2 hi hP => ?_) (fun σ H2 hP => ?_)⟩
    · -- a turn
      obtain ⟨x2, x3, x4, x5, x6, x7, x8, rfl, hB2⟩ := hP
      obtain ⟨u2, hu2⟩ := hB2.there
      refine ⟨.ref b, rfl, b, c, 3, rfl, hB2, by decide, by decide, fun H3 one d1 o3 B3 h1 k1 => ⟨.ref b, rfl, b, c, 3, rfl, B3, by decide, by decide, fun H4 other d2 o4 B4 h2 k2 => ⟨one, other, rfl, ?_⟩⟩⟩
      have D1 : Dd K H4 one d1 := Dd.up ((newer_off hu2 o4).trans (newer_same _ _)) d1 one h1
      have D2 : Dd K H4 other d2 := Dd.up (newer_same _ _) d2 other h2
      refine ⟨one, rfl, other, rfl, one, other, rfl, fun H5 p es s5 np hp T => ?_⟩
      refine ⟨.ref p, rfl, p, es.map V.ref, rfl, SqL.of hp, fun j m σ H6 => ∃ y6 y7 y8, σ = [some (.ref a), some (.ref b), some (.int (0 + i)), some one, some other, some (.ref p), y6, y7, y8] ∧ j + m = 10 ∧ Same H5 H6,
        ⟨10, x6, x7, x8, rfl, by omega, Same.refl _⟩, fun j m σ H6 hW => ?_⟩
      obtain ⟨y6, y7, y8, rfl, em, s6⟩ := hW
      by_cases hj : j < 10
      · obtain ⟨e, he, hE⟩ := look_at T hj
        have hme : (es.map V.ref)[j]? = some (.ref e) := by rw [List.getElem?_map, he] <;> rfl
        refine .inr ⟨⟨es.map V.ref, .ref e, SqL.of (s6 _ _ hp), hme⟩, fun σ' H' => ∃ y6 y7 y8, σ' = [some (.ref a), some (.ref b), some (.int (0 + i)), some one, some other, some (.ref p), y6, y7, y8] ∧ j + 1 + (m - 1) = 10 ∧ Same H5 H', fun σ' H' hN => ⟨m - 1, by omega, hN⟩, fun x H' hy => ?_⟩
        obtain ⟨t, z, rfl, nt, rfl, hz⟩ := hy
        have ez : z = .ref e := Option.some.inj ((hz _ (SqL.of (s6 _ _ hp))).symm.trans hme)
        subst ez
        have st : Same H5 (upd H6 t (.tup [.int j, .ref e])) := same_new s6 nt
        refine ⟨t, [.int j, .ref e], rfl, SqT.of upd_same, rfl, .int j, [.ref e], rfl, .ref e, [], rfl, rfl, ?_⟩
        refine ⟨.ref e, rfl, e, j, fieldsOf one other j, rfl, hj, hE.same st, fun H7 r s7 hr7 => ?_⟩
        refine ⟨12, rfl, by decide, by decide, lcr (fun D k H8 => Same H7 H8 ∧ H8 D = some (.lst ((List.range k).map fun n => V.bl (decide (n = j) || decide (9 < n))))) fun D nD => ⟨⟨?_, ?_⟩, fun k H8 hk hP => ?_, fun H8 hP => ?_⟩⟩
        · exact same_new (Same.refl H7) nD
        · rw [upd_same]
          rfl
        · obtain ⟨s8, e8⟩ := hP
          have fin : ∀ y : V, y = V.bl (decide (k = j) || decide (9 < k)) → ∃ acc, H8 D = some (.lst acc) ∧ acc.length < sizeLine ∧ Same H7 (upd H8 D (.lst (acc ++ [y]))) ∧ upd H8 D (.lst (acc ++ [y])) D = some (.lst ((List.range (k + 1)).map fun n => V.bl (decide (n = j) || decide (9 < n)))) := fun y ey => by
            refine ⟨_, e8, ?_, fun a' o e' => ?_, ?_⟩
            · rw [List.length_map, List.length_range]
              have := sizeLine_eq
              have hk' : k < 12 := hk
              omega
            · rw [upd_ne (ne_of_none e' nD)]
              exact s8 a' o e'
            · rw [upd_same, List.range_succ, List.map_append, ey]
              rfl
          refine ⟨rfl, .int (0 + k), rfl, .int j, rfl, rfl, _, rfl, ite2 (fun c1 => ?_) (fun c1 => ?_)⟩
          · have c2 : (0 : Int) + k = j := V.int.inj (of_decide_eq_true c1)
            exact fin _ (by rw [decide_eq_true (show k = j by omega), Bool.true_or])
          · have c2 : ¬ k = j := fun z => c1 (by rw [z]; exact decide_eq_true (by rw [Int.zero_add]))
            refine ⟨.int (0 + k), rfl, _, _, rfl, rfl, fin _ ?_⟩
            rw [decide_eq_false c2, Bool.false_or]
            exact congrArg V.bl (show decide ((9 : Int) < 0 + (k : Int)) = decide (9 < k) from decide_eq_decide.mpr (by omega))
        · obtain ⟨s8, e8⟩ := hP
          refine ⟨.list (rowD j), .list (rowD j), rowDp (s8 _ _ hr7), rowDp e8, (rowSh j).1, (rowSh j).1, _, rfl, ?_⟩
          rw [(rowSh j).2]
          exact iteF ⟨_, _, _, rfl, by omega, st.trans (s7.trans s8)⟩
      · -- what they keep
        refine .inl ⟨⟨es.map V.ref, SqL.of (s6 _ _ hp), by rw [List.length_map, T.1]; omega⟩, ?_⟩
        refine ⟨.ref p, rfl, p, es, one, other, rfl, s6 _ _ hp, T.same s6, fun H7 r p1 q1 s7 hr1 hp1 hq1 => ?_⟩
        refine ⟨one, rfl, other, rfl, one, other, rfl, fun H8 r2 p2 q2 s8 hr2 hp2 hq2 => ?_⟩
        have up : Same H4 H8 := ((s5.trans s6).trans s7).trans s8
        have E1 := Dd.up up d1 one D1
        have E2 := Dd.up up d2 other D2
        have ft := nine_fit k1.fit k2.fit
        refine ⟨.ref r, .ref r2, nineD d1 d2, rfl, nine_is E1 E2 (s8 _ _ hr1) (s8 _ _ hp1) (s8 _ _ hq1), nine_is E1 E2 hr2 hp2 hq2, ⟨Nat.le_trans ft.1 (by decide), ft.2.1, Nat.le_trans ft.2.2 (by decide)⟩, true, rfl, ?_⟩
        exact iteF ⟨_, _, _, _, _, _, _, rfl, B4.same up⟩
    · -- the objects themselves
      obtain ⟨x2, x3, x4, x5, x6, x7, x8, rfl, hB2⟩ := hP
      refine ⟨.ref b, rfl, b, c, 9, rfl, hB2, by decide, by decide, fun H3 n o3 B3 n0 n1 => ⟨by show 1 ≤ sizeLine; decide, fun p1 np1 => ?_⟩⟩
      have B3' := B3.new (o := .lst [.int n]) np1
      have a1 := B3.apart np1
      refine ⟨.ref b, rfl, b, c, 1, rfl, B3', by decide, by decide, fun H4 v dv o4 B4 hv kv => ⟨by show 1 ≤ sizeLine; decide, fun p2 np2 => ⟨.ref p1, .ref p2, rfl, ?_⟩⟩⟩
      have e41 : H4 p1 = some (.lst [.int n]) := o4 _ _ a1.1 upd_same
      have a2 := B4.apart np2
      have d12 : p1 ≠ p2 := ne_of_none e41 np2
      have e51 : upd H4 p2 (.lst [v]) p1 = some (.lst [.int n]) := by rw [upd_ne d12]; exact e41
      refine ⟨.ref p1, rfl, .ref p2, rfl, .ref p1, .ref p2, rfl, fun H6 pm es s6 nm hpm T => ?_⟩
      have e61 := s6 _ _ e51
      have e62 := s6 _ _ (upd_same (H := H4) (a := p2) (o := .lst [v]))
      have m1 : p1 ≠ pm := ne_of_none e51 nm
      have m2 : p2 ≠ pm := ne_of_none upd_same nm
      refine ⟨.ref p1, rfl, .inl ⟨rfl, _, SqL.of e61⟩, p1, [.int n], .int 7, rfl, rfl, e61, by show 1 < sizeLine; decide, ?_⟩
      have e72 : upd H6 p1 (.lst ([.int n] ++ [.int 7])) p2 = some (.lst [v]) := by rw [upd_ne d12.symm]; exact e62
      refine ⟨.ref p2, rfl, .inl ⟨rfl, _, SqL.of e72⟩, .ref p1, rfl, p2, [v], .ref p1, rfl, rfl, e72, by show 1 < sizeLine; decide, ?_⟩
      -- behind both appends
      generalize hH8 : upd (upd H6 p1 (.lst ([.int n] ++ [.int 7]))) p2 (.lst ([v] ++ [.ref p1])) = H8
      have keep68 : Keep H6 H8 := by
        rw [← hH8]
        exact (Keep.put e61).trans (Keep.put e72)
      have T8 := ten_keep keep68 T
      have q1 : H8 p1 = some (.lst [.int n, .int 7]) := by
        rw [← hH8, upd_ne d12]
        exact upd_same
      have q2 : H8 p2 = some (.lst [v, .ref p1]) := by
        rw [← hH8]
        exact upd_same
      have qm : H8 pm = some (.lst (es.map V.ref)) := by
        rw [← hH8, upd_ne m2.symm, upd_ne m1.symm]
        exact hpm
      have B8 : Bag H8 b c := by
        rw [← hH8]
        exact (((B4.new np2).same s6).upd a1.1 a1.2).upd a2.1 a2.2
      have n24 : upd H3 p1 (.lst [.int n]) p2 = none := by
        obtain ⟨u4, hu4⟩ := B4.there
        exact off_free o4 hu4 p2 np2
      have v8 : Dd K H8 v dv := by
        refine Dd.up (fun a' o h => ?_) dv v hv
        obtain ⟨f1, f2⟩ := of_newer h
        have f3 : a' ≠ p1 := fun z => by
          rw [z, upd_same] at f1
          cases f1
        have f4 : a' ≠ p2 := ne_of_none f2 np2
        rw [← hH8, upd_ne f4, upd_ne f3]
        exact s6 _ _ (by rw [upd_ne f4]; exact f2)
      refine ⟨.ref pm, rfl, pm, es, .ref p1, .ref p2, rfl, qm, T8, fun H9 r t1 t2 s9 hr1 ht1 ht2 => ?_⟩
      refine ⟨.ref p1, rfl, p1, [.int n, .int 7], 0, .int n, rfl, rfl, SqL.of (s9 _ _ q1), rfl, by show 2 ≤ sizeLine; decide, fun v1 nv1 => ?_⟩
      have sv1 : Same H8 (upd H9 v1 (.lst [.int n, .int 7])) := same_new s9 nv1
      refine ⟨.ref p2, rfl, p2, [v, .ref p1], 0, v, rfl, rfl, SqL.of (sv1 _ _ q2), rfl, .ref p1, rfl, p1, [.int n, .int 7], 0, .int n, rfl, rfl, SqL.of (sv1 _ _ q1), rfl, by show 2 ≤ sizeLine; decide, fun v2 nv2 => ⟨by show 2 ≤ sizeLine; decide, fun v3 nv3 => ?_⟩⟩
      have g12 : v1 ≠ v2 := ne_of_none upd_same nv2
      have g23 : v2 ≠ v3 := ne_of_none upd_same nv3
      have g13 : v1 ≠ v3 := ne_of_none (by rw [upd_ne g12]; exact upd_same) nv3
      have sv3 := same_new (o := .lst [v, .ref v2]) (same_new (o := .lst [.int n, .int 7]) sv1 nv2) nv3
      have sr3 := same_new (o := .lst [v, .ref v2]) (same_new (o := .lst [.int n, .int 7]) (same_new (o := .lst [.int n, .int 7]) (Same.refl H9) nv1) nv2) nv3
      refine ⟨.ref v1, .ref v3, rfl, fun H10 r2 t3 t4 s10 hr2 ht3 ht4 => ?_⟩
      have up : Same H8 H10 := sv3.trans s10
      have w1 : H10 v1 = some (.lst [.int n, .int 7]) := s10 _ _ (by rw [upd_ne g13, upd_ne g12]; exact upd_same)
      have w2 : H10 v2 = some (.lst [.int n, .int 7]) := s10 _ _ (by rw [upd_ne g23]; exact upd_same)
      have w3 : H10 v3 = some (.lst [v, .ref v2]) := s10 _ _ upd_same
      have seven : ∀ p : Addr, H10 p = some (.lst [.int n, .int 7]) → Dd K H10 (.ref p) (.list [.int n, .int 7]) := fun p h => .lst (SqL.of h) (.cons (.int n) (.cons (.int 7) .nil))
      have V10 := Dd.up up dv v v8
      have E1 := seven p1 (up _ _ q1)
      have E2 : Dd K H10 (.ref p2) (.list [dv, .list [.int n, .int 7]]) := .lst (SqL.of (up _ _ q2)) (.cons V10 (.cons E1 .nil))
      have E3 := seven v1 w1
      have E4 : Dd K H10 (.ref v3) (.list [dv, .list [.int n, .int 7]]) := .lst (SqL.of w3) (.cons V10 (.cons (seven v2 w2) .nil))
      have f7 : Fit 4 20000 (.list [.int n, .int 7]) := by
        have i1 : Fit 0 13 (.int n) := ⟨by simp only [PyData.depth]; omega, (Ok.int (n := 0) (by have : n < 9 := n1; omega)).fit.2.1, PyData.shown_int_le (by have : n < 9 := n1; omega)⟩
        have i2 : Fit 0 13 (.int 7) := ⟨by simp only [PyData.depth]; omega, (Ok.int (n := 0) (by decide)).fit.2.1, PyData.shown_int_le (by decide)⟩
        have p7 := (pair_fit i1 i2).2
        exact ⟨Nat.le_trans p7.1 (by decide), p7.2.1, Nat.le_trans p7.2.2 (by decide)⟩
      have f8 : Fit 5 (4000 * 4 ^ 4 + 20000 + 7) (.list [dv, .list [.int n, .int 7]]) := (pair_fit kv.fit f7).2
      have ft := nine_fit (n := 5) ⟨Nat.le_trans f7.1 (by decide), f7.2⟩ f8
      refine ⟨.ref r, .ref r2, nineD (.list [.int n, .int 7]) (.list [dv, .list [.int n, .int 7]]), rfl, nine_is E1 E2 (s10 _ _ (sr3 _ _ hr1)) (s10 _ _ (sr3 _ _ ht1)) (s10 _ _ (sr3 _ _ ht2)), nine_is E3 E4 hr2 ht3 ht4,
        ⟨Nat.le_trans ft.1 (by decide), ft.2.1, Nat.le_trans ft.2.2 (by decide)⟩, true, rfl, ?_⟩
      refine iteF ?_
      -- the very list is kept
      have T10 := T8.same up
      have B10 := B8.same up
      obtain ⟨x2, z2, y1, y2, y3⟩ := err_at 2 T10 (by decide) rfl
      refine ⟨.ref pm, rfl, pm, es.map V.ref, 2, .ref x2, rfl, rfl, SqL.of (up _ _ qm), at_of (j := 2) rfl y1, x2, cs 2, z2, _, .ref p2, rfl, (C.cls 2 (by decide)).fld, C.n2b, y2, y3, rfl, .inl ⟨rfl, _, SqL.of (up _ _ q2)⟩, ?_⟩
      refine ⟨.ref b, rfl, b, c, 9, rfl, B10, by decide, by decide, fun H11 n2 o11 B11 _ _ => ?_⟩
      have l11 : H11 p2 = some (.lst [v, .ref p1]) := o11 _ _ a2.1 (up _ _ q2)
      refine ⟨p2, [v, .ref p1], .int n2, rfl, rfl, l11, by show 2 < sizeLine; decide, ?_⟩
      obtain ⟨bs, hbs⟩ := bag_lst B10
      have T12 := ten_keep ((Keep.off hbs o11).trans (Keep.put (u := .lst ([v, .ref p1] ++ [.int n2])) l11)) T10
      have pmb : pm ≠ b := by
        have nb' : Bag (upd H4 p2 (.lst [v])) b c := B4.new np2
        exact (nb'.apart nm).1
      have m12 : upd H11 p2 (.lst ([v, .ref p1] ++ [.int n2])) pm = some (.lst (es.map V.ref)) := by
        rw [upd_ne m2.symm]
        exact o11 _ _ pmb (up _ _ qm)
      refine ⟨.ref p2, rfl, p2, [v, .ref p1, .int n2], rfl, .inl (SqL.of upd_same), rfl, _, rfl, ?_⟩
      obtain ⟨x6, z6, j1, j2, j3⟩ := err_at 6 T12 (by decide) rfl
      rw [if_pos (decide_eq_true (by rfl))]
      refine ⟨.ref pm, rfl, pm, es.map V.ref, 6, .ref x6, rfl, rfl, SqL.of m12, at_of (j := 6) rfl j1, x6, cs 6, z6, _, .ref p2, rfl, (C.cls 6 (by decide)).fld, C.n6b, j2, j3, rfl, p2, [v, .ref p1, .int n2], rfl, .inl (SqL.of upd_same), rfl, ?_⟩
      rw [show decide (V.int (([v, V.ref p1, V.int n2].length : Nat) : Int) = V.int 3) = true from decide_eq_true rfl]
      exact q _
end
end K00

set_option Elab.async false
set_option linter.all false
set_option maxRecDepth 100000
set_option maxHeartbeats 16000000
namespace K00
open PySem PySem.Spec PyProof.Rows L2 Pg
/-- what the top has written; the law's own head -/
theorem all_mk {P : Program} {w : World} {K : PySem.W.Frag} {h : Heap} {mg : Str → Option Value} {fa : Addr} (X : K.In h) (G : h.Ns mainGlobals mg) (hfa : mg "law" = some (.ref fa))
    {sw C0 C1 C2 C3 C4 C5 C6 C7 C8 C9 I0 I1 I2 I3 I4 I5 I6 I7 I8 I9 : Addr}
    {nm0 qn0 : Str} {N0 : Addr} {bs0 : List Value} {sn0 : List Str} {sub0 : List Value} {ab0 : Bool} {col0 : Option Bool} {dd0 : Option Addr} {m00 m10 m20 m30 m50 : Option Value}
    {od0 an0 : Option Addr} {sl0 : Array (Option Value)} {oc0 kV0 dc0 pm0 cd0 ct0 : Value}
    {nm1 qn1 : Str} {N1 : Addr} {bs1 : List Value} {sn1 : List Str} {sub1 : List Value} {ab1 : Bool} {col1 : Option Bool} {dd1 : Option Addr} {m01 m11 m21 m31 m51 : Option Value}
    {od1 an1 : Option Addr} {sl1 : Array (Option Value)} {oc1 kV1 dc1 pm1 cd1 ct1 : Value}
    {nm2 qn2 : Str} {N2 : Addr} {bs2 : List Value} {sn2 : List Str} {sub2 : List Value} {ab2 : Bool} {col2 : Option Bool} {dd2 : Option Addr} {m02 m12 m22 m32 m52 : Option Value}
    {od2 an2 : Option Addr} {sl2 : Array (Option Value)} {oc2 kV2 dc2 pm2 cd2 ct2 : Value}
    {nm3 qn3 : Str} {N3 : Addr} {bs3 : List Value} {sn3 : List Str} {sub3 : List Value} {ab3 : Bool} {col3 : Option Bool} {dd3 : Option Addr} {m03 m13 m23 m33 m53 : Option Value}
    {od3 an3 : Option Addr} {sl3 : Array (Option Value)} {oc3 kV3 dc3 pm3 cd3 ct3 : Value}
    {nm4 qn4 : Str} {N4 : Addr} {bs4 : List Value} {sn4 : List Str} {sub4 : List Value} {ab4 : Bool} {col4 : Option Bool} {dd4 : Option Addr} {m04 m14 m24 m34 m54 : Option Value}
    {od4 an4 : Option Addr} {sl4 : Array (Option Value)} {oc4 kV4 dc4 pm4 cd4 ct4 : Value}
    {nm5 qn5 : Str} {N5 : Addr} {bs5 : List Value} {sn5 : List Str} {sub5 : List Value} {ab5 : Bool} {col5 : Option Bool} {dd5 : Option Addr} {m05 m15 m25 m35 m55 : Option Value}
    {od5 an5 : Option Addr} {sl5 : Array (Option Value)} {oc5 kV5 dc5 pm5 cd5 ct5 : Value}
    {nm6 qn6 : Str} {N6 : Addr} {bs6 : List Value} {sn6 : List Str} {sub6 : List Value} {ab6 : Bool} {col6 : Option Bool} {dd6 : Option Addr} {m06 m16 m26 m36 m56 : Option Value}
    {od6 an6 : Option Addr} {sl6 : Array (Option Value)} {oc6 kV6 dc6 pm6 cd6 ct6 : Value}
    {nm7 qn7 : Str} {N7 : Addr} {bs7 : List Value} {sn7 : List Str} {sub7 : List Value} {ab7 : Bool} {col7 : Option Bool} {dd7 : Option Addr} {m07 m17 m27 m37 m57 : Option Value}
    {od7 an7 : Option Addr} {sl7 : Array (Option Value)} {oc7 kV7 dc7 pm7 cd7 ct7 : Value}
    {nm8 qn8 : Str} {N8 : Addr} {bs8 : List Value} {sn8 : List Str} {sub8 : List Value} {ab8 : Bool} {col8 : Option Bool} {dd8 : Option Addr} {m08 m18 m28 m38 m58 : Option Value}
    {od8 an8 : Option Addr} {sl8 : Array (Option Value)} {oc8 kV8 dc8 pm8 cd8 ct8 : Value}
    {nm9 qn9 : Str} {N9 : Addr} {bs9 : List Value} {sn9 : List Str} {sub9 : List Value} {ab9 : Bool} {col9 : Option Bool} {dd9 : Option Addr} {m09 m19 m29 m39 m59 : Option Value}
    {od9 an9 : Option Addr} {sl9 : Array (Option Value)} {oc9 kV9 dc9 pm9 cd9 ct9 : Value}
    {fBag : Addr} {odBag anBag : Option Addr} {slBag : Array (Option Value)} {ocBag kVBag dcBag pmBag cdBag ctBag : Value}
    {fTake : Addr} {odTake anTake : Option Addr} {slTake : Array (Option Value)} {ocTake kVTake dcTake pmTake cdTake ctTake : Value}
    {fSome : Addr} {odSome anSome : Option Addr} {slSome : Array (Option Value)} {ocSome kVSome dcSome pmSome cdSome ctSome : Value}
    {fAlike : Addr} {odAlike anAlike : Option Addr} {slAlike : Array (Option Value)} {ocAlike kVAlike dcAlike pmAlike cdAlike ctAlike : Value}
    {fValue : Addr} {odValue anValue : Option Addr} {slValue : Array (Option Value)} {ocValue kVValue dcValue pmValue cdValue ctValue : Value}
    {fKinds : Addr} {odKinds anKinds : Option Addr} {slKinds : Array (Option Value)} {ocKinds kVKinds dcKinds pmKinds cdKinds ctKinds : Value}
    {fMade : Addr} {odMade anMade : Option Addr} {slMade : Array (Option Value)} {ocMade kVMade dcMade pmMade cdMade ctMade : Value}
    {fKept : Addr} {odKept anKept : Option Addr} {slKept : Array (Option Value)} {ocKept kVKept dcKept pmKept cdKept ctKept : Value}
    {fDue : Addr} {odDue anDue : Option Addr} {slDue : Array (Option Value)} {ocDue kVDue dcDue pmDue cdDue ctDue : Value}
    {fLaw : Addr} {odLaw anLaw : Option Addr} {slLaw : Array (Option Value)} {ocLaw kVLaw dcLaw pmLaw cdLaw ctLaw : Value}
    (sA : PySem.W.nsIn K mainGlobals "SwornError" = some (some (.ref sw)))
    (xA0 : PySem.W.nsIn K mainGlobals "NoCommand" = some (some (.ref C0)))
    (xL0 : K.lookup C0 = some (excClassObj nm0 qn0 C0 N0 bs0 [.ref sw, .type "ValueError", .type "Exception", .type "BaseException", .type "object"] true sn0 sub0 ab0 col0 dd0 m00 m10 m20 m30 m50 "ValueError.__new__"))
    (xs0 : PySem.W.findIn K (.ref C0) "__setattr__" = some (some (.builtin "object.__setattr__")))
    (xg0 : PySem.W.findIn K (.ref C0) "__getattribute__" = some (some (.builtin "BaseException.__getattribute__")))
    (xh0 : PySem.W.findIn K (.ref C0) "__getattr__" = some none)
    (xc0 : PySem.W.findIn K (.ref C0) "__class__" = some (some (.builtin "object.__class__")))
    (xf0a : PySem.W.findIn K (.ref C0) "line" = some none)
    (xi0 : PySem.W.findIn K (.ref C0) "__init__" = some (some (.ref I0)))
    (xt0 : PySem.W.typeIn K (.ref I0) = some (.type "function"))
    (xl0 : K.lookup I0 = some ⟨oc0, od0, .func (PySem.W.fnOf "__init__" "NoCommand.__init__" (defArgs sI0) (defBody sI0) (defScope sI0) .none kV0 dc0 pm0 an0 cd0 ct0), sl0⟩)
    (xd0 : PySem.W.codeIn K cd0 "NoCommand.__init__" = true)
    (xk0 : PySem.W.keepIn K (.ref I0) = true)
    (yk0 : PySem.W.keepIn K (.ref C0) = true)
    (ye0 : PySem.W.subIn K (.ref C0) (.type "BaseException") = some true)
    (yt0 : PySem.W.typeIn K (.ref C0) = some (.type "type"))
    (yh0 : PySem.W.hasDictIn K C0 = true)
    (yc0 : PySem.W.isClsIn K C0 = true)
    (ym0 : PySem.W.mroIn K C0 (.type "object") = some true)
    (xA1 : PySem.W.nsIn K mainGlobals "NoGroup" = some (some (.ref C1)))
    (xL1 : K.lookup C1 = some (excClassObj nm1 qn1 C1 N1 bs1 [.ref sw, .type "ValueError", .type "Exception", .type "BaseException", .type "object"] true sn1 sub1 ab1 col1 dd1 m01 m11 m21 m31 m51 "ValueError.__new__"))
    (xs1 : PySem.W.findIn K (.ref C1) "__setattr__" = some (some (.builtin "object.__setattr__")))
    (xg1 : PySem.W.findIn K (.ref C1) "__getattribute__" = some (some (.builtin "BaseException.__getattribute__")))
    (xh1 : PySem.W.findIn K (.ref C1) "__getattr__" = some none)
    (xc1 : PySem.W.findIn K (.ref C1) "__class__" = some (some (.builtin "object.__class__")))
    (xf1a : PySem.W.findIn K (.ref C1) "group" = some none)
    (xi1 : PySem.W.findIn K (.ref C1) "__init__" = some (some (.ref I1)))
    (xt1 : PySem.W.typeIn K (.ref I1) = some (.type "function"))
    (xl1 : K.lookup I1 = some ⟨oc1, od1, .func (PySem.W.fnOf "__init__" "NoGroup.__init__" (defArgs sI1) (defBody sI1) (defScope sI1) .none kV1 dc1 pm1 an1 cd1 ct1), sl1⟩)
    (xd1 : PySem.W.codeIn K cd1 "NoGroup.__init__" = true)
    (xk1 : PySem.W.keepIn K (.ref I1) = true)
    (yk1 : PySem.W.keepIn K (.ref C1) = true)
    (ye1 : PySem.W.subIn K (.ref C1) (.type "BaseException") = some true)
    (yt1 : PySem.W.typeIn K (.ref C1) = some (.type "type"))
    (yh1 : PySem.W.hasDictIn K C1 = true)
    (yc1 : PySem.W.isClsIn K C1 = true)
    (ym1 : PySem.W.mroIn K C1 (.type "object") = some true)
    (xA2 : PySem.W.nsIn K mainGlobals "NoPlace" = some (some (.ref C2)))
    (xL2 : K.lookup C2 = some (excClassObj nm2 qn2 C2 N2 bs2 [.ref sw, .type "ValueError", .type "Exception", .type "BaseException", .type "object"] true sn2 sub2 ab2 col2 dd2 m02 m12 m22 m32 m52 "ValueError.__new__"))
    (xs2 : PySem.W.findIn K (.ref C2) "__setattr__" = some (some (.builtin "object.__setattr__")))
    (xg2 : PySem.W.findIn K (.ref C2) "__getattribute__" = some (some (.builtin "BaseException.__getattribute__")))
    (xh2 : PySem.W.findIn K (.ref C2) "__getattr__" = some none)
    (xc2 : PySem.W.findIn K (.ref C2) "__class__" = some (some (.builtin "object.__class__")))
    (xf2a : PySem.W.findIn K (.ref C2) "process" = some none)
    (xf2b : PySem.W.findIn K (.ref C2) "page" = some none)
    (xi2 : PySem.W.findIn K (.ref C2) "__init__" = some (some (.ref I2)))
    (xt2 : PySem.W.typeIn K (.ref I2) = some (.type "function"))
    (xl2 : K.lookup I2 = some ⟨oc2, od2, .func (PySem.W.fnOf "__init__" "NoPlace.__init__" (defArgs sI2) (defBody sI2) (defScope sI2) .none kV2 dc2 pm2 an2 cd2 ct2), sl2⟩)
    (xd2 : PySem.W.codeIn K cd2 "NoPlace.__init__" = true)
    (xk2 : PySem.W.keepIn K (.ref I2) = true)
    (yk2 : PySem.W.keepIn K (.ref C2) = true)
    (ye2 : PySem.W.subIn K (.ref C2) (.type "BaseException") = some true)
    (yt2 : PySem.W.typeIn K (.ref C2) = some (.type "type"))
    (yh2 : PySem.W.hasDictIn K C2 = true)
    (yc2 : PySem.W.isClsIn K C2 = true)
    (ym2 : PySem.W.mroIn K C2 (.type "object") = some true)
    (xA3 : PySem.W.nsIn K mainGlobals "NoProcess" = some (some (.ref C3)))
    (xL3 : K.lookup C3 = some (excClassObj nm3 qn3 C3 N3 bs3 [.ref sw, .type "ValueError", .type "Exception", .type "BaseException", .type "object"] true sn3 sub3 ab3 col3 dd3 m03 m13 m23 m33 m53 "ValueError.__new__"))
    (xs3 : PySem.W.findIn K (.ref C3) "__setattr__" = some (some (.builtin "object.__setattr__")))
    (xg3 : PySem.W.findIn K (.ref C3) "__getattribute__" = some (some (.builtin "BaseException.__getattribute__")))
    (xh3 : PySem.W.findIn K (.ref C3) "__getattr__" = some none)
    (xc3 : PySem.W.findIn K (.ref C3) "__class__" = some (some (.builtin "object.__class__")))
    (xf3a : PySem.W.findIn K (.ref C3) "process" = some none)
    (xi3 : PySem.W.findIn K (.ref C3) "__init__" = some (some (.ref I3)))
    (xt3 : PySem.W.typeIn K (.ref I3) = some (.type "function"))
    (xl3 : K.lookup I3 = some ⟨oc3, od3, .func (PySem.W.fnOf "__init__" "NoProcess.__init__" (defArgs sI3) (defBody sI3) (defScope sI3) .none kV3 dc3 pm3 an3 cd3 ct3), sl3⟩)
    (xd3 : PySem.W.codeIn K cd3 "NoProcess.__init__" = true)
    (xk3 : PySem.W.keepIn K (.ref I3) = true)
    (yk3 : PySem.W.keepIn K (.ref C3) = true)
    (ye3 : PySem.W.subIn K (.ref C3) (.type "BaseException") = some true)
    (yt3 : PySem.W.typeIn K (.ref C3) = some (.type "type"))
    (yh3 : PySem.W.hasDictIn K C3 = true)
    (yc3 : PySem.W.isClsIn K C3 = true)
    (ym3 : PySem.W.mroIn K C3 (.type "object") = some true)
    (xA4 : PySem.W.nsIn K mainGlobals "NoSnapshot" = some (some (.ref C4)))
    (xL4 : K.lookup C4 = some (excClassObj nm4 qn4 C4 N4 bs4 [.ref sw, .type "ValueError", .type "Exception", .type "BaseException", .type "object"] true sn4 sub4 ab4 col4 dd4 m04 m14 m24 m34 m54 "ValueError.__new__"))
    (xs4 : PySem.W.findIn K (.ref C4) "__setattr__" = some (some (.builtin "object.__setattr__")))
    (xg4 : PySem.W.findIn K (.ref C4) "__getattribute__" = some (some (.builtin "BaseException.__getattribute__")))
    (xh4 : PySem.W.findIn K (.ref C4) "__getattr__" = some none)
    (xc4 : PySem.W.findIn K (.ref C4) "__class__" = some (some (.builtin "object.__class__")))
    (xf4a : PySem.W.findIn K (.ref C4) "snapshot" = some none)
    (xi4 : PySem.W.findIn K (.ref C4) "__init__" = some (some (.ref I4)))
    (xt4 : PySem.W.typeIn K (.ref I4) = some (.type "function"))
    (xl4 : K.lookup I4 = some ⟨oc4, od4, .func (PySem.W.fnOf "__init__" "NoSnapshot.__init__" (defArgs sI4) (defBody sI4) (defScope sI4) .none kV4 dc4 pm4 an4 cd4 ct4), sl4⟩)
    (xd4 : PySem.W.codeIn K cd4 "NoSnapshot.__init__" = true)
    (xk4 : PySem.W.keepIn K (.ref I4) = true)
    (yk4 : PySem.W.keepIn K (.ref C4) = true)
    (ye4 : PySem.W.subIn K (.ref C4) (.type "BaseException") = some true)
    (yt4 : PySem.W.typeIn K (.ref C4) = some (.type "type"))
    (yh4 : PySem.W.hasDictIn K C4 = true)
    (yc4 : PySem.W.isClsIn K C4 = true)
    (ym4 : PySem.W.mroIn K C4 (.type "object") = some true)
    (xA5 : PySem.W.nsIn K mainGlobals "NoText" = some (some (.ref C5)))
    (xL5 : K.lookup C5 = some (excClassObj nm5 qn5 C5 N5 bs5 [.ref sw, .type "ValueError", .type "Exception", .type "BaseException", .type "object"] true sn5 sub5 ab5 col5 dd5 m05 m15 m25 m35 m55 "ValueError.__new__"))
    (xs5 : PySem.W.findIn K (.ref C5) "__setattr__" = some (some (.builtin "object.__setattr__")))
    (xg5 : PySem.W.findIn K (.ref C5) "__getattribute__" = some (some (.builtin "BaseException.__getattribute__")))
    (xh5 : PySem.W.findIn K (.ref C5) "__getattr__" = some none)
    (xc5 : PySem.W.findIn K (.ref C5) "__class__" = some (some (.builtin "object.__class__")))
    (xf5a : PySem.W.findIn K (.ref C5) "line" = some none)
    (xi5 : PySem.W.findIn K (.ref C5) "__init__" = some (some (.ref I5)))
    (xt5 : PySem.W.typeIn K (.ref I5) = some (.type "function"))
    (xl5 : K.lookup I5 = some ⟨oc5, od5, .func (PySem.W.fnOf "__init__" "NoText.__init__" (defArgs sI5) (defBody sI5) (defScope sI5) .none kV5 dc5 pm5 an5 cd5 ct5), sl5⟩)
    (xd5 : PySem.W.codeIn K cd5 "NoText.__init__" = true)
    (xk5 : PySem.W.keepIn K (.ref I5) = true)
    (yk5 : PySem.W.keepIn K (.ref C5) = true)
    (ye5 : PySem.W.subIn K (.ref C5) (.type "BaseException") = some true)
    (yt5 : PySem.W.typeIn K (.ref C5) = some (.type "type"))
    (yh5 : PySem.W.hasDictIn K C5 = true)
    (yc5 : PySem.W.isClsIn K C5 = true)
    (ym5 : PySem.W.mroIn K C5 (.type "object") = some true)
    (xA6 : PySem.W.nsIn K mainGlobals "NoTicket" = some (some (.ref C6)))
    (xL6 : K.lookup C6 = some (excClassObj nm6 qn6 C6 N6 bs6 [.ref sw, .type "ValueError", .type "Exception", .type "BaseException", .type "object"] true sn6 sub6 ab6 col6 dd6 m06 m16 m26 m36 m56 "ValueError.__new__"))
    (xs6 : PySem.W.findIn K (.ref C6) "__setattr__" = some (some (.builtin "object.__setattr__")))
    (xg6 : PySem.W.findIn K (.ref C6) "__getattribute__" = some (some (.builtin "BaseException.__getattribute__")))
    (xh6 : PySem.W.findIn K (.ref C6) "__getattr__" = some none)
    (xc6 : PySem.W.findIn K (.ref C6) "__class__" = some (some (.builtin "object.__class__")))
    (xf6a : PySem.W.findIn K (.ref C6) "process" = some none)
    (xf6b : PySem.W.findIn K (.ref C6) "lot" = some none)
    (xi6 : PySem.W.findIn K (.ref C6) "__init__" = some (some (.ref I6)))
    (xt6 : PySem.W.typeIn K (.ref I6) = some (.type "function"))
    (xl6 : K.lookup I6 = some ⟨oc6, od6, .func (PySem.W.fnOf "__init__" "NoTicket.__init__" (defArgs sI6) (defBody sI6) (defScope sI6) .none kV6 dc6 pm6 an6 cd6 ct6), sl6⟩)
    (xd6 : PySem.W.codeIn K cd6 "NoTicket.__init__" = true)
    (xk6 : PySem.W.keepIn K (.ref I6) = true)
    (yk6 : PySem.W.keepIn K (.ref C6) = true)
    (ye6 : PySem.W.subIn K (.ref C6) (.type "BaseException") = some true)
    (yt6 : PySem.W.typeIn K (.ref C6) = some (.type "type"))
    (yh6 : PySem.W.hasDictIn K C6 = true)
    (yc6 : PySem.W.isClsIn K C6 = true)
    (ym6 : PySem.W.mroIn K C6 (.type "object") = some true)
    (xA7 : PySem.W.nsIn K mainGlobals "Nothing" = some (some (.ref C7)))
    (xL7 : K.lookup C7 = some (excClassObj nm7 qn7 C7 N7 bs7 [.ref sw, .type "ValueError", .type "Exception", .type "BaseException", .type "object"] true sn7 sub7 ab7 col7 dd7 m07 m17 m27 m37 m57 "ValueError.__new__"))
    (xs7 : PySem.W.findIn K (.ref C7) "__setattr__" = some (some (.builtin "object.__setattr__")))
    (xg7 : PySem.W.findIn K (.ref C7) "__getattribute__" = some (some (.builtin "BaseException.__getattribute__")))
    (xh7 : PySem.W.findIn K (.ref C7) "__getattr__" = some none)
    (xc7 : PySem.W.findIn K (.ref C7) "__class__" = some (some (.builtin "object.__class__")))
    (xi7 : PySem.W.findIn K (.ref C7) "__init__" = some (some (.ref I7)))
    (xt7 : PySem.W.typeIn K (.ref I7) = some (.type "function"))
    (xl7 : K.lookup I7 = some ⟨oc7, od7, .func (PySem.W.fnOf "__init__" "Nothing.__init__" (defArgs sI7) (defBody sI7) (defScope sI7) .none kV7 dc7 pm7 an7 cd7 ct7), sl7⟩)
    (xd7 : PySem.W.codeIn K cd7 "Nothing.__init__" = true)
    (xk7 : PySem.W.keepIn K (.ref I7) = true)
    (yk7 : PySem.W.keepIn K (.ref C7) = true)
    (ye7 : PySem.W.subIn K (.ref C7) (.type "BaseException") = some true)
    (yt7 : PySem.W.typeIn K (.ref C7) = some (.type "type"))
    (yh7 : PySem.W.hasDictIn K C7 = true)
    (yc7 : PySem.W.isClsIn K C7 = true)
    (ym7 : PySem.W.mroIn K C7 (.type "object") = some true)
    (xA8 : PySem.W.nsIn K mainGlobals "TooMany" = some (some (.ref C8)))
    (xL8 : K.lookup C8 = some (excClassObj nm8 qn8 C8 N8 bs8 [.ref sw, .type "ValueError", .type "Exception", .type "BaseException", .type "object"] true sn8 sub8 ab8 col8 dd8 m08 m18 m28 m38 m58 "ValueError.__new__"))
    (xs8 : PySem.W.findIn K (.ref C8) "__setattr__" = some (some (.builtin "object.__setattr__")))
    (xg8 : PySem.W.findIn K (.ref C8) "__getattribute__" = some (some (.builtin "BaseException.__getattribute__")))
    (xh8 : PySem.W.findIn K (.ref C8) "__getattr__" = some none)
    (xc8 : PySem.W.findIn K (.ref C8) "__class__" = some (some (.builtin "object.__class__")))
    (xf8a : PySem.W.findIn K (.ref C8) "most" = some none)
    (xi8 : PySem.W.findIn K (.ref C8) "__init__" = some (some (.ref I8)))
    (xt8 : PySem.W.typeIn K (.ref I8) = some (.type "function"))
    (xl8 : K.lookup I8 = some ⟨oc8, od8, .func (PySem.W.fnOf "__init__" "TooMany.__init__" (defArgs sI8) (defBody sI8) (defScope sI8) .none kV8 dc8 pm8 an8 cd8 ct8), sl8⟩)
    (xd8 : PySem.W.codeIn K cd8 "TooMany.__init__" = true)
    (xk8 : PySem.W.keepIn K (.ref I8) = true)
    (yk8 : PySem.W.keepIn K (.ref C8) = true)
    (ye8 : PySem.W.subIn K (.ref C8) (.type "BaseException") = some true)
    (yt8 : PySem.W.typeIn K (.ref C8) = some (.type "type"))
    (yh8 : PySem.W.hasDictIn K C8 = true)
    (yc8 : PySem.W.isClsIn K C8 = true)
    (ym8 : PySem.W.mroIn K C8 (.type "object") = some true)
    (xA9 : PySem.W.nsIn K mainGlobals "Wrong" = some (some (.ref C9)))
    (xL9 : K.lookup C9 = some (excClassObj nm9 qn9 C9 N9 bs9 [.ref sw, .type "ValueError", .type "Exception", .type "BaseException", .type "object"] true sn9 sub9 ab9 col9 dd9 m09 m19 m29 m39 m59 "ValueError.__new__"))
    (xs9 : PySem.W.findIn K (.ref C9) "__setattr__" = some (some (.builtin "object.__setattr__")))
    (xg9 : PySem.W.findIn K (.ref C9) "__getattribute__" = some (some (.builtin "BaseException.__getattribute__")))
    (xh9 : PySem.W.findIn K (.ref C9) "__getattr__" = some none)
    (xc9 : PySem.W.findIn K (.ref C9) "__class__" = some (some (.builtin "object.__class__")))
    (xf9a : PySem.W.findIn K (.ref C9) "place" = some none)
    (xi9 : PySem.W.findIn K (.ref C9) "__init__" = some (some (.ref I9)))
    (xt9 : PySem.W.typeIn K (.ref I9) = some (.type "function"))
    (xl9 : K.lookup I9 = some ⟨oc9, od9, .func (PySem.W.fnOf "__init__" "Wrong.__init__" (defArgs sI9) (defBody sI9) (defScope sI9) .none kV9 dc9 pm9 an9 cd9 ct9), sl9⟩)
    (xd9 : PySem.W.codeIn K cd9 "Wrong.__init__" = true)
    (xk9 : PySem.W.keepIn K (.ref I9) = true)
    (yk9 : PySem.W.keepIn K (.ref C9) = true)
    (ye9 : PySem.W.subIn K (.ref C9) (.type "BaseException") = some true)
    (yt9 : PySem.W.typeIn K (.ref C9) = some (.type "type"))
    (yh9 : PySem.W.hasDictIn K C9 = true)
    (yc9 : PySem.W.isClsIn K C9 = true)
    (ym9 : PySem.W.mroIn K C9 (.type "object") = some true)
    (zn : PySem.W.specialIn K (.builtin "object.__class__") "__get__" = some (some (.builtin "getset_descriptor.__get__")))
    (zt : PySem.W.takesIn K (.builtin "object.__class__") = some true)
    (kt0_0 : PySem.W.kitOne K (.ref C0) (.ref C0) = some true)
    (kt0_1 : PySem.W.kitOne K (.ref C0) (.ref C1) = some false)
    (kt0_2 : PySem.W.kitOne K (.ref C0) (.ref C2) = some false)
    (kt0_3 : PySem.W.kitOne K (.ref C0) (.ref C3) = some false)
    (kt0_4 : PySem.W.kitOne K (.ref C0) (.ref C4) = some false)
    (kt0_5 : PySem.W.kitOne K (.ref C0) (.ref C5) = some false)
    (kt0_6 : PySem.W.kitOne K (.ref C0) (.ref C6) = some false)
    (kt0_7 : PySem.W.kitOne K (.ref C0) (.ref C7) = some false)
    (kt0_8 : PySem.W.kitOne K (.ref C0) (.ref C8) = some false)
    (kt0_9 : PySem.W.kitOne K (.ref C0) (.ref C9) = some false)
    (kt0_10 : PySem.W.kitOne K (.ref C0) (.ref sw) = some true)
    (kt0_11 : PySem.W.kitOne K (.ref C0) (.type "ValueError") = some true)
    (kt1_0 : PySem.W.kitOne K (.ref C1) (.ref C0) = some false)
    (kt1_1 : PySem.W.kitOne K (.ref C1) (.ref C1) = some true)
    (kt1_2 : PySem.W.kitOne K (.ref C1) (.ref C2) = some false)
    (kt1_3 : PySem.W.kitOne K (.ref C1) (.ref C3) = some false)
    (kt1_4 : PySem.W.kitOne K (.ref C1) (.ref C4) = some false)
    (kt1_5 : PySem.W.kitOne K (.ref C1) (.ref C5) = some false)
    (kt1_6 : PySem.W.kitOne K (.ref C1) (.ref C6) = some false)
    (kt1_7 : PySem.W.kitOne K (.ref C1) (.ref C7) = some false)
    (kt1_8 : PySem.W.kitOne K (.ref C1) (.ref C8) = some false)
    (kt1_9 : PySem.W.kitOne K (.ref C1) (.ref C9) = some false)
    (kt1_10 : PySem.W.kitOne K (.ref C1) (.ref sw) = some true)
    (kt1_11 : PySem.W.kitOne K (.ref C1) (.type "ValueError") = some true)
    (kt2_0 : PySem.W.kitOne K (.ref C2) (.ref C0) = some false)
    (kt2_1 : PySem.W.kitOne K (.ref C2) (.ref C1) = some false)
    (kt2_2 : PySem.W.kitOne K (.ref C2) (.ref C2) = some true)
    (kt2_3 : PySem.W.kitOne K (.ref C2) (.ref C3) = some false)
    (kt2_4 : PySem.W.kitOne K (.ref C2) (.ref C4) = some false)
    (kt2_5 : PySem.W.kitOne K (.ref C2) (.ref C5) = some false)
    (kt2_6 : PySem.W.kitOne K (.ref C2) (.ref C6) = some false)
    (kt2_7 : PySem.W.kitOne K (.ref C2) (.ref C7) = some false)
    (kt2_8 : PySem.W.kitOne K (.ref C2) (.ref C8) = some false)
    (kt2_9 : PySem.W.kitOne K (.ref C2) (.ref C9) = some false)
    (kt2_10 : PySem.W.kitOne K (.ref C2) (.ref sw) = some true)
    (kt2_11 : PySem.W.kitOne K (.ref C2) (.type "ValueError") = some true)
    (kt3_0 : PySem.W.kitOne K (.ref C3) (.ref C0) = some false)
    (kt3_1 : PySem.W.kitOne K (.ref C3) (.ref C1) = some false)
    (kt3_2 : PySem.W.kitOne K (.ref C3) (.ref C2) = some false)
    (kt3_3 : PySem.W.kitOne K (.ref C3) (.ref C3) = some true)
    (kt3_4 : PySem.W.kitOne K (.ref C3) (.ref C4) = some false)
    (kt3_5 : PySem.W.kitOne K (.ref C3) (.ref C5) = some false)
    (kt3_6 : PySem.W.kitOne K (.ref C3) (.ref C6) = some false)
    (kt3_7 : PySem.W.kitOne K (.ref C3) (.ref C7) = some false)
    (kt3_8 : PySem.W.kitOne K (.ref C3) (.ref C8) = some false)
    (kt3_9 : PySem.W.kitOne K (.ref C3) (.ref C9) = some false)
    (kt3_10 : PySem.W.kitOne K (.ref C3) (.ref sw) = some true)
    (kt3_11 : PySem.W.kitOne K (.ref C3) (.type "ValueError") = some true)
    (kt4_0 : PySem.W.kitOne K (.ref C4) (.ref C0) = some false)
    (kt4_1 : PySem.W.kitOne K (.ref C4) (.ref C1) = some false)
    (kt4_2 : PySem.W.kitOne K (.ref C4) (.ref C2) = some false)
    (kt4_3 : PySem.W.kitOne K (.ref C4) (.ref C3) = some false)
    (kt4_4 : PySem.W.kitOne K (.ref C4) (.ref C4) = some true)
    (kt4_5 : PySem.W.kitOne K (.ref C4) (.ref C5) = some false)
    (kt4_6 : PySem.W.kitOne K (.ref C4) (.ref C6) = some false)
    (kt4_7 : PySem.W.kitOne K (.ref C4) (.ref C7) = some false)
    (kt4_8 : PySem.W.kitOne K (.ref C4) (.ref C8) = some false)
    (kt4_9 : PySem.W.kitOne K (.ref C4) (.ref C9) = some false)
    (kt4_10 : PySem.W.kitOne K (.ref C4) (.ref sw) = some true)
    (kt4_11 : PySem.W.kitOne K (.ref C4) (.type "ValueError") = some true)
    (kt5_0 : PySem.W.kitOne K (.ref C5) (.ref C0) = some false)
    (kt5_1 : PySem.W.kitOne K (.ref C5) (.ref C1) = some false)
    (kt5_2 : PySem.W.kitOne K (.ref C5) (.ref C2) = some false)
    (kt5_3 : PySem.W.kitOne K (.ref C5) (.ref C3) = some false)
    (kt5_4 : PySem.W.kitOne K (.ref C5) (.ref C4) = some false)
    (kt5_5 : PySem.W.kitOne K (.ref C5) (.ref C5) = some true)
    (kt5_6 : PySem.W.kitOne K (.ref C5) (.ref C6) = some false)
    (kt5_7 : PySem.W.kitOne K (.ref C5) (.ref C7) = some false)
    (kt5_8 : PySem.W.kitOne K (.ref C5) (.ref C8) = some false)
    (kt5_9 : PySem.W.kitOne K (.ref C5) (.ref C9) = some false)
    (kt5_10 : PySem.W.kitOne K (.ref C5) (.ref sw) = some true)
    (kt5_11 : PySem.W.kitOne K (.ref C5) (.type "ValueError") = some true)
    (kt6_0 : PySem.W.kitOne K (.ref C6) (.ref C0) = some false)
    (kt6_1 : PySem.W.kitOne K (.ref C6) (.ref C1) = some false)
    (kt6_2 : PySem.W.kitOne K (.ref C6) (.ref C2) = some false)
    (kt6_3 : PySem.W.kitOne K (.ref C6) (.ref C3) = some false)
    (kt6_4 : PySem.W.kitOne K (.ref C6) (.ref C4) = some false)
    (kt6_5 : PySem.W.kitOne K (.ref C6) (.ref C5) = some false)
    (kt6_6 : PySem.W.kitOne K (.ref C6) (.ref C6) = some true)
    (kt6_7 : PySem.W.kitOne K (.ref C6) (.ref C7) = some false)
    (kt6_8 : PySem.W.kitOne K (.ref C6) (.ref C8) = some false)
    (kt6_9 : PySem.W.kitOne K (.ref C6) (.ref C9) = some false)
    (kt6_10 : PySem.W.kitOne K (.ref C6) (.ref sw) = some true)
    (kt6_11 : PySem.W.kitOne K (.ref C6) (.type "ValueError") = some true)
    (kt7_0 : PySem.W.kitOne K (.ref C7) (.ref C0) = some false)
    (kt7_1 : PySem.W.kitOne K (.ref C7) (.ref C1) = some false)
    (kt7_2 : PySem.W.kitOne K (.ref C7) (.ref C2) = some false)
    (kt7_3 : PySem.W.kitOne K (.ref C7) (.ref C3) = some false)
    (kt7_4 : PySem.W.kitOne K (.ref C7) (.ref C4) = some false)
    (kt7_5 : PySem.W.kitOne K (.ref C7) (.ref C5) = some false)
    (kt7_6 : PySem.W.kitOne K (.ref C7) (.ref C6) = some false)
    (kt7_7 : PySem.W.kitOne K (.ref C7) (.ref C7) = some true)
    (kt7_8 : PySem.W.kitOne K (.ref C7) (.ref C8) = some false)
    (kt7_9 : PySem.W.kitOne K (.ref C7) (.ref C9) = some false)
    (kt7_10 : PySem.W.kitOne K (.ref C7) (.ref sw) = some true)
    (kt7_11 : PySem.W.kitOne K (.ref C7) (.type "ValueError") = some true)
    (kt8_0 : PySem.W.kitOne K (.ref C8) (.ref C0) = some false)
    (kt8_1 : PySem.W.kitOne K (.ref C8) (.ref C1) = some false)
    (kt8_2 : PySem.W.kitOne K (.ref C8) (.ref C2) = some false)
    (kt8_3 : PySem.W.kitOne K (.ref C8) (.ref C3) = some false)
    (kt8_4 : PySem.W.kitOne K (.ref C8) (.ref C4) = some false)
    (kt8_5 : PySem.W.kitOne K (.ref C8) (.ref C5) = some false)
    (kt8_6 : PySem.W.kitOne K (.ref C8) (.ref C6) = some false)
    (kt8_7 : PySem.W.kitOne K (.ref C8) (.ref C7) = some false)
    (kt8_8 : PySem.W.kitOne K (.ref C8) (.ref C8) = some true)
    (kt8_9 : PySem.W.kitOne K (.ref C8) (.ref C9) = some false)
    (kt8_10 : PySem.W.kitOne K (.ref C8) (.ref sw) = some true)
    (kt8_11 : PySem.W.kitOne K (.ref C8) (.type "ValueError") = some true)
    (kt9_0 : PySem.W.kitOne K (.ref C9) (.ref C0) = some false)
    (kt9_1 : PySem.W.kitOne K (.ref C9) (.ref C1) = some false)
    (kt9_2 : PySem.W.kitOne K (.ref C9) (.ref C2) = some false)
    (kt9_3 : PySem.W.kitOne K (.ref C9) (.ref C3) = some false)
    (kt9_4 : PySem.W.kitOne K (.ref C9) (.ref C4) = some false)
    (kt9_5 : PySem.W.kitOne K (.ref C9) (.ref C5) = some false)
    (kt9_6 : PySem.W.kitOne K (.ref C9) (.ref C6) = some false)
    (kt9_7 : PySem.W.kitOne K (.ref C9) (.ref C7) = some false)
    (kt9_8 : PySem.W.kitOne K (.ref C9) (.ref C8) = some false)
    (kt9_9 : PySem.W.kitOne K (.ref C9) (.ref C9) = some true)
    (kt9_10 : PySem.W.kitOne K (.ref C9) (.ref sw) = some true)
    (kt9_11 : PySem.W.kitOne K (.ref C9) (.type "ValueError") = some true)
    (aBag : PySem.W.nsIn K mainGlobals "_law_bag" = some (some (.ref fBag)))
    (lBag : K.lookup fBag = some ⟨ocBag, odBag, .func (PySem.W.fnOf "_law_bag" "_law_bag" (defArgs sBag) (defBody sBag) (defScope sBag) .none kVBag dcBag pmBag anBag cdBag ctBag), slBag⟩)
    (cBag : PySem.W.codeIn K cdBag "_law_bag" = true)
    (kBag : PySem.W.keepIn K (.ref fBag) = true)
    (aTake : PySem.W.nsIn K mainGlobals "_law_take" = some (some (.ref fTake)))
    (lTake : K.lookup fTake = some ⟨ocTake, odTake, .func (PySem.W.fnOf "_law_take" "_law_take" (defArgs sTake) (defBody sTake) (defScope sTake) .none kVTake dcTake pmTake anTake cdTake ctTake), slTake⟩)
    (cTake : PySem.W.codeIn K cdTake "_law_take" = true)
    (kTake : PySem.W.keepIn K (.ref fTake) = true)
    (aSome : PySem.W.nsIn K mainGlobals "_law_some" = some (some (.ref fSome)))
    (lSome : K.lookup fSome = some ⟨ocSome, odSome, .func (PySem.W.fnOf "_law_some" "_law_some" (defArgs sSome) (defBody sSome) (defScope sSome) .none kVSome dcSome pmSome anSome cdSome ctSome), slSome⟩)
    (cSome : PySem.W.codeIn K cdSome "_law_some" = true)
    (kSome : PySem.W.keepIn K (.ref fSome) = true)
    (aAlike : PySem.W.nsIn K mainGlobals "_law_alike" = some (some (.ref fAlike)))
    (lAlike : K.lookup fAlike = some ⟨ocAlike, odAlike, .func (PySem.W.fnOf "_law_alike" "_law_alike" (defArgs sAlike) (defBody sAlike) (defScope sAlike) .none kVAlike dcAlike pmAlike anAlike cdAlike ctAlike), slAlike⟩)
    (cAlike : PySem.W.codeIn K cdAlike "_law_alike" = true)
    (kAlike : PySem.W.keepIn K (.ref fAlike) = true)
    (aValue : PySem.W.nsIn K mainGlobals "_law_value" = some (some (.ref fValue)))
    (lValue : K.lookup fValue = some ⟨ocValue, odValue, .func (PySem.W.fnOf "_law_value" "_law_value" (defArgs sValue) (defBody sValue) (defScope sValue) .none kVValue dcValue pmValue anValue cdValue ctValue), slValue⟩)
    (cValue : PySem.W.codeIn K cdValue "_law_value" = true)
    (kValue : PySem.W.keepIn K (.ref fValue) = true)
    (aKinds : PySem.W.nsIn K mainGlobals "_law_kinds" = some (some (.ref fKinds)))
    (lKinds : K.lookup fKinds = some ⟨ocKinds, odKinds, .func (PySem.W.fnOf "_law_kinds" "_law_kinds" (defArgs sKinds) (defBody sKinds) (defScope sKinds) .none kVKinds dcKinds pmKinds anKinds cdKinds ctKinds), slKinds⟩)
    (cKinds : PySem.W.codeIn K cdKinds "_law_kinds" = true)
    (kKinds : PySem.W.keepIn K (.ref fKinds) = true)
    (aMade : PySem.W.nsIn K mainGlobals "_law_made" = some (some (.ref fMade)))
    (lMade : K.lookup fMade = some ⟨ocMade, odMade, .func (PySem.W.fnOf "_law_made" "_law_made" (defArgs sMade) (defBody sMade) (defScope sMade) .none kVMade dcMade pmMade anMade cdMade ctMade), slMade⟩)
    (cMade : PySem.W.codeIn K cdMade "_law_made" = true)
    (kMade : PySem.W.keepIn K (.ref fMade) = true)
    (aKept : PySem.W.nsIn K mainGlobals "_law_kept" = some (some (.ref fKept)))
    (lKept : K.lookup fKept = some ⟨ocKept, odKept, .func (PySem.W.fnOf "_law_kept" "_law_kept" (defArgs sKept) (defBody sKept) (defScope sKept) .none kVKept dcKept pmKept anKept cdKept ctKept), slKept⟩)
    (cKept : PySem.W.codeIn K cdKept "_law_kept" = true)
    (kKept : PySem.W.keepIn K (.ref fKept) = true)
    (aDue : PySem.W.nsIn K mainGlobals "_law_due" = some (some (.ref fDue)))
    (lDue : K.lookup fDue = some ⟨ocDue, odDue, .func (PySem.W.fnOf "_law_due" "_law_due" (defArgs sDue) (defBody sDue) (defScope sDue) .none kVDue dcDue pmDue anDue cdDue ctDue), slDue⟩)
    (cDue : PySem.W.codeIn K cdDue "_law_due" = true)
    (kDue : PySem.W.keepIn K (.ref fDue) = true)
    (aLaw : PySem.W.nsIn K mainGlobals "law" = some (some (.ref fLaw)))
    (lLaw : K.lookup fLaw = some ⟨ocLaw, odLaw, .func (PySem.W.fnOf "law" "law" (defArgs sLaw) (defBody sLaw) (defScope sLaw) .none kVLaw dcLaw pmLaw anLaw cdLaw ctLaw), slLaw⟩)
    (cLaw : PySem.W.codeIn K cdLaw "law" = true)
    (kLaw : PySem.W.keepIn K (.ref fLaw) = true)
    (b_abs : PySem.W.nsIn K mainGlobals "abs" = some none)
    (b_int : PySem.W.nsIn K mainGlobals "int" = some none)
    (b_len : PySem.W.nsIn K mainGlobals "len" = some none)
    (b_repr : PySem.W.nsIn K mainGlobals "repr" = some none)
    (b_range : PySem.W.nsIn K mainGlobals "range" = some none)
    (b_tuple : PySem.W.nsIn K mainGlobals "tuple" = some none)
    (b_dict : PySem.W.nsIn K mainGlobals "dict" = some none)
    (b_enumerate : PySem.W.nsIn K mainGlobals "enumerate" = some none)
    (b_str : PySem.W.nsIn K mainGlobals "str" = some none)
    (b_isinstance : PySem.W.nsIn K mainGlobals "isinstance" = some none)
    (b_ValueError : PySem.W.nsIn K mainGlobals "ValueError" = some none)
    : ∃ fd : FuncData, (∀ (s : Shared) (v : Value), BindsTo s fd ⟨[v], []⟩ [("_law_script", v)]) ∧ ∀ base : Heap, K.In base → base.Ns mainGlobals mg → FnG P w K mg base 7 fa fd ["_law_script"] (spLaw K) := by
  have e := hfa.symm.trans (PySem.W.mg_of X G aLaw)
  cases e
  have cs : ∀ i, i < 10 → XCls K ([C0, C1, C2, C3, C4, C5, C6, C7, C8, C9].getD i 0) := fun i hi => by
    match i, hi with
    | 0, _ => exact ⟨⟨⟨_, _, _, _, _, _, _, _, _, _, _, _, _, _, _, xL0, by first | decide +kernel | rfl⟩, xs0, ye0, yt0, yk0⟩, ⟨xg0, xh0, ye0, yh0⟩, yc0, xc0, zn, zt, ym0⟩
    | 1, _ => exact ⟨⟨⟨_, _, _, _, _, _, _, _, _, _, _, _, _, _, _, xL1, by first | decide +kernel | rfl⟩, xs1, ye1, yt1, yk1⟩, ⟨xg1, xh1, ye1, yh1⟩, yc1, xc1, zn, zt, ym1⟩
    | 2, _ => exact ⟨⟨⟨_, _, _, _, _, _, _, _, _, _, _, _, _, _, _, xL2, by first | decide +kernel | rfl⟩, xs2, ye2, yt2, yk2⟩, ⟨xg2, xh2, ye2, yh2⟩, yc2, xc2, zn, zt, ym2⟩
    | 3, _ => exact ⟨⟨⟨_, _, _, _, _, _, _, _, _, _, _, _, _, _, _, xL3, by first | decide +kernel | rfl⟩, xs3, ye3, yt3, yk3⟩, ⟨xg3, xh3, ye3, yh3⟩, yc3, xc3, zn, zt, ym3⟩
    | 4, _ => exact ⟨⟨⟨_, _, _, _, _, _, _, _, _, _, _, _, _, _, _, xL4, by first | decide +kernel | rfl⟩, xs4, ye4, yt4, yk4⟩, ⟨xg4, xh4, ye4, yh4⟩, yc4, xc4, zn, zt, ym4⟩
    | 5, _ => exact ⟨⟨⟨_, _, _, _, _, _, _, _, _, _, _, _, _, _, _, xL5, by first | decide +kernel | rfl⟩, xs5, ye5, yt5, yk5⟩, ⟨xg5, xh5, ye5, yh5⟩, yc5, xc5, zn, zt, ym5⟩
    | 6, _ => exact ⟨⟨⟨_, _, _, _, _, _, _, _, _, _, _, _, _, _, _, xL6, by first | decide +kernel | rfl⟩, xs6, ye6, yt6, yk6⟩, ⟨xg6, xh6, ye6, yh6⟩, yc6, xc6, zn, zt, ym6⟩
    | 7, _ => exact ⟨⟨⟨_, _, _, _, _, _, _, _, _, _, _, _, _, _, _, xL7, by first | decide +kernel | rfl⟩, xs7, ye7, yt7, yk7⟩, ⟨xg7, xh7, ye7, yh7⟩, yc7, xc7, zn, zt, ym7⟩
    | 8, _ => exact ⟨⟨⟨_, _, _, _, _, _, _, _, _, _, _, _, _, _, _, xL8, by first | decide +kernel | rfl⟩, xs8, ye8, yt8, yk8⟩, ⟨xg8, xh8, ye8, yh8⟩, yc8, xc8, zn, zt, ym8⟩
    | 9, _ => exact ⟨⟨⟨_, _, _, _, _, _, _, _, _, _, _, _, _, _, _, xL9, by first | decide +kernel | rfl⟩, xs9, ye9, yt9, yk9⟩, ⟨xg9, xh9, ye9, yh9⟩, yc9, xc9, zn, zt, ym9⟩
  have is : ∀ i, i < 10 → XIni K ([C0, C1, C2, C3, C4, C5, C6, C7, C8, C9].getD i 0) ([I0, I1, I2, I3, I4, I5, I6, I7, I8, I9].getD i 0) := fun i hi => by
    match i, hi with
    | 0, _ => exact ⟨xi0, xt0⟩
    | 1, _ => exact ⟨xi1, xt1⟩
    | 2, _ => exact ⟨xi2, xt2⟩
    | 3, _ => exact ⟨xi3, xt3⟩
    | 4, _ => exact ⟨xi4, xt4⟩
    | 5, _ => exact ⟨xi5, xt5⟩
    | 6, _ => exact ⟨xi6, xt6⟩
    | 7, _ => exact ⟨xi7, xt7⟩
    | 8, _ => exact ⟨xi8, xt8⟩
    | 9, _ => exact ⟨xi9, xt9⟩
  have C : Cl K mg (fun i => [C0, C1, C2, C3, C4, C5, C6, C7, C8, C9].getD i 0) (fun i => [I0, I1, I2, I3, I4, I5, I6, I7, I8, I9].getD i 0) sw :=
    { g0 := PySem.W.mg_of X G xA0, g1 := PySem.W.mg_of X G xA1, g2 := PySem.W.mg_of X G xA2, g3 := PySem.W.mg_of X G xA3, g4 := PySem.W.mg_of X G xA4, g5 := PySem.W.mg_of X G xA5, g6 := PySem.W.mg_of X G xA6, g7 := PySem.W.mg_of X G xA7, g8 := PySem.W.mg_of X G xA8, g9 := PySem.W.mg_of X G xA9, gS := PySem.W.mg_of X G sA, gV := PySem.W.mg_none_of X G b_ValueError, cls := cs, ini := is,
      n0 := xf0a, n1 := xf1a, n3 := xf3a, n4 := xf4a, n5 := xf5a, n8 := xf8a, n9 := xf9a, n2a := xf2a, n2b := xf2b, n6a := xf6a, n6b := xf6b,
      kit := fun i j hi hj => by
        match i, j, hi, hj with
        | 0, 0, _, _ => exact kt0_0
        | 0, 1, _, _ => exact kt0_1
        | 0, 2, _, _ => exact kt0_2
        | 0, 3, _, _ => exact kt0_3
        | 0, 4, _, _ => exact kt0_4
        | 0, 5, _, _ => exact kt0_5
        | 0, 6, _, _ => exact kt0_6
        | 0, 7, _, _ => exact kt0_7
        | 0, 8, _, _ => exact kt0_8
        | 0, 9, _, _ => exact kt0_9
        | 0, 10, _, _ => exact kt0_10
        | 0, 11, _, _ => exact kt0_11
        | 1, 0, _, _ => exact kt1_0
        | 1, 1, _, _ => exact kt1_1
        | 1, 2, _, _ => exact kt1_2
        | 1, 3, _, _ => exact kt1_3
        | 1, 4, _, _ => exact kt1_4
        | 1, 5, _, _ => exact kt1_5
        | 1, 6, _, _ => exact kt1_6
        | 1, 7, _, _ => exact kt1_7
        | 1, 8, _, _ => exact kt1_8
        | 1, 9, _, _ => exact kt1_9
        | 1, 10, _, _ => exact kt1_10
        | 1, 11, _, _ => exact kt1_11
        | 2, 0, _, _ => exact kt2_0
        | 2, 1, _, _ => exact kt2_1
        | 2, 2, _, _ => exact kt2_2
        | 2, 3, _, _ => exact kt2_3
        | 2, 4, _, _ => exact kt2_4
        | 2, 5, _, _ => exact kt2_5
        | 2, 6, _, _ => exact kt2_6
        | 2, 7, _, _ => exact kt2_7
        | 2, 8, _, _ => exact kt2_8
        | 2, 9, _, _ => exact kt2_9
        | 2, 10, _, _ => exact kt2_10
        | 2, 11, _, _ => exact kt2_11
        | 3, 0, _, _ => exact kt3_0
        | 3, 1, _, _ => exact kt3_1
        | 3, 2, _, _ => exact kt3_2
        | 3, 3, _, _ => exact kt3_3
        | 3, 4, _, _ => exact kt3_4
        | 3, 5, _, _ => exact kt3_5
        | 3, 6, _, _ => exact kt3_6
        | 3, 7, _, _ => exact kt3_7
        | 3, 8, _, _ => exact kt3_8
        | 3, 9, _, _ => exact kt3_9
        | 3, 10, _, _ => exact kt3_10
        | 3, 11, _, _ => exact kt3_11
        | 4, 0, _, _ => exact kt4_0
        | 4, 1, _, _ => exact kt4_1
        | 4, 2, _, _ => exact kt4_2
        | 4, 3, _, _ => exact kt4_3
        | 4, 4, _, _ => exact kt4_4
        | 4, 5, _, _ => exact kt4_5
        | 4, 6, _, _ => exact kt4_6
        | 4, 7, _, _ => exact kt4_7
        | 4, 8, _, _ => exact kt4_8
        | 4, 9, _, _ => exact kt4_9
        | 4, 10, _, _ => exact kt4_10
        | 4, 11, _, _ => exact kt4_11
        | 5, 0, _, _ => exact kt5_0
        | 5, 1, _, _ => exact kt5_1
        | 5, 2, _, _ => exact kt5_2
        | 5, 3, _, _ => exact kt5_3
        | 5, 4, _, _ => exact kt5_4
        | 5, 5, _, _ => exact kt5_5
        | 5, 6, _, _ => exact kt5_6
        | 5, 7, _, _ => exact kt5_7
        | 5, 8, _, _ => exact kt5_8
        | 5, 9, _, _ => exact kt5_9
        | 5, 10, _, _ => exact kt5_10
        | 5, 11, _, _ => exact kt5_11
        | 6, 0, _, _ => exact kt6_0
        | 6, 1, _, _ => exact kt6_1
        | 6, 2, _, _ => exact kt6_2
        | 6, 3, _, _ => exact kt6_3
        | 6, 4, _, _ => exact kt6_4
        | 6, 5, _, _ => exact kt6_5
        | 6, 6, _, _ => exact kt6_6
        | 6, 7, _, _ => exact kt6_7
        | 6, 8, _, _ => exact kt6_8
        | 6, 9, _, _ => exact kt6_9
        | 6, 10, _, _ => exact kt6_10
        | 6, 11, _, _ => exact kt6_11
        | 7, 0, _, _ => exact kt7_0
        | 7, 1, _, _ => exact kt7_1
        | 7, 2, _, _ => exact kt7_2
        | 7, 3, _, _ => exact kt7_3
        | 7, 4, _, _ => exact kt7_4
        | 7, 5, _, _ => exact kt7_5
        | 7, 6, _, _ => exact kt7_6
        | 7, 7, _, _ => exact kt7_7
        | 7, 8, _, _ => exact kt7_8
        | 7, 9, _, _ => exact kt7_9
        | 7, 10, _, _ => exact kt7_10
        | 7, 11, _, _ => exact kt7_11
        | 8, 0, _, _ => exact kt8_0
        | 8, 1, _, _ => exact kt8_1
        | 8, 2, _, _ => exact kt8_2
        | 8, 3, _, _ => exact kt8_3
        | 8, 4, _, _ => exact kt8_4
        | 8, 5, _, _ => exact kt8_5
        | 8, 6, _, _ => exact kt8_6
        | 8, 7, _, _ => exact kt8_7
        | 8, 8, _, _ => exact kt8_8
        | 8, 9, _, _ => exact kt8_9
        | 8, 10, _, _ => exact kt8_10
        | 8, 11, _, _ => exact kt8_11
        | 9, 0, _, _ => exact kt9_0
        | 9, 1, _, _ => exact kt9_1
        | 9, 2, _, _ => exact kt9_2
        | 9, 3, _, _ => exact kt9_3
        | 9, 4, _, _ => exact kt9_4
        | 9, 5, _, _ => exact kt9_5
        | 9, 6, _, _ => exact kt9_6
        | 9, 7, _, _ => exact kt9_7
        | 9, 8, _, _ => exact kt9_8
        | 9, 9, _, _ => exact kt9_9
        | 9, 10, _, _ => exact kt9_10
        | 9, 11, _, _ => exact kt9_11 }
  have F0 := fun_mk (st := sI0) xl0 xd0 xk0
  have F1 := fun_mk (st := sI1) xl1 xd1 xk1
  have F2 := fun_mk (st := sI2) xl2 xd2 xk2
  have F3 := fun_mk (st := sI3) xl3 xd3 xk3
  have F4 := fun_mk (st := sI4) xl4 xd4 xk4
  have F5 := fun_mk (st := sI5) xl5 xd5 xk5
  have F6 := fun_mk (st := sI6) xl6 xd6 xk6
  have F7 := fun_mk (st := sI7) xl7 xd7 xk7
  have F8 := fun_mk (st := sI8) xl8 xd8 xk8
  have F9 := fun_mk (st := sI9) xl9 xd9 xk9
  have B0 := F0.binds (ps := ["self", "line"]) fun _ _ _ _ _ _ us hl => match us, hl with | [_, _], _ => rfl
  have B1 := F1.binds (ps := ["self", "group"]) fun _ _ _ _ _ _ us hl => match us, hl with | [_, _], _ => rfl
  have B2 := F2.binds (ps := ["self", "process", "page"]) fun _ _ _ _ _ _ us hl => match us, hl with | [_, _, _], _ => rfl
  have B3 := F3.binds (ps := ["self", "process"]) fun _ _ _ _ _ _ us hl => match us, hl with | [_, _], _ => rfl
  have B4 := F4.binds (ps := ["self", "snapshot"]) fun _ _ _ _ _ _ us hl => match us, hl with | [_, _], _ => rfl
  have B5 := F5.binds (ps := ["self", "line"]) fun _ _ _ _ _ _ us hl => match us, hl with | [_, _], _ => rfl
  have B6 := F6.binds (ps := ["self", "process", "lot"]) fun _ _ _ _ _ _ us hl => match us, hl with | [_, _, _], _ => rfl
  have B7 := F7.binds (ps := ["self"]) fun _ _ _ _ _ _ us hl => match us, hl with | [_], _ => rfl
  have B8 := F8.binds (ps := ["self", "most"]) fun _ _ _ _ _ _ us hl => match us, hl with | [_, _], _ => rfl
  have B9 := F9.binds (ps := ["self", "place"]) fun _ _ _ _ _ _ us hl => match us, hl with | [_, _], _ => rfl
  have FBag := fun_mk (st := sBag) lBag cBag kBag
  have BBag := FBag.binds (ps := ["_law_script"]) fun _ _ _ _ _ _ us hl => match us, hl with | [_], _ => rfl
  have FTake := fun_mk (st := sTake) lTake cTake kTake
  have BTake := FTake.binds (ps := ["_law_bag_here", "_law_many"]) fun _ _ _ _ _ _ us hl => match us, hl with | [_, _], _ => rfl
  have FSome := fun_mk (st := sSome) lSome cSome kSome
  have BSome := FSome.binds (ps := ["_law_bag_here", "_law_things"]) fun _ _ _ _ _ _ us hl => match us, hl with | [_, _], _ => rfl
  have FAlike := fun_mk (st := sAlike) lAlike cAlike kAlike
  have BAlike := FAlike.binds (ps := ["_law_found", "_law_due_here"]) fun _ _ _ _ _ _ us hl => match us, hl with | [_, _], _ => rfl
  have FValue := fun_mk (st := sValue) lValue cValue kValue
  have BValue := FValue.binds (ps := ["_law_bag_here", "_law_deep"]) fun _ _ _ _ _ _ us hl => match us, hl with | [_, _], _ => rfl
  have FKinds := fun_mk (st := sKinds) lKinds cKinds kKinds
  have BKinds := FKinds.binds (ps := ["_law_error"]) fun _ _ _ _ _ _ us hl => match us, hl with | [_], _ => rfl
  have FMade := fun_mk (st := sMade) lMade cMade kMade
  have BMade := FMade.binds (ps := ["_law_one", "_law_other"]) fun _ _ _ _ _ _ us hl => match us, hl with | [_, _], _ => rfl
  have FKept := fun_mk (st := sKept) lKept cKept kKept
  have BKept := FKept.binds (ps := ["_law_made_here"]) fun _ _ _ _ _ _ us hl => match us, hl with | [_], _ => rfl
  have FDue := fun_mk (st := sDue) lDue cDue kDue
  have BDue := FDue.binds (ps := ["_law_one", "_law_other"]) fun _ _ _ _ _ _ us hl => match us, hl with | [_, _], _ => rfl
  have FLaw := fun_mk (st := sLaw) lLaw cLaw kLaw
  have BLaw := FLaw.binds (ps := ["_law_script"]) fun _ _ _ _ _ _ us hl => match us, hl with | [_], _ => rfl
  refine ⟨PySem.W.fnOf "law" "law" (defArgs sLaw) (defBody sLaw) (defScope sLaw) .none kVLaw dcLaw pmLaw anLaw cdLaw ctLaw, fun s v => .of_eq rfl, fun base _ _ => ?_⟩
  have N : Inis P w K mg base 1 (fun i => [C0, C1, C2, C3, C4, C5, C6, C7, C8, C9].getD i 0) (fun i => [I0, I1, I2, I3, I4, I5, I6, I7, I8, I9].getD i 0) (fun i => ([PySem.W.fnOf "__init__" "NoCommand.__init__" (defArgs sI0) (defBody sI0) (defScope sI0) .none kV0 dc0 pm0 an0 cd0 ct0, PySem.W.fnOf "__init__" "NoGroup.__init__" (defArgs sI1) (defBody sI1) (defScope sI1) .none kV1 dc1 pm1 an1 cd1 ct1, PySem.W.fnOf "__init__" "NoPlace.__init__" (defArgs sI2) (defBody sI2) (defScope sI2) .none kV2 dc2 pm2 an2 cd2 ct2, PySem.W.fnOf "__init__" "NoProcess.__init__" (defArgs sI3) (defBody sI3) (defScope sI3) .none kV3 dc3 pm3 an3 cd3 ct3, PySem.W.fnOf "__init__" "NoSnapshot.__init__" (defArgs sI4) (defBody sI4) (defScope sI4) .none kV4 dc4 pm4 an4 cd4 ct4, PySem.W.fnOf "__init__" "NoText.__init__" (defArgs sI5) (defBody sI5) (defScope sI5) .none kV5 dc5 pm5 an5 cd5 ct5, PySem.W.fnOf "__init__" "NoTicket.__init__" (defArgs sI6) (defBody sI6) (defScope sI6) .none kV6 dc6 pm6 an6 cd6 ct6, PySem.W.fnOf "__init__" "Nothing.__init__" (defArgs sI7) (defBody sI7) (defScope sI7) .none kV7 dc7 pm7 an7 cd7 ct7, PySem.W.fnOf "__init__" "TooMany.__init__" (defArgs sI8) (defBody sI8) (defScope sI8) .none kV8 dc8 pm8 an8 cd8 ct8, PySem.W.fnOf "__init__" "Wrong.__init__" (defArgs sI9) (defBody sI9) (defScope sI9) .none kV9 dc9 pm9 an9 cd9 ct9]).getD i (PySem.W.fnOf "law" "law" (defArgs sLaw) (defBody sLaw) (defScope sLaw) .none kVLaw dcLaw pmLaw anLaw cdLaw ctLaw)) :=
    { o0 := okI0 F0 (cs 0 (by decide)).ox xf0a, b0 := B0, o1 := okI1 F1 (cs 1 (by decide)).ox xf1a, b1 := B1, o2 := okI2 F2 (cs 2 (by decide)).ox xf2a xf2b, b2 := B2, o3 := okI3 F3 (cs 3 (by decide)).ox xf3a, b3 := B3, o4 := okI4 F4 (cs 4 (by decide)).ox xf4a, b4 := B4, o5 := okI5 F5 (cs 5 (by decide)).ox xf5a, b5 := B5, o6 := okI6 F6 (cs 6 (by decide)).ox xf6a xf6b, b6 := B6, o7 := okI7 F7, b7 := B7, o8 := okI8 F8 (cs 8 (by decide)).ox xf8a, b8 := B8, o9 := okI9 F9 (cs 9 (by decide)).ox xf9a, b9 := B9 }
  have GT := okTake (P := P) (w := w) (mg := mg) (base := base) (k := 0) FTake (PySem.W.mg_none_of X G b_int)
  have GS := okSome (k := 1) FSome GT BTake (PySem.W.mg_of X G aTake) kTake (PySem.W.mg_none_of X G b_len)
  have step : ∀ {k n : Nat}, FnOk P w K mg base CX0 (k + 2) fValue _ ["_law_bag_here", "_law_deep"] (spVal K n) → FnOk P w K mg base CX0 (k + 3) fValue _ ["_law_bag_here", "_law_deep"] (spVal K (n + 1)) := fun {k n} g =>
    okValS FValue BValue g (PySem.W.mg_of X G aValue) kValue (GT.mono (by omega)) BTake (PySem.W.mg_of X G aTake) kTake (GS.mono (by omega)) BSome (PySem.W.mg_of X G aSome) kSome
      (PySem.W.mg_none_of X G b_range) (PySem.W.mg_none_of X G b_tuple) (PySem.W.mg_none_of X G b_dict) (PySem.W.mg_none_of X G b_enumerate) (PySem.W.mg_none_of X G b_str)
  have GV := step (step (step (step (k := 0) (n := 0) (okVal0.mono (by decide)))))
  have GB := okBag (P := P) (w := w) (mg := mg) (base := base) (k := 0) FBag (PySem.W.mg_none_of X G b_abs)
  have GM := okMade FMade C N
  have GK := okKinds (P := P) (w := w) (base := base) (k := 0) FKinds C (PySem.W.mg_none_of X G b_isinstance)
  have GP := okKept (P := P) (w := w) (base := base) (k := 0) FKept C
  have GD := okDue (P := P) (w := w) (mg := mg) (base := base) (k := 0) FDue
  have GA := okAlike (P := P) (w := w) (mg := mg) (base := base) (k := 5) FAlike (PySem.W.mg_none_of X G b_repr)
  exact okLaw FLaw C (GB.mono (by decide)) BBag (PySem.W.mg_of X G aBag) kBag GV BValue (PySem.W.mg_of X G aValue) kValue (GT.mono (by decide)) BTake (PySem.W.mg_of X G aTake) kTake
    (GM.mono (by decide)) BMade (PySem.W.mg_of X G aMade) kMade (GK.mono (by decide)) BKinds (PySem.W.mg_of X G aKinds) kKinds (GP.mono (by decide)) BKept (PySem.W.mg_of X G aKept) kKept
    (GD.mono (by decide)) BDue (PySem.W.mg_of X G aDue) kDue GA BAlike (PySem.W.mg_of X G aAlike) kAlike (PySem.W.mg_none_of X G b_range) (PySem.W.mg_none_of X G b_enumerate) (PySem.W.mg_none_of X G b_len)
end K00
open PySem PySem.W PyProof.Rows
set_option maxHeartbeats 0 in
theorem PySem.Challenge.cw_pagesworn_k00_errors_of_any_values_holds : PySem.Challenge.rw_pagesworn_k00_errors_of_any_values.Holds := by
  w_on; o_law; k_head; (case hw => w_witness2)
  k_fill
  refine Pg.walkG (l := PySem.Challenge.rw_pagesworn_k00_errors_of_any_values) (n := 63) (k := 7) (x := "_law_script") (sp := K00.spLaw) rfl (by decide) rfl ⟨rfl, by decide, by decide⟩ (fun w h Y => PySem.W.kIn_of Y) ?F (fun _ _ a ns hl hS => ⟨a, ns, rfl, hS, hl, fun _ => rfl⟩)
  case F =>
    intro w mg fa h KX G hmg
    refine' K00.all_mk KX G hmg ?sA ?xA0 ?xL0 ?xs0 ?xg0 ?xh0 ?xc0 ?xf0a ?xi0 ?xt0 ?xl0 ?xd0 ?xk0 ?yk0 ?ye0 ?yt0 ?yh0 ?yc0 ?ym0 ?xA1 ?xL1 ?xs1 ?xg1 ?xh1 ?xc1 ?xf1a ?xi1 ?xt1 ?xl1 ?xd1 ?xk1 ?yk1 ?ye1 ?yt1 ?yh1 ?yc1 ?ym1 ?xA2 ?xL2 ?xs2 ?xg2 ?xh2 ?xc2 ?xf2a ?xf2b ?xi2 ?xt2 ?xl2 ?xd2 ?xk2 ?yk2 ?ye2 ?yt2 ?yh2 ?yc2 ?ym2 ?xA3 ?xL3 ?xs3 ?xg3 ?xh3 ?xc3 ?xf3a ?xi3 ?xt3 ?xl3 ?xd3 ?xk3 ?yk3 ?ye3 ?yt3 ?yh3 ?yc3 ?ym3 ?xA4 ?xL4 ?xs4 ?xg4 ?xh4 ?xc4 ?xf4a ?xi4 ?xt4 ?xl4 ?xd4 ?xk4 ?yk4 ?ye4 ?yt4 ?yh4 ?yc4 ?ym4 ?xA5 ?xL5 ?xs5 ?xg5 ?xh5 ?xc5 ?xf5a ?xi5 ?xt5 ?xl5 ?xd5 ?xk5 ?yk5 ?ye5 ?yt5 ?yh5 ?yc5 ?ym5 ?xA6 ?xL6 ?xs6 ?xg6 ?xh6 ?xc6 ?xf6a ?xf6b ?xi6 ?xt6 ?xl6 ?xd6 ?xk6 ?yk6 ?ye6 ?yt6 ?yh6 ?yc6 ?ym6 ?xA7 ?xL7 ?xs7 ?xg7 ?xh7 ?xc7 ?xi7 ?xt7 ?xl7 ?xd7 ?xk7 ?yk7 ?ye7 ?yt7 ?yh7 ?yc7 ?ym7 ?xA8 ?xL8 ?xs8 ?xg8 ?xh8 ?xc8 ?xf8a ?xi8 ?xt8 ?xl8 ?xd8 ?xk8 ?yk8 ?ye8 ?yt8 ?yh8 ?yc8 ?ym8 ?xA9 ?xL9 ?xs9 ?xg9 ?xh9 ?xc9 ?xf9a ?xi9 ?xt9 ?xl9 ?xd9 ?xk9 ?yk9 ?ye9 ?yt9 ?yh9 ?yc9 ?ym9 ?zn ?zt ?kt0_0 ?kt0_1 ?kt0_2 ?kt0_3 ?kt0_4 ?kt0_5 ?kt0_6 ?kt0_7 ?kt0_8 ?kt0_9 ?kt0_10 ?kt0_11 ?kt1_0 ?kt1_1 ?kt1_2 ?kt1_3 ?kt1_4 ?kt1_5 ?kt1_6 ?kt1_7 ?kt1_8 ?kt1_9 ?kt1_10 ?kt1_11 ?kt2_0 ?kt2_1 ?kt2_2 ?kt2_3 ?kt2_4 ?kt2_5 ?kt2_6 ?kt2_7 ?kt2_8 ?kt2_9 ?kt2_10 ?kt2_11 ?kt3_0 ?kt3_1 ?kt3_2 ?kt3_3 ?kt3_4 ?kt3_5 ?kt3_6 ?kt3_7 ?kt3_8 ?kt3_9 ?kt3_10 ?kt3_11 ?kt4_0 ?kt4_1 ?kt4_2 ?kt4_3 ?kt4_4 ?kt4_5 ?kt4_6 ?kt4_7 ?kt4_8 ?kt4_9 ?kt4_10 ?kt4_11 ?kt5_0 ?kt5_1 ?kt5_2 ?kt5_3 ?kt5_4 ?kt5_5 ?kt5_6 ?kt5_7 ?kt5_8 ?kt5_9 ?kt5_10 ?kt5_11 ?kt6_0 ?kt6_1 ?kt6_2 ?kt6_3 ?kt6_4 ?kt6_5 ?kt6_6 ?kt6_7 ?kt6_8 ?kt6_9 ?kt6_10 ?kt6_11 ?kt7_0 ?kt7_1 ?kt7_2 ?kt7_3 ?kt7_4 ?kt7_5 ?kt7_6 ?kt7_7 ?kt7_8 ?kt7_9 ?kt7_10 ?kt7_11 ?kt8_0 ?kt8_1 ?kt8_2 ?kt8_3 ?kt8_4 ?kt8_5 ?kt8_6 ?kt8_7 ?kt8_8 ?kt8_9 ?kt8_10 ?kt8_11 ?kt9_0 ?kt9_1 ?kt9_2 ?kt9_3 ?kt9_4 ?kt9_5 ?kt9_6 ?kt9_7 ?kt9_8 ?kt9_9 ?kt9_10 ?kt9_11 ?aBag ?lBag ?cBag ?kBag ?aTake ?lTake ?cTake ?kTake ?aSome ?lSome ?cSome ?kSome ?aAlike ?lAlike ?cAlike ?kAlike ?aValue ?lValue ?cValue ?kValue ?aKinds ?lKinds ?cKinds ?kKinds ?aMade ?lMade ?cMade ?kMade ?aKept ?lKept ?cKept ?kKept ?aDue ?lDue ?cDue ?kDue ?aLaw ?lLaw ?cLaw ?kLaw ?b_abs ?b_int ?b_len ?b_repr ?b_range ?b_tuple ?b_dict ?b_enumerate ?b_str ?b_isinstance ?b_ValueError
    (case sA => k_is); (case xA0 => k_is); (case xL0 => k_is); (case xs0 => k_is); (case xg0 => k_is); (case xh0 => k_is)
    (case xc0 => k_is); (case xf0a => k_is); (case xi0 => k_is); (case xt0 => k_is); (case xl0 => k_is); (case xd0 => k_is)
    (case xk0 => k_is); (case yk0 => k_is); (case ye0 => k_is); (case yt0 => k_is); (case yh0 => k_is); (case yc0 => k_is)
    (case ym0 => k_is); (case xA1 => k_is); (case xL1 => k_is); (case xs1 => k_is); (case xg1 => k_is); (case xh1 => k_is)
    (case xc1 => k_is); (case xf1a => k_is); (case xi1 => k_is); (case xt1 => k_is); (case xl1 => k_is); (case xd1 => k_is)
    (case xk1 => k_is); (case yk1 => k_is); (case ye1 => k_is); (case yt1 => k_is); (case yh1 => k_is); (case yc1 => k_is)
    (case ym1 => k_is); (case xA2 => k_is); (case xL2 => k_is); (case xs2 => k_is); (case xg2 => k_is); (case xh2 => k_is)
    (case xc2 => k_is); (case xf2a => k_is); (case xf2b => k_is); (case xi2 => k_is); (case xt2 => k_is); (case xl2 => k_is)
    (case xd2 => k_is); (case xk2 => k_is); (case yk2 => k_is); (case ye2 => k_is); (case yt2 => k_is); (case yh2 => k_is)
    (case yc2 => k_is); (case ym2 => k_is); (case xA3 => k_is); (case xL3 => k_is); (case xs3 => k_is); (case xg3 => k_is)
    (case xh3 => k_is); (case xc3 => k_is); (case xf3a => k_is); (case xi3 => k_is); (case xt3 => k_is); (case xl3 => k_is)
    (case xd3 => k_is); (case xk3 => k_is); (case yk3 => k_is); (case ye3 => k_is); (case yt3 => k_is); (case yh3 => k_is)
    (case yc3 => k_is); (case ym3 => k_is); (case xA4 => k_is); (case xL4 => k_is); (case xs4 => k_is); (case xg4 => k_is)
    (case xh4 => k_is); (case xc4 => k_is); (case xf4a => k_is); (case xi4 => k_is); (case xt4 => k_is); (case xl4 => k_is)
    (case xd4 => k_is); (case xk4 => k_is); (case yk4 => k_is); (case ye4 => k_is); (case yt4 => k_is); (case yh4 => k_is)
    (case yc4 => k_is); (case ym4 => k_is); (case xA5 => k_is); (case xL5 => k_is); (case xs5 => k_is); (case xg5 => k_is)
    (case xh5 => k_is); (case xc5 => k_is); (case xf5a => k_is); (case xi5 => k_is); (case xt5 => k_is); (case xl5 => k_is)
    (case xd5 => k_is); (case xk5 => k_is); (case yk5 => k_is); (case ye5 => k_is); (case yt5 => k_is); (case yh5 => k_is)
    (case yc5 => k_is); (case ym5 => k_is); (case xA6 => k_is); (case xL6 => k_is); (case xs6 => k_is); (case xg6 => k_is)
    (case xh6 => k_is); (case xc6 => k_is); (case xf6a => k_is); (case xf6b => k_is); (case xi6 => k_is); (case xt6 => k_is)
    (case xl6 => k_is); (case xd6 => k_is); (case xk6 => k_is); (case yk6 => k_is); (case ye6 => k_is); (case yt6 => k_is)
    (case yh6 => k_is); (case yc6 => k_is); (case ym6 => k_is); (case xA7 => k_is); (case xL7 => k_is); (case xs7 => k_is)
    (case xg7 => k_is); (case xh7 => k_is); (case xc7 => k_is); (case xi7 => k_is); (case xt7 => k_is); (case xl7 => k_is)
    (case xd7 => k_is); (case xk7 => k_is); (case yk7 => k_is); (case ye7 => k_is); (case yt7 => k_is); (case yh7 => k_is)
    (case yc7 => k_is); (case ym7 => k_is); (case xA8 => k_is); (case xL8 => k_is); (case xs8 => k_is); (case xg8 => k_is)
    (case xh8 => k_is); (case xc8 => k_is); (case xf8a => k_is); (case xi8 => k_is); (case xt8 => k_is); (case xl8 => k_is)
    (case xd8 => k_is); (case xk8 => k_is); (case yk8 => k_is); (case ye8 => k_is); (case yt8 => k_is); (case yh8 => k_is)
    (case yc8 => k_is); (case ym8 => k_is); (case xA9 => k_is); (case xL9 => k_is); (case xs9 => k_is); (case xg9 => k_is)
    (case xh9 => k_is); (case xc9 => k_is); (case xf9a => k_is); (case xi9 => k_is); (case xt9 => k_is); (case xl9 => k_is)
    (case xd9 => k_is); (case xk9 => k_is); (case yk9 => k_is); (case ye9 => k_is); (case yt9 => k_is); (case yh9 => k_is)
    (case yc9 => k_is); (case ym9 => k_is); (case zn => k_is); (case zt => k_is); (case kt0_0 => first | kit_is | k_is); (case kt0_1 => first | kit_is | k_is)
    (case kt0_2 => first | kit_is | k_is); (case kt0_3 => first | kit_is | k_is); (case kt0_4 => first | kit_is | k_is); (case kt0_5 => first | kit_is | k_is); (case kt0_6 => first | kit_is | k_is); (case kt0_7 => first | kit_is | k_is)
    (case kt0_8 => first | kit_is | k_is); (case kt0_9 => first | kit_is | k_is); (case kt0_10 => first | kit_is | k_is); (case kt0_11 => first | kit_is | k_is); (case kt1_0 => first | kit_is | k_is); (case kt1_1 => first | kit_is | k_is)
    (case kt1_2 => first | kit_is | k_is); (case kt1_3 => first | kit_is | k_is); (case kt1_4 => first | kit_is | k_is); (case kt1_5 => first | kit_is | k_is); (case kt1_6 => first | kit_is | k_is); (case kt1_7 => first | kit_is | k_is)
    (case kt1_8 => first | kit_is | k_is); (case kt1_9 => first | kit_is | k_is); (case kt1_10 => first | kit_is | k_is); (case kt1_11 => first | kit_is | k_is); (case kt2_0 => first | kit_is | k_is); (case kt2_1 => first | kit_is | k_is)
    (case kt2_2 => first | kit_is | k_is); (case kt2_3 => first | kit_is | k_is); (case kt2_4 => first | kit_is | k_is); (case kt2_5 => first | kit_is | k_is); (case kt2_6 => first | kit_is | k_is); (case kt2_7 => first | kit_is | k_is)
    (case kt2_8 => first | kit_is | k_is); (case kt2_9 => first | kit_is | k_is); (case kt2_10 => first | kit_is | k_is); (case kt2_11 => first | kit_is | k_is); (case kt3_0 => first | kit_is | k_is); (case kt3_1 => first | kit_is | k_is)
    (case kt3_2 => first | kit_is | k_is); (case kt3_3 => first | kit_is | k_is); (case kt3_4 => first | kit_is | k_is); (case kt3_5 => first | kit_is | k_is); (case kt3_6 => first | kit_is | k_is); (case kt3_7 => first | kit_is | k_is)
    (case kt3_8 => first | kit_is | k_is); (case kt3_9 => first | kit_is | k_is); (case kt3_10 => first | kit_is | k_is); (case kt3_11 => first | kit_is | k_is); (case kt4_0 => first | kit_is | k_is); (case kt4_1 => first | kit_is | k_is)
    (case kt4_2 => first | kit_is | k_is); (case kt4_3 => first | kit_is | k_is); (case kt4_4 => first | kit_is | k_is); (case kt4_5 => first | kit_is | k_is); (case kt4_6 => first | kit_is | k_is); (case kt4_7 => first | kit_is | k_is)
    (case kt4_8 => first | kit_is | k_is); (case kt4_9 => first | kit_is | k_is); (case kt4_10 => first | kit_is | k_is); (case kt4_11 => first | kit_is | k_is); (case kt5_0 => first | kit_is | k_is); (case kt5_1 => first | kit_is | k_is)
    (case kt5_2 => first | kit_is | k_is); (case kt5_3 => first | kit_is | k_is); (case kt5_4 => first | kit_is | k_is); (case kt5_5 => first | kit_is | k_is); (case kt5_6 => first | kit_is | k_is); (case kt5_7 => first | kit_is | k_is)
    (case kt5_8 => first | kit_is | k_is); (case kt5_9 => first | kit_is | k_is); (case kt5_10 => first | kit_is | k_is); (case kt5_11 => first | kit_is | k_is); (case kt6_0 => first | kit_is | k_is); (case kt6_1 => first | kit_is | k_is)
    (case kt6_2 => first | kit_is | k_is); (case kt6_3 => first | kit_is | k_is); (case kt6_4 => first | kit_is | k_is); (case kt6_5 => first | kit_is | k_is); (case kt6_6 => first | kit_is | k_is); (case kt6_7 => first | kit_is | k_is)
    (case kt6_8 => first | kit_is | k_is); (case kt6_9 => first | kit_is | k_is); (case kt6_10 => first | kit_is | k_is); (case kt6_11 => first | kit_is | k_is); (case kt7_0 => first | kit_is | k_is); (case kt7_1 => first | kit_is | k_is)
    (case kt7_2 => first | kit_is | k_is); (case kt7_3 => first | kit_is | k_is); (case kt7_4 => first | kit_is | k_is); (case kt7_5 => first | kit_is | k_is); (case kt7_6 => first | kit_is | k_is); (case kt7_7 => first | kit_is | k_is)
    (case kt7_8 => first | kit_is | k_is); (case kt7_9 => first | kit_is | k_is); (case kt7_10 => first | kit_is | k_is); (case kt7_11 => first | kit_is | k_is); (case kt8_0 => first | kit_is | k_is); (case kt8_1 => first | kit_is | k_is)
    (case kt8_2 => first | kit_is | k_is); (case kt8_3 => first | kit_is | k_is); (case kt8_4 => first | kit_is | k_is); (case kt8_5 => first | kit_is | k_is); (case kt8_6 => first | kit_is | k_is); (case kt8_7 => first | kit_is | k_is)
    (case kt8_8 => first | kit_is | k_is); (case kt8_9 => first | kit_is | k_is); (case kt8_10 => first | kit_is | k_is); (case kt8_11 => first | kit_is | k_is); (case kt9_0 => first | kit_is | k_is); (case kt9_1 => first | kit_is | k_is)
    (case kt9_2 => first | kit_is | k_is); (case kt9_3 => first | kit_is | k_is); (case kt9_4 => first | kit_is | k_is); (case kt9_5 => first | kit_is | k_is); (case kt9_6 => first | kit_is | k_is); (case kt9_7 => first | kit_is | k_is)
    (case kt9_8 => first | kit_is | k_is); (case kt9_9 => first | kit_is | k_is); (case kt9_10 => first | kit_is | k_is); (case kt9_11 => first | kit_is | k_is); (case aBag => k_is); (case lBag => k_is)
    (case cBag => k_is); (case kBag => k_is); (case aTake => k_is); (case lTake => k_is); (case cTake => k_is); (case kTake => k_is)
    (case aSome => k_is); (case lSome => k_is); (case cSome => k_is); (case kSome => k_is); (case aAlike => k_is); (case lAlike => k_is)
    (case cAlike => k_is); (case kAlike => k_is); (case aValue => k_is); (case lValue => k_is); (case cValue => k_is); (case kValue => k_is)
    (case aKinds => k_is); (case lKinds => k_is); (case cKinds => k_is); (case kKinds => k_is); (case aMade => k_is); (case lMade => k_is)
    (case cMade => k_is); (case kMade => k_is); (case aKept => k_is); (case lKept => k_is); (case cKept => k_is); (case kKept => k_is)
    (case aDue => k_is); (case lDue => k_is); (case cDue => k_is); (case kDue => k_is); (case aLaw => k_is); (case lLaw => k_is)
    (case cLaw => k_is); (case kLaw => k_is); (case b_abs => k_is); (case b_int => k_is); (case b_len => k_is); (case b_repr => k_is)
    (case b_range => k_is); (case b_tuple => k_is); (case b_dict => k_is); (case b_enumerate => k_is); (case b_str => k_is); (case b_isinstance => k_is)
    (case b_ValueError => k_is)
