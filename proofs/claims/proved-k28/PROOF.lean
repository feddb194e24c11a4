import PyProof.Rows.All
import Wide.All
import OpenK.AllK
import Wide.FinOn
import HandS.TupSets
import HandS.SortOrd
import KE.KeyNested
import KE.SortData
import KE.KStateDown
import HandS.Ends
import HandS.Exc
import HandS.WordsExc
import HandS.Defaults
import HandS.Head0
import HandS.Head1
import HandS.Head2
import HandS.HeadHook1
import HandS.HeadHook2
import HandS.HeadHook3
import HandS.HeadHook4
import HandS.Base
import HandS.Call
import HandS.List
import HandS.Comp
import HandS.Dict
import HandS.Iter
import HandS.Words
import HandS.IsInst
import HandS.Wide
import HandS.Flow
import HandS.TupAny
import HandS.Deep
import HandS.Style
import HandS.GenList
import HandS.GenYield
import PyProof.GenRules
import PyProof.ForAny
import HandS.Zip
import HandS.SortRule
import HandS.DictComp
import KE.KDictPairs
import KE.GoesZip
import KE.GoesMore
import PyProof.Draws
import PyProof.EnumMake
import PyProof.EnumFor
import HandS.SetFor
import HandS.Strs
import PyProof.ReprRoads
import PyProof.ReprLen
import HandS.Sort
import KE.KSortTupAny
import KE.KDictCopyH
import KE.KDictSum
import KE.KDictKeyed
import KE.KDictDisplayH
import HandS.HeadEnd
import PySem.Challenge.RW_orderless_k28_whole_prefixes_and_orders
set_option Elab.async false
set_option linter.all false
set_option maxRecDepth 100000
section
/-! sets of tuples of any hashable data -/
namespace SH
open PySem PySem.Spec PyProof.Rows L2
section
variable {P : Program} {w : World} {κ : Type} [DecidableEq κ]
/-- what a set asks of its keys beside what a dict asks -/
structure Fine (kd : HeapKind P w κ) : Prop where
  grow : ∀ {h g : Heap} {k : κ} {b : Addr}, kd.is h k b → (∀ c o vs n, h.get? c = some o → o.data = .seq vs n → g.get? c = some o) → kd.is g k b
  cls : ∀ {A : Around} {E : Value → Shared → Prop} {s : Shared} {k : κ} {b : Addr} {Q : Bool → Shared → Prop}, kd.is s.heap k b → Q false s → wpAny (model P w) A (ofAClassStatement 8 (.ref b)) Q E s
  val : ∀ {A : Around} {E : Value → Shared → Prop} {s : Shared} {k : κ} {b : Addr} {Q : Bool → Shared → Prop}, kd.is s.heap k b → (∀ v, Q v s) → wpAny (model P w) A (hashByValue 8 (.ref b)) Q E s
variable {kd : HeapKind P w κ} {A : Around} {E : Value → Shared → Prop} {s : Shared}
theorem Fine.more (F : Fine kd) {h g : Heap} {k : κ} {b : Addr} (x : kd.is h k b) (up : ∀ c o, h.get? c = some o → g.get? c = some o) : kd.is g k b := F.grow x fun c o _ _ e _ => up c o e
theorem Fine.beside (F : Fine kd) {h g : Heap} {k : κ} {a b : Addr} {o : Obj} {es : Array (Int × Value)} {ep : Nat} {t : SetTable} (x : kd.is h k b) (oh : h.get? a = some o) (dh : o.data = .set es ep t) (sb : Heap.SameBut a h g) : kd.is g k b := by
  refine F.grow x fun c u vs n e du => (sb.2 c fun z => ?_).trans e
  subst z
  obtain rfl : u = o := Option.some.inj (e.symm.trans oh)
  rw [dh] at du
  cases du
/-- a search shows nothing of them -/
theorem unseen (F : Fine kd) {k : κ} {b : Addr} {Q : Bool → Shared → Prop} (kb : kd.is s.heap k b) {ys : List Value} (all : ∀ y ∈ ys, ∃ j c, y = Value.ref c ∧ kd.is s.heap j c) (q : Q false s) :
    wpAny (model P w) A (searchCouldBeSeen (.ref b) ys) Q E s := by
  unfold searchCouldBeSeen
  refine wpAny_bind ?_
  refine wpAny_forIn_list _ (fun more r t => r.1 = none ∧ t = s ∧ ∀ y ∈ more, ∃ j c, y = Value.ref c ∧ kd.is s.heap j c) _ ?_ ?_ _ _ ⟨rfl, rfl, all⟩
  · rintro y more r t ⟨er, rfl, al⟩
    obtain ⟨j, c, rfl, kc⟩ := al y List.mem_cons_self
    have go_on : ∀ y ∈ more, ∃ j c, y = Value.ref c ∧ kd.is t.heap j c := fun u hu => al u (List.mem_cons_of_mem _ hu)
    dsimp only
    by_cases very : (b == c || (carriedByValue (.ref b) && carriedByValue (.ref c))) = true
    · exact wp_if_pos very (wpAny_pure ⟨rfl, rfl, go_on⟩)
    · refine wp_if_neg very ?_
      refine wpAny_bind (kd.quiet kb ?_)
      simp only [Bool.not_true, Bool.false_eq_true, if_false]
      refine wpAny_bind (kd.quiet kc ?_)
      simp only [Bool.not_true, Bool.false_eq_true, if_false]
      refine wpAny_bind (F.cls kb ?_)
      simp only [Bool.false_eq_true, if_false]
      refine wpAny_bind (F.cls kc ?_)
      simp only [Bool.false_eq_true, if_false]
      exact wpAny_pure ⟨rfl, rfl, go_on⟩
  · rintro ⟨r1, r2⟩ t ⟨er, rfl, _⟩
    simp only at er
    subst er
    exact wpAny_pure q

/-! ### the set -/
def rws (kd : HeapKind P w κ) (L : List (Addr × κ)) : List (Int × Value) := L.map fun e => (kd.hash e.2, Value.ref e.1)
abbrev hss (kd : HeapKind P w κ) (L : List (Addr × κ)) : List Int := L.map fun e => kd.hash e.2
structure Tab (kd : HeapKind P w κ) (h : Heap) (a : Addr) (L : List (Addr × κ)) (es : Array (Int × Value)) (ep : Nat) (t : SetTable) : Prop where
  here : ∃ o, h.get? a = some o ∧ o.ExactSet ∧ o.data = .set es ep t
  list : es.toList = rws kd L
  tab : TabOk t (hss kd L)
  once : (L.map (·.2)).Nodup
  keys : ∀ e ∈ L, kd.is h e.2 e.1
  led : w.params.followText "set-order" = true ∨ t.led = true
  room : L.length * 5 < t.mask * 3
  few : L.length < 64
theorem rws_size {L : List (Addr × κ)} {es : Array (Int × Value)} (e : es.toList = rws kd L) : es.size = L.length := by
  have z := congrArg List.length e
  unfold rws at z
  rwa [Array.length_toList, List.length_map] at z
variable {a : Addr} {L : List (Addr × κ)} {es : Array (Int × Value)} {ep : Nat} {t : SetTable}
theorem Tab.size (Y : Tab kd s.heap a L es ep t) : es.size = L.length := rws_size Y.list
theorem Tab.fits (Y : Tab kd s.heap a L es ep t) : t.fits es.size = true := by
  have z1 := Y.tab.sz
  rw [List.length_map] at z1
  have z2 := Y.size
  have z3 := Y.room
  unfold SetTable.fits SetTable.fill
  rw [Y.tab.dm, Bool.and_eq_true, beq_iff_eq, decide_eq_true_eq]
  show t.place.size = es.size ∧ t.place.size + 0 ≤ t.mask
  omega
theorem Tab.at (Y : Tab kd s.heap a L es ep t) {i : Nat} {e : Addr × κ} (g : L[i]? = some e) : es[i]? = some (kd.hash e.2, Value.ref e.1) := by
  rw [← Array.getElem?_toList, Y.list]
  unfold rws
  rw [List.getElem?_map, g] <;> rfl
theorem Tab.whole (Y : Tab kd s.heap a L es ep t) : ¬ t.gaveWay = true := by
  unfold SetTable.gaveWay
  rw [mask_odd Y.tab.mok]
  decide
abbrev beg (m : Nat) (h : Int) : SetTable.Probe := runAt m (SetTable.bits h % (m + 1)) (SetTable.bits h)
theorem nth_clean (m : Nat) : ∀ (n : Nat) (p : SetTable.Probe), p.dummy = none → (nth m p n).dummy = none
  | 0, _, e => e
  | n + 1, p, e => nth_clean m n (adv m p) (by unfold adv; split <;> exact e)

/-- the search, from a step of its way on -/
theorem seek (F : Fine kd) (Y : Tab kd s.heap a L es ep t) {x : Addr} {k : κ} (kx : kd.is s.heap k x) (rm : kd.room A) {N : Nat} (nf : N < 10 * SetTable.turns t.mask)
    (free : way t.mask (kd.hash k) N ∉ t.place.toList) (full : ∀ c, c < N → way t.mask (kd.hash k) c ∈ t.place.toList) {Q : SetFound → Shared → Prop}
    (yes : k ∈ L.map (·.2) → Q (.there none) s) (no : k ∉ L.map (·.2) → Q (.free (way t.mask (kd.hash k) N) false) s) :
    ∀ (f c : Nat) (st : Option SetTable.Probe), st.getD (t.probeStart (kd.hash k)) = nth t.mask (beg t.mask (kd.hash k)) c → c ≤ N → N - c < f →
      (∀ (i : Nat) e, L[i]? = some e → e.2 = k → ∃ c', c ≤ c' ∧ c' < N ∧ t.place.toList[i]? = some (way t.mask (kd.hash k) c')) →
      wpAny (model P w) A (setSearchFrom a (.ref x) (kd.hash k) true f st) Q E s
  | 0, c, st, _, _, lf, _ => absurd lf (Nat.not_lt_zero _)
  | f + 1, c, st, at_c, cN, lf, ahead => by
    obtain ⟨o, oh, ex, dh⟩ := Y.here
    rw [setSearchFrom_succ]
    refine wpAny_bind (wpAny_setState_of oh dh Y.fits ?_)
    dsimp only
    refine wp_if_neg Y.whole ?_
    try refine wpAny_bind (wpAny_pure ?_)
    have clean := nth_clean t.mask c (beg t.mask (kd.hash k)) rfl
    have shift : ∀ q, nth t.mask (nth t.mask (beg t.mask (kd.hash k)) c) q = nth t.mask (beg t.mask (kd.hash k)) (c + q) := fun q => (nth_add t.mask c _ q).symm
    have shj : ∀ q, (nth t.mask (nth t.mask (beg t.mask (kd.hash k)) c) q).j = way t.mask (kd.hash k) (c + q) := fun q => congrArg SetTable.Probe.j (shift q)
    have told := go_spec t Y.tab.ris Y.tab.dm (fun i => (es[i]?.map (·.1)).getD 0) (kd.hash k) (10 * SetTable.turns t.mask) (N - c) _ clean (by omega)
      (fun q hq => by rw [shj]; exact full (c + q) (by omega)) (by rw [shj, show c + (N - c) = N by omega]; exact free)
    have hat : ∀ (i : Nat) e, L[i]? = some e → (fun i => (es[i]?.map (·.1)).getD 0) i = kd.hash e.2 := fun i e g => by
      show (es[i]?.map (·.1)).getD 0 = _
      rw [Y.at g] <;> rfl
    rcases told with ⟨q, i, lq, gi, eh, before, ans⟩ | ⟨before, ans⟩
    · have ans2 : t.probe (fun i => (es[i]?.map (·.1)).getD 0) (kd.hash k) (st.getD (t.probeStart (kd.hash k))) = some (.candidate (way t.mask (kd.hash k) (c + q)) i (nth t.mask (beg t.mask (kd.hash k)) (c + (q + 1)))) := by
        rw [at_c, ← shj, ← shift]
        exact ans
      rw [ans2]
      dsimp only
      rw [shj] at gi
      have il : i < L.length := by
        have z1 : i < t.place.toList.length := (List.getElem?_eq_some_iff.mp gi).1
        have z2 := Y.tab.sz
        rw [List.length_map] at z2
        rw [Array.length_toList] at z1
        omega
      have ge : L[i]? = some L[i] := List.getElem?_eq_getElem il
      generalize L[i] = e at ge
      have inL : e ∈ L := List.mem_of_getElem? ge
      have ke := Y.keys e inL
      have live : t.slot (way t.mask (kd.hash k) (c + q)) = .live i := slot_live Y.tab.ris gi
      have rest : wpAny (model P w) A (searchRest a (.ref x) (kd.hash k) true f es t (way t.mask (kd.hash k) (c + q)) i (nth t.mask (beg t.mask (kd.hash k)) (c + (q + 1)))) Q E s := by
        unfold searchRest
        rw [Y.at ge]
        dsimp only
        refine wpAny_bind (wpAny_holding (kd.eqBool rm ke kx ?_))
        refine wpAny_bind (wpAny_setState_of oh dh Y.fits ?_)
        dsimp only
        by_cases hit : e.2 = k
        · refine wp_if_pos (by simp [hit]) ?_
          exact wpAny_pure (yes (List.mem_map.mpr ⟨e, inL, hit⟩))
        · refine wp_if_neg (by simp [hit]) ?_
          try refine wpAny_bind (wpAny_pure ?_)
          rw [sameMem]
          dsimp only
          simp only [if_true, live, Y.at ge]
          refine wpAny_bind (wpAny_isSame_ref_self (wpAny_bind (wpAny_pure ?_)))
          simp only [if_true]
          refine wp_if_neg (by simp [hit]) ?_
          refine seek F Y kx rm nf free full yes no f (c + (q + 1)) _ rfl (by omega) (by omega) fun i0 e0 g0 k0 => ?_
          obtain ⟨c', c1, c2, c3⟩ := ahead i0 e0 g0 k0
          refine ⟨c', ?_, c2, c3⟩
          rcases Nat.lt_trichotomy c' (c + q) with z | z | z
          · refine absurd ((hat i0 e0 g0).trans (congrArg kd.hash k0)) (before (c' - c) i0 (by omega) ?_)
            rw [shj, show c + (c' - c) = c' by omega]
            exact c3
          · rw [z] at c3
            have l0 := slot_live Y.tab.ris c3
            rw [live] at l0
            injection l0 with l0
            rw [← l0, ge] at g0
            exact absurd ((congrArg Prod.snd (Option.some.inj g0)).trans k0) hit
          · omega
      by_cases ld : t.led = true
      · refine wp_if_neg (by simp [ld]) ?_
        try refine wpAny_bind (wpAny_pure ?_)
        exact rest
      · refine wp_if_pos (by simp [ld]) ?_
        refine wpAny_bind (unseen F kx (fun y hy => ?_) ?_)
        · obtain ⟨u, hu, rfl⟩ := List.mem_map.mp hy
          have u1 : u ∈ es ∧ u.1 = kd.hash k := by simpa using hu
          have u2 : u ∈ es.toList := by simpa using u1.1
          rw [Y.list] at u2
          obtain ⟨v, hv, rfl⟩ := List.mem_map.mp u2
          exact ⟨v.2, v.1, rfl, Y.keys v hv⟩
        · refine wp_if_neg (by decide) ?_
          try refine wpAny_bind (wpAny_pure ?_)
          exact rest
    · have ans2 : t.probe (fun i => (es[i]?.map (·.1)).getD 0) (kd.hash k) (st.getD (t.probeStart (kd.hash k))) = some (.empty (way t.mask (kd.hash k) N) none) := by
        have z : way t.mask (kd.hash k) N = (nth t.mask (nth t.mask (beg t.mask (kd.hash k)) c) (N - c)).j := by
          rw [shj, show c + (N - c) = N by omega]
        rw [at_c, z]
        exact ans
      rw [ans2]
      dsimp only
      refine wpAny_pure (no fun inK => ?_)
      obtain ⟨e0, in0, k0⟩ := List.mem_map.mp inK
      obtain ⟨i0, l0, z0⟩ := List.getElem_of_mem in0
      have g0 : L[i0]? = some e0 := by rw [List.getElem?_eq_getElem l0, z0]
      obtain ⟨c', c1, c2, c3⟩ := ahead i0 e0 g0 k0
      refine absurd ((hat i0 e0 g0).trans (congrArg kd.hash k0)) (before (c' - c) i0 (by omega) ?_)
      rw [shj, show c + (c' - c) = c' by omega]
      exact c3
theorem seek_add (F : Fine kd) (Y : Tab kd s.heap a L es ep t) {x : Addr} {k : κ} (kx : kd.is s.heap k x) (rm : kd.room A) {Q : SetFound → Shared → Prop}
    (yes : k ∈ L.map (·.2) → Q (.there none) s)
    (no : ∀ N, k ∉ L.map (·.2) → way t.mask (kd.hash k) N ∉ t.place.toList → (∀ c, c < N → way t.mask (kd.hash k) c ∈ t.place.toList) → Q (.free (way t.mask (kd.hash k) N) false) s) :
    wpAny (model P w) A (setSearch a (.ref x) (kd.hash k) true) Q E s := by
  have rm5 := Y.room
  obtain ⟨N, nf, free, full⟩ := Y.tab.first (by rw [List.length_map]; omega) (kd.hash k)
  have small : N < 100000 := by
    have : 10 * SetTable.turns t.mask ≤ 1420 := by
      unfold SetTable.turns
      rcases Y.tab.mok with e | e | e <;> omega
    omega
  unfold setSearch
  refine seek F Y kx rm nf free full yes (fun out => no N out free full) 100000 0 none rfl (Nat.zero_le _) (by omega) fun i e g ek => ?_
  have hi : (hss kd L)[i]? = some (kd.hash k) := by rw [List.getElem?_map, g, ← ek] <;> rfl
  have il : i < t.place.toList.length := by
    have z1 : i < L.length := (List.getElem?_eq_some_iff.mp g).1
    have z2 := Y.tab.sz
    rw [List.length_map] at z2
    rw [Array.length_toList]
    omega
  have pj := List.getElem?_eq_getElem il
  obtain ⟨c, lc, z⟩ := Y.tab.before free hi pj
  exact ⟨c, Nat.zero_le _, lc, by rw [pj, z]⟩

/-! ### putting in -/
theorem rws_mid (L : List (Addr × κ)) (p : Nat) (e : Addr × κ) : rws kd (L.take p ++ e :: L.drop p) = (rws kd L).take p ++ (kd.hash e.2, Value.ref e.1) :: (rws kd L).drop p := by
  unfold rws
  rw [List.map_append, List.map_cons, List.map_take, List.map_drop]
theorem rws_order (L : List (Addr × κ)) (es : Array (Int × Value)) (order : Array Nat) (el : es.toList = rws kd L) (po : order.toList.Perm (List.range L.length)) :
    ∃ M, (order.filterMap (es[·]?)).toList = rws kd M ∧ M.Perm L ∧ hss kd M = order.toList.map fun i => (es.map (·.1)).getD i 0 := by
  have zs : es.size = L.length := rws_size el
  have at_ : ∀ i (l : i < L.length), es[i]? = some (kd.hash (L[i]).2, Value.ref (L[i]).1) := fun i l => by
    rw [← Array.getElem?_toList, el]
    unfold rws
    rw [List.getElem?_map, List.getElem?_eq_getElem l] <;> rfl
  have each : ∀ l : List Nat, (∀ i ∈ l, i < L.length) → ∃ M : List (Addr × κ), l.filterMap (fun i => es[i]?) = rws kd M ∧ M = l.filterMap (fun i => L[i]?) ∧ hss kd M = l.map fun i => (es.map (·.1)).getD i 0 := by
    intro l
    induction l with
    | nil => exact fun _ => ⟨[], rfl, rfl, rfl⟩
    | cons i l ih =>
      intro below
      have li := below i List.mem_cons_self
      obtain ⟨M, m1, m2, m3⟩ := ih fun j hj => below j (List.mem_cons_of_mem _ hj)
      refine ⟨L[i] :: M, ?_, ?_, ?_⟩
      · rw [List.filterMap_cons_some (at_ i li), m1] <;> rfl
      · rw [List.filterMap_cons_some (List.getElem?_eq_getElem li), m2]
      · have z : (es.map (·.1)).getD i 0 = kd.hash (L[i]).2 := by
          have z5 : (es.map (·.1))[i]? = some (kd.hash (L[i]).2) := by rw [Array.getElem?_map, at_ i li] <;> rfl
          simp [Array.getD_eq_getD_getElem?, z5]
        show kd.hash (L[i]).2 :: hss kd M = _
        rw [List.map_cons, m3, z]
  obtain ⟨M, m1, m2, m3⟩ := each order.toList fun i hi => List.mem_range.mp (po.mem_iff.mp hi)
  refine ⟨M, by first | (rw [Array.toList_filterMap]; exact m1) | simpa using m1, ?_, m3⟩
  have p1 : M.Perm ((List.range L.length).filterMap fun i => L[i]?) := by
    rw [m2]
    exact po.filterMap _
  have p2 : ∀ n, n ≤ L.length → (List.range n).filterMap (fun i => L[i]?) = L.take n := by
    intro n
    induction n with
    | zero => exact fun _ => rfl
    | succ n ih =>
      intro ln
      rw [List.range_succ, List.filterMap_append, ih (Nat.le_of_lt ln), List.take_succ, List.getElem?_eq_getElem ln]
      rw [List.filterMap_cons_some (List.getElem?_eq_getElem ln)] <;> rfl
  rw [p2 L.length (Nat.le_refl _), List.take_length] at p1
  exact p1
/-- all laid anew in a larger table -/
theorem lay_anew (F : Fine kd) {o : Obj} (oh : s.heap.get? a = some o) (ex : o.ExactSet) (dh : o.data = .set es ep t) (el : es.toList = rws kd L) (zs : t.place.size = es.size) (dm : t.dummies = #[]) (fl : es.size ≤ t.mask)
    (once : (L.map (·.2)).Nodup) (keys : ∀ e ∈ L, kd.is s.heap e.2 e.1) (ld : w.params.followText "set-order" = true ∨ t.led = true) (few : L.length < 64) {wanted M : Nat}
    (eM : SetTable.sizeAbove wanted - 1 = M) (okM : MaskOk M) (le : SetTable.sizeAbove wanted ≤ 128) (rm : L.length * 5 < M * 3) {Q : Unit → Shared → Prop}
    (q : ∀ g L' es' ep' t', Heap.SameBut a s.heap g → Tab kd g a L' es' ep' t' → L'.Perm L → Q () { s with heap := g }) : wpAny (model P w) A (setRelay a wanted) Q E s := by
  have zl : es.size = L.length := rws_size el
  have fit : t.fits es.size = true := by
    unfold SetTable.fits SetTable.fill
    rw [dm, Bool.and_eq_true, beq_iff_eq, decide_eq_true_eq]
    show t.place.size = es.size ∧ t.place.size + 0 ≤ t.mask
    omega
  obtain ⟨t', order, e, po, T, em, e_led, e_pl, e_dm⟩ := relaid_ok t (hs := es.map (·.1)) (wanted := wanted) eM okM (by rw [Array.size_map, zl]; omega)
  rw [Array.size_map, zl] at po
  obtain ⟨L2, r1, r2, r3⟩ := rws_order L es order el po
  rw [← r3] at T
  have z2 : (order.filterMap (es[·]?)).size = es.size := by
    rw [rws_size r1, r2.length_eq, zl]
  rw [setRelay_eq]
  refine wpAny_bind (wpAny_setState_of oh dh fit ?_)
  dsimp only
  refine wp_if_neg (by rw [sizeLine_eq]; omega) ?_
  try refine wpAny_bind (wpAny_pure ?_)
  rw [e]
  dsimp only
  refine wpAny_bind ?_
  refine wp_if_neg (by rw [z2]; simp) ?_
  try refine wpAny_bind (wpAny_pure ?_)
  refine wpAny_pure ?_
  dsimp only
  refine wpAny_storeSet_of oh dh ?_ (by rw [z2, zl, sizeLine_eq]; omega)
  have sb : Heap.SameBut a s.heap (s.heap.update a (Obj.putSet (order.filterMap (es[·]?)) t')) := Heap.SameBut.update ..
  refine q _ L2 (order.filterMap (es[·]?)) (ep + 1) t' sb ?_ r2
  refine ⟨⟨_, store_at oh dh, ⟨ex.1, ex.2.1, ex.2.2⟩, rfl⟩, r1, T, (r2.map (·.2)).nodup_iff.mpr once, fun e he => F.beside (keys e (r2.mem_iff.mp he)) oh dh sb, by rw [e_led]; exact ld, ?_, by rw [r2.length_eq]; exact few⟩
  rw [r2.length_eq, em]
  exact rm
/-- one key added -/
theorem add_key (F : Fine kd) (Y : Tab kd s.heap a L es ep t) {x : Addr} {k : κ} (kx : kd.is s.heap k x) (rm : kd.room A) (few : L.length + 1 < 64) {Q : Bool → Shared → Prop}
    (q : ∀ b g L' es' ep' t', Heap.SameBut a s.heap g → Tab kd g a L' es' ep' t' → (k ∈ L.map (·.2) → L' = L) → (k ∉ L.map (·.2) → L'.Perm ((x, k) :: L)) → Q b { s with heap := g }) :
    wpAny (model P w) A (setAddHashed a (.ref x) (kd.hash k)) Q E s := by
  obtain ⟨o, oh, ex, dh⟩ := Y.here
  have zl := Y.size
  have rm5 := Y.room
  unfold setAddHashed
  refine wpAny_holding ?_
  rw [show (100000 : Nat) = 99999 + 1 from rfl, setAddHashedIn_succ]
  refine wpAny_bind (wpAny_setState_of oh dh Y.fits ?_)
  dsimp only
  refine wp_if_neg (by simp [byScan, Value.scannable]) ?_
  try refine wpAny_bind (wpAny_pure ?_)
  refine wpAny_bind (seek_add F Y kx rm (fun inK => ?_) fun N out free full => ?_)
  · dsimp only
    exact wpAny_pure (q false s.heap L es ep t (Heap.SameBut.refl a s.heap) Y (fun _ => rfl) fun z => absurd inK z)
  · dsimp only
    refine wpAny_bind (wpAny_setState_of oh dh Y.fits ?_)
    dsimp only
    obtain ⟨q1, q2, q3, q4, q5, q6, q7, q8, q9⟩ := Y.tab.put free full
    generalize ept : t.put (way t.mask (kd.hash k) N) = pt at q1 q3 q4 q5 q6 q7 q8 q9 ⊢
    obtain ⟨t1, p⟩ := pt
    dsimp only at q1 q3 q4 q5 q6 q7 q8 q9 ⊢
    subst q1
    have mid : (SetTable.insertAt es (SetTable.below t.place (way t.mask (kd.hash k) N)) (kd.hash k, Value.ref x)).toList = rws kd (L.take (SetTable.below t.place (way t.mask (kd.hash k) N)) ++ (x, k) :: L.drop (SetTable.below t.place (way t.mask (kd.hash k) N))) := by
      rw [SetTable.toList_insertAt, rws_mid, Y.list]
    generalize SetTable.below t.place (way t.mask (kd.hash k) N) = p at q2 q3 mid ⊢
    have pm := put_perm L p (x, k)
    have ln : (L.take p ++ (x, k) :: L.drop p).length = L.length + 1 := pm.length_eq
    have eh : hss kd (L.take p ++ (x, k) :: L.drop p) = (hss kd L).take p ++ kd.hash k :: (hss kd L).drop p := by
      show List.map _ _ = _
      rw [List.map_append, List.map_cons, List.map_take, List.map_drop]
    rw [← eh] at q3
    have once1 : ((L.take p ++ (x, k) :: L.drop p).map (·.2)).Nodup := by
      refine (pm.map (·.2)).nodup_iff.mpr ?_
      rw [List.map_cons]
      exact List.nodup_cons.mpr ⟨out, Y.once⟩
    have z1 : (SetTable.insertAt es p (kd.hash k, Value.ref x)).size = L.length + 1 := (rws_size mid).trans ln
    generalize SetTable.insertAt es p (kd.hash k, Value.ref x) = es1 at mid z1 ⊢
    generalize L.take p ++ (x, k) :: L.drop p = L1 at pm ln q3 once1 mid
    -- plain or not: what is stored is found by its hash alone
    have fin : ∀ t2 : SetTable, t2.place = t1.place → t2.dummies = t1.dummies → t2.mask = t1.mask → t2.led = t1.led → wpAny (model P w) A (do
        storeSet a es1 t2
        if !false && t2.tooFull then setRelay a (SetTable.grown (es.size + 1))
        return true) Q E s := by
      intro t2 e1 e2 e3 e4
      have T2 : TabOk t2 (hss kd L1) := ⟨by rw [e1]; exact q3.ris, by rw [e2]; exact q3.dm, by rw [e1]; exact q3.sz, by rw [e3]; exact q3.mok, by rw [e1, e3]; exact q3.bd, by rw [e1, e3]; exact q3.reach⟩
      have f2 : t2.fill = L.length + 1 := by
        have z : t2.fill = t1.fill := by
          unfold SetTable.fill
          rw [e1, e2]
        rw [z, q9, List.length_map]
      refine wpAny_bind (wpAny_storeSet_of oh dh ?_ (by rw [z1, sizeLine_eq]; omega))
      have sb : Heap.SameBut a s.heap (s.heap.update a (Obj.putSet es1 t2)) := Heap.SameBut.update ..
      have oh1 := store_at (es' := es1) (t' := t2) oh dh
      generalize s.heap.update a (Obj.putSet es1 t2) = g1 at sb oh1 ⊢
      have keys1 : ∀ e ∈ L1, kd.is g1 e.2 e.1 := fun e he => by
        rcases List.mem_cons.mp (pm.mem_iff.mp he) with z | he
        · rw [z]; exact F.beside kx oh dh sb
        · exact F.beside (Y.keys e he) oh dh sb
      have ld1 : w.params.followText "set-order" = true ∨ t2.led = true := by rw [e4, q5]; exact Y.led
      have m2 : t2.mask = t.mask := e3.trans q4
      by_cases tf : t2.tooFull = true
      · first
          | (refine wpAny_bind ?_; refine wp_if_pos (by simp [tf]) ?_)
          | (refine wp_if_pos (by simp [tf]) ?_; refine wpAny_bind ?_)
        have full5 : (L.length + 1) * 5 ≥ t2.mask * 3 := by
          have z := tf
          unfold SetTable.tooFull at z
          rwa [decide_eq_true_eq, f2] at z
        rw [zl]
        have zp : t2.place.size = es1.size := by
          have z := T2.sz
          rw [List.length_map, ln] at z
          rw [z, z1]
        have two : (t.mask = 7 ∧ L.length = 4) ∨ (t.mask = 31 ∧ L.length = 18) := by
          rcases Y.tab.mok with e | e | e
          · exact .inl ⟨e, by rw [m2, e] at full5; rw [e] at rm5; omega⟩
          · exact .inr ⟨e, by rw [m2, e] at full5; rw [e] at rm5; omega⟩
          · exfalso; rw [m2, e] at full5; omega
        have onto : ∀ M, SetTable.sizeAbove (SetTable.grown (L.length + 1)) - 1 = M → MaskOk M → SetTable.sizeAbove (SetTable.grown (L.length + 1)) ≤ 128 → (L.length + 1) * 5 < M * 3 →
            wpAny (model P w) A (setRelay a (SetTable.grown (L.length + 1))) (fun _ s' => wpAny (model P w) A (pure true) Q E s') E { s with heap := g1 } := fun M a1 a2 a3 a4 => by
          refine lay_anew F (s := { s with heap := g1 }) oh1 ⟨ex.1, ex.2.1, ex.2.2⟩ rfl mid zp T2.dm (by rw [z1, m2]; rcases two with ⟨e, e2⟩ | ⟨e, e2⟩ <;> omega) once1 keys1 ld1 (by rw [ln]; exact few) a1 a2 a3 (by rw [ln]; exact a4) ?_
          intro g2 L2 es2 ep2 t3 sb2 Y2 pm2
          exact wpAny_pure (q true g2 L2 es2 ep2 t3 (sb.trans sb2) Y2 (fun z => absurd z out) fun _ => pm2.trans pm)
        rcases two with ⟨_, e2⟩ | ⟨_, e2⟩
        · exact onto 31 (by rw [e2, size_20]) (.inr (.inl rfl)) (by rw [e2, size_20]; decide) (by omega)
        · exact onto 127 (by rw [e2, size_76]) (.inr (.inr rfl)) (by rw [e2, size_76]; decide) (by omega)
      · first
          | refine wp_if_neg (by simp [tf]) ?_
          | (refine wpAny_bind ?_; refine wp_if_neg (by simp [tf]) ?_; refine wpAny_pure ?_)
        refine wpAny_pure (q true g1 L1 es1 (ep + 1) t2 sb ⟨⟨_, oh1, ⟨ex.1, ex.2.1, ex.2.2⟩, rfl⟩, mid, T2, once1, keys1, ld1, ?_, by rw [ln]; exact few⟩ (fun z => absurd z out) fun _ => pm)
        have z := tf
        unfold SetTable.tooFull at z
        rw [decide_eq_true_eq, f2] at z
        rw [ln]
        omega
    by_cases pl : t1.plain = true
    · first
        | (refine wpAny_bind ?_; refine wp_if_pos pl ?_; refine F.val kx fun v => ?_)
        | refine wp_if_pos pl (wpAny_bind (F.val kx fun v => ?_))
      cases v with
      | true =>
        simp only [if_true]
        exact fin t1 rfl rfl rfl rfl
      | false =>
        simp only [Bool.false_eq_true, if_false]
        exact fin { t1 with plain := false } rfl rfl rfl rfl
    · first
        | (refine wpAny_bind ?_; refine wp_if_neg pl ?_; refine wpAny_pure ?_)
        | refine wp_if_neg pl (wpAny_bind (wpAny_pure ?_))
      simp only [if_true]
      exact fin t1 rfl rfl rfl rfl
end
end SH

end
section
/-! sorted lists of tuples, empty ones among them -/
namespace SH
open PySem PySem.Spec PySem.W PySem.Calls PyProof.Rows PySem.SeqAt
section
variable {prog : Program} {w : World} {A : Around} {E : Value → Shared → Prop} {s : Shared}
/-- what firstOfTuple' finds -/
def Fst (h : Heap) (v : Value) (f : Option Value) : Prop := ∃ a o xs n, v = .ref a ∧ h.get? a = some o ∧ o.cls = .type "tuple" ∧ o.data = .seq xs n ∧ f = xs[0]?
theorem fsts {M : Model} : ∀ {vs : List Value} {fs : List (Option Value)} {Q : List (Option Value) → Shared → Prop}, EachIs (Fst s.heap) vs fs → Q fs s → wpAny M A (vs.mapM firstOfTuple') Q E s
  | _, _, _, .nil, q => by rw [List.mapM_nil]; exact wpAny_pure q
  | _, _, Q, .cons (a := v) (as := vs) (b := f) ⟨a, o, xs, n, ev, oh, oc, od, ef⟩ more, q => by
    subst ev ef
    rw [List.mapM_cons, kas_first_eq]
    refine wpAny_bind (wpAny_bind (Looks.here (show Looks M s.heap (typeOf (.ref a)) o.cls from (Looks.ld oh).andThen .now) ?_))
    rw [oc, if_neg (by first | decide | simp)]
    refine wpAny_bind (listItems_at oh od (wpAny_pure ?_))
    exact wpAny_bind (fsts (Q := fun bs t => wpAny M A (pure (xs[0]? :: bs)) Q E t) more (wpAny_pure q))
theorem each_fst {h : Heap} : ∀ {vs : List Value} {ds : List PyData}, EachIs (fun v d => ∃ as, Reads h v d as) vs ds → (∀ d ∈ ds, ∃ xs, d = .tuple xs) → ∃ fs, EachIs (Fst h) vs fs ∧ ((∃ d ∈ ds, d = .tuple []) → (fs.toArray.all fun x => x.isSome) = false) ∧ (∀ r, ds = .tuple [] :: r → ∃ u, fs = none :: u) ∧ (∀ x y r, ds = .tuple (x :: y) :: r → ∃ f u, fs = some f :: u)
  | _, _, .nil, _ => ⟨[], .nil, fun ⟨_, h, _⟩ => (nomatch h), fun _ e => (nomatch e), fun _ _ _ e => (nomatch e)⟩
  | _, _, .cons (b := d) (bs := ds) ⟨as, r⟩ more, tp => by
    obtain ⟨fs, f1, f2, _, _⟩ := each_fst more fun d hd => tp d (List.mem_cons_of_mem _ hd)
    obtain ⟨xs, rfl⟩ := tp d (List.mem_cons_self ..)
    cases r with
    | @tuple a o us n _ _ oh oc od rs =>
      refine ⟨us[0]? :: fs, .cons ⟨a, o, us, n, rfl, oh, oc, od, rfl⟩ f1, fun ⟨d, hd, ed⟩ => ?_, fun _ e => ?_, fun x y _ e => ?_⟩
      · rcases List.mem_cons.mp hd with z | z
        · rw [ed] at z
          injection z with z
          subst z
          have e0 : us[0]? = none := by
            cases q : us.toList with
            | nil => rw [← Array.getElem?_toList, q]; rfl
            | cons u ur => rw [q] at rs; cases rs
          simp [e0]
        · have := f2 ⟨d, z, ed⟩
          simp only [List.all_toArray, List.all_cons] at this ⊢
          rw [this, Bool.and_false]
      · injection e with e1 e2
        injection e1 with e1
        subst e1
        have e0 : us[0]? = none := by
          cases q : us.toList with
          | nil => rw [← Array.getElem?_toList, q]; rfl
          | cons u ur => rw [q] at rs; cases rs
        exact ⟨fs, by rw [e0]⟩
      · injection e with e1 e2
        injection e1 with e1
        subst e1
        cases q : us.toList with
        | nil => rw [q] at rs; cases rs
        | cons u ur => exact ⟨u, fs, by rw [← Array.getElem?_toList, q]; rfl⟩
theorem kind_gen {vs : List Value} {fs : List (Option Value)} {f : Value} {r : List (Option Value)} {Q : SortKind → Shared → Prop} (e : EachIs (Fst s.heap) vs fs) (some_none : (fs.toArray.all fun x => x.isSome) = false) (ef : fs = some f :: r) (q : Q general' s) :
    wpAny (model prog w) A (keyKind' vs.toArray) Q E s := by
  rw [kat_kind_eq, List.mapM_toArray, map_eq_pure_bind]
  refine wpAny_bind (wpAny_bind (fsts e (wpAny_pure ?_)))
  rw [if_neg (by rw [some_none]; exact Bool.false_ne_true)]
  subst ef
  rw [if_pos (by simp)]
  exact wpAny_pure q
theorem kind_one {vs : List Value} {fs : List (Option Value)} {r : List (Option Value)} {Q : SortKind → Shared → Prop} (e : EachIs (Fst s.heap) vs fs) (some_none : (fs.toArray.all fun x => x.isSome) = false) (ef : fs = none :: r) (q : Q oneType' s) :
    wpAny (model prog w) A (keyKind' vs.toArray) Q E s := by
  have tp : ∀ v ∈ vs, Looks (model prog w) s.heap (typeOf v) (.type "tuple") := fun v hv => by
    obtain ⟨f, _, a, o, xs, n, rfl, oh, oc, _⟩ := e.left v hv
    exact oc ▸ (Looks.ld oh).andThen .now
  have ln : fs.length = vs.length := e.length.symm
  rw [kat_kind_eq, List.mapM_toArray, map_eq_pure_bind]
  refine wpAny_bind (wpAny_bind (fsts e (wpAny_pure ?_)))
  rw [if_neg (by rw [some_none]; exact Bool.false_ne_true)]
  subst ef
  rw [if_neg (by simp)]
  rw [oneTypeOnly'_eq, List.mapM_toArray, map_eq_pure_bind]
  refine wpAny_bind (wpAny_bind (wpAny_bind (kas_mapM (r := Value.type "tuple") _ (fun v hv R z => (tp v hv).here z) (wpAny_pure ?_))))
  obtain ⟨v1, vr, rfl⟩ : ∃ v1 vr, vs = v1 :: vr := by
    cases vs with
    | nil => cases e
    | cons v1 vr => exact ⟨v1, vr, rfl⟩
  have all_ : ((List.map (fun _ => Value.type "tuple") (v1 :: vr)).toArray.all fun x => x == Value.type "tuple") = true := by
    simp only [List.all_toArray, List.all_map, List.all_eq_true]
    intro _ _
    show (Value.type "tuple" == Value.type "tuple") = true
    decide
  have h0 : (List.map (fun _ => Value.type "tuple") (v1 :: vr)).toArray[0]? = some (Value.type "tuple") := by simp
  rw [h0]
  simp only [all_, if_true]
  exact wpAny_pure (wpAny_pure q)
theorem room_in' {u a b : Nat} {xs ys : List PyData} (h : u + min (PyData.tuple xs).depth (PyData.tuple ys).depth < cLine) : u + 1 + min (PyData.depthAll xs) (PyData.depthAll ys) < cLine := SeqAt.room_in h
/-- the call of tuple's own __lt__, as sorting makes it -/
theorem one_tuple {xs ys : List PyData} {a b : Value} {as bs : List Addr} {Q : Bool → Shared → Prop} (ra : Reads s.heap a (.tuple xs) as) (rb : Reads s.heap b (.tuple ys) bs) (al : alike (.tuple xs) (.tuple ys) = true)
    (rm : A.units + min (PyData.tuple xs).depth (PyData.tuple ys).depth < cLine) (q : Q (dataLt (.tuple xs) (.tuple ys)) s) : wpAny (model prog w) A (oneLt' true a b) Q E s := by
  have al2 : alikeAll xs ys = true := by simpa [alike] using al
  cases ra with
  | @tuple l o vs n _ as1 h1 h2 h3 h4 =>
    cases rb with
    | @tuple l' o' us n' _ bs1 k1 k2 k3 k4 =>
      have n1 : vs.size = xs.length := by simpa using ReadsAll.length _ _ _ h4
      have n2 : us.size = ys.length := by simpa using ReadsAll.length _ _ _ k4
      rw [dataLt_tuple, ← firstLt_toks xs ys al2, ← n1, ← n2] at q
      rw [oneLt'_eq]
      simp only [if_true]
      refine wpAny_bind (wpAny_cRoomFor (SeqAt.room_here rm) ?_)
      obtain ⟨oc, odd, odat, osl⟩ := o
      obtain ⟨oc2, odd2, odat2, osl2⟩ := o'
      simp only at h2 h3 k2 k3
      subst h2 h3 k2 k3
      refine wpAny_bind (wpAny_callSpecialIfBound?_slot (T := "tuple") ⟨_, h1, rfl⟩ F.slot_tuple_lt (call_meets F.slot_tuple_lt ⟨_, h1, rfl⟩ F.entry_tuple_lt (F.args_tuple_lt_2 _ _)
        (tuple_ltAt l l' vs us n n' odd odd2 osl osl2 (pairEq xs ys) (fun j => dataLt (xs.getD j .none) (ys.getD j .none))) ⟨h1, k1, fun j j1 j2 => ?_, fun j j1 j2 ne => ?_, ?_⟩))
      · have z := eqAt_alikeAll xs ys A.in1 s vs.toList us.toList _ _ h4 k4 al2 (SeqAt.room_in rm) j (by simpa using j1) (by simpa using j2)
        simpa using z
      · have z := rcLt_alikeAll xs ys A.in1 s vs.toList us.toList _ _ h4 k4 al2 (SeqAt.room_in rm) j (by simpa using j1) (by simpa using j2) ne
        simpa using z
      · exact wpAny_truthy_bool q
/-- tuples of alike data can be sorted -/
theorem sortsTuples {vs : List Value} {ds : List PyData} (e : EachIs (fun v d => ∃ as, Reads s.heap v d as) vs ds) (al : AllAlike ds) (tp : ∀ d ∈ ds, ∃ xs, d = .tuple xs) (rm : ∀ d, d ∈ ds → A.units + d.depth < cLine) : SortsAt prog w A s (dataKind s.heap ds) vs := by
  by_cases empty : ∃ d ∈ ds, d = .tuple []
  · obtain ⟨fs, f1, f2, f3, f4⟩ := each_fst e tp
    have room : ∀ {d d' : PyData}, d ∈ ds → A.units + min d.depth d'.depth < cLine := fun {d d'} hd => Nat.lt_of_le_of_lt (Nat.add_le_add_left (Nat.min_le_left _ _) _) (rm d hd)
    refine ⟨fun v hv => ?_, ?_⟩
    · obtain ⟨d, hd, as, r⟩ := e.left v hv
      exact ⟨_, dataKind_some al hd r⟩
    obtain ⟨d0, dr, rfl⟩ : ∃ d0 dr, ds = d0 :: dr := by
      cases ds with
      | nil => obtain ⟨_, h, _⟩ := empty; cases h
      | cons d0 dr => exact ⟨d0, dr, rfl⟩
    obtain ⟨x0, rfl⟩ := tp d0 (List.mem_cons_self ..)
    cases x0 with
    | nil =>
      obtain ⟨r, er⟩ := f3 dr rfl
      refine ⟨oneType', fun E x y a b Q ha hb q => ?_, fun _ E Q q => kind_one f1 (f2 empty) er q⟩
      obtain ⟨d, as, hd, ra, rfl⟩ := dataKind_inv ha
      obtain ⟨d', as', hd', rb, rfl⟩ := dataKind_inv hb
      obtain ⟨xs, rfl⟩ := tp d hd
      obtain ⟨ys, rfl⟩ := tp d' hd'
      rw [keyLt'_oneType]
      exact one_tuple ra rb (al _ hd _ hd') (room hd) q
    | cons x xr =>
      obtain ⟨f, r, er⟩ := f4 x xr dr rfl
      refine ⟨general', fun E x y a b Q ha hb q => ?_, fun _ E Q q => kind_gen f1 (f2 empty) er q⟩
      obtain ⟨d, as, hd, ra, rfl⟩ := dataKind_inv ha
      obtain ⟨d', as', hd', rb, rfl⟩ := dataKind_inv hb
      obtain ⟨xs, rfl⟩ := tp d hd
      exact oneLt_alike (f := false) (fun z => by cases z) ra rb (al _ hd _ hd') (fun z => by cases z) (room hd) q
  · refine SortsAt.data e al (.inl fun d hd => ?_) rm
    obtain ⟨xs, rfl⟩ := tp d hd
    cases xs with
    | nil => exact absurd ⟨_, hd, rfl⟩ empty
    | cons x r => exact ⟨x, r, rfl⟩
end

/-! ### tuples of texts -/
def lts (x y : Str) : Prop := x.cps.toList < y.cps.toList
instance : DecidableRel lts := fun x y => inferInstanceAs (Decidable (x.cps.toList < y.cps.toList))
theorem lts_irrefl (x : Str) : ¬ lts x x := List.lt_irrefl _
theorem lts_trans {x y z : Str} (h : lts x y) (k : lts y z) : lts x z := List.lt_trans h k
theorem lts_tri (x y : Str) : lts x y ∨ x = y ∨ lts y x := by
  by_cases h : lts x y
  · exact .inl h
  · by_cases k : lts y x
    · exact .inr (.inr k)
    · exact .inr (.inl (str_of_cps (List.le_antisymm (List.not_lt.mp k) (List.not_lt.mp h))))
def tS (k : List Str) : PyData := .tuple (k.map .str)
theorem alike_strs : ∀ xs ys : List Str, alikeAll (xs.map .str) (ys.map .str) = true
  | [], ys => by cases ys <;> rfl
  | _ :: _, [] => rfl
  | x :: xs, y :: ys => by
    show alikeAll (PyData.str x :: _) (PyData.str y :: _) = true
    rw [alikeAll, alike_strs xs ys]
    rfl
theorem depth_strs : ∀ xs : List Str, PyData.depthAll (xs.map .str) = 0
  | [] => rfl
  | x :: xs => by
    show PyData.depthAll (PyData.str x :: _) = 0
    rw [PyData.depthAll, depth_strs xs]
    rfl
theorem lt_strs : ∀ xs ys : List Str, rowLt (xs.map .str) (ys.map .str) = true ↔ List.Lex lts xs ys
  | [], [] => by
    have e : rowLt [] [] = false := lex_irrefl _
    show rowLt [] [] = true ↔ _
    rw [e]
    exact ⟨(fun z => by cases z), fun z => by cases z⟩
  | [], y :: ys => by
    have e : rowLt [] (PyData.str y :: ys.map .str) = true := by
      unfold rowLt
      rw [toks_all_cons]
      simp only [keyToksAll]
      rw [lex_diff (O := itemOrd) (by simp)]
      rfl
    exact ⟨fun _ => .nil, fun _ => e⟩
  | x :: xs, [] => by
    have e : rowLt (PyData.str x :: xs.map .str) [] = false := by
      unfold rowLt
      rw [toks_all_cons]
      simp only [keyToksAll]
      rw [lex_diff (O := itemOrd) (by simp)]
      rfl
    show rowLt (PyData.str x :: xs.map .str) [] = true ↔ _
    rw [e]
    exact ⟨(fun z => by cases z), fun z => by cases z⟩
  | x :: xs, y :: ys => by
    have e : rowLt (PyData.str x :: xs.map .str) (PyData.str y :: ys.map .str) = if x = y then rowLt (xs.map .str) (ys.map .str) else decide (lts x y) := by
      unfold rowLt
      rw [dataLt_cons (by simp [alike]), dataLt_str]
      simp only [PyData.eqv, beq_iff_eq]
      rfl
    show rowLt (PyData.str x :: xs.map .str) (PyData.str y :: ys.map .str) = true ↔ _
    rw [e]
    by_cases h : x = y
    · subst h
      rw [if_pos rfl, lt_strs xs ys]
      constructor
      · exact fun z => .cons z
      · intro z
        cases z with
        | cons z => exact z
        | rel z => exact absurd z (lts_irrefl _)
    · rw [if_neg h, decide_eq_true_eq]
      constructor
      · exact fun z => .rel z
      · intro z
        cases z with
        | cons z => exact absurd rfl h
        | rel z => exact z
def tle (a b : List Str) : Bool := dataLe false tS a b
theorem tle_iff (a b : List Str) : tle a b = true ↔ ¬ List.Lex lts b a := by
  show (!dataLt (.tuple (b.map .str)) (.tuple (a.map .str))) = true ↔ _
  rw [dataLt_tuple, Bool.not_eq_true', ← lt_strs]
  exact Bool.not_eq_true _ ▸ Iff.rfl
def srtT (ks : List (List Str)) : List (List Str) := ks.mergeSort (dataLe false tS)
theorem lex_tri : ∀ a b : List Str, List.Lex lts a b ∨ a = b ∨ List.Lex lts b a
  | [], [] => .inr (.inl rfl)
  | [], _ :: _ => .inl .nil
  | _ :: _, [] => .inr (.inr .nil)
  | x :: a, y :: b => by
    rcases lts_tri x y with h | h | h
    · exact .inl (.rel h)
    · subst h
      rcases lex_tri a b with k | k | k
      · exact .inl (.cons k)
      · exact .inr (.inl (by rw [k]))
      · exact .inr (.inr (.cons k))
    · exact .inr (.inr (.rel h))
theorem lex_tr : ∀ {a b c : List Str}, List.Lex lts a b → List.Lex lts b c → List.Lex lts a c
  | _, _, _, .nil, .rel _ => .nil
  | _, _, _, .nil, .cons _ => .nil
  | _, _, _, .rel h, .rel k => .rel (lts_trans h k)
  | _, _, _, .rel h, .cons _ => .rel h
  | _, _, _, .cons _, .rel k => .rel k
  | _, _, _, .cons h, .cons k => .cons (lex_tr h k)
theorem lex_no : ∀ {a : List Str}, ¬ List.Lex lts a a
  | _, .rel h => lts_irrefl _ h
  | _, .cons h => lex_no h
theorem tle_trans (a b c : List Str) (h : tle a b = true) (k : tle b c = true) : tle a c = true := by
  rw [tle_iff] at *
  intro z
  rcases lex_tri a b with y | y | y
  · exact k (lex_tr z y)
  · subst y; exact k z
  · exact h y
theorem tle_total (a b : List Str) : (tle a b || tle b a) = true := by
  rw [Bool.or_eq_true, tle_iff, tle_iff]
  rcases lex_tri a b with y | y | y
  · exact .inl fun z => lex_no (lex_tr y z)
  · subst y; exact .inl lex_no
  · exact .inr fun z => lex_no (lex_tr y z)
theorem srtT_perm (ks : List (List Str)) : (srtT ks).Perm ks := List.mergeSort_perm _ _
theorem srtT_le (ks : List (List Str)) : (srtT ks).Pairwise fun a b => ¬ List.Lex lts b a :=
  (List.pairwise_mergeSort (le := tle) tle_trans tle_total ks).imp fun {a b} h => (tle_iff a b).mp h
theorem srtT_of {ks : List (List Str)} (h : ks.Pairwise fun a b => ¬ List.Lex lts b a) : srtT ks = ks :=
  List.mergeSort_of_pairwise (le := tle) (h.imp fun {a b} z => (tle_iff a b).mpr z)
/-- strictly ascending lists with the same members are one -/
theorem asc_uniq : ∀ {a b : List (List Str)}, a.Pairwise (List.Lex lts) → b.Pairwise (List.Lex lts) → (∀ k, k ∈ a ↔ k ∈ b) → a = b
  | [], [], _, _, _ => rfl
  | [], y :: b, _, _, h => nomatch (h y).mpr (List.mem_cons_self ..)
  | x :: a, [], _, _, h => nomatch (h x).mp (List.mem_cons_self ..)
  | x :: a, y :: b, ha, hb, h => by
    obtain ⟨a1, a2⟩ := List.pairwise_cons.mp ha
    obtain ⟨b1, b2⟩ := List.pairwise_cons.mp hb
    have exy : x = y := by
      rcases List.mem_cons.mp ((h x).mp (List.mem_cons_self ..)) with e | e
      · exact e
      · rcases List.mem_cons.mp ((h y).mpr (List.mem_cons_self ..)) with e2 | e2
        · exact e2.symm
        · exact absurd (lex_tr (b1 x e) (a1 y e2)) lex_no
    subst exy
    congr 1
    refine asc_uniq a2 b2 fun k => ⟨fun hk => ?_, fun hk => ?_⟩
    · rcases List.mem_cons.mp ((h k).mp (List.mem_cons_of_mem _ hk)) with e | e
      · exact absurd (e ▸ a1 k hk) lex_no
      · exact e
    · rcases List.mem_cons.mp ((h k).mpr (List.mem_cons_of_mem _ hk)) with e | e
      · exact absurd (e ▸ b1 k hk) lex_no
      · exact e
theorem srtT_asc {ks : List (List Str)} (h : ks.Nodup) : (srtT ks).Pairwise (List.Lex lts) := by
  have nd : (srtT ks).Nodup := (srtT_perm ks).nodup_iff.mpr h
  refine ((srtT_le ks).and nd).imp fun {a b} z => ?_
  rcases lex_tri a b with y | y | y
  · exact y
  · exact absurd y z.2
  · exact absurd y z.1
end SH

end
section
/-! set(xs) of tuples, sorted of what is gathered -/
namespace SH
open PySem PySem.Spec PyProof.Rows L2
section
variable {P : Program} {w : World} {κ : Type} [DecidableEq κ] {kd : HeapKind P w κ} {A : Around} {E : Value → Shared → Prop} {s : Shared}
/-- what the set has of the first i of ks -/
structure Has (ks : List (Addr × κ)) (i : Nat) (L : List (Addr × κ)) : Prop where
  sub : ∀ e ∈ L, e ∈ ks.take i
  all : ∀ e ∈ ks.take i, e.2 ∈ L.map (·.2)
  len : L.length ≤ i
theorem Has.none (ks : List (Addr × κ)) : Has ks 0 [] := ⟨(fun _ z => nomatch z), (fun _ z => by simp at z), Nat.le_refl _⟩
theorem Has.old {ks L : List (Addr × κ)} {i : Nat} {x : Addr × κ} (g : Has ks i L) (e : ks[i]? = some x) (m : x.2 ∈ L.map (·.2)) : Has ks (i + 1) L := by
  refine ⟨fun p hp => ?_, fun p hp => ?_, Nat.le_succ_of_le g.len⟩ <;> rw [take_next e] at *
  · exact List.mem_append_left _ (g.sub p hp)
  · rcases List.mem_append.mp hp with z | z
    · exact g.all p z
    · rwa [List.mem_singleton.mp z]
theorem Has.new {ks L M : List (Addr × κ)} {i : Nat} {x : Addr × κ} (g : Has ks i L) (e : ks[i]? = some x) (pm : M.Perm (x :: L)) : Has ks (i + 1) M := by
  refine ⟨fun p hp => ?_, fun p hp => ?_, ?_⟩
  · rw [take_next e]
    rcases List.mem_cons.mp (pm.mem_iff.mp hp) with z | z
    · exact List.mem_append_right _ (List.mem_singleton.mpr z)
    · exact List.mem_append_left _ (g.sub p z)
  · rw [(pm.map (·.2)).mem_iff, List.map_cons]
    rw [take_next e] at hp
    rcases List.mem_append.mp hp with z | z
    · exact List.mem_cons_of_mem _ (g.all p z)
    · rw [List.mem_singleton.mp z]; exact List.mem_cons_self
  · rw [pm.length_eq, List.length_cons]
    exact Nat.succ_le_succ g.len
theorem Tab.grow {h g : Heap} {a : Addr} {L : List (Addr × κ)} {es : Array (Int × Value)} {ep : Nat} {t : SetTable} (Y : Tab kd h a L es ep t) (up : ∀ o, h.get? a = some o → g.get? a = some o) (keys : ∀ e ∈ L, kd.is g e.2 e.1) : Tab kd g a L es ep t := by
  obtain ⟨o, oh, r⟩ := Y.here
  exact ⟨⟨o, up o oh, r⟩, Y.list, Y.tab, Y.once, keys, Y.led, Y.room, Y.few⟩
theorem tab_new {h : Heap} {a : Addr} (oh : h.get? a = some { cls := .type "set", dict := none, data := .set #[] 0 (.fresh 0 0 (!w.params.followText "set-order")) }) : Tab kd h a [] #[] 0 (.fresh 0 0 (!w.params.followText "set-order")) where
  here := ⟨_, oh, ⟨rfl, rfl, rfl⟩, rfl⟩
  list := rfl
  tab := ⟨List.Pairwise.nil, rfl, rfl, .inl rfl, (fun x hx => nomatch hx), fun i h j hi => (by simp [hss] at hi)⟩
  once := List.nodup_nil
  keys := (fun _ z => nomatch z)
  led := by
    show _ ∨ (!w.params.followText "set-order") = true
    cases w.params.followText "set-order"
    · exact .inr rfl
    · exact .inl rfl
  room := by
    show 0 * 5 < 7 * 3
    decide
  few := by
    show 0 < 64
    decide
/-- the loop of update -/
theorem upd_loop (Fn : Fine kd) {I : Addr} {fp wr : List Addr} {G : Array GenState → Array GenState → Prop} {n : Nat} {Pv : Nat → Value → Prop} {St : Nat → Shared → Prop} {R : Result → Shared → Prop}
    (W : WalksS P w A.in1 I fp wr G n Pv St) (S : Addr) (out_fp : S ∉ fp) (ks : List (Addr × κ)) (en : n = ks.length) (few : ks.length < 64) (val : ∀ i v, Pv i v → ∃ e, ks[i]? = some e ∧ v = .ref e.1)
    (h0 : Heap) (keys : ∀ e ∈ ks, kd.is h0 e.2 e.1) (S0 : h0.get? S = none) (w0 : ∀ b ∈ wr, h0.get? b = none) (rm : kd.room A.in1) :
    ∀ (k i : Nat) (s : Shared), n - i = k → i ≤ n → St i s → (∀ b o, h0.get? b = some o → s.heap.get? b = some o) → (∃ L es ep t, Tab kd s.heap S L es ep t ∧ Has ks i L) →
      (∀ s' L es ep t, Moved (S :: wr) G s s' → Tab kd s'.heap S L es ep t → Has ks n L → (∀ b o, h0.get? b = some o → s'.heap.get? b = some o) → R (.ok (.ret .none)) s') →
      codeAny (model P w) A (.builtin "set.update.loop" ⟨[.ref S, .ref I], []⟩) R s := by
  have out_wr : S ∉ wr := fun z => out_fp (W.sub _ z)
  have wider : ∀ b ∈ wr, b ∈ S :: wr := fun b hb => List.mem_cons_of_mem _ hb
  have up_of : ∀ {s s' : Shared}, Moved wr G s s' → (∀ b o, h0.get? b = some o → s.heap.get? b = some o) → ∀ b o, h0.get? b = some o → s'.heap.get? b = some o := fun mv up b o e =>
    mv.heap b o (fun z => by rw [w0 b z] at e; cases e) (up b o e)
  intro k
  induction k with
  | zero =>
    intro i s ek li st up ⟨L, es, ep, t, Y, g⟩ q
    obtain rfl : i = n := by omega
    refine codeAny_builtin F.entry_set_update_loop ?_
    rw [Around.under_plainId F.plain_set_update_loop _]
    show wpAny _ A.in1 (pyNext (.ref I) >>= _) _ _ s
    refine wpAny_bind (W.done s _ _ st fun s' mv => ?_)
    show wpAny _ A.in1 (ret Value.none) _ _ s'
    have up' := up_of mv up
    have sub : ∀ e ∈ L, e ∈ ks := fun e he => List.mem_of_mem_take (g.sub e he)
    exact wpAny_pure (q s' L es ep t (mv.mono wider) (Y.grow (fun o e => mv.heap S o out_wr e) fun e he => Fn.more (keys e (sub e he)) up') g up')
  | succ k ih =>
    intro i s ek li st up ⟨L, es, ep, t, Y, g⟩ q
    have lt : i < n := by omega
    refine codeAny_builtin F.entry_set_update_loop ?_
    rw [Around.under_plainId F.plain_set_update_loop _]
    show wpAny _ A.in1 (pyNext (.ref I) >>= _) _ _ s
    refine wpAny_bind (W.item i s _ _ lt st fun v s' pv st' mv => ?_)
    obtain ⟨e, ge, rfl⟩ := val i v pv
    have up' := up_of mv up
    have sub : ∀ e ∈ L, e ∈ ks := fun e he => List.mem_of_mem_take (g.sub e he)
    have Y' : Tab kd s'.heap S L es ep t := Y.grow (fun o z => mv.heap S o out_wr z) fun e he => Fn.more (keys e (sub e he)) up'
    have kx : kd.is s'.heap e.2 e.1 := Fn.more (keys e (List.mem_of_getElem? ge)) up'
    show wpAny _ A.in1 (holding [Value.ref e.1] (setAdd S (.ref e.1)) >>= _) _ _ s'
    refine wpAny_bind (wpAny_holding ?_)
    unfold setAdd
    refine wpAny_holding ?_
    refine wpAny_bind (kd.pyHash rm kx ?_)
    refine add_key Fn (s := { s' with toks := s'.toks + kd.draws e.2 }) Y' kx rm (by have := g.len; omega) fun b g1 L' es' ep' t' sb Y2 c1 c2 => ?_
    have g' : Has ks (i + 1) L' := by
      rcases Classical.em (e.2 ∈ L.map (·.2)) with c | c
      · rw [c1 c]; exact g.old ge c
      · exact g.new ge (c2 c)
    have up2 : ∀ b o, h0.get? b = some o → g1.get? b = some o := fun b o z => (sb.2 b (fun y => by rw [y, S0] at z; cases z)).trans (up' b o z)
    refine wpAny_pure ⟨plainId_quiet F.plain_set_update_loop _, ih (i + 1) _ (by omega) lt (W.frame _ s' _ _ st' (Nat.le_add_right _ _) fun b hb o z => ?_) up2 ⟨L', es', ep', t', Y2, g'⟩ fun s2 L2 es2 ep2 t2 mv2 Y3 g2 up3 => ?_⟩
    · rw [sb.2 b (fun y : b = S => out_fp (by rw [← y]; exact hb))]; exact z
    · refine q s2 L2 es2 ep2 t2 (Moved.trans W.gtrans ((mv.mono wider).then_heap (Nat.le_add_right _ _) fun b o hb z => ?_) mv2) Y3 g2 up3
      rw [sb.2 b (fun y : b = S => hb (by rw [y]; exact List.mem_cons_self))]; exact z
end
abbrev bare (w : World) : Obj := { cls := .type "set", dict := none, data := .set #[] 0 (.fresh 0 0 (!w.params.followText "set-order")) }
/-- what set(..) asks of what it goes over: a list, a tuple -/
structure Src (P : Program) (w : World) (T : String) (items : Array Value) (IsIt : Heap → Addr → Prop) (it : Addr → Obj) (St : Addr → Addr → Nat → Heap → Prop) : Prop where
  u1 : isSubtype (.type T) (.type "set") = pure false
  u2 : isSubtype (.type T) (.type "frozenset") = pure false
  u3 : (Value.type T == Value.type "dict") = false
  obj : ∀ {h : Heap} {l : Addr}, IsIt h l → ∃ o, h.get? l = some o ∧ o.cls = .type T
  grow : ∀ {h g : Heap} {l : Addr}, IsIt h l → (∀ o, h.get? l = some o → g.get? l = some o) → IsIt g l
  iter : ∀ {A : Around} {E : Value → Shared → Prop} {s : Shared} {l : Addr} {Q : Value → Shared → Prop}, IsIt s.heap l → Q (.ref s.heap.objs.size) { s with heap := s.heap.push (it l) } → wpAny (model P w) A (pyIter (.ref l)) Q E s
  walk : ∀ {A : Around}, A.handled = none → ∀ (I l : Addr), l ≠ I → Walks P w A I [I, l] [I] items.size (fun i v => items[i]? = some v) (St I l)
  start : ∀ {h : Heap} {l : Addr}, IsIt h l → St h.objs.size l 0 (h.push (it l))
theorem srcL {P : Program} {w : World} (items : Array Value) : Src P w "list" items (fun h l => h.IsList l items) (fun l => { cls := .type "list_iterator", data := .fields #[.ref l, .int 0 0] }) (fun I l i h => h.IsListIter I l i ∧ h.IsList l items) where
  u1 := F.sub_list_set
  u2 := F.sub_list_frozenset
  u3 := by decide
  obj := fun ⟨o, oh, oc, _⟩ => ⟨o, oh, oc⟩
  grow := fun x up => x.at up
  iter := fun x q => wpAny_pyIter_list x q
  walk := fun none_ I l ne => Walks.list none_ I l ne items
  start := fun x => ⟨⟨_, Heap.get?_push_size _ rfl, rfl, rfl⟩, x.push _⟩
theorem srcT {P : Program} {w : World} (items : Array Value) : Src P w "tuple" items (fun h l => h.IsTuple l items) (fun l => { cls := .type "tuple_iterator", data := .fields #[.ref l, .int 0 0] }) (fun I l i h => h.IsTupleIter I l i ∧ h.IsTuple l items) where
  u1 := F.sub_tuple_set
  u2 := F.sub_tuple_frozenset
  u3 := by decide
  obj := fun ⟨o, oh, oc, _⟩ => ⟨o, oh, oc⟩
  grow := fun x up => x.at up
  iter := fun x q => wpAny_pyIter_tuple x q
  walk := fun none_ I l ne => Walks.tuple none_ I l ne items
  start := fun x => ⟨⟨_, Heap.get?_push_size _ rfl, rfl, rfl⟩, x.push _⟩
section
variable {P : Program} {w : World} {κ : Type} [DecidableEq κ] {kd : HeapKind P w κ} {A : Around} {E : Value → Shared → Prop} {s : Shared}
set_option maxRecDepth 100000 in
set_option maxHeartbeats 3200000 in
/-- set(xs) -/
theorem make_set (Fn : Fine kd) {T : String} {IsIt : Heap → Addr → Prop} {it : Addr → Obj} {St : Addr → Addr → Nat → Heap → Prop} {l : Addr} {items : Array Value} (src : Src P w T items IsIt it St) (ks : List (Addr × κ)) {Q : Value → Shared → Prop} (calm : A.handled = none) (lst : IsIt s.heap l) (its : items.toList = ks.map fun e => Value.ref e.1)
    (keys : ∀ e ∈ ks, kd.is s.heap e.2 e.1) (few : ks.length < 64) (rm : kd.room A.in1.in1.in1)
    (q : ∀ (g : Heap) (tk : Nat) L es ep t, Tab kd g s.heap.objs.size L es ep t → Has ks ks.length L → (∀ b o, s.heap.get? b = some o → g.get? b = some o) → Q (.ref s.heap.objs.size) { s with heap := g, toks := tk }) :
    wpAny (model P w) A (call (.type "set") [.ref l]) Q E s := by
  have zs : items.size = ks.length := by
    have z := congrArg List.length its
    rwa [Array.length_toList, List.length_map] at z
  obtain ⟨c0, tl0, mro0⟩ := F.called_set.mro
  have made0 := F.called_set.made
  have sub0 := F.called_set.sub
  refine wpAny_call (codeAny_of_tree ?_)
  show wpAny _ _ (callAny (.type "set") _) _ _ _
  refine wpAny_pure ⟨Code.quiet_builtin _ (by decide +kernel), codeAny_builtin F.entry_type_call ?_⟩
  rw [Around.under_plain (weight_type_call_type "set" [.ref l] []) rfl]
  have n1 := F.called_set.notType
  have n2 := F.called_set.canCreate
  have n3 := F.typeCall_set_1 (.ref l)
  repeat (any_goals (first | assumption | wp_step))
  refine codeAny_mono (code_set_led1 (.ref l) (E := E) (Q₁ := fun ob t1 => ob = .ref s.heap.objs.size ∧ t1 = { s with heap := s.heap.push (bare w) }) ⟨rfl, rfl⟩) fun r t1 got => ?_
  match r, got with
  | .ok (.ret ob), got =>
    obtain ⟨rfl, rfl⟩ := got
    have here : (s.heap.push (bare w)).get? s.heap.objs.size = some (bare w) := Heap.get?_push_size _ rfl
    have kind : Shared.TypeIs { s with heap := s.heap.push (bare w) } (.ref s.heap.objs.size) "set" := ⟨_, here, rfl⟩
    have i1 := F.called_set.init.lookup
    have i2 := F.called_set.init.bind (.ref s.heap.objs.size)
    repeat (any_goals (first | assumption | wp_step))
    refine codeAny_mono (codeAny_call_builtin (R := wants (fun r t2 => r = .none ∧ ∃ g tk L es ep t, t2 = { s with heap := g, toks := tk } ∧ Tab kd g s.heap.objs.size L es ep t ∧ Has ks ks.length L ∧ ∀ b o, s.heap.get? b = some o → g.get? b = some o) E)
      F.called_set.init.plain F.entry_set_init (check_set_init_1 kind ?_)) fun r2 t2 got2 => ?_
    · obtain ⟨⟨oc, od, odat, osl⟩, at_, cl⟩ := src.obj lst
      have lt0 : l < s.heap.objs.size := Heap.lt_size at_
      obtain rfl : oc = .type T := cl
      have at2 : (s.heap.push (bare w)).get? l = some ⟨.type T, od, odat, osl⟩ := Heap.get?_push_of_some _ at_
      have u1 := src.u1
      have u2 := src.u2
      have u3 := src.u3
      have lst2 : IsIt (s.heap.push (bare w)) l := src.grow lst fun o e => Heap.get?_push_of_some _ e
      unfold Builtin.«set.__init__» noKeywords Builtin.Frozenset.updateFrom
      generalize ePI : pyIter = PI
      wp_walk
      subst ePI
      refine src.iter lst2 ?_
      refine wpAny_bind (wpAny_runValue ?_)
      have none3 : A.in1.in1.in1.handled = none := by simp [calm]
      have apart : l ≠ (s.heap.push (bare w)).objs.size := by rw [Heap.size_push]; exact Nat.ne_of_lt (Nat.lt_succ_of_lt lt0)
      have outside : s.heap.objs.size ∉ [(s.heap.push (bare w)).objs.size, l] := by
        rw [Heap.size_push]
        simp only [List.mem_cons, List.mem_singleton, List.not_mem_nil, or_false, not_or]
        exact ⟨Nat.ne_of_lt (Nat.lt_succ_self _), Nat.ne_of_gt lt0⟩
      have each : ∀ (i : Nat) (v : Value), items[i]? = some v → ∃ e, ks[i]? = some e ∧ v = .ref e.1 := by
        intro i v hv
        rw [← Array.getElem?_toList, its, List.getElem?_map] at hv
        obtain ⟨e, he, rfl⟩ := Option.map_eq_some_iff.mp hv
        exact ⟨e, he, rfl⟩
      have gone : ∀ b, s.heap.objs.size ≤ b → s.heap.get? b = none := fun b hb => by
        cases z : s.heap.get? b with
        | none => rfl
        | some o => exact absurd (Nat.lt_of_lt_of_le (Heap.lt_size z) hb) (Nat.lt_irrefl _)
      have first_ : ((s.heap.push (bare w)).push (it l)).get? s.heap.objs.size = some (bare w) := Heap.get?_push_of_some _ here
      refine upd_loop Fn ((src.walk none3 _ l apart).toS) s.heap.objs.size outside ks zs few each s.heap keys (gone _ (Nat.le_refl _)) (fun b hb => gone b (by rw [List.mem_singleton.mp hb, Heap.size_push]; exact Nat.le_succ _)) rm
        (items.size - 0) 0 _ (by omega) (Nat.zero_le _) (src.start lst2) (fun b o e => Heap.get?_push_of_some _ (Heap.get?_push_of_some _ e)) ⟨[], #[], 0, _, tab_new first_, Has.none ks⟩ ?_
      intro s2 L es ep t moved Y g up
      obtain ⟨h2, g2, d2, tk2, os2⟩ := s2
      obtain rfl : g2 = s.gens := moved.gens
      obtain rfl : d2 = s.drawn := moved.drawn
      obtain rfl : os2 = s.os := moved.os
      show wpAny _ _ _ _ _ _
      refine wpAny_pure ?_
      show wpAny _ _ (ret Value.none) _ _ _
      rw [zs] at g
      exact wpAny_pure ⟨rfl, h2, tk2, L, es, ep, t, rfl, Y, g, up⟩
    · match r2, got2 with
      | .ok (.ret r3), got2 =>
        obtain ⟨rfl, g, tk, L, es, ep, t, rfl, a1, a2, a3⟩ := got2
        repeat (any_goals (first | assumption | wp_step))
        exact q _ _ _ _ _ _ a1 a2 a3
      | .error e, got2 => exact got2
  | .error e, got => exact got
end
end SH

end
section
/-! nested keys are fine; sorted of what is gathered -/
namespace SH
open PySem PySem.Spec PySem.W PySem.Calls PyProof.Rows PySem.SeqAt
section
variable {P : Program} {w : World}
def ClsAt (P : Program) (w : World) (n : Nat) (s : Shared) (v : Value) : Prop := ∀ (A : Around) (E : Value → Shared → Prop) (Q : Bool → Shared → Prop), Q false s → wpAny (model P w) A (ofAClassStatement n v) Q E s
def ValAt (P : Program) (w : World) (n : Nat) (s : Shared) (v : Value) : Prop := ∀ (A : Around) (E : Value → Shared → Prop) (Q : Bool → Shared → Prop), (∀ b, Q b s) → wpAny (model P w) A (hashByValue n v) Q E s
theorem ClsAt.plain {n : Nat} {s : Shared} {v : Value} (h : ∀ a, v ≠ .ref a) : ClsAt P w n s v := fun A E Q q => by
  have e : ofAClassStatement n v = pure false := by
    cases v with
    | ref a => exact absurd rfl (h a)
    | _ => cases n <;> rfl
  rw [e]
  exact wpAny_pure q
theorem ValAt.plain {n : Nat} {s : Shared} {v : Value} {b : Bool} (h : hashByValue n v = pure b) : ValAt P w n s v := fun A E Q q => by
  rw [h]
  exact wpAny_pure (q b)
theorem ClsAt.tup {n : Nat} {s : Shared} {a : Addr} {o : Obj} {vs : Array Value} {m : Nat} (oh : s.heap.get? a = some o) (oc : o.cls = .type "tuple") (od : o.data = .seq vs m) (all : ∀ v ∈ vs.toList, ClsAt P w n s v) : ClsAt P w (n + 1) s (.ref a) := fun A E Q q => by
  have kind : s.TypeIs (.ref a) "tuple" := ⟨o, oh, oc⟩
  unfold ofAClassStatement
  refine wpAny_bind (wpAny_typeOf kind ?_)
  dsimp only
  have e : (("tuple" : String) == "tuple") = true := by decide
  simp only [e, if_true, Bool.not_true, Bool.false_eq_true, if_false]
  try refine wpAny_bind (wpAny_pure ?_)
  try simp only [Bool.not_true, Bool.false_eq_true, if_false]
  show wpAny _ _ (seqItems? (.ref a) >>= _) _ _ s
  refine wpAny_bind (wpAny_seqItems oh od ?_)
  dsimp only
  refine wpAny_bind ?_
  show wpAny _ _ (forIn vs _ _) _ _ s
  rw [← Array.forIn_toList]
  refine wpAny_forIn_list _ (fun more r t => r.1 = none ∧ t = s ∧ ∀ v ∈ more, ClsAt P w n s v) _ ?_ ?_ _ _ ⟨rfl, rfl, all⟩
  · rintro v more r t ⟨er, rfl, al⟩
    refine wpAny_bind (al v List.mem_cons_self _ _ _ ?_)
    simp only [Bool.false_eq_true, if_false]
    exact wpAny_pure ⟨rfl, rfl, fun u hu => al u (List.mem_cons_of_mem _ hu)⟩
  · rintro ⟨r1, r2⟩ t ⟨er, rfl, _⟩
    simp only at er
    subst er
    exact wpAny_pure q
theorem ValAt.tup {n : Nat} {s : Shared} {a : Addr} {o : Obj} {vs : Array Value} {m : Nat} (oh : s.heap.get? a = some o) (oc : o.cls = .type "tuple") (od : o.data = .seq vs m) (all : ∀ v ∈ vs.toList, ValAt P w n s v) : ValAt P w (n + 1) s (.ref a) := fun A E Q q => by
  have kind : s.TypeIs (.ref a) "tuple" := ⟨o, oh, oc⟩
  unfold hashByValue
  refine wpAny_bind (wpAny_specialOf kind F.slot_tuple_hash.lookup ?_)
  show wpAny _ _ (seqItems? (.ref a) >>= _) _ _ s
  refine wpAny_bind (wpAny_seqItems oh od ?_)
  refine wpAny_bind ?_
  show wpAny _ _ (forIn vs _ _) _ _ s
  rw [← Array.forIn_toList]
  refine wpAny_forIn_list _ (fun more r t => r.1 = none ∧ t = s ∧ ∀ v ∈ more, ValAt P w n s v) _ ?_ ?_ _ _ ⟨rfl, rfl, all⟩
  · rintro v more r t ⟨er, rfl, al⟩
    refine wpAny_bind (al v List.mem_cons_self _ _ _ fun b => ?_)
    cases b with
    | true =>
      simp only [Bool.not_true, Bool.false_eq_true, if_false]
      exact wpAny_pure ⟨rfl, rfl, fun u hu => al u (List.mem_cons_of_mem _ hu)⟩
    | false =>
      simp only [Bool.not_false, if_true]
      exact wpAny_pure (wpAny_pure (q _))
  · rintro ⟨r1, r2⟩ t ⟨er, rfl, _⟩
    simp only at er
    subst er
    exact wpAny_pure (q _)
mutual
theorem cls_key : ∀ (k : NestedKey) (v : Value) (n : Nat) (s : Shared), NestedIs s.heap k v → k.depth ≤ n → ClsAt P w n s v ∧ ValAt P w n s v
  | .none, _, n, s, x, _ => by cases x; exact ⟨.plain (fun _ z => nomatch z), .plain (b := true) (by cases n <;> rfl)⟩
  | .num i, _, n, s, x, _ => by cases x <;> exact ⟨.plain (fun _ z => nomatch z), .plain (b := true) (by cases n <;> rfl)⟩
  | .text y, _, n, s, x, _ => by cases x; exact ⟨.plain (fun _ z => nomatch z), .plain (b := false) (by cases n <;> rfl)⟩
  | .tup ks, _, n, s, x, hn => by
    cases x with
    | tup hg hc hd hk =>
      simp only [NestedKey.depth] at hn
      cases n with
      | zero => omega
      | succ n => exact ⟨.tup hg hc hd fun v hv => (cls_keys ks _ n s hk (by omega) v hv).1, .tup hg hc hd fun v hv => (cls_keys ks _ n s hk (by omega) v hv).2⟩
theorem cls_keys : ∀ (ks : List NestedKey) (vs : List Value) (n : Nat) (s : Shared), NestedAll s.heap ks vs → NestedKey.depthAll ks ≤ n → ∀ v ∈ vs, ClsAt P w n s v ∧ ValAt P w n s v
  | [], _, n, s, x, _, v, hv => by cases x; cases hv
  | k :: ks, _, n, s, x, hn, v, hv => by
    cases x with
    | cons x1 x2 =>
      simp only [NestedKey.depthAll] at hn
      rcases List.mem_cons.mp hv with e | hv
      · rw [e]; exact cls_key k _ n s x1 (by omega)
      · exact cls_keys ks _ n s x2 (by omega) v hv
end
theorem fineN : Fine (nestedKind P w) where
  grow := fun x up => ⟨NestedIs.at up _ _ x.1, x.2⟩
  cls := fun {A E s k b Q} x q => (cls_key k _ 8 s x.1 x.2).1 A E Q q
  val := fun {A E s k b Q} x q => (cls_key k _ 8 s x.1 x.2).2 A E Q q
end
theorem lex_asym {a b : List Str} (h : List.Lex lts a b) (k : List.Lex lts b a) : False := lex_no (lex_tr h k)
theorem srtT_same {ks us : List (List Str)} (h : ks.Perm us) : srtT ks = srtT us := by
  refine List.Perm.eq_of_pairwise (le := fun a b => ¬ List.Lex lts b a) (fun a b _ _ x y => ?_) (srtT_le ks) (srtT_le us) ((srtT_perm ks).trans (h.trans (srtT_perm us).symm))
  rcases lex_tri a b with z | z | z
  · exact absurd z y
  · exact z
  · exact absurd z x
section
variable {prog : Program} {w : World} {A : Around} {E : Value → Shared → Prop} {s : Shared}
theorem depth_tS (k : List Str) : (tS k).depth ≤ 1 := by
  show (PyData.tuple (k.map .str)).depth ≤ 1
  rw [PyData.depth, depth_strs]
  exact Nat.le_refl _
theorem alike_tS (a b : List Str) : alike (tS a) (tS b) = true := by
  show alike (PyData.tuple _) (PyData.tuple _) = true
  rw [alike]
  exact alike_strs a b
/-- sorted(x): what x gives is gathered and sorted -/
theorem sort_gathered {β : Type} {enc : β → PyData} (kind_ : (∀ b, ∃ xs, enc b = .tuple xs) ∨ ∀ b, enc b ≠ .none ∧ ∀ xs, enc b ≠ .tuple xs) (al2 : ∀ a b, alike (enc a) (enc b) = true) (dp : ∀ b, (enc b).depth ≤ 6) {x : Value} {R : Value → β → Prop} {ks0 : List β} {Q : Value → Shared → Prop} (hR : ∀ v k, R v k → Reads s.heap v (enc k) []) (few : ks0.length ≤ sizeLine) (rm : A.units + 8 < cLine)
    (same : ∀ ks : List β, ks.Perm ks0 → ks.mergeSort (dataLe false enc) = ks0.mergeSort (dataLe false enc))
    (col : ∀ (T : List Value → Shared → Prop), (∀ s1 vs ks, (∀ b o, s.heap.get? b = some o → s1.heap.get? b = some o) → s.heap.objs.size ≤ s1.heap.objs.size → s1.gens = s.gens → s1.os = s.os → EachIs R vs ks → ks.Perm ks0 → T vs s1) → wpAny (model prog w) A.in1 (collect x) T E s)
    (q : ∀ s' p out c, (∀ b o, s.heap.get? b = some o → s'.heap.get? b = some o) → s'.gens = s.gens → s'.os = s.os → s.heap.objs.size ≤ p → s'.heap.get? p = some (seqObj "list" (List.toArray out) c) → EachIs R out (ks0.mergeSort (dataLe false enc)) → Q (.ref p) s') :
    wpAny (model prog w) A (call (.builtin "sorted") [x]) Q E s := by
  refine Calls.call_function_entry kind_sorted plain_sorted entry_sorted (args_sorted1 _) ?_
  unfold Builtin.«sorted»
  refine wpAny_bind (m := checkCount "sorted" 1 1 _) (wpAny_pure ?_)
  refine wpAny_bind (col _ fun s1 vs ks up z1 g1 o1 ev pm => ?_)
  have lv : vs.length ≤ sizeLine := by rw [ev.length, pm.length_eq]; exact few
  refine wpAny_bind (wpAny_newList ?_ lv)
  have oL : (s1.heap.push (seqObj "list" vs.toArray 0)).get? s1.heap.objs.size = some (seqObj "list" vs.toArray 0) := Heap.get?_push_size _ rfl
  have up2 : ∀ b o, s.heap.get? b = some o → (sortingHeap (s1.heap.push (seqObj "list" vs.toArray 0)) s1.heap.objs.size vs).get? b = some o := fun b o e => by
    have e1 := up b o e
    have lt := Heap.lt_size e1
    exact sortingHeap_old (Nat.ne_of_lt lt) (Heap.get?_push_of_some _ e1)
  have er : EachIs (fun v k => ∃ as, Reads (sortingHeap (s1.heap.push (seqObj "list" vs.toArray 0)) s1.heap.objs.size vs) v (enc k) as) vs ks := ev.mono fun v k r => ⟨[], PyProof.Rows.Reads.keeps up2 (hR v k r)⟩
  have al : AllAlike (ks.map enc) := .of al2
  have er2 := each_map (R := fun v d => ∃ as, Reads (sortingHeap (s1.heap.push (seqObj "list" vs.toArray 0)) s1.heap.objs.size vs) v d as) enc er
  have rm2 : ∀ d, d ∈ ks.map enc → A.units + 2 + d.depth < cLine := fun d hd => by
    obtain ⟨k, _, rfl⟩ := List.mem_map.mp hd
    have := dp k
    omega
  have S : SortsAt prog w A.in1.in1 { s1 with heap := sortingHeap (s1.heap.push (seqObj "list" vs.toArray 0)) s1.heap.objs.size vs } (dataKind (sortingHeap (s1.heap.push (seqObj "list" vs.toArray 0)) s1.heap.objs.size vs) (ks.map enc)) vs := by
    rcases kind_ with kt | ko
    · refine sortsTuples (s := { s1 with heap := sortingHeap (s1.heap.push (seqObj "list" vs.toArray 0)) s1.heap.objs.size vs }) er2 al (fun d hd => ?_) rm2
      obtain ⟨k, _, rfl⟩ := List.mem_map.mp hd
      exact kt k
    · refine SortsAt.data (s := { s1 with heap := sortingHeap (s1.heap.push (seqObj "list" vs.toArray 0)) s1.heap.objs.size vs }) er2 al (.inr fun d hd => ?_) rm2
      obtain ⟨k, _, rfl⟩ := List.mem_map.mp hd
      exact ko k
  refine wpAny_bind (wpAny_holding (wpAny_call_entry slot_list_sort ⟨_, oL, rfl⟩ entry_list_sort (list_sort_vals (s := { s1 with heap := s1.heap.push (seqObj "list" vs.toArray 0) }) oL S lv ⟨_, rfl, ?_⟩) (args_list_sort _)))
  obtain ⟨c, hc⟩ := sortedHeap_at (vs := vs) (out := (sortVals (dataKind (sortingHeap (s1.heap.push (seqObj "list" vs.toArray 0)) s1.heap.objs.size vs) (ks.map enc)) false vs vs).toArray) oL
  refine wpAny_pure ⟨_, rfl, q _ s1.heap.objs.size _ c (fun b o e => ?_) g1 o1 z1 hc ?_⟩
  · have e1 := up b o e
    have lt := Heap.lt_size e1
    show (sortedHeap (s1.heap.push (seqObj "list" vs.toArray 0)) s1.heap.objs.size vs _).get? b = some o
    rw [sortedHeap_old (Nat.ne_of_lt lt) (by rw [size_push']; exact Nat.lt_succ_of_lt lt)]
    exact Heap.get?_push_of_some _ e1
  · rw [← same ks pm]
    exact sortVals_data false ev er al
/-- the items of a list or a tuple, gathered -/
theorem gather_seq {Q : List Value → Shared → Prop} {it : Addr} {T : String} {o : Obj} {items : Array Value} {n : Nat} (eT : T = "list" ∨ T = "tuple") (oh : s.heap.get? it = some o) (oc : o.cls = .type T) (od : o.data = .seq items n) (le : items.size ≤ sizeLine)
    (q : Q items.toList { s with heap := (s.heap.push { cls := .type "list", data := .seq ([] : List Value).toArray }).update s.heap.objs.size (Obj.mapSeq (· ++ items)) }) : wpAny (model prog w) A (collect (.ref it)) Q E s := by
  unfold collect
  refine wpAny_bind (wpAny_runValue (codeAny_builtin F.entry_proto_collect ?_))
  rw [Around.under_plainId F.plain_proto_collect _]
  show wpAny _ A.in1 (newList [] >>= fun l => again (.builtin "list.__iadd__" ⟨[l, .ref it], []⟩)) _ _ s
  refine wpAny_bind (wpAny_newObj_type ?_)
  refine wpAny_pure ⟨plainId_quiet F.plain_list_iadd _, codeAny_builtin F.entry_list_iadd ?_⟩
  rw [Around.under_plainId F.plain_list_iadd _]
  show wpAny _ A.in1 (Builtin.List.listExtendWith (.ref s.heap.objs.size) (.ref it) (.ref s.heap.objs.size)) _ _ _
  have at1 : (s.heap.push { cls := .type "list", data := .seq ([] : List Value).toArray }).get? s.heap.objs.size = some { cls := .type "list", data := .seq #[] 0 } := Heap.get?_push_size _ rfl
  have at2 := Heap.get?_update_self (Obj.mapSeq (· ++ items)) at1 rfl
  have rest : wpAny (model prog w) A (match Value.ref s.heap.objs.size with
      | Value.ref a => do
        match (← load a).data with
          | Data.seq xs _ => pure xs.toList
          | _ => unsupported "internal:collect"
      | _ => unsupported "internal:collect") Q E { s with heap := (s.heap.push { cls := .type "list", data := .seq ([] : List Value).toArray }).update s.heap.objs.size (Obj.mapSeq (· ++ items)) } := by
    show wpAny _ A (load s.heap.objs.size >>= _) _ _ _
    refine wpAny_bind (wpAny_load at2 (wpAny_pure ?_))
    have e : ((#[] : Array Value) ++ items).toList = items.toList := by simp
    show Q ((#[] : Array Value) ++ items).toList _
    rw [e]
    exact q
  refine wpAny_mono (wpAny_extend_seq (hsz := le) (A := A) (R := fun r t => r = .ok (.ret (.ref s.heap.objs.size)) ∧ t = { s with heap := (s.heap.push { cls := .type "list", data := .seq ([] : List Value).toArray }).update s.heap.objs.size (Obj.mapSeq (· ++ items)) })
    (s := { s with heap := s.heap.push { cls := .type "list", data := .seq ([] : List Value).toArray } }) _ it _ 0 eT at1 (Heap.get?_push_of_some _ oh) oc od ⟨rfl, rfl⟩) (fun fin t z => ?_) (fun e t z => ?_)
  · cases fin with
    | done f =>
      obtain ⟨e, rfl⟩ := z
      cases e
      exact rest
    | again c' => exact ⟨z.1, codeAny_mono z.2 fun r t2 zr => by obtain ⟨rfl, rfl⟩ := zr; exact rest⟩
  · exact absurd z.1 (by simp)
end
/-! ### tuples of texts as keys -/
section
variable {P : Program} {w : World}
abbrev kS (P : Program) (w : World) : HeapKind P w (List Str) := tupleKind (strKind P w)
theorem items_str {k : List Str} {vs : List Value} (h : ItemsAre (strKind P w) k vs) : ∀ v ∈ vs, ∃ x t, v = Value.str x t := by
  induction h with
  | nil => intro v hv; cases hv
  | @cons k0 u ks us h1 _ ih =>
    intro v hv
    rcases List.mem_cons.mp hv with e | hv
    · subst e
      cases v with
      | str x t => exact ⟨x, t, rfl⟩
      | _ => exact absurd h1 (by simp [PySem.strKind, Value.isStrOf])
    · exact ih v hv
theorem fineS : Fine (kS P w) where
  grow := fun {h g k b} x up => by
    obtain ⟨o, items, n, oh, oc, od, oi⟩ := x
    exact ⟨o, items, n, up _ _ _ _ oh od, oc, od, oi⟩
  cls := fun {A E s k b Q} x q => by
    obtain ⟨o, items, n, oh, oc, od, oi⟩ := x
    refine ClsAt.tup (n := 7) oh oc od (fun v hv => ?_) A E Q q
    obtain ⟨y, t, rfl⟩ := items_str oi v hv
    exact .plain (fun _ z => nomatch z)
  val := fun {A E s k b Q} x q => by
    obtain ⟨o, items, n, oh, oc, od, oi⟩ := x
    refine ValAt.tup (n := 7) oh oc od (fun v hv => ?_) A E Q q
    obtain ⟨y, t, rfl⟩ := items_str oi v hv
    exact .plain (b := false) rfl
end
end SH

end
section
/-! orders of names under pairs: what may come next, the listing by depth and by levels -/
namespace OM
variable {α : Type} [DecidableEq α]
/-- what may come next: in the names' order -/
def nxt (ns : List α) (ps : List (α × α)) (p : List α) : List α := ns.filter fun n => decide (n ∉ p) && ps.all fun q => decide (q.2 = n → q.1 ∈ p)
theorem nxt_mem {ns : List α} {ps : List (α × α)} {p : List α} {n : α} : n ∈ nxt ns ps p ↔ n ∈ ns ∧ n ∉ p ∧ ∀ q ∈ ps, q.2 = n → q.1 ∈ p := by
  unfold nxt
  rw [List.mem_filter, Bool.and_eq_true, decide_eq_true_eq, List.all_eq_true]
  simp only [decide_eq_true_eq]
/-- the listing by depth -/
def lo (ns : List α) (ps : List (α × α)) : Nat → List α → List (List α)
  | 0, p => [p]
  | k + 1, p => (nxt ns ps p).flatMap fun n => lo ns ps k (p ++ [n])
/-- the listing by levels -/
def wy (ns : List α) (ps : List (α × α)) : Nat → List (List α)
  | 0 => [[]]
  | k + 1 => (wy ns ps k).flatMap fun p => (nxt ns ps p).map fun n => p ++ [n]
theorem wy_lo (ns : List α) (ps : List (α × α)) : ∀ (m k : Nat), (wy ns ps k).flatMap (lo ns ps m) = wy ns ps (k + m)
  | 0, k => by
    show (wy ns ps k).flatMap (fun p => [p]) = _
    simp
  | m + 1, k => by
    have e : k + (m + 1) = (k + 1) + m := by omega
    rw [e, ← wy_lo ns ps m (k + 1), wy, List.flatMap_assoc]
    congr 1
    funext p
    rw [lo, List.flatMap_map]
theorem lo_wy (ns : List α) (ps : List (α × α)) (m : Nat) : lo ns ps m [] = wy ns ps m := by
  have := wy_lo ns ps m 0
  rw [Nat.zero_add] at this
  rw [← this]
  simp [wy]
theorem lo_len (ns : List α) (ps : List (α × α)) : ∀ (m : Nat) (p o : List α), o ∈ lo ns ps m p → o.length = p.length + m
  | 0, p, o, h => by
    rw [lo, List.mem_singleton] at h
    rw [h, Nat.add_zero]
  | m + 1, p, o, h => by
    rw [lo, List.mem_flatMap] at h
    obtain ⟨n, _, h⟩ := h
    have := lo_len ns ps m _ o h
    rw [List.length_append, List.length_singleton] at this
    omega
/-- a listed order is a way from the prefix: each step may come next -/
inductive Way (ns : List α) (ps : List (α × α)) : List α → List α → Prop
  | nil (p : List α) : Way ns ps p []
  | cons {p : List α} {n : α} {r : List α} : n ∈ nxt ns ps p → Way ns ps (p ++ [n]) r → Way ns ps p (n :: r)
theorem lo_way {ns : List α} {ps : List (α × α)} : ∀ {m : Nat} {p o : List α}, o ∈ lo ns ps m p ↔ ∃ r, o = p ++ r ∧ r.length = m ∧ Way ns ps p r
  | 0, p, o => by
    rw [lo, List.mem_singleton]
    constructor
    · rintro rfl
      exact ⟨[], by rw [List.append_nil], rfl, .nil _⟩
    · rintro ⟨r, rfl, hr, _⟩
      rw [List.eq_nil_of_length_eq_zero hr, List.append_nil]
  | m + 1, p, o => by
    rw [lo, List.mem_flatMap]
    constructor
    · rintro ⟨n, hn, h⟩
      obtain ⟨r, rfl, hr, w⟩ := lo_way.mp h
      exact ⟨n :: r, by rw [List.append_assoc]; rfl, by rw [List.length_cons, hr], .cons hn w⟩
    · rintro ⟨r, rfl, hr, w⟩
      cases w with
      | nil => cases hr
      | @cons _ n r hn w => exact ⟨n, hn, lo_way.mpr ⟨r, by rw [List.append_assoc]; rfl, by simpa using hr, w⟩⟩
/-- the pairs that a way keeps -/
theorem way_keeps {ns : List α} {ps : List (α × α)} {p r : List α} (w : Way ns ps p r) : (∀ n ∈ r, n ∈ ns ∧ n ∉ p) ∧ r.Nodup ∧ ∀ (a : List α) (n : α) (b : List α), r = a ++ n :: b → ∀ q ∈ ps, q.2 = n → q.1 ∈ p ++ a := by
  induction w with
  | nil p => exact ⟨fun _ h => (nomatch h), List.nodup_nil, fun a n b h => by cases a <;> cases h⟩
  | @cons p n r hn _ ih =>
    obtain ⟨i1, i2, i3⟩ := ih
    obtain ⟨h1, h2, h3⟩ := nxt_mem.mp hn
    refine ⟨fun m hm => ?_, List.nodup_cons.mpr ⟨fun hm => (i1 n hm).2 (List.mem_append_right _ (List.mem_singleton.mpr rfl)), i2⟩, fun a m b e q hq e2 => ?_⟩
    · rcases List.mem_cons.mp hm with rfl | hm
      · exact ⟨h1, h2⟩
      · exact ⟨(i1 m hm).1, fun z => (i1 m hm).2 (List.mem_append_left _ z)⟩
    · cases a with
      | nil =>
        cases e
        rw [List.append_nil]
        exact h3 q hq e2
      | cons x a =>
        rw [List.cons_append, List.cons.injEq] at e
        obtain ⟨rfl, e⟩ := e
        have := i3 a m b e q hq e2
        rw [List.append_assoc] at this
        exact this
/-- and it is all that is asked -/
theorem way_of {ns : List α} {ps : List (α × α)} : ∀ {p r : List α}, (∀ n ∈ r, n ∈ ns ∧ n ∉ p) → r.Nodup → (∀ (a : List α) (n : α) (b : List α), r = a ++ n :: b → ∀ q ∈ ps, q.2 = n → q.1 ∈ p ++ a) → Way ns ps p r
  | p, [], _, _, _ => .nil p
  | p, n :: r, h1, h2, h3 => by
    rw [List.nodup_cons] at h2
    refine .cons (nxt_mem.mpr ⟨(h1 n (List.mem_cons_self ..)).1, (h1 n (List.mem_cons_self ..)).2, fun q hq e => ?_⟩) (way_of (fun m hm => ⟨(h1 m (List.mem_cons_of_mem _ hm)).1, fun z => ?_⟩) h2.2 fun a m b e q hq e2 => ?_)
    · have := h3 [] n r rfl q hq e
      rwa [List.append_nil] at this
    · rcases List.mem_append.mp z with z | z
      · exact (h1 m (List.mem_cons_of_mem _ hm)).2 z
      · rw [List.mem_singleton] at z
        subst z
        exact h2.1 hm
    · have := h3 (n :: a) m b (by rw [e]; rfl) q hq e2
      rw [List.append_assoc]
      exact this
/-! the walk with a stack -/
def big (w : Nat) : Nat → Nat
  | 0 => 1
  | k + 1 => 1 + w * big w k
theorem big_pos (w k : Nat) : 1 ≤ big w k := by cases k <;> unfold big <;> omega
/-- what a stack still stands for: its top is its last -/
def todo (ns : List α) (ps : List (α × α)) (many : Nat) (st : List (List α)) : List (List α) := st.reverse.flatMap fun p => lo ns ps (many - p.length) p
def cost (w many : Nat) (st : List (List α)) : Nat := (st.map fun p => big w (many - p.length)).sum
theorem todo_snoc (ns : List α) (ps : List (α × α)) (many : Nat) (st : List (List α)) (p : List α) : todo ns ps many (st ++ [p]) = lo ns ps (many - p.length) p ++ todo ns ps many st := by
  unfold todo
  rw [List.reverse_append, List.flatMap_append]
  simp
/-- the children of a prefix stand behind one another as its own listing -/
theorem todo_kids (ns : List α) (ps : List (α × α)) (many : Nat) (st : List (List α)) (p : List α) (hp : p.length < many) : todo ns ps many (st ++ ((nxt ns ps p).reverse.map fun n => p ++ [n])) = lo ns ps (many - p.length) p ++ todo ns ps many st := by
  unfold todo
  rw [List.reverse_append, List.flatMap_append, ← List.map_reverse, List.reverse_reverse, List.flatMap_map]
  congr 1
  have e : many - p.length = (many - (p.length + 1)) + 1 := by omega
  rw [e, lo]
  congr 1
  funext n
  rw [List.length_append, List.length_singleton]
theorem cost_kids (ns : List α) (ps : List (α × α)) (many : Nat) (st : List (List α)) (p : List α) (hp : p.length < many) : cost ns.length many (st ++ ((nxt ns ps p).reverse.map fun n => p ++ [n])) < cost ns.length many (st ++ [p]) := by
  unfold cost
  rw [List.map_append, List.map_append, List.sum_append, List.sum_append, List.map_map]
  refine Nat.add_lt_add_left ?_ _
  have e : many - p.length = (many - (p.length + 1)) + 1 := by omega
  have c : ∀ l : List α, (l.map ((fun q : List α => big ns.length (many - q.length)) ∘ fun n => p ++ [n])).sum = l.length * big ns.length (many - (p.length + 1)) := by
    intro l
    induction l with
    | nil => simp
    | cons a l ih =>
      rw [List.map_cons, List.sum_cons, ih, List.length_cons, Nat.succ_mul, Nat.add_comm]
      show _ + big ns.length (many - (p ++ [a]).length) = _
      rw [List.length_append, List.length_singleton]
  rw [c, List.length_reverse, List.map_cons, List.map_nil, List.sum_cons, List.sum_nil, Nat.add_zero, e, big]
  have hl : (nxt ns ps p).length ≤ ns.length := List.length_filter_le _ _
  have := Nat.mul_le_mul_right (big ns.length (many - (p.length + 1))) hl
  omega
end OM

end
section
/-! orders of names: full ones, their order, how pairs cut them -/
namespace OM
variable {α : Type} [DecidableEq α]
theorem nd_le : ∀ {p ns : List α}, p.Nodup → (∀ n ∈ p, n ∈ ns) → p.length ≤ ns.length
  | [], _, _, _ => Nat.zero_le _
  | a :: p, ns, hp, h => by
    rw [List.nodup_cons] at hp
    have ha := h a (List.mem_cons_self ..)
    have := nd_le (p := p) (ns := ns.erase a) hp.2 fun n hm => (List.mem_erase_of_ne (fun e : n = a => hp.1 (e ▸ hm))).mpr (h n (List.mem_cons_of_mem _ hm))
    rw [List.length_erase_of_mem ha] at this
    have : 0 < ns.length := List.length_pos_of_mem ha
    rw [List.length_cons]
    omega
theorem sub_full {ns p : List α} (hn : ns.Nodup) (hp : p.Nodup) (h : ∀ n ∈ p, n ∈ ns) (hl : p.length = ns.length) : ∀ n ∈ ns, n ∈ p := by
  induction ns generalizing p with
  | nil => intro n h; cases h
  | cons a ns ih =>
    rw [List.nodup_cons] at hn
    have ha : a ∈ p := by
      refine Classical.byContradiction fun na => ?_
      have h2 : ∀ n ∈ p, n ∈ ns := fun n hm => (List.mem_cons.mp (h n hm)).resolve_left fun e => na (e ▸ hm)
      have h3 : p.length ≤ ns.length := nd_le hp h2
      rw [hl, List.length_cons] at h3
      omega
    have h4 : (p.erase a).length = ns.length := by
      rw [List.length_erase_of_mem ha, hl, List.length_cons]
      rfl
    have h5 := ih hn.2 (p := p.erase a) (hp.erase a) (fun n hm => by
      have h6 := (List.Nodup.mem_erase_iff hp).mp hm
      exact (List.mem_cons.mp (h n h6.2)).resolve_left h6.1) h4
    intro n hm
    rcases List.mem_cons.mp hm with rfl | hm
    · exact ha
    · exact List.mem_of_mem_erase (h5 n hm)
theorem nxt_full {ns : List α} {ps : List (α × α)} {p : List α} (h : ∀ n ∈ ns, n ∈ p) : nxt ns ps p = [] := by
  refine List.eq_nil_iff_forall_not_mem.mpr fun n hn => ?_
  obtain ⟨h1, h2, _⟩ := nxt_mem.mp hn
  exact h2 (h n h1)
/-- a prefix that the walk meets -/
structure Pre (ns : List α) (ps : List (α × α)) (p : List α) : Prop where
  way : Way ns ps [] p
theorem way_snoc {ns : List α} {ps : List (α × α)} {p r : List α} (w : Way ns ps p r) : ∀ {n : α}, n ∈ nxt ns ps (p ++ r) → Way ns ps p (r ++ [n]) := by
  induction w with
  | nil p =>
    intro n hn
    rw [List.append_nil] at hn
    exact .cons hn (.nil _)
  | @cons p m r hm _ ih =>
    intro n hn
    refine .cons hm (ih ?_)
    rw [List.append_assoc]
    exact hn
theorem pre_kid {ns : List α} {ps : List (α × α)} {p : List α} (h : Pre ns ps p) {n : α} (hn : n ∈ nxt ns ps p) : Pre ns ps (p ++ [n]) := ⟨way_snoc h.way hn⟩
theorem pre_full {ns : List α} {ps : List (α × α)} {p : List α} (h : Pre ns ps p) (hn : ns.Nodup) (hl : p.length = ns.length) : nxt ns ps p = [] := by
  obtain ⟨h1, h2, _⟩ := way_keeps h.way
  exact nxt_full (sub_full hn h2 (fun n hm => (h1 n hm).1) hl)
theorem pre_le {ns : List α} {ps : List (α × α)} {p : List α} (h : Pre ns ps p) : p.length ≤ ns.length := by
  obtain ⟨h1, h2, _⟩ := way_keeps h.way
  exact nd_le h2 fun n hm => (h1 n hm).1
/-! the listing is in order -/
theorem flat_pw {β γ : Type} {R : γ → γ → Prop} {S : β → β → Prop} {f : β → List γ} : ∀ {l : List β}, l.Pairwise S → (∀ b ∈ l, (f b).Pairwise R) → (∀ b c, S b c → ∀ x ∈ f b, ∀ y ∈ f c, R x y) → (l.flatMap f).Pairwise R
  | [], _, _, _ => .nil
  | b :: l, h, h1, h2 => by
    rw [List.pairwise_cons] at h
    rw [List.flatMap_cons, List.pairwise_append]
    refine ⟨h1 b (List.mem_cons_self ..), flat_pw h.2 (fun c hc => h1 c (List.mem_cons_of_mem _ hc)) h2, fun x hx y hy => ?_⟩
    obtain ⟨c, hc, hy⟩ := List.mem_flatMap.mp hy
    exact h2 b c (h.1 c hc) x hx y hy
theorem lex_app {lt : α → α → Prop} {n m : α} (h : lt n m) (p a b : List α) : List.Lex lt (p ++ n :: a) (p ++ m :: b) := by
  induction p with
  | nil => exact .rel h
  | cons x p ih => exact .cons ih
theorem lo_pw {lt : α → α → Prop} {ns : List α} {ps : List (α × α)} (hs : ns.Pairwise lt) : ∀ (m : Nat) (p : List α), (lo ns ps m p).Pairwise (List.Lex lt)
  | 0, p => List.pairwise_singleton _ _
  | m + 1, p => by
    rw [lo]
    refine flat_pw (S := lt) (hs.sublist (List.filter_sublist)) (fun n _ => lo_pw hs m _) fun n n' h x hx y hy => ?_
    obtain ⟨r, rfl, _, _⟩ := lo_way.mp hx
    obtain ⟨r', rfl, _, _⟩ := lo_way.mp hy
    rw [List.append_assoc, List.append_assoc]
    exact lex_app h p r r'
/-! more pairs: fewer orders, in the same order -/
theorem lo_filter {ns : List α} {ps qs : List (α × α)} (keep : List α → Bool) (h : ∀ r, Way ns qs [] r ↔ Way ns ps [] r ∧ keep r = true) {lt : α → α → Prop} (hs : ns.Pairwise lt) (ir : ∀ a b : List α, List.Lex lt a b → List.Lex lt b a → False) (m : Nat) : lo ns qs m [] = (lo ns ps m []).filter keep := by
  have mem : ∀ o, o ∈ lo ns qs m [] ↔ o ∈ (lo ns ps m []).filter keep := fun o => by
    rw [List.mem_filter, lo_way, lo_way]
    constructor
    · rintro ⟨r, e, hl, w⟩
      obtain ⟨w1, w2⟩ := (h r).mp w
      refine ⟨⟨r, e, hl, w1⟩, ?_⟩
      rw [e]
      exact w2
    · rintro ⟨⟨r, e, hl, w1⟩, w2⟩
      rw [e] at w2
      exact ⟨r, e, hl, (h r).mpr ⟨w1, w2⟩⟩
  have pw1 := lo_pw (ps := qs) hs m []
  have pw2 := (lo_pw (ps := ps) hs m []).filter keep
  have key : ∀ (a b : List (List α)), a.Pairwise (List.Lex lt) → b.Pairwise (List.Lex lt) → (∀ o, o ∈ a ↔ o ∈ b) → a = b := by
    intro a
    induction a with
    | nil =>
      intro b _ _ hm
      cases b with
      | nil => rfl
      | cons y b => exact absurd ((hm y).mpr (List.mem_cons_self ..)) (fun z => nomatch z)
    | cons x a ih =>
      intro b ha hb hm
      cases b with
      | nil => exact absurd ((hm x).mp (List.mem_cons_self ..)) (fun z => nomatch z)
      | cons y b =>
        rw [List.pairwise_cons] at ha hb
        have e : x = y := by
          refine Classical.byContradiction fun ne => ?_
          have hx := (List.mem_cons.mp ((hm x).mp (List.mem_cons_self ..))).resolve_left ne
          have hy := (List.mem_cons.mp ((hm y).mpr (List.mem_cons_self ..))).resolve_left (fun z => ne z.symm)
          exact ir x y (ha.1 y hy) (hb.1 x hx)
        subst e
        congr 1
        refine ih b ha.2 hb.2 fun o => ?_
        constructor
        · intro ho
          refine (List.mem_cons.mp ((hm o).mp (List.mem_cons_of_mem _ ho))).resolve_left fun e => ?_
          subst e
          exact ir o o (ha.1 o ho) (ha.1 o ho)
        · intro ho
          refine (List.mem_cons.mp ((hm o).mpr (List.mem_cons_of_mem _ ho))).resolve_left fun e => ?_
          subst e
          exact ir o o (hb.1 o ho) (hb.1 o ho)
  exact key _ _ pw1 pw2 mem
end OM

end
section
/-! orders of names: where pairs have no circle there is always a next one -/
namespace OM
variable {α : Type} [DecidableEq α]
/-- some row of the names has every pair forward -/
structure Acy (ns : List α) (ps : List (α × α)) (row : List α) : Prop where
  all : ∀ n, n ∈ row ↔ n ∈ ns
  fwd : ∀ (a : List α) (n : α) (b : List α), row = a ++ n :: b → ∀ q ∈ ps, q.2 = n → q.1 ∈ a
theorem first_out (p : List α) : ∀ {row : List α}, (∃ n ∈ row, n ∉ p) → ∃ a n b, row = a ++ n :: b ∧ n ∉ p ∧ ∀ m ∈ a, m ∈ p
  | [], h => by
    obtain ⟨n, hn, _⟩ := h
    cases hn
  | x :: row, h => by
    by_cases hx : x ∈ p
    · have : ∃ n ∈ row, n ∉ p := by
        obtain ⟨n, hn, h2⟩ := h
        rcases List.mem_cons.mp hn with rfl | hn
        · exact absurd hx h2
        · exact ⟨n, hn, h2⟩
      obtain ⟨a, n, b, e, h1, h2⟩ := first_out p this
      refine ⟨x :: a, n, b, by rw [e]; rfl, h1, fun m hm => ?_⟩
      rcases List.mem_cons.mp hm with rfl | hm
      · exact hx
      · exact h2 m hm
    · exact ⟨[], x, row, rfl, hx, fun _ h => nomatch h⟩
theorem nxt_ne {ns : List α} {ps : List (α × α)} {row : List α} (A : Acy ns ps row) {p : List α} (h : ∃ n ∈ ns, n ∉ p) : nxt ns ps p ≠ [] := by
  obtain ⟨n, hn, h2⟩ := h
  obtain ⟨a, m, b, e, h3, h4⟩ := first_out p (row := row) ⟨n, (A.all n).mpr hn, h2⟩
  have hm : m ∈ nxt ns ps p := nxt_mem.mpr ⟨(A.all m).mp (by rw [e]; exact List.mem_append_right _ (List.mem_cons_self ..)), h3, fun q hq e2 => h4 _ (A.fwd a m b e q hq e2)⟩
  intro z
  rw [z] at hm
  cases hm
theorem pre_short {ns : List α} {ps : List (α × α)} {p : List α} (h : Pre ns ps p) (hl : p.length < ns.length) (hn : ns.Nodup) : ∃ n ∈ ns, n ∉ p := by
  refine Classical.byContradiction fun no => ?_
  have : ∀ n ∈ ns, n ∈ p := fun n hm => Classical.byContradiction fun z => no ⟨n, hm, z⟩
  have := nd_le hn this
  omega
/-- the first order, greedily -/
def greedy (ns : List α) (ps : List (α × α)) : Nat → List α → List α
  | 0, p => p
  | k + 1, p => greedy ns ps k (p ++ (nxt ns ps p).take 1)
theorem greedy_head {ns : List α} {ps : List (α × α)} {row : List α} (A : Acy ns ps row) (hn : ns.Nodup) : ∀ (k : Nat) (p : List α), Pre ns ps p → p.length + k ≤ ns.length → (lo ns ps k p).head? = some (greedy ns ps k p)
  | 0, p, _, _ => rfl
  | k + 1, p, h, hl => by
    have ne := nxt_ne A (pre_short h (by omega) hn)
    cases e : nxt ns ps p with
    | nil => exact absurd e ne
    | cons n r =>
      have hm : n ∈ nxt ns ps p := by rw [e]; exact List.mem_cons_self ..
      have ih := greedy_head A hn k (p ++ [n]) (pre_kid h hm) (by rw [List.length_append, List.length_singleton]; omega)
      rw [lo, greedy, e, List.flatMap_cons, List.head?_append, ih]
      rfl
theorem lo_ne {ns : List α} {ps : List (α × α)} {row : List α} (A : Acy ns ps row) (hn : ns.Nodup) : lo ns ps ns.length [] ≠ [] := by
  intro z
  have := greedy_head A hn ns.length [] ⟨.nil _⟩ (by simp)
  rw [z] at this
  cases this
/-- without pairs: as many as there are rows of the names -/
def fac : Nat → Nat
  | 0 => 1
  | n + 1 => fac n * (n + 1)
theorem nxt_none (ns p : List α) : nxt ns [] p = ns.filter fun n => decide (n ∉ p) := by
  unfold nxt
  congr 1
  funext n
  simp
theorem flat_const {β γ : Type} {f : β → List γ} {c : Nat} : ∀ {l : List β}, (∀ b ∈ l, (f b).length = c) → (l.flatMap f).length = l.length * c
  | [], _ => by simp
  | b :: l, h => by
    rw [List.flatMap_cons, List.length_append, h b (List.mem_cons_self ..), flat_const fun c hc => h c (List.mem_cons_of_mem _ hc), List.length_cons, Nat.succ_mul, Nat.add_comm]
theorem out_len : ∀ {ns p : List α}, ns.Nodup → p.Nodup → (∀ n ∈ p, n ∈ ns) → (ns.filter fun n => decide (n ∉ p)).length + p.length = ns.length
  | [], p, _, _, h => by
    cases p with
    | nil => rfl
    | cons a p => exact absurd (h a (List.mem_cons_self ..)) (fun z => nomatch z)
  | a :: ns, p, hn, hp, h => by
    rw [List.nodup_cons] at hn
    by_cases ha : a ∈ p
    · rw [List.filter_cons, if_neg (by simpa using ha)]
      have ih := out_len (ns := ns) (p := p.erase a) hn.2 (hp.erase a) fun n hm => by
        have h6 := (List.Nodup.mem_erase_iff hp).mp hm
        exact (List.mem_cons.mp (h n h6.2)).resolve_left h6.1
      have e : ns.filter (fun n => decide (n ∉ p)) = ns.filter fun n => decide (n ∉ p.erase a) := by
        refine List.filter_congr fun n hm => ?_
        have ne : n ≠ a := fun e => hn.1 (e ▸ hm)
        rw [decide_eq_decide, List.mem_erase_of_ne ne]
      rw [e, List.length_cons]
      have l1 := List.length_erase_of_mem ha
      have l2 := List.length_pos_of_mem ha
      omega
    · rw [List.filter_cons, if_pos (by simpa using ha), List.length_cons]
      have ih := out_len (ns := ns) (p := p) hn.2 hp fun n hm => (List.mem_cons.mp (h n hm)).resolve_left fun e => ha (e ▸ hm)
      rw [List.length_cons]
      omega
theorem lo_fac {ns : List α} (hn : ns.Nodup) : ∀ (k : Nat) (p : List α), p.Nodup → (∀ n ∈ p, n ∈ ns) → p.length + k = ns.length → (lo ns [] k p).length = fac k
  | 0, p, _, _, _ => rfl
  | k + 1, p, hp, hs, hl => by
    rw [lo, flat_const (c := fac k) fun n hm => ?_]
    · rw [nxt_none, fac, Nat.mul_comm]
      congr 1
      have := out_len hn hp hs
      omega
    · obtain ⟨h1, h2, _⟩ := nxt_mem.mp hm
      refine lo_fac hn k (p ++ [n]) ?_ (fun m hm => ?_) (by rw [List.length_append, List.length_singleton]; omega)
      · rw [List.nodup_append]
        refine ⟨hp, List.nodup_cons.mpr ⟨(fun z => nomatch z), List.nodup_nil⟩, fun a ha b hb => ?_⟩
        rw [List.mem_singleton] at hb
        rintro rfl
        exact h2 (hb ▸ ha)
      · rcases List.mem_append.mp hm with hm | hm
        · exact hs m hm
        · rw [List.mem_singleton.mp hm]
          exact h1
end OM

end
section
/-! orders of names: the closure of the pairs -/
namespace OM
variable {α : Type} [DecidableEq α]
/-- one before another, by way of names of a list -/
inductive Con (ps : List (α × α)) (M : List α) : α → α → Prop
  | base {a b : α} : (a, b) ∈ ps → Con ps M a b
  | mid {a m b : α} : m ∈ M → Con ps M a m → Con ps M m b → Con ps M a b
theorem Con.mono {ps : List (α × α)} {M M' : List α} (h : ∀ m ∈ M, m ∈ M') {a b : α} (c : Con ps M a b) : Con ps M' a b := by
  induction c with
  | base h => exact .base h
  | mid hm _ _ i1 i2 => exact .mid (h _ hm) i1 i2
/-- a turn of the closure -/
def Turn (C : α → α → Prop) (m a b : α) : Prop := C a b ∨ (C a m ∧ C m b)
theorem turn_con {ps : List (α × α)} {ms : List α} {m a b : α} : Turn (Con ps ms) m a b ↔ Con ps (ms ++ [m]) a b := by
  have up : ∀ {a b : α}, Con ps ms a b → Con ps (ms ++ [m]) a b := fun c => c.mono fun _ h => List.mem_append_left _ h
  constructor
  · rintro (c | ⟨c1, c2⟩)
    · exact up c
    · exact .mid (List.mem_append_right _ (List.mem_singleton.mpr rfl)) (up c1) (up c2)
  · intro c
    induction c with
    | base h => exact .inl (.base h)
    | @mid a x b hx _ _ i1 i2 =>
      rcases List.mem_append.mp hx with hx | hx
      · rcases i1 with i1 | ⟨j1, j2⟩
        · rcases i2 with i2 | ⟨k1, k2⟩
          · exact .inl (.mid hx i1 i2)
          · exact .inr ⟨.mid hx i1 k1, k2⟩
        · rcases i2 with i2 | ⟨k1, k2⟩
          · exact .inr ⟨j1, .mid hx j2 i2⟩
          · exact .inr ⟨j1, k2⟩
      · rw [List.mem_singleton] at hx
        subst hx
        have l : Con ps ms a x := by
          rcases i1 with i1 | ⟨j1, _⟩
          · exact i1
          · exact j1
        have r : Con ps ms x b := by
          rcases i2 with i2 | ⟨_, k2⟩
          · exact i2
          · exact k2
        exact .inr ⟨l, r⟩
theorem con_nil {ps : List (α × α)} {a b : α} : Con ps [] a b ↔ (a, b) ∈ ps := by
  constructor
  · intro c
    cases c with
    | base h => exact h
    | mid h => cases h
  · exact .base
/-- the names of the pairs are names -/
def In2 (ns : List α) (ps : List (α × α)) : Prop := ∀ q ∈ ps, q.1 ∈ ns ∧ q.2 ∈ ns
theorem con_in {ns : List α} {ps : List (α × α)} (h : In2 ns ps) {M : List α} {a b : α} (c : Con ps M a b) : a ∈ ns ∧ b ∈ ns := by
  induction c with
  | base hq => exact h _ hq
  | mid _ _ _ i1 i2 => exact ⟨i1.1, i2.2⟩
theorem con_trans {ns : List α} {ps : List (α × α)} (h : In2 ns ps) {a b c : α} (c1 : Con ps ns a b) (c2 : Con ps ns b c) : Con ps ns a c := .mid (con_in h c1).2 c1 c2
/-- what comes before in every way -/
theorem con_keeps {ns : List α} {ps : List (α × α)} {M : List α} {a b : α} (c : Con ps M a b) : ∀ {r : List α}, Way ns ps [] r → ∀ (x : List α) (y : List α), r = x ++ b :: y → a ∈ x := by
  induction c with
  | @base a b h =>
    intro r w x y e
    exact (way_keeps w).2.2 x b y e (a, b) h rfl
  | @mid a m b _ _ _ i1 i2 =>
    intro r w x y e
    have hm := i2 w x y e
    obtain ⟨x1, x2, rfl⟩ := List.append_of_mem hm
    have := i1 w x1 (x2 ++ b :: y) (by rw [e, List.append_assoc]; rfl)
    exact List.mem_append_left _ this
/-- more pairs -/
theorem way_more {ns : List α} {ps qs : List (α × α)} {a b : α} (hq : ∀ q, q ∈ qs ↔ q ∈ ps ∨ q = (a, b)) (r : List α) : Way ns qs [] r ↔ Way ns ps [] r ∧ ∀ (x y : List α), r = x ++ b :: y → a ∈ x := by
  constructor
  · intro w
    obtain ⟨h1, h2, h3⟩ := way_keeps w
    refine ⟨way_of h1 h2 fun x n y e q hp e2 => h3 x n y e q ((hq q).mpr (.inl hp)) e2, fun x y e => ?_⟩
    have := h3 x b y e (a, b) ((hq _).mpr (.inr rfl)) rfl
    rwa [List.nil_append] at this
  · rintro ⟨w, k⟩
    obtain ⟨h1, h2, h3⟩ := way_keeps w
    refine way_of h1 h2 fun x n y e q hq2 e2 => ?_
    rcases (hq q).mp hq2 with hp | rfl
    · exact h3 x n y e q hp e2
    · rw [List.nil_append]
      subst e2
      exact k x y e
/-- a pair of the closure changes no order -/
theorem way_closed {ns : List α} {ps qs : List (α × α)} {M : List α} {a b : α} (hq : ∀ q, q ∈ qs ↔ q ∈ ps ∨ q = (a, b)) (c : Con ps M a b) (r : List α) : Way ns qs [] r ↔ Way ns ps [] r := by
  rw [way_more hq]
  exact ⟨fun z => z.1, fun w => ⟨w, fun x y e => con_keeps c w x y e⟩⟩
theorem con_closed {ns : List α} {ps qs : List (α × α)} (h : In2 ns ps) {a b : α} (hq : ∀ q, q ∈ qs ↔ q ∈ ps ∨ q = (a, b)) (c : Con ps ns a b) {x y : α} : Con qs ns x y ↔ Con ps ns x y := by
  constructor
  · intro d
    induction d with
    | @base x y hb =>
      rcases (hq _).mp hb with hb | e
      · exact .base hb
      · cases e
        exact c
    | mid hm _ _ i1 i2 => exact .mid hm i1 i2
  · intro d
    induction d with
    | base hb => exact .base ((hq _).mpr (.inl hb))
    | mid hm _ _ i1 i2 => exact .mid hm i1 i2
end OM

end
section
/-! orders of names: exchanges of neighbours connect them -/
namespace OM
variable {α : Type} [DecidableEq α]
/-- two neighbours that neither comes before are exchanged -/
def Sw (ps : List (α × α)) (M : List α) (r s : List α) : Prop := ∃ (x : List α) (a b : α) (y : List α), r = x ++ a :: b :: y ∧ s = x ++ b :: a :: y ∧ ¬ Con ps M a b ∧ ¬ Con ps M b a
inductive Reach (ps : List (α × α)) (M : List α) : List α → List α → Prop
  | refl (r : List α) : Reach ps M r r
  | step {r s t : List α} : Sw ps M r s → Reach ps M s t → Reach ps M r t
theorem Reach.trans {ps : List (α × α)} {M : List α} {r s t : List α} (h : Reach ps M r s) (k : Reach ps M s t) : Reach ps M r t := by
  induction h with
  | refl => exact k
  | step a _ ih => exact .step a (ih k)
theorem Reach.cons {ps : List (α × α)} {M : List α} {r s : List α} (n : α) (h : Reach ps M r s) : Reach ps M (n :: r) (n :: s) := by
  induction h with
  | refl => exact .refl _
  | step a _ ih =>
    obtain ⟨x, u, v, y, rfl, rfl, h1, h2⟩ := a
    exact .step ⟨n :: x, u, v, y, rfl, rfl, h1, h2⟩ ih
/-- a name that stands by no one ahead of it goes to the front -/
theorem bubble {ps : List (α × α)} {M : List α} {n : α} : ∀ (a b : List α), (∀ x ∈ a, ¬ Con ps M x n ∧ ¬ Con ps M n x) → Reach ps M (a ++ n :: b) (n :: (a ++ b))
  | [], b, _ => .refl _
  | x :: a, b, h => by
    have ih := bubble a b fun y hy => h y (List.mem_cons_of_mem _ hy)
    refine (ih.cons x).trans (.step ⟨[], x, n, a ++ b, rfl, rfl, (h x (List.mem_cons_self ..)).1, (h x (List.mem_cons_self ..)).2⟩ (.refl _))
theorem con_last {ps : List (α × α)} {M : List α} {x n : α} (c : Con ps M x n) : ∃ q, (q, n) ∈ ps ∧ (x = q ∨ Con ps M x q) := by
  induction c with
  | @base a b h => exact ⟨a, h, .inl rfl⟩
  | @mid a m b hm c1 _ _ i2 =>
    obtain ⟨q, hq, e⟩ := i2
    refine ⟨q, hq, .inr ?_⟩
    rcases e with rfl | e
    · exact c1
    · exact .mid hm c1 e
theorem way_app {ns : List α} {ps : List (α × α)} {p r : List α} (w : Way ns ps p r) : ∀ {s : List α}, Way ns ps (p ++ r) s → Way ns ps p (r ++ s) := by
  induction w with
  | nil p =>
    intro s h
    rw [List.append_nil] at h
    exact h
  | @cons p n r hn _ ih =>
    intro s h
    refine .cons hn (ih ?_)
    rw [List.append_assoc]
    exact h
/-- a name that may come now is taken out of a way -/
theorem way_out {ns : List α} {ps : List (α × α)} {p a b : List α} {n : α} (w : Way ns ps p (a ++ n :: b)) (hn : n ∈ nxt ns ps p) : Way ns ps (p ++ [n]) (a ++ b) := by
  obtain ⟨h1, h2, h3⟩ := way_keeps w
  have sub : ∀ m ∈ a ++ b, m ∈ a ++ n :: b := fun m hm => by
    rcases List.mem_append.mp hm with h | h
    · exact List.mem_append_left _ h
    · exact List.mem_append_right _ (List.mem_cons_of_mem _ h)
  have nd : (n :: (a ++ b)).Nodup := (List.perm_middle.nodup_iff).mp h2
  rw [List.nodup_cons] at nd
  refine way_of (fun m hm => ⟨(h1 m (sub m hm)).1, fun z => ?_⟩) nd.2 fun x m y e q hq e2 => ?_
  · rcases List.mem_append.mp z with z | z
    · exact (h1 m (sub m hm)).2 z
    · rw [List.mem_singleton] at z
      subst z
      exact nd.1 hm
  · have key : q.1 ∈ p ++ (n :: x) := by
      rcases List.append_eq_append_iff.mp e with ⟨t, e3, e4⟩ | ⟨t, e3, e4⟩
      · -- x = a ++ t
        have := h3 (a ++ n :: t) m y (by rw [e4, List.append_assoc]; rfl) q hq e2
        rcases List.mem_append.mp this with h | h
        · exact List.mem_append_left _ h
        · refine List.mem_append_right _ ?_
          rw [e3]
          rcases List.mem_append.mp h with h | h
          · exact List.mem_cons_of_mem _ (List.mem_append_left _ h)
          · rcases List.mem_cons.mp h with h | h
            · rw [h]; exact List.mem_cons_self ..
            · exact List.mem_cons_of_mem _ (List.mem_append_right _ h)
      · -- a = x ++ t, t ++ b = m :: y
        cases t with
        | nil =>
          rw [List.append_nil] at e3
          have e4 : b = m :: y := by simpa using e4.symm
          have := h3 (a ++ [n]) m y (by rw [e4, List.append_assoc]; rfl) q hq e2
          rcases List.mem_append.mp this with h | h
          · exact List.mem_append_left _ h
          · refine List.mem_append_right _ ?_
            rw [← e3]
            rcases List.mem_append.mp h with h | h
            · exact List.mem_cons_of_mem _ h
            · rw [List.mem_singleton] at h
              rw [h]; exact List.mem_cons_self ..
        | cons u t =>
          rw [List.cons_append, List.cons.injEq] at e4
          obtain ⟨e5, e6⟩ := e4
          subst e5
          have := h3 x m (t ++ n :: b) (by rw [e3, List.append_assoc]; rfl) q hq e2
          rcases List.mem_append.mp this with h | h
          · exact List.mem_append_left _ h
          · exact List.mem_append_right _ (List.mem_cons_of_mem _ h)
    rw [List.append_assoc]
    exact key
theorem reach_all {ns : List α} {ps : List (α × α)} {M : List α} : ∀ {s p r : List α}, Way ns ps [] p → Way ns ps p r → Way ns ps p s → r.Perm s → Reach ps M r s
  | [], p, r, _, _, _, hp => by
    rw [List.perm_nil.mp hp]
    exact .refl _
  | n :: s, p, r, w0, wr, ws, hp => by
    have hr : n ∈ r := hp.mem_iff.mpr (List.mem_cons_self ..)
    obtain ⟨a, b, rfl⟩ := List.append_of_mem hr
    cases ws with
    | cons hn ws =>
      obtain ⟨h1, h2, _⟩ := way_keeps wr
      have wall := way_app w0 (s := a ++ n :: b) (by rw [List.nil_append]; exact wr)
      obtain ⟨n1, n2, n3⟩ := nxt_mem.mp hn
      have nd : (n :: (a ++ b)).Nodup := (List.perm_middle.nodup_iff).mp h2
      rw [List.nodup_cons] at nd
      have b1 : Reach ps M (a ++ n :: b) (n :: (a ++ b)) := by
        refine bubble a b fun x hx => ⟨fun c => ?_, fun c => ?_⟩
        · obtain ⟨q, hq, e⟩ := con_last c
          have hqp : q ∈ p := n3 (q, n) hq rfl
          have hxp : x ∉ p := (h1 x (List.mem_append_left _ hx)).2
          rcases e with rfl | e
          · exact hxp hqp
          · obtain ⟨p1, p2, rfl⟩ := List.append_of_mem hqp
            exact hxp (List.mem_append_left _ (con_keeps e w0 p1 p2 rfl))
        · obtain ⟨a1, a2, rfl⟩ := List.append_of_mem hx
          have := con_keeps c wall (p ++ a1) (a2 ++ n :: b) (by simp [List.append_assoc])
          rcases List.mem_append.mp this with h | h
          · exact n2 h
          · exact nd.1 (List.mem_append_left _ (List.mem_append_left _ h))
      have hp2 : (a ++ b).Perm s := (List.perm_middle.symm.trans hp).cons_inv
      exact b1.trans ((reach_all (way_app w0 (.cons (by rw [List.nil_append]; exact hn) (.nil _))) (way_out wr hn) ws hp2).cons n)
end OM

end
section
/-! orders of names: prefixes as sets (the names in their own order) -/
namespace OM
variable {α : Type} [DecidableEq α]
def srt (ns p : List α) : List α := ns.filter fun n => decide (n ∈ p)
theorem srt_mem {ns p : List α} {n : α} : n ∈ srt ns p ↔ n ∈ ns ∧ n ∈ p := by
  unfold srt
  rw [List.mem_filter, decide_eq_true_eq]
theorem srt_eq {ns p q : List α} (h : ∀ n ∈ ns, n ∈ p ↔ n ∈ q) : srt ns p = srt ns q := List.filter_congr fun n hn => decide_eq_decide.mpr (h n hn)
theorem srt_iff {ns p q : List α} : srt ns p = srt ns q ↔ ∀ n ∈ ns, n ∈ p ↔ n ∈ q := by
  constructor
  · intro e n hn
    have h1 := srt_mem (ns := ns) (p := p) (n := n)
    have h2 := srt_mem (ns := ns) (p := q) (n := n)
    rw [e] at h1
    exact ⟨fun z => (h2.mp (h1.mpr ⟨hn, z⟩)).2, fun z => (h1.mp (h2.mpr ⟨hn, z⟩)).2⟩
  · exact srt_eq
theorem srt_srt (ns p : List α) : srt ns (srt ns p) = srt ns p := srt_eq fun n hn => by rw [srt_mem]; exact ⟨fun z => z.2, fun z => ⟨hn, z⟩⟩
theorem srt_len {ns p : List α} (hn : ns.Nodup) (hp : p.Nodup) (h : ∀ n ∈ p, n ∈ ns) : (srt ns p).length = p.length := by
  have h1 : (srt ns p).length ≤ p.length := nd_le (hn.filter _) fun n hm => (srt_mem.mp hm).2
  have h2 : p.length ≤ (srt ns p).length := nd_le hp fun n hm => srt_mem.mpr ⟨h n hm, hm⟩
  omega
theorem nxt_eq {ns : List α} {ps : List (α × α)} (h2 : In2 ns ps) {p q : List α} (h : ∀ n ∈ ns, n ∈ p ↔ n ∈ q) : nxt ns ps p = nxt ns ps q := by
  unfold nxt
  refine List.filter_congr fun n hn => ?_
  rw [Bool.eq_iff_iff, Bool.and_eq_true, Bool.and_eq_true, decide_eq_true_eq, decide_eq_true_eq, List.all_eq_true, List.all_eq_true, h n hn]
  refine and_congr_right fun _ => forall_congr' fun x => forall_congr' fun hx => ?_
  rw [decide_eq_true_eq, decide_eq_true_eq, h x.1 (h2 x hx).1]
theorem nxt_srt {ns : List α} {ps : List (α × α)} (h2 : In2 ns ps) (p : List α) : nxt ns ps (srt ns p) = nxt ns ps p := nxt_eq h2 fun n hn => by rw [srt_mem]; exact ⟨fun z => z.2, fun z => ⟨hn, z⟩⟩
/-- a set of k names that ways of k names have -/
def Lev (ns : List α) (ps : List (α × α)) (k : Nat) (q : List α) : Prop := ∃ p, Way ns ps [] p ∧ p.length = k ∧ q = srt ns p
theorem lev_zero {ns : List α} {ps : List (α × α)} {q : List α} : Lev ns ps 0 q ↔ q = [] := by
  constructor
  · rintro ⟨p, _, hl, rfl⟩
    rw [List.eq_nil_of_length_eq_zero hl]
    unfold srt
    exact List.filter_eq_nil_iff.mpr fun n _ => by simp
  · rintro rfl
    refine ⟨[], .nil _, rfl, ?_⟩
    unfold srt
    exact (List.filter_eq_nil_iff.mpr fun n _ => by simp).symm
theorem way_pop {ns : List α} {ps : List (α × α)} {n : α} : ∀ {r p : List α}, Way ns ps p (r ++ [n]) → Way ns ps p r ∧ n ∈ nxt ns ps (p ++ r)
  | [], p, w => by
    cases w with
    | cons hn _ => exact ⟨.nil _, by rw [List.append_nil]; exact hn⟩
  | x :: r, p, w => by
    cases w with
    | cons hn w =>
      obtain ⟨w1, w2⟩ := way_pop w
      refine ⟨.cons hn w1, ?_⟩
      rw [List.append_assoc] at w2
      exact w2
theorem lev_succ {ns : List α} {ps : List (α × α)} (h2 : In2 ns ps) {k : Nat} {q : List α} : Lev ns ps (k + 1) q ↔ ∃ p n, Lev ns ps k p ∧ n ∈ nxt ns ps p ∧ q = srt ns (p ++ [n]) := by
  constructor
  · rintro ⟨r, w, hl, rfl⟩
    have ne : r ≠ [] := fun e => by rw [e] at hl; cases hl
    obtain ⟨p, n, rfl⟩ : ∃ p n, r = p ++ [n] := ⟨r.dropLast, r.getLast ne, (List.dropLast_concat_getLast ne).symm⟩
    obtain ⟨w1, w2⟩ := way_pop w
    rw [List.nil_append] at w2
    refine ⟨srt ns p, n, ⟨p, w1, by rw [List.length_append, List.length_singleton] at hl; omega, rfl⟩, by rw [nxt_srt h2]; exact w2, ?_⟩
    refine srt_eq fun m hm => ?_
    rw [List.mem_append, List.mem_append, srt_mem]
    exact or_congr_left ⟨fun z => ⟨hm, z⟩, fun z => z.2⟩
  · rintro ⟨_, n, ⟨p, w, hl, rfl⟩, hn, rfl⟩
    rw [nxt_srt h2] at hn
    refine ⟨p ++ [n], way_snoc w (by rw [List.nil_append]; exact hn), by rw [List.length_append, hl]; rfl, ?_⟩
    refine srt_eq fun m hm => ?_
    rw [List.mem_append, List.mem_append, srt_mem]
    exact or_congr_left ⟨fun z => z.2, fun z => ⟨hm, z⟩⟩
/-- what is begun can be ended -/
theorem way_ends {ns : List α} {ps : List (α × α)} {row : List α} (A : Acy ns ps row) (hn : ns.Nodup) : ∀ (k : Nat) {p : List α}, Way ns ps [] p → p.length + k = ns.length → ∃ r, Way ns ps [] (p ++ r) ∧ r.length = k
  | 0, p, w, _ => ⟨[], by rw [List.append_nil]; exact w, rfl⟩
  | k + 1, p, w, hl => by
    have ne := nxt_ne A (pre_short ⟨w⟩ (by omega) hn)
    cases e : nxt ns ps p with
    | nil => exact absurd e ne
    | cons n t =>
      have hm : n ∈ nxt ns ps p := by rw [e]; exact List.mem_cons_self ..
      obtain ⟨r, w2, hr⟩ := way_ends A hn k (way_snoc w (by rw [List.nil_append]; exact hm)) (by rw [List.length_append, List.length_singleton]; omega)
      exact ⟨n :: r, by rw [List.append_assoc] at w2; exact w2, by rw [List.length_cons, hr]⟩
theorem way_take {ns : List α} {ps : List (α × α)} : ∀ {r p : List α} (k : Nat), Way ns ps p r → Way ns ps p (r.take k)
  | [], p, k, _ => by rw [List.take_nil]; exact .nil _
  | n :: r, p, 0, _ => .nil _
  | n :: r, p, k + 1, w => by
    cases w with
    | cons hn w => exact .cons hn (way_take k w)
/-- the beginnings of the orders are the levels -/
theorem lev_take {ns : List α} {ps : List (α × α)} {row : List α} (A : Acy ns ps row) (hn : ns.Nodup) {k : Nat} (hk : k ≤ ns.length) {q : List α} : Lev ns ps k q ↔ ∃ o ∈ lo ns ps ns.length [], q = srt ns (o.take k) := by
  constructor
  · rintro ⟨p, w, hl, rfl⟩
    obtain ⟨r, w2, hr⟩ := way_ends A hn (ns.length - k) w (by omega)
    refine ⟨p ++ r, lo_way.mpr ⟨p ++ r, rfl, by rw [List.length_append, hl, hr]; omega, w2⟩, ?_⟩
    rw [← hl, List.take_left']
    rfl
  · rintro ⟨o, ho, rfl⟩
    obtain ⟨r, e, hl, w⟩ := lo_way.mp ho
    have e : o = r := e
    subst e
    exact ⟨o.take k, way_take k w, by rw [List.length_take]; omega, rfl⟩
end OM

end
section
/-! orders of names: what stands open at a prefix; orders by their places -/
namespace OM
variable {α : Type} [DecidableEq α]
theorem way_down {ns : List α} {ps : List (α × α)} {M : List α} {p : List α} (w : Way ns ps [] p) {x q : α} (hq : q ∈ p) (c : Con ps M x q) : x ∈ p := by
  obtain ⟨a, b, rfl⟩ := List.append_of_mem hq
  exact List.mem_append_left _ (con_keeps c w a b rfl)
theorem lev_down {ns : List α} {ps : List (α × α)} (h2 : In2 ns ps) {M : List α} {k : Nat} {p : List α} (l : Lev ns ps k p) {x q : α} (hq : q ∈ p) (c : Con ps M x q) : x ∈ p := by
  obtain ⟨r, w, _, rfl⟩ := l
  exact srt_mem.mpr ⟨(con_in h2 c).1, way_down w (srt_mem.mp hq).2 c⟩
/-- two that may come next stand in no order -/
theorem nxt_open {ns : List α} {ps : List (α × α)} (h2 : In2 ns ps) {M : List α} {k : Nat} {p : List α} (l : Lev ns ps k p) {x y : α} (hx : x ∈ nxt ns ps p) (hy : y ∈ nxt ns ps p) : ¬ Con ps M x y := by
  intro c
  obtain ⟨q, hq, e⟩ := con_last c
  have hqp : q ∈ p := (nxt_mem.mp hy).2.2 (q, y) hq rfl
  rcases e with rfl | e
  · exact (nxt_mem.mp hx).2.1 hqp
  · exact (nxt_mem.mp hx).2.1 (lev_down h2 l hqp e)
theorem idx_ne {c a : α} (h : c ≠ a) (l : List α) : (c :: l).idxOf a = l.idxOf a + 1 := by
  rw [List.idxOf_cons]
  have : (c == a) = false := by simpa using h
  rw [this]
  rfl
theorem idx_app {a : α} : ∀ {x : List α} (y : List α), a ∈ x → (x ++ y).idxOf a = x.idxOf a ∧ x.idxOf a < x.length
  | b :: x, y, h => by
    by_cases e : b = a
    · subst e
      rw [List.cons_append, List.idxOf_cons_self, List.idxOf_cons_self]
      exact ⟨rfl, Nat.zero_lt_succ _⟩
    · have h2 : a ∈ x := (List.mem_cons.mp h).resolve_left fun z => e z.symm
      obtain ⟨h3, h4⟩ := idx_app y h2
      rw [List.cons_append, idx_ne e, idx_ne e, h3]
      exact ⟨rfl, Nat.succ_lt_succ h4⟩
theorem idx_at {b : α} : ∀ {x : List α} (y : List α), b ∉ x → (x ++ b :: y).idxOf b = x.length
  | [], y, _ => List.idxOf_cons_self
  | c :: x, y, h => by
    have ne : c ≠ b := fun e => h (e ▸ List.mem_cons_self ..)
    rw [List.cons_append, idx_ne ne, idx_at y fun z => h (List.mem_cons_of_mem _ z), List.length_cons]
theorem idx_out {a b : α} : ∀ {x : List α} (y : List α), a ∉ x → x.length ≤ (x ++ b :: y).idxOf a
  | [], _, _ => Nat.zero_le _
  | c :: x, y, h => by
    have ne : c ≠ a := fun e => h (e ▸ List.mem_cons_self ..)
    rw [List.cons_append, idx_ne ne, List.length_cons]
    exact Nat.succ_le_succ (idx_out y fun z => h (List.mem_cons_of_mem _ z))
/-- before another, by places -/
theorem ahead_iff {r : List α} (hn : r.Nodup) {a b : α} (hb : b ∈ r) : (∀ x y, r = x ++ b :: y → a ∈ x) ↔ r.idxOf a < r.idxOf b := by
  obtain ⟨u, v, rfl⟩ := List.append_of_mem hb
  have nb : b ∉ u := by
    have := (List.perm_middle.nodup_iff).mp hn
    rw [List.nodup_cons] at this
    exact fun z => this.1 (List.mem_append_left _ z)
  constructor
  · intro h
    obtain ⟨h1, h2⟩ := idx_app (b :: v) (h u v rfl)
    rw [idx_at v nb, h1]
    exact h2
  · intro h x y e
    have nx : b ∉ x := by
      have h3 : (x ++ b :: y).Nodup := e ▸ hn
      have := (List.perm_middle.nodup_iff).mp h3
      rw [List.nodup_cons] at this
      exact fun z => this.1 (List.mem_append_left _ z)
    rw [e] at h
    refine Classical.byContradiction fun na => ?_
    rw [idx_at y nx] at h
    have := idx_out (a := a) (b := b) y na
    omega
/-- the orders are the rows of the names in which every pair is forward -/
theorem lo_iff {ns : List α} {ps : List (α × α)} (hn : ns.Nodup) (h2 : In2 ns ps) {o : List α} : o ∈ lo ns ps ns.length [] ↔ o.length = ns.length ∧ (∀ n ∈ ns, n ∈ o) ∧ ∀ q ∈ ps, o.idxOf q.1 < o.idxOf q.2 := by
  constructor
  · intro h
    obtain ⟨r, e, hl, w⟩ := lo_way.mp h
    have e : o = r := e
    subst e
    obtain ⟨h1, h3, h4⟩ := way_keeps w
    have full := sub_full hn h3 (fun n hm => (h1 n hm).1) hl
    refine ⟨hl, full, fun q hq => (ahead_iff h3 (full _ (h2 q hq).2)).mp fun x y e => ?_⟩
    have := h4 x q.2 y e q hq rfl
    rwa [List.nil_append] at this
  · rintro ⟨hl, full, fw⟩
    -- o has each name once
    have nd : o.Nodup ∧ ∀ n ∈ o, n ∈ ns := by
      have key : ∀ (ns o : List α), ns.Nodup → o.length = ns.length → (∀ n ∈ ns, n ∈ o) → o.Nodup ∧ ∀ n ∈ o, n ∈ ns := by
        intro ns
        induction ns with
        | nil =>
          intro o _ hl _
          rw [List.eq_nil_of_length_eq_zero hl]
          exact ⟨List.nodup_nil, fun _ h => h⟩
        | cons a ns ih =>
          intro o hn hl full
          rw [List.nodup_cons] at hn
          have ha := full a (List.mem_cons_self ..)
          obtain ⟨i1, i2⟩ := ih (o.erase a) hn.2 (by rw [List.length_erase_of_mem ha, hl]; rfl) fun n hm => (List.mem_erase_of_ne (fun e : n = a => hn.1 (e ▸ hm))).mpr (full n (List.mem_cons_of_mem _ hm))
          have pm := List.perm_cons_erase ha
          refine ⟨pm.nodup_iff.mpr (List.nodup_cons.mpr ⟨fun z => hn.1 (i2 a z), i1⟩), fun n hm => ?_⟩
          rcases List.mem_cons.mp (pm.mem_iff.mp hm) with rfl | hm
          · exact List.mem_cons_self ..
          · exact List.mem_cons_of_mem _ (i2 n hm)
      exact key ns o hn hl full
    refine lo_way.mpr ⟨o, rfl, hl, way_of (fun n hm => ⟨nd.2 n hm, fun z => nomatch z⟩) nd.1 fun x n y e q hq e2 => ?_⟩
    rw [List.nil_append]
    subst e2
    exact (ahead_iff nd.1 (full _ (h2 q hq).2)).mpr (fw q hq) x y e
end OM

end
namespace K
open PySem L2
def top (i : Nat) : Stmt := PySem.Challenge.pw_orderless_k28_whole_prefixes_and_orders.main.body.getD i (.Pass ⟨0, 0, 0, 0⟩)
abbrev s_rule_named : Stmt := top 5
-- 0:program 1:name 2:rule
abbrev N_rule_named : List Str := ["program", "name", "rule"]
theorem sc_rule_named : FnScope N_rule_named ["program", "name"] (defScope s_rule_named) := ⟨rfl, rfl, rfl, by decide +kernel, rfl, by decide +kernel, by decide +kernel⟩
abbrev s_rule_names : Stmt := top 7
-- 0:program 1:rule
abbrev N_rule_names : List Str := ["program", "rule"]
theorem sc_rule_names : FnScope N_rule_names ["program"] (defScope s_rule_names) := ⟨rfl, rfl, rfl, by decide +kernel, rfl, by decide +kernel, by decide +kernel⟩
abbrev s_pairs_closed : Stmt := top 8
-- 0:program 1:closed 2:middle 3:ahead 4:after 5:one 6:other
abbrev N_pairs_closed : List Str := ["program", "closed", "middle", "ahead", "after", "one", "other"]
theorem sc_pairs_closed : FnScope N_pairs_closed ["program"] (defScope s_pairs_closed) := ⟨rfl, rfl, rfl, by decide +kernel, rfl, by decide +kernel, by decide +kernel⟩
abbrev s_is_before : Stmt := top 9
-- 0:program 1:rule 2:other
abbrev N_is_before : List Str := ["program", "rule", "other"]
theorem sc_is_before : FnScope N_is_before ["program", "rule", "other"] (defScope s_is_before) := ⟨rfl, rfl, rfl, by decide +kernel, rfl, by decide +kernel, by decide +kernel⟩
abbrev s_unordered_pairs : Stmt := top 10
-- 0:program 1:names 2:closed 3:pairs 4:one 5:other
abbrev N_unordered_pairs : List Str := ["program", "names", "closed", "pairs", "one", "other"]
theorem sc_unordered_pairs : FnScope N_unordered_pairs ["program"] (defScope s_unordered_pairs) := ⟨rfl, rfl, rfl, by decide +kernel, rfl, by decide +kernel, by decide +kernel⟩
abbrev s_legal_orders : Stmt := top 11
-- 0:program 1:many 2:begun 3:order 4:name
abbrev N_legal_orders : List Str := ["program", "many", "begun", "order", "name"]
abbrev s_first_order : Stmt := top 12
-- 0:program 1:order 2:_
abbrev N_first_order : List Str := ["program", "order", "_"]
theorem sc_first_order : FnScope N_first_order ["program"] (defScope s_first_order) := ⟨rfl, rfl, rfl, by decide +kernel, rfl, by decide +kernel, by decide +kernel⟩
abbrev s_is_legal : Stmt := top 13
-- 0:program 1:thing 2:names 3:one 4:other 5:name
abbrev N_is_legal : List Str := ["program", "thing", "names", "one", "other", "name"]
theorem sc_is_legal : FnScope N_is_legal ["program", "thing"] (defScope s_is_legal) := ⟨rfl, rfl, rfl, by decide +kernel, rfl, by decide +kernel, by decide +kernel⟩
abbrev s_prefixes_of : Stmt := top 14
-- 0:program
abbrev N_prefixes_of : List Str := ["program"]
theorem sc_prefixes_of : FnScope N_prefixes_of ["program"] (defScope s_prefixes_of) := ⟨rfl, rfl, rfl, by decide +kernel, rfl, by decide +kernel, by decide +kernel⟩
abbrev s_prefixes_by_length : Stmt := top 15
-- 0:program 1:found 2:level 3:prefix 4:name
abbrev N_prefixes_by_length : List Str := ["program", "found", "level", "prefix", "name"]
theorem sc_prefixes_by_length : FnScope N_prefixes_by_length ["program"] (defScope s_prefixes_by_length) := ⟨rfl, rfl, rfl, by decide +kernel, rfl, by decide +kernel, by decide +kernel⟩
abbrev s_with_rule : Stmt := top 16
-- 0:prefix 1:name
abbrev N_with_rule : List Str := ["prefix", "name"]
theorem sc_with_rule : FnScope N_with_rule ["prefix", "name"] (defScope s_with_rule) := ⟨rfl, rfl, rfl, by decide +kernel, rfl, by decide +kernel, by decide +kernel⟩
abbrev s_next_rules : Stmt := top 17
-- 0:program 1:prefix 2:barred 3:one 4:other 5:name
abbrev N_next_rules : List Str := ["program", "prefix", "barred", "one", "other", "name"]
theorem sc_next_rules : FnScope N_next_rules ["program", "prefix"] (defScope s_next_rules) := ⟨rfl, rfl, rfl, by decide +kernel, rfl, by decide +kernel, by decide +kernel⟩
abbrev s_exchanges_of : Stmt := top 18
-- 0:program 1:exchange
abbrev N_exchanges_of : List Str := ["program", "exchange"]
abbrev s_exchange_list : Stmt := top 19
-- 0:program 1:found 2:prefix 3:names 4:one 5:other
abbrev N_exchange_list : List Str := ["program", "found", "prefix", "names", "one", "other"]
theorem sc_exchange_list : FnScope N_exchange_list ["program"] (defScope s_exchange_list) := ⟨rfl, rfl, rfl, by decide +kernel, rfl, by decide +kernel, by decide +kernel⟩
abbrev s__law_feed : Stmt := top 21
-- 0:_law_script
abbrev N__law_feed : List Str := ["_law_script"]
theorem sc__law_feed : FnScope N__law_feed ["_law_script"] (defScope s__law_feed) := ⟨rfl, rfl, rfl, by decide +kernel, rfl, by decide +kernel, by decide +kernel⟩
abbrev s__law_draw : Stmt := top 22
-- 0:_law_feed_here 1:_law_many_here 2:_law_digit 3:_law_place 4:_law_cell 5:_law_mixed
abbrev N__law_draw : List Str := ["_law_feed_here", "_law_many_here", "_law_digit", "_law_place", "_law_cell", "_law_mixed"]
theorem sc__law_draw : FnScope N__law_draw ["_law_feed_here", "_law_many_here"] (defScope s__law_draw) := ⟨rfl, rfl, rfl, by decide +kernel, rfl, by decide +kernel, by decide +kernel⟩
abbrev s__law_many : Stmt := top 23
-- 0:_law_script 1:_law_count
abbrev N__law_many : List Str := ["_law_script", "_law_count"]
theorem sc__law_many : FnScope N__law_many ["_law_script", "_law_count"] (defScope s__law_many) := ⟨rfl, rfl, rfl, by decide +kernel, rfl, by decide +kernel, by decide +kernel⟩
abbrev s__law_some_pairs : Stmt := top 24
-- 0:_law_feed_here 1:_law_names 2:_law_order 3:_law_found 4:_law_name 5:_law_k 6:_law_one 7:_law_other
abbrev N__law_some_pairs : List Str := ["_law_feed_here", "_law_names", "_law_order", "_law_found", "_law_name", "_law_k", "_law_one", "_law_other"]
theorem sc__law_some_pairs : FnScope N__law_some_pairs ["_law_feed_here", "_law_names"] (defScope s__law_some_pairs) := ⟨rfl, rfl, rfl, by decide +kernel, rfl, by decide +kernel, by decide +kernel⟩
abbrev s__law_bare_program : Stmt := top 25
-- 0:_law_feed_here 1:_law_most 2:_law_names 3:_law_count 4:_law_rules 5:_law_k 6:_law_name
abbrev N__law_bare_program : List Str := ["_law_feed_here", "_law_most", "_law_names", "_law_count", "_law_rules", "_law_k", "_law_name"]
theorem sc__law_bare_program : FnScope N__law_bare_program ["_law_feed_here", "_law_most"] (defScope s__law_bare_program) := ⟨rfl, rfl, rfl, by decide +kernel, rfl, by decide +kernel, by decide +kernel⟩
abbrev s__law_ways : Stmt := top 26
-- 0:_law_place 1:_law_names 2:_law_found 3:_law_k 4:_law_longer 5:_law_some 6:_law_name
abbrev N__law_ways : List Str := ["_law_place", "_law_names", "_law_found", "_law_k", "_law_longer", "_law_some", "_law_name"]
theorem sc__law_ways : FnScope N__law_ways ["_law_place", "_law_names"] (defScope s__law_ways) := ⟨rfl, rfl, rfl, by decide +kernel, rfl, by decide +kernel, by decide +kernel⟩
abbrev s__law_prefixes_right : Stmt := top 27
-- 0:_law_place 1:_law_names 2:_law_orders 3:_law_beginnings 4:_law_found 5:_law_order 6:_law_k 7:_law_pairs 8:_law_some 9:_law_late 10:_law_one 11:_law_other
abbrev N__law_prefixes_right : List Str := ["_law_place", "_law_names", "_law_orders", "_law_beginnings", "_law_found", "_law_order", "_law_k", "_law_pairs", "_law_some", "_law_late", "_law_one", "_law_other"]
theorem sc__law_prefixes_right : FnScope N__law_prefixes_right ["_law_place", "_law_names", "_law_orders"] (defScope s__law_prefixes_right) := ⟨rfl, rfl, rfl, by decide +kernel, rfl, by decide +kernel, by decide +kernel⟩
abbrev s__law_keeps : Stmt := top 28
-- 0:_law_order 1:_law_pair
abbrev N__law_keeps : List Str := ["_law_order", "_law_pair"]
theorem sc__law_keeps : FnScope N__law_keeps ["_law_order", "_law_pair"] (defScope s__law_keeps) := ⟨rfl, rfl, rfl, by decide +kernel, rfl, by decide +kernel, by decide +kernel⟩
abbrev s__law_closure_right : Stmt := top 29
-- 0:_law_place 1:_law_names 2:_law_orders 3:_law_closed 4:_law_one 5:_law_other 6:_law_late 7:_law_pair 8:_law_order
abbrev N__law_closure_right : List Str := ["_law_place", "_law_names", "_law_orders", "_law_closed", "_law_one", "_law_other", "_law_late", "_law_pair", "_law_order"]
theorem sc__law_closure_right : FnScope N__law_closure_right ["_law_place", "_law_names", "_law_orders"] (defScope s__law_closure_right) := ⟨rfl, rfl, rfl, by decide +kernel, rfl, by decide +kernel, by decide +kernel⟩
abbrev s__law_connected : Stmt := top 30
-- 0:_law_place 1:_law_orders 2:_law_pairs 3:_law_found 4:_law_waiting 5:_law_order 6:_law_k 7:_law_late
abbrev N__law_connected : List Str := ["_law_place", "_law_orders", "_law_pairs", "_law_found", "_law_waiting", "_law_order", "_law_k", "_law_late"]
theorem sc__law_connected : FnScope N__law_connected ["_law_place", "_law_orders"] (defScope s__law_connected) := ⟨rfl, rfl, rfl, by decide +kernel, rfl, by decide +kernel, by decide +kernel⟩
abbrev s_law : Stmt := top 31
-- 0:_law_script 1:_law_feed_here 2:_law_turn 3:_law_place 4:_law_names 5:_law_orders 6:_law_total 7:_law_k 8:_law_rule
abbrev N_law : List Str := ["_law_script", "_law_feed_here", "_law_turn", "_law_place", "_law_names", "_law_orders", "_law_total", "_law_k", "_law_rule"]
theorem sc_law : FnScope N_law ["_law_script"] (defScope s_law) := ⟨rfl, rfl, rfl, by decide +kernel, rfl, by decide +kernel, by decide +kernel⟩
end K

namespace K
open PySem PySem.Spec PyProof.Rows L2
def fns : List He.DefD := [
  ⟨("rule_named", none), "rule_named", "rule_named", defArgs s_rule_named, defBody s_rule_named, defScope s_rule_named, [], []⟩,
  ⟨("rule_names", none), "rule_names", "rule_names", defArgs s_rule_names, defBody s_rule_names, defScope s_rule_names, [], []⟩,
  ⟨("pairs_closed", none), "pairs_closed", "pairs_closed", defArgs s_pairs_closed, defBody s_pairs_closed, defScope s_pairs_closed, [], []⟩,
  ⟨("is_before", none), "is_before", "is_before", defArgs s_is_before, defBody s_is_before, defScope s_is_before, [], []⟩,
  ⟨("unordered_pairs", none), "unordered_pairs", "unordered_pairs", defArgs s_unordered_pairs, defBody s_unordered_pairs, defScope s_unordered_pairs, [], []⟩,
  ⟨("legal_orders", none), "legal_orders", "legal_orders", defArgs s_legal_orders, defBody s_legal_orders, defScope s_legal_orders, [], []⟩,
  ⟨("first_order", none), "first_order", "first_order", defArgs s_first_order, defBody s_first_order, defScope s_first_order, [], []⟩,
  ⟨("is_legal", none), "is_legal", "is_legal", defArgs s_is_legal, defBody s_is_legal, defScope s_is_legal, [], []⟩,
  ⟨("prefixes_of", none), "prefixes_of", "prefixes_of", defArgs s_prefixes_of, defBody s_prefixes_of, defScope s_prefixes_of, [], []⟩,
  ⟨("prefixes_by_length", none), "prefixes_by_length", "prefixes_by_length", defArgs s_prefixes_by_length, defBody s_prefixes_by_length, defScope s_prefixes_by_length, [], []⟩,
  ⟨("with_rule", none), "with_rule", "with_rule", defArgs s_with_rule, defBody s_with_rule, defScope s_with_rule, [], []⟩,
  ⟨("next_rules", none), "next_rules", "next_rules", defArgs s_next_rules, defBody s_next_rules, defScope s_next_rules, [], []⟩,
  ⟨("exchanges_of", none), "exchanges_of", "exchanges_of", defArgs s_exchanges_of, defBody s_exchanges_of, defScope s_exchanges_of, [], []⟩,
  ⟨("exchange_list", none), "exchange_list", "exchange_list", defArgs s_exchange_list, defBody s_exchange_list, defScope s_exchange_list, [], []⟩,
  ⟨("_law_feed", none), "_law_feed", "_law_feed", defArgs s__law_feed, defBody s__law_feed, defScope s__law_feed, [], []⟩,
  ⟨("_law_draw", none), "_law_draw", "_law_draw", defArgs s__law_draw, defBody s__law_draw, defScope s__law_draw, [], []⟩,
  ⟨("_law_many", none), "_law_many", "_law_many", defArgs s__law_many, defBody s__law_many, defScope s__law_many, [], []⟩,
  ⟨("_law_some_pairs", none), "_law_some_pairs", "_law_some_pairs", defArgs s__law_some_pairs, defBody s__law_some_pairs, defScope s__law_some_pairs, [], []⟩,
  ⟨("_law_bare_program", none), "_law_bare_program", "_law_bare_program", defArgs s__law_bare_program, defBody s__law_bare_program, defScope s__law_bare_program, [], []⟩,
  ⟨("_law_ways", none), "_law_ways", "_law_ways", defArgs s__law_ways, defBody s__law_ways, defScope s__law_ways, [], []⟩,
  ⟨("_law_prefixes_right", none), "_law_prefixes_right", "_law_prefixes_right", defArgs s__law_prefixes_right, defBody s__law_prefixes_right, defScope s__law_prefixes_right, [], []⟩,
  ⟨("_law_keeps", none), "_law_keeps", "_law_keeps", defArgs s__law_keeps, defBody s__law_keeps, defScope s__law_keeps, [], []⟩,
  ⟨("_law_closure_right", none), "_law_closure_right", "_law_closure_right", defArgs s__law_closure_right, defBody s__law_closure_right, defScope s__law_closure_right, [], []⟩,
  ⟨("_law_connected", none), "_law_connected", "_law_connected", defArgs s__law_connected, defBody s__law_connected, defScope s__law_connected, [], []⟩,
  ⟨("law", none), "law", "law", defArgs s_law, defBody s_law, defScope s_law, [], []⟩]
def fas : List He.Fa := [.glo "rule_named", .glo "rule_names", .glo "pairs_closed", .glo "is_before", .glo "unordered_pairs", .glo "legal_orders", .glo "first_order", .glo "is_legal", .glo "prefixes_of", .glo "prefixes_by_length", .glo "with_rule", .glo "next_rules", .glo "exchanges_of", .glo "exchange_list", .glo "_law_feed", .glo "_law_draw", .glo "_law_many", .glo "_law_some_pairs", .glo "_law_bare_program", .glo "_law_ways", .glo "_law_prefixes_right", .glo "_law_keeps", .glo "_law_closure_right", .glo "_law_connected", .glo "law",
  .free "len", .free "int", .free "max", .free "min", .free "range", .free "tuple", .free "list", .free "isinstance", .free "str", .free "bool", .free "set", .free "dict", .free "sorted", .free "zip", .free "all", .free "enumerate"]
def loose0 : List PySem.Str := ["OrderError", "ProgramError", "UnknownRule", "rule_named", "rule_names", "pairs_closed", "is_before", "unordered_pairs", "legal_orders", "first_order", "is_legal", "prefixes_of", "prefixes_by_length", "with_rule", "next_rules", "exchanges_of", "exchange_list", "_law_feed", "_law_draw", "_law_many", "_law_some_pairs", "_law_bare_program", "_law_ways", "_law_prefixes_right", "_law_keeps", "_law_closure_right", "_law_connected"]
def loose : List PySem.Str := loose0
abbrev lawAt : Nat := 31
abbrev Rw : PySem.W.OpenRow := PySem.W.OpenLaw.row PySem.Challenge.rw_orderless_k28_whole_prefixes_and_orders
-- INDEX 0:rule_named 1:rule_names 2:pairs_closed 3:is_before 4:unordered_pairs 5:legal_orders 6:first_order 7:is_legal 8:prefixes_of 9:prefixes_by_length 10:with_rule 11:next_rules 12:exchanges_of 13:exchange_list 14:_law_feed 15:_law_draw 16:_law_many 17:_law_some_pairs 18:_law_bare_program 19:_law_ways 20:_law_prefixes_right 21:_law_keeps 22:_law_closure_right 23:_law_connected 24:law
def ruleB (_ : PySem.W.Frag) : Bool := true
abbrev ownHook : PySem.W.Hook := He.hookX 4 fas fns [] [] ruleB
abbrev ObT : Type := He.AlX
def obT (s : PySem.W.SharedT) : ObT := He.obsX 4 fas fns [] [] ruleB (HandSHeadRun.getT s)
theorem obT_eq (s : PySem.W.SharedT) : obT s = ownHook.obs s.abs := He.obsX_eq (HandSHeadRun.getT_eq s)
set_option maxHeartbeats 0 in
theorem topRun (w : World) : HandSHeadRun.RunEq Rw (PySem.W.view Rw.prog [lawAt]) ownHook obT 9000 loose w := by
  intro os
  kernel_rfl
end K

namespace G
open PySem PySem.Spec PyProof.Rows L2

/-! ### contexts by what is asked of them; the weakest reading of a piece of syntax -/
structure Md where
  prog : Program
  w : World
  K : PySem.W.Frag
  mg : Str → Option Value
  base : Heap
structure Cd extends Md where
  N : List Str
  sc : Scope
  k : Nat
  top : Bool
  g : Bool
  ev : Option (Str × Addr)
structure Is (c : Cd) (X : Cx) : Prop where
  prog : X.prog = c.prog
  w : X.w = c.w
  K : X.K = c.K
  mg : X.mg = c.mg
  base : X.base = c.base
  N : X.N = c.N
  sc : X.env.scope = c.sc
  calm : X.calm = true
  room : Room c.k X.A
  top : c.top = true → ∀ x, X.fn x = true
  own : PassesOwn (model X.prog X.w) X.A X.env X.xe
  nd : c.N.Nodup
  gd : c.g = true → X.A.guards = some []
  evh : ∀ q a, c.ev = some (q, a) → X.env.qual = q ∧ X.env.code = .ref a

structure DLe (D D' : Ends) : Prop where
  nx : ∀ σ H, D.nx σ H → D'.nx σ H
  rt : ∀ v H, D.rt v H → D'.rt v H
  bk : ∀ σ H, D.bk σ H → D'.bk σ H
  ct : ∀ σ H, D.ct σ H → D'.ct σ H
theorem DLe.refl (D : Ends) : DLe D D := ⟨fun _ _ h => h, fun _ _ h => h, fun _ _ h => h, fun _ _ h => h⟩
theorem DLe.trans {D D1 D2 : Ends} (a : DLe D D1) (b : DLe D1 D2) : DLe D D2 := ⟨fun _ _ h => b.nx _ _ (a.nx _ _ h), fun _ _ h => b.rt _ _ (a.rt _ _ h), fun _ _ h => b.bk _ _ (a.bk _ _ h), fun _ _ h => b.ct _ _ (a.ct _ _ h)⟩

structure RE (c : Cd) (e : Expr) (σ : L2.St) (H : Hp) (Q : VK) : Prop where
  ex : ∃ t Q', (∀ X, Is c X → PE X e t) ∧ t σ H Q' ∧ ∀ v H', Q' v H' → Q v H'
structure RT (c : Cd) (e : Expr) (σ : L2.St) (H : Hp) (Q : Bool → Hp → Prop) : Prop where
  ex : ∃ t Q', (∀ X, Is c X → PT X e t) ∧ t σ H Q' ∧ ∀ v H', Q' v H' → Q v H'
structure RW (c : Cd) (e : Expr) (σ : L2.St) (H : Hp) (Q : Bool → Hp → Prop) : Prop where
  ex : ∃ t Q', (∀ X, Is c X → PW X e t) ∧ t σ H Q' ∧ ∀ v H', Q' v H' → Q v H'
structure RTs (c : Cd) (es : List Expr) (σ : L2.St) (H : Hp) (Q : Bool → Hp → Prop) : Prop where
  ex : ∃ t Q', (∀ X, Is c X → PTs X es t) ∧ t σ H Q' ∧ ∀ v H', Q' v H' → Q v H'
structure RA (c : Cd) (es : List Expr) (σ : L2.St) (H : Hp) (Q : List V → Hp → Prop) : Prop where
  ex : ∃ t Q', (∀ X, Is c X → PA X es t) ∧ t σ H Q' ∧ ∀ v H', Q' v H' → Q v H'
structure RPK (c : Cd) (es : List Keyword) (σ : L2.St) (H : Hp) (Q : List V → Hp → Prop) : Prop where
  ex : ∃ t Q', (∀ X, Is c X → PK X es t) ∧ t σ H Q' ∧ ∀ v H', Q' v H' → Q v H'
structure RS (c : Cd) (st : Stmt) (D : Ends) (σ : L2.St) (H : Hp) : Prop where
  ex : ∃ t D', (∀ X, Is c X → PS X st t) ∧ t D' σ H ∧ DLe D' D
structure RB (c : Cd) (sts : List Stmt) (D : Ends) (σ : L2.St) (H : Hp) : Prop where
  ex : ∃ t D', (∀ X, Is c X → PSs X sts t) ∧ t D' σ H ∧ DLe D' D
structure RG (c : Cd) (tg : Expr) (v : V) (σ : L2.St) (H : Hp) (Q : L2.St → Hp → Prop) : Prop where
  ex : ∃ t Q', (∀ X, Is c X → PG X tg t) ∧ t v σ H Q' ∧ ∀ v H', Q' v H' → Q v H'
structure RGs (c : Cd) (ts : List Expr) (vs : List V) (σ : L2.St) (H : Hp) (Q : L2.St → Hp → Prop) : Prop where
  ex : ∃ t Q', (∀ X, Is c X → PGs X ts t) ∧ t vs σ H Q' ∧ ∀ v H', Q' v H' → Q v H'
structure RI (c : Cd) (tg it : Expr) (σ : L2.St) (H : Hp) (R : It → Hp → Prop) : Prop where
  ex : ∃ t R', (∀ X, Is c X → PI X tg it t) ∧ t σ H R' ∧ ∀ J H', R' J H' → R J H'
structure RO (c : Cd) (op : Operator) (x y : V) (H : Hp) (Q : VK) : Prop where
  ex : ∃ r Q', (∀ X, Is c X → OpR X (binaryOp op) r) ∧ r x y H Q' ∧ ∀ v H', Q' v H' → Q v H'
structure RQ (c : Cd) (op : CmpOp) (x y : V) (H : Hp) (Q : VK) : Prop where
  ex : ∃ r Q', (∀ X, Is c X → OpR X (compareOp op) r) ∧ r x y H Q' ∧ ∀ v H', Q' v H' → Q v H'
structure RU (c : Cd) (f : UnaryOp) (x : V) (H : Hp) (Q : VK) : Prop where
  ex : ∃ r Q', (∀ X, Is c X → UnR X (unaryOp f) r) ∧ r x H Q' ∧ ∀ v H', Q' v H' → Q v H'
structure RC (c : Cd) (f : Value) (xs : List V) (H : Hp) (Q : VK) : Prop where
  ex : ∃ r Q', (∀ X, Is c X → CallR X f r) ∧ r xs H Q' ∧ ∀ v H', Q' v H' → Q v H'
structure RX (c : Cd) (x y : V) (H : Hp) (Q : VK) : Prop where
  ex : ∃ r Q', (∀ X, Is c X → IxR X r) ∧ r x y H Q' ∧ ∀ v H', Q' v H' → Q v H'
structure RSl (c : Cd) (x : V) (l u : Option Int) (H : Hp) (Q : VK) : Prop where
  ex : ∃ r Q', (∀ X, Is c X → SlR X r) ∧ r x l u H Q' ∧ ∀ v H', Q' v H' → Q v H'
structure RM (c : Cd) (id : String) (x : V) (xs : List V) (H : Hp) (Q : VK) : Prop where
  ex : ∃ r Q', (∀ X, Is c X → MtR X id r) ∧ r x xs H Q' ∧ ∀ v H', Q' v H' → Q v H'
structure RP (c : Cd) (o i v : V) (H : Hp) (Q : Hp → Prop) : Prop where
  ex : ∃ r Q', (∀ X, Is c X → PSet X r) ∧ r o i v H Q' ∧ ∀ H', Q' H' → Q H'
structure RPo (c : Cd) (e : Option Expr) (σ : L2.St) (H : Hp) (Q : Option Int → Hp → Prop) : Prop where
  ex : ∃ t Q', (∀ X, Is c X → PO X e t) ∧ t σ H Q' ∧ ∀ v H', Q' v H' → Q v H'

section
variable {c : Cd} {X : Cx} (h : Is c X)
include h
theorem pe_re {e : Expr} : PE X e (RE c e) := ⟨fun pins s σ H Q I ⟨⟨_, _, a, q, w⟩⟩ => thn ((a X h).run pins s σ H _ I q) fun _ _ ⟨v, H', I', r, q'⟩ => ⟨v, H', I', r, w _ _ q'⟩⟩
theorem pt_rt {e : Expr} : PT X e (RT c e) := ⟨fun pins s σ H Q I ⟨⟨_, _, a, q, w⟩⟩ => thn ((a X h).run pins s σ H _ I q) fun _ _ ⟨H', I', q'⟩ => ⟨H', I', w _ _ q'⟩⟩
theorem pw_rw {e : Expr} : PW X e (RW c e) := ⟨fun wh pins s σ H Q I ⟨⟨_, _, a, q, w⟩⟩ => thn ((a X h).run wh pins s σ H _ I q) fun _ _ ⟨H', I', q'⟩ => ⟨H', I', w _ _ q'⟩⟩
theorem pts_rts {es : List Expr} : PTs X es (RTs c es) := ⟨fun pins s σ H Q I ⟨⟨_, _, a, q, w⟩⟩ => thn ((a X h).run pins s σ H _ I q) fun _ _ ⟨H', I', q'⟩ => ⟨H', I', w _ _ q'⟩⟩
theorem pa_ra {es : List Expr} : PA X es (RA c es) := ⟨fun pos pins s σ H Q I ⟨⟨_, _, a, q, w⟩⟩ => thn ((a X h).run pos pins s σ H _ I q) fun _ _ ⟨v, H', I', r, q'⟩ => ⟨v, H', I', r, w _ _ q'⟩⟩
theorem pk_rk {es : List Keyword} : PK X es (RPK c es) := ⟨fun pos pins s σ H Q I ⟨⟨_, _, a, q, w⟩⟩ => thn ((a X h).run pos pins s σ H _ I q) fun _ _ ⟨v, H', I', r, q'⟩ => ⟨v, H', I', r, w _ _ q'⟩⟩
theorem SP.le {pins : List (Addr × Obj)} {D' D : Ends} (w : DLe D' D) : ∀ {f : Flow} {s' : Shared}, SP X pins D' f s' → SP X pins D f s'
  | .next, _, ⟨σ', H', I, q⟩ => ⟨σ', H', I, w.nx _ _ q⟩
  | .brk, _, ⟨σ', H', I, q⟩ => ⟨σ', H', I, w.bk _ _ q⟩
  | .cont, _, ⟨σ', H', I, q⟩ => ⟨σ', H', I, w.ct _ _ q⟩
  | .ret _, _, ⟨v, σ', H', I, r, q⟩ => ⟨v, σ', H', I, r, w.rt _ _ q⟩
theorem ps_rs {st : Stmt} : PS X st (RS c st) := ⟨fun pins s σ H D I ⟨⟨_, _, a, q, w⟩⟩ => thn ((a X h).run pins s σ H _ I q) fun _ _ q' => SP.le h w q'⟩
theorem ps_rb {sts : List Stmt} : PSs X sts (RB c sts) := ⟨fun pins s σ H D I ⟨⟨_, _, a, q, w⟩⟩ => thn ((a X h).run pins s σ H _ I q) fun _ _ q' => SP.le h w q'⟩
theorem pg_rg {tg : Expr} : PG X tg (RG c tg) := ⟨fun pins s σ H v u Q I r ⟨⟨_, _, a, q, w⟩⟩ => thn ((a X h).run pins s σ H v u _ I r q) fun _ _ ⟨σ', H', I', q'⟩ => ⟨σ', H', I', w _ _ q'⟩⟩
theorem pg_rgs {ts : List Expr} : PGs X ts (RGs c ts) := ⟨fun pins s σ H vs us Q I r ⟨⟨_, _, a, q, w⟩⟩ => thn ((a X h).run pins s σ H vs us _ I r q) fun _ _ ⟨σ', H', I', q'⟩ => ⟨σ', H', I', w _ _ q'⟩⟩
theorem pi_ri {tg it : Expr} : PI X tg it (RI c tg it) := ⟨fun pins s σ H R I ⟨⟨_, _, a, q, w⟩⟩ => thn ((a X h).run pins s σ H _ I q) fun _ _ z => thn z fun _ _ ⟨it, fp, tn, J, H', e, I', T, t0, f, q'⟩ => ⟨it, fp, tn, J, H', e, I', T, t0, f, w _ _ q'⟩⟩
theorem EP.le {pins : List (Addr × Obj)} {σ : L2.St} {Q' Q : VK} {u : Value} {s' : Shared} (w : ∀ v H', Q' v H' → Q v H') : EP X pins σ Q' u s' → EP X pins σ Q u s' := fun ⟨v, H', I', r, q'⟩ => ⟨v, H', I', r, w _ _ q'⟩
theorem op_ro {op : Operator} : OpR X (binaryOp op) (RO c op) := fun pins s σ H x y v u Q I r1 r2 ⟨⟨_, _, a, q, w⟩⟩ => thn (a X h pins s σ H x y v u _ I r1 r2 q) fun _ _ z => EP.le h w z
theorem op_rq {op : CmpOp} : OpR X (compareOp op) (RQ c op) := fun pins s σ H x y v u Q I r1 r2 ⟨⟨_, _, a, q, w⟩⟩ => thn (a X h pins s σ H x y v u _ I r1 r2 q) fun _ _ z => EP.le h w z
theorem un_ru {f : UnaryOp} : UnR X (unaryOp f) (RU c f) := fun pins s σ H x v Q I r ⟨⟨_, _, a, q, w⟩⟩ => thn (a X h pins s σ H x v _ I r q) fun _ _ z => EP.le h w z
theorem call_rc {f : Value} : CallR X f (RC c f) := fun pins s σ H xs us Q I r ⟨⟨_, _, a, q, w⟩⟩ => thn (a X h pins s σ H xs us _ I r q) fun _ _ z => EP.le h w z
theorem ix_rx : IxR X (RX c) := by
  intro value slice pins s σ H x y v u Q I r1 r2 q0 hs
  obtain ⟨⟨_, _, a, q, w⟩⟩ := q0
  exact thn (a X h value slice pins s σ H x y v u _ I r1 r2 q hs) fun _ _ z => EP.le h w z
theorem sl_rs : SlR X (RSl c) := by
  intro pins s σ H x v vl vu lo hi sl Q I rx hs pl pu ⟨⟨_, _, a, q, w⟩⟩
  obtain ⟨T, id, h1, h2, h3⟩ := a X h pins s σ H x v vl vu lo hi sl _ I rx hs pl pu q
  exact ⟨T, id, h1, h2, thn h3 fun _ _ z => EP.le h w z⟩
theorem mt_rm {id : String} : MtR X id (RM c id) := by
  intro pins s σ H x xs v us Q I r1 r2 ⟨⟨_, _, a, q, w⟩⟩
  exact thn (a X h pins s σ H x xs v us _ I r1 r2 q) fun _ _ z => EP.le h w z
theorem set_rp : PSet X (RP c) := by
  intro pins s σ H o i v ov iv u Q I r1 r2 r3 ⟨⟨_, _, a, q, w⟩⟩
  exact thn (a X h pins s σ H o i v ov iv u _ I r1 r2 r3 q) fun _ _ ⟨H', I', q'⟩ => ⟨H', I', w _ q'⟩
theorem po_rp {e : Option Expr} : PO X e (RPo c e) := ⟨fun pins s σ H Q I ⟨⟨_, _, a, q, w⟩⟩ => thn ((a X h).run pins s σ H _ I q) fun _ _ ⟨o, H', I', p, q'⟩ => ⟨o, H', I', p, w _ _ q'⟩⟩
end
section
variable {c : Cd} {σ : L2.St} {H : Hp} {Q Q' : VK} {B B' : Bool → Hp → Prop} {D D' : Ends}
theorem re_of {e : Expr} {t : TE} (h : ∀ X, Is c X → PE X e t) (q : t σ H Q) : RE c e σ H Q := ⟨⟨t, Q, h, q, fun _ _ z => z⟩⟩
theorem rt_of {e : Expr} {t : TT} (h : ∀ X, Is c X → PT X e t) (q : t σ H B) : RT c e σ H B := ⟨⟨t, B, h, q, fun _ _ z => z⟩⟩
theorem rw_of {e : Expr} {t : TT} (h : ∀ X, Is c X → PW X e t) (q : t σ H B) : RW c e σ H B := ⟨⟨t, B, h, q, fun _ _ z => z⟩⟩
theorem rts_of {es : List Expr} {t : TT} (h : ∀ X, Is c X → PTs X es t) (q : t σ H B) : RTs c es σ H B := ⟨⟨t, B, h, q, fun _ _ z => z⟩⟩
theorem ra_of {es : List Expr} {t : TA} {Q : List V → Hp → Prop} (h : ∀ X, Is c X → PA X es t) (q : t σ H Q) : RA c es σ H Q := ⟨⟨t, Q, h, q, fun _ _ z => z⟩⟩
theorem rk_of {es : List Keyword} {t : TA} {Q : List V → Hp → Prop} (h : ∀ X, Is c X → PK X es t) (q : t σ H Q) : RPK c es σ H Q := ⟨⟨t, Q, h, q, fun _ _ z => z⟩⟩
theorem rs_of {st : Stmt} {t : TS} (h : ∀ X, Is c X → PS X st t) (q : t D σ H) : RS c st D σ H := ⟨⟨t, D, h, q, DLe.refl D⟩⟩
theorem rb_of {st : List Stmt} {t : TS} (h : ∀ X, Is c X → PSs X st t) (q : t D σ H) : RB c st D σ H := ⟨⟨t, D, h, q, DLe.refl D⟩⟩
theorem rg_of {tg : Expr} {t : TG} {v : V} {Q : L2.St → Hp → Prop} (h : ∀ X, Is c X → PG X tg t) (q : t v σ H Q) : RG c tg v σ H Q := ⟨⟨t, Q, h, q, fun _ _ z => z⟩⟩
theorem rgs_of {tg : List Expr} {t : TGs} {v : List V} {Q : L2.St → Hp → Prop} (h : ∀ X, Is c X → PGs X tg t) (q : t v σ H Q) : RGs c tg v σ H Q := ⟨⟨t, Q, h, q, fun _ _ z => z⟩⟩
theorem ri_of {tg it : Expr} {t : TI} {R : It → Hp → Prop} (h : ∀ X, Is c X → PI X tg it t) (q : t σ H R) : RI c tg it σ H R := ⟨⟨t, R, h, q, fun _ _ z => z⟩⟩
theorem ro_of {op : Operator} {r : R2} {x y : V} (h : ∀ X, Is c X → OpR X (binaryOp op) r) (q : r x y H Q) : RO c op x y H Q := ⟨⟨r, Q, h, q, fun _ _ z => z⟩⟩
theorem rq_of {op : CmpOp} {r : R2} {x y : V} (h : ∀ X, Is c X → OpR X (compareOp op) r) (q : r x y H Q) : RQ c op x y H Q := ⟨⟨r, Q, h, q, fun _ _ z => z⟩⟩
theorem ru_of {f : UnaryOp} {r : V → Hp → VK → Prop} {x : V} (h : ∀ X, Is c X → UnR X (unaryOp f) r) (q : r x H Q) : RU c f x H Q := ⟨⟨r, Q, h, q, fun _ _ z => z⟩⟩
theorem rc_of {f : Value} {r : List V → Hp → VK → Prop} {xs : List V} (h : ∀ X, Is c X → CallR X f r) (q : r xs H Q) : RC c f xs H Q := ⟨⟨r, Q, h, q, fun _ _ z => z⟩⟩
theorem rx_of {r : R2} {x y : V} (h : ∀ X, Is c X → IxR X r) (q : r x y H Q) : RX c x y H Q := ⟨⟨r, Q, h, q, fun _ _ z => z⟩⟩
theorem rsl_of {r : V → Option Int → Option Int → Hp → VK → Prop} {x : V} {l u : Option Int} (h : ∀ X, Is c X → SlR X r) (q : r x l u H Q) : RSl c x l u H Q := ⟨⟨r, Q, h, q, fun _ _ z => z⟩⟩
theorem rm_of {id : String} {r : V → List V → Hp → VK → Prop} {x : V} {xs : List V} (h : ∀ X, Is c X → MtR X id r) (q : r x xs H Q) : RM c id x xs H Q := ⟨⟨r, Q, h, q, fun _ _ z => z⟩⟩
theorem rp_of {r : TSet} {o i v : V} {Q : Hp → Prop} (h : ∀ X, Is c X → PSet X r) (q : r o i v H Q) : RP c o i v H Q := ⟨⟨r, Q, h, q, fun _ z => z⟩⟩
theorem rpo_of {e : Option Expr} {t : TO} {Q : Option Int → Hp → Prop} (h : ∀ X, Is c X → PO X e t) (q : t σ H Q) : RPo c e σ H Q := ⟨⟨t, Q, h, q, fun _ _ z => z⟩⟩
theorem RE.mono {e : Expr} (w : ∀ v H', Q v H' → Q' v H') : RE c e σ H Q → RE c e σ H Q' := fun ⟨⟨t, Q1, h, q, z⟩⟩ => ⟨⟨t, Q1, h, q, fun _ _ y => w _ _ (z _ _ y)⟩⟩
theorem RT.mono {e : Expr} (w : ∀ v H', B v H' → B' v H') : RT c e σ H B → RT c e σ H B' := fun ⟨⟨t, Q1, h, q, z⟩⟩ => ⟨⟨t, Q1, h, q, fun _ _ y => w _ _ (z _ _ y)⟩⟩
theorem RTs.mono {e : List Expr} (w : ∀ v H', B v H' → B' v H') : RTs c e σ H B → RTs c e σ H B' := fun ⟨⟨t, Q1, h, q, z⟩⟩ => ⟨⟨t, Q1, h, q, fun _ _ y => w _ _ (z _ _ y)⟩⟩
theorem RA.mono {e : List Expr} {Q Q' : List V → Hp → Prop} (w : ∀ v H', Q v H' → Q' v H') : RA c e σ H Q → RA c e σ H Q' := fun ⟨⟨t, Q1, h, q, z⟩⟩ => ⟨⟨t, Q1, h, q, fun _ _ y => w _ _ (z _ _ y)⟩⟩
theorem RG.mono {e : Expr} {v : V} {Q Q' : L2.St → Hp → Prop} (w : ∀ v H', Q v H' → Q' v H') : RG c e v σ H Q → RG c e v σ H Q' := fun ⟨⟨t, Q1, h, q, z⟩⟩ => ⟨⟨t, Q1, h, q, fun _ _ y => w _ _ (z _ _ y)⟩⟩
theorem RI.mono {tg it : Expr} {R R' : It → Hp → Prop} (w : ∀ v H', R v H' → R' v H') : RI c tg it σ H R → RI c tg it σ H R' := fun ⟨⟨t, Q1, h, q, z⟩⟩ => ⟨⟨t, Q1, h, q, fun _ _ y => w _ _ (z _ _ y)⟩⟩
theorem RO.mono {f : Operator} {x y : V} (w : ∀ v H', Q v H' → Q' v H') : RO c f x y H Q → RO c f x y H Q' := fun ⟨⟨t, Q1, h, q, z⟩⟩ => ⟨⟨t, Q1, h, q, fun _ _ y => w _ _ (z _ _ y)⟩⟩
theorem RS.mono {st : Stmt} (w : DLe D D') : RS c st D σ H → RS c st D' σ H := fun ⟨⟨t, Q1, h, q, z⟩⟩ => ⟨⟨t, Q1, h, q, z.trans w⟩⟩
theorem RB.mono {st : List Stmt} (w : DLe D D') : RB c st D σ H → RB c st D' σ H := fun ⟨⟨t, Q1, h, q, z⟩⟩ => ⟨⟨t, Q1, h, q, z.trans w⟩⟩
end
theorem kEq {c : Cd} {X : Cx} (h : Is c X) {p : PySem.W.Frag → Prop} (a : p X.K) : p c.K := h.K ▸ a

/-- the place of a name -/
inductive At : List Str → Nat → Str → Prop
  | z {x : Str} {l : List Str} : At (x :: l) 0 x
  | s {x y : Str} {l : List Str} {i : Nat} (h : At l i x) : At (y :: l) (i + 1) x
theorem At.get {x : Str} : ∀ {l : List Str} {i : Nat}, At l i x → l[i]? = some x
  | _, _, .z => rfl
  | _, _, .s h => by simpa using At.get h
/-! ### expressions -/
section
variable {c : Cd} {σ : L2.St} {H : Hp} {Q : VK} {pos : Pos}
theorem e_int {i : Int} {j} (q : Q (.int i) H) : RE c (.Constant (.int i) j pos) σ H Q := re_of (fun _ _ => pe_int) q
theorem e_bl {b : Bool} {j} (q : Q (.bl b) H) : RE c (.Constant (.bool b) j pos) σ H Q := re_of (fun _ _ => pe_bl) q
theorem e_non {j} (q : Q .non H) : RE c (.Constant .none j pos) σ H Q := re_of (fun _ _ => pe_non) q
theorem e_str {x : Str} {j} (q : Q (.str x) H) : RE c (.Constant (.str x) j pos) σ H Q := re_of (fun _ _ => pe_str) q
theorem e_var {i : Nat} {x : Str} {v : V} (hA : At c.N i x) (q : Q v H) (hσ : σ[i]? = some (some v) := by rfl)
    (hv : Vis c.sc x := by first | exact Or.inl rfl | exact Or.inr (Or.inl rfl) | exact Or.inr (Or.inr rfl)) (hd : (x == ("__debug__" : Str)) = false := by decide) (hcd : (x == ("__classdict__" : Str)) = false := by decide) :
    RE c (.Name x pos) σ H Q := re_of (fun X h => pe_var (i := i) (by rw [h.N]; exact hA.get) (by rw [h.sc]; exact hv) hd hcd) ⟨v, hσ, q⟩
theorem gl_of {X : Cx} (h : Is c X) {x : Str} (hg : c.sc.names.lookup x = some .globalImplicit) : Gl X x := by
  show X.env.scope.names.lookup x = _
  rw [h.sc]; exact hg
/-- a module's constant -/
theorem e_glob {x : Str} {v : V} {u : Value} (hm : c.mg x = some u) (r : RelV v u) (q : Q v H) (hg : c.sc.names.lookup x = some .globalImplicit := by rfl) (hd : (x == ("__debug__" : Str)) = false := by decide) : RE c (.Name x pos) σ H Q :=
  re_of (fun X h => pe_glob (gl_of h hg) (by rw [h.mg]; exact hm) r hd) q
theorem e_bltn {x : Str} {v : V} {u : Value} (hm : c.mg x = none) (hv : bootBuiltins x = some u) (r : RelV v u) (q : Q v H) (hg : c.sc.names.lookup x = some .globalImplicit := by rfl) (hn : x ≠ "__name__" := by decide) (hd : (x == ("__debug__" : Str)) = false := by decide) :
    RE c (.Name x pos) σ H Q := re_of (fun X h => pe_bltn (gl_of h hg) (by rw [h.mg]; exact hm) hv r hn hd) q
theorem e_bin {a b : Expr} {op : Operator} (q : RE c a σ H fun x H1 => RE c b σ H1 fun y H2 => RO c op x y H2 Q) : RE c (.BinOp a op b pos) σ H Q :=
  re_of (fun X h => pe_op (op_ro h) (pe_re h) (pe_re h)) q
theorem e_un {a : Expr} {op : UnaryOp} (q : RE c a σ H fun x H1 => RU c op x H1 Q) : RE c (.UnaryOp op a pos) σ H Q :=
  re_of (fun X h => pe_un (un_ru h) (pe_re h)) q
theorem e_cmp {a b : Expr} {op : CmpOp} (q : RE c a σ H fun x H1 => RE c b σ H1 fun y H2 => RQ c op x y H2 Q) (hm : behindInMarks op b = false := by first | rfl | exact nomark _) : RE c (.Compare a [op] [b] pos) σ H Q :=
  re_of (fun X h => pe_cmpR (op_rq h) (pe_re h) (pe_re h) hm) q
theorem e_chain {a b d : Expr} {op op' : CmpOp} (q : RE c a σ H fun x H1 => RE c b σ H1 fun y H2 => RQ c op x y H2 fun z H3 => ∃ k, z = .bl k ∧ (if k = true then RE c d σ H3 fun w' H4 => RQ c op' y w' H4 Q else Q (.bl false) H3))
    (hm : lastMarks [op, op'] [b, d] = false := by with_unfolding_all rfl) : RE c (.Compare a [op, op'] [b, d] pos) σ H Q :=
  re_of (t := tChain (RQ c op) (RQ c op') (RE c a) (RE c b) (RE c d)) (fun X h => pe_chain (op_rq h) (op_rq h) (pe_re h) (pe_re h) (pe_re h) hm) q
theorem e_one {a : Expr} {op} (q : RE c a σ H Q) : RE c (.BoolOp op [a] pos) σ H Q := re_of (fun X h => pe_one (pe_re h)) q
theorem e_and {a b : Expr} {rest : List Expr} (q : RE c a σ H fun x H1 => ∃ k, x = .bl k ∧ if k = true then RE c (.BoolOp .And (b :: rest) pos) σ H1 Q else Q (.bl false) H1) : RE c (.BoolOp .And (a :: b :: rest) pos) σ H Q :=
  re_of (fun X h => pe_and (pe_re h) (pe_re h)) q
theorem e_or {a b : Expr} {rest : List Expr} (q : RE c a σ H fun x H1 => ∃ k, x = .bl k ∧ if k = true then Q (.bl true) H1 else RE c (.BoolOp .Or (b :: rest) pos) σ H1 Q) : RE c (.BoolOp .Or (a :: b :: rest) pos) σ H Q :=
  re_of (fun X h => pe_or (pe_re h) (pe_re h)) q
theorem e_not {a : Expr} (q : RE c a σ H fun x H1 => ∃ k, x = .bl k ∧ Q (.bl (!k)) H1) : RE c (.UnaryOp .Not a pos) σ H Q :=
  re_of (fun X h => pe_not (pe_re h)) q
theorem e_if {a b d : Expr} (q : RT c d σ H fun k H1 => if k = true then RE c a σ H1 Q else RE c b σ H1 Q) : RE c (.IfExp d a b pos) σ H Q :=
  re_of (fun X h => pe_ifExp (pt_rt h) (pe_re h) (pe_re h)) q
theorem a_nil {Q : List V → Hp → Prop} (q : Q [] H) : RA c [] σ H Q := ra_of (fun _ _ => pa_nil) q
theorem a_cons {Q : List V → Hp → Prop} {e : Expr} {es : List Expr} (q : RE c e σ H fun x H1 => RA c es σ H1 fun xs H2 => Q (x :: xs) H2) (hs : ∀ env, starEach (e :: es) env = (false, eval e env) :: starEach es env := by intro _; rfl) : RA c (e :: es) σ H Q :=
  ra_of (fun X h => pa_cons (pe_re h) (pa_ra h) (hs _)) q
theorem e_tup {es : List Expr} {x1} (q : RA c es σ H fun xs H1 => xs.length ≤ sizeLine ∧ ∀ p, H1 p = none → Q (.ref p) (upd H1 p (.tup xs))) : RE c (.Tuple es x1 pos) σ H Q :=
  re_of (fun X h => pe_tup (pa_ra h)) q
theorem e_lst {es : List Expr} (q : RA c es σ H fun xs H1 => xs.length ≤ sizeLine ∧ ∀ p, H1 p = none → Q (.ref p) (upd H1 p (.lst xs))) : RE c (.List es pos) σ H Q :=
  re_of (fun X h => pe_lst (pa_ra h)) q
theorem e_ix {a b : Expr} (q : RE c a σ H fun x H1 => RE c b σ H1 fun y H2 => RX c x y H2 Q) (hs : PlainIx b := by intro _ _; rfl) : RE c (.Subscript a b pos) σ H Q :=
  re_of (fun X h => pe_ix (ix_rx h) (pe_re h) (pe_re h) hs) q
theorem e_dget {a b : Expr} (q : RE c a σ H fun x H1 => RE c b σ H1 fun y H2 => ∃ a v, x = .ref a ∧ DGet H2 a y (some v) ∧ Q v H2) (hs : NoSl b := by intro _ _; rfl) : RE c (.Subscript a b pos) σ H Q :=
  re_of (fun X h => pe_dget (by have := h.room.units; omega) (pe_re h) (pe_re h) hs) q
theorem p_none {Q : Option Int → Hp → Prop} (q : Q none H) : RPo c none σ H Q := rpo_of (fun _ _ => po_none) q
theorem p_some {e : Expr} {Q : Option Int → Hp → Prop} (q : RE c e σ H fun x H1 => ∃ i, x = .int i ∧ Q (some i) H1) : RPo c (some e) σ H Q := rpo_of (fun _ h => po_some (pe_re h)) q
theorem e_slice {e : Expr} {lo hi : Option Expr} {p2 : Pos} (q : RE c e σ H fun x H1 => RPo c lo σ H1 fun l H2 => RPo c hi σ H2 fun u H3 => RSl c x l u H3 Q) : RE c (.Subscript e (.Slice lo hi none p2) pos) σ H Q :=
  re_of (fun _ h => pe_slice (sl_rs h) (pe_re h) (po_rp h) (po_rp h)) q
/-! ### defs, where no text of an object is being written (what repr asks for) -/
structure FnQ (P : Program) (w : World) (K : PySem.W.Frag) (mg : Str → Option Value) (base : Heap) (CX : CXT) (k : Nat) (f : Addr) (fd : FuncData) (ps : List Str) (sp : Sp) : Prop where
  len : ∀ vs H Q E, sp vs H Q E → vs.length = ps.length
  run : ∀ (A : Around) (up : List Env) (st : Shared) (H : Hp) (ag : Args) (us : List Value) (vs : List V) (Q : VK) (E : XK), A.guards = some [] → Room k A → Env0 P w K mg base A up st H → BindsTo st fd ag (ps.zip us) → Vals vs us → sp vs H Q E →
    codeAny (model P w) A (.call (.ref f) ag) (CR CX up P w H st Q E) st
theorem fnQ_of {CX : CXT} {P : Program} {w : World} {K : PySem.W.Frag} {mg : Str → Option Value} {base : Heap} {k : Nat} {f : Addr} {x qual : Str} {pas : Arguments} {bd : List Stmt} {sco : Scope} {dV kV doc pm cdv ct oc : Value} {an od : Option Addr} {osl : Array (Option Value)} {N ps : List Str} {sp : Sp}
    (at_ : K.lookup f = some ⟨oc, od, .func (PySem.W.fnOf x qual pas bd sco dV kV doc pm an cdv ct), osl⟩) (cod : PySem.W.codeIn K cdv qual = true) (S : FnScope N ps sco) (len : ∀ vs H Q E, sp vs H Q E → vs.length = ps.length)
    (walk : ∀ (A : Around) (up : List Env) (st : Shared) (H : Hp) (vs : List V) (Q : VK) (E : XK), A.guards = some [] → Room k (A.deeper (envOfC qual sco st.heap.objs.size f cdv)) → sp vs H Q E →
      ∃ t, PSs (cxOf CX P w K mg base N qual sco f cdv A up st H E) bd t ∧ t { nx := fun _ H' => Q .non H', rt := Q } (start N vs) H) : FnQ P w K mg base CX (k + 1) f (PySem.W.fnOf x qual pas bd sco dV kV doc pm an cdv ct) ps sp := by
  refine ⟨len, fun A up st H ag us vs Q E quiet room en bt vv want => ?_⟩
  have many := len vs H Q E want
  have here : ∀ b o, base.get? b = some o → st.heap.get? b = some o := fun b o e => (en.bs b o e).1
  have inK : K.In st.heap := en.mod.kin.keeps here
  have free : st.heap.NoLimit := en.mod.nolimit.keeps here
  have kinds : ∀ z ∈ ps.zip us, sco.names.lookup z.1 = some .local ∨ (sco.names.lookup z.1 = some .cell ∧ ((cellsFrom (st.heap.objs.size + 1) sco.names []).lookup z.1).isSome = true) := by
    rintro ⟨n, v⟩ hz
    exact (S.par n (List.of_mem_zip hz).1).imp id fun q => ⟨q, PySem.W.cellsFrom_some _ _ _ (.inl q)⟩
  refine codeAny_call_function room.depth (inK _ _ at_) rfl S.co S.gen rfl (PySem.W.codeRec_of inK cod) (bt _ _ _ _ (wpAny_newFunctionEnv_cells S.kind kinds fun env same s1 made => ?_))
  subst same
  refine ⟨free.keeps made.toInCall.keep, codeAny_func ?_⟩
  obtain ⟨t, runs, goal⟩ := walk A up st H vs Q E quiet (room.deeper _) want
  have J : Inv (cxOf CX P w K mg base N qual sco f cdv A up st H E) [] (start N vs) H s1 := inv_start S room.hd en many vv made
  refine wpAny_mono (runs.run [] s1 (start N vs) H _ J goal) (fun fl s2 e => ?_) fun _ _ e => e
  cases fl with
  | ret u => exact let ⟨v, _, H2, J2, rv, q⟩ := e; ⟨v, H2, J2.os, J2.bare, J2.base, J2.hok, rv, q⟩
  | next => exact let ⟨_, H2, J2, q⟩ := e; ⟨V.non, H2, J2.os, J2.bare, J2.base, J2.hok, (rfl : Value.none = Value.none), q⟩
  | brk => exact (let ⟨_, _, _, q⟩ := e; False.elim q)
  | cont => exact (let ⟨_, _, _, q⟩ := e; False.elim q)
section
variable {X : Cx} {k : Nat} {f : Addr} {fd : FuncData} {ps : List Str} {sp : Sp} {dvs : List V} {ds : List Value} {x : Str} {p pos : Pos} {e : Expr} {es : List Expr} {t : TA}
abbrev noX : CXT := fun _ _ _ _ _ _ => False
theorem runQ {pins : List (Addr × Obj)} {σ : L2.St} {H : Hp} {st : Shared} {Q : VK} {us : List Value} {vs : List V} (F : FnQ X.prog X.w X.K X.mg X.base noX k f fd ps sp) (quiet : X.A.guards = some []) (room : Room k X.A) (bn : Binds X.K fd ps ds) (dv : Vals dvs ds)
    (J : Inv X pins σ H st) (vv : Vals vs us) (want : sp (vs ++ dvs) H Q fun _ _ _ => False) : wpAny (model X.prog X.w) X.A (call (.ref f) us) (EP X pins σ Q) X.xe st := by
  have all := vv.append dv
  have many : (us ++ ds).length = ps.length := all.length.symm.trans (F.len _ _ _ _ want)
  refine wpAny_call (codeAny_mono (F.run X.A X.stack st H ⟨us, []⟩ _ _ Q _ quiet room J.env0 (bn st us J.kIn many) all want) fun r s2 z => ?_)
  match r, z with
  | .ok (.ret u), z => exact J.after z
theorem peQ_call (F : FnQ X.prog X.w X.K X.mg X.base noX k f fd ps sp) (quiet : X.A.guards = some []) (room : Room k X.A) (gl : Gl X x) (hm : X.mg x = some (.ref f)) (kp : PySem.W.keepIn X.K (.ref f) = true) (bn : Binds X.K fd ps ds) (dv : Vals dvs ds)
    (ha : PA X (e :: es) t) (hdb : (x == ("__debug__" : Str)) = false) (he : starEach (e :: es) X.env = (false, eval e X.env) :: starEach es X.env) (hpl : (backTo pos (starEach es X.env)).any (·.1) = false) : PE X (.Call (.Name x p) (e :: es) [] pos) (tCall sp dvs (fun _ _ _ => False) t) := by
  constructor
  intro pins st σ H Q J z
  apply wpAny_Call_Name_kw
  apply ld_glob J gl hm _ hdb
  exact PySem.W.callWith_K (h₀ := X.base) J.ok.mod.kin kp (thn (ha.run pos pins st σ H _ J z) fun us s1 ⟨vs, H1, J1, vv, q⟩ => ⟨J1.kIn, runQ F quiet room bn dv J1 vv q⟩) he hpl
theorem peQ_call0 (F : FnQ X.prog X.w X.K X.mg X.base noX k f fd ps sp) (quiet : X.A.guards = some []) (room : Room k X.A) (gl : Gl X x) (hm : X.mg x = some (.ref f)) (kp : PySem.W.keepIn X.K (.ref f) = true) (bn : Binds X.K fd ps ds) (dv : Vals dvs ds)
    (hdb : (x == ("__debug__" : Str)) = false) : PE X (.Call (.Name x p) [] [] pos) (tCall sp dvs (fun _ _ _ => False) tNil) := by
  constructor
  intro pins st σ H Q J z
  apply wpAny_Call_Name_kw
  apply ld_glob J gl hm _ hdb
  exact PySem.W.callWith_K0 J.kIn kp (runQ (us := []) F quiet room bn dv J .nil z)
end
abbrev FnG := @FnOk
/-! ### calls -/
/-- a def at the module's name x -/
structure Dc (c : Md) (x : Str) (ps : List Str) (k : Nat) (sp : Sp) : Prop where
  ex : ∃ (f : Addr) (fd : FuncData), FnG c.prog c.w c.K c.mg c.base noX k f fd ps sp ∧ c.mg x = some (.ref f) ∧ PySem.W.keepIn c.K (.ref f) = true ∧ Binds c.K fd ps []
theorem e_call {x : Str} {p : Pos} {e : Expr} {es : List Expr} {ps : List Str} {k : Nat} {sp : Sp} (D : Dc c.toMd x ps k sp) (q : RA c (e :: es) σ H fun vs H1 => sp vs H1 Q fun _ _ _ => False) (hk : k ≤ c.k := by exact Nat.le_of_ble_eq_true rfl) (hg : c.sc.names.lookup x = some .globalImplicit := by rfl)
    (hdb : (x == ("__debug__" : Str)) = false := by decide) (he : ∀ env, starEach (e :: es) env = (false, eval e env) :: starEach es env := by intro _; rfl) (hpl : ∀ env, (backTo pos (starEach es env)).any (·.1) = false := by intro _; rfl) :
    RE c (.Call (.Name x p) (e :: es) [] pos) σ H Q := by
  obtain ⟨f, fd, F, hm, hkp, hb⟩ := D.ex
  refine re_of (t := tCall sp [] (fun _ _ _ => False) (RA c (e :: es))) (fun X h => ?_) ?_
  · refine pe_call (CX := fun _ _ _ _ _ _ => False) (k := k) (f := f) (fd := fd) (ps := ps) (ds := []) ?_ (h.room.mono hk) (gl_of h hg) (by rw [h.mg]; exact hm) (by rw [h.K]; exact hkp) (by rw [h.K]; exact hb) .nil (fun _ _ _ _ _ _ _ z => z.elim) (pa_ra h) hdb (he _) (hpl _)
    rw [h.prog, h.w, h.K, h.mg, h.base]; exact F
  · show RA c (e :: es) σ H fun vs H1 => sp (vs ++ []) H1 Q fun _ _ _ => False
    simpa only [List.append_nil] using q
theorem e_call0 {x : Str} {p : Pos} {ps : List Str} {k : Nat} {sp : Sp} (D : Dc c.toMd x ps k sp) (q : sp [] H Q fun _ _ _ => False) (hk : k ≤ c.k := by exact Nat.le_of_ble_eq_true rfl) (hg : c.sc.names.lookup x = some .globalImplicit := by rfl)
    (hdb : (x == ("__debug__" : Str)) = false := by decide) : RE c (.Call (.Name x p) [] [] pos) σ H Q := by
  obtain ⟨f, fd, F, hm, hkp, hb⟩ := D.ex
  refine re_of (t := tCall sp [] (fun _ _ _ => False) tNil) (fun X h => ?_) q
  refine pe_call0 (CX := fun _ _ _ _ _ _ => False) (k := k) (f := f) (fd := fd) (ps := ps) (ds := []) ?_ (h.room.mono hk) (gl_of h hg) (by rw [h.mg]; exact hm) (by rw [h.K]; exact hkp) (by rw [h.K]; exact hb) .nil (fun _ _ _ _ _ _ _ z => z.elim) hdb
  rw [h.prog, h.w, h.K, h.mg, h.base]; exact F
/-- a def at the module's name x -/
structure DcQ (c : Md) (x : Str) (ps : List Str) (k : Nat) (sp : Sp) : Prop where
  ex : ∃ (f : Addr) (fd : FuncData), FnQ c.prog c.w c.K c.mg c.base noX k f fd ps sp ∧ c.mg x = some (.ref f) ∧ PySem.W.keepIn c.K (.ref f) = true ∧ Binds c.K fd ps []
theorem e_callQ {x : Str} {p : Pos} {e : Expr} {es : List Expr} {ps : List Str} {k : Nat} {sp : Sp} (D : DcQ c.toMd x ps k sp) (q : RA c (e :: es) σ H fun vs H1 => sp vs H1 Q fun _ _ _ => False) (hq : c.g = true := by rfl) (hk : k ≤ c.k := by exact Nat.le_of_ble_eq_true rfl) (hg : c.sc.names.lookup x = some .globalImplicit := by rfl)
    (hdb : (x == ("__debug__" : Str)) = false := by decide) (he : ∀ env, starEach (e :: es) env = (false, eval e env) :: starEach es env := by intro _; rfl) (hpl : ∀ env, (backTo pos (starEach es env)).any (·.1) = false := by intro _; rfl) :
    RE c (.Call (.Name x p) (e :: es) [] pos) σ H Q := by
  obtain ⟨f, fd, F, hm, hkp, hb⟩ := D.ex
  refine re_of (t := tCall sp [] (fun _ _ _ => False) (RA c (e :: es))) (fun X h => ?_) ?_
  · refine peQ_call (k := k) (f := f) (fd := fd) (ps := ps) (ds := []) ?_ (h.gd hq) (h.room.mono hk) (gl_of h hg) (by rw [h.mg]; exact hm) (by rw [h.K]; exact hkp) (by rw [h.K]; exact hb) .nil (pa_ra h) hdb (he _) (hpl _)
    rw [h.prog, h.w, h.K, h.mg, h.base]; exact F
  · show RA c (e :: es) σ H fun vs H1 => sp (vs ++ []) H1 Q fun _ _ _ => False
    simpa only [List.append_nil] using q
theorem e_callQ0 {x : Str} {p : Pos} {ps : List Str} {k : Nat} {sp : Sp} (D : DcQ c.toMd x ps k sp) (q : sp [] H Q fun _ _ _ => False) (hq : c.g = true := by rfl) (hk : k ≤ c.k := by exact Nat.le_of_ble_eq_true rfl) (hg : c.sc.names.lookup x = some .globalImplicit := by rfl)
    (hdb : (x == ("__debug__" : Str)) = false := by decide) : RE c (.Call (.Name x p) [] [] pos) σ H Q := by
  obtain ⟨f, fd, F, hm, hkp, hb⟩ := D.ex
  refine re_of (t := tCall sp [] (fun _ _ _ => False) tNil) (fun X h => ?_) q
  refine peQ_call0 (k := k) (f := f) (fd := fd) (ps := ps) (ds := []) ?_ (h.gd hq) (h.room.mono hk) (gl_of h hg) (by rw [h.mg]; exact hm) (by rw [h.K]; exact hkp) (by rw [h.K]; exact hb) .nil hdb
  rw [h.prog, h.w, h.K, h.mg, h.base]; exact F
theorem e_callB {x : Str} {id : String} {p : Pos} {e : Expr} {es : List Expr} (hm : c.mg x = none) (hv : bootBuiltins x = some (.builtin id)) (q : RA c (e :: es) σ H fun vs H1 => RC c (.builtin id) vs H1 Q) (hg : c.sc.names.lookup x = some .globalImplicit := by rfl) (hn : x ≠ "__name__" := by decide) (hdb : (x == ("__debug__" : Str)) = false := by decide)
    (he : ∀ env, starEach (e :: es) env = (false, eval e env) :: starEach es env := by intro _; rfl) (hpl : ∀ env, (backTo pos (starEach es env)).any (·.1) = false := by intro _; rfl) : RE c (.Call (.Name x p) (e :: es) [] pos) σ H Q :=
  re_of (fun X h => pe_callB (call_rc h) (gl_of h hg) (by rw [h.mg]; exact hm) hv (pa_ra h) hn hdb (he _) (hpl _)) q
theorem e_callT {x : Str} {T : String} {p : Pos} {e : Expr} {es : List Expr} (hm : c.mg x = none) (hv : bootBuiltins x = some (.type T)) (q : RA c (e :: es) σ H fun vs H1 => RC c (.type T) vs H1 Q) (hg : c.sc.names.lookup x = some .globalImplicit := by rfl) (hn : x ≠ "__name__" := by decide) (hdb : (x == ("__debug__" : Str)) = false := by decide)
    (he : ∀ env, starEach (e :: es) env = (false, eval e env) :: starEach es env := by intro _; rfl) (hpl : ∀ env, (backTo pos (starEach es env)).any (·.1) = false := by intro _; rfl) : RE c (.Call (.Name x p) (e :: es) [] pos) σ H Q :=
  re_of (fun X h => pe_callTy (call_rc h) (gl_of h hg) (by rw [h.mg]; exact hm) hv (pa_ra h) hn hdb (he _) (hpl _)) q
/-- o.name(e, ..), a builtin's method -/
theorem e_bm {T id : String} {o e : Expr} {es : List Expr} {name : Str} {apos : Pos} (pa : PlainAttrs T) (slot : Slot T name id) (hty : typeOf (.builtin id) = pure (.type "method_descriptor")) (q : RE c o σ H fun x H1 => tyV c.K T x H1 ∧ RA c (e :: es) σ H1 fun xs H2 => RM c id x xs H2 Q)
    (hbase : ∀ env, attributeBase o name env (eval o env) = eval o env := by intro _; rfl)
    (hfew : ∀ env, ((backTo pos (starEach (e :: es) env)).all (fun x => !x.1) && (backToKw pos (keywordEach [] env)).all (fun x => x.1.isSome)
      && decide ((e :: es).length + ([] : List Keyword).length + (if ([] : List Keyword).isEmpty then 0 else 1) < 30)) = true := by intro _; rfl)
    (hline : (apos.endLine == pos.line) = true := by rfl) (hs : ∀ env, starEach (e :: es) env = (false, eval e env) :: starEach es env := by intro _; rfl) (hplain : ∀ env, (backTo pos (starEach es env)).any (·.1) = false := by intro _; rfl) :
    RE c (.Call (.Attribute o name apos) (e :: es) [] pos) σ H Q := by
  refine re_of (t := tBM c.K T (RM c id) (RE c o) (RA c (e :: es))) (fun X h => ?_) q
  rw [← h.K]
  exact pe_bm pa slot hty (mt_rm h) (pe_re h) (pa_ra h) (hbase _) (hfew _) hline (hs _) (hplain _)
theorem e_bm0 {T id : String} {o : Expr} {name : Str} {apos : Pos} (pa : PlainAttrs T) (slot : Slot T name id) (hty : typeOf (.builtin id) = pure (.type "method_descriptor")) (q : RE c o σ H fun x H1 => tyV c.K T x H1 ∧ RM c id x [] H1 Q)
    (hbase : ∀ env, attributeBase o name env (eval o env) = eval o env := by intro _; rfl) (hline : (apos.endLine == pos.line) = true := by rfl) : RE c (.Call (.Attribute o name apos) [] [] pos) σ H Q := by
  refine re_of (t := tBM0 c.K T (RM c id) (RE c o)) (fun X h => ?_) q
  rw [← h.K]
  exact pe_bm0 pa slot hty (mt_rm h) (pe_re h) (hbase _) hline

/-! ### tests -/
variable {R : Bool → Hp → Prop}
theorem t_val {e : Expr} (q : RE c e σ H fun x H1 => ∃ k, x = .bl k ∧ R k H1) (he : ∀ env whole, isTrue e env whole = (do let v ← whole; standAt e.pos; holding [v] (truthy v)) := by intro _ _; rfl) : RT c e σ H R :=
  rt_of (fun X h => pt_val (pe_re h) (he _)) q
theorem t_tru {e : Expr} (q : RE c e σ H fun x H1 => ∃ k, TruV c.K x H1 k ∧ R k H1) (he : ∀ env whole, isTrue e env whole = (do let v ← whole; standAt e.pos; holding [v] (truthy v)) := by intro _ _; rfl) : RT c e σ H R :=
  rt_of (t := fun σ H Q => RE c e σ H fun x H' => ∃ k, TruV c.K x H' k ∧ Q k H') (fun X h => by rw [← h.K]; exact pt_truth (pe_re h) (he _)) q
theorem t_cmp {a b : Expr} {op : CmpOp} (q : RE c a σ H fun x H1 => RE c b σ H1 fun y H2 => RQ c op x y H2 fun z H3 => ∃ k, z = .bl k ∧ R k H3) (hm : behindInMarks op b = false := by first | rfl | exact nomark _) : RT c (.Compare a [op] [b] pos) σ H R :=
  rt_of (fun X h => pt_cmpR (op_rq h) (pe_re h) (pe_re h) hm) q
theorem t_chain {a b d : Expr} {op op' : CmpOp} (q : RE c a σ H fun x H1 => RE c b σ H1 fun y H2 => RQ c op x y H2 fun z H3 => ∃ k, z = .bl k ∧ (if k = true then RE c d σ H3 fun w' H4 => RQ c op' y w' H4 (fun z H5 => ∃ k, z = .bl k ∧ R k H5) else (∃ k, V.bl false = .bl k ∧ R k H3)))
    (hm : lastMarks [op, op'] [b, d] = false := by with_unfolding_all rfl) : RT c (.Compare a [op, op'] [b, d] pos) σ H R :=
  rt_of (t := tTest (tChain (RQ c op) (RQ c op') (RE c a) (RE c b) (RE c d))) (fun X h => pt_chain (op_rq h) (op_rq h) (pe_re h) (pe_re h) (pe_re h) hm) q
theorem t_not {a : Expr} (q : RT c a σ H fun k H1 => R (!k) H1) : RT c (.UnaryOp .Not a pos) σ H R := rt_of (fun X h => pt_not (pt_rt h)) q
theorem t_w {e : Expr} (q : RW c e σ H R) : RT c e σ H R := rt_of (fun X h => (pw_rw h).pt) q
theorem w_and1 {a : Expr} (q : RT c a σ H R) : RW c (.BoolOp .And [a] pos) σ H R := rw_of (fun X h => pw_and1 (pt_rt h)) q
theorem w_or1 {a : Expr} (q : RT c a σ H R) : RW c (.BoolOp .Or [a] pos) σ H R := rw_of (fun X h => pw_or1 (pt_rt h)) q
theorem w_and {a b : Expr} {rest : List Expr} (q : RT c a σ H fun k H1 => if k = true then RW c (.BoolOp .And (b :: rest) pos) σ H1 R else R false H1) : RW c (.BoolOp .And (a :: b :: rest) pos) σ H R :=
  rw_of (fun X h => pw_and (pt_rt h) (pw_rw h)) q
theorem w_or {a b : Expr} {rest : List Expr} (q : RT c a σ H fun k H1 => if k = true then R true H1 else RW c (.BoolOp .Or (b :: rest) pos) σ H1 R) : RW c (.BoolOp .Or (a :: b :: rest) pos) σ H R :=
  rw_of (fun X h => pw_or (pt_rt h) (pw_rw h)) q
/-! ### statements -/
variable {D : Ends} {nx : L2.St → Hp → Prop} {rt : VK} {bk ct : L2.St → Hp → Prop}
theorem b_nil (q : D.nx σ H) : RB c [] D σ H := rb_of (fun _ _ => pss_nil) q
theorem b_cons {st : Stmt} {rest : List Stmt} (q : RS c st ⟨fun σ1 H1 => RB c rest ⟨nx, rt, bk, ct⟩ σ1 H1, rt, bk, ct⟩ σ H) : RB c (st :: rest) ⟨nx, rt, bk, ct⟩ σ H := rb_of (t := tSeq (RS c st) (RB c rest)) (fun X h => pss_cons (ps_rs h) (ps_rb h)) q
/-- a statement, then the rest, with a word between them -/
theorem b_cut {st : Stmt} {rest : List Stmt} (Mid : L2.St → Hp → Prop) (q : RS c st ⟨Mid, rt, bk, ct⟩ σ H) (q2 : ∀ σ1 H1, Mid σ1 H1 → RB c rest ⟨nx, rt, bk, ct⟩ σ1 H1) : RB c (st :: rest) ⟨nx, rt, bk, ct⟩ σ H :=
  b_cons (RS.mono (D := ⟨Mid, rt, bk, ct⟩) (D' := ⟨fun σ1 H1 => RB c rest ⟨nx, rt, bk, ct⟩ σ1 H1, rt, bk, ct⟩) ⟨q2, fun _ _ h => h, fun _ _ h => h, fun _ _ h => h⟩ q)
theorem b_one {st : Stmt} (q : RS c st D σ H) : RB c [st] D σ H := rb_of (fun X h => pss_one (ps_rs h)) q
theorem s_pass (q : D.nx σ H) : RS c (.Pass pos) D σ H := rs_of (fun _ _ => ps_pass) q
theorem s_break (q : D.bk σ H) : RS c (.Break pos) D σ H := rs_of (fun _ _ => ps_break) q
theorem s_cont (q : D.ct σ H) : RS c (.Continue pos) D σ H := rs_of (fun _ _ => ps_continue) q
theorem s_ret {e : Expr} (q : RE c e σ H D.rt) : RS c (.Return (some e) pos) D σ H := rs_of (fun X h => ps_ret (pe_re h)) q
theorem s_retN (q : D.rt .non H) : RS c (.Return none pos) D σ H := rs_of (fun X h => ps_retN) q
theorem s_expr {e : Expr} (q : RE c e σ H fun _ H1 => D.nx σ H1) (hs : ∀ env, swapsWith e none pos.line env = pure false := by intro _; rfl) : RS c (.Expr e pos) D σ H := rs_of (fun X h => ps_expr (pe_re h) (hs _)) q
theorem s_if {d : Expr} {a b : List Stmt} (q : RT c d σ H fun k H1 => if k = true then RB c a D σ H1 else RB c b D σ H1) : RS c (.If d a b pos) D σ H := rs_of (fun X h => ps_if (pt_rt h) (ps_rb h) (ps_rb h)) q
theorem s_asg {tg e : Expr} (q : RE c e σ H fun x H1 => RG c tg x σ H1 D.nx) (hs : ∀ env, swapsWithSole [tg] e pos.line env = pure false := by intro _; rfl) (hw : ∀ env, swappedStores [tg] e env = pure none := by intro _; rfl)
    (h1 : ∀ env, (assignEach [tg] env).map (·.2) = [assign tg env] := by intro _; rfl) : RS c (.Assign [tg] e pos) D σ H := rs_of (fun X h => ps_asg (pe_re h) (pg_rg h) (hs _) (hw _) (h1 _)) q
theorem s_set {i : Nat} {x : Str} {e : Expr} {pos' : Pos} (hA : At c.N i x) (q : RE c e σ H fun v H1 => D.nx (σ.set i (some v)) H1) (hx : c.sc.names.lookup x = some .local ∨ (c.sc.names.lookup x = some .cell ∧ c.top = true) := by first | exact Or.inl rfl | exact Or.inr ⟨rfl, rfl⟩)
    (hs : ∀ env, swapsWith e (some (.Name x pos')) pos.line env = pure false := by intro _; rfl) : RS c (.Assign [.Name x pos'] e pos) D σ H := by
  refine rs_of (t := tAsg (RE c e) (gName i)) (fun X h => ?_) q
  refine ps_set (by rw [h.N]; exact h.nd) (by rw [h.N]; exact hA.get) ?_ (pe_re h) (hs _) ?_
  · rcases hx with z | z
    · exact .inl (by rw [h.sc]; exact z)
    · exact .inr (by rw [h.sc]; exact z.1)
  · rcases hx with z | z
    · exact .inr (by rw [h.sc]; exact z)
    · exact .inl (h.top z.2 _)
theorem g_name {i : Nat} {x : Str} {v : V} {R : L2.St → Hp → Prop} (hA : At c.N i x) (q : R (σ.set i (some v)) H) (hx : c.sc.names.lookup x = some .local ∨ (c.sc.names.lookup x = some .cell ∧ c.top = true) := by first | exact Or.inl rfl | exact Or.inr ⟨rfl, rfl⟩) : RG c (.Name x pos) v σ H R := by
  refine rg_of (t := gName i) (fun X h => ?_) q
  refine pg_name (by rw [h.N]; exact h.nd) (by rw [h.N]; exact hA.get) ?_ ?_
  · rcases hx with z | z
    · exact .inl (by rw [h.sc]; exact z)
    · exact .inr (by rw [h.sc]; exact z.1)
  · rcases hx with z | z
    · exact .inr (by rw [h.sc]; exact z)
    · exact .inl (h.top z.2 _)
theorem gs_nil {R : L2.St → Hp → Prop} (q : R σ H) : RGs c [] [] σ H R := rgs_of (fun _ _ => pgs_nil) ⟨rfl, q⟩
theorem gs_cons {e : Expr} {es : List Expr} {v : V} {vs : List V} {R : L2.St → Hp → Prop} (q : RG c e v σ H fun σ1 H1 => RGs c es vs σ1 H1 R) (hs : ∀ env, (assignEach (e :: es) env).map (·.2) = assign e env :: (assignEach es env).map (·.2) := by intro _; rfl) : RGs c (e :: es) (v :: vs) σ H R :=
  rgs_of (t := gCons (RG c e) (RGs c es)) (fun X h => pgs_cons (pg_rg h) (pg_rgs h) (hs _)) ⟨v, vs, rfl, q⟩
theorem g_tup {es : List Expr} {k : Nat} {a : Addr} {xs : List V} {n : Nat} {R : L2.St → Hp → Prop} (ht : SqT c.K H a xs) (q : RGs c es xs σ H R) (hl : xs.length = n := by rfl) (hn : ∀ env, (assignEach es env).length = n := by intro _; rfl) (hst : ∀ env, (assignEach es env).findIdx? (·.1) = none := by intro _; rfl) :
    RG c (.Tuple es k pos) (.ref a) σ H R := rg_of (t := gTup c.K n (RGs c es)) (fun X h => by rw [← h.K]; exact pg_tup h.calm (pg_rgs h) (hn _) (hst _)) ⟨a, xs, rfl, ht, hl, q⟩
theorem g_sub {o i : Expr} {v : V} {R : L2.St → Hp → Prop} (q : RE c o σ H fun x H1 => RE c i σ H1 fun y H2 => RP c x y v H2 fun H3 => R σ H3)
    (ha : ∀ env v, assign (.Subscript o i pos) env v = (do
      let ov ← holding [v] (eval o env)
      let iv ← holding [v, ov] (eval i env)
      standAt pos
      holding [v, ov, iv] (setItem ov iv v)
      release [v, ov, iv] []) := by intro _ _; rfl) : RG c (.Subscript o i pos) v σ H R := rg_of (fun X h => pg_sub (pe_re h) (pe_re h) (set_rp h) (ha _)) q
/-- d[k] = v -/
theorem s_dput {o i e : Expr} {pos' : Pos} (q : RE c e σ H fun v H1 => RE c o σ H1 fun x H2 => RE c i σ H2 fun y H3 => ∃ a H4, x = .ref a ∧ DPut H3 a y v H4 ∧ D.nx σ H4)
    (hs : ∀ env, swapsWith e (some (.Subscript o i pos')) pos.line env = pure false := by intro _; rfl) : RS c (.Assign [.Subscript o i pos'] e pos) D σ H :=
  rs_of (fun X h => ps_dput (by have := h.room.units; omega) (pe_re h) (pe_re h) (pe_re h) (hs _)) q
/-- a, b = x, y -/
theorem s_par {i j : Nat} {x y : Str} {a b : Expr} {px py pt : Pos} {kt k2 pt2} (hi : At c.N i x) (hj : At c.N j y) (q : RE c a σ H fun v H1 => RE c b σ H1 fun w H2 => D.nx ((σ.set i (some v)).set j (some w)) H2) (hij : i ≠ j := by decide)
    (hx : c.sc.names.lookup x = some .local := by rfl) (hy : c.sc.names.lookup y = some .local := by rfl)
    (hw : ∀ env : Env, env.scope = c.sc → swappedStores [.Tuple [.Name x px, .Name y py] kt pt] (.Tuple [a, b] k2 pt2) env = pure (some [x, y]))
    (hs : ∀ env, swapsWithSole [.Tuple [.Name x px, .Name y py] kt pt] (.Tuple [a, b] k2 pt2) pos.line env = pure false := by intro _; rfl)
    (h1 : ∀ env, starEach [a, b] env = (false, eval a env) :: starEach [b] env := by intro _; rfl) (h2 : ∀ env, starEach [b] env = (false, eval b env) :: starEach [] env := by intro _; rfl) :
    RS c (.Assign [.Tuple [.Name x px, .Name y py] kt pt] (.Tuple [a, b] k2 pt2) pos) D σ H := by
  refine rs_of (t := tPar i j (RA c [a, b])) (fun X h => ps_par h.calm (by rw [h.N]; exact h.nd) (by rw [h.N]; exact hi.get) (by rw [h.N]; exact hj.get) hij (by rw [h.sc]; exact hx) (by rw [h.sc]; exact hy) (pa_ra h) (hw _ h.sc) (hs _)) ?_
  refine a_cons (RE.mono (fun v H1 z => a_cons (RE.mono (fun w H2 z => a_nil ⟨v, w, rfl, z⟩) z) h2) q) h1

/-! ### what is walked -/
theorem i_list {tg l : Expr} {R : It → Hp → Prop} (q : RE c l σ H fun x H1 => ∃ a, x = .ref a ∧ (∃ xs, SqL c.K H1 a xs) ∧ R (Itl c.K a) H1) : RI c tg l σ H R :=
  ri_of (t := iList c.K (RE c l)) (fun X h => by rw [← h.K]; exact pi_list (pe_re h)) q
theorem i_tup {tg l : Expr} {R : It → Hp → Prop} (q : RE c l σ H fun x H1 => ∃ a, x = .ref a ∧ (∃ xs, SqT c.K H1 a xs) ∧ R (Itt c.K a) H1) : RI c tg l σ H R :=
  ri_of (t := iTup c.K (RE c l)) (fun X h => by rw [← h.K]; exact pi_tup (pe_re h)) q
theorem i_range1 {tg a : Expr} {p : Pos} {R : It → Hp → Prop} (hm : c.mg "range" = none) (q : RA c [a] σ H fun vs H1 => ∃ j : Int, vs = [.int j] ∧ -(2 ^ 62) ≤ j ∧ j < 2 ^ 62 ∧ R (Itr 0 j.toNat) H1) (hg : c.sc.names.lookup ("range" : Str) = some .globalImplicit := by rfl) (hs : ∀ env, starEach [a] env = [(false, eval a env)] := by intro _; rfl) :
    RI c tg (.Call (.Name "range" p) [a] [] pos) σ H R := ri_of (t := iRng1 (RA c [a])) (fun X h => pi_range1 (gl_of h hg) (by rw [h.mg]; exact hm) (pa_ra h) (hs _)) q
theorem i_range2 {tg a b : Expr} {p : Pos} {R : It → Hp → Prop} (hm : c.mg "range" = none) (q : RA c [a, b] σ H fun vs H1 => ∃ i j : Int, vs = [.int i, .int j] ∧ (-(2 ^ 62) ≤ i ∧ i < 2 ^ 62 ∧ -(2 ^ 62) ≤ j ∧ j < 2 ^ 62) ∧ R (Itr i (j - i).toNat) H1) (hg : c.sc.names.lookup ("range" : Str) = some .globalImplicit := by rfl)
    (hs : ∀ env, starEach [a, b] env = [(false, eval a env), (false, eval b env)] := by intro _; rfl) (hs2 : ∀ env, starEach [b] env = [(false, eval b env)] := by intro _; rfl) :
    RI c tg (.Call (.Name "range" p) [a, b] [] pos) σ H R := ri_of (t := iRng2 (RA c [a, b])) (fun X h => pi_range2 (gl_of h hg) (by rw [h.mg]; exact hm) (pa_ra h) (hs _) (hs2 _)) q

/-! ### loops -/
theorem s_for {tg iter : Expr} {body : List Stmt} (q : RI c tg iter σ H fun J H1 => ∃ W : Nat → Nat → L2.St → Hp → Prop, (∃ m, W 0 m σ H1) ∧ ∀ i m σ H, W i m σ H →
      (J.stop i H ∧ nx σ H) ∨ (J.go i H ∧ ∃ N : L2.St → Hp → Prop, (∀ σ' H', N σ' H' → ∃ m', m' < m ∧ W (i + 1) m' σ' H') ∧ ∀ x H', J.yld i H x H' → RG c tg x σ H' fun σ2 H2 => RB c body ⟨N, rt, nx, N⟩ σ2 H2))
    (hs : ∀ env x, foldedSetIterable iter env x = pure x := by intro _ _; rfl) : RS c (.For tg iter body [] pos) ⟨nx, rt, bk, ct⟩ σ H :=
  rs_of (t := tFor (RI c tg iter) (RG c tg) (RB c body)) (fun X h => ps_for h.own h.calm (pi_ri h) (pg_rg h) (ps_rb h) (hs _)) q
theorem s_forT {tg iter : Expr} {body : List Stmt} (q : RE c iter σ H fun x H1 => ∃ a xs, x = .ref a ∧ SqT c.K H1 a xs ∧ ∃ Pv : Nat → L2.St → Hp → Prop, Pv 0 σ H1 ∧ (∀ i σ' H', i ≤ xs.length → Pv i σ' H' → SqT c.K H' a xs) ∧
      (∀ i x σ' H', xs[i]? = some x → Pv i σ' H' → RG c tg x σ' H' fun σ2 H2 => RB c body ⟨Pv (i + 1), rt, nx, Pv (i + 1)⟩ σ2 H2) ∧ ∀ σ' H', Pv xs.length σ' H' → nx σ' H')
    (hs : ∀ env x, foldedSetIterable iter env x = pure x := by intro _ _; rfl) : RS c (.For tg iter body [] pos) ⟨nx, rt, bk, ct⟩ σ H := by
  refine s_for (i_tup (RE.mono (fun x H1 z => ?_) q)) hs
  obtain ⟨a, xs, rfl, ht, Pv, h0, hl, hs, hd⟩ := z
  exact ⟨a, rfl, ⟨xs, ht⟩, for_tup (tb := RB c body) (D := ⟨nx, rt, bk, ct⟩) Pv h0 hl hs hd⟩
theorem s_forL {tg iter : Expr} {body : List Stmt} (q : RE c iter σ H fun x H1 => ∃ a xs, x = .ref a ∧ SqL c.K H1 a xs ∧ ∃ Pv : Nat → L2.St → Hp → Prop, Pv 0 σ H1 ∧ (∀ i σ' H', i ≤ xs.length → Pv i σ' H' → SqL c.K H' a xs) ∧
      (∀ i x σ' H', xs[i]? = some x → Pv i σ' H' → RG c tg x σ' H' fun σ2 H2 => RB c body ⟨Pv (i + 1), rt, nx, Pv (i + 1)⟩ σ2 H2) ∧ ∀ σ' H', Pv xs.length σ' H' → nx σ' H')
    (hs : ∀ env x, foldedSetIterable iter env x = pure x := by intro _ _; rfl) : RS c (.For tg iter body [] pos) ⟨nx, rt, bk, ct⟩ σ H := by
  refine s_for (i_list (RE.mono (fun x H1 z => ?_) q)) hs
  obtain ⟨a, xs, rfl, ht, Pv, h0, hl, hs, hd⟩ := z
  exact ⟨a, rfl, ⟨xs, ht⟩, for_list (tb := RB c body) (D := ⟨nx, rt, bk, ct⟩) Pv h0 hl hs hd⟩
theorem s_forR1 {tg a : Expr} {p ppos : Pos} {body : List Stmt} (hm : c.mg "range" = none) (q : RE c a σ H fun x H1 => ∃ n : Int, x = .int n ∧ -(2 ^ 62) ≤ n ∧ n < 2 ^ 62 ∧ ∃ Pv : Nat → L2.St → Hp → Prop, Pv 0 σ H1 ∧
      (∀ i σ' H', i < n.toNat → Pv i σ' H' → RG c tg (.int (i : Int)) σ' H' fun σ2 H2 => RB c body ⟨Pv (i + 1), rt, nx, Pv (i + 1)⟩ σ2 H2) ∧ ∀ σ' H', Pv n.toNat σ' H' → nx σ' H')
    (hg : c.sc.names.lookup ("range" : Str) = some .globalImplicit := by rfl) (h1 : ∀ env, starEach [a] env = [(false, eval a env)] := by intro _; rfl) (hs : ∀ env x, foldedSetIterable (.Call (.Name "range" p) [a] [] ppos) env x = pure x := by intro _ _; rfl) :
    RS c (.For tg (.Call (.Name "range" p) [a] [] ppos) body [] pos) ⟨nx, rt, bk, ct⟩ σ H := by
  refine s_for (i_range1 hm (a_cons (RE.mono (fun x H1 z => ?_) q) (fun env => by rw [h1]; rfl)) hg h1) hs
  obtain ⟨n, rfl, n1, n2, Pv, h0, hs, hd⟩ := z
  refine a_nil ⟨n, rfl, n1, n2, for_range (tb := RB c body) (D := ⟨nx, rt, bk, ct⟩) (lo := 0) (n := n.toNat) Pv h0 (fun i σ' H' hi p => ?_) hd⟩
  rw [Int.zero_add]
  exact hs i σ' H' hi p
theorem s_while {d : Expr} {body : List Stmt} (Pv : Nat → L2.St → Hp → Prop) (m : Nat) (h0 : Pv m σ H)
    (q : ∀ m σ H, Pv m σ H → RT c d σ H fun b H1 => if b = true then RB c body ⟨fun σ' H' => ∃ m', m' < m ∧ Pv m' σ' H', rt, nx, fun σ' H' => ∃ m', m' < m ∧ Pv m' σ' H'⟩ σ H1 else nx σ H1) : RS c (.While d body [] pos) ⟨nx, rt, bk, ct⟩ σ H := by
  refine rs_of (t := tWhile (RT c d) (RB c body)) (fun X h => ps_while h.own (pt_rt h) (ps_rb h)) ⟨Pv, ⟨m, h0⟩, fun m σ H p => RT.mono (fun b H1 z => ?_) (q m σ H p)⟩
  cases b with
  | true => exact ⟨_, fun _ _ z => z, z⟩
  | false => exact z
end
/-! ### what a goal asks of, told by its head -/
section
variable {c : Cd} {σ : L2.St} {H : Hp}
theorem gRE {e : Expr} {Q : VK} (q : RE c e σ H Q) : RE c e σ H Q := q
theorem gRT {e : Expr} {Q : Bool → Hp → Prop} (q : RT c e σ H Q) : RT c e σ H Q := q
theorem gRW {e : Expr} {Q : Bool → Hp → Prop} (q : RW c e σ H Q) : RW c e σ H Q := q
theorem gRA {e : List Expr} {Q : List V → Hp → Prop} (q : RA c e σ H Q) : RA c e σ H Q := q
theorem gRS {e : Stmt} {D : Ends} (q : RS c e D σ H) : RS c e D σ H := q
theorem gRB {e : List Stmt} {D : Ends} (q : RB c e D σ H) : RB c e D σ H := q
theorem gRG {e : Expr} {v : V} {Q : L2.St → Hp → Prop} (q : RG c e v σ H Q) : RG c e v σ H Q := q
theorem gRO {f : Operator} {x y : V} {Q : VK} (q : RO c f x y H Q) : RO c f x y H Q := q
theorem gRQ {f : CmpOp} {x y : V} {Q : VK} (q : RQ c f x y H Q) : RQ c f x y H Q := q
theorem gRU {f : UnaryOp} {x : V} {Q : VK} (q : RU c f x H Q) : RU c f x H Q := q
theorem gRC {f : Value} {xs : List V} {Q : VK} (q : RC c f xs H Q) : RC c f xs H Q := q
theorem gRX {x y : V} {Q : VK} (q : RX c x y H Q) : RX c x y H Q := q
theorem gRPo {e : Option Expr} {Q : Option Int → Hp → Prop} (q : RPo c e σ H Q) : RPo c e σ H Q := q
end
end G

namespace G
open PySem PySem.Spec PyProof.Rows L2

/-! ### heaps: what stays -/
structure Tp (H H' : Hp) : Prop where
  t : ∀ a xs, H a = some (.tup xs) → H' a = some (.tup xs)
  f : ∀ a o u, H a = some (.frz o u) → H' a = some (.frz o u)
theorem Tp.refl (H : Hp) : Tp H H := ⟨fun _ _ h => h, fun _ _ _ h => h⟩
theorem Tp.trans {H H1 H2 : Hp} (a : Tp H H1) (b : Tp H1 H2) : Tp H H2 := ⟨fun _ _ h => b.t _ _ (a.t _ _ h), fun _ _ _ h => b.f _ _ _ (a.f _ _ _ h)⟩
theorem tp_same {H H' : Hp} (s : Same H H') : Tp H H' := ⟨fun _ _ h => s _ _ h, fun _ _ _ h => s _ _ h⟩
theorem Tp.sqt {K : PySem.W.Frag} {H H' : Hp} {a : Addr} {xs : List V} (e : Tp H H') (h : SqT K H a xs) : SqT K H' a xs := by
  rcases h with (h | ⟨o, h⟩) | h
  · exact .inl (.inl (e.t _ _ h))
  · exact .inl (.inr ⟨o, e.f _ _ _ h⟩)
  · exact .inr h
theorem same_new {H : Hp} {p : Addr} {o : HO} (h : H p = none) : Same H (upd H p o) := fun b u q => by rw [upd_ne (ne_of_none q h)]; exact q
/-- all but the thing at m stays; m is no tuple and not locked -/
structure Kp (m : Addr) (H H' : Hp) : Prop where
  k : ∀ a o, a ≠ m → H a = some o → H' a = some o
  t : Tp H H'
theorem kp_same {m : Addr} {H H' : Hp} (s : Same H H') : Kp m H H' := ⟨fun _ _ _ h => s _ _ h, tp_same s⟩
theorem Kp.refl (m : Addr) (H : Hp) : Kp m H H := kp_same (Same.refl H)
theorem Kp.trans {m : Addr} {H H1 H2 : Hp} (a : Kp m H H1) (b : Kp m H1 H2) : Kp m H H2 := ⟨fun _ _ n h => b.k _ _ n (a.k _ _ n h), a.t.trans b.t⟩
/-- a list (of ours) is written -/
theorem kp_upd {H : Hp} {p : Addr} {o o' : HO} (h : H p = some o) (h1 : ∀ xs, o ≠ .tup xs) (h2 : ∀ b u, o ≠ .frz b u) : Kp p H (upd H p o') :=
  ⟨fun a u n q => by rw [upd_ne n]; exact q, fun a xs q => by rw [upd_ne (ne_of q h fun e => h1 _ e.symm)]; exact q, fun a b u q => by rw [upd_ne (ne_of q h fun e => h2 _ _ e.symm)]; exact q⟩
/-- a thing that the older heap does not know is written: for it nothing has changed -/
theorem same_mut {H H1 : Hp} {p : Addr} {o : HO} (s : Same H H1) (h : H p = none) : Same H (upd H1 p o) := fun b u q => by rw [upd_ne (ne_of_none q h)]; exact s _ _ q
theorem kp_mut {m : Addr} {H H1 : Hp} {p : Addr} {o : HO} (s : Kp m H H1) (h : H p = none) : Kp m H (upd H1 p o) :=
  ⟨fun b u n q => by rw [upd_ne (ne_of_none q h)]; exact s.k _ _ n q, fun b u q => by rw [upd_ne (ne_of_none q h)]; exact s.t.t _ _ q, fun b u v q => by rw [upd_ne (ne_of_none q h)]; exact s.t.f _ _ _ q⟩

/-! ### data that never changes: none, bools, ints, texts, tuples of these -/
mutual
inductive Dt (K : PySem.W.Frag) (H : Hp) : V → PyData → Prop
  | non : Dt K H .non .none
  | bl (b : Bool) : Dt K H (.bl b) (.bool b)
  | int (i : Int) : Dt K H (.int i) (.int i)
  | str (x : Str) : Dt K H (.str x) (.str x)
  | tup {a : Addr} {xs : List V} {ds : List PyData} : SqT K H a xs → DtAll K H xs ds → Dt K H (.ref a) (.tuple ds)
  | lst {a : Addr} {o : Obj} {xs : List V} {ds : List PyData} : H a = some (.frz o (.lst xs)) → DtAll K H xs ds → Dt K H (.ref a) (.list ds)
inductive DtAll (K : PySem.W.Frag) (H : Hp) : List V → List PyData → Prop
  | nil : DtAll K H [] []
  | cons {v : V} {vs : List V} {d : PyData} {ds : List PyData} : Dt K H v d → DtAll K H vs ds → DtAll K H (v :: vs) (d :: ds)
end
section
variable {K : PySem.W.Frag} {H H' : Hp}
mutual
theorem Dt.mono (e : Tp H H') : ∀ {d : PyData} {v : V}, Dt K H v d → Dt K H' v d
  | .none, _, h => by cases h; exact .non
  | .bool _, _, h => by cases h; exact .bl _
  | .int _, _, h => by cases h; exact .int _
  | .str _, _, h => by cases h; exact .str _
  | .tuple ds, _, h => by
    cases h with
    | tup hs ha => exact .tup (e.sqt hs) (DtAll.mono e ha)
  | .list ds, _, h => by
    cases h with
    | lst hs ha => exact .lst (e.f _ _ _ hs) (DtAll.mono e ha)
  | .dict _, _, h => by cases h
theorem DtAll.mono (e : Tp H H') : ∀ {ds : List PyData} {vs : List V}, DtAll K H vs ds → DtAll K H' vs ds
  | [], _, h => by cases h; exact .nil
  | d :: ds, _, h => by
    cases h with
    | cons h1 h2 => exact .cons (Dt.mono e h1) (DtAll.mono e h2)
end
mutual
theorem Dt.dp : ∀ {d : PyData} {v : V}, Dt K H v d → Dp K H v d
  | .none, _, h => by cases h; exact .non
  | .bool _, _, h => by cases h; exact .bl _
  | .int _, _, h => by cases h; exact .int _
  | .str _, _, h => by cases h; exact .str _
  | .tuple ds, _, h => by
    cases h with
    | tup hs ha => exact .tup hs (DtAll.dp ha)
  | .list ds, _, h => by
    cases h with
    | lst hs ha => exact .lst (.inl (.inr ⟨_, hs⟩)) (DtAll.dp ha)
  | .dict _, _, h => by cases h
theorem DtAll.dp : ∀ {ds : List PyData} {vs : List V}, DtAll K H vs ds → DpAll K H vs ds
  | [], _, h => by cases h; exact .nil
  | d :: ds, _, h => by
    cases h with
    | cons h1 h2 => exact .cons (Dt.dp h1) (DtAll.dp h2)
end
theorem DtAll.len : ∀ {ds : List PyData} {vs : List V}, DtAll K H vs ds → vs.length = ds.length
  | [], _, h => by cases h; rfl
  | d :: ds, _, h => by
    cases h with
    | cons _ h2 => exact congrArg Nat.succ (DtAll.len h2)
theorem DtAll.get : ∀ {ds : List PyData} {vs : List V} {i : Nat} {d : PyData}, DtAll K H vs ds → ds[i]? = some d → ∃ v, vs[i]? = some v ∧ Dt K H v d
  | [], _, _, _, _, e => by simp at e
  | d :: ds, _, 0, _, h, e => by
    cases h with
    | cons h1 _ =>
      simp at e
      subst e
      exact ⟨_, rfl, h1⟩
  | d :: ds, _, i + 1, _, h, e => by
    cases h with
    | cons _ h2 =>
      obtain ⟨v, e1, h3⟩ := DtAll.get (i := i) h2 (by simpa using e)
      exact ⟨v, by simpa using e1, h3⟩
theorem DtAll.getV : ∀ {ds : List PyData} {vs : List V} {i : Nat} {v : V}, DtAll K H vs ds → vs[i]? = some v → ∃ d, ds[i]? = some d ∧ Dt K H v d
  | [], _, _, _, h, e => by cases h; simp at e
  | d :: ds, _, 0, _, h, e => by
    cases h with
    | cons h1 _ =>
      simp at e
      subst e
      exact ⟨_, rfl, h1⟩
  | d :: ds, _, i + 1, _, h, e => by
    cases h with
    | cons _ h2 =>
      obtain ⟨v, e1, h3⟩ := DtAll.getV (i := i) h2 (by simpa using e)
      exact ⟨v, by simpa using e1, h3⟩
theorem DtAll.app : ∀ {ds es : List PyData} {vs us : List V}, DtAll K H vs ds → DtAll K H us es → DtAll K H (vs ++ us) (ds ++ es)
  | [], _, _, _, h, k => by cases h; exact k
  | d :: ds, _, _, _, h, k => by
    cases h with
    | cons h1 h2 => exact .cons h1 (DtAll.app h2 k)
theorem DtAll.drop : ∀ {ds : List PyData} {vs : List V} (n : Nat), DtAll K H vs ds → DtAll K H (vs.drop n) (ds.drop n)
  | _, _, 0, h => h
  | [], _, _ + 1, h => by cases h; exact .nil
  | d :: ds, _, n + 1, h => by
    cases h with
    | cons _ h2 => exact DtAll.drop n h2
theorem DtAll.take : ∀ {ds : List PyData} {vs : List V} (n : Nat), DtAll K H vs ds → DtAll K H (vs.take n) (ds.take n)
  | _, _, 0, h => .nil
  | [], _, _ + 1, h => by cases h; exact .nil
  | d :: ds, _, n + 1, h => by
    cases h with
    | cons h1 h2 => exact .cons h1 (DtAll.take n h2)
theorem Dt.intE {v : V} {i : Int} (h : Dt K H v (.int i)) : v = .int i := by cases h; rfl
theorem Dt.strE {v : V} {i : Str} (h : Dt K H v (.str i)) : v = .str i := by cases h; rfl
theorem Dt.blE {v : V} {i : Bool} (h : Dt K H v (.bool i)) : v = .bl i := by cases h; rfl
theorem Dt.nonE {v : V} (h : Dt K H v .none) : v = .non := by cases h; rfl
theorem Dt.tupE {v : V} {ds : List PyData} (h : Dt K H v (.tuple ds)) : ∃ a xs, v = .ref a ∧ SqT K H a xs ∧ DtAll K H xs ds := by
  cases h with
  | tup h1 h2 => exact ⟨_, _, rfl, h1, h2⟩
end
theorem atI_map {α β : Type} {R : α → β → Prop} {xs : List α} {ys : List β} (hl : xs.length = ys.length) {i : Int} {y : β} (h : atI ys i = some y) (g : ∀ (j : Nat) y, ys[j]? = some y → ∃ x, xs[j]? = some x ∧ R x y) : ∃ x, atI xs i = some x ∧ R x y := by
  unfold atI at h ⊢
  rw [hl]
  cases e : ixN ys.length i with
  | none => rw [e] at h; cases h
  | some j =>
    rw [e] at h
    obtain ⟨x, h1, h2⟩ := g j y h
    exact ⟨x, h1, h2⟩

/-! ### steps over data -/
section
variable {c : Cd} {σ : L2.St} {H : Hp} {Q : VK} {pos : Pos} {x y : V}
theorem ro_add {i j : Int} (q : Q (.int (i + j)) H) : RO c .Add (.int i) (.int j) H Q := ro_of (fun _ _ => op_add) ⟨i, j, rfl, rfl, q⟩
theorem ro_sub {i j : Int} (q : Q (.int (i - j)) H) : RO c .Sub (.int i) (.int j) H Q := ro_of (fun _ _ => op_sub) ⟨i, j, rfl, rfl, q⟩
theorem ro_mul {i j : Int} (hc : CMul i j) (q : Q (.int (i * j)) H) : RO c .Mult (.int i) (.int j) H Q := ro_of (fun _ _ => op_mul) ⟨i, j, rfl, rfl, hc, q⟩
theorem ro_mod {i j : Int} (hc : 0 < j) (q : Q (.int (i % j)) H) : RO c .Mod (.int i) (.int j) H Q := ro_of (fun _ _ => op_mod) ⟨i, j, rfl, rfl, hc, q⟩
theorem ro_div {i j : Int} (hc : 0 < j) (h2 : j < 1073741824) (q : Q (.int (i / j)) H) : RO c .FloorDiv (.int i) (.int j) H Q := ro_of (fun _ _ => op_fdiv) ⟨i, j, rfl, rfl, ⟨hc, h2⟩, q⟩
theorem ro_pow {i j : Int} (hc : CPow i j) (q : Q (.int (i ^ j.toNat)) H) : RO c .Pow (.int i) (.int j) H Q := ro_of (fun _ _ => op_pow) ⟨i, j, rfl, rfl, hc, q⟩
theorem ro_eq (hs : scal x y = true) (q : Q (.bl (decide (x = y))) H) : RQ c .Eq x y H Q := rq_of (fun _ _ => op_eq) ⟨hs, q⟩
theorem ro_ne (hs : scal x y = true) (q : Q (.bl (!decide (x = y))) H) : RQ c .NotEq x y H Q := rq_of (fun _ _ => op_ne) ⟨hs, q⟩
theorem ro_eqI {i j : Int} (q : Q (.bl (decide (i = j))) H) : RQ c .Eq (.int i) (.int j) H Q := ro_eq rfl (by
  have e : decide (V.int i = V.int j) = decide (i = j) := decide_eq_decide.mpr ⟨fun h => V.int.inj h, fun h => by rw [h]⟩
  rw [e]; exact q)
theorem ro_neI {i j : Int} (q : Q (.bl (!decide (i = j))) H) : RQ c .NotEq (.int i) (.int j) H Q := ro_ne rfl (by
  have e : decide (V.int i = V.int j) = decide (i = j) := decide_eq_decide.mpr ⟨fun h => V.int.inj h, fun h => by rw [h]⟩
  rw [e]; exact q)
theorem ro_eqS {i j : Str} (q : Q (.bl (decide (i = j))) H) : RQ c .Eq (.str i) (.str j) H Q := ro_eq rfl (by
  have e : decide (V.str i = V.str j) = decide (i = j) := decide_eq_decide.mpr ⟨fun h => V.str.inj h, fun h => by rw [h]⟩
  rw [e]; exact q)
theorem ro_eqB {i j : Bool} (q : Q (.bl (decide (i = j))) H) : RQ c .Eq (.bl i) (.bl j) H Q := ro_eq rfl (by
  have e : decide (V.bl i = V.bl j) = decide (i = j) := decide_eq_decide.mpr ⟨fun h => V.bl.inj h, fun h => by rw [h]⟩
  rw [e]; exact q)
theorem ro_lt {i j : Int} (q : Q (.bl (decide (i < j))) H) : RQ c .Lt (.int i) (.int j) H Q := rq_of (fun _ _ => op_lt) ⟨i, j, rfl, rfl, q⟩
theorem ro_le {i j : Int} (q : Q (.bl (decide (i ≤ j))) H) : RQ c .LtE (.int i) (.int j) H Q := rq_of (fun _ _ => op_le) ⟨i, j, rfl, rfl, q⟩
theorem ro_gt {i j : Int} (q : Q (.bl (decide (j < i))) H) : RQ c .Gt (.int i) (.int j) H Q := rq_of (fun _ _ => op_gt) ⟨i, j, rfl, rfl, q⟩
theorem ro_ge {i j : Int} (q : Q (.bl (decide (j ≤ i))) H) : RQ c .GtE (.int i) (.int j) H Q := rq_of (fun _ _ => op_ge) ⟨i, j, rfl, rfl, q⟩
theorem ro_isN (q : Q (.bl (decide (x = .non))) H) : RQ c .Is x .non H Q := rq_of (fun _ _ => op_isN) ⟨rfl, q⟩
theorem ro_notN (q : Q (.bl (!decide (x = .non))) H) : RQ c .IsNot x .non H Q := rq_of (fun _ _ => op_notN) ⟨rfl, q⟩
theorem ru_neg {i : Int} (q : Q (.int (-i)) H) : RU c .USub (.int i) H Q := ru_of (fun _ _ => un_neg) ⟨i, rfl, q⟩
/-- == of data -/
theorem ro_eqD {d e : PyData} (hx : Dp c.K H x d) (hy : Dp c.K H y e) (s1 : SeqAt.shaped d = true) (s2 : SeqAt.shaped e = true) (q : Q (.bl (PyData.eqv d e)) H) : RQ c .Eq x y H Q :=
  rq_of (r := rEqD c.K) (fun X h => by rw [← h.K]; exact op_eqD h.room.units) ⟨d, e, hx, hy, s1, s2, q⟩
theorem ro_neD {d e : PyData} (hx : Dp c.K H x d) (hy : Dp c.K H y e) (s1 : SeqAt.shaped d = true) (s2 : SeqAt.shaped e = true) (q : Q (.bl (!PyData.eqv d e)) H) : RQ c .NotEq x y H Q :=
  rq_of (r := rNeD c.K) (fun X h => by rw [← h.K]; exact op_neD h.room.units) ⟨d, e, hx, hy, s1, s2, q⟩
/-- x[i] of a tuple of data -/
theorem rx_tup {ds : List PyData} {i : Int} {d : PyData} (hx : Dt c.K H x (.tuple ds)) (hi : atI ds i = some d) (q : ∀ v, Dt c.K H v d → Q v H) : RX c x (.int i) H Q := by
  obtain ⟨a, xs, rfl, ht, ha⟩ := hx.tupE
  obtain ⟨v, h1, h2⟩ := atI_map (R := fun v d => Dt c.K H v d) ha.len hi fun j y hj => ha.get hj
  exact rx_of (r := rIxT c.K) (fun X h => by rw [← h.K]; exact ix_tup) ⟨a, xs, i, v, rfl, rfl, ht, h1, q v h2⟩
theorem rx_int {ds : List PyData} {i n : Int} (hx : Dt c.K H x (.tuple ds)) (hi : atI ds i = some (.int n)) (q : Q (.int n) H) : RX c x (.int i) H Q := rx_tup hx hi fun v h => by rw [h.intE]; exact q
theorem rx_str {ds : List PyData} {i : Int} {n : Str} (hx : Dt c.K H x (.tuple ds)) (hi : atI ds i = some (.str n)) (q : Q (.str n) H) : RX c x (.int i) H Q := rx_tup hx hi fun v h => by rw [h.strE]; exact q
theorem rx_bl {ds : List PyData} {i : Int} {n : Bool} (hx : Dt c.K H x (.tuple ds)) (hi : atI ds i = some (.bool n)) (q : Q (.bl n) H) : RX c x (.int i) H Q := rx_tup hx hi fun v h => by rw [h.blE]; exact q
/-- xs[i] of a list -/
theorem rx_list {p : Addr} {xs : List V} {i : Int} {v : V} (hx : SqL c.K H p xs) (hi : atI xs i = some v) (q : Q v H) : RX c (.ref p) (.int i) H Q :=
  rx_of (r := rIxL c.K) (fun X h => by rw [← h.K]; exact ix_list) ⟨p, xs, i, v, rfl, rfl, hx, hi, q⟩
/-- (a, b, ..), data -/
theorem e_tupD {es : List Expr} {x1} (q : RA c es σ H fun xs H1 => ∃ ds, DtAll c.K H1 xs ds ∧ xs.length ≤ 1000 ∧ ∀ v H2, Same H1 H2 → Dt c.K H2 v (.tuple ds) → Q v H2) : RE c (.Tuple es x1 pos) σ H Q :=
  e_tup (RA.mono (fun xs H1 z => by
    obtain ⟨ds, h1, h2, h3⟩ := z
    exact ⟨Nat.le_trans h2 (by decide), fun p hp => h3 _ _ (same_new hp) (.tup (.of upd_same) (h1.mono (tp_same (same_new hp))))⟩) q)
/-! calls -/
/-- a def that changes nothing: R tells what it answers -/
def spF (R : List PyData → PyData → Prop) (K : PySem.W.Frag) : Sp := fun vs H Q _ => ∃ ds d, DtAll K H vs ds ∧ R ds d ∧ ∀ v H', Same H H' → Dt K H' v d → Q v H'
theorem e_callF {x : Str} {p : Pos} {e : Expr} {es : List Expr} {ps : List Str} {k : Nat} {R : List PyData → PyData → Prop} (D : Dc c.toMd x ps k (spF R c.K)) (q : RA c (e :: es) σ H fun vs H1 => ∃ ds d, DtAll c.K H1 vs ds ∧ R ds d ∧ ∀ v H', Same H1 H' → Dt c.K H' v d → Q v H') (hk : k ≤ c.k := by exact Nat.le_of_ble_eq_true rfl) (hg : c.sc.names.lookup x = some .globalImplicit := by rfl)
    (hdb : (x == ("__debug__" : Str)) = false := by decide) (he : ∀ env, starEach (e :: es) env = (false, eval e env) :: starEach es env := by intro _; rfl) (hpl : ∀ env, (backTo pos (starEach es env)).any (·.1) = false := by intro _; rfl) :
    RE c (.Call (.Name x p) (e :: es) [] pos) σ H Q := e_call D q hk hg hdb he hpl
theorem rc_max2 {i j : Int} (q : Q (.int (if j > i then j else i)) H) : RC c (.builtin "max") [.int i, .int j] H Q := rc_of (fun X h => call_max2 h.calm) ⟨i, j, rfl, q⟩
theorem rc_min2 {i j : Int} (q : Q (.int (if j < i then j else i)) H) : RC c (.builtin "min") [.int i, .int j] H Q := rc_of (fun X h => call_min2 h.calm) ⟨i, j, rfl, q⟩
theorem rc_intI {i : Int} (q : Q (.int i) H) : RC c (.type "int") [.int i] H Q := rc_of (fun X h => call_int1) (.inl ⟨i, rfl, q⟩)
theorem rc_intB {k : Bool} (q : Q (.int (if k then 1 else 0)) H) : RC c (.type "int") [.bl k] H Q := rc_of (fun X h => call_int1) (.inr ⟨k, rfl, q⟩)
theorem rc_lenL {p : Addr} {xs : List V} (h : SqL c.K H p xs) (q : Q (.int xs.length) H) : RC c (.builtin "len") [.ref p] H Q := rc_of (r := fun xs H Q => ∃ p ys, xs = [.ref p] ∧ (SqL c.K H p ys ∨ SqT c.K H p ys) ∧ Q (.int ys.length) H) (fun X h => by rw [← h.K]; exact call_len_seq) ⟨p, xs, rfl, .inl h, q⟩
theorem rc_lenT {ds : List PyData} (h : Dt c.K H x (.tuple ds)) (q : Q (.int ds.length) H) : RC c (.builtin "len") [x] H Q := by
  obtain ⟨a, xs, rfl, ht, ha⟩ := h.tupE
  refine rc_of (r := fun xs H Q => ∃ p ys, xs = [.ref p] ∧ (SqL c.K H p ys ∨ SqT c.K H p ys) ∧ Q (.int ys.length) H) (fun X h => by rw [← h.K]; exact call_len_seq) ⟨a, xs, rfl, .inr ht, ?_⟩
  rw [ha.len]; exact q
end

/-! ### a def -/
section
variable {P : Program} {w : World} {K : PySem.W.Frag} {mg : Str → Option Value} {base : Heap}
theorem is_cx {M : Md} {N : List Str} {qual : Str} {sc : Scope} {f : Addr} {cdv : Value} {A : Around} {outer : List Env} {s : Shared} {H : Hp} {E : XK} {k : Nat} {g : Bool} (hn : N.Nodup) (hg : g = true → A.guards = some []) (hr : Room k (A.deeper (envOfC qual sc s.heap.objs.size f cdv))) :
    Is ⟨M, N, sc, k, true, g, none⟩ (cxOf CX0 M.prog M.w M.K M.mg M.base N qual sc f cdv A outer s H E).nox :=
  ⟨rfl, rfl, rfl, rfl, rfl, rfl, rfl, rfl, hr, fun _ _ => rfl, PassesOwn.never, hn, hg, fun _ _ z => nomatch z⟩
theorem fn_ok {M : Md} {x qual : Str} {st : Stmt} {f : Addr} {fd : FuncData} {N ps : List Str} {k : Nat} {sp : Sp} (F : Fun M.K x qual st f fd) (S : FnScope N ps (defScope st)) (len : ∀ vs H Q E, sp vs H Q E → vs.length = ps.length)
    (body : ∀ (H : Hp) (vs : List V) (Q : VK) (E : XK), sp vs H Q E → RB ⟨M, N, defScope st, k, true, false, none⟩ (defBody st) { nx := fun _ H' => Q .non H', rt := Q } (start N vs) H) : FnG M.prog M.w M.K M.mg M.base CX0 (k + 1) f fd ps sp :=
  F.ok S len fun cdv A outer s H vs Q E hr h => ⟨RB ⟨M, N, defScope st, k, true, false, none⟩ (defBody st), ps_rb (is_cx S.nd (fun z => Bool.noConfusion z) hr), body H vs Q E h⟩
theorem fn_okQ {M : Md} {x qual : Str} {st : Stmt} {f : Addr} {fd : FuncData} {N ps : List Str} {k : Nat} {sp : Sp} (F : Fun M.K x qual st f fd) (S : FnScope N ps (defScope st)) (len : ∀ vs H Q E, sp vs H Q E → vs.length = ps.length)
    (body : ∀ (H : Hp) (vs : List V) (Q : VK) (E : XK), sp vs H Q E → RB ⟨M, N, defScope st, k, true, true, none⟩ (defBody st) { nx := fun _ H' => Q .non H', rt := Q } (start N vs) H) : FnQ M.prog M.w M.K M.mg M.base CX0 (k + 1) f fd ps sp := by
  obtain ⟨oc, od, kV, doc, pm, an, cdv, ct, osl, rfl, at_, cod⟩ := F.ex
  exact fnQ_of at_ cod S len fun A up s H vs Q E hg hr h => ⟨RB ⟨M, N, defScope st, k, true, true, none⟩ (defBody st), (ps_rb (is_cx S.nd (fun _ => hg) hr)).nox, body H vs Q E h⟩
end
end G
namespace G
open PySem PySem.Spec PyProof.Rows L2
theorem ifd {p A B : Prop} [Decidable p] (h1 : p → A) (h2 : ¬ p → B) : if decide p = true then A else B := by
  by_cases h : p
  · rw [if_pos (decide_eq_true h)]; exact h1 h
  · rw [if_neg (by simp [h])]; exact h2 h
theorem ifnd {p A B : Prop} [Decidable p] (h1 : ¬ p → A) (h2 : p → B) : if (!decide p) = true then A else B := by
  by_cases h : p
  · rw [if_neg (by simp [h])]; exact h2 h
  · rw [if_pos (by simp [h])]; exact h1 h
theorem ifT {p A B : Prop} [Decidable p] (h : p) (a : A) : if decide p = true then A else B := by rw [if_pos (decide_eq_true h)]; exact a
theorem ifF {p A B : Prop} [Decidable p] (h : ¬ p) (b : B) : if decide p = true then A else B := by rw [if_neg (by simp [h])]; exact b
theorem ifnT {p A B : Prop} [Decidable p] (h : ¬ p) (a : A) : if (!decide p) = true then A else B := by rw [if_pos (by simp [h])]; exact a
theorem ifnF {p A B : Prop} [Decidable p] (h : p) (b : B) : if (!decide p) = true then A else B := by rw [if_neg (by simp [h])]; exact b
theorem ifb {k : Bool} {A B : Prop} (h1 : k = true → A) (h2 : k = false → B) : if k = true then A else B := by
  cases k with
  | true => exact h1 rfl
  | false => exact h2 rfl
end G
namespace G
open PySem PySem.Spec PyProof.Rows L2
section
variable {c : Cd} {σ : L2.St} {H : Hp} {Q : VK} {pos : Pos} {x y : V}
/-- d[k] with a written text -/
theorem e_dgetS {a : Expr} {s : Str} {j : Nat} {p2 : Pos} (q : RE c a σ H fun x H1 => ∃ p kvs v, x = .ref p ∧ H1 p = some (.dK kvs) ∧ valV kvs (Sum.inr s) = some v ∧ Q v H1) (hs : NoSl (.Constant (.str s) j p2) := by intro _ _; rfl) : RE c (.Subscript a (.Constant (.str s) j p2) pos) σ H Q :=
  e_dget (RE.mono (fun x H1 z => e_str (by
    obtain ⟨p, kvs, v, rfl, h, e, q⟩ := z
    refine ⟨p, v, rfl, ?_, q⟩
    rw [← e]; exact DGet.k (k := Sum.inr s) h)) q) hs
theorem e_dgetK {a b : Expr} (q : RE c a σ H fun x H1 => RE c b σ H1 fun y H2 => ∃ p kvs k v, x = .ref p ∧ H2 p = some (.dK kvs) ∧ y = kV k ∧ valV kvs k = some v ∧ Q v H2) (hs : NoSl b := by intro _ _; rfl) : RE c (.Subscript a b pos) σ H Q :=
  e_dget (RE.mono (fun x H1 z => RE.mono (fun y H2 z => by
    obtain ⟨p, kvs, k, v, rfl, h, rfl, e, q⟩ := z
    refine ⟨p, v, rfl, ?_, q⟩
    rw [← e]; exact DGet.k h) z) q) hs
variable {nx : L2.St → Hp → Prop} {rt : VK} {bk ct : L2.St → Hp → Prop}
theorem s_dputS {a e : Expr} {s : Str} {j : Nat} {p2 p3 : Pos} (q : RE c e σ H fun v H1 => RE c a σ H1 fun x H2 => ∃ p kvs, x = .ref p ∧ H2 p = some (.dK kvs) ∧ kvs.length < 1000 ∧ nx σ (upd H2 p (.dK (putK kvs (Sum.inr s) v))))
    (hs : ∀ env, swapsWith e (some (.Subscript a (.Constant (.str s) j p2) p3)) pos.line env = pure false := by intro _; rfl) : RS c (.Assign [.Subscript a (.Constant (.str s) j p2) p3] e pos) ⟨nx, rt, bk, ct⟩ σ H :=
  s_dput (RE.mono (fun v H1 z => RE.mono (fun x H2 z => e_str (by
    obtain ⟨p, kvs, rfl, h, l, q⟩ := z
    exact ⟨p, _, rfl, DPut.k (k := Sum.inr s) h (Nat.lt_trans l (by decide)), q⟩)) z) q) hs
end

/-! ### the law's source of draws: a dict of four things -/
def fkv (a : V) (b d e : Int) : List (Key × V) := [(Sum.inr "cells", a), (Sum.inr "next", .int b), (Sum.inr "rest", .int d), (Sum.inr "draws", .int e)]
theorem fkv_len (a : V) (b d e : Int) : (fkv a b d e).length = 4 := rfl
theorem n01 : ¬ (Sum.inr ("cells" : Str) : Key) = Sum.inr ("next" : Str) := by decide +kernel
theorem n02 : ¬ (Sum.inr ("cells" : Str) : Key) = Sum.inr ("rest" : Str) := by decide +kernel
theorem n03 : ¬ (Sum.inr ("cells" : Str) : Key) = Sum.inr ("draws" : Str) := by decide +kernel
theorem n12 : ¬ (Sum.inr ("next" : Str) : Key) = Sum.inr ("rest" : Str) := by decide +kernel
theorem n13 : ¬ (Sum.inr ("next" : Str) : Key) = Sum.inr ("draws" : Str) := by decide +kernel
theorem n23 : ¬ (Sum.inr ("rest" : Str) : Key) = Sum.inr ("draws" : Str) := by decide +kernel
theorem fkv_0 {a : V} {b d e : Int} : valV (fkv a b d e) (Sum.inr "cells") = some a := valV_pos rfl
theorem fkv_1 {a : V} {b d e : Int} : valV (fkv a b d e) (Sum.inr "next") = some (.int b) := by rw [fkv, valV_neg n01]; exact valV_pos rfl
theorem fkv_2 {a : V} {b d e : Int} : valV (fkv a b d e) (Sum.inr "rest") = some (.int d) := by rw [fkv, valV_neg n02, valV_neg n12]; exact valV_pos rfl
theorem fkv_3 {a : V} {b d e : Int} : valV (fkv a b d e) (Sum.inr "draws") = some (.int e) := by rw [fkv, valV_neg n03, valV_neg n13, valV_neg n23]; exact valV_pos rfl
theorem fput_1 {a : V} {b d e x : Int} : putK (fkv a b d e) (Sum.inr "next") (.int x) = fkv a x d e := by
  unfold putK
  rw [valV_any, fkv_1, Option.isSome_some, if_pos rfl]
  simp only [fkv, List.map_cons, List.map_nil, if_neg n01, if_pos, if_neg (fun h => n12 (Eq.symm h)), if_neg (fun h => n13 (Eq.symm h))]
theorem fput_2 {a : V} {b d e x : Int} : putK (fkv a b d e) (Sum.inr "rest") (.int x) = fkv a b x e := by
  unfold putK
  rw [valV_any, fkv_2, Option.isSome_some, if_pos rfl]
  simp only [fkv, List.map_cons, List.map_nil, if_neg n02, if_neg n12, if_pos, if_neg (fun h => n23 (Eq.symm h))]
theorem fput_3 {a : V} {b d e x : Int} : putK (fkv a b d e) (Sum.inr "draws") (.int x) = fkv a b d x := by
  unfold putK
  rw [valV_any, fkv_3, Option.isSome_some, if_pos rfl]
  simp only [fkv, List.map_cons, List.map_nil, if_neg n03, if_neg n13, if_neg n23, if_pos]
def Feed (K : PySem.W.Frag) (H : Hp) (fd cl : Addr) : Prop := ∃ (ns : List Int) (b d e : Int), H fd = some (.dK (fkv (.ref cl) b d e)) ∧ H cl = some (.lst (ns.map V.int)) ∧ ns.length ≤ 63
theorem Feed.same {K : PySem.W.Frag} {H H' : Hp} {fd cl : Addr} (h : Feed K H fd cl) (s : Same H H') : Feed K H' fd cl := by
  obtain ⟨ns, b, d, e, h1, h2, h3⟩ := h
  exact ⟨ns, b, d, e, s _ _ h1, s _ _ h2, h3⟩
theorem Feed.upd {K : PySem.W.Frag} {H : Hp} {fd cl l : Addr} {o : HO} (h : Feed K H fd cl) (n1 : l ≠ fd) (n2 : l ≠ cl) : Feed K (upd H l o) fd cl := by
  obtain ⟨ns, b, d, e, h1, h2, h3⟩ := h
  exact ⟨ns, b, d, e, by rw [upd_ne (fun e => n1 e.symm)]; exact h1, by rw [upd_ne (fun e => n2 e.symm)]; exact h2, h3⟩
theorem kp_fd {H : Hp} {p : Addr} {kvs : List (Key × V)} {o' : HO} (h : H p = some (.dK kvs)) : Kp p H (upd H p o') := kp_upd h (fun _ e => nomatch e) fun _ _ e => nomatch e
/-- a def that draws: what it asks of its other arguments, what it may answer -/
def spD (Pre : List PyData → Prop) (R : List PyData → PyData → Prop) (K : PySem.W.Frag) : Sp := fun vs H Q _ => ∃ fd cl rest ds, vs = .ref fd :: rest ∧ Feed K H fd cl ∧ DtAll K H rest ds ∧ Pre ds ∧
  ∀ d v H', R ds d → Kp fd H H' → Feed K H' fd cl → Dt K H' v d → Q v H'
theorem spD_len {Pre : List PyData → Prop} {R : List PyData → PyData → Prop} {K : PySem.W.Frag} {n : Nat} (hp : ∀ ds, Pre ds → ds.length = n) : ∀ vs H Q E, spD Pre R K vs H Q E → vs.length = n + 1 := by
  rintro vs H Q E ⟨fd, cl, rest, ds, rfl, _, h, p, _⟩
  rw [List.length_cons, h.len, hp ds p]
end G

namespace G
open PySem PySem.Spec PyProof.Rows L2
structure Bl (M : Md) : Prop where
  len : M.mg "len" = none
  int : M.mg "int" = none
  max : M.mg "max" = none
  min : M.mg "min" = none
  range : M.mg "range" = none
  tuple : M.mg "tuple" = none
  list : M.mg "list" = none
  isinst : M.mg "isinstance" = none
  str : M.mg "str" = none
  bool : M.mg "bool" = none
  set : M.mg "set" = none
  dict : M.mg "dict" = none
  sorted : M.mg "sorted" = none
theorem dpInts {K : PySem.W.Frag} {H : Hp} : ∀ ns : List Int, DpAll K H (ns.map V.int) (ns.map PyData.int)
  | [] => .nil
  | n :: ns => .cons (.int n) (dpInts ns)
theorem shInts (ns : List Int) : SeqAt.shaped (.list (ns.map PyData.int)) = true := by
  have h : ∀ ns : List Int, PyData.canLayAll0 (ns.map PyData.int) = true ∧ PyData.depthAll (ns.map PyData.int) ≤ 1 := by
    intro ns
    induction ns with
    | nil => exact ⟨by simp [PyData.canLayAll0], by simp [PyData.depthAll]⟩
    | cons n ns ih => exact ⟨by simp [PyData.canLayAll0, PyData.canLay0, ih.1], by simp only [List.map_cons, PyData.depthAll, PyData.depth]; omega⟩
  show (PyData.canLay0 (.list _) && decide (PyData.depth (.list _) ≤ 64)) = true
  rw [Bool.and_eq_true]
  refine ⟨by simp only [PyData.canLay0]; exact (h ns).1, decide_eq_true ?_⟩
  simp only [PyData.depth]
  have := (h ns).2
  omega
theorem pl_at {α : Type} {xs : List α} {z : Int} {j : Nat} {v : α} (e : z = (j : Int)) (h : xs[j]? = some v) : atI xs z = some v := by
  rw [e]
  exact atI_nat h
end G

namespace G
open PySem PySem.Spec PyProof.Rows L2
/-! ### comprehensions -/
abbrev blkCd (c : Cd) (scope : Scope) : Cd := ⟨c.toMd, c.N, relS scope c.sc, c.k, false, c.g, none⟩
theorem is_blk {c : Cd} {X : Cx} (h : Is c X) {scope : Scope} (s : Shared) (H : Hp) (C : Addr) (cl : List (Str × Addr)) (fp : List Addr) : Is (blkCd c scope) (X.blk s H scope (compEnvC scope cl C X.env) fp) := by
  refine ⟨h.prog, h.w, h.K, h.mg, h.base, h.N, ?_, h.calm, h.room, (fun z => Bool.noConfusion z), PassesOwn.never, h.nd, h.gd, fun _ _ z => nomatch z⟩
  show relS scope X.env.scope = relS scope c.sc
  rw [h.sc]
section
variable {c : Cd} {σ : L2.St} {H : Hp} {Q : VK} {pos : Pos} {x y : V}
theorem ts_nil {Q : Bool → Hp → Prop} (q : Q true H) : RTs c [] σ H Q := rts_of (fun _ _ => pts_nil) q
theorem ts_one {Q : Bool → Hp → Prop} {e : Expr} (q : RT c e σ H Q) : RTs c [e] σ H Q := rts_of (fun _ h => pts_one (pt_rt h)) q
/-- what is asked of a comprehension's block -/
structure Blk (c : Cd) (scope : Scope) (own : List (Str × Nat)) : Prop where
  ok : BlkOk c.N c.sc scope own
theorem Blk.of {c : Cd} {scope : Scope} {own : List (Str × Nat)} {N : List Str} {sc : Scope} (h1 : c.N = N) (h2 : c.sc = sc) (h : blkC N sc scope own = true) : Blk c scope own := ⟨by rw [h1, h2]; exact blkOk_by h⟩
theorem e_lc {elt tg iter : Expr} {ifs : List Expr} {scope : Scope} {own : List (Str × Nat)} (ok : Blk c scope own)
    (q : tLc (RI c tg iter) (RG (blkCd c scope) tg) (RTs (blkCd c scope) ifs) (RE (blkCd c scope) elt) (own.map (·.2)) σ H Q) (hs : ∀ env x, foldedSetIterable iter env x = pure x := by intro _ _; rfl) : RE c (.ListComp elt [⟨tg, iter, ifs, 0⟩] scope pos) σ H Q :=
  re_of (fun X h => pe_lc h.calm (by rw [h.N]; exact h.nd) (pi_ri h) (by rw [h.N, h.sc]; exact ok.ok) (fun s H C cl fp => pg_rg (is_blk h s H C cl fp)) (fun s H C cl fp => pts_rts (is_blk h s H C cl fp)) (fun s H C cl fp => pe_re (is_blk h s H C cl fp)) (hs _)) q
theorem s_setLc {nx : L2.St → Hp → Prop} {rt : VK} {bk ct : L2.St → Hp → Prop} {i : Nat} {y : Str} {py : Pos} {elt tg iter : Expr} {ifs : List Expr} {scope : Scope} {own : List (Str × Nat)} {spos : Pos} (hA : At c.N i y) (ok : Blk c scope own)
    (q : tLc (RI c tg iter) (RG (blkCd c scope) tg) (RTs (blkCd c scope) ifs) (RE (blkCd c scope) elt) (own.map (·.2)) σ H fun v H1 => nx (σ.set i (some v)) H1)
    (hy : c.sc.names.lookup y = some .local := by rfl) (hl : (py.line == pos.line) = true := by rfl) (ha : (scope.names.any fun (n, k) => n == y && (k == .local || k == .cell)) = false := by rfl) (hf : c.sc.kind = .function := by rfl) (hs : ∀ env x, foldedSetIterable iter env x = pure x := by intro _ _; rfl) :
    RS c (.Assign [.Name y py] (.ListComp elt [⟨tg, iter, ifs, 0⟩] scope pos) spos) ⟨nx, rt, bk, ct⟩ σ H :=
  rs_of (c := c) (σ := σ) (H := H) (D := ⟨nx, rt, bk, ct⟩) (t := tAsg (tLc (RI c tg iter) (RG (blkCd c scope) tg) (RTs (blkCd c scope) ifs) (RE (blkCd c scope) elt) (own.map (fun p : Str × Nat => p.2))) (gName i)) (fun X h => ps_setLc h.calm (by rw [h.N]; exact h.nd) (by rw [h.N]; exact hA.get) (by rw [h.sc]; exact hy)
    (sw_true (by rw [h.sc]; exact hf) (by rw [h.sc]; exact hy) hl ha) (pi_ri h) (by rw [h.N, h.sc]; exact ok.ok) (fun s H C cl fp => pg_rg (is_blk h s H C cl fp)) (fun s H C cl fp => pts_rts (is_blk h s H C cl fp)) (fun s H C cl fp => pe_re (is_blk h s H C cl fp)) (hs _)) q

/-- a turn of a comprehension, with a word Pv: what the turn, the collected values and the heap are -/
def Turn1 (cB : Cd) (tg : Expr) (ifs : List Expr) (elt : Expr) (vs : List Nat) (σ : L2.St) (D : Addr) (x : V) (H' : Hp) (acc : List V) (Nx : List V → Hp → Prop) : Prop :=
  RG cB tg x (wipe σ vs) H' fun σ2 H2 => wipe σ2 vs = wipe σ vs ∧ RTs cB ifs σ2 H2 fun b H3 => if b = true then RE cB elt σ2 H3 fun y H4 => H4 D = some (.lst acc) ∧ Nx (acc ++ [y]) (upd H4 D (.lst (acc ++ [y]))) else Nx acc H3
section
variable {elt tg iter : Expr} {ifs : List Expr} {scope : Scope} {vs : List Nat}
/-- over a tuple -/
theorem lc_T (q : RE c iter σ H fun x H1 => ∃ a xs, x = .ref a ∧ SqT c.K H1 a xs ∧ xs.length ≤ 1000 ∧ ∀ D, H1 D = none → ∃ Pv : Nat → List V → Hp → Prop, Pv 0 [] (upd H1 D (.lst [])) ∧ (∀ i acc H', i ≤ xs.length → Pv i acc H' → SqT c.K H' a xs ∧ acc.length ≤ i) ∧
      (∀ i x acc H', xs[i]? = some x → Pv i acc H' → Turn1 (blkCd c scope) tg ifs elt vs σ D x H' acc (Pv (i + 1))) ∧ ∀ acc H', Pv xs.length acc H' → Q (.ref D) H') :
    tLc (RI c tg iter) (RG (blkCd c scope) tg) (RTs (blkCd c scope) ifs) (RE (blkCd c scope) elt) vs σ H Q := by
  refine i_tup (RE.mono (fun x H1 z => ?_) q)
  obtain ⟨a, xs, rfl, ht, hl, z⟩ := z
  refine ⟨a, rfl, ⟨xs, ht⟩, fun D hD => ?_⟩
  obtain ⟨Pv, p0, pk, pt, pe⟩ := z D hD
  refine lc_tup (xs := xs) (fun i H' => ∃ acc, Pv i acc H') ⟨_, p0⟩ (fun i H' hi ⟨acc, p⟩ => (pk i acc H' hi p).1) (fun i x H' hx ⟨acc, p⟩ => ?_) fun H' ⟨acc, p⟩ => pe acc H' p
  have hi : i < xs.length := (List.getElem?_eq_some_iff.mp hx).1
  have la := (pk i acc H' (Nat.le_of_lt hi) p).2
  refine RG.mono (fun σ2 H2 z => ?_) (pt i x acc H' hx p)
  refine ⟨z.1, RTs.mono (fun b H3 z => ?_) z.2⟩
  cases b with
  | true => exact RE.mono (fun y H4 z => ⟨acc, z.1, Nat.lt_of_le_of_lt la (Nat.lt_of_lt_of_le hi (Nat.le_trans hl (by decide))), _, z.2⟩) z
  | false => exact ⟨_, z⟩
/-- over a list -/
theorem lc_L (q : RE c iter σ H fun x H1 => ∃ a xs, x = .ref a ∧ SqL c.K H1 a xs ∧ xs.length ≤ 1000 ∧ ∀ D, H1 D = none → ∃ Pv : Nat → List V → Hp → Prop, Pv 0 [] (upd H1 D (.lst [])) ∧ (∀ i acc H', i ≤ xs.length → Pv i acc H' → SqL c.K H' a xs ∧ acc.length ≤ i) ∧
      (∀ i x acc H', xs[i]? = some x → Pv i acc H' → Turn1 (blkCd c scope) tg ifs elt vs σ D x H' acc (Pv (i + 1))) ∧ ∀ acc H', Pv xs.length acc H' → Q (.ref D) H') :
    tLc (RI c tg iter) (RG (blkCd c scope) tg) (RTs (blkCd c scope) ifs) (RE (blkCd c scope) elt) vs σ H Q := by
  refine i_list (RE.mono (fun x H1 z => ?_) q)
  obtain ⟨a, xs, rfl, ht, hl, z⟩ := z
  refine ⟨a, rfl, ⟨xs, ht⟩, fun D hD => ?_⟩
  obtain ⟨Pv, p0, pk, pt, pe⟩ := z D hD
  refine lc_list (xs := xs) (fun i H' => ∃ acc, Pv i acc H') ⟨_, p0⟩ (fun i H' hi ⟨acc, p⟩ => (pk i acc H' hi p).1) (fun i x H' hx ⟨acc, p⟩ => ?_) fun H' ⟨acc, p⟩ => pe acc H' p
  have hi : i < xs.length := (List.getElem?_eq_some_iff.mp hx).1
  have la := (pk i acc H' (Nat.le_of_lt hi) p).2
  refine RG.mono (fun σ2 H2 z => ?_) (pt i x acc H' hx p)
  refine ⟨z.1, RTs.mono (fun b H3 z => ?_) z.2⟩
  cases b with
  | true => exact RE.mono (fun y H4 z => ⟨acc, z.1, Nat.lt_of_le_of_lt la (Nat.lt_of_lt_of_le hi (Nat.le_trans hl (by decide))), _, z.2⟩) z
  | false => exact ⟨_, z⟩
/-- over range(a, b) -/
theorem lc_R2 {a b : Expr} {p ppos : Pos} (hm : c.mg "range" = none) (q : RE c a σ H fun x H1 => RE c b σ H1 fun y H2 => ∃ i j : Int, x = .int i ∧ y = .int j ∧ (-1000 ≤ i ∧ i ≤ 1000) ∧ (-1000 ≤ j ∧ j ≤ 1000) ∧ ∀ D, H2 D = none → ∃ Pv : Nat → List V → Hp → Prop, Pv 0 [] (upd H2 D (.lst [])) ∧ (∀ t acc H', Pv t acc H' → acc.length ≤ t) ∧
      (∀ t acc H', t < (j - i).toNat → Pv t acc H' → Turn1 (blkCd c scope) tg ifs elt vs σ D (.int (i + t)) H' acc (Pv (t + 1))) ∧ ∀ acc H', Pv (j - i).toNat acc H' → Q (.ref D) H')
    (hg : c.sc.names.lookup ("range" : Str) = some .globalImplicit := by rfl) (hs : ∀ env, starEach [a, b] env = [(false, eval a env), (false, eval b env)] := by intro _; rfl) (hs2 : ∀ env, starEach [b] env = [(false, eval b env)] := by intro _; rfl) :
    tLc (RI c tg (.Call (.Name "range" p) [a, b] [] ppos)) (RG (blkCd c scope) tg) (RTs (blkCd c scope) ifs) (RE (blkCd c scope) elt) vs σ H Q := by
  refine i_range2 hm (a_cons (RE.mono (fun x H1 z => a_cons (RE.mono (fun y H2 z => a_nil ?_) z) (fun env => by rw [hs2]; rfl)) q) (fun env => by rw [hs, hs2])) hg hs hs2
  obtain ⟨i, j, rfl, rfl, h1, h2, z⟩ := z
  refine ⟨i, j, rfl, ⟨by omega, by omega, by omega, by omega⟩, fun D hD => ?_⟩
  obtain ⟨Pv, p0, pk, pt, pe⟩ := z D hD
  refine lc_range (lo := i) (n := (j - i).toNat) (fun t H' => ∃ acc, Pv t acc H') ⟨_, p0⟩ (fun t H' ht ⟨acc, p⟩ => ?_) fun H' ⟨acc, p⟩ => pe acc H' p
  have la := pk t acc H' p
  refine RG.mono (fun σ2 H2 z => ?_) (pt t acc H' ht p)
  refine ⟨z.1, RTs.mono (fun b H3 z => ?_) z.2⟩
  cases b with
  | true => exact RE.mono (fun y H4 z => ⟨acc, z.1, Nat.lt_of_le_of_lt la (Nat.lt_of_lt_of_le ht (Nat.le_trans (show (j - i).toNat ≤ 2000 by omega) (by decide))), _, z.2⟩) z
  | false => exact ⟨_, z⟩
/-- over range(n) -/
theorem lc_R1 {a : Expr} {p ppos : Pos} (hm : c.mg "range" = none) (q : RE c a σ H fun y H2 => ∃ j : Int, y = .int j ∧ (-1000 ≤ j ∧ j ≤ 1000) ∧ ∀ D, H2 D = none → ∃ Pv : Nat → List V → Hp → Prop, Pv 0 [] (upd H2 D (.lst [])) ∧ (∀ t acc H', Pv t acc H' → acc.length ≤ t) ∧
      (∀ t acc H', t < j.toNat → Pv t acc H' → Turn1 (blkCd c scope) tg ifs elt vs σ D (.int t) H' acc (Pv (t + 1))) ∧ ∀ acc H', Pv j.toNat acc H' → Q (.ref D) H')
    (hg : c.sc.names.lookup ("range" : Str) = some .globalImplicit := by rfl) (hs : ∀ env, starEach [a] env = [(false, eval a env)] := by intro _; rfl) :
    tLc (RI c tg (.Call (.Name "range" p) [a] [] ppos)) (RG (blkCd c scope) tg) (RTs (blkCd c scope) ifs) (RE (blkCd c scope) elt) vs σ H Q := by
  refine i_range1 hm (a_cons (RE.mono (fun x H1 z => a_nil ?_) q) (fun env => by rw [hs]; rfl)) hg hs
  obtain ⟨j, rfl, h2, z⟩ := z
  refine ⟨j, rfl, by omega, by omega, fun D hD => ?_⟩
  obtain ⟨Pv, p0, pk, pt, pe⟩ := z D hD
  refine lc_range (lo := 0) (n := j.toNat) (fun t H' => ∃ acc, Pv t acc H') ⟨_, p0⟩ (fun t H' ht ⟨acc, p⟩ => ?_) fun H' ⟨acc, p⟩ => pe acc H' p
  have la := pk t acc H' p
  rw [Int.zero_add]
  refine RG.mono (fun σ2 H2 z => ?_) (pt t acc H' ht p)
  refine ⟨z.1, RTs.mono (fun b H3 z => ?_) z.2⟩
  cases b with
  | true => exact RE.mono (fun y H4 z => ⟨acc, z.1, Nat.lt_of_le_of_lt la (Nat.lt_of_lt_of_le ht (Nat.le_trans (show j.toNat ≤ 1000 by omega) (by decide))), _, z.2⟩) z
  | false => exact ⟨_, z⟩
/-- over a text's signs -/
theorem lc_S (q : RE c iter σ H fun x H1 => ∃ z : Str, x = .str z ∧ z.cps.size ≤ 1000 ∧ ∀ D, H1 D = none → ∃ Pv : Nat → List V → Hp → Prop, Pv 0 [] (upd H1 D (.lst [])) ∧ (∀ i acc H', Pv i acc H' → acc.length ≤ i) ∧
      (∀ i ch acc H', i < z.cps.size → Pv i acc H' → Turn1 (blkCd c scope) tg ifs elt vs σ D (.str ⟨#[ch]⟩) H' acc (Pv (i + 1))) ∧ ∀ acc H', Pv z.cps.size acc H' → Q (.ref D) H') :
    tLc (RI c tg iter) (RG (blkCd c scope) tg) (RTs (blkCd c scope) ifs) (RE (blkCd c scope) elt) vs σ H Q := by
  refine ri_of (t := iStr (RE c iter)) (fun X h => pi_str (pe_re h)) (RE.mono (fun x H1 z => ?_) q)
  obtain ⟨z, rfl, hl, w⟩ := z
  refine ⟨z, rfl, fun D hD => ?_⟩
  obtain ⟨Pv, p0, pk, pt, pe⟩ := w D hD
  refine ⟨fun i m H' => m = z.cps.size - i ∧ i ≤ z.cps.size ∧ ∃ acc, Pv i acc H', ⟨z.cps.size, by simp, Nat.zero_le _, _, p0⟩, ?_⟩
  rintro i m H' ⟨rfl, hi, acc, p⟩
  by_cases hlt : i < z.cps.size
  · refine .inr ⟨hlt, fun H' => ∃ acc, Pv (i + 1) acc H', fun H' p' => ⟨z.cps.size - (i + 1), by omega, rfl, hlt, p'⟩, fun x H2 yy => ?_⟩
    obtain ⟨e, ch, hc, rfl⟩ := yy
    subst e
    have la := pk i acc _ p
    refine RG.mono (fun σ2 H2 z => ?_) (pt i ch acc _ hlt p)
    refine ⟨z.1, RTs.mono (fun b H3 z => ?_) z.2⟩
    cases b with
    | true => exact RE.mono (fun y H4 z => ⟨acc, z.1, Nat.lt_of_le_of_lt la (Nat.lt_of_lt_of_le hlt (Nat.le_trans hl (by decide))), _, z.2⟩) z
    | false => exact ⟨_, z⟩
  · have e : i = z.cps.size := by omega
    subst e
    exact .inl ⟨Nat.le_refl _, pe acc H' p⟩
end
end

/-! ### comprehensions that change nothing: a function on data -/
section
variable {c : Cd} {σ : L2.St} {H : Hp} {Q : VK} {pos : Pos} {x y : V} {elt tg iter : Expr} {ifs : List Expr} {scope : Scope} {vs : List Nat}
/-- the pure turn -/
def TurnF (cB : Cd) (tg : Expr) (ifs : List Expr) (elt : Expr) (vs : List Nat) (σ : L2.St) (K : PySem.W.Frag) (x : V) (H' : Hp) (o : Option PyData) : Prop :=
  RG cB tg x (wipe σ vs) H' fun σ2 H2 => H2 = H' ∧ wipe σ2 vs = wipe σ vs ∧ RTs cB ifs σ2 H2 fun b H3 => Same H' H3 ∧ if b = true then RE cB elt σ2 H3 fun y H4 => Same H3 H4 ∧ ∃ e, o = some e ∧ Dt K H4 y e else o = none
theorem TurnF.one {cB : Cd} {σ : L2.St} {K : PySem.W.Frag} {x : V} {H1 H' : Hp} {o : Option PyData} {D : Addr} {acc : List V} {es : List PyData} (hD : H1 D = none) (s : Same H1 H') (ha : H' D = some (.lst acc)) (hd : DtAll K H' acc es) (t : TurnF cB tg ifs elt vs σ K x H' o) :
    Turn1 cB tg ifs elt vs σ D x H' acc fun acc' H2 => H2 D = some (.lst acc') ∧ Same H1 H2 ∧ DtAll K H2 acc' (es ++ o.toList) := by
  refine RG.mono (fun σ2 H2 z => ?_) t
  obtain ⟨rfl, z1, z2⟩ := z
  refine ⟨z1, RTs.mono (fun b H3 z => ?_) z2⟩
  obtain ⟨s3, z⟩ := z
  cases b with
  | true =>
    refine RE.mono (fun y H4 z => ?_) z
    obtain ⟨s4, e, rfl, he⟩ := z
    have aD := s4 _ _ (s3 _ _ ha)
    have k := kp_upd (o' := .lst (acc ++ [y])) aD (fun _ e => nomatch e) (fun _ _ e => nomatch e)
    exact ⟨aD, upd_same, same_mut (s.trans (s3.trans s4)) hD, ((hd.mono (tp_same (s3.trans s4))).mono k.t).app (.cons (he.mono k.t) .nil)⟩
  | false =>
    have z : o = none := z
    subst z
    exact ⟨s3 _ _ ha, s.trans s3, by rw [Option.toList_none, List.append_nil]; exact hd.mono (tp_same s3)⟩
theorem outs_step {g : PyData → Option PyData} {ds : List PyData} {i : Nat} {d : PyData} (h : ds[i]? = some d) : (ds.take i).filterMap g ++ (g d).toList = (ds.take (i + 1)).filterMap g := by
  obtain ⟨h1, rfl⟩ := List.getElem?_eq_some_iff.mp h
  rw [List.take_succ_eq_append_getElem h1, List.filterMap_append]
  congr 1
theorem lcT_F (g : PyData → Option PyData) (q : RE c iter σ H fun x H1 => ∃ ds, Dt c.K H1 x (.tuple ds) ∧ ds.length ≤ 1000 ∧ (∀ d x H', d ∈ ds → Same H1 H' → Dt c.K H' x d → TurnF (blkCd c scope) tg ifs elt vs σ c.K x H' (g d)) ∧
      ∀ p us H2, Same H1 H2 → H1 p = none → H2 p = some (.lst us) → DtAll c.K H2 us (ds.filterMap g) → Q (.ref p) H2) :
    tLc (RI c tg iter) (RG (blkCd c scope) tg) (RTs (blkCd c scope) ifs) (RE (blkCd c scope) elt) vs σ H Q := by
  refine lc_T (RE.mono (fun x H1 z => ?_) q)
  obtain ⟨ds, hx, hl, t, k⟩ := z
  obtain ⟨a, xs, rfl, ht, ha⟩ := hx.tupE
  have hle := ha.len
  refine ⟨a, xs, rfl, ht, by omega, fun D hD => ⟨fun i acc H' => acc.length ≤ i ∧ H' D = some (.lst acc) ∧ Same H1 H' ∧ DtAll c.K H' acc ((ds.take i).filterMap g), ⟨Nat.le_refl _, upd_same, same_new hD, .nil⟩, ?_, ?_, ?_⟩⟩
  · rintro i acc H' _ ⟨l, _, s, _⟩
    exact ⟨(tp_same s).sqt ht, l⟩
  · rintro i x acc H' hx ⟨l, h1, s, h2⟩
    obtain ⟨d, hd, hx'⟩ := ha.getV hx
    have T := TurnF.one hD s h1 h2 (t d x H' (List.mem_of_getElem? hd) s (hx'.mono (tp_same s)))
    refine RG.mono (fun σ2 H2 z => ⟨z.1, RTs.mono (fun b H3 z => ?_) z.2⟩) T
    cases b with
    | true => exact RE.mono (fun y H4 z => ⟨z.1, by rw [List.length_append, List.length_singleton]; omega, z.2.1, z.2.2.1, by rw [← outs_step hd]; exact z.2.2.2⟩) z
    | false => exact ⟨by omega, z.1, z.2.1, by rw [← outs_step hd]; exact z.2.2⟩
  · rintro acc H' ⟨l, h1, s, h2⟩
    refine k D acc H' s hD h1 ?_
    rw [hle, List.take_length] at h2
    exact h2
theorem lcL_F (g : PyData → Option PyData) (q : RE c iter σ H fun x H1 => ∃ a xs ds, x = .ref a ∧ SqL c.K H1 a xs ∧ DtAll c.K H1 xs ds ∧ ds.length ≤ 1000 ∧ (∀ d x H', d ∈ ds → Same H1 H' → Dt c.K H' x d → TurnF (blkCd c scope) tg ifs elt vs σ c.K x H' (g d)) ∧
      ∀ p us H2, Same H1 H2 → H1 p = none → H2 p = some (.lst us) → DtAll c.K H2 us (ds.filterMap g) → Q (.ref p) H2) :
    tLc (RI c tg iter) (RG (blkCd c scope) tg) (RTs (blkCd c scope) ifs) (RE (blkCd c scope) elt) vs σ H Q := by
  refine lc_L (RE.mono (fun x H1 z => ?_) q)
  obtain ⟨a, xs, ds, rfl, ht, ha, hl, t, k⟩ := z
  have hle := ha.len
  refine ⟨a, xs, rfl, ht, by omega, fun D hD => ⟨fun i acc H' => acc.length ≤ i ∧ H' D = some (.lst acc) ∧ Same H1 H' ∧ DtAll c.K H' acc ((ds.take i).filterMap g), ⟨Nat.le_refl _, upd_same, same_new hD, .nil⟩, ?_, ?_, ?_⟩⟩
  · rintro i acc H' _ ⟨l, _, s, _⟩
    exact ⟨s.seq ht, l⟩
  · rintro i x acc H' hx ⟨l, h1, s, h2⟩
    obtain ⟨d, hd, hx'⟩ := ha.getV hx
    have T := TurnF.one hD s h1 h2 (t d x H' (List.mem_of_getElem? hd) s (hx'.mono (tp_same s)))
    refine RG.mono (fun σ2 H2 z => ⟨z.1, RTs.mono (fun b H3 z => ?_) z.2⟩) T
    cases b with
    | true => exact RE.mono (fun y H4 z => ⟨z.1, by rw [List.length_append, List.length_singleton]; omega, z.2.1, z.2.2.1, by rw [← outs_step hd]; exact z.2.2.2⟩) z
    | false => exact ⟨by omega, z.1, z.2.1, by rw [← outs_step hd]; exact z.2.2⟩
  · rintro acc H' ⟨l, h1, s, h2⟩
    refine k D acc H' s hD h1 ?_
    rw [hle, List.take_length] at h2
    exact h2

/-! ### lists that grow -/
theorem e_app {o e : Expr} {apos : Pos} (q : RE c o σ H fun x H1 => ∃ l zs, x = .ref l ∧ H1 l = some (.lst zs) ∧ RE c e σ H1 fun y H2 => ∃ ys, H2 l = some (.lst ys) ∧ ys.length < 100000 ∧ Q .non (upd H2 l (.lst (ys ++ [y]))))
    (hbase : ∀ env, attributeBase o "append" env (eval o env) = eval o env := by intro _; rfl)
    (hfew : ∀ env, ((backTo pos (starEach [e] env)).all (fun x => !x.1) && (backToKw pos (keywordEach [] env)).all (fun x => x.1.isSome)
      && decide (([e] : List Expr).length + ([] : List Keyword).length + (if ([] : List Keyword).isEmpty then 0 else 1) < 30)) = true := by intro _; rfl)
    (hline : (apos.endLine == pos.line) = true := by rfl) (hs : ∀ env, starEach [e] env = (false, eval e env) :: starEach [] env := by intro _; rfl) (hplain : ∀ env, (backTo pos (starEach [] env)).any (·.1) = false := by intro _; rfl) :
    RE c (.Call (.Attribute o "append" apos) [e] [] pos) σ H Q := by
  refine e_bm PySem.F.plainAttrs_list PySem.F.slot_list_append PySem.F.type_list_append (RE.mono (fun x H1 z => ?_) q) hbase hfew hline hs hplain
  obtain ⟨l, zs, rfl, hl, z⟩ := z
  refine ⟨Or.inl ⟨rfl, _, Or.inl (Or.inl hl)⟩, a_cons (RE.mono (fun y H2 z => a_nil ?_) z) hs⟩
  obtain ⟨ys, hl, hz, z⟩ := z
  exact rm_of (fun X h => mt_append) ⟨l, ys, y, rfl, rfl, hl, Nat.lt_of_lt_of_le hz (by decide), z⟩
theorem e_ext {o e : Expr} {apos : Pos} (q : RE c o σ H fun x H1 => ∃ l zs, x = .ref l ∧ H1 l = some (.lst zs) ∧ RE c e σ H1 fun y H2 => ∃ b ys ws, y = .ref b ∧ H2 l = some (.lst ys) ∧ H2 b = some (.lst ws) ∧ ys.length + ws.length ≤ 100000 ∧ Q .non (upd H2 l (.lst (ys ++ ws))))
    (hbase : ∀ env, attributeBase o "extend" env (eval o env) = eval o env := by intro _; rfl)
    (hfew : ∀ env, ((backTo pos (starEach [e] env)).all (fun x => !x.1) && (backToKw pos (keywordEach [] env)).all (fun x => x.1.isSome)
      && decide (([e] : List Expr).length + ([] : List Keyword).length + (if ([] : List Keyword).isEmpty then 0 else 1) < 30)) = true := by intro _; rfl)
    (hline : (apos.endLine == pos.line) = true := by rfl) (hs : ∀ env, starEach [e] env = (false, eval e env) :: starEach [] env := by intro _; rfl) (hplain : ∀ env, (backTo pos (starEach [] env)).any (·.1) = false := by intro _; rfl) :
    RE c (.Call (.Attribute o "extend" apos) [e] [] pos) σ H Q := by
  refine e_bm PySem.F.plainAttrs_list PySem.F.slot_list_extend PySem.F.type_list_extend (RE.mono (fun x H1 z => ?_) q) hbase hfew hline hs hplain
  obtain ⟨l, zs, rfl, hl, z⟩ := z
  refine ⟨Or.inl ⟨rfl, _, Or.inl (Or.inl hl)⟩, a_cons (RE.mono (fun y H2 z => a_nil ?_) z) hs⟩
  obtain ⟨b, ys, ws, rfl, hl, hb, hz, z⟩ := z
  exact rm_of (fun X h => mt_extend) ⟨l, b, ys, ws, rfl, rfl, hl, hb, Nat.le_trans hz (by decide), z⟩
theorem tupend {K : PySem.W.Frag} {H1 : Hp} {xs : List V} {ds : List PyData} {Q : VK} (h : DtAll K H1 xs ds) (hl : xs.length ≤ 1000) (q : ∀ v H2, Same H1 H2 → Dt K H2 v (.tuple ds) → Q v H2) : ∃ ds, DtAll K H1 xs ds ∧ xs.length ≤ 1000 ∧ ∀ v H2, Same H1 H2 → Dt K H2 v (.tuple ds) → Q v H2 := ⟨ds, h, hl, q⟩
/-- [a, b, ..] -/
theorem e_lstD {es : List Expr} (q : RA c es σ H fun xs H1 => xs.length ≤ 1000 ∧ ∀ p H2, Same H1 H2 → H1 p = none → H2 p = some (.lst xs) → Q (.ref p) H2) : RE c (.List es pos) σ H Q :=
  e_lst (RA.mono (fun xs H1 z => ⟨Nat.le_trans z.1 (by decide), fun p hp => z.2 p _ (same_new hp) hp upd_same⟩) q)
/-- tuple(xs) of a list -/
theorem rc_tupL {p : Addr} {ys : List V} {ds : List PyData} (hl : SqL c.K H p ys) (hd : DtAll c.K H ys ds) (q : ∀ v H2, Same H H2 → Dt c.K H2 v (.tuple ds) → Q v H2) : RC c (.type "tuple") [.ref p] H Q :=
  rc_of (r := fun xs H Q => ∃ p ys, xs = [.ref p] ∧ ((SqL c.K H p ys ∧ ∀ l, H l = none → Q (.ref l) (upd H l (.tup ys))) ∨ (SqT c.K H p ys ∧ Q (.ref p) H))) (fun X h => by rw [← h.K]; exact call_tuple_of) ⟨p, ys, rfl, .inl ⟨hl, fun l hn => q _ _ (same_new hn) (.tup (.of upd_same) (hd.mono (tp_same (same_new hn))))⟩⟩
/-- list(xs) -/
theorem rc_lstL {p : Addr} {ys : List V} (hl : SqL c.K H p ys) (q : ∀ l H2, Same H H2 → H l = none → H2 l = some (.lst ys) → Q (.ref l) H2) : RC c (.type "list") [.ref p] H Q :=
  rc_of (r := fun xs H Q => ∃ p ys, xs = [.ref p] ∧ (SqL c.K H p ys ∨ SqT c.K H p ys) ∧ ∀ l, H l = none → Q (.ref l) (upd H l (.lst ys))) (fun X h => by rw [← h.K]; exact call_list_of) ⟨p, ys, rfl, .inl hl, fun l hn => q _ _ (same_new hn) hn upd_same⟩
theorem rc_lstT {ds : List PyData} (hx : Dt c.K H x (.tuple ds)) (q : ∀ l ys H2, Same H H2 → H l = none → H2 l = some (.lst ys) → DtAll c.K H2 ys ds → Q (.ref l) H2) : RC c (.type "list") [x] H Q := by
  obtain ⟨a, ys, rfl, ht, hd⟩ := hx.tupE
  exact rc_of (r := fun xs H Q => ∃ p ys, xs = [.ref p] ∧ (SqL c.K H p ys ∨ SqT c.K H p ys) ∧ ∀ l, H l = none → Q (.ref l) (upd H l (.lst ys))) (fun X h => by rw [← h.K]; exact call_list_of) ⟨a, ys, rfl, .inr ht, fun l hn => q _ _ _ (same_new hn) hn upd_same (hd.mono (tp_same (same_new hn)))⟩
end
end G
namespace G
open PySem PySem.Spec PyProof.Rows L2
/-! ### xs[lo:hi:step] of a list: some of its items -/
theorem picked_vals {xs : List V} {its : List Value} (r : Vals xs its) : ∀ ix : List Nat, ∃ ys : List V, Vals ys (ix.filterMap (its.toArray[·]?)) ∧ ∀ y ∈ ys, y ∈ xs
  | [] => ⟨[], .nil, fun _ h => nomatch h⟩
  | i :: ix => by
    obtain ⟨ys, h1, h2⟩ := picked_vals r ix
    cases e : its.toArray[i]? with
    | none => exact ⟨ys, by rw [List.filterMap_cons, e]; exact h1, h2⟩
    | some u =>
      have e' : its[i]? = some u := by simpa using e
      cases ex : xs[i]? with
      | none =>
        have := r.none_of ex
        rw [e'] at this
        cases this
      | some x =>
        obtain ⟨u', hu, ru⟩ := r.get ex
        rw [e'] at hu
        cases hu
        refine ⟨x :: ys, by rw [List.filterMap_cons, e]; exact .cons ru h1, fun y hy => ?_⟩
        rcases List.mem_cons.mp hy with rfl | hy
        · exact List.mem_of_getElem? ex
        · exact h2 y hy
def tSlS (K : PySem.W.Frag) (te : TE) (tl th ts : TO) : TE := fun σ H Q => te σ H fun x H1 => tl σ H1 fun l H2 => th σ H2 fun u H3 => ts σ H3 fun st H4 => ∃ a xs, x = .ref a ∧ SqL K H4 a xs ∧ st ≠ some 0 ∧
  ∀ p ys, H4 p = none → (∀ y ∈ ys, y ∈ xs) → ys.length ≤ xs.length → Q (.ref p) (upd H4 p (.lst ys))
theorem pe_sliceS {X : Cx} {e st : Expr} {lo hi : Option Expr} {p2 pos : Pos} {te : TE} {tl th ts : TO} (he : PE X e te) (hl : PO X lo tl) (hu : PO X hi th) (hst : PO X (some st) ts) : PE X (.Subscript e (.Slice lo hi (some st) p2) pos) (tSlS X.K te tl th ts) := by
  constructor
  intro pins s σ H Q I h
  apply Subscript_ (thn (he.run pins s σ H _ I h) _)
  rintro v s1 ⟨x, H1, I1, r1, q1⟩
  refine wpAny_Slice (thn (hl.run pins s1 σ H1 _ I1 q1) fun vl s2 ⟨l, H2, I2, pl, q2⟩ => thn (hu.run pins s2 σ H2 _ I2 q2) fun vu s3 ⟨u, H3, I3, pu, q3⟩ => thn (hst.run pins s3 σ H3 _ I3 q3) fun vs s4 ⟨sv, H4, I4, ps, q4⟩ => ?_)
  obtain ⟨a, xs, rfl, hx, h0, q⟩ := q4
  cases r1
  have J5 : Inv X pins σ H4 { s4 with heap := s4.heap.push { cls := .type "slice", data := .fields #[vl, vu, vs] } } := I4.kept (t' := s4.toks) fun b ob q => Heap.get?_push_of_some _ q
  obtain ⟨its, r, ht, hz⟩ := (J5.list hx)
  have hlen := r.length
  show wpAny (model X.prog X.w) X.A (subscriptTail e (.Slice lo hi (some st) p2) (.ref a) (.ref s4.heap.objs.size)) (EP X pins σ Q) X.xe { s4 with heap := s4.heap.push { cls := .type "slice", data := .fields #[vl, vu, vs] } }
  refine tail_any (ops := [.ref a, .ref s4.heap.objs.size]) (id := "list.__getitem__") ht.isList.typeIs slot_list_getitem.lookup ?_ (by with_unfolding_all rfl)
  refine wpAny_getItem_list_slice ht.isList (Heap.IsSliceOf.new ..) pl pu ps h0 ?_ (by rw [List.size_toArray] <;> omega)
  obtain ⟨ys, y1, y2⟩ := picked_vals r (sliceRange (sliceBounds l u sv its.toArray.size).1 (sliceBounds l u sv its.toArray.size).2.1 (sliceBounds l u sv its.toArray.size).2.2)
  have y3 : ys.length ≤ xs.length := by
    rw [y1.length, hlen]
    have := slicePick_size_le its.toArray l u sv
    unfold slicePick at this
    rw [List.size_toArray, List.size_toArray] at this
    exact this
  refine ⟨.ref _, _, J5.laid (t' := s4.toks) (o := .lst ys) (fun b ob q => Heap.get?_push_of_some _ q) (Nat.le_refl _) ?_, rfl, q _ ys (J5.hok.fresh (Nat.le_refl _)) y2 y3⟩
  exact ⟨Nat.le_trans y3 hz, _, 0, y1, Heap.get?_push_size _ rfl⟩
section
variable {c : Cd} {σ : L2.St} {H : Hp} {Q : VK} {pos : Pos} {x y : V}
theorem e_sliceS {e st : Expr} {lo hi : Option Expr} {p2 : Pos} (q : RE c e σ H fun x H1 => RPo c lo σ H1 fun l H2 => RPo c hi σ H2 fun u H3 => RPo c (some st) σ H3 fun sv H4 => ∃ a xs, x = .ref a ∧ SqL c.K H4 a xs ∧ sv ≠ some 0 ∧
    ∀ p ys H5, Same H4 H5 → H4 p = none → H5 p = some (.lst ys) → (∀ y ∈ ys, y ∈ xs) → ys.length ≤ xs.length → Q (.ref p) H5) : RE c (.Subscript e (.Slice lo hi (some st) p2) pos) σ H Q := by
  refine re_of (t := tSlS c.K (RE c e) (RPo c lo) (RPo c hi) (RPo c (some st))) (fun X h => by rw [← h.K]; exact pe_sliceS (pe_re h) (po_rp h) (po_rp h) (po_rp h)) ?_
  refine RE.mono (fun x H1 z => ?_) q
  obtain ⟨⟨t1, Q1, h1, q1, w1⟩⟩ := z
  refine ⟨⟨t1, Q1, h1, q1, fun l H2 z => ?_⟩⟩
  obtain ⟨⟨t2, Q2, h2, q2, w2⟩⟩ := w1 _ _ z
  refine ⟨⟨t2, Q2, h2, q2, fun u H3 z => ?_⟩⟩
  obtain ⟨⟨t3, Q3, h3, q3, w3⟩⟩ := w2 _ _ z
  refine ⟨⟨t3, Q3, h3, q3, fun sv H4 z => ?_⟩⟩
  obtain ⟨a, xs, e1, e2, e3, k⟩ := w3 _ _ z
  exact ⟨a, xs, e1, e2, e3, fun p ys hp m l => k p ys _ (same_new hp) hp upd_same m l⟩
theorem rsl_list {a : Addr} {xs : List V} {lo hi : Option Int} (hx : SqL c.K H a xs) (q : ∀ p H2, Same H H2 → H p = none → H2 p = some (.lst (cutV xs lo hi)) → Q (.ref p) H2) : RSl c (.ref a) lo hi H Q :=
  rsl_of (r := rSlL c.K) (fun X h => by rw [← h.K]; exact sl_list) ⟨a, xs, rfl, hx, fun p hp => q _ _ (same_new hp) hp upd_same⟩
/-- xs + ys of lists -/
theorem ro_cat {a b : Addr} {xs ys : List V} (h1 : H a = some (.lst xs)) (h2 : H b = some (.lst ys)) (hl : xs.length + ys.length ≤ 100000) (q : ∀ p H2, Same H H2 → H p = none → H2 p = some (.lst (xs ++ ys)) → Q (.ref p) H2) : RO c .Add (.ref a) (.ref b) H Q :=
  ro_of (fun X h => op_cat) ⟨a, b, xs, ys, rfl, rfl, h1, h2, Nat.le_trans hl (by decide), fun p hp => q _ _ (same_new hp) hp upd_same⟩
/-- xs * n of a list -/
theorem ro_rep {a : Addr} {xs : List V} {k : Int} (h1 : H a = some (.lst xs)) (h2 : -1000 ≤ k ∧ k ≤ 1000) (hl : xs.length ≤ 1000) (q : ∀ p H2, Same H H2 → H p = none → H2 p = some (.lst (List.replicate k.toNat xs).flatten) → Q (.ref p) H2) : RO c .Mult (.ref a) (.int k) H Q := by
  refine ro_of (fun X h => op_rep) ⟨a, k, xs, rfl, rfl, h1, by omega, by omega, ?_, fun p hp => q _ _ (same_new hp) hp upd_same⟩
  have : xs.length * k.toNat ≤ 1000 * 1000 := Nat.mul_le_mul hl (by omega)
  exact Nat.le_trans this (by decide)
end
end G

namespace G
open PySem PySem.Spec PyProof.Rows L2
theorem same_none {H H1 : Hp} (s : Same H H1) {l : Addr} (h : H1 l = none) : H l = none := by
  cases e : H l with
  | none => rfl
  | some o => rw [s _ _ e] at h; cases h
theorem ift {A B : Prop} (a : A) : if true = true then A else B := a
theorem ne_feed {K : PySem.W.Frag} {H H1 : Hp} {fd cl l : Addr} (h : Feed K H fd cl) (g : Same H H1) (n : H1 l = none) : l ≠ fd := by
  rintro rfl
  obtain ⟨ns, b, d, e, h1, _⟩ := h
  rw [g _ _ h1] at n
  cases n
theorem ne_cl {K : PySem.W.Frag} {H H1 : Hp} {fd cl l : Addr} (h : Feed K H fd cl) (g : Same H H1) (n : H1 l = none) : l ≠ cl := by
  rintro rfl
  obtain ⟨ns, b, d, e, _, h1, _⟩ := h
  rw [g _ _ h1] at n
  cases n
theorem fresh_ne {H H1 : Hp} {a l : Addr} {o : HO} (h : H a = some o) (g : Same H H1) (n : H1 l = none) : l ≠ a := by
  rintro rfl
  rw [g _ _ h] at n
  cases n
section
variable {c : Cd} {σ : L2.St} {H : Hp} {Q : VK} {pos : Pos} {x y : V}
/-- t + u of data -/
theorem ro_catT {ds es : List PyData} (h1 : Dt c.K H x (.tuple ds)) (h2 : Dt c.K H y (.tuple es)) (hl : ds.length + es.length ≤ 100000) (q : ∀ v H2, Same H H2 → Dt c.K H2 v (.tuple (ds ++ es)) → Q v H2) : RO c .Add x y H Q := by
  obtain ⟨a, xs, rfl, t1, d1⟩ := h1.tupE
  obtain ⟨b, ys, rfl, t2, d2⟩ := h2.tupE
  have l1 := d1.len
  have l2 := d2.len
  refine ro_of (r := rCatA c.K) (fun X h => by rw [← h.K]; exact op_catA) ⟨a, b, xs, ys, rfl, rfl, t1, t2, Nat.le_trans (by omega : xs.length + ys.length ≤ 100000) (by decide), ?_, ?_, ?_⟩
  · rintro rfl
    cases d1
    exact q _ _ (Same.refl _) h2
  · rintro _ rfl
    cases d2
    rw [List.append_nil] at q
    exact q _ _ (Same.refl _) h1
  · intro _ _ p hp
    exact q _ _ (same_new hp) (.tup (.of upd_same) ((d1.app d2).mono (tp_same (same_new hp))))
/-- a def that answers with a new list of data -/
def spL (R : List PyData → List PyData → Prop) (K : PySem.W.Frag) : Sp := fun vs H Q _ => ∃ ds es, DtAll K H vs ds ∧ R ds es ∧ ∀ l us H', Same H H' → H l = none → H' l = some (.lst us) → DtAll K H' us es → Q (.ref l) H'
theorem e_callL {x : Str} {p : Pos} {e : Expr} {es : List Expr} {ps : List Str} {k : Nat} {R : List PyData → List PyData → Prop} (D : Dc c.toMd x ps k (spL R c.K)) (q : RA c (e :: es) σ H fun vs H1 => ∃ ds es, DtAll c.K H1 vs ds ∧ R ds es ∧ ∀ l us H', Same H1 H' → H1 l = none → H' l = some (.lst us) → DtAll c.K H' us es → Q (.ref l) H') (hk : k ≤ c.k := by exact Nat.le_of_ble_eq_true rfl) (hg : c.sc.names.lookup x = some .globalImplicit := by rfl)
    (hdb : (x == ("__debug__" : Str)) = false := by decide) (he : ∀ env, starEach (e :: es) env = (false, eval e env) :: starEach es env := by intro _; rfl) (hpl : ∀ env, (backTo pos (starEach es env)).any (·.1) = false := by intro _; rfl) :
    RE c (.Call (.Name x p) (e :: es) [] pos) σ H Q := e_call D q hk hg hdb he hpl
/-- a def that is given a list of data (and data behind it) and answers with a new list of data -/
def spLL (R : List PyData → List PyData → List PyData → Prop) (K : PySem.W.Frag) : Sp := fun vs H Q _ => ∃ a xs rest ds cs es, vs = .ref a :: rest ∧ SqL K H a xs ∧ DtAll K H xs ds ∧ DtAll K H rest cs ∧ R ds cs es ∧ ∀ l us H', Same H H' → H l = none → H' l = some (.lst us) → DtAll K H' us es → Q (.ref l) H'
theorem rx_pick {p : Addr} {xs : List V} {ds : List PyData} {i : Int} (hx : SqL c.K H p xs) (hd : DtAll c.K H xs ds) (h0 : 0 ≤ i) (h1 : i < ds.length) (q : ∀ v d, ds[i.toNat]? = some d → Dt c.K H v d → Q v H) : RX c (.ref p) (.int i) H Q := by
  have hlt : i.toNat < ds.length := by omega
  obtain ⟨v, hv, h⟩ := hd.get (List.getElem?_eq_getElem hlt)
  exact rx_list hx (pl_at (j := i.toNat) (by omega) hv) (q v _ (List.getElem?_eq_getElem hlt) h)
theorem rx_pickT {ds : List PyData} {i : Int} (hx : Dt c.K H x (.tuple ds)) (h0 : 0 ≤ i) (h1 : i < ds.length) (q : ∀ v d, ds[i.toNat]? = some d → Dt c.K H v d → Q v H) : RX c x (.int i) H Q := by
  have hlt : i.toNat < ds.length := by omega
  exact rx_tup hx (pl_at (j := i.toNat) (by omega) (List.getElem?_eq_getElem hlt)) fun v h => q v _ (List.getElem?_eq_getElem hlt) h
/-- a drawing call -/
theorem e_callD {x : Str} {p : Pos} {e : Expr} {es : List Expr} {ps : List Str} {k : Nat} {Pre : List PyData → Prop} {R : List PyData → PyData → Prop} (D : Dc c.toMd x ps k (spD Pre R c.K)) (q : RA c (e :: es) σ H fun vs H1 => ∃ fd cl rest ds, vs = .ref fd :: rest ∧ Feed c.K H1 fd cl ∧ DtAll c.K H1 rest ds ∧ Pre ds ∧ ∀ d v H', R ds d → Kp fd H1 H' → Feed c.K H' fd cl → Dt c.K H' v d → Q v H') (hk : k ≤ c.k := by exact Nat.le_of_ble_eq_true rfl) (hg : c.sc.names.lookup x = some .globalImplicit := by rfl)
    (hdb : (x == ("__debug__" : Str)) = false := by decide) (he : ∀ env, starEach (e :: es) env = (false, eval e env) :: starEach es env := by intro _; rfl) (hpl : ∀ env, (backTo pos (starEach es env)).any (·.1) = false := by intro _; rfl) :
    RE c (.Call (.Name x p) (e :: es) [] pos) σ H Q := e_call D q hk hg hdb he hpl

section
variable {elt tg iter : Expr} {ifs : List Expr} {scope : Scope} {vs : List Nat}
theorem rng_step {g : Int → Option PyData} {i : Int} (t : Nat) : (List.range t).filterMap (fun t : Nat => g (i + (t : Int))) ++ (g (i + (t : Int))).toList = (List.range (t + 1)).filterMap (fun t : Nat => g (i + (t : Int))) := by
  rw [List.range_succ, List.filterMap_append]
  congr 1
theorem lcR2_F (g : Int → Option PyData) {a b : Expr} {p ppos : Pos} (hm : c.mg "range" = none) (q : RE c a σ H fun x H1 => RE c b σ H1 fun y H2 => ∃ i j : Int, x = .int i ∧ y = .int j ∧ (-1000 ≤ i ∧ i ≤ 1000) ∧ (-1000 ≤ j ∧ j ≤ 1000) ∧ (∀ (t : Nat) H', t < (j - i).toNat → Same H2 H' → TurnF (blkCd c scope) tg ifs elt vs σ c.K (.int (i + t)) H' (g (i + t))) ∧
      ∀ p us H3, Same H2 H3 → H2 p = none → H3 p = some (.lst us) → DtAll c.K H3 us ((List.range (j - i).toNat).filterMap fun t : Nat => g (i + (t : Int))) → Q (.ref p) H3)
    (hg : c.sc.names.lookup ("range" : Str) = some .globalImplicit := by rfl) (hs : ∀ env, starEach [a, b] env = [(false, eval a env), (false, eval b env)] := by intro _; rfl) (hs2 : ∀ env, starEach [b] env = [(false, eval b env)] := by intro _; rfl) :
    tLc (RI c tg (.Call (.Name "range" p) [a, b] [] ppos)) (RG (blkCd c scope) tg) (RTs (blkCd c scope) ifs) (RE (blkCd c scope) elt) vs σ H Q := by
  refine lc_R2 hm (RE.mono (fun x H1 z => RE.mono (fun y H2 z => ?_) z) q) hg hs hs2
  obtain ⟨i, j, rfl, rfl, h1, h2, tn, k⟩ := z
  refine ⟨i, j, rfl, rfl, h1, h2, fun D hD => ⟨fun t acc H' => acc.length ≤ t ∧ H' D = some (.lst acc) ∧ Same H2 H' ∧ DtAll c.K H' acc ((List.range t).filterMap fun t : Nat => g (i + (t : Int))), ⟨Nat.le_refl _, upd_same, same_new hD, .nil⟩, fun _ _ _ h => h.1, ?_, ?_⟩⟩
  · rintro t acc H' ht ⟨l, h1, s, h2⟩
    have T := TurnF.one hD s h1 h2 (tn t H' ht s)
    refine RG.mono (fun σ2 H2 z => ⟨z.1, RTs.mono (fun b H3 z => ?_) z.2⟩) T
    cases b with
    | true => exact RE.mono (fun y H4 z => ⟨z.1, by rw [List.length_append, List.length_singleton]; omega, z.2.1, z.2.2.1, by rw [← rng_step]; exact z.2.2.2⟩) z
    | false => exact ⟨by omega, z.1, z.2.1, by rw [← rng_step]; exact z.2.2⟩
  · rintro acc H' ⟨l, h1, s, h2⟩
    exact k D acc H' s hD h1 h2
theorem lcR1_F (g : Int → Option PyData) {a : Expr} {p ppos : Pos} (hm : c.mg "range" = none) (q : RE c a σ H fun y H2 => ∃ j : Int, y = .int j ∧ (-1000 ≤ j ∧ j ≤ 1000) ∧ (∀ (t : Nat) H', t < j.toNat → Same H2 H' → TurnF (blkCd c scope) tg ifs elt vs σ c.K (.int t) H' (g t)) ∧
      ∀ p us H3, Same H2 H3 → H2 p = none → H3 p = some (.lst us) → DtAll c.K H3 us ((List.range j.toNat).filterMap fun t : Nat => g (t : Int)) → Q (.ref p) H3)
    (hg : c.sc.names.lookup ("range" : Str) = some .globalImplicit := by rfl) (hs : ∀ env, starEach [a] env = [(false, eval a env)] := by intro _; rfl) :
    tLc (RI c tg (.Call (.Name "range" p) [a] [] ppos)) (RG (blkCd c scope) tg) (RTs (blkCd c scope) ifs) (RE (blkCd c scope) elt) vs σ H Q := by
  refine lc_R1 hm (RE.mono (fun y H2 z => ?_) q) hg hs
  obtain ⟨j, rfl, h2, tn, k⟩ := z
  refine ⟨j, rfl, h2, fun D hD => ⟨fun t acc H' => acc.length ≤ t ∧ H' D = some (.lst acc) ∧ Same H2 H' ∧ DtAll c.K H' acc ((List.range t).filterMap fun t : Nat => g (t : Int)), ⟨Nat.le_refl _, upd_same, same_new hD, .nil⟩, fun _ _ _ h => h.1, ?_, ?_⟩⟩
  · rintro t acc H' ht ⟨l, h1, s, h2⟩
    have T := TurnF.one hD s h1 h2 (tn t H' ht s)
    have e := rng_step (g := g) (i := 0) t
    simp only [Int.zero_add] at e
    refine RG.mono (fun σ2 H2 z => ⟨z.1, RTs.mono (fun b H3 z => ?_) z.2⟩) T
    cases b with
    | true => exact RE.mono (fun y H4 z => ⟨z.1, by rw [List.length_append, List.length_singleton]; omega, z.2.1, z.2.2.1, by rw [← e]; exact z.2.2.2⟩) z
    | false => exact ⟨by omega, z.1, z.2.1, by rw [← e]; exact z.2.2⟩
  · rintro acc H' ⟨l, h1, s, h2⟩
    exact k D acc H' s hD h1 h2
end
end
end G

namespace G
open PySem PySem.Spec PyProof.Rows L2
def isStar : Expr → Bool
  | .Starred .. => true
  | _ => false
theorem any_star (vs : List Expr) : (vs.any fun | .Starred .. => true | _ => false) = vs.any isStar := by
  congr 1
theorem sw2 {x y : Str} {px py pt : Pos} {kt k2 pt2} {a b : Expr} {env : Env} (hk : env.scope.kind = .function) (hx : env.scope.names.lookup x = some .local) (hy : env.scope.names.lookup y = some .local) (hxy : [x, y].eraseDups.length = 2) (hl : (py.line == px.line) = true)
    (h1 : [a, b].any isStar = false) (h2 : [a, b].all (foldedForSure 8) = false) (h3 : [a, b].all (constantsAlone 8) = false) :
    swappedStores [.Tuple [.Name x px, .Name y py] kt pt] (.Tuple [a, b] k2 pt2) env = pure (some [x, y]) := by
  have kx : env.kindOf x = some .local := hx
  have ky : env.kindOf y = some .local := hy
  have hb : env.blockKind = .function := by unfold Env.blockKind; rw [hk]; rfl
  have hn : ([Expr.Name x px, Expr.Name y py].filterMap fun
    | .Name id pos => if env.kindOf id == some .local && pos.line == px.line then some id else none
    | _ => none) = [x, y] := by
    simp only [List.filterMap_cons, List.filterMap_nil, kx, ky, hl, beq_self_eq_true, Bool.and_self, if_true]
  unfold swappedStores
  simp only [hb]
  show (if _ = true then _ else if ([a, b].any fun | .Starred .. => true | _ => false) = true then _ else _) = _
  rw [any_star, h1]
  generalize hz : List.filterMap _ [Expr.Name x px, Expr.Name y py] = z
  have hz' : z = [x, y] := by rw [← hz]; exact hn
  subst hz'
  rw [if_neg (by show ¬ (false = true); decide), if_neg (by decide), if_neg (by rw [hxy]; show ¬ (false = true); decide), h2, if_neg (by decide), h3, if_neg (by decide)]
theorem sw3 {x y z : Str} {px py pz pt : Pos} {kt k2 pt2} {a b d : Expr} {env : Env} (hk : env.scope.kind = .function) (hx : env.scope.names.lookup x = some .local) (hy : env.scope.names.lookup y = some .local) (hz0 : env.scope.names.lookup z = some .local) (hxy : [x, y, z].eraseDups.length = 3) (hl : (py.line == px.line) = true) (hl2 : (pz.line == px.line) = true)
    (h1 : [a, b, d].any isStar = false) (h2 : [a, b, d].all (foldedForSure 8) = false) (h3 : [a, b, d].all (constantsAlone 8) = false) :
    swappedStores [.Tuple [.Name x px, .Name y py, .Name z pz] kt pt] (.Tuple [a, b, d] k2 pt2) env = pure (some [x, y, z]) := by
  have kx : env.kindOf x = some .local := hx
  have ky : env.kindOf y = some .local := hy
  have kz : env.kindOf z = some .local := hz0
  have hb : env.blockKind = .function := by unfold Env.blockKind; rw [hk]; rfl
  have hn : ([Expr.Name x px, Expr.Name y py, Expr.Name z pz].filterMap fun
    | .Name id pos => if env.kindOf id == some .local && pos.line == px.line then some id else none
    | _ => none) = [x, y, z] := by
    simp only [List.filterMap_cons, List.filterMap_nil, kx, ky, kz, hl, hl2, beq_self_eq_true, Bool.and_self, if_true]
  unfold swappedStores
  simp only [hb]
  show (if _ = true then _ else if ([a, b, d].any fun | .Starred .. => true | _ => false) = true then _ else _) = _
  rw [any_star, h1]
  generalize hz : List.filterMap _ [Expr.Name x px, Expr.Name y py, Expr.Name z pz] = w
  have hz' : w = [x, y, z] := by rw [← hz]; exact hn
  subst hz'
  rw [if_neg (by show ¬ (false = true); decide), if_neg (by decide), if_neg (by rw [hxy]; show ¬ (false = true); decide), h2, if_neg (by decide), h3, if_neg (by decide)]
section
variable {c : Cd} {σ : L2.St} {H : Hp} {D : Ends} {pos : Pos}
theorem s_par2 {i j : Nat} {x y : Str} {a b : Expr} {px py pt : Pos} {kt k2 pt2} (hi : At c.N i x) (hj : At c.N j y) (q : RE c a σ H fun v H1 => RE c b σ H1 fun w H2 => D.nx ((σ.set i (some v)).set j (some w)) H2) (hij : i ≠ j := by decide)
    (hx : c.sc.names.lookup x = some .local := by rfl) (hy : c.sc.names.lookup y = some .local := by rfl) (hk : c.sc.kind = .function := by rfl) (hxy : [x, y].eraseDups.length = 2 := by decide +kernel) (hl : (py.line == px.line) = true := by rfl)
    (e1 : [a, b].any isStar = false := by rfl) (e2 : [a, b].all (foldedForSure 8) = false := by rfl) (e3 : [a, b].all (constantsAlone 8) = false := by rfl)
    (hs : ∀ env, swapsWithSole [.Tuple [.Name x px, .Name y py] kt pt] (.Tuple [a, b] k2 pt2) pos.line env = pure false := by intro _; rfl)
    (h1 : ∀ env, starEach [a, b] env = (false, eval a env) :: starEach [b] env := by intro _; rfl) (h2 : ∀ env, starEach [b] env = (false, eval b env) :: starEach [] env := by intro _; rfl) :
    RS c (.Assign [.Tuple [.Name x px, .Name y py] kt pt] (.Tuple [a, b] k2 pt2) pos) D σ H :=
  s_par hi hj q hij hx hy (fun env he => sw2 (by rw [he]; exact hk) (by rw [he]; exact hx) (by rw [he]; exact hy) hxy hl e1 e2 e3) hs h1 h2
theorem s_par3 {i j l : Nat} {x y z : Str} {a b d : Expr} {px py pz pt : Pos} {kt k2 pt2} (hi : At c.N i x) (hj : At c.N j y) (hl0 : At c.N l z) (q : RE c a σ H fun v H1 => RE c b σ H1 fun w H2 => RE c d σ H2 fun u H3 => D.nx (((σ.set i (some v)).set j (some w)).set l (some u)) H3) (hij : i ≠ j := by decide) (hil : i ≠ l := by decide) (hjl : j ≠ l := by decide)
    (hx : c.sc.names.lookup x = some .local := by rfl) (hy : c.sc.names.lookup y = some .local := by rfl) (hz : c.sc.names.lookup z = some .local := by rfl) (hk : c.sc.kind = .function := by rfl) (hxy : [x, y, z].eraseDups.length = 3 := by decide +kernel) (hl : (py.line == px.line) = true := by rfl) (hl2 : (pz.line == px.line) = true := by rfl)
    (e1 : [a, b, d].any isStar = false := by rfl) (e2 : [a, b, d].all (foldedForSure 8) = false := by rfl) (e3 : [a, b, d].all (constantsAlone 8) = false := by rfl)
    (hs : ∀ env, swapsWithSole [.Tuple [.Name x px, .Name y py, .Name z pz] kt pt] (.Tuple [a, b, d] k2 pt2) pos.line env = pure false := by intro _; rfl)
    (h0 : ∀ env, starEach [a, b, d] env = (false, eval a env) :: starEach [b, d] env := by intro _; rfl) (h1 : ∀ env, starEach [b, d] env = (false, eval b env) :: starEach [d] env := by intro _; rfl) (h2 : ∀ env, starEach [d] env = (false, eval d env) :: starEach [] env := by intro _; rfl) :
    RS c (.Assign [.Tuple [.Name x px, .Name y py, .Name z pz] kt pt] (.Tuple [a, b, d] k2 pt2) pos) D σ H := by
  refine rs_of (t := tPar3 i j l (RA c [a, b, d])) (fun X h => ps_par3 h.calm (by rw [h.N]; exact h.nd) (by rw [h.N]; exact hi.get) (by rw [h.N]; exact hj.get) (by rw [h.N]; exact hl0.get) hij hil hjl (by rw [h.sc]; exact hx) (by rw [h.sc]; exact hy) (by rw [h.sc]; exact hz) (pa_ra h) (sw3 (by rw [h.sc]; exact hk) (by rw [h.sc]; exact hx) (by rw [h.sc]; exact hy) (by rw [h.sc]; exact hz) hxy hl hl2 e1 e2 e3) (hs _)) ?_
  exact a_cons (RE.mono (fun v H1 z => a_cons (RE.mono (fun w H2 z => a_cons (RE.mono (fun u H3 z => a_nil ⟨v, w, u, rfl, z⟩) z) h2) z) h1) q) h0
theorem e_bo1 {Q : VK} {op : BoolOp} {a : Expr} (q : RE c a σ H Q) : RE c (.BoolOp op [a] pos) σ H Q := re_of (fun X h => pe_one (pe_re h)) q
theorem e_disp {Q : VK} {keys : List (Option Expr)} {values : List Expr} {trs : List (TE × TE)} (hp : ∀ X, Is c X → PPs X pos keys values trs) (hall : keys.all (·.isSome) = true) (hl : keys.length = values.length) (h0 : keys ≠ []) (h15 : keys.length ≤ 15) (q : tDisp trs σ H Q) : RE c (.Dict keys values pos) σ H Q :=
  re_of (fun X h => pe_disp (hp X h) hall hl h0 h15) q
theorem e_dnew {Q : VK} (q : ∀ p, H p = none → Q (.ref p) (upd H p (.dK []))) : RE c (.Dict [] [] pos) σ H Q := re_of (fun X h => pe_dnewK) q
theorem kp_none {fp l : Addr} {H H1 : Hp} (k : Kp fp H H1) (h : H1 l = none) (n : l ≠ fp) : H l = none := by
  cases e : H l with
  | none => rfl
  | some o => rw [k.k _ _ n e] at h; cases h
theorem ty_tup {K : PySem.W.Frag} {a : Addr} {xs : List V} (h : SqT K H a xs) : TyX K H (.ref a) (.type "tuple") := by
  rcases h with (h | ⟨o, h⟩) | ⟨o, its, n, h1, h2, _⟩
  · exact .base (.tup h)
  · exact .fTuple h
  · exact .kTuple h1 h2
theorem rc_isi {Q : VK} {x : V} {t T : String} {b : Bool} (ty : TyX c.K H x (.type t)) (e : PySem.W.kitOne c.K (.type t) (.type T) = some b) (q : Q (.bl b) H) : RC c (.builtin "isinstance") [x, .ty T] H Q :=
  rc_of (r := rIsi c.K) (fun X h => by rw [← h.K]; exact call_isi) ⟨x, _, _, _, b, rfl, .ty T, ty, e, q⟩
/-- a def with defaults -/
structure DcV (c : Md) (x : Str) (ps : List Str) (dvs : List V) (k : Nat) (sp : Sp) : Prop where
  ex : ∃ (f : Addr) (fd : FuncData) (ds : List Value), FnG c.prog c.w c.K c.mg c.base noX k f fd ps sp ∧ c.mg x = some (.ref f) ∧ PySem.W.keepIn c.K (.ref f) = true ∧ Binds c.K fd ps ds ∧ Vals dvs ds
theorem e_callV {Q : VK} {x : Str} {p : Pos} {e : Expr} {es : List Expr} {ps : List Str} {dvs : List V} {k : Nat} {sp : Sp} (D : DcV c.toMd x ps dvs k sp) (q : RA c (e :: es) σ H fun vs H1 => sp (vs ++ dvs) H1 Q fun _ _ _ => False) (hk : k ≤ c.k := by exact Nat.le_of_ble_eq_true rfl) (hg : c.sc.names.lookup x = some .globalImplicit := by rfl)
    (hdb : (x == ("__debug__" : Str)) = false := by decide) (he : ∀ env, starEach (e :: es) env = (false, eval e env) :: starEach es env := by intro _; rfl) (hpl : ∀ env, (backTo pos (starEach es env)).any (·.1) = false := by intro _; rfl) :
    RE c (.Call (.Name x p) (e :: es) [] pos) σ H Q := by
  obtain ⟨f, fd, ds, F, hm, hkp, hb, hv⟩ := D.ex
  refine re_of (t := tCall sp dvs (fun _ _ _ => False) (RA c (e :: es))) (fun X h => ?_) q
  refine pe_call (CX := fun _ _ _ _ _ _ => False) (k := k) (f := f) (fd := fd) (ps := ps) (ds := ds) ?_ (h.room.mono hk) (gl_of h hg) (by rw [h.mg]; exact hm) (by rw [h.K]; exact hkp) (by rw [h.K]; exact hb) hv (fun _ _ _ _ _ _ _ z => z.elim) (pa_ra h) hdb (he _) (hpl _)
  rw [h.prog, h.w, h.K, h.mg, h.base]; exact F
/-- x, y = e with a pair of data -/
theorem g_unp2 {R : L2.St → Hp → Prop} {i j : Nat} {x y : Str} {px py pt : Pos} {kt : Nat} {v : V} {d1 d2 : PyData} (hi : At c.N i x) (hj : At c.N j y) (hv : Dt c.K H v (.tuple [d1, d2])) (q : ∀ v1 v2, Dt c.K H v1 d1 → Dt c.K H v2 d2 → R ((σ.set i (some v1)).set j (some v2)) H)
    (hx : c.sc.names.lookup x = some .local ∨ (c.sc.names.lookup x = some .cell ∧ c.top = true) := by first | exact Or.inl rfl | exact Or.inr ⟨rfl, rfl⟩) (hy : c.sc.names.lookup y = some .local ∨ (c.sc.names.lookup y = some .cell ∧ c.top = true) := by first | exact Or.inl rfl | exact Or.inr ⟨rfl, rfl⟩)
    (hst : ∀ env, (assignEach [.Name x px, .Name y py] env).findIdx? (·.1) = none := by intro _; rfl) : RG c (.Tuple [.Name x px, .Name y py] kt pt) v σ H R := by
  obtain ⟨a, xs, rfl, ht, hd⟩ := hv.tupE
  obtain _ | ⟨h1, hd⟩ := hd
  obtain _ | ⟨h2, hd⟩ := hd
  cases hd
  exact g_tup ht (gs_cons (g_name hi (gs_cons (g_name hj (gs_nil (q _ _ h1 h2)) hy)) hx)) rfl (fun _ => rfl) hst
theorem g_unp3 {R : L2.St → Hp → Prop} {i j l : Nat} {x y z : Str} {px py pz pt : Pos} {kt : Nat} {v : V} {d1 d2 d3 : PyData} (hi : At c.N i x) (hj : At c.N j y) (hl : At c.N l z) (hv : Dt c.K H v (.tuple [d1, d2, d3])) (q : ∀ v1 v2 v3, Dt c.K H v1 d1 → Dt c.K H v2 d2 → Dt c.K H v3 d3 → R (((σ.set i (some v1)).set j (some v2)).set l (some v3)) H)
    (hx : c.sc.names.lookup x = some .local ∨ (c.sc.names.lookup x = some .cell ∧ c.top = true) := by first | exact Or.inl rfl | exact Or.inr ⟨rfl, rfl⟩) (hy : c.sc.names.lookup y = some .local ∨ (c.sc.names.lookup y = some .cell ∧ c.top = true) := by first | exact Or.inl rfl | exact Or.inr ⟨rfl, rfl⟩) (hz : c.sc.names.lookup z = some .local ∨ (c.sc.names.lookup z = some .cell ∧ c.top = true) := by first | exact Or.inl rfl | exact Or.inr ⟨rfl, rfl⟩)
    (hst : ∀ env, (assignEach [.Name x px, .Name y py, .Name z pz] env).findIdx? (·.1) = none := by intro _; rfl) : RG c (.Tuple [.Name x px, .Name y py, .Name z pz] kt pt) v σ H R := by
  obtain ⟨a, xs, rfl, ht, hd⟩ := hv.tupE
  obtain _ | ⟨h1, hd⟩ := hd
  obtain _ | ⟨h2, hd⟩ := hd
  obtain _ | ⟨h3, hd⟩ := hd
  cases hd
  exact g_tup ht (gs_cons (g_name hi (gs_cons (g_name hj (gs_cons (g_name hl (gs_nil (q _ _ _ h1 h2 h3)) hz)) hy)) hx)) rfl (fun _ => rfl) hst
end
end G

namespace G
open PySem PySem.Spec PyProof.Rows L2
/-- a tuple's object as the built-in makes it -/
def BareT (ob : Obj) : Prop := ob.cls = .type "tuple" ∧ ob.dict = none
/-- none, or a tuple of data whose object is known to be bare -/
def Fz (K : PySem.W.Frag) (H : Hp) (v : V) (d : PyData) : Prop := (v = .non ∧ d = .none) ∨ ∃ a ob us ds, v = .ref a ∧ d = .tuple ds ∧ H a = some (.frz ob (.tup us)) ∧ BareT ob ∧ DtAll K H us ds
theorem Fz.mono {K : PySem.W.Frag} {H H' : Hp} {v : V} {d : PyData} (e : Tp H H') (h : Fz K H v d) : Fz K H' v d := by
  rcases h with h | ⟨a, ob, us, ds, h1, h2, h3, h4, h5⟩
  · exact .inl h
  · exact .inr ⟨a, ob, us, ds, h1, h2, e.f _ _ _ h3, h4, h5.mono e⟩
theorem Fz.dt {K : PySem.W.Frag} {H : Hp} {v : V} {d : PyData} (h : Fz K H v d) : Dt K H v d := by
  rcases h with ⟨rfl, rfl⟩ | ⟨a, ob, us, ds, rfl, rfl, h3, h4, h5⟩
  · exact .non
  · exact .tup (.inl (.inr ⟨ob, h3⟩)) h5
theorem Fz.tup {K : PySem.W.Frag} {H : Hp} {v : V} {ds : List PyData} (h : Fz K H v (.tuple ds)) : ∃ a ob us, v = .ref a ∧ H a = some (.frz ob (.tup us)) ∧ BareT ob ∧ DtAll K H us ds := by
  rcases h with ⟨_, h⟩ | ⟨a, ob, us, es, h1, h2, h3⟩
  · cases h
  · cases h2
    exact ⟨a, ob, us, h1, h3⟩
section
variable {X : Cx}
theorem cr_tupF : CallR X (.type "tuple") (fun vs H Q => ∃ l zs, vs = [.ref l] ∧ SqL X.K H l zs ∧ ∀ t ob, H t = none → BareT ob → Q (.ref t) (upd H t (.frz ob (.tup zs)))) := by
  rintro pins s σ H vs us Q I rv ⟨l, zs, rfl, hl, k⟩
  obtain ⟨w, rfl, rw0⟩ := vals1 rv
  cases rw0
  obtain ⟨ws, rz, plain, short⟩ := I.list hl
  have same := rz.length
  refine call_tuple_list plain.isList (fun hp kept => ?_) (by rw [List.size_toArray] <;> omega)
  have J : Inv X pins σ H { s with heap := hp } := I.kept (t' := s.toks) kept
  refine ⟨.ref hp.objs.size, _, J.laid (o := .frz { cls := .type "tuple", data := .seq ws.toArray } (.tup zs)) (t' := s.toks) (h' := hp.push { cls := .type "tuple", data := .seq ws.toArray }) (fun b o e => Heap.get?_push_of_some _ e) (Nat.le_refl _) ?_, rfl, k _ _ (J.hok.fresh (Nat.le_refl _)) ⟨rfl, rfl⟩⟩
  exact ⟨Heap.get?_push_size _ rfl, short, ws, rz, IsTup.new _ _⟩
end
section
variable {c : Cd} {σ : L2.St} {H : Hp} {Q : VK} {pos : Pos}
theorem rc_tupF {l : Addr} {ys : List V} {ds : List PyData} (hl : SqL c.K H l ys) (hd : DtAll c.K H ys ds) (q : ∀ v H2, Same H H2 → Dt c.K H2 v (.tuple ds) → Fz c.K H2 v (.tuple ds) → Q v H2) : RC c (.type "tuple") [.ref l] H Q :=
  rc_of (r := fun vs H Q => ∃ l zs, vs = [.ref l] ∧ SqL c.K H l zs ∧ ∀ t ob, H t = none → BareT ob → Q (.ref t) (upd H t (.frz ob (.tup zs)))) (fun X h => by rw [← h.K]; exact cr_tupF) ⟨l, ys, rfl, hl, fun t ob hn hb => q _ _ (same_new hn) (.tup (.inl (.inr ⟨ob, upd_same⟩)) (hd.mono (tp_same (same_new hn)))) (.inr ⟨t, ob, ys, ds, rfl, rfl, upd_same, hb, hd.mono (tp_same (same_new hn))⟩)⟩
/-- a def that changes nothing and answers with none or a bare tuple -/
def spZ (R : List PyData → PyData → Prop) (K : PySem.W.Frag) : Sp := fun vs H Q _ => ∃ ds d, DtAll K H vs ds ∧ R ds d ∧ ∀ v H', Same H H' → Dt K H' v d → Fz K H' v d → Q v H'
theorem e_callZ {x : Str} {p : Pos} {e : Expr} {es : List Expr} {ps : List Str} {k : Nat} {R : List PyData → PyData → Prop} (D : Dc c.toMd x ps k (spZ R c.K)) (q : RA c (e :: es) σ H fun vs H1 => ∃ ds d, DtAll c.K H1 vs ds ∧ R ds d ∧ ∀ v H', Same H1 H' → Dt c.K H' v d → Fz c.K H' v d → Q v H') (hk : k ≤ c.k := by exact Nat.le_of_ble_eq_true rfl) (hg : c.sc.names.lookup x = some .globalImplicit := by rfl)
    (hdb : (x == ("__debug__" : Str)) = false := by decide) (he : ∀ env, starEach (e :: es) env = (false, eval e env) :: starEach es env := by intro _; rfl) (hpl : ∀ env, (backTo pos (starEach es env)).any (·.1) = false := by intro _; rfl) :
    RE c (.Call (.Name x p) (e :: es) [] pos) σ H Q := e_call D q hk hg hdb he hpl
end
end G

/-! for in a generator's body -/
namespace GF
open PySem
section
variable {M : Model} {A : Around} {R : GenEnd} {Y : Protocol} {n : Nat} {s₀ : Shared} {c : Code} {fs : List Frame} {s : Shared} {env : Env}
  {K : Flow → Sem PySem.Fin} {H : Value → Sem PySem.Fin} {gd : Bool → Bool} {lv : List Value → List Value}
theorem seg_For {target iter : Expr} {body orelse : List Stmt} {pos : Pos}
    (h : wpAny M (A.over c fs) (eval iter env) (fun x s₁ => wpAny M (A.over c fs) (pyIter x) (fun it s₂ => ∀ p,
      Seg M A R Y n s₀ (.forLoop target it body orelse env) (M.den (.forLoop target it body orelse env))
      (.ret (fun r => ((match r with | .ok f => (.pure f : Sem Flow) | .error e => .raise e).onRaise fun (x : Value) => do
        if (← field x 1) == Value.none then unsupported "frame.own-activation:exception-without-traceback"
        setFlight x env.frame).wrap K H gd lv) none (gd false) (lv []) c p [] :: fs) s₂) (fun x s' => Seg M A R Y n s₀ c (H x) fs s') s₁) (fun x s' => Seg M A R Y n s₀ c (H x) fs s') s)
    (hs : ∀ x, foldedSetIterable iter env x = pure x) :
    Seg M A R Y n s₀ c ((exec (.For target iter body orelse pos) env).wrap K H gd lv) fs s := by
  rw [exec_For]
  refine seg_at ?_
  show Seg M A R Y n s₀ c ((eval iter env >>= fun v => (foldedSetIterable iter env v >>= fun x => (standAt iter.pos >>= fun _ => (holding [x] (pyIter x) >>= fun it => runOwn (.forLoop target it body orelse env) env)))).wrap K H gd lv) fs s
  rw [Sem.bind_eq_wrap', Sem.wrap_wrap]
  refine seg_wrap (wpAny_mono h (fun x s1 h1 => ?_) fun _ _ z => z)
  rw [hs x]
  refine seg_at ?_
  show Seg M A R Y n s₀ c ((holding [x] (pyIter x) >>= fun it => runOwn (.forLoop target it body orelse env) env).wrap K H gd lv) fs s1
  rw [Sem.bind_eq_wrap', Sem.wrap_wrap]
  refine seg_wrap (wpAny_holding (wpAny_mono h1 (fun it s2 h2 => ?_) fun _ _ z => z))
  exact seg_call h2
end
section
variable {prog : Program} {w : World} {A : Around} {R : GenEnd} {Y : Protocol} {n : Nat} {s₀ : Shared} {fs : List Frame} {s : Shared} {env : Env}
/-- an exception within the loop's code -/
abbrev Out (prog : Program) (w : World) (A : Around) (R : GenEnd) (Y : Protocol) (n : Nat) (s₀ : Shared) (c : Code) (fs : List Frame) (env : Env) (x : Value) (s' : Shared) : Prop :=
  Seg (model prog w) A R Y n s₀ c ((do noteFrame x env; theTreesLotGoes x : Sem Unit).wrap (fun _ => .raise x) .raise id id) fs s'
theorem seg_forLoop {target : Expr} {it : Value} {body : List Stmt}
    (h : wpAny (model prog w) (A.over (.forLoop target it body [] env) fs) (pyNext it) (fun r s₁ => match r with
      | none => Seg (model prog w) A R Y n s₀ (.block [] env) ((model prog w).den (.block [] env)) fs s₁
      | some v => wpAny (model prog w) (A.over (.forLoop target it body [] env) fs) (letOwnedTupleGo target it v) (fun _ s₁' => wpAny (model prog w) (A.over (.forLoop target it body [] env) fs) (assign target env v) (fun _ s₂ =>
          Seg (model prog w) A R Y n s₀ (.forLoop target it body [] env) ((execs body env).wrap (fun f => match f with
            | .next | .cont => .pure (.again (.forLoop target it body [] env))
            | .brk => .pure (.done .next)
            | .ret v => .pure (.done (.ret v))) (fun e => (do noteFrame e env; theTreesLotGoes e : Sem Unit).wrap (fun _ => .raise e) .raise id id) id id) fs s₂)
          (Out prog w A R Y n s₀ (.forLoop target it body [] env) fs env) s₁') (Out prog w A R Y n s₀ (.forLoop target it body [] env) fs env) s₁)
      (Out prog w A R Y n s₀ (.forLoop target it body [] env) fs env) s) :
    Seg (model prog w) A R Y n s₀ (.forLoop target it body [] env) ((model prog w).den (.forLoop target it body [] env)) fs s := by
  show Seg _ A R Y n s₀ _ ((forTurn target it body [] env).onRaise (fun x => do noteFrame x env; theTreesLotGoes x)) fs s
  unfold forTurn
  rw [Sem.onRaise_eq_wrap]
  refine seg_at ?_
  have out : ∀ {x : Value} {s' : Shared}, Out prog w A R Y n s₀ (.forLoop target it body [] env) fs env x s' → Seg (model prog w) A R Y n s₀ (.forLoop target it body [] env) ((do noteFrame x env; theTreesLotGoes x : Sem Unit).bind fun _ => .raise x) fs s' := fun {x s'} hx => by
    rw [Sem.bind_eq_wrap]
    exact hx
  show Seg _ A R Y n s₀ _ (((pyNext it).onRaise (fun _ => standAt { target.pos with line := 0 }) >>= fun r => (match r with
    | none => again (.block [] env)
    | some v => (letOwnedTupleGo target it v >>= fun _ => (assign target env v >>= fun _ => (execs body env >>= fun f => (match f with
      | .next => again (.forLoop target it body [] env)
      | .cont => again (.forLoop target it body [] env)
      | .brk => pure (.done .next)
      | .ret v => pure (.done (.ret v)) : Sem PySem.Fin)))) : Sem PySem.Fin)).wrap .pure (fun e => (do noteFrame e env; theTreesLotGoes e : Sem Unit).bind fun _ => .raise e) id id) fs s
  rw [Sem.bind_eq_wrap', Sem.wrap_wrap]
  refine seg_wrap (wpAny_onRaise (wpAny_mono h (fun r s1 h1 => ?_) fun x s' hx => wpAny_standAt (out hx)))
  cases r with
  | none => exact seg_again rfl h1
  | some v =>
    show Seg _ A R Y n s₀ _ ((letOwnedTupleGo target it v >>= fun _ => (assign target env v >>= fun _ => (execs body env >>= fun f => (match f with
      | .next => again (.forLoop target it body [] env)
      | .cont => again (.forLoop target it body [] env)
      | .brk => pure (.done .next)
      | .ret v => pure (.done (.ret v)) : Sem PySem.Fin)))).wrap .pure (fun e => (do noteFrame e env; theTreesLotGoes e : Sem Unit).bind fun _ => .raise e) id id) fs s1
    rw [Sem.bind_eq_wrap', Sem.wrap_wrap]
    refine seg_wrap (wpAny_mono h1 (fun _ s2 h2 => ?_) fun x s' hx => out hx)
    rw [Sem.bind_eq_wrap', Sem.wrap_wrap]
    refine seg_wrap (wpAny_mono h2 (fun _ s3 h3 => ?_) fun x s' hx => out hx)
    rw [Sem.bind_eq_wrap', Sem.wrap_wrap]
    rw [Sem.wrap_congr (execs body env) _ _ (K' := fun f => match f with
          | .next | .cont => .pure (.again (.forLoop target it body [] env))
          | .brk => .pure (.done .next)
          | .ret v => .pure (.done (.ret v))) (H' := (fun e => (do noteFrame e env; theTreesLotGoes e : Sem Unit).wrap (fun _ => .raise e) .raise id id))
      (fun f => by cases f <;> rfl)
      (fun e => by first | exact Sem.bind_eq_wrap _ _ | (show (do noteFrame e env; theTreesLotGoes e : Sem Unit).bind (fun _ => .raise e) = _; rw [Sem.bind_eq_wrap]))]
    exact h3
end
end GF

namespace L2
open PySem PySem.Spec PyProof.Rows GenW
section
variable {X : Cx} {tg : Expr}
def tGFor (wi : TI) (g : TG) (tb : TGn) : TGn := fun D ys σ H => wi σ H fun J H1 => ∃ W : Nat → Nat → List V → St → Hp → Prop, (∃ m, W 0 m ys σ H1) ∧ ∀ i m ys σ H, W i m ys σ H →
  (J.stop i H ∧ D.nx ys σ H) ∨ (J.go i H ∧ ∃ N : List V → St → Hp → Prop, (∀ ys' σ' H', N ys' σ' H' → ∃ m', m' < m ∧ W (i + 1) m' ys' σ' H') ∧ ∀ x H', J.yld i H x H' → g x σ H' fun σ2 H2 => tb { D with nx := N, ct := N, bk := D.nx } ys σ2 H2)
theorem gs_for {iter : Expr} {body : List Stmt} {wi : TI} {g : TG} {tb : TGn} {pos : Pos} (hp : PassesOwn (model X.prog X.w) X.A X.env X.xe) (hc : X.calm = true) (hi : PI X tg iter wi) (hg : PG X tg g) (hb : GSs X body tb)
    (hs : ∀ x, foldedSetIterable iter X.env x = pure x := by intro _; rfl) : GS X (.For tg iter body [] pos) (tGFor wi g tb) := by
  refine ⟨fun A S ip R n ys s₀ c fs K J gd lv s σ H D g0 hn k hI ht => ?_⟩
  obtain ⟨acc0, cc0, r0, I0⟩ := hI
  refine GF.seg_For ?_ hs
  rw [g0.over]
  refine wpAny_mono (hi.run _ s σ H _ I0 ht) (fun v s1 h1 => wpAny_mono h1 (fun itv s2 h2 => ?_) fun x s' hx => k.exc n s₀ x s' hx) fun x s' hx => k.exc n s₀ x s' hx
  obtain ⟨it, fp, tn, Jt, H2, e, I2, T, st2, f2, W, ⟨m0, w0⟩, turn⟩ := h2
  subst e
  intro p
  have gl := fun (kk : Result → Sem PySem.Fin) => gc_loop (k := kk) (c' := .forLoop tg (.ref it) body [] X.env) (l := lv []) (kp := []) (p := p) g0 rfl rfl
  have stat : ∀ {acc : Array Value} {cc : Nat} {H' : Hp}, (∀ b ∈ fp, H' b = none) → ∀ b ∈ fp, FpOk X ((S, lstObj acc cc) :: ip) H' b := fun {acc cc H'} hn b hb => by
    obtain ⟨_, f3, f4, f5, f6, f7⟩ := f2 b hb
    refine ⟨hn b hb, f3, f4, f5, f6, fun q hq => ?_⟩
    rcases List.mem_append.mp hq with z | z
    · exact f7 q (List.mem_append_left _ z)
    · rcases List.mem_cons.mp z with z | z
      · subst z
        exact f7 (S, lstObj acc0 cc0) (List.mem_append_right _ (List.mem_cons_self ..))
      · exact f7 q (List.mem_append_right _ (List.mem_cons_of_mem _ z))
  have apartS : ∀ b ∈ fp, b ≠ S := fun b hb z => by
    obtain ⟨_, _, _, _, _, f7⟩ := f2 b hb
    exact f7 (S, lstObj acc0 cc0) (List.mem_append_right _ (List.mem_cons_self ..)) z.symm
  have loop : ∀ (m i n : Nat) (ys : List V) (s₀ s : Shared) (σ : St) (H : Hp), n + ys.length = sizeLine → W i m ys σ H → GI X S ip ys σ H s → tn i s.heap → (∀ b ∈ fp, H b = none) →
      Seg (model X.prog X.w) A R (GY X S) n s₀ (.forLoop tg (.ref it) body [] X.env) ((model X.prog X.w).den (.forLoop tg (.ref it) body [] X.env))
        (.ret (fun r => ((match r with | .ok f => (.pure f : Sem Flow) | .error e => .raise e).onRaise (cameBack X.env)).wrap K J gd lv) none (gd false) (lv []) c p [] :: fs) s := by
    intro m
    induction m using Nat.strongRecOn with
    | ind m ih =>
      intro i n ys s₀ s σ H hn w hI st fr
      have ee : ∀ (n : Nat) (s₀ : Shared) (x : Value) (s' : Shared), X.xe x s' → GF.Out X.prog X.w A R (GY X S) n s₀ (.forLoop tg (.ref it) body [] X.env)
          (.ret (fun r => ((match r with | .ok f => (.pure f : Sem Flow) | .error e => .raise e).onRaise (cameBack X.env)).wrap K J gd lv) none (gd false) (lv []) c p [] :: fs) X.env x s' := fun n s₀ x s' hx => by
        refine seg_wrap ?_
        rw [(gl _).over]
        refine wpAny_bind (wpAny_mono (hp x s' hx) (fun _ s'' hcb => wpAny_theTreesLotGoes ?_) fun y s'' hcb => ?_)
        · exact seg_leaf (.error x) (seg_cameBack g0 k hcb)
        · exact seg_leaf (.error y) (seg_cameBack g0 k hcb)
      refine GF.seg_forLoop ?_
      rw [(gl _).over]
      obtain ⟨acc, cc, r, I⟩ := hI
      rcases turn i m ys σ H w with ⟨stop, qn⟩ | ⟨go, N, hN, step⟩
      · refine wpAny_mono (T.done X rfl rfl rfl hc i _ s σ H X.xe I (stat fr) st stop) (fun r1 s4 hr4 => ?_) fun x s' hx => ee n s₀ x s' hx
        obtain ⟨hr, I4⟩ := hr4
        subst hr
        exact seg_leaf (.ok .next) (k.ok n ys s₀ s4 .next hn ⟨σ, H, ⟨acc, cc, r, I4⟩, qn⟩)
      · refine wpAny_mono (T.item X rfl rfl rfl hc i _ s σ H X.xe I (stat fr) st go) (fun r1 s4 hr4 => ?_) fun x s' hx => ee n s₀ x s' hx
        obtain ⟨u, hr, h4⟩ := hr4
        subst hr
        refine wpAny_mono h4 (fun _ s5 h5 => ?_) fun x s' hx => ee n s₀ x s' hx
        obtain ⟨x, H5, I5, r5, y5, st5, fr5⟩ := h5
        have I5' := I5.pinned (stat fr5) (T.obj _ _ st5)
        refine wpAny_mono (hg.run _ s5 σ H5 x u _ I5' r5 (step x H5 y5)) (fun _ s6 h6 => ?_) fun x s' hx => ee n s₀ x s' hx
        obtain ⟨σ6, H6, I6, q6⟩ := h6
        have gl2 := fun (kk : Result → Sem PySem.Fin) => gl kk
        refine hb.run A S (ip ++ pinsAt fp s5.heap) R n ys s₀ _ _ _ _ id id s6 σ6 H6 { D with nx := N, ct := N, bk := D.nx } ⟨g0.pn, fun q hq => ?_, g0.apart, (gl _).over, (gl _).split, (gl _).guard, rfl⟩ hn ⟨fun n' ys' s₀' s7 f hn' hs => ?_, fun n' s₀' x s7 hx => ee n' s₀' x s7 hx⟩ ⟨acc, cc, r, I6⟩ q6
        · rcases List.mem_append.mp hq with z | z
          · exact g0.ip q z
          · exact apartS _ (of_pinsAt z).1
        have back : ∀ {σ7 : St} {H7 : Hp}, GI X S (ip ++ pinsAt fp s5.heap) ys' σ7 H7 s7 → GI X S ip ys' σ7 H7 s7 ∧ tn (i + 1) s7.heap ∧ ∀ b ∈ fp, H7 b = none := fun {σ7 H7} z => by
          obtain ⟨acc7, cc7, r7, I7⟩ := z
          refine ⟨⟨acc7, cc7, r7, Inv.unpinned (pl := pinsAt fp s5.heap) I7⟩, T.keep _ _ _ st5 fun b hb o e => ?_, fun b hb => ?_⟩
          · exact (I7.pin (b, o) (List.mem_append_right _ (List.mem_cons_of_mem _ (List.mem_append_right _ (mem_pinsAt hb e))))).1
          · obtain ⟨o, e, d⟩ := T.obj _ _ st5 b hb
            exact (I7.pin (b, o) (List.mem_append_right _ (List.mem_cons_of_mem _ (List.mem_append_right _ (mem_pinsAt hb e))))).2.1
        cases f with
        | next =>
          obtain ⟨σ7, H7, I7, n7⟩ := hs
          obtain ⟨m', hm, w7⟩ := hN ys' σ7 H7 n7
          obtain ⟨J7, t7, fr7⟩ := back I7
          exact seg_again rfl (ih m' hm (i + 1) n' ys' s₀' s7 σ7 H7 hn' w7 J7 t7 fr7)
        | cont =>
          obtain ⟨σ7, H7, I7, n7⟩ := hs
          obtain ⟨m', hm, w7⟩ := hN ys' σ7 H7 n7
          obtain ⟨J7, t7, fr7⟩ := back I7
          exact seg_again rfl (ih m' hm (i + 1) n' ys' s₀' s7 σ7 H7 hn' w7 J7 t7 fr7)
        | brk =>
          obtain ⟨σ7, H7, I7, n7⟩ := hs
          exact seg_leaf (.ok .next) (k.ok n' ys' s₀' s7 .next hn' ⟨σ7, H7, (back I7).1, n7⟩)
        | ret v =>
          obtain ⟨x7, σ7, H7, I7, r7, n7⟩ := hs
          exact seg_leaf (.ok (.ret v)) (k.ok n' ys' s₀' s7 (.ret v) hn' ⟨x7, σ7, H7, (back I7).1, r7, n7⟩)
  exact loop m0 0 n ys s₀ s2 σ H2 hn w0 ⟨acc0, cc0, r0, I2⟩ st2 fun b hb => (f2 b hb).1
end
end L2

/-! if in a generator's body -/
namespace GF
open PySem PySem.Spec PyProof.Rows L2 GenW
def tGIf (tc : TT) (tb te : TGn) : TGn := fun D ys σ H => tc σ H fun k H1 => if k = true then tb D ys σ H1 else te D ys σ H1
theorem gs_if {X : Cx} {test : Expr} {body orelse : List Stmt} {pos : Pos} {tc : TT} {tb te : TGn} (hc : PT X test tc) (hb : GSs X body tb) (he : GSs X orelse te) : GS X (.If test body orelse pos) (tGIf tc tb te) := by
  refine ⟨fun A S ip R n ys s₀ c fs K J gd lv s σ H D g hn k hI ht => ?_⟩
  obtain ⟨acc, cc, r, I⟩ := hI
  rw [exec_If]
  refine seg_at ?_
  show Seg _ A R (GY X S) n s₀ c ((PySem.isTrue test X.env (eval test X.env) >>= fun b => if b = true then execs body X.env else execs orelse X.env).wrap K J gd lv) fs s
  rw [Sem.bind_eq_wrap', Sem.wrap_wrap]
  refine seg_wrap ?_
  rw [g.over]
  refine wpAny_mono (hc.run _ s σ H _ I ht) (fun b s' hb' => ?_) fun x s' hx => k.exc n s₀ x s' hx
  obtain ⟨H2, I2, q2⟩ := hb'
  cases b with
  | true =>
    rw [if_pos rfl] at q2
    exact hb.run A S ip R n ys s₀ c fs K J gd lv s' σ H2 D g hn k ⟨acc, cc, r, I2⟩ q2
  | false =>
    rw [if_neg Bool.false_ne_true] at q2
    exact he.run A S ip R n ys s₀ c fs K J gd lv s' σ H2 D g hn k ⟨acc, cc, r, I2⟩ q2
end GF

open PySem L2 G
local macro_rules | `(tactic| tm_at "at") => `(tactic| (first | with_reducible exact At.z | (with_reducible apply At.s; tm_at "at")))
local macro_rules | `(tactic| tm_at "tp") => `(tactic| (first
  | exact Tp.refl _
  | assumption
  | exact tp_same (by assumption)
  | exact Kp.t (by assumption)
  | (refine Tp.trans ?_ (tp_same (by assumption)); tm_at "tp")
  | (refine Tp.trans ?_ (Kp.t (by assumption)); tm_at "tp")
  | (refine Tp.trans ?_ (tp_same (same_new (by assumption))); tm_at "tp")))
local macro_rules | `(tactic| tm_at "same") => `(tactic| (first
  | exact Same.refl _
  | assumption
  | (refine Same.trans ?_ (by assumption); tm_at "same")
  | (refine Same.trans ?_ (same_new (by assumption)); tm_at "same")))
local macro_rules | `(tactic| tm_at "dt") => `(tactic| (first
  | assumption
  | exact Dt.int _ | exact Dt.str _ | exact Dt.bl _ | exact Dt.non
  | (refine Dt.mono ?_ (by assumption); tm_at "tp")))
local macro_rules | `(tactic| tm_at "dts") => `(tactic| (first
  | exact DtAll.nil
  | (with_reducible apply DtAll.cons; tm_at "dt"; tm_at "dts")))
local macro_rules | `(tactic| tm_at "s") => `(tactic| first
  | (refine gRE ?_; first | refine e_var (by tm_at "at") ?_ | refine e_int ?_ | refine e_str ?_ | refine e_non ?_ | refine e_bl ?_ | refine e_bin ?_ | refine e_cmp ?_ | refine e_chain ?_ | refine e_dgetS ?_ | refine e_sliceS ?_ | refine e_slice ?_ | refine e_ix ?_ | refine e_not ?_ | refine e_bo1 ?_ | refine e_or ?_ | refine e_and ?_ | refine e_un ?_ | refine e_if ?_ | refine e_callB (id := "isinstance") (by with_reducible exact Bl.isinst (by assumption)) (by decide +kernel) ?_ | refine e_bltn (v := .ty "int") (u := .type "int") (by with_reducible exact Bl.int (by assumption)) (by decide +kernel) rfl ?_ | refine e_bltn (v := .ty "str") (u := .type "str") (by with_reducible exact Bl.str (by assumption)) (by decide +kernel) rfl ?_ | refine e_bltn (v := .ty "bool") (u := .type "bool") (by with_reducible exact Bl.bool (by assumption)) (by decide +kernel) rfl ?_ | refine e_bltn (v := .ty "tuple") (u := .type "tuple") (by with_reducible exact Bl.tuple (by assumption)) (by decide +kernel) rfl ?_ | refine e_callT (T := "int") (by with_reducible exact Bl.int (by assumption)) (by decide +kernel) ?_ | refine e_callB (id := "len") (by with_reducible exact Bl.len (by assumption)) (by decide +kernel) ?_ | refine e_callB (id := "max") (by with_reducible exact Bl.max (by assumption)) (by decide +kernel) ?_ | refine e_callB (id := "min") (by with_reducible exact Bl.min (by assumption)) (by decide +kernel) ?_ | refine e_callT (T := "tuple") (by with_reducible exact Bl.tuple (by assumption)) (by decide +kernel) ?_ | refine e_callT (T := "dict") (by with_reducible exact Bl.dict (by assumption)) (by decide +kernel) ?_ | refine e_callB (id := "sorted") (by with_reducible exact Bl.sorted (by assumption)) (by decide +kernel) ?_ | refine e_callT (T := "list") (by with_reducible exact Bl.list (by assumption)) (by decide +kernel) ?_)
  | (refine gRA ?_; first | refine a_cons ?_ | refine a_nil ?_)
  | (refine gRX ?_; first | refine rx_int (by tm_at "dt") (by rfl) ?_ | refine rx_str (by tm_at "dt") (by rfl) ?_ | refine rx_bl (by tm_at "dt") (by rfl) ?_)
  | (refine gRQ ?_; first | refine ro_eqI ?_ | refine ro_eqS ?_ | refine ro_eqB ?_ | refine ro_neI ?_ | refine ro_lt ?_ | refine ro_le ?_ | refine ro_gt ?_ | refine ro_ge ?_ | refine ro_isN ?_ | refine ro_notN ?_)
  | (refine gRS ?_; first | refine s_ret ?_ | refine s_if ?_ | refine s_retN ?_ | refine s_dputS ?_ | refine s_par2 (by tm_at "at") (by tm_at "at") ?_ | refine s_par3 (by tm_at "at") (by tm_at "at") (by tm_at "at") ?_ | refine s_set (by tm_at "at") ?_)
  | (refine gRT ?_; first | refine t_cmp ?_ | refine t_chain ?_ | refine t_not ?_ | refine t_w (e := .BoolOp _ _ _) ?_)
  | (refine gRW ?_; first | refine w_and ?_ | refine w_or ?_ | refine w_and1 ?_ | refine w_or1 ?_)
  | (refine gRO ?_; first | refine ro_add ?_ | refine ro_sub ?_)
  | (refine gRC ?_; first | refine rc_max2 ?_ | refine rc_min2 ?_ | refine rc_intI ?_ | refine rc_intB ?_)
  | (refine gRG ?_; first | refine g_name (by tm_at "at") ?_)
  | (refine gRPo ?_; first | refine p_none ?_ | refine p_some ?_)
  | (refine gRU ?_; first | refine ru_neg ?_)
  | with_reducible refine ⟨_, rfl, ?_⟩
  | with_reducible refine ifT rfl ?_)
local macro_rules | `(tactic| tm_at "run") => `(tactic| repeat tm_at "s")
local macro_rules | `(tactic| tm_at "go") => `(tactic| repeat (first | tm_at "s" | (refine gRB ?_; first | refine b_one ?_ | refine b_cons ?_ | refine b_nil ?_)))

namespace K
open PySem L2 G
variable {M : Md}
def preDraw : List PyData → Prop := fun ds => ∃ m : Int, ds = [.int m] ∧ 0 < m ∧ m < 1000
def rDraw : List PyData → PyData → Prop := fun ds d => ∃ m r : Int, ds = [.int m] ∧ d = .int r ∧ 0 ≤ r ∧ r < m
theorem ok_draw {f fd} (F : Fun M.K "_law_draw" "_law_draw" s__law_draw f fd) (b : Bl M) : FnG M.prog M.w M.K M.mg M.base CX0 1 f fd ["_law_feed_here", "_law_many_here"] (spD preDraw rDraw M.K) := by
  refine fn_ok F sc__law_draw (spD_len (n := 1) (by rintro ds ⟨m, rfl, _⟩; rfl)) (fun H vs Q E h => ?_)
  obtain ⟨fp, cl, rest, ds, rfl, ⟨ns, at0, left, count, h1, h2, h3⟩, hds, ⟨m, rfl, m0, m1⟩, k⟩ := h
  obtain _ | ⟨hm, hds⟩ := hds
  cases hds
  cases hm
  have ncl : cl ≠ fp := fun e => by rw [e, h1] at h2; cases h2
  tm_at "go"
  refine ⟨_, _, _, rfl, h1, fkv_3, ?_⟩
  tm_at "run"
  refine ⟨_, _, rfl, h1, by rw [fkv_len]; decide, ?_⟩
  rw [fput_3]
  have k1 : Kp fp H (upd H fp (.dK (fkv (.ref cl) at0 left (count + 1)))) := kp_fd h1
  have g1 : (upd H fp (.dK (fkv (.ref cl) at0 left (count + 1)))) fp = _ := upd_same
  generalize upd H fp (.dK (fkv (.ref cl) at0 left (count + 1))) = H1 at *
  have n1 := k1.k cl _ ncl h2
  tm_at "go"
  refine ⟨_, _, _, rfl, g1, fkv_0, ?_⟩
  refine e_lst ?_
  tm_at "run"
  refine ⟨by decide, fun pe hpe => ?_⟩
  have s3 : Same H1 (upd H1 pe (.lst [])) := same_new hpe
  have g3 : (upd H1 pe (.lst [])) pe = some (.lst []) := upd_same
  have k1 := k1.trans (kp_same s3)
  have g1 := s3 _ _ g1
  have n1 := s3 _ _ n1
  generalize upd H1 pe (.lst []) = H2 at *
  refine ro_eqD (.lst (SqL.of n1) (dpInts ns)) (.lst (SqL.of g3) .nil) (shInts ns) (by decide) ?_
  refine ⟨_, rfl, ifb (fun e => ?_) (fun e => ?_)⟩
  · tm_at "go"
    refine ⟨_, _, _, rfl, g1, fkv_3, ?_⟩
    tm_at "go"
    refine ro_mod m0 ?_
    exact k (.int _) _ _ ⟨m, _, rfl, rfl, Int.emod_nonneg _ (by omega), Int.emod_lt_of_pos _ m0⟩ k1 ⟨ns, _, _, _, g1, n1, h3⟩ (.int _)
  have hn : 0 < ns.length := by
    cases ns with
    | nil => exact absurd e (by decide)
    | cons => exact Nat.succ_pos _
  tm_at "go"
  refine ⟨_, _, _, rfl, g1, fkv_2, ?_⟩
  tm_at "run"
  refine ifd (fun c1 => ?_) (fun c1 => ?_)
  · tm_at "go"
    refine ⟨_, _, _, rfl, g1, fkv_2, ?_⟩
    tm_at "run"
    refine ro_mod m0 ?_
    tm_at "go"
    refine ⟨_, _, _, rfl, g1, fkv_2, ?_⟩
    tm_at "run"
    refine ro_div m0 (by omega) ?_
    tm_at "run"
    refine ⟨_, _, rfl, g1, by rw [fkv_len]; decide, ?_⟩
    rw [fput_2]
    have k2 := k1.trans (kp_fd (o' := .dK (fkv (.ref cl) at0 (left / m) (count + 1))) g1)
    have n2 := k2.k cl _ ncl h2
    tm_at "go"
    refine k (.int (left % m)) _ _ ⟨m, _, rfl, rfl, Int.emod_nonneg _ (by omega), Int.emod_lt_of_pos _ m0⟩ k2 ⟨ns, _, _, _, upd_same, n2, h3⟩ (.int _)
  tm_at "go"
  refine ⟨_, _, _, rfl, g1, fkv_1, ?_⟩
  tm_at "go"
  refine ⟨_, _, rfl, g1, by rw [fkv_len]; decide, ?_⟩
  rw [fput_1]
  have k2 : Kp fp H (upd H2 fp (.dK (fkv (.ref cl) (at0 + 1) left (count + 1)))) := k1.trans (kp_fd g1)
  have g2 : (upd H2 fp (.dK (fkv (.ref cl) (at0 + 1) left (count + 1)))) fp = _ := upd_same
  generalize upd H2 fp (.dK (fkv (.ref cl) (at0 + 1) left (count + 1))) = H3 at *
  have n2 := k2.k cl _ ncl h2
  tm_at "go"
  refine ⟨_, _, _, rfl, g2, fkv_0, ?_⟩
  tm_at "run"
  refine ⟨_, _, _, rfl, g2, fkv_0, ?_⟩
  tm_at "run"
  refine rc_lenL (SqL.of n2) ?_
  rw [List.length_map]
  refine ro_mod (by omega) ?_
  have lt : (at0 % (ns.length : Int)).toNat < ns.length := by
    have h1 := Int.emod_nonneg at0 (show (ns.length : Int) ≠ 0 by omega)
    have h2 := Int.emod_lt_of_pos at0 (show (0 : Int) < ns.length by omega)
    omega
  refine rx_list (SqL.of n2) (v := .int ns[(at0 % (ns.length : Int)).toNat]) ?_ ?_
  · have h1 := Int.emod_nonneg at0 (show (ns.length : Int) ≠ 0 by omega)
    refine pl_at (j := (at0 % (ns.length : Int)).toNat) (by omega) ?_
    rw [List.getElem?_map, List.getElem?_eq_getElem lt]; rfl
  generalize ns[(at0 % (ns.length : Int)).toNat] = cell
  refine b_cut (fun σ1 H4 => H4 = H3 ∧ σ1 = [some (.ref fp), some (.int m), none, some (.int at0), some (.int cell), none]) ?_ ?_
  · tm_at "run"
    refine ro_pow ⟨by decide, by decide, by decide⟩ ?_
    tm_at "run"
    refine ifd (fun c2 => ?_) (fun c2 => ?_)
    · tm_at "run"
      refine ⟨_, _, _, rfl, g2, fkv_0, ?_⟩
      tm_at "run"
      refine rc_lenL (SqL.of n2) ?_
      tm_at "run"
      refine ifd (fun c3 => ?_) (fun c3 => ?_)
      · tm_at "go"
        refine ro_div m0 (by omega) ?_
        tm_at "run"
        refine ⟨_, _, rfl, g2, by rw [fkv_len]; decide, ?_⟩
        rw [fput_2]
        tm_at "go"
        refine ro_mod m0 ?_
        have k4 := k2.trans (kp_fd (o' := .dK (fkv (.ref cl) (at0 + 1) (cell / m) (count + 1))) g2)
        refine k (.int (cell % m)) _ _ ⟨m, _, rfl, rfl, Int.emod_nonneg _ (by omega), Int.emod_lt_of_pos _ m0⟩ k4 ⟨ns, _, _, _, upd_same, k4.k cl _ ncl h2, h3⟩ (.int _)
      · tm_at "go"
        exact ⟨rfl, rfl⟩
    · tm_at "go"
      exact ⟨rfl, rfl⟩
  rintro _ _ ⟨rfl, rfl⟩
  tm_at "go"
  refine ro_mod (by decide) ?_
  tm_at "go"
  refine ⟨_, _, _, rfl, g2, fkv_3, ?_⟩
  refine ro_mul (.inl ⟨by decide, by decide⟩) ?_
  tm_at "go"
  refine ro_mod (by decide) ?_
  generalize hmx : (cell % 1000001671 + 95317 * (count + 1) + 613) % 2147483549 = mx
  have b1 : 0 ≤ mx ∧ mx < 2147483549 := by rw [← hmx]; exact ⟨Int.emod_nonneg _ (by decide), Int.emod_lt_of_pos _ (by decide)⟩
  tm_at "go"
  refine ro_pow ⟨by decide, by decide, by omega⟩ ?_
  tm_at "go"
  refine ⟨_, _, _, rfl, g2, fkv_3, ?_⟩
  refine ro_mul (.inl ⟨by decide, by decide⟩) ?_
  tm_at "go"
  refine ro_mod (by decide) ?_
  generalize hmy : (mx ^ (3 : Int).toNat + 7300331 * (count + 1) + 313) % 2147483489 = my
  have b2 : 0 ≤ my ∧ my < 2147483489 := by rw [← hmy]; exact ⟨Int.emod_nonneg _ (by decide), Int.emod_lt_of_pos _ (by decide)⟩
  tm_at "go"
  refine ro_pow ⟨by decide, by decide, by omega⟩ ?_
  tm_at "go"
  refine ro_mul (.inl ⟨by decide, by decide⟩) ?_
  tm_at "go"
  refine ro_mod (by decide) ?_
  tm_at "go"
  refine ro_div (by decide) (by decide) ?_
  tm_at "go"
  refine ro_mod m0 ?_
  exact k (.int _) _ _ ⟨m, _, rfl, rfl, Int.emod_nonneg _ (by omega), Int.emod_lt_of_pos _ m0⟩ k2 ⟨ns, _, _, _, g2, n2, h3⟩ (.int _)
/-- a script, and how many rounds it has -/
def spMany (K : PySem.W.Frag) : Sp := fun vs H Q _ => ∃ (a : Addr) (ns : List Int) (n : Int), vs = [.ref a, .int n] ∧ SqL K H a (ns.map V.int) ∧ ∀ H', Same H H' → Q (.int (if ns = [] then 1 else n)) H'
theorem ok_many {f fd} (F : Fun M.K "_law_many" "_law_many" s__law_many f fd) (b : Bl M) : FnG M.prog M.w M.K M.mg M.base CX0 1 f fd ["_law_script", "_law_count"] (spMany M.K) := by
  refine fn_ok F sc__law_many (fun vs H Q E h => ?_) (fun H vs Q E h => ?_)
  · obtain ⟨a, ns, n, rfl, _⟩ := h
    rfl
  obtain ⟨a, ns, n, rfl, hs, k⟩ := h
  tm_at "go"
  refine e_lst ?_
  tm_at "run"
  refine ⟨by decide, fun pe hpe => ?_⟩
  have s3 : Same H (upd H pe (.lst [])) := same_new hpe
  refine ro_neD (.lst (s3.seq hs) (dpInts ns)) (.lst (SqL.of upd_same) .nil) (shInts ns) (by decide) ?_
  refine ⟨_, rfl, ifb (fun e => ?_) (fun e => ?_)⟩
  · have hn : ns ≠ [] := by
      rintro rfl
      exact absurd e (by decide)
    tm_at "go"
    have := k _ s3
    rw [if_neg hn] at this
    exact this
  · have hn : ns = [] := by
      cases ns with
      | nil => rfl
      | cons => exact absurd e (by simp [PyData.eqv, PyData.eqvAll])
    tm_at "go"
    have := k _ s3
    rw [if_pos hn] at this
    exact this
end K

namespace K
open PySem L2 G
def rowD (r : Str × Nat × Int × Int × Bool × Bool × Int) : PyData := .tuple [.str r.1, .int r.2.1, .int r.2.2.1, .int r.2.2.2.1, .bool r.2.2.2.2.1, .bool r.2.2.2.2.2.1, .int r.2.2.2.2.2.2]
abbrev Row := Str × Nat × Int × Int × Bool × Bool × Int
def width (r : Row) : Nat := max 1 r.2.1
def rWidth : List PyData → PyData → Prop := fun ds d => ∃ r : Row, ds = [rowD r] ∧ d = .int (width r)
variable {M : Md}
def hit (r : Row) : Option Int → Int → Option Int
  | none, b => if (r.2.1 : Int) = 0 then some b else none
  | some k, b => if 0 ≤ k ∧ k < r.2.1 then some (b + k) else none
def fIdx : List Row → Str → Option Int → Int → Option Int
  | [], _, _, _ => none
  | r :: rs, nm, key, b => if r.1 = nm then hit r key b else fIdx rs nm key (b + width r)
def optD : Option Int → PyData
  | none => .none
  | some k => .int k
def cellsD (rs : List Row) : PyData := .tuple (rs.map rowD)
def rFound : List PyData → PyData → Prop := fun ds d => ∃ (rs : List Row) (nm : Str) (key : Option Int), ds = [cellsD rs, .str nm, optD key] ∧ d = optD (fIdx rs nm key 0)
def total (rs : List Row) : Nat := (rs.map width).sum
def pairD (r : Row) : PyData := .tuple [.int r.2.2.1, .int r.2.2.2.1]
def rngs (rs : List Row) : List PyData := rs.flatMap fun r => List.replicate (width r) (pairD r)
theorem rngs_len : ∀ rs : List Row, (rngs rs).length = total rs
  | [] => rfl
  | r :: rs => by
    have := rngs_len rs
    simp only [rngs, total, List.flatMap_cons, List.length_append, List.length_replicate, List.map_cons, List.sum_cons] at *
    omega
theorem rngs_snoc {rs : List Row} {i : Nat} {r : Row} (h : rs[i]? = some r) : rngs (rs.take (i + 1)) = rngs (rs.take i) ++ List.replicate (width r) (pairD r) := by
  obtain ⟨h1, rfl⟩ := List.getElem?_eq_some_iff.mp h
  rw [List.take_succ_eq_append_getElem h1, rngs, List.flatMap_append]
  simp [rngs]
theorem total_take (rs : List Row) (i : Nat) : total (rs.take i) ≤ total rs := by
  induction rs generalizing i with
  | nil => simp
  | cons r rs ih =>
    cases i with
    | zero => simp [total]
    | succ i =>
      have := ih i
      simp only [total, List.take_succ_cons, List.map_cons, List.sum_cons] at *
      omega
theorem width_le {rs : List Row} {i : Nat} {r : Row} (h : rs[i]? = some r) : total (rs.take i) + width r ≤ total rs := by
  have h1 := total_take rs (i + 1)
  have h2 := congrArg List.length (rngs_snoc h)
  rw [rngs_len, List.length_append, rngs_len, List.length_replicate] at h2
  omega
theorem dt_rep {K : PySem.W.Frag} {H : Hp} {v : V} {d : PyData} (h : Dt K H v d) : ∀ n : Nat, DtAll K H (List.replicate n v) (List.replicate n d)
  | 0 => .nil
  | n + 1 => .cons h (dt_rep h n)
def rRanges : List PyData → PyData → Prop := fun ds d => ∃ rs : List Row, ds = [cellsD rs] ∧ total rs ≤ 500 ∧ d = .tuple (rngs rs)
end K

namespace K
open PySem L2 G
variable {M : Md}
def rLRanges : List PyData → List PyData → Prop := fun ds es => ∃ rs : List Row, ds = [cellsD rs] ∧ total rs ≤ 500 ∧ es = rngs rs
def preMenu : List PyData → Prop := fun ds => ds = []
def menus : List (List Str) := [["a", "at", "i", "x"], ["big", "if", "t", "when"], ["c", "rule", "set", "y"], ["b", "not", "s", "zzzzzzzz"]]
def rMenu : List PyData → PyData → Prop := fun ds d => ∃ m ∈ menus, d = .tuple (m.map .str)
def rPower : List PyData → PyData → Prop := fun ds d => ∃ (b : Int) (n : Nat), ds = [.int b, .int n] ∧ (0 ≤ b ∧ b ≤ 4) ∧ n ≤ 9 ∧ d = .int (b ^ n)
/-! states -/
abbrev Rng := Int × Int
def rngD (p : Rng) : PyData := .tuple [.int p.1, .int p.2]
def rg (rs : List Row) : List Rng := rs.flatMap fun r => List.replicate (width r) (r.2.2.1, r.2.2.2.1)
theorem rngs_eq (rs : List Row) : rngs rs = (rg rs).map rngD := by
  unfold rngs rg
  induction rs with
  | nil => rfl
  | cons r rs ih =>
    rw [List.flatMap_cons, List.flatMap_cons, List.map_append, ih, List.map_replicate]
    rfl
abbrev St1 := List Int
def stD (s : St1) : PyData := .tuple (s.map .int)
def span (p : Rng) : Nat := (p.2 + 1 - p.1).toNat
def widen (acc : List St1) (p : Rng) : List St1 := acc.flatMap fun o => (List.range (span p)).map fun t : Nat => (o ++ [p.1 + (t : Int)] : St1)
def statesOf (ps : List Rng) : List St1 := ps.foldl widen [[]]
def many (ps : List Rng) : Nat := (ps.map span).foldl (· * ·) 1
theorem flat_len {α : Type} (n : Nat) (f : α → List St1) (h : ∀ a, (f a).length = n) : ∀ l : List α, (l.flatMap f).length = l.length * n
  | [] => by simp
  | a :: l => by rw [List.flatMap_cons, List.length_append, h, flat_len n f h l, List.length_cons, Nat.succ_mul, Nat.add_comm]
theorem widen_len (acc : List St1) (p : Rng) : (widen acc p).length = acc.length * span p := flat_len _ _ (fun _ => by simp) _
theorem foldl_len (ps : List Rng) : ∀ acc : List St1, (ps.foldl widen acc).length = (ps.map span).foldl (· * ·) acc.length := by
  induction ps with
  | nil => intro acc; rfl
  | cons p ps ih => intro acc; rw [List.foldl_cons, ih, widen_len, List.map_cons, List.foldl_cons]
theorem states_len (ps : List Rng) : (statesOf ps).length = many ps := foldl_len ps [[]]
theorem states_snoc {ps : List Rng} {i : Nat} {p : Rng} (h : ps[i]? = some p) : statesOf (ps.take (i + 1)) = widen (statesOf (ps.take i)) p := by
  obtain ⟨h1, rfl⟩ := List.getElem?_eq_some_iff.mp h
  rw [List.take_succ_eq_append_getElem h1, statesOf, List.foldl_append]
  rfl
theorem foldl_le (ns : List Nat) (h : ∀ n ∈ ns, 1 ≤ n) : ∀ m, m ≤ ns.foldl (· * ·) m := by
  induction ns with
  | nil => intro m; exact Nat.le_refl _
  | cons n ns ih =>
    intro m
    have h1 := h n (List.mem_cons_self ..)
    exact Nat.le_trans (Nat.le_mul_of_pos_right m h1) (ih (fun k hk => h k (List.mem_cons_of_mem _ hk)) _)
theorem many_take {ps : List Rng} (h : ∀ p ∈ ps, 1 ≤ span p) (i : Nat) : many (ps.take i) ≤ many ps := by
  have e : ps.map span = (ps.take i).map span ++ (ps.drop i).map span := by rw [← List.map_append, List.take_append_drop]
  unfold many
  rw [e, List.foldl_append]
  refine foldl_le _ (fun n hn => ?_) _
  obtain ⟨p, hp, rfl⟩ := List.mem_map.mp hn
  exact h p (List.mem_of_mem_drop hp)
theorem fold_mem (ps : List Rng) : ∀ (acc : List St1) (n : Nat), (∀ o ∈ acc, o.length = n) → ∀ o ∈ ps.foldl widen acc, o.length = n + ps.length := by
  induction ps with
  | nil => intro acc n h o ho; exact h o ho
  | cons p ps ih =>
    intro acc n h o ho
    have := ih (widen acc p) (n + 1) (fun o' ho' => by
      obtain ⟨o2, h2, h3⟩ := List.mem_flatMap.mp ho'
      obtain ⟨t, _, rfl⟩ := List.mem_map.mp h3
      rw [List.length_append, h o2 h2]; rfl) o ho
    rw [List.length_cons]; omega
theorem states_mem {ps : List Rng} {o : St1} (h : o ∈ statesOf ps) : o.length = ps.length := by
  have := fold_mem ps [[]] 0 (fun o h => by rw [List.mem_singleton.mp h]; rfl) o h
  omega
theorem widen_snoc {acc : List St1} {j : Nat} {o : St1} {p : Rng} (h : acc[j]? = some o) : widen (acc.take (j + 1)) p = widen (acc.take j) p ++ (List.range (span p)).map fun t : Nat => (o ++ [p.1 + (t : Int)] : St1) := by
  obtain ⟨h1, rfl⟩ := List.getElem?_eq_some_iff.mp h
  rw [List.take_succ_eq_append_getElem h1, widen, List.flatMap_append]
  simp [widen]
theorem rg_len (rs : List Row) : (rg rs).length = total rs := by rw [← rngs_len, rngs_eq, List.length_map]
/-- what is asked of the rows of a law's cells -/
structure Small (rs : List Row) : Prop where
  tot : total rs ≤ 10
  sp : ∀ p ∈ rg rs, 1 ≤ span p ∧ -10 ≤ p.1 ∧ p.2 ≤ 10
  many : many (rg rs) ≤ 256
def rStates : List PyData → List PyData → Prop := fun ds es => ∃ rs : List Row, ds = [cellsD rs] ∧ Small rs ∧ es = (statesOf (rg rs)).map stD
end K

namespace K
open PySem L2 G
variable {M : Md}
theorem dtAll_mem {K : PySem.W.Frag} {H : Hp} {xs : List V} {ds : List PyData} (h : DtAll K H xs ds) {y : V} (hy : y ∈ xs) : ∃ d ∈ ds, Dt K H y d := by
  obtain ⟨i, hi⟩ := List.mem_iff_getElem?.mp hy
  obtain ⟨d, h1, h2⟩ := h.getV hi
  exact ⟨d, List.mem_of_getElem? h1, h2⟩
theorem dtAll_pick {K : PySem.W.Frag} {H : Hp} {xs : List V} {ds : List PyData} (h : DtAll K H xs ds) : ∀ ys : List V, (∀ y ∈ ys, y ∈ xs) → ∃ es, DtAll K H ys es ∧ ∀ e ∈ es, e ∈ ds
  | [], _ => ⟨[], .nil, fun _ h => nomatch h⟩
  | y :: ys, hy => by
    obtain ⟨d, hd, h1⟩ := dtAll_mem h (hy y (List.mem_cons_self ..))
    obtain ⟨es, h2, h3⟩ := dtAll_pick h ys fun z hz => hy z (List.mem_cons_of_mem _ hz)
    refine ⟨d :: es, .cons h1 h2, fun e he => ?_⟩
    rcases List.mem_cons.mp he with rfl | he
    · exact hd
    · exact h3 e he
/-- some of the states -/
def spSome (K : PySem.W.Frag) : Sp := fun vs H Q _ => ∃ a xs ds m, vs = [.ref a, .int m] ∧ (1 ≤ m ∧ m ≤ 1000) ∧ H a = some (.lst xs) ∧ DtAll K H xs ds ∧ ds.length ≤ 1000 ∧
  ∀ l us es H', Same H H' → H l = none → H' l = some (.lst us) → DtAll K H' us es → (∀ e ∈ es, e ∈ ds) → es.length ≤ 2 * ds.length → Q (.ref l) H'
def mea (s : Int) : Nat := if s % 6 = 0 then 1 else if s % 6 = 2 then 3 else if s % 6 = 3 then 2 else if s % 6 = 4 then 1 else 0
theorem mea_lt {s : Int} (h : s % 2 = 0 ∨ s % 3 = 0) : mea (s + 1) < mea s := by
  unfold mea
  have h1 : s % 6 = 0 ∨ s % 6 = 2 ∨ s % 6 = 3 ∨ s % 6 = 4 := by omega
  rcases h1 with e | e | e | e
  · rw [if_neg (by omega), if_neg (by omega), if_neg (by omega), if_neg (by omega), if_pos e]; decide
  · rw [if_neg (by omega), if_neg (by omega), if_pos (by omega), if_neg (by omega), if_pos e]; decide
  · rw [if_neg (by omega), if_neg (by omega), if_neg (by omega), if_pos (by omega), if_neg (by omega), if_neg (by omega), if_pos e]; decide
  · rw [if_neg (by omega), if_neg (by omega), if_neg (by omega), if_neg (by omega), if_neg (by omega), if_neg (by omega), if_neg (by omega), if_pos e]; decide
end K

namespace G
open PySem PySem.Spec PyProof.Rows L2
theorem iff0 {A B : Prop} (b : B) : if false = true then A else B := b
section
variable {c : Cd} {σ : L2.St} {H : Hp} {Q : VK} {pos : Pos} {x y : V}
def cutD {α : Type} (xs : List α) (lo hi : Option Int) : List α := (xs.drop (HT.sIx xs.length 0 lo)).take (HT.sIx xs.length xs.length hi - HT.sIx xs.length 0 lo)
theorem rsl_tup {ds : List PyData} {lo hi : Option Int} (hx : Dt c.K H x (.tuple ds)) (q : ∀ v H2, Same H H2 → Dt c.K H2 v (.tuple (cutD ds lo hi)) → Q v H2) : RSl c x lo hi H Q := by
  obtain ⟨a, xs, rfl, ht, hd⟩ := hx.tupE
  have hl := hd.len
  have hc : DtAll c.K H (cutV xs lo hi) (cutD ds lo hi) := by
    unfold cutV cutD
    rw [hl]
    exact DtAll.take _ (DtAll.drop _ hd)
  refine rsl_of (r := rSlA c.K) (fun X h => by rw [← h.K]; exact sl_tupA) ⟨a, xs, rfl, ht, fun e => ?_, fun _ p hp => q _ _ (same_new hp) (.tup (.of upd_same) (hc.mono (tp_same (same_new hp))))⟩
  refine q _ _ (Same.refl _) ?_
  have e2 : cutD ds lo hi = ds := by
    unfold cutD
    rw [← hl, e.1, e.2]
    simp [hl]
  rw [e2]
  exact hx
end
end G
namespace K
open PySem L2 G
variable {M : Md}
section
variable {c : Cd} {σ : L2.St} {H : Hp} {Q : VK} {pos : Pos}
theorem e_draw (D : Dc c.toMd "_law_draw" ["_law_feed_here", "_law_many_here"] 1 (spD preDraw rDraw c.K)) {e1 e2 : Expr} {p : Pos} (q : RE c e1 σ H fun x H1 => RE c e2 σ H1 fun y H2 => ∃ (fp cl : Addr) (m : Int), x = .ref fp ∧ y = .int m ∧ (0 < m ∧ m < 1000) ∧ Feed c.K H2 fp cl ∧ ∀ r H3, 0 ≤ r → r < m → Kp fp H2 H3 → Feed c.K H3 fp cl → Q (.int r) H3)
    (hk : 1 ≤ c.k := by exact Nat.le_of_ble_eq_true rfl) (hg : c.sc.names.lookup ("_law_draw" : Str) = some .globalImplicit := by rfl) (h1 : ∀ env, starEach [e1, e2] env = (false, eval e1 env) :: starEach [e2] env := by intro _; rfl) (h2 : ∀ env, starEach [e2] env = (false, eval e2 env) :: starEach [] env := by intro _; rfl) (hpl : ∀ env, (backTo pos (starEach [e2] env)).any (·.1) = false := by intro _; rfl) :
    RE c (.Call (.Name "_law_draw" p) [e1, e2] [] pos) σ H Q := by
  refine e_callD D (a_cons (RE.mono (fun x H1 z => a_cons (RE.mono (fun y H2 z => a_nil ?_) z) h2) q) h1) hk hg (by decide) h1 hpl
  obtain ⟨fp, cl, m, rfl, rfl, hm, hf, k⟩ := z
  refine ⟨fp, cl, _, _, rfl, hf, .cons (.int m) .nil, ⟨m, rfl, hm⟩, ?_⟩
  rintro d v H3 ⟨m', r, hm', rfl, r0, r1⟩ k3 f3 hv
  cases hm'
  cases hv
  exact k r H3 r0 r1 k3 f3
end
def nameOf (r : Row) : Str := r.1
structure RowOk (r : Row) : Prop where
  size : r.2.1 ≤ 3
  lo : -2 ≤ r.2.2.1
  lh : r.2.2.1 ≤ r.2.2.2.1
  hi : r.2.2.2.1 ≤ r.2.2.1 + 3
  lo1 : r.2.2.1 ≤ 1
  fst : r.2.2.1 ≤ r.2.2.2.2.2.2 ∧ r.2.2.2.2.2.2 ≤ r.2.2.2.1
  giv : r.2.2.2.2.1 = true → r.2.2.2.2.2.2 = r.2.2.1
structure Rows3 (most : Nat) (rs : List Row) : Prop where
  ok : ∀ r ∈ rs, RowOk r
  nm : ∃ m ∈ menus, (rs.map nameOf).Sublist m
  len : rs.length = 3
  many : many (rg rs) ≤ most
def preRows : List PyData → Prop := fun ds => ∃ most : Nat, ds = [.int most] ∧ 1 ≤ most ∧ most ≤ 100
def rRows : List PyData → PyData → Prop := fun ds d => ∃ (most : Nat) (rs : List Row), ds = [.int most] ∧ d = cellsD rs ∧ Rows3 most rs
/-- within: the feed goes on, the list stays -/
structure In (K : PySem.W.Frag) (fp cl l : Addr) (us : List V) (H H' : Hp) : Prop where
  kp : Kp fp H H'
  fd : Feed K H' fp cl
  nc : l ≠ cl
  g : H' l = some (.lst us)
  n : H l = none
  ne : l ≠ fp
theorem In.draw {K : PySem.W.Frag} {fp cl l : Addr} {us : List V} {H H1 H2 : Hp} (i : In K fp cl l us H H1) (k : Kp fp H1 H2) (f : Feed K H2 fp cl) : In K fp cl l us H H2 := ⟨i.kp.trans k, f, i.nc, k.k _ _ i.ne i.g, i.n, i.ne⟩
theorem In.same {K : PySem.W.Frag} {fp cl l : Addr} {us : List V} {H H1 H2 : Hp} (i : In K fp cl l us H H1) (s : Same H1 H2) : In K fp cl l us H H2 := ⟨i.kp.trans (kp_same s), i.fd.same s, i.nc, s _ _ i.g, i.n, i.ne⟩
theorem many_app (ps qs : List Rng) : many (ps ++ qs) = many ps * many qs := by
  unfold many
  rw [List.map_append, List.foldl_append]
  have h : ∀ (ns : List Nat) (a : Nat), ns.foldl (· * ·) a = a * ns.foldl (· * ·) 1 := by
    intro ns
    induction ns with
    | nil => intro a; simp
    | cons n ns ih => intro a; rw [List.foldl_cons, List.foldl_cons, ih (a * n), ih (1 * n), Nat.one_mul, Nat.mul_assoc]
  exact h _ _
theorem many_rep (n : Nat) (p : Rng) : many (List.replicate n p) = span p ^ n := by
  induction n with
  | zero => rfl
  | succ n ih =>
    rw [List.replicate_succ, show p :: List.replicate n p = [p] ++ List.replicate n p from rfl, many_app, ih, Nat.pow_succ, Nat.mul_comm]
    congr 1
    exact Nat.one_mul _
theorem many_row (rs : List Row) (r : Row) : many (rg (rs ++ [r])) = many (rg rs) * span (r.2.2.1, r.2.2.2.1) ^ width r := by
  have : rg (rs ++ [r]) = rg rs ++ List.replicate (width r) (r.2.2.1, r.2.2.2.1) := by simp [rg, List.flatMap_append]
  rw [this, many_app, many_rep]
theorem dtInts {K : PySem.W.Frag} {H : Hp} : ∀ ns : List Int, DtAll K H (ns.map V.int) (ns.map PyData.int)
  | [] => .nil
  | n :: ns => .cons (.int n) (dtInts ns)
theorem dtStrs {K : PySem.W.Frag} {H : Hp} : ∀ ns : List Str, DtAll K H (ns.map V.str) (ns.map PyData.str)
  | [] => .nil
  | n :: ns => .cons (.str n) (dtStrs ns)
theorem cutD_sub {α : Type} (xs : List α) (lo hi : Option Int) : (cutD xs lo hi).Sublist xs := (List.take_sublist _ _).trans (List.drop_sublist _ _)
theorem cutD_map {α β : Type} (g : α → β) (xs : List α) (lo hi : Option Int) : cutD (xs.map g) lo hi = (cutD xs lo hi).map g := by
  unfold cutD
  rw [List.length_map, List.map_take, List.map_drop]
end K

namespace G
open PySem PySem.Spec PyProof.Rows L2
structure Shp (n : Nat) (d : PyData) : Prop where
  lay : PyData.canLay0 d = true
  dep : PyData.depth d ≤ n
theorem shp_all {n : Nat} : ∀ {ds : List PyData}, (∀ d ∈ ds, Shp n d) → PyData.canLayAll0 ds = true ∧ PyData.depthAll ds ≤ n
  | [], _ => ⟨by simp [PyData.canLayAll0], by simp [PyData.depthAll]⟩
  | d :: ds, h => by
    have h1 := h d (List.mem_cons_self ..)
    have h2 := shp_all fun e he => h e (List.mem_cons_of_mem _ he)
    refine ⟨by simp [PyData.canLayAll0, h1.lay, h2.1], ?_⟩
    simp only [PyData.depthAll]
    have := h1.dep
    have := h2.2
    omega
theorem shp_tup {n : Nat} {ds : List PyData} (h : ∀ d ∈ ds, Shp n d) : Shp (n + 1) (.tuple ds) := by
  have := shp_all h
  exact ⟨by simp only [PyData.canLay0]; exact this.1, by simp only [PyData.depth]; omega⟩
theorem shp_lst {n : Nat} {ds : List PyData} (h : ∀ d ∈ ds, Shp n d) : Shp (n + 1) (.list ds) := by
  have := shp_all h
  exact ⟨by simp only [PyData.canLay0]; exact this.1, by simp only [PyData.depth]; omega⟩
theorem shp_int {n : Nat} (i : Int) : Shp (n + 1) (.int i) := ⟨by simp [PyData.canLay0], by simp [PyData.depth]⟩
theorem shp_bl {n : Nat} (i : Bool) : Shp (n + 1) (.bool i) := ⟨by simp [PyData.canLay0], by simp [PyData.depth]⟩
theorem shp_non {n : Nat} : Shp (n + 1) .none := ⟨by simp [PyData.canLay0], by simp [PyData.depth]⟩
theorem shp_str {n : Nat} {s : Str} (h : PyData.strOk s = true) : Shp (n + 1) (.str s) := ⟨by simp only [PyData.canLay0]; exact h, by simp [PyData.depth]⟩
theorem Shp.ok {n : Nat} {d : PyData} (h : Shp n d) (hn : n ≤ 64 := by decide) : SeqAt.shaped d = true := by
  show (PyData.canLay0 d && decide (PyData.depth d ≤ 64)) = true
  rw [h.lay, Bool.true_and]
  exact decide_eq_true (Nat.le_trans h.dep hn)
section
variable {c : Cd} {σ : L2.St} {H : Hp} {Q : VK} {pos : Pos} {x y : V}
/-- xs == [] -/
theorem ro_eqNil {p q0 : Addr} {xs : List V} {ds : List PyData} {n : Nat} (h1 : H p = some (.lst xs)) (hd : DtAll c.K H xs ds) (hs : ∀ d ∈ ds, Shp n d) (hn : n + 1 ≤ 64) (h2 : H q0 = some (.lst [])) (q : Q (.bl ds.isEmpty) H) : RQ c .Eq (.ref p) (.ref q0) H Q := by
  refine ro_eqD (.lst (SqL.of h1) hd.dp) (.lst (SqL.of h2) .nil) ((shp_lst hs).ok hn) (by decide) ?_
  cases ds with
  | nil => exact q
  | cons d ds => exact q
theorem ro_neNil {p q0 : Addr} {xs : List V} {ds : List PyData} {n : Nat} (h1 : H p = some (.lst xs)) (hd : DtAll c.K H xs ds) (hs : ∀ d ∈ ds, Shp n d) (hn : n + 1 ≤ 64) (h2 : H q0 = some (.lst [])) (q : Q (.bl (!ds.isEmpty)) H) : RQ c .NotEq (.ref p) (.ref q0) H Q := by
  refine ro_neD (.lst (SqL.of h1) hd.dp) (.lst (SqL.of h2) .nil) ((shp_lst hs).ok hn) (by decide) ?_
  cases ds with
  | nil => exact q
  | cons d ds => exact q
end
end G
namespace K
open PySem L2 G
variable {M : Md}
inductive Ex where
  | int (i : Int) | nm (s : Str) | at (t : Str) (e : Ex) | un (op : Str) (e : Ex) | bin (op : Str) (a b : Ex) | kk (op : Str) (e : Ex) (n : Int) | ite (a b d : Ex)
def Ex.d : Ex → PyData
  | .int i => .int i
  | .nm s => .str s
  | .at t e => .tuple [.str "at", .str t, e.d]
  | .un op e => .tuple [.str op, e.d]
  | .bin op a b => .tuple [.str op, a.d, b.d]
  | .kk op e n => .tuple [.str op, e.d, .int n]
  | .ite a b e => .tuple [.str "if", a.d, b.d, e.d]
def Ex.dep : Ex → Nat
  | .int _ | .nm _ => 0
  | .at _ e | .un _ e | .kk _ e _ => e.dep + 1
  | .bin _ a b => max a.dep b.dep + 1
  | .ite a b e => max a.dep (max b.dep e.dep) + 1
def bins : List Str := ["+", "-", "*", "least", "most", "=", "<", "<=", "and", "or"]
def uns : List Str := ["not", "neg"]
def kks : List Str := ["div", "mod"]
/-- an expression that fits the rows -/
def Fit (rs : List Row) : Ex → Prop
  | .int i => -1000000 ≤ i ∧ i ≤ 1000000
  | .nm s => ∃ r ∈ rs, r.1 = s ∧ r.2.1 = 0
  | .at t e => (∃ r ∈ rs, r.1 = t ∧ 0 < r.2.1) ∧ Fit rs e
  | .un op e => op ∈ uns ∧ Fit rs e
  | .bin op a b => op ∈ bins ∧ Fit rs a ∧ Fit rs b
  | .kk op e n => op ∈ kks ∧ Fit rs e ∧ (1 ≤ n ∧ n ≤ 3)
  | .ite a b e => Fit rs a ∧ Fit rs b ∧ Fit rs e
/-- rows that drawing functions are given -/
structure RowsIn (rs : List Row) : Prop where
  len : rs.length ≤ 10
  nm : ∀ r ∈ rs, PyData.strOk r.1 = true
def preLeaf : List PyData → Prop := fun ds => ∃ rs, ds = [cellsD rs] ∧ RowsIn rs
def rLeaf : List PyData → PyData → Prop := fun ds d => ∃ rs e, ds = [cellsD rs] ∧ d = Ex.d e ∧ Fit rs e ∧ e.dep = 0
def plains (rs : List Row) : List Str := (rs.filter fun r => r.2.1 == 0).map nameOf
def gPlain : PyData → Option PyData
  | .tuple (n :: .int s :: _) => if s = 0 then some n else none
  | _ => none
theorem gPlain_all (rs : List Row) : (rs.map rowD).filterMap gPlain = (plains rs).map .str := by
  induction rs with
  | nil => rfl
  | cons r rs ih =>
    unfold plains at *
    rw [List.map_cons, List.filterMap_cons, List.filter_cons]
    have e : gPlain (rowD r) = if ((r.2.1 : Nat) : Int) = 0 then some (PyData.str r.1) else none := rfl
    rw [e]
    by_cases h : r.2.1 = 0
    · rw [if_pos (by omega), if_pos (by simpa using h), List.map_cons, List.map_cons, ← ih]; rfl
    · rw [if_neg (by omega), if_neg (by simpa using h), ← ih]
theorem plains_mem {rs : List Row} {s : Str} (h : s ∈ plains rs) : ∃ r ∈ rs, r.1 = s ∧ r.2.1 = 0 := by
  obtain ⟨r, hr, rfl⟩ := List.mem_map.mp h
  obtain ⟨h1, h2⟩ := List.mem_filter.mp hr
  exact ⟨r, h1, rfl, by simpa using h2⟩
theorem leafInt (w : Int) (h : w ∈ ([0, 1, 2, -1, 3, -2, 7, 1] : List Int)) : -1000000 ≤ w ∧ w ≤ 1000000 := by
  have : ∀ w ∈ ([0, 1, 2, -1, 3, -2, 7, 1] : List Int), -1000000 ≤ w ∧ w ≤ 1000000 := by decide
  exact this w h
end K

namespace K
open PySem L2 G
variable {M : Md}
def preForm (n : Nat) : List PyData → Prop := fun ds => ∃ (rs : List Row) (deep : Int), ds = [cellsD rs, .int deep] ∧ RowsIn rs ∧ deep ≤ n
def rForm : List PyData → PyData → Prop := fun ds d => ∃ (rs : List Row) (deep : Int) (e : Ex), ds = [cellsD rs, .int deep] ∧ d = e.d ∧ Fit rs e ∧ e.dep ≤ deep.toNat
def wordsL : List Str := ["+", "-", "*", "least", "most", "=", "<", "<=", "and", "or", "not", "neg", "div", "mod", "if", "at", "at", "+"]
def tabs (rs : List Row) : List Str := (rs.filter fun r => decide (0 < r.2.1)).map nameOf
def gTab : PyData → Option PyData
  | .tuple (n :: .int s :: _) => if 0 < s then some n else none
  | _ => none
theorem gTab_all (rs : List Row) : (rs.map rowD).filterMap gTab = (tabs rs).map .str := by
  induction rs with
  | nil => rfl
  | cons r rs ih =>
    unfold tabs at *
    rw [List.map_cons, List.filterMap_cons, List.filter_cons]
    have e : gTab (rowD r) = if 0 < ((r.2.1 : Nat) : Int) then some (PyData.str r.1) else none := rfl
    rw [e]
    by_cases h : 0 < r.2.1
    · rw [if_pos (by omega), if_pos (by simpa using h), List.map_cons, List.map_cons, ← ih]; rfl
    · rw [if_neg (by omega), if_neg (by simpa using h), ← ih]
theorem tabs_mem {rs : List Row} {s : Str} (h : s ∈ tabs rs) : ∃ r ∈ rs, r.1 = s ∧ 0 < r.2.1 := by
  obtain ⟨r, hr, rfl⟩ := List.mem_map.mp h
  obtain ⟨h1, h2⟩ := List.mem_filter.mp hr
  exact ⟨r, h1, rfl, by simpa using h2⟩
theorem rowD_inj {r r' : Row} (h : rowD r = rowD r') : r = r' := by
  obtain ⟨a, b, c, d, e, f, g⟩ := r
  obtain ⟨a', b', c', d', e', f', g'⟩ := r'
  unfold rowD at h
  simp only [PyData.tuple.injEq, List.cons.injEq, PyData.str.injEq, PyData.int.injEq, PyData.bool.injEq] at h
  obtain ⟨rfl, h2, rfl, rfl, rfl, rfl, rfl, _⟩ := h
  have : b = b' := by omega
  rw [this]
theorem cellsD_inj {rs rs' : List Row} (h : cellsD rs = cellsD rs') : rs = rs' := by
  unfold cellsD at h
  rw [PyData.tuple.injEq] at h
  induction rs generalizing rs' with
  | nil =>
    cases rs' with
    | nil => rfl
    | cons => cases h
  | cons r rs ih =>
    cases rs' with
    | nil => cases h
    | cons r' rs' =>
      rw [List.map_cons, List.map_cons, List.cons.injEq] at h
      rw [rowD_inj h.1, ih h.2]
theorem inS (w : Str) (l : List Str) : inV (.str w) (l.map .str) = decide (w ∈ l) := by
  unfold inV
  rw [Bool.eq_iff_iff, List.any_eq_true, decide_eq_true_iff]
  constructor
  · rintro ⟨y, hy, h⟩
    obtain ⟨z, hz, rfl⟩ := List.mem_map.mp hy
    have : z = w := by simpa [eqV] using h
    rw [← this]; exact hz
  · intro h
    exact ⟨.str w, List.mem_map.mpr ⟨w, h, rfl⟩, by simp [eqV]⟩
theorem flatS (l : List Str) : (l.map V.str).all flatV = true := by simp [flatV]
theorem dtStrs_eq {K : PySem.W.Frag} {H : Hp} : ∀ {ws : List Str} {xs : List V}, DtAll K H xs (ws.map .str) → xs = ws.map .str
  | [], _, h => by cases h; rfl
  | w :: ws, _, h => by
    cases h with
    | cons h1 h2 =>
      cases h1
      rw [dtStrs_eq h2, List.map_cons]
theorem ro_inST {c : Cd} {H : Hp} {Q : VK} {y : V} {w : Str} {ws : List Str} (hx : Dt c.K H y (.tuple (ws.map .str))) (q : Q (.bl (decide (w ∈ ws))) H) : RQ c .In (.str w) y H Q := by
  obtain ⟨a, xs, rfl, ht, hd⟩ := hx.tupE
  obtain rfl := dtStrs_eq hd
  refine rq_of (r := rIn c.K false) (fun X h => by rw [← h.K]; exact op_in_seq) ⟨a, _, rfl, .inr ht, rfl, flatS ws, ?_⟩
  show Q (.bl (inV (.str w) (ws.map .str))) H
  rw [inS]
  exact q
theorem words_all : ∀ w ∈ wordsL, w = "at" ∨ w ∈ kks ∨ w ∈ bins ∨ w ∈ uns ∨ w = "if" := by decide +kernel
abbrev dcForm (M : Md) (m : Nat) : Prop := Dc M "_law_formula" ["_law_feed_here", "_law_rows_here", "_law_deep"] (m + 3) (spD (preForm m) rForm M.K)
end K

namespace K
open PySem L2 G
variable {M : Md}
inductive Tg where
  | nm (s : Str) | at (t : Str) (e : Ex)
def Tg.d : Tg → PyData
  | .nm s => .str s
  | .at t e => .tuple [.str t, e.d]
def FitT (rs : List Row) : Tg → Prop
  | .nm s => ∃ r ∈ rs, r.1 = s ∧ r.2.1 = 0
  | .at t e => (∃ r ∈ rs, r.1 = t ∧ 0 < r.2.1) ∧ Fit rs e ∧ e.dep ≤ 2
structure Rl where
  name : Str
  guard : Ex
  as : List (Tg × Ex)
def asD (p : Tg × Ex) : PyData := .tuple [p.1.d, p.2.d]
def Rl.d (r : Rl) : PyData := .tuple [.str r.name, r.guard.d, .tuple (r.as.map asD)]
structure FitR (rs : List Row) (r : Rl) : Prop where
  nm : PyData.strOk r.name = true
  guard : Fit rs r.guard ∧ r.guard.dep ≤ 4
  len : r.as.length ≤ 10
  ne : r.as ≠ []
  as : ∀ p ∈ r.as, FitT rs p.1 ∧ Fit rs p.2 ∧ p.2.dep ≤ 2
def preGoal : List PyData → Prop := fun ds => ∃ (rs : List Row), ds = [cellsD rs] ∧ RowsIn rs ∧ 0 < rs.length
def rGoal : List PyData → PyData → Prop := fun ds d => ∃ (rs : List Row) (t : Tg), ds = [cellsD rs] ∧ d = t.d ∧ FitT rs t
def preRule : List PyData → Prop := fun ds => ∃ (rs : List Row) (nm : Str), ds = [cellsD rs, .str nm] ∧ RowsIn rs ∧ 0 < rs.length ∧ PyData.strOk nm = true
def rRule : List PyData → PyData → Prop := fun ds d => ∃ (rs : List Row) (nm : Str) (r : Rl), ds = [cellsD rs, .str nm] ∧ d = r.d ∧ FitR rs r
end K

namespace K
open PySem L2 G
variable {M : Md}
/-! ### the meaning of expressions -/
def gt (st : St1) (j : Int) : Int := st.getD j.toNat 0
def b2 (p : Prop) [Decidable p] : Int := if p then 1 else 0
def un1 (op : Str) (v : Int) : Int := if op = "not" then b2 (v = 0) else -v
def cmp2 (op : Str) (a b : Int) : Bool := if op = "=" then decide (a = b) else if op = "<" then decide (a < b) else decide (a ≤ b)
def bin2 (op : Str) (a b : Int) : Int := if op = "+" then a + b else if op = "-" then a - b else if op = "*" then a * b else if op = "div" then a / b else if op = "mod" then a % b else
  if op = "least" then (if b < a then b else a) else if op = "most" then (if b > a then b else a) else if cmp2 op a b = true then 1 else 0
def ix (rs : List Row) (s : Str) : Int := (fIdx rs s none 0).getD 0
abbrev Res := Option Int × List Int
def thn1 (r : Res) (g : Int → Res) : Res := match r.1 with
  | none => (none, r.2)
  | some v => ((g v).1, r.2 ++ (g v).2)
def keyed (rs : List Row) (t : Str) (r : Res) : Res := match r.1 with
  | none => (none, r.2)
  | some v => (fIdx rs t (some v) 0, r.2)
def isLazy (op : Str) : Bool := decide (op = "and") || decide (op = "or")
def ev (rs : List Row) (st : St1) : Ex → Res
  | .int i => (some i, [])
  | .nm s => (some (gt st (ix rs s)), [ix rs s])
  | .at t e => thn1 (keyed rs t (ev rs st e)) fun j => (some (gt st j), [j])
  | .un op e => thn1 (ev rs st e) fun v => (some (un1 op v), [])
  | .bin op a b => if isLazy op = true then thn1 (ev rs st a) fun v => if decide (v ≠ 0) = decide (op = "or") then (some (b2 (v ≠ 0)), []) else thn1 (ev rs st b) fun w => (some (b2 (w ≠ 0)), [])
    else thn1 (ev rs st a) fun v => thn1 (ev rs st b) fun w => (some (bin2 op v w), [])
  | .kk op e n => thn1 (ev rs st e) fun v => (some (bin2 op v n), [])
  | .ite a b e => thn1 (ev rs st a) fun v => if v ≠ 0 then ev rs st b else ev rs st e
def resD (r : Res) : PyData := .tuple [optD r.1, .tuple (r.2.map .int)]
structure StOk (rs : List Row) (st : St1) : Prop where
  len : st.length = total rs
  val : ∀ v ∈ st, -10 ≤ v ∧ v ≤ 10
  tot : total rs ≤ 10
  nd : (rs.map nameOf).Nodup
  ri : RowsIn rs
  rng : ∀ (i : Nat) (r : Rng), (rg rs)[i]? = some r → r.1 ≤ gt st i ∧ gt st i ≤ r.2
theorem fIdx_in : ∀ {rs : List Row} {s : Str} {key : Option Int} {b j : Int}, fIdx rs s key b = some j → b ≤ j ∧ j < b + total rs
  | [], _, _, _, _, h => by cases h
  | r :: rs, s, key, b, j, h => by
    have e : total (r :: rs) = width r + total rs := by simp [total]
    have w1 : 1 ≤ width r := Nat.le_max_left _ _
    have w2 : r.2.1 ≤ width r := Nat.le_max_right _ _
    unfold fIdx at h
    split at h
    · cases key with
      | none =>
        rw [hit] at h
        split at h
        · cases h; omega
        · cases h
      | some k =>
        rw [hit] at h
        split at h
        · cases h; omega
        · cases h
    · have := fIdx_in h
      omega
theorem fIdx_plain : ∀ {rs : List Row} {s : Str} (b : Int), (rs.map nameOf).Nodup → (∃ r ∈ rs, r.1 = s ∧ r.2.1 = 0) → ∃ j, fIdx rs s none b = some j
  | [], _, _, _, h => by obtain ⟨r, hr, _⟩ := h; cases hr
  | r :: rs, s, b, nd, h => by
    rw [List.map_cons, List.nodup_cons] at nd
    unfold fIdx
    by_cases e : r.1 = s
    · rw [if_pos e]
      obtain ⟨r', hr', e', z'⟩ := h
      rcases List.mem_cons.mp hr' with rfl | hm
      · refine ⟨b, ?_⟩
        rw [hit]
        rw [if_pos (by omega)]
      · exact absurd (List.mem_map.mpr ⟨r', hm, show nameOf r' = nameOf r from e'.trans e.symm⟩) nd.1
    · rw [if_neg e]
      refine fIdx_plain _ nd.2 ?_
      obtain ⟨r', hr', e', z'⟩ := h
      rcases List.mem_cons.mp hr' with rfl | hm
      · exact absurd e' e
      · exact ⟨r', hm, e', z'⟩
theorem ix_ok {rs : List Row} {s : Str} (nd : (rs.map nameOf).Nodup) (h : ∃ r ∈ rs, r.1 = s ∧ r.2.1 = 0) : fIdx rs s none 0 = some (ix rs s) ∧ 0 ≤ ix rs s ∧ ix rs s < total rs := by
  obtain ⟨j, hj⟩ := fIdx_plain 0 nd h
  have e : ix rs s = j := by unfold ix; rw [hj]; rfl
  have := fIdx_in hj
  rw [e]
  exact ⟨hj, by omega, by omega⟩
theorem gt_at {rs : List Row} {st : St1} (S : StOk rs st) {j : Int} (h0 : 0 ≤ j) (h1 : j < total rs) : atI (st.map PyData.int) j = some (.int (gt st j)) := by
  have hl := S.len
  have hlt : j.toNat < st.length := by omega
  refine pl_at (j := j.toNat) (by omega) ?_
  rw [List.getElem?_map, List.getElem?_eq_getElem hlt]
  unfold gt
  rw [List.getD_eq_getElem?_getD, List.getElem?_eq_getElem hlt]
  rfl
theorem gt_val {rs : List Row} {st : St1} (S : StOk rs st) (j : Int) : -10 ≤ gt st j ∧ gt st j ≤ 10 := by
  unfold gt
  rw [List.getD_eq_getElem?_getD]
  cases e : st[j.toNat]? with
  | none => exact ⟨by decide, by decide⟩
  | some v => exact S.val v (List.mem_of_getElem? e)
theorem thn1_some {r : Res} {g : Int → Res} {w : Int} (h : (thn1 r g).1 = some w) : ∃ v, r.1 = some v ∧ (g v).1 = some w := by
  unfold thn1 at h
  cases e : r.1 with
  | none => rw [e] at h; cases h
  | some v => rw [e] at h; exact ⟨v, rfl, h⟩
def Bd : Nat → Nat
  | 0 => 1000000
  | n + 1 => Bd n * Bd n
theorem Bd_ge : ∀ n, 1000000 ≤ Bd n
  | 0 => Nat.le_refl _
  | n + 1 => Nat.le_trans (Bd_ge n) (Nat.le_mul_of_pos_left _ (Nat.lt_of_lt_of_le (by decide) (Bd_ge n)))
theorem Bd_two (n : Nat) : 2 * Bd n ≤ Bd (n + 1) := Nat.mul_le_mul_right _ (Nat.le_trans (by decide) (Bd_ge n))
theorem Bd_up (n : Nat) : Bd n ≤ Bd (n + 1) := by have := Bd_two n; omega
theorem un1_b {op : Str} {v : Int} {n : Nat} (h : v.natAbs ≤ Bd n) : (un1 op v).natAbs ≤ Bd (n + 1) := by
  have h1 := Bd_up n
  have h2 := Bd_ge n
  unfold un1 b2
  split
  · split <;> simp <;> omega
  · rw [Int.natAbs_neg]; omega
theorem bin2_b {op : Str} {a b : Int} {n : Nat} (ha : a.natAbs ≤ Bd n) (hb : b.natAbs ≤ Bd n) (hd : op = "div" ∨ op = "mod" → 1 ≤ b) : (bin2 op a b).natAbs ≤ Bd (n + 1) := by
  have h1 := Bd_two n
  have h2 := Bd_ge n
  unfold bin2
  split
  · omega
  split
  · omega
  split
  · rw [Int.natAbs_mul]; exact Nat.mul_le_mul ha hb
  split
  · rename_i h
    have hb1 := hd (.inl h)
    have : (a / b).natAbs ≤ a.natAbs := Int.natAbs_ediv_le_natAbs a b
    omega
  split
  · rename_i h
    have hb1 := hd (.inr h)
    have q1 := Int.emod_nonneg a (show b ≠ 0 by omega)
    have q2 := Int.emod_lt_of_pos a (show 0 < b by omega)
    omega
  split
  · split <;> omega
  split
  · split <;> omega
  split <;> simp <;> omega
theorem thn1_len {r : Res} {g : Int → Res} {a b : Nat} (h : r.2.length ≤ a) (h2 : ∀ v, r.1 = some v → (g v).2.length ≤ b) : (thn1 r g).2.length ≤ a + b := by
  unfold thn1
  cases e : r.1 with
  | none => simp; omega
  | some v => have := h2 v e; simp; omega
theorem kind_bin {op : Str} (h : op ∈ bins) : op ≠ "div" ∧ op ≠ "mod" := by
  have : ∀ op ∈ bins, op ≠ "div" ∧ op ≠ "mod" := by decide +kernel
  exact this op h
theorem b2_b (p : Prop) [Decidable p] (n : Nat) : (b2 p).natAbs ≤ Bd n := by
  have := Bd_ge n
  unfold b2
  split <;> simp <;> omega
theorem Bd_mono {m n : Nat} (h : m ≤ n) : Bd m ≤ Bd n := by
  induction h with
  | refl => exact Nat.le_refl _
  | step _ ih => exact Nat.le_trans ih (Bd_up _)
theorem evB {rs : List Row} {st : St1} (S : StOk rs st) : ∀ (e : Ex) (n : Nat) (v : Int), e.dep ≤ n → Fit rs e → (ev rs st e).1 = some v → v.natAbs ≤ Bd n
  | .int i, n, v, _, hf, h => by
    have h2 := Bd_ge n
    unfold ev at h
    cases h
    unfold Fit at hf
    omega
  | .nm s, n, v, _, hf, h => by
    have h2 := Bd_ge n
    unfold ev at h
    cases h
    have := gt_val S (ix rs s)
    omega
  | .at t e, n, v, hn, hf, h => by
    have h2 := Bd_ge n
    unfold ev at h
    obtain ⟨j, _, h3⟩ := thn1_some h
    cases h3
    have := gt_val S j
    omega
  | .un op e, n, v, hn, hf, h => by
    unfold Ex.dep at hn
    obtain ⟨m, rfl⟩ : ∃ m, n = m + 1 := ⟨n - 1, by omega⟩
    unfold ev at h
    obtain ⟨w, h3, h4⟩ := thn1_some h
    cases h4
    exact un1_b (evB S e m w (by omega) hf.2 h3)
  | .bin op a b, n, v, hn, hf, h => by
    unfold Ex.dep at hn
    obtain ⟨m, rfl⟩ : ∃ m, n = m + 1 := ⟨n - 1, by omega⟩
    unfold ev at h
    split at h
    · obtain ⟨w, h3, h4⟩ := thn1_some h
      split at h4
      · cases h4; exact b2_b _ _
      · obtain ⟨w2, h5, h6⟩ := thn1_some h4
        cases h6; exact b2_b _ _
    · obtain ⟨w, h3, h4⟩ := thn1_some h
      obtain ⟨w2, h5, h6⟩ := thn1_some h4
      cases h6
      exact bin2_b (evB S a m w (by omega) hf.2.1 h3) (evB S b m w2 (by omega) hf.2.2 h5) (fun z => z.elim (fun z => absurd z (kind_bin hf.1).1) (fun z => absurd z (kind_bin hf.1).2))
  | .kk op e k, n, v, hn, hf, h => by
    unfold Ex.dep at hn
    obtain ⟨m, rfl⟩ : ∃ m, n = m + 1 := ⟨n - 1, by omega⟩
    unfold ev at h
    obtain ⟨w, h3, h4⟩ := thn1_some h
    cases h4
    have h2 := Bd_ge m
    have h5 := hf.2.2
    exact bin2_b (evB S e m w (by omega) hf.2.1 h3) (by omega) (fun _ => h5.1)
  | .ite a b e, n, v, hn, hf, h => by
    unfold Ex.dep at hn
    obtain ⟨m, rfl⟩ : ∃ m, n = m + 1 := ⟨n - 1, by omega⟩
    unfold ev at h
    obtain ⟨w, h3, h4⟩ := thn1_some h
    have h2 := Bd_up m
    split at h4
    · exact Nat.le_trans (evB S b m v (by omega) hf.2.1 h4) h2
    · exact Nat.le_trans (evB S e m v (by omega) hf.2.2 h4) h2
theorem keyed_snd (rs : List Row) (t : Str) (r : Res) : (keyed rs t r).2 = r.2 := by
  unfold keyed
  split <;> rfl
theorem evL {rs : List Row} {st : St1} : ∀ (e : Ex) (n : Nat), e.dep ≤ n → (ev rs st e).2.length ≤ 2 ^ (n + 1)
  | .int i, n, _ => by unfold ev; exact Nat.zero_le _
  | .nm s, n, _ => by unfold ev; exact Nat.pos_of_ne_zero (by simp)
  | .at t e, n, hn => by
    unfold Ex.dep at hn
    obtain ⟨m, rfl⟩ : ∃ m, n = m + 1 := ⟨n - 1, by omega⟩
    have h1 := evL (rs := rs) (st := st) e m (by omega)
    have h2 : 0 < 2 ^ (m + 1) := Nat.pos_of_ne_zero (by simp)
    unfold ev
    rw [Nat.pow_succ, Nat.mul_two]
    exact thn1_len (by rw [keyed_snd]; exact h1) (fun v _ => h2)
  | .un op e, n, hn => by
    unfold Ex.dep at hn
    obtain ⟨m, rfl⟩ : ∃ m, n = m + 1 := ⟨n - 1, by omega⟩
    have h1 := evL (rs := rs) (st := st) e m (by omega)
    unfold ev
    rw [Nat.pow_succ, Nat.mul_two]
    exact thn1_len h1 (fun v _ => Nat.zero_le _)
  | .bin op a b, n, hn => by
    unfold Ex.dep at hn
    obtain ⟨m, rfl⟩ : ∃ m, n = m + 1 := ⟨n - 1, by omega⟩
    have h1 := evL (rs := rs) (st := st) a m (by omega)
    have h2 := evL (rs := rs) (st := st) b m (by omega)
    unfold ev
    rw [Nat.pow_succ, Nat.mul_two]
    split
    · refine thn1_len h1 fun v _ => ?_
      split
      · exact Nat.zero_le _
      · exact thn1_len (b := 0) h2 fun _ _ => Nat.le_refl _
    · refine thn1_len h1 fun v _ => ?_
      exact thn1_len (b := 0) h2 fun _ _ => Nat.le_refl _
  | .kk op e k, n, hn => by
    unfold Ex.dep at hn
    obtain ⟨m, rfl⟩ : ∃ m, n = m + 1 := ⟨n - 1, by omega⟩
    have h1 := evL (rs := rs) (st := st) e m (by omega)
    unfold ev
    rw [Nat.pow_succ, Nat.mul_two]
    exact thn1_len h1 (fun v _ => Nat.zero_le _)
  | .ite a b e, n, hn => by
    unfold Ex.dep at hn
    obtain ⟨m, rfl⟩ : ∃ m, n = m + 1 := ⟨n - 1, by omega⟩
    have h1 := evL (rs := rs) (st := st) a m (by omega)
    have h2 := evL (rs := rs) (st := st) b m (by omega)
    have h3 := evL (rs := rs) (st := st) e m (by omega)
    unfold ev
    rw [Nat.pow_succ, Nat.mul_two]
    refine thn1_len h1 fun v _ => ?_
    split
    · exact h2
    · exact h3
end K

namespace K
open PySem L2 G
variable {M : Md}
theorem dib {p : Prop} [Decidable p] : (if decide p = true then (1 : Int) else 0) = b2 p := by
  unfold b2
  by_cases h : p
  · rw [if_pos (decide_eq_true h), if_pos h]
  · rw [if_neg (by simp [h]), if_neg h]
def rIndex : List PyData → PyData → Prop := fun ds d => ∃ (rs : List Row) (s : Str) (j : Int), ds = [cellsD rs, .str s, .none] ∧ fIdx rs s none 0 = some j ∧ d = .int j
def isIntD : PyData → Bool
  | .int _ => true
  | _ => false
def plainD : PyData → Prop
  | .int _ | .str _ | .tuple _ => True
  | _ => False
theorem rc_isiD {c : Cd} {H : Hp} {Q : VK} {v : V} {x : PyData} (hp : plainD x) (hx : Dt c.K H v x) (q : Q (.bl (isIntD x)) H) : RC c (.builtin "isinstance") [v, .ty "int"] H Q := by
  cases x with
  | int i =>
    cases hx
    exact rc_isi (.base (.int i)) rfl q
  | str s =>
    cases hx
    exact rc_isi (.base (.str s)) rfl q
  | tuple ds =>
    obtain ⟨a, xs, rfl, ht, _⟩ := hx.tupE
    exact rc_isi (ty_tup ht) rfl q
  | none => exact hp.elim
  | bool => exact hp.elim
  | list => exact hp.elim
  | dict => exact hp.elim
def rOne : List PyData → PyData → Prop := fun ds d => ∃ (op : Str) (v : Int), ds = [.str op, .int v] ∧ d = .int (un1 op v)
def rCmp : List PyData → PyData → Prop := fun ds d => ∃ (op : Str) (a b : Int), ds = [.str op, .int a, .int b] ∧ d = .bool (cmp2 op a b)
theorem ro_mulW {c : Cd} {H : Hp} {Q : VK} {i j : Int} (hc : CMulW i j) (q : Q (.int (i * j)) H) : RO c .Mult (.int i) (.int j) H Q := ro_of (fun _ _ => op_mulW) ⟨i, j, rfl, rfl, hc, q⟩
def rTwo : List PyData → PyData → Prop := fun ds d => ∃ (op : Str) (a b : Int), ds = [.str op, .int a, .int b] ∧ (a.natAbs < 2 ^ 400 ∧ b.natAbs < 2 ^ 400) ∧ (op = "div" ∨ op = "mod" → 1 ≤ b ∧ b < 1000) ∧ d = .int (bin2 op a b)
end K

namespace K
open PySem L2 G
variable {M : Md}
/-- what evaluated is given, and what it answers, to the depth n -/
structure EvIn (rs : List Row) (st : St1) (e : Ex) (n : Nat) : Prop where
  S : StOk rs st
  fit : Fit rs e
  dep : e.dep ≤ n
  n4 : n ≤ 4
def rEv (n : Nat) : List PyData → PyData → Prop := fun ds d => ∃ (rs : List Row) (st : St1) (e : Ex), ds = [cellsD rs, stD st, e.d] ∧ EvIn rs st e n ∧ d = resD (ev rs st e)
abbrev dcEv (M : Md) (n : Nat) : Prop := Dc M "evaluated" ["cells", "state", "expression"] (2 * n + 4) (spF (rEv n) M.K)
def rKey (n : Nat) : List PyData → PyData → Prop := fun ds d => ∃ (rs : List Row) (st : St1) (t : Str) (e : Ex), ds = [cellsD rs, stD st, .str t, e.d] ∧ EvIn rs st e n ∧ d = resD (keyed rs t (ev rs st e))
theorem Ex.plain (e : Ex) : plainD e.d := by cases e <;> trivial
theorem optN {K : PySem.W.Frag} {H : Hp} {v : V} {o : Option Int} (h : Dt K H v (optD o)) : (o = none ∧ v = .non) ∨ ∃ i, o = some i ∧ v = .int i := by
  cases o with
  | none => cases h; exact .inl ⟨rfl, rfl⟩
  | some i => cases h; exact .inr ⟨i, rfl, rfl⟩
end K

namespace K
open PySem L2 G
variable {M : Md}
def lazyE : Ex → Prop
  | .bin op _ _ => isLazy op = true
  | .ite _ _ _ => True
  | _ => False
def rLazy (n : Nat) : List PyData → PyData → Prop := fun ds d => ∃ (rs : List Row) (st : St1) (e : Ex), ds = [cellsD rs, stD st, e.d] ∧ lazyE e ∧ EvIn rs st e (n + 1) ∧ d = resD (ev rs st e)
theorem thn1_none {r : Res} {g : Int → Res} (h : r.1 = none) : thn1 r g = (none, r.2) := by
  unfold thn1
  rw [h]
theorem thn1_val {r : Res} {g : Int → Res} {v : Int} (h : r.1 = some v) : thn1 r g = ((g v).1, r.2 ++ (g v).2) := by
  unfold thn1
  rw [h]
theorem thn1_map {r : Res} {f : Int → Int} : thn1 r (fun w => (some (f w), [])) = (r.1.map f, r.2) := by
  unfold thn1
  cases r.1 with
  | none => rfl
  | some w => simp
theorem nb2 (v : Int) : (!decide (v = 0)) = decide (v ≠ 0) := by simp
theorem intb {p : Bool} : (if p = true then (1 : Int) else 0) = b2 (p = true) := rfl
theorem b2e {p q : Prop} [Decidable p] [Decidable q] (h : p ↔ q) : b2 p = b2 q := by
  unfold b2
  by_cases hp : p
  · rw [if_pos hp, if_pos (h.mp hp)]
  · rw [if_neg hp, if_neg (fun z => hp (h.mpr z))]
theorem lenLooks {rs : List Row} {st : St1} {e : Ex} {n : Nat} (h : e.dep ≤ n) (h4 : n ≤ 4) : ((ev rs st e).2.map PyData.int).length ≤ 32 := by
  rw [List.length_map]
  exact Nat.le_trans (evL e n h) (Nat.pow_le_pow_right (n := 2) (by decide) (show n + 1 ≤ 5 by omega))
end K

namespace K
open PySem L2 G
variable {M : Md}
def fullE : Ex → Prop
  | .bin op _ _ => isLazy op = false
  | .un _ _ => True
  | .kk _ _ _ => True
  | _ => False
def pts : Ex → List Ex
  | .bin _ a b => [a, b]
  | .un _ e => [e]
  | .kk _ e n => [e, .int n]
  | _ => []
def opOf : Ex → Str
  | .bin op _ _ => op
  | .un op _ => op
  | .kk op _ _ => op
  | _ => ""
theorem full_d {e : Ex} (h : fullE e) : e.d = .tuple (.str (opOf e) :: (pts e).map Ex.d) := by
  cases e with
  | bin => rfl
  | un => rfl
  | kk => rfl
  | int => exact h.elim
  | nm => exact h.elim
  | «at» => exact h.elim
  | ite => exact h.elim
abbrev Ress := Option (List Int) × List Int
def evs (rs : List Row) (st : St1) : List Ex → Ress
  | [] => (some [], [])
  | p :: ps => match (ev rs st p).1 with
    | none => (none, (ev rs st p).2)
    | some v => ((evs rs st ps).1.map (v :: ·), (ev rs st p).2 ++ (evs rs st ps).2)
def fullR (op : Str) (r : Ress) : Res := match r.1 with
  | none => (none, r.2)
  | some [] => (none, r.2)
  | some [v] => (some (un1 op v), r.2)
  | some (v :: w :: _) => (some (bin2 op v w), r.2)
theorem evs_none {rs : List Row} {st : St1} {p : Ex} {ps : List Ex} (h : (ev rs st p).1 = none) : evs rs st (p :: ps) = (none, (ev rs st p).2) := by
  rw [evs, h]
theorem evs_some {rs : List Row} {st : St1} {p : Ex} {ps : List Ex} {v : Int} (h : (ev rs st p).1 = some v) : evs rs st (p :: ps) = ((evs rs st ps).1.map (v :: ·), (ev rs st p).2 ++ (evs rs st ps).2) := by
  rw [evs, h]
theorem two_full (rs : List Row) (st : St1) (op : Str) (a b : Ex) : thn1 (ev rs st a) (fun v => thn1 (ev rs st b) fun w => (some (bin2 op v w), [])) = fullR op (evs rs st [a, b]) := by
  cases ea : (ev rs st a).1 with
  | none => rw [thn1_none ea, evs_none ea]; rfl
  | some v =>
    rw [thn1_val ea, evs_some ea]
    cases eb : (ev rs st b).1 with
    | none => rw [thn1_none eb, evs_none eb]; rfl
    | some w => rw [thn1_val eb, evs_some eb]; rfl
theorem ev_full {rs : List Row} {st : St1} {e : Ex} (h : fullE e) : ev rs st e = fullR (opOf e) (evs rs st (pts e)) := by
  cases e with
  | bin op a b =>
    have hf : isLazy op = false := h
    rw [ev, if_neg (by rw [hf]; decide), two_full]
    rfl
  | un op a =>
    rw [ev]
    show _ = fullR op (evs rs st [a])
    cases ea : (ev rs st a).1 with
    | none => rw [thn1_none ea, evs_none ea]; rfl
    | some v => rw [thn1_val ea, evs_some ea]; rfl
  | kk op a n =>
    rw [ev]
    show _ = fullR op (evs rs st [a, .int n])
    rw [← two_full]
    cases ea : (ev rs st a).1 with
    | none => rw [thn1_none ea, thn1_none ea]
    | some v => rw [thn1_val ea, thn1_val ea]; rfl
  | int => exact h.elim
  | nm => exact h.elim
  | «at» => exact h.elim
  | ite => exact h.elim
theorem cut1 {α : Type} (x : α) (l : List α) (h : l.length = 1 ∨ l.length = 2) : cutD (x :: l) (some 1) none = l := by
  match l, h with
  | [a], _ => rfl
  | [a, b], _ => rfl
theorem pts_len {e : Ex} (h : fullE e) : (pts e).length = 1 ∨ (pts e).length = 2 := by
  cases e with
  | bin => exact .inr rfl
  | un => exact .inl rfl
  | kk => exact .inr rfl
  | int => exact h.elim
  | nm => exact h.elim
  | «at» => exact h.elim
  | ite => exact h.elim
def rFull (n : Nat) : List PyData → PyData → Prop := fun ds d => ∃ (rs : List Row) (st : St1) (e : Ex), ds = [cellsD rs, stD st, e.d] ∧ fullE e ∧ EvIn rs st e (n + 1) ∧ d = resD (ev rs st e)
theorem pts_in {rs : List Row} {st : St1} {e : Ex} {n : Nat} (h : EvIn rs st e (n + 1)) : ∀ p ∈ pts e, EvIn rs st p n := by
  obtain ⟨S, fit, dep, n4⟩ := h
  have h4 : n ≤ 4 := by omega
  cases e with
  | bin op a b =>
    unfold Fit at fit
    unfold Ex.dep at dep
    intro p hp
    rcases List.mem_cons.mp hp with rfl | hp
    · exact ⟨S, fit.2.1, by omega, h4⟩
    rcases List.mem_cons.mp hp with rfl | hp
    · exact ⟨S, fit.2.2, by omega, h4⟩
    cases hp
  | un op a =>
    unfold Fit at fit
    unfold Ex.dep at dep
    intro p hp
    rcases List.mem_cons.mp hp with rfl | hp
    · exact ⟨S, fit.2, by omega, h4⟩
    cases hp
  | kk op a k =>
    unfold Fit at fit
    unfold Ex.dep at dep
    intro p hp
    rcases List.mem_cons.mp hp with rfl | hp
    · exact ⟨S, fit.2.1, by omega, h4⟩
    rcases List.mem_cons.mp hp with rfl | hp
    · exact ⟨S, by unfold Fit; omega, Nat.zero_le _, h4⟩
    cases hp
  | int => exact fun _ h => nomatch h
  | nm => exact fun _ h => nomatch h
  | «at» => exact fun _ h => nomatch h
  | ite => exact fun _ h => nomatch h
theorem evs_bd {rs : List Row} {st : St1} {n : Nat} : ∀ {ps : List Ex} {vs : List Int}, (∀ p ∈ ps, EvIn rs st p n) → (evs rs st ps).1 = some vs → (∀ v ∈ vs, v.natAbs ≤ Bd n) ∧ vs.length = ps.length
  | [], vs, _, h => by
    rw [evs] at h
    cases h
    exact ⟨(fun _ h => nomatch h), rfl⟩
  | p :: ps, vs, hp, h => by
    have h1 := hp p (List.mem_cons_self ..)
    cases e : (ev rs st p).1 with
    | none => rw [evs_none e] at h; cases h
    | some v =>
      rw [evs_some e] at h
      obtain ⟨ws, hw, rfl⟩ := Option.map_eq_some_iff.mp h
      obtain ⟨h2, h3⟩ := evs_bd (fun q hq => hp q (List.mem_cons_of_mem _ hq)) hw
      refine ⟨fun w hw => ?_, by rw [List.length_cons, List.length_cons, h3]⟩
      rcases List.mem_cons.mp hw with rfl | hw
      · exact evB h1.S p n _ h1.dep h1.fit e
      · exact h2 w hw
end K

namespace K
open PySem L2 G
variable {M : Md}
def lazyW : List Str := ["and", "or", "if"]
structure Lz (M : Md) : Prop where
  ex : ∃ aL, M.mg "LAZY" = some (.ref aL) ∧ ∀ H, SqT M.K H aL (lazyW.map V.str)
abbrev dcIx (M : Md) : Prop := DcV M "cell_index" ["cells", "name", "key"] [.non] 3 (spF rIndex M.K)
theorem thn1_keyed {rs : List Row} {st : St1} {t : Str} {e : Ex} : ev rs st (.at t e) = thn1 (keyed rs t (ev rs st e)) fun j => (some (gt st j), [j]) := by rw [ev]
theorem keyed_in {rs : List Row} {st : St1} {t : Str} {e : Ex} {j : Int} (h : (keyed rs t (ev rs st e)).1 = some j) : 0 ≤ j ∧ j < total rs := by
  unfold keyed at h
  split at h
  · cases h
  · have := fIdx_in h
    omega
theorem bins_at : ∀ op ∈ bins, op ≠ "at" ∧ (op ∈ lazyW → isLazy op = true) ∧ (op ∉ lazyW → isLazy op = false) := by decide +kernel
theorem uns_at : ∀ op ∈ uns, op ≠ "at" ∧ op ∉ lazyW := by decide +kernel
theorem kks_at : ∀ op ∈ kks, op ≠ "at" ∧ op ∉ lazyW := by decide +kernel
end K

namespace K
open PySem L2 G
variable {M : Md}
def rVal (n : Nat) : List PyData → PyData → Prop := fun ds d => ∃ (rs : List Row) (st : St1) (e : Ex), ds = [cellsD rs, stD st, e.d] ∧ EvIn rs st e n ∧ d = optD (ev rs st e).1
def firsts (lk : List Int) : List Int := lk.foldl (fun seen j => if j ∈ seen then seen else seen ++ [j]) []
def lookD (st : St1) (j : Int) : PyData := .tuple [.int j, .int (gt st j)]
def looksD (st : St1) (lk : List Int) : PyData := .tuple ((firsts lk).map (lookD st))
theorem firsts_snoc {lk : List Int} {i : Nat} {j : Int} (h : lk[i]? = some j) : firsts (lk.take (i + 1)) = if j ∈ firsts (lk.take i) then firsts (lk.take i) else firsts (lk.take i) ++ [j] := by
  obtain ⟨h1, rfl⟩ := List.getElem?_eq_some_iff.mp h
  rw [List.take_succ_eq_append_getElem h1, firsts, List.foldl_append]
  rfl
theorem firsts_len (lk : List Int) : (firsts lk).length ≤ lk.length := by
  have : ∀ (l seen : List Int), (l.foldl (fun seen j => if j ∈ seen then seen else seen ++ [j]) seen).length ≤ seen.length + l.length := by
    intro l
    induction l with
    | nil => intro seen; exact Nat.le_refl _
    | cons j l ih =>
      intro seen
      have h := ih (if j ∈ seen then seen else seen ++ [j])
      rw [List.foldl_cons, List.length_cons]
      split at h
      · rename_i hj; rw [if_pos hj]; omega
      · rename_i hj; rw [if_neg hj]; rw [List.length_append, List.length_singleton] at h; omega
  have h := this lk []
  simpa [firsts] using h
theorem firsts_mem {lk : List Int} {j : Int} : j ∈ firsts lk ↔ j ∈ lk := by
  have : ∀ (l seen : List Int), j ∈ (l.foldl (fun seen j => if j ∈ seen then seen else seen ++ [j]) seen) ↔ j ∈ seen ∨ j ∈ l := by
    intro l
    induction l with
    | nil => intro seen; simp
    | cons x l ih =>
      intro seen
      rw [List.foldl_cons, ih, List.mem_cons]
      split
      · rename_i hx
        constructor
        · rintro (h | h)
          · exact .inl h
          · exact .inr (.inr h)
        · rintro (h | rfl | h)
          · exact .inl h
          · exact .inl hx
          · exact .inr h
      · rw [List.mem_append, List.mem_singleton, or_assoc]
  rw [firsts, this]
  simp
theorem firsts_nodup (lk : List Int) : (firsts lk).Nodup := by
  have : ∀ (l seen : List Int), seen.Nodup → (l.foldl (fun seen j => if j ∈ seen then seen else seen ++ [j]) seen).Nodup := by
    intro l
    induction l with
    | nil => intro seen h; exact h
    | cons x l ih =>
      intro seen h
      rw [List.foldl_cons]
      refine ih _ ?_
      split
      · exact h
      · rename_i hx
        rw [List.nodup_append]
        refine ⟨h, by simp, ?_⟩
        intro a ha b hb
        rw [List.mem_singleton.mp hb]
        rintro rfl
        exact hx ha
  exact this lk [] List.nodup_nil
theorem inI (j : Int) (l : List Int) : inV (.int j) (l.map .int) = decide (j ∈ l) := by
  unfold inV
  rw [Bool.eq_iff_iff, List.any_eq_true, decide_eq_true_iff]
  constructor
  · rintro ⟨y, hy, h⟩
    obtain ⟨z, hz, rfl⟩ := List.mem_map.mp hy
    have : z = j := by simpa [eqV] using h
    rw [← this]; exact hz
  · intro h
    exact ⟨.int j, List.mem_map.mpr ⟨j, h, rfl⟩, by simp [eqV]⟩
theorem ro_notInI {c : Cd} {H : Hp} {Q : VK} {l : Addr} {j : Int} {js : List Int} (hl : H l = some (.lst (js.map V.int))) (q : Q (.bl (!decide (j ∈ js))) H) : RQ c .NotIn (.int j) (.ref l) H Q := by
  refine rq_of (r := rIn c.K true) (fun X h => by rw [← h.K]; exact op_notIn_seq) ⟨l, _, rfl, .inl (.of hl), rfl, by simp [flatV], ?_⟩
  show Q (.bl (!inV (.int j) (js.map .int))) H
  rw [inI]
  exact q
def rFirst : List PyData → PyData → Prop := fun ds d => ∃ (rs : List Row) (st : St1) (lk : List Int), ds = [stD st, .tuple (lk.map .int)] ∧ StOk rs st ∧ (∀ j ∈ lk, 0 ≤ j ∧ j < total rs) ∧ lk.length ≤ 900 ∧ d = looksD st lk
theorem ev_in {rs : List Row} {st : St1} (S : StOk rs st) : ∀ (e : Ex), Fit rs e → ∀ j ∈ (ev rs st e).2, 0 ≤ j ∧ j < total rs := by
  have th : ∀ (r : Res) (g : Int → Res), (∀ j ∈ r.2, 0 ≤ j ∧ j < total rs) → (∀ v, r.1 = some v → ∀ j ∈ (g v).2, 0 ≤ j ∧ j < total rs) → ∀ j ∈ (thn1 r g).2, 0 ≤ j ∧ j < total rs := by
    intro r g h1 h2 j hj
    cases e : r.1 with
    | none => rw [thn1_none e] at hj; exact h1 j hj
    | some v =>
      rw [thn1_val e] at hj
      rcases List.mem_append.mp hj with hj | hj
      · exact h1 j hj
      · exact h2 v e j hj
  intro e
  induction e with
  | int => intro _ j hj; rw [ev] at hj; cases hj
  | nm s =>
    intro hf j hj
    rw [ev] at hj
    rw [List.mem_singleton.mp hj]
    exact (ix_ok S.nd hf).2
  | «at» t e ih =>
    intro hf j hj
    rw [thn1_keyed] at hj
    refine th _ _ (by rw [keyed_snd]; exact ih hf.2) (fun v hv j hj => ?_) j hj
    rw [List.mem_singleton.mp hj]
    exact keyed_in hv
  | un op e ih =>
    intro hf j hj
    rw [ev] at hj
    exact th _ _ (ih hf.2) (fun v hv j hj => by cases hj) j hj
  | bin op a b iha ihb =>
    intro hf j hj
    rw [ev] at hj
    split at hj
    · refine th _ _ (iha hf.2.1) (fun v hv j hj => ?_) j hj
      split at hj
      · cases hj
      · exact th _ _ (ihb hf.2.2) (fun v hv j hj => by cases hj) j hj
    · refine th _ _ (iha hf.2.1) (fun v hv j hj => ?_) j hj
      exact th _ _ (ihb hf.2.2) (fun v hv j hj => by cases hj) j hj
  | kk op e n ih =>
    intro hf j hj
    rw [ev] at hj
    exact th _ _ (ih hf.2.1) (fun v hv j hj => by cases hj) j hj
  | ite a b d iha ihb ihd =>
    intro hf j hj
    rw [ev] at hj
    refine th _ _ (iha hf.1) (fun v hv j hj => ?_) j hj
    split at hj
    · exact ihb hf.2.1 j hj
    · exact ihd hf.2.2 j hj
def rLooked (n : Nat) : List PyData → PyData → Prop := fun ds d => ∃ (rs : List Row) (st : St1) (e : Ex), ds = [cellsD rs, stD st, e.d] ∧ EvIn rs st e n ∧ d = looksD st (ev rs st e).2
end K

namespace K
open PySem L2 G
variable {M : Md}
def Tg.str : Tg → Bool
  | .nm _ => true
  | .at _ _ => false
def tgt (rs : List Row) (st : St1) : Tg → Res
  | .nm s => (fIdx rs s none 0, [])
  | .at t e => keyed rs t (ev rs st e)
structure TgIn (rs : List Row) (st : St1) (t : Tg) : Prop where
  S : StOk rs st
  fit : FitT rs t
def rTgt : List PyData → PyData → Prop := fun ds d => ∃ (rs : List Row) (st : St1) (t : Tg), ds = [cellsD rs, stD st, t.d] ∧ TgIn rs st t ∧ d = resD (tgt rs st t)
abbrev Ents := Option (List (Int × Int)) × List Int
def wo (rs : List Row) (st : St1) : List (Tg × Ex) → Ents
  | [] => (some [], [])
  | p :: ps => match (tgt rs st p.1).1 with
    | none => (none, (tgt rs st p.1).2)
    | some j => match (ev rs st p.2).1 with
      | none => (none, (tgt rs st p.1).2 ++ (ev rs st p.2).2)
      | some v => ((wo rs st ps).1.map ((j, v) :: ·), (tgt rs st p.1).2 ++ ((ev rs st p.2).2 ++ (wo rs st ps).2))
def work (rs : List Row) (st : St1) (r : Rl) : Ents := match (ev rs st r.guard).1 with
  | none => (none, (ev rs st r.guard).2)
  | some g => if g = 0 then (none, (ev rs st r.guard).2) else ((wo rs st r.as).1, (ev rs st r.guard).2 ++ (wo rs st r.as).2)
def entD (p : Int × Int) : PyData := .tuple [.int p.1, .int p.2]
/-- pairs of ints, each a tuple of ours -/
inductive PrAll (H : Hp) : List V → List (Int × Int) → Prop
  | nil : PrAll H [] []
  | cons {t : Addr} {i j : Int} {us : List V} {es : List (Int × Int)} : H t = some (.tup [.int i, .int j]) → PrAll H us es → PrAll H (.ref t :: us) ((i, j) :: es)
theorem PrAll.mono {H H' : Hp} (e : Tp H H') {us : List V} {es : List (Int × Int)} (h : PrAll H us es) : PrAll H' us es := by
  induction h with
  | nil => exact .nil
  | cons h1 _ ih => exact .cons (e.t _ _ h1) ih
theorem PrAll.app {H : Hp} {us vs : List V} {es fs : List (Int × Int)} (h : PrAll H us es) (k : PrAll H vs fs) : PrAll H (us ++ vs) (es ++ fs) := by
  induction h with
  | nil => exact k
  | cons h1 _ ih => exact .cons h1 ih
theorem PrAll.dt {K : PySem.W.Frag} {H : Hp} {us : List V} {es : List (Int × Int)} (h : PrAll H us es) : DtAll K H us (es.map entD) := by
  induction h with
  | nil => exact .nil
  | cons h1 _ ih => exact .cons (.tup (.of h1) (.cons (.int _) (.cons (.int _) .nil))) ih
/-- None or a new list of pairs -/
def EntV (K : PySem.W.Frag) (H0 H : Hp) : V → Option (List (Int × Int)) → Prop
  | v, none => v = .non
  | v, some es => ∃ l us, v = .ref l ∧ H0 l = none ∧ H l = some (.lst us) ∧ PrAll H us es
def spWork (K : PySem.W.Frag) : Sp := fun vs H Q _ => ∃ (rs : List Row) (st : St1) (r : Rl), DtAll K H vs [cellsD rs, r.d, stD st] ∧ StOk rs st ∧ FitR rs r ∧
  ∀ p v1 v2 H', Same H H' → SqT K H' p [v1, v2] → EntV K H H' v1 (work rs st r).1 → Dt K H' v2 (.tuple ((work rs st r).2.map .int)) → Q (.ref p) H'
theorem wo_j {rs : List Row} {st : St1} {p : Tg × Ex} {ps : List (Tg × Ex)} (h : (tgt rs st p.1).1 = none) : wo rs st (p :: ps) = (none, (tgt rs st p.1).2) := by rw [wo, h]
theorem wo_v {rs : List Row} {st : St1} {p : Tg × Ex} {ps : List (Tg × Ex)} {j : Int} (h : (tgt rs st p.1).1 = some j) (h2 : (ev rs st p.2).1 = none) : wo rs st (p :: ps) = (none, (tgt rs st p.1).2 ++ (ev rs st p.2).2) := by rw [wo, h]; simp only [h2]
theorem wo_s {rs : List Row} {st : St1} {p : Tg × Ex} {ps : List (Tg × Ex)} {j v : Int} (h : (tgt rs st p.1).1 = some j) (h2 : (ev rs st p.2).1 = some v) : wo rs st (p :: ps) = ((wo rs st ps).1.map ((j, v) :: ·), (tgt rs st p.1).2 ++ ((ev rs st p.2).2 ++ (wo rs st ps).2)) := by rw [wo, h]; simp only [h2]
theorem tgt_len {rs : List Row} {st : St1} {t : Tg} (h : FitT rs t) : (tgt rs st t).2.length ≤ 32 := by
  cases t with
  | nm => exact Nat.zero_le _
  | «at» t e =>
    unfold tgt
    rw [keyed_snd]
    have := lenLooks (rs := rs) (st := st) (e := e) (n := 2) h.2.2 (by decide)
    rwa [List.length_map] at this
end K

namespace K
open PySem PySem.Spec PyProof.Rows L2 G
variable {M : Md}
def tLenSetA (K : PySem.W.Frag) (ta : TE) : TE := fun σ H Q => ta σ H fun x H1 => ∃ (l : Addr) (ns : List Int), x = .ref l ∧ SqL K H1 l (ns.map V.int) ∧ ns.length ≤ 4000 ∧ Q (.int ((firsts ns).length : Nat)) H1
theorem met_firsts (ns : List Int) : firstMet (fun i => ns.getD i 0) ns.length = firsts ns := by
  have e : (List.range ns.length).map (fun i => ns.getD i 0) = ns := by
    apply List.ext_getElem
    · simp
    · intro i h1 h2
      simp [List.getD_eq_getElem?_getD, List.getElem?_eq_getElem h2]
  have e2 : (fun (seen : List Int) (j : Int) => if j ∈ seen then seen else seen ++ [j]) = step_dedup := by
    funext seen j
    unfold step_dedup
    by_cases h : j ∈ seen
    · rw [if_pos h, if_pos (by simpa [List.any_eq_true] using h)]
    · rw [if_neg h, if_neg (by simpa [List.any_eq_true] using h)]
  unfold firstMet firsts
  rw [e, e2]
theorem pe_lenSetA {X : Cx} {a : Expr} {ta : TE} {p p2 q pos : Pos} (hc : X.calm = true) (hg : Gl X "len") (hm : X.mg "len" = none) (hg2 : Gl X "set") (hm2 : X.mg "set" = none) (ha : PE X a ta)
    (na : starEach [a] X.env = (false, eval a X.env) :: starEach [] X.env := by rfl) : PE X (.Call (.Name "len" p) [.Call (.Name "set" p2) [a] [] q] [] pos) (tLenSetA X.K ta) := by
  constructor
  intro ps s0 σ H Q J w
  apply Call_ (ld_blt J hg hm boot_len _)
  apply PyProof.Rows.callWith_builtin1 (PyProof.Rows.args_cons _ rfl) rfl rfl
  apply Call_ (ld_blt J hg2 hm2 boot_set _)
  apply PyProof.Rows.callWith_type1 (PyProof.Rows.args_cons (thn (ha.run ps s0 σ H _ J w) _) na) na rfl
  rintro u t0 ⟨x, H1, J1, ru, l, ns, rfl, isL, few, k⟩
  cases ru
  apply PyProof.Rows.args_nil
  obtain ⟨ws, rw0, plain, _⟩ := J1.list isL
  have size : ws.toArray.size = ns.length := by rw [List.size_toArray, ← rw0.length, List.length_map]
  refine call_set_list (J1.ok.hd hc) plain.isList (by simpa using RZ.intsAre_vals rw0) (by rw [size]; unfold scanBound; omega) fun hp tk isS keep => ?_
  rw [size, met_firsts] at isS
  have few2 := firsts_len ns
  obtain ⟨ob, es, ep, tt, a1, a2, a3, -, -, -, a4, a5⟩ := isS
  apply PyProof.Rows.args_nil
  exact call_len_set a1 a2 a3 a4 (by rw [a5] <;> omega) ⟨.int (firsts ns).length, H1, (J1.kept (fun b o e => keep b o (Heap.lt_size e)  e)).tok _, ⟨_, by rw [a5]⟩, k⟩
theorem e_lenSet {c : Cd} {σ : L2.St} {H : Hp} {Q : VK} {a : Expr} {p p2 q pos : Pos} (b : Bl c.toMd) (w : RE c a σ H fun x H1 => ∃ (l : Addr) (ns : List Int), x = .ref l ∧ SqL c.K H1 l (ns.map V.int) ∧ ns.length ≤ 4000 ∧ Q (.int ((firsts ns).length : Nat)) H1)
    (hg : c.sc.names.lookup ("len" : Str) = some .globalImplicit := by rfl) (hg2 : c.sc.names.lookup ("set" : Str) = some .globalImplicit := by rfl) (na : ∀ env, starEach [a] env = (false, eval a env) :: starEach [] env := by intro _; rfl) : RE c (.Call (.Name "len" p) [.Call (.Name "set" p2) [a] [] q] [] pos) σ H Q :=
  re_of (t := tLenSetA c.K (RE c a)) (fun X h => by rw [← h.K]; exact pe_lenSetA h.calm (gl_of h hg) (by rw [h.mg]; exact b.len) (gl_of h hg2) (by rw [h.mg]; exact b.set) (pe_re h) (na _)) w
end K

local macro_rules | `(tactic| tm_at "s") => `(tactic| (refine gRE ?_; refine K.e_lenSet (by assumption) ?_))
namespace K
open PySem PySem.Spec PyProof.Rows L2 G
variable {M : Md}
def kf (H : Hp) : V → Int × Int
  | .ref t => match H t with
    | some (.tup [.int i, .int j]) => (i, j)
    | _ => (0, 0)
  | _ => (0, 0)
theorem PrAll.kf {H : Hp} {us : List V} {es : List (Int × Int)} (h : PrAll H us es) : es = us.map (K.kf H) ∧ ∀ x ∈ us, ∃ t, x = .ref t ∧ H t = some (.tup [.int (K.kf H x).1, .int (K.kf H x).2]) := by
  induction h with
  | nil => exact ⟨rfl, fun _ h => nomatch h⟩
  | @cons t i j us es h1 h2 ih =>
    have e : K.kf H (.ref t) = (i, j) := by
      show (match H t with | some (.tup [.int i, .int j]) => (i, j) | _ => (0, 0)) = _
      rw [h1]
    refine ⟨by rw [List.map_cons, e, ← ih.1], fun x hx => ?_⟩
    rcases List.mem_cons.mp hx with rfl | hx
    · exact ⟨t, rfl, by rw [e]; exact h1⟩
    · exact ih.2 x hx
theorem prAll_of {H : Hp} : ∀ {ys : List V}, (∀ x ∈ ys, ∃ t, x = .ref t ∧ H t = some (.tup [.int (kf H x).1, .int (kf H x).2])) → PrAll H ys (ys.map (kf H))
  | [], _ => .nil
  | y :: ys, h => by
    obtain ⟨t, rfl, ht⟩ := h y (List.mem_cons_self ..)
    exact .cons ht (prAll_of fun x hx => h x (List.mem_cons_of_mem _ hx))
def leB (a b : Int × Int) : Bool := !SrtO.lexB b a
def sortE (es : List (Int × Int)) : List (Int × Int) := es.mergeSort leB
theorem leB_iff {a b : Int × Int} : leB a b = true ↔ a.1 < b.1 ∨ (a.1 = b.1 ∧ a.2 ≤ b.2) := by
  unfold leB
  rw [Bool.not_eq_true', SrtO.lexB_no]
  omega
theorem sortE_pw (es : List (Int × Int)) : (sortE es).Pairwise fun a b => leB a b = true := by
  refine List.pairwise_mergeSort (fun a b c h1 h2 => ?_) (fun a b => ?_) es
  · rw [leB_iff] at *; omega
  · rw [Bool.or_eq_true, leB_iff, leB_iff]; omega
theorem sortE_perm (es : List (Int × Int)) : (sortE es).Perm es := List.mergeSort_perm es leB
theorem sortE_uniq {es fs : List (Int × Int)} (hp : fs.Perm es) (hs : fs.Pairwise fun a b => leB a b = true) : fs = sortE es := by
  refine List.Perm.eq_of_pairwise (le := fun a b => leB a b = true) (fun a b _ _ h1 h2 => ?_) hs (sortE_pw es) (hp.trans (sortE_perm es).symm)
  rw [leB_iff] at *
  exact Prod.ext (by omega) (by omega)
theorem rc_sortedP {c : Cd} {H : Hp} {Q : VK} {l : Addr} {us : List V} {es : List (Int × Int)} (hl : H l = some (.lst us)) (hp : PrAll H us es) (q : ∀ p ys H', Same H H' → H p = none → H' p = some (.lst ys) → PrAll H' ys (sortE es) → Q (.ref p) H') : RC c (.builtin "sorted") [.ref l] H Q := by
  obtain ⟨h1, h2⟩ := hp.kf
  refine rc_of (r := rSortedPO c.K) (fun X h => by rw [← h.K]; exact cr_sortedPO) ⟨l, us, kf H, rfl, .of hl, h2, fun ys p hs hb hn => ?_⟩
  have hm : ∀ x ∈ ys, x ∈ us := fun x hx => hb.perm.mem_iff.mp hx
  have e : ys.map (kf H) = sortE es := by
    refine sortE_uniq ?_ ?_
    · rw [h1]; exact hb.perm.map _
    · rw [List.pairwise_map]
      refine hs.imp fun {a b} h => ?_
      unfold leB
      rw [show SrtO.lexB (kf H b) (kf H a) = false from h]
      rfl
  refine q p ys _ (same_new hn) hn upd_same ?_
  rw [← e]
  exact (prAll_of fun x hx => h2 x (hm x hx)).mono (tp_same (same_new hn))
def inR (rs : List Row) (p : Int × Int) : Bool := match (rg rs)[p.1.toNat]? with
  | some r => decide (r.1 ≤ p.2) && decide (p.2 ≤ r.2)
  | none => false
def asg (rs : List Row) (st : St1) (r : Rl) : Option (List (Int × Int)) := match (work rs st r).1 with
  | none => none
  | some es => if (firsts (es.map (·.1))).length < es.length then none else if es.all (inR rs) then some (sortE es) else none
def asgD : Option (List (Int × Int)) → PyData
  | none => .none
  | some es => .tuple (es.map entD)
theorem tgt_in {rs : List Row} {st : St1} {t : Tg} {j : Int} (h : (tgt rs st t).1 = some j) : 0 ≤ j ∧ j < total rs := by
  cases t with
  | nm s => have := fIdx_in h; omega
  | «at» t e => exact keyed_in h
theorem wo_in {rs : List Row} {st : St1} : ∀ {as : List (Tg × Ex)} {es : List (Int × Int)}, (wo rs st as).1 = some es → (∀ p ∈ es, 0 ≤ p.1 ∧ p.1 < total rs) ∧ es.length = as.length
  | [], es, h => by
    rw [wo] at h
    cases h
    exact ⟨(fun _ h => nomatch h), rfl⟩
  | p :: ps, es, h => by
    cases e1 : (tgt rs st p.1).1 with
    | none => rw [wo_j e1] at h; cases h
    | some j =>
      cases e2 : (ev rs st p.2).1 with
      | none => rw [wo_v e1 e2] at h; cases h
      | some v =>
        rw [wo_s e1 e2] at h
        obtain ⟨ws, hw, rfl⟩ := Option.map_eq_some_iff.mp h
        obtain ⟨h2, h3⟩ := wo_in hw
        refine ⟨fun q hq => ?_, by rw [List.length_cons, List.length_cons, h3]⟩
        rcases List.mem_cons.mp hq with rfl | hq
        · exact tgt_in e1
        · exact h2 q hq
theorem work_in {rs : List Row} {st : St1} {r : Rl} {es : List (Int × Int)} (h : (work rs st r).1 = some es) : (∀ p ∈ es, 0 ≤ p.1 ∧ p.1 < total rs) ∧ es.length = r.as.length := by
  unfold work at h
  split at h
  · cases h
  · split at h
    · cases h
    · exact wo_in h
def rAsg : List PyData → PyData → Prop := fun ds d => ∃ (rs : List Row) (st : St1) (r : Rl), ds = [cellsD rs, r.d, stD st] ∧ StOk rs st ∧ FitR rs r ∧ d = asgD (asg rs st r)
theorem PrAll.len {H : Hp} {us : List V} {es : List (Int × Int)} (h : PrAll H us es) : us.length = es.length := by
  have := (h.dt (K := ([] : PySem.W.Frag))).len
  rwa [List.length_map] at this
end K

namespace K
open PySem PySem.Spec PyProof.Rows L2 G
variable {M : Md}
abbrev dcWork (M : Md) : Prop := Dc M "_worked_out" ["cells", "rule", "state"] 13 (spWork M.K)
abbrev dcRng (M : Md) : Prop := Dc M "cell_ranges" ["cells"] 2 (spF rRanges M.K)
theorem rg_get {rs : List Row} {p : Int × Int} (h0 : 0 ≤ p.1) (h1 : p.1 < total rs) : ∃ r : Rng, (rg rs)[p.1.toNat]? = some r ∧ atI (rngs rs) p.1 = some (rngD r) ∧ inR rs p = (decide (r.1 ≤ p.2) && decide (p.2 ≤ r.2)) := by
  have hlt : p.1.toNat < (rg rs).length := by rw [rg_len]; omega
  refine ⟨(rg rs)[p.1.toNat], List.getElem?_eq_getElem hlt, ?_, ?_⟩
  · refine pl_at (j := p.1.toNat) (by omega) ?_
    rw [rngs_eq, List.getElem?_map, List.getElem?_eq_getElem hlt]
    rfl
  · unfold inR
    rw [List.getElem?_eq_getElem hlt]
def gIx : PyData → Option PyData
  | .tuple [.int i, .int _] => some (.int i)
  | _ => none
theorem gIx_all (es : List (Int × Int)) : (es.map entD).filterMap gIx = (es.map (·.1)).map .int := by
  induction es with
  | nil => rfl
  | cons p es ih => rw [List.map_cons, List.filterMap_cons, List.map_cons, List.map_cons, ← ih]; rfl
theorem dtInts_eq {K : PySem.W.Frag} {H : Hp} : ∀ {ns : List Int} {xs : List V}, DtAll K H xs (ns.map .int) → xs = ns.map .int
  | [], _, h => by cases h; rfl
  | w :: ws, _, h => by
    cases h with
    | cons h1 h2 =>
      cases h1
      rw [dtInts_eq h2, List.map_cons]
theorem rc_tupP {c : Cd} {H : Hp} {Q : VK} {l : Addr} {ys : List V} {ds : List PyData} (hl : SqL c.K H l ys) (hd : DtAll c.K H ys ds) (q : ∀ v H2, Same H H2 → Dt c.K H2 v (.tuple ds) → Fz c.K H2 v (.tuple ds) → (∃ t, v = .ref t ∧ SqT c.K H2 t ys) → Q v H2) : RC c (.type "tuple") [.ref l] H Q :=
  rc_of (r := fun vs H Q => ∃ l zs, vs = [.ref l] ∧ SqL c.K H l zs ∧ ∀ t ob, H t = none → BareT ob → Q (.ref t) (upd H t (.frz ob (.tup zs)))) (fun X h => by rw [← h.K]; exact cr_tupF) ⟨l, ys, rfl, hl, fun t ob hn hb =>
    have m := hd.mono (tp_same (same_new (o := .frz ob (.tup ys)) hn))
    q _ _ (same_new hn) (.tup (.inl (.inr ⟨ob, upd_same⟩)) m) (.inr ⟨t, ob, ys, ds, rfl, rfl, upd_same, hb, m⟩) ⟨t, rfl, .inl (.inr ⟨ob, upd_same⟩)⟩⟩
def spAsg (K : PySem.W.Frag) : Sp := fun vs H Q _ => ∃ ds d, DtAll K H vs ds ∧ (∃ (rs : List Row) (st : St1) (r : Rl), ds = [cellsD rs, r.d, stD st] ∧ StOk rs st ∧ FitR rs r ∧ d = asgD (asg rs st r) ∧
  ∀ v H', Same H H' → Dt K H' v d → Fz K H' v d → (∀ es, asg rs st r = some es → ∃ a us, v = .ref a ∧ SqT K H' a us ∧ PrAll H' us es) → Q v H')
theorem spAsg_of {K : PySem.W.Frag} {vs : List V} {H : Hp} {Q : VK} {E : XK} (h : spZ rAsg K vs H Q E) : spAsg K vs H Q E := by
  obtain ⟨ds, d, h, ⟨rs, st, r, e, S, R, ed⟩, k⟩ := h
  exact ⟨ds, d, h, rs, st, r, e, S, R, ed, fun v H' s h1 h2 _ => k v H' s h1 h2⟩
theorem fn_imp {P : Program} {w : World} {K : PySem.W.Frag} {mg : Str → Option Value} {base : Heap} {CX : CXT} {k : Nat} {f : Addr} {fd : FuncData} {ps : List Str} {sp sp' : Sp} (F : FnG P w K mg base CX k f fd ps sp) (h : ∀ vs H Q E, sp' vs H Q E → sp vs H Q E) : FnG P w K mg base CX k f fd ps sp' :=
  ⟨fun vs H Q E z => F.len vs H Q E (h _ _ _ _ z), fun A o s H ag us vs Q E hr e0 bt v z => F.run A o s H ag us vs Q E hr e0 bt v (h _ _ _ _ z)⟩
end K

namespace K
open PySem L2 G
variable {M : Md}
abbrev dcAsg (M : Md) : Prop := Dc M "assigned" ["cells", "rule", "state"] 14 (spZ rAsg M.K)
def setAt (st : St1) (p : Int × Int) : St1 := st.set p.1.toNat p.2
def beh (rs : List Row) (st : St1) (r : Rl) : St1 := match asg rs st r with
  | none => st
  | some es => es.foldl setAt st
theorem firsts_nd {l : List Int} (h : l.length ≤ (firsts l).length) : l.Nodup := by
  have up : ∀ (l seen : List Int), (l.foldl (fun seen j => if j ∈ seen then seen else seen ++ [j]) seen).length ≤ seen.length + l.length := by
    intro l
    induction l with
    | nil => intro seen; exact Nat.le_refl _
    | cons j l ih =>
      intro seen
      have h := ih (if j ∈ seen then seen else seen ++ [j])
      rw [List.foldl_cons, List.length_cons]
      split at h
      · rename_i hj; rw [if_pos hj]; omega
      · rename_i hj; rw [if_neg hj]; rw [List.length_append, List.length_singleton] at h; omega
  have : ∀ (l seen : List Int), seen.length + l.length ≤ (l.foldl (fun seen j => if j ∈ seen then seen else seen ++ [j]) seen).length → (∀ x ∈ l, x ∉ seen) ∧ l.Nodup := by
    intro l
    induction l with
    | nil => intro seen _; exact ⟨(fun _ h => nomatch h), List.nodup_nil⟩
    | cons x l ih =>
      intro seen hs
      rw [List.foldl_cons, List.length_cons] at hs
      by_cases hx : x ∈ seen
      · rw [if_pos hx] at hs
        have := up l seen
        omega
      · rw [if_neg hx] at hs
        obtain ⟨h1, h2⟩ := ih (seen ++ [x]) (by rw [List.length_append, List.length_singleton]; omega)
        refine ⟨fun y hy => ?_, List.nodup_cons.mpr ⟨fun hxl => h1 x hxl (List.mem_append_right _ (List.mem_singleton.mpr rfl)), h2⟩⟩
        rcases List.mem_cons.mp hy with rfl | hy
        · exact hx
        · exact fun hys => h1 y hy (List.mem_append_left _ hys)
  exact (this l [] (by simpa [firsts] using h)).2
theorem asg_in {rs : List Row} {st : St1} {r : Rl} {es : List (Int × Int)} (h : asg rs st r = some es) : (∀ p ∈ es, (0 ≤ p.1 ∧ p.1 < total rs) ∧ inR rs p = true) ∧ es.length = r.as.length ∧ (es.map (·.1)).Nodup ∧ es.Pairwise (fun a b => leB a b = true) := by
  unfold asg at h
  split at h
  · cases h
  rename_i es0 hw
  split at h
  · cases h
  rename_i hnd
  split at h
  · rename_i hall
    cases h
    obtain ⟨h1, h2⟩ := work_in hw
    have hp := sortE_perm es0
    refine ⟨fun p hp' => ⟨h1 p (hp.mem_iff.mp hp'), List.all_eq_true.mp hall p (hp.mem_iff.mp hp')⟩, by rw [hp.length_eq, h2], ?_, sortE_pw es0⟩
    refine ((hp.map (·.1)).nodup_iff).mpr ?_
    refine firsts_nd ?_
    rw [List.length_map]
    omega
  · cases h
def rBeh : List PyData → PyData → Prop := fun ds d => ∃ (rs : List Row) (st : St1) (r : Rl), ds = [cellsD rs, r.d, stD st] ∧ StOk rs st ∧ FitR rs r ∧ d = stD (beh rs st r)
theorem setAt_len (es : List (Int × Int)) : ∀ st : St1, (es.foldl setAt st).length = st.length := by
  induction es with
  | nil => intro st; rfl
  | cons p es ih => intro st; rw [List.foldl_cons, ih, setAt, List.length_set]
def rWa : List PyData → PyData → Prop := fun ds d => ∃ (rs : List Row) (st : St1) (r : Rl), ds = [stD st, asgD (asg rs st r)] ∧ StOk rs st ∧ FitR rs r ∧ d = stD (beh rs st r)
def rLof : List PyData → PyData → Prop := fun ds d => ∃ (rs : List Row) (st : St1) (r : Rl), ds = [cellsD rs, r.d, stD st] ∧ StOk rs st ∧ FitR rs r ∧ d = looksD st (work rs st r).2
theorem wo_looks {rs : List Row} {st : St1} (S : StOk rs st) : ∀ {as : List (Tg × Ex)}, (∀ p ∈ as, FitT rs p.1 ∧ Fit rs p.2 ∧ p.2.dep ≤ 2) → (∀ j ∈ (wo rs st as).2, 0 ≤ j ∧ j < total rs) ∧ (wo rs st as).2.length ≤ 64 * as.length
  | [], _ => by
    rw [wo]
    exact ⟨(fun _ h => nomatch h), Nat.zero_le _⟩
  | p :: ps, hp => by
    obtain ⟨h1, h2, h3⟩ := hp p (List.mem_cons_self ..)
    obtain ⟨i1, i2⟩ := wo_looks S fun q hq => hp q (List.mem_cons_of_mem _ hq)
    have lt := tgt_len (rs := rs) (st := st) h1
    have le2 := lenLooks (rs := rs) (st := st) (e := p.2) (n := 2) h3 (by decide)
    rw [List.length_map] at le2
    have tin : ∀ j ∈ (tgt rs st p.1).2, 0 ≤ j ∧ j < total rs := by
      cases hpt : p.1 with
      | nm => intro j hj; cases hj
      | «at» t e =>
        rw [hpt] at h1
        intro j hj
        unfold tgt at hj
        rw [keyed_snd] at hj
        exact ev_in S e h1.2.1 j hj
    have ein := ev_in S p.2 h2
    rw [List.length_cons]
    cases e1 : (tgt rs st p.1).1 with
    | none => rw [wo_j e1]; exact ⟨tin, by show (tgt rs st p.1).2.length ≤ _; omega⟩
    | some j =>
      cases e2 : (ev rs st p.2).1 with
      | none =>
        rw [wo_v e1 e2]
        refine ⟨fun j hj => ?_, by show ((tgt rs st p.1).2 ++ _).length ≤ _; rw [List.length_append]; omega⟩
        rcases List.mem_append.mp hj with hj | hj
        · exact tin j hj
        · exact ein j hj
      | some v =>
        rw [wo_s e1 e2]
        refine ⟨fun j hj => ?_, by show ((tgt rs st p.1).2 ++ (_ ++ _)).length ≤ _; rw [List.length_append, List.length_append]; omega⟩
        rcases List.mem_append.mp hj with hj | hj
        · exact tin j hj
        · rcases List.mem_append.mp hj with hj | hj
          · exact ein j hj
          · exact i1 j hj
theorem work_looks {rs : List Row} {st : St1} {r : Rl} (S : StOk rs st) (R : FitR rs r) : (∀ j ∈ (work rs st r).2, 0 ≤ j ∧ j < total rs) ∧ (work rs st r).2.length ≤ 900 := by
  obtain ⟨h1, h2⟩ := wo_looks S R.as
  have lg := lenLooks (rs := rs) (st := st) (e := r.guard) (n := 4) R.guard.2 (by decide)
  rw [List.length_map] at lg
  have gin := ev_in S r.guard R.guard.1
  have hl := R.len
  unfold work
  split
  · exact ⟨gin, by show (ev rs st r.guard).2.length ≤ _; omega⟩
  · split
    · exact ⟨gin, by show (ev rs st r.guard).2.length ≤ _; omega⟩
    · refine ⟨fun j hj => ?_, by show ((ev rs st r.guard).2 ++ _).length ≤ _; rw [List.length_append]; omega⟩
      rcases List.mem_append.mp hj with hj | hj
      · exact gin j hj
      · exact h1 j hj
end K

namespace G
open PySem PySem.Spec PyProof.Rows L2
/-! ### dicts whose keys are tuples: made by a comprehension, made of a list of pairs -/
section
variable {X : Cx} {pins : List (Addr × Obj)} {σ : L2.St} {H : Hp} {s : Shared}
theorem putT_here {E : Value → Shared → Prop} {D b : Addr} {kvs : List (List Key × V)} {ks : List Key} {v : V} {r : Value} {Q : Unit → Shared → Prop} (hu : X.A.units + 1 < cLine) (J : Inv X pins σ H s)
    (at_ : H D = some (.dT kvs)) (few : kvs.length < sizeLine) (kb : H b = some (.tup (ks.map kV))) (rv : RelV v r)
    (go : ∀ s', Inv X pins σ (upd H D (.dT (putK kvs ks v))) s' → Q () s') : wpAny (model X.prog X.w) X.A (dictSet D (.ref b) r) Q E s := by
  obtain ⟨zl, nm, xs, rel, tb⟩ := dt_of J.hok at_
  have zx : xs.length ≤ sizeLine := by rw [← Paired.length rel]; exact zl
  have zp : (putK kvs ks v).length ≤ sizeLine := by have := length_putK kvs ks v; omega
  refine wpAny_dictSet_heap (knd := tupleKind (mixKind X.prog X.w)) (hsz := zx) (show X.A.units < cLine by omega) (key_of J.hok kb) tb fun h2 tb2 sb => go _ ?_
  obtain ⟨ob, es, ep, q1, q2, q3, q4, _, q5⟩ := tb2
  refine d_write J (by rw [at_]; exact True.intro) sb ⟨ob, q1⟩ ⟨zp, nm, _, (rel.put ks kb rv).keeps fun c ys ec => ?_, ob, es, ep, q1, q2, q3, q4, q5⟩
  rw [upd_ne (ne_of ec at_ fun z => nomatch z)]
  exact ec
end
section
variable {X : Cx}
/-- {k: v for tg in it}, the keys tuples; D the new dict -/
def tDcT (wi : TI) (g : TG) (tt : TT) (tk tv : TE) (vs : List Nat) : TE := fun σ H Q => wi σ H fun J H1 => ∀ D, H1 D = none → ∃ W : Nat → Nat → Hp → Prop, (∃ m, W 0 m (upd H1 D (.dT []))) ∧ ∀ i m H, W i m H →
  (J.stop i H ∧ Q (.ref D) H) ∨ (J.go i H ∧ ∃ Nx : Hp → Prop, (∀ H', Nx H' → ∃ m', m' < m ∧ W (i + 1) m' H') ∧
    ∀ x H', J.yld i H x H' → g x (wipe σ vs) H' fun σ2 H2 => wipe σ2 vs = wipe σ vs ∧ tt σ2 H2 fun b H3 => if b = true then tk σ2 H3 fun y H4 => tv σ2 H4 fun z H5 =>
      ∃ (kvs : List (List Key × V)) (ks : List Key) (a : Addr), y = .ref a ∧ H5 a = some (.tup (ks.map kV)) ∧ H5 D = some (.dT kvs) ∧ kvs.length < sizeLine ∧ Nx (upd H5 D (.dT (putK kvs ks z))) else Nx H3)
theorem dcT_run {pins : List (Addr × Obj)} {s : Shared} {σ : L2.St} {H : Hp} {Q : VK} {kx vx tg iter : Expr} {ifs : List Expr} {scope : Scope} {own : List (Str × Nat)} {pos pos' : Pos} {wi : TI} {g : TG} {tt : TT} {tk tv : TE} {use : Option (Value → Sem Unit)} {Qf : Value → Shared → Prop} (calm : X.calm = true) (ndN : X.N.Nodup) (hu : X.A.units + 1 < cLine) (J0 : Inv X pins σ H s)
    (it_ : PI X tg iter wi) (bk : BlkOk X.N X.env.scope scope own) (tgB : ∀ (s : Shared) (H : Hp) (C : Addr) (cl : List (Str × Addr)) (fp : List Addr), PG (X.blk s H scope (compEnvC scope cl C X.env) fp) tg g)
    (ttB : ∀ (s : Shared) (H : Hp) (C : Addr) (cl : List (Str × Addr)) (fp : List Addr), PTs (X.blk s H scope (compEnvC scope cl C X.env) fp) ifs tt) (tkB : ∀ (s : Shared) (H : Hp) (C : Addr) (cl : List (Str × Addr)) (fp : List Addr), PE (X.blk s H scope (compEnvC scope cl C X.env) fp) kx tk)
    (tvB : ∀ (s : Shared) (H : Hp) (C : Addr) (cl : List (Str × Addr)) (fp : List Addr), PE (X.blk s H scope (compEnvC scope cl C X.env) fp) vx tv) (fold0 : ∀ x, foldedSetIterable iter X.env x = pure x) (want : tDcT wi g tt tk tv (own.map (·.2)) σ H Q)
    (out : ∀ D C s' m H', Inv X pins σ H' s' → Q (.ref D) H' → s'.heap.Ns C m → FpOk X pins H' C → compPost (model X.prog X.w) X.A X.xe use Qf (.ref D) C (.ok .next) s') :
    wpAny (model X.prog X.w) X.A (comprehension (.DictComp kx vx [⟨tg, iter, ifs, 0⟩] scope pos) scope X.env pos' newDict false (eval iter X.env) use) Qf X.xe s := by
  have caught : ∀ y ∈ scope.names, y.2 = .free → ∃ c, X.env.cells.lookup y.1 = some c := by
    intro y hy e
    exact (bk.free y hy e).elim (fun z => J0.ok.has _ (.inl z)) fun z => J0.ok.has _ (.inr z)
  refine wpAny_comprehension_free (use := use) rfl fold0 (closure_ok caught) bk.kind (fun y hy e => by rw [bk.uniq y hy, e]) (thn (it_.run pins s σ H _ J0 want) fun _ s1 w1 => thn w1 fun _ s2 w2 => ?_)
  obtain ⟨I, fp, tn, Jt, H2, rfl, J2, TT, at0, fresh0, want2⟩ := w2
  refine wpAny_newObj_type (newEnv_comp ?_)
  generalize eD : s2.heap.objs.size = D
  have noD : H2 D = none := J2.hok.fresh (Nat.le_of_eq eD)
  obtain ⟨W, ⟨m0, begin_⟩, turn⟩ := want2 D noD
  generalize e3 : ({ s2 with heap := s2.heap.push { cls := .type "dict", data := .dict #[] } } : Shared) = s3
  have J3 : Inv X pins σ (upd H2 D (.dT [])) s3 := by
    rw [← e3]
    refine J2.laid (t' := s2.toks) (fun b o e => Heap.get?_push_of_some _ e) (Nat.le_of_eq eD) (eD ▸ dt_empty s2.heap J2.big)
  have heap3 : s3.heap = s2.heap.push { cls := .type "dict", data := .dict #[] } := by rw [← e3]
  have fresh3 : ∀ b ∈ fp, FpOk X pins (upd H2 D (.dT [])) b ∧ b < s3.heap.objs.size := by
    intro b hb
    obtain ⟨o, eo, _⟩ := TT.obj _ _ at0 b hb
    have lt := Heap.lt_size eo
    exact ⟨⟨by rw [upd_ne (by rw [← eD]; exact Nat.ne_of_lt lt)]; exact (fresh0 b hb).1, (fresh0 b hb).2⟩, by rw [heap3, Heap.size_push]; exact Nat.lt_succ_of_lt lt⟩
  have at3 : tn 0 s3.heap := TT.keep _ _ _ at0 fun b _ o e => by rw [heap3]; exact Heap.get?_push_of_some _ e
  have J4 := block_start J3 bk ndN fresh3
  have Pg := tgB s3 (upd H2 D (.dT [])) s3.heap.objs.size (cellsFrom (s3.heap.objs.size + 1) scope.names (cloFrom X.env.cells scope.names [])) fp
  have Pt := ttB s3 (upd H2 D (.dT [])) s3.heap.objs.size (cellsFrom (s3.heap.objs.size + 1) scope.names (cloFrom X.env.cells scope.names [])) fp
  have Pk := tkB s3 (upd H2 D (.dT [])) s3.heap.objs.size (cellsFrom (s3.heap.objs.size + 1) scope.names (cloFrom X.env.cells scope.names [])) fp
  have Pv := tvB s3 (upd H2 D (.dT [])) s3.heap.objs.size (cellsFrom (s3.heap.objs.size + 1) scope.names (cloFrom X.env.cells scope.names [])) fp
  have bare3 : ∀ b ∈ fp, (upd H2 D (.dT [])) b = none := fun b hb => (fresh3 b hb).1.1
  show codeAny _ _ (.compStart (.DictComp kx vx [⟨tg, iter, ifs, 0⟩] scope pos) 0 (.ref I) (.ref D) (compEnvC scope (cellsFrom (s3.heap.objs.size + 1) scope.names (cloFrom X.env.cells scope.names [])) s3.heap.objs.size X.env))
    (compPost (model X.prog X.w) X.A X.xe use Qf (.ref D) s3.heap.objs.size) { s3 with heap := pushCells (s3.heap.push { cls := .type "dict", data := .dict #[] }) scope.names }
  generalize eE : compEnvC scope (cellsFrom (s3.heap.objs.size + 1) scope.names (cloFrom X.env.cells scope.names [])) s3.heap.objs.size X.env = cE at J4 Pg Pt Pk Pv ⊢
  have locE : cE.locals = s3.heap.objs.size := by subst eE; rfl
  generalize eH : upd H2 D (.dT []) = H3 at J3 J4 Pg Pt Pk Pv begin_ bare3 fresh3
  generalize e4 : ({ s3 with heap := pushCells (s3.heap.push { cls := .type "dict", data := .dict #[] }) scope.names } : Shared) = s4 at J4 ⊢
  have at4 : tn 0 s4.heap := TT.keep _ _ _ at3 fun b _ o e => by rw [← e4]; exact pushCells_keeps _ _ _ _ (Heap.get?_push_of_some _ e)
  have still : ∀ {σ' : L2.St} {H' : Hp} {s' : Shared}, Inv (X.blk s3 H3 scope cE fp) [] σ' H' s' → (∀ b ∈ fp, H' b = none) → ∀ b ∈ fp, FpOk (X.blk s3 H3 scope cE fp) [] H' b := by
    intro σ' H' s' K' no b hb
    exact ⟨no b hb, (K'.ok.exf b hb).1, K'.ok.exfs b hb, .inl hb, fun x c e => (K'.ok.exf b hb).2 x c e, fun p hp => absurd (show p ∈ ([] : List (Addr × Obj)) ++ [] from hp) (by simp)⟩
  have walk : codeAny (model X.prog X.w) X.A (.compLoop (.DictComp kx vx [⟨tg, iter, ifs, 0⟩] scope pos) 0 (.ref I) (.ref D) cE) (compPost (model X.prog X.w) X.A X.xe use Qf (.ref D) s3.heap.objs.size) s4 := by
    refine compLoop_anyD (fun n t => ∃ i H', Inv (X.blk s3 H3 scope cE fp) [] (wipe σ (own.map (·.2))) H' t ∧ tn i t.heap ∧ (∀ b ∈ fp, H' b = none) ∧ W i n H') ?_ m0 ⟨0, H3, J4, at4, bare3, begin_⟩
    rintro n s5 ⟨i, H5, J5, at5, no5, w5⟩
    rcases turn i n H5 w5 with ⟨halt, fin⟩ | ⟨more, Nx, less, step⟩
    · refine thnF (TT.done (X.blk s3 H3 scope cE fp) rfl rfl rfl calm i [] s5 _ H5 (fun _ _ => False) J5 (still J5 no5) at5 halt) fun r s6 ⟨er, J6⟩ => ?_
      subst er
      have back : Inv X pins σ H5 s6 := J3.call' (ch := fp) J6.os J6.base J6.hok J6.bare fun b hb => let z := (fresh3 b hb).1; ⟨z.2.2.2.1, z.2.1, z.2.2.2.2.1, z.2.2.2.2.2⟩
      have noC : H5 s3.heap.objs.size = none := locE ▸ (J6.free : H5 cE.locals = none)
      obtain ⟨m, ns, _⟩ := J6.loc
      exact out D s3.heap.objs.size s6 m H5 back fin (locE ▸ (ns : s6.heap.Ns cE.locals m)) (J3.fpOk (Nat.le_refl _) noC)
    · refine thnF (TT.item (X.blk s3 H3 scope cE fp) rfl rfl rfl calm i [] s5 _ H5 (fun _ _ => False) J5 (still J5 no5) at5 more) fun r s6 ⟨u, er, w6⟩ => ?_
      subst er
      refine thnF w6 fun _ s7 ⟨x, H7, J7, ru, y7, at7, no7⟩ => ?_
      refine thnF (Pg.run _ s7 _ H7 x u _ (J7.pinned (still J7 no7) (TT.obj _ _ at7)) ru (step x H7 y7)) fun _ s8 ⟨σ8, H8, J8, ew, w8⟩ => ?_
      refine thnF (Pt.run _ s8 σ8 H8 _ J8 w8) fun b s9 ⟨H9, J9, w9⟩ => ?_
      have again_ : ∀ {t : Shared} {H' : Hp}, Inv (X.blk s3 H3 scope cE fp) ([] ++ pinsAt fp s7.heap) σ8 H' t → Nx H' → ∃ m, m < n ∧ ∃ i H', Inv (X.blk s3 H3 scope cE fp) [] (wipe σ (own.map (·.2))) H' t ∧ tn i t.heap ∧ (∀ b ∈ fp, H' b = none) ∧ W i m H' := by
        intro t H' K' nx
        obtain ⟨m', lt, w'⟩ := less H' nx
        have held : ∀ b ∈ fp, ∀ o, s7.heap.get? b = some o → t.heap.get? b = some o ∧ H' b = none := by
          intro b hb o e
          have z := K'.pin (b, o) (List.mem_append_right _ (List.mem_append_right _ (mem_pinsAt hb e)))
          exact ⟨z.1, z.2.1⟩
        refine ⟨m', lt, i + 1, H', (K'.unpinned (pins := [])).weak (by rw [← ew, wipe_length]) (fun j v e => ?_), TT.keep _ _ _ at7 fun b hb o e => (held b hb o e).1, fun b hb => ?_, w'⟩
        · rw [← ew] at e; exact (wipe_some e).1
        · exact let ⟨o, e, _⟩ := TT.obj _ _ at7 b hb; (held b hb o e).2
      cases b with
      | false => simp only [Bool.false_eq_true, if_false] at w9 ⊢; exact again_ J9 w9
      | true =>
        simp only [if_true] at w9 ⊢
        refine thnF (Pk.run _ s9 σ8 H9 _ J9 w9) fun _ s10 ⟨yk, H10, J10, r10, w10⟩ => ?_
        refine thnF (Pv.run _ s10 σ8 H10 _ J10 w10) fun _ s11 ⟨yv, H11, J11, r11, kvs, ks, a, ek, kb, dD, few, nx⟩ => ?_
        subst ek
        cases r10
        exact putT_here (X := X.blk s3 H3 scope cE fp) hu J11 dD few kb r11 fun s12 J12 => again_ J12 nx
  exact codeAny_compStart_dict walk (TT.self X.A 0 _ _ _ at4 walk)
theorem pe_dcT {kx vx tg iter : Expr} {ifs : List Expr} {scope : Scope} {own : List (Str × Nat)} {pos : Pos} {wi : TI} {g : TG} {tt : TT} {tk tv : TE} (calm : X.calm = true) (ndN : X.N.Nodup) (hu : X.A.units + 1 < cLine) (it_ : PI X tg iter wi) (bk : BlkOk X.N X.env.scope scope own)
    (tgB : ∀ (s : Shared) (H : Hp) (C : Addr) (cl : List (Str × Addr)) (fp : List Addr), PG (X.blk s H scope (compEnvC scope cl C X.env) fp) tg g) (ttB : ∀ (s : Shared) (H : Hp) (C : Addr) (cl : List (Str × Addr)) (fp : List Addr), PTs (X.blk s H scope (compEnvC scope cl C X.env) fp) ifs tt)
    (tkB : ∀ (s : Shared) (H : Hp) (C : Addr) (cl : List (Str × Addr)) (fp : List Addr), PE (X.blk s H scope (compEnvC scope cl C X.env) fp) kx tk) (tvB : ∀ (s : Shared) (H : Hp) (C : Addr) (cl : List (Str × Addr)) (fp : List Addr), PE (X.blk s H scope (compEnvC scope cl C X.env) fp) vx tv)
    (fold0 : ∀ x, foldedSetIterable iter X.env x = pure x) : PE X (.DictComp kx vx [⟨tg, iter, ifs, 0⟩] scope pos) (tDcT wi g tt tk tv (own.map (·.2))) := by
  refine ⟨fun pins s σ H Q J want => ?_⟩
  rw [arm_eval_DictComp]
  refine dcT_run calm ndN hu J it_ bk tgB ttB tkB tvB fold0 want fun D C t m H' J' q ns fk => ⟨m, ns, fun h2 sb => ?_⟩
  exact ⟨.ref D, H', J'.turned (t' := t.toks) (fun b o hb e => (sb.2 b hb).trans e) fk.1 fk.2.1 fk.2.2.2.1 fk.2.2.2.2.1 fk.2.2.2.2.2, rfl, q⟩
end
/-! dict(xs) of a list of pairs whose keys are tuples -/
/-- a pair of the list: its address, the key's, the key, the value -/
abbrev PT4 := Addr × Addr × List Key × V
def okP (K : PySem.W.Frag) (H : Hp) (t : PT4) : Prop := SqT K H t.1 [.ref t.2.1, t.2.2.2] ∧ H t.2.1 = some (.tup (t.2.2.1.map kV))
def mergeT (kvs : List (List Key × V)) (ts : List PT4) : List (List Key × V) := ts.foldl (fun acc t => putK acc t.2.2.1 t.2.2.2) kvs
theorem mergeT_len : ∀ (ts : List PT4) (kvs : List (List Key × V)), (mergeT kvs ts).length ≤ kvs.length + ts.length
  | [], _ => Nat.le_refl _
  | t :: ts, kvs => by
    have h1 := mergeT_len ts (putK kvs t.2.2.1 t.2.2.2)
    have h2 := length_putK kvs t.2.2.1 t.2.2.2
    rw [List.length_cons]
    show (mergeT (putK kvs t.2.2.1 t.2.2.2) ts).length ≤ _
    omega
abbrev PT5 := Addr × Addr × List Key × V × Value
def fst4 (r : PT5) : PT4 := (r.1, r.2.1, r.2.2.1, r.2.2.2.1)
theorem rows5 {X : Cx} {pins : List (Addr × Obj)} {σ : L2.St} {H : Hp} {s : Shared} (J : Inv X pins σ H s) : ∀ ts : List PT4, (∀ t ∈ ts, okP X.K H t) → ∃ rs : List PT5, rs.map fst4 = ts ∧ ∀ r ∈ rs, RelV r.2.2.2.1 r.2.2.2.2 ∧ IsTup s.heap r.1 #[.ref r.2.1, r.2.2.2.2] ∧ H r.2.1 = some (.tup (r.2.2.1.map kV))
  | [], _ => ⟨[], rfl, fun _ h => nomatch h⟩
  | t :: ts, h => by
    obtain ⟨rs, e, k⟩ := rows5 J ts fun u hu => h u (List.mem_cons_of_mem _ hu)
    obtain ⟨h1, h2⟩ := h t (List.mem_cons_self ..)
    obtain ⟨its, rv, it, _⟩ := J.tuple h1
    obtain ⟨u, y, rfl, ru, ry⟩ := vals2 rv
    cases ru
    refine ⟨(t.1, t.2.1, t.2.2.1, t.2.2.2, y) :: rs, by rw [List.map_cons, e]; rfl, fun r hr => ?_⟩
    rcases List.mem_cons.mp hr with rfl | hr
    · exact ⟨ry, it, h2⟩
    · exact k r hr
theorem refs5 : ∀ {rs : List PT5} {us : List Value}, Vals ((rs.map fst4).map fun t => V.ref t.1) us → us = rs.map fun r => Value.ref r.1
  | [], us, r => by cases r; rfl
  | r :: rs, us, h => by
    cases h with
    | cons h t =>
      cases h
      rw [List.map_cons, ← refs5 t]
      rfl
def h5 (r : PT5) : List Key × Addr × Value := (r.2.2.1, r.2.1, r.2.2.2.2)
theorem mergeT_kt {H : Hp} : ∀ (rs : List PT5) {kvs : List (List Key × V)} {xs : List (List Key × Addr × Value)}, (∀ r ∈ rs, RelV r.2.2.2.1 r.2.2.2.2 ∧ H r.2.1 = some (.tup (r.2.2.1.map kV))) → KT H kvs xs → KT H (mergeT kvs (rs.map fst4)) (storedAllH xs (rs.map h5))
  | [], _, _, _, k => k
  | r :: rs, kvs, xs, h, k => by
    obtain ⟨h1, h2⟩ := h r (List.mem_cons_self ..)
    exact mergeT_kt rs (fun q hq => h q (List.mem_cons_of_mem _ hq)) (k.put r.2.2.1 h2 h1)
def rDictT (K : PySem.W.Frag) : List V → Hp → VK → Prop := fun vs H Q => ∃ (a : Addr) (ts : List PT4), vs = [.ref a] ∧ SqL K H a (ts.map fun t => V.ref t.1) ∧ (∀ t ∈ ts, okP K H t) ∧ ∀ p, H p = none → Q (.ref p) (upd H p (.dT (mergeT [] ts)))
theorem cr_dictT {X : Cx} (calm : X.calm = true) (hu : X.A.units + 64 < cLine) : CallR X (.type "dict") (rDictT X.K) := by
  rintro pins s σ H vs us Q J rv ⟨a, ts, rfl, hl, hp, k⟩
  obtain ⟨u, rfl, ru⟩ := vals1 rv
  cases ru
  obtain ⟨its, rit, pl, hz⟩ := J.list hl
  obtain ⟨rs, rfl, hr⟩ := rows5 J ts hp
  obtain rfl := refs5 rit
  have len : rs.length ≤ sizeLine := by rw [List.length_map, List.length_map] at hz; exact hz
  have PA := PairArg.list (prog := X.prog) (w := X.w) a (rs.map fun r => Value.ref r.1).toArray (fun j => ((rs[j]?).map (·.1)).getD 0) (rs.map fun r => (Value.ref r.2.1, r.2.2.2.2))
  obtain ⟨o, n, ho, hc, hd, hdat⟩ := pl
  have nm : (s.heap.objs.size == sysModules) = false := beq_eq_false_iff_ne.mpr (Nat.ne_of_gt J.big)
  refine call_dict_pairsH (knd := tupleKind (mixKind X.prog X.w)) (ps := rs.map h5) PA (J.ok.hd calm) (show X.A.units + 1 + 1 < cLine by omega) ⟨⟨o, n, ho, hc, hd, hdat⟩, by simp, fun j key v hj => ?_⟩ ⟨by simp, fun j key v hj => ?_⟩ (fun h2 keep x hx => ?_) (by rw [List.length_map]; exact len) fun h2 tk tb keep => ?_
  · rw [List.getElem?_map] at hj
    obtain ⟨r, er, e2⟩ := Option.map_eq_some_iff.mp hj
    have e3 := Prod.mk.inj e2
    obtain ⟨_, it, _⟩ := hr r (List.mem_of_getElem? er)
    refine ⟨by simp [er], .inl ?_⟩
    show Heap.IsTuple s.heap (((rs[j]?).map (·.1)).getD 0) #[key, v]
    rw [er, ← e3.1, ← e3.2]
    exact it
  · have hj : (rs.map fun r => (Value.ref r.2.1, r.2.2.2.2))[j]? = some (key, v) := hj
    rw [List.getElem?_map] at hj
    obtain ⟨r, er, e2⟩ := Option.map_eq_some_iff.mp hj
    have e3 := Prod.mk.inj e2
    exact ⟨r.2.2.1, r.2.1, by rw [List.getElem?_map, er, ← e3.2]; rfl, e3.1.symm⟩
  · obtain ⟨r, hm, rfl⟩ := List.mem_map.mp hx
    obtain ⟨_, _, kb⟩ := hr r hm
    obtain ⟨ob, iv, nn, z1, z2, z3, z4⟩ := (key_of J.hok kb : (tupleKind (mixKind X.prog X.w)).is s.heap r.2.2.1 r.2.1)
    exact ⟨ob, iv, nn, keep _ _ (Nat.ne_of_lt (Heap.lt_size z1)) (fun h => nomatch h) z1, z2, z3, z4⟩
  · have kt : KT H (mergeT [] (rs.map fst4)) (storedAllH [] (rs.map h5)) := mergeT_kt rs (fun r hm => ⟨(hr r hm).1, (hr r hm).2.2⟩) .nil
    obtain ⟨ob, es, ep, q1, q2, q3, q4, _, q5⟩ := tb
    have free := J.hok.fresh (Nat.le_refl s.heap.objs.size)
    have zl : (mergeT [] (rs.map fst4)).length ≤ sizeLine := by
      refine Nat.le_trans (mergeT_len _ _) ?_
      rw [List.length_nil, Nat.zero_add, List.length_map]; exact len
    refine ⟨.ref s.heap.objs.size, upd H s.heap.objs.size (.dT (mergeT [] (rs.map fst4))), J.laid (t' := tk) (fun b o e => keep b o (fun h => nomatch h) e) (Nat.le_refl _) ⟨zl, nm, _, kt.keeps fun c ys ec => ?_, ob, es, ep, q1, q2, q3, q4, q5⟩, rfl, k _ free⟩
    rw [upd_ne (ne_of_none ec free)]
    exact ec
section
variable {c : Cd} {σ : L2.St} {H : Hp} {Q : VK} {pos : Pos}
theorem rc_dictT {a : Addr} {ts : List PT4} (hl : SqL c.K H a (ts.map fun t => V.ref t.1)) (hp : ∀ t ∈ ts, okP c.K H t) (q : ∀ p, H p = none → Q (.ref p) (upd H p (.dT (mergeT [] ts)))) : RC c (.type "dict") [.ref a] H Q :=
  rc_of (r := rDictT c.K) (fun X h => by rw [← h.K]; exact cr_dictT h.calm h.room.units) ⟨a, ts, rfl, hl, hp, q⟩
theorem e_dcT {kx vx tg iter : Expr} {scope : Scope} {own : List (Str × Nat)} (ok : Blk c scope own)
    (q : tDcT (RI c tg iter) (RG (blkCd c scope) tg) (RTs (blkCd c scope) []) (RE (blkCd c scope) kx) (RE (blkCd c scope) vx) (own.map (·.2)) σ H Q) (hs : ∀ env x, foldedSetIterable iter env x = pure x := by intro _ _; rfl) : RE c (.DictComp kx vx [⟨tg, iter, [], 0⟩] scope pos) σ H Q :=
  re_of (fun X h => pe_dcT h.calm (by rw [h.N]; exact h.nd) (by have := h.room.units; omega) (pi_ri h) (by rw [h.N, h.sc]; exact ok.ok) (fun s H C cl fp => pg_rg (is_blk h s H C cl fp)) (fun s H C cl fp => pts_rts (is_blk h s H C cl fp)) (fun s H C cl fp => pe_re (is_blk h s H C cl fp)) (fun s H C cl fp => pe_re (is_blk h s H C cl fp)) (hs _)) q
theorem s_setCellD {D : Ends} {pos2 pos' : Pos} {i : Nat} {x : Str} {kx vx : Expr} {gs : List Comprehension} {scope : Scope} (hA : At c.N i x) (q : RE c (.DictComp kx vx gs scope pos2) σ H fun v H1 => D.nx (σ.set i (some v)) H1) (hx : c.sc.names.lookup x = some .cell := by rfl) (ht : c.top = true := by rfl) :
    RS c (.Assign [.Name x pos'] (.DictComp kx vx gs scope pos2) pos) D σ H := by
  refine rs_of (t := tAsg (RE c (.DictComp kx vx gs scope pos2)) (gName i)) (fun X h => ?_) q
  refine ps_set (by rw [h.N]; exact h.nd) (by rw [h.N]; exact hA.get) (.inr (by rw [h.sc]; exact hx)) (pe_re h) ?_ (.inl (h.top ht _))
  have ky : X.env.kindOf x = some .cell := by
    show X.env.scope.names.lookup x = some .cell
    rw [h.sc]
    exact hx
  unfold swapsWith
  simp only [ky]
  have no : ((some NameKind.cell : Option NameKind) == some NameKind.local) = false := by decide
  rw [no]
  simp
end
end G

namespace G
open PySem PySem.Spec PyProof.Rows L2
/-! ### enumerate over a tuple -/
set_option maxHeartbeats 1000000 in
theorem enum_newT (tp : Addr) (items : Array Value) (n : Nat) (dct : Option Addr) (sl : Array (Option Value)) :
    Meets (Builtin.«enumerate.__new__» ⟨[.type "enumerate", .ref tp], []⟩) (fun _ R st => st.heap.get? tp = some ⟨.type "tuple", dct, .seq items n, sl⟩ ∧
      R (.ok (.ret (.ref (st.heap.push { cls := .type "tuple_iterator", data := .fields #[.ref tp, .int 0 0] }).objs.size)))
        { st with heap := (st.heap.push { cls := .type "tuple_iterator", data := .fields #[.ref tp, .int 0 0] }).push { cls := .type "enumerate", data := .fields #[.none, .bool false, .ref st.heap.objs.size, rawInt 0, .none, .none] } }) :=
  .of_wp fun prog w A R st h => by
    obtain ⟨hp, g, d, tk, os⟩ := st
    obtain ⟨here, h⟩ := h
    have hsub := sub_enumerate
    have tup : Heap.IsTuple (Shared.heap ⟨hp, g, d, tk, os⟩) tp items := ⟨_, here, rfl, n, rfl⟩
    wp_walk using wpAny_loadPart' here
    refine wpAny_stack_any fun st => wpAny_pure ?_
    split
    · rename_i c _ _ _ _ _
      cases (c == Value.type "enumerate")
      · wp_walk using wpAny_loadPart' here, wpAny_pyIter_tuple tup
        exact ⟨_, rfl, h⟩
      · wp_walk using wpAny_loadPart' here, wpAny_pyIter_tuple tup
        exact ⟨_, rfl, h⟩
    · wp_walk using wpAny_loadPart' here, wpAny_pyIter_tuple tup
      exact ⟨_, rfl, h⟩
section
variable {prog : Program} {w : World} {A : Around} {E : Value → Shared → Prop} {s : Shared}
theorem call_enumT {tp : Addr} {items : Array Value} {Q : Value → Shared → Prop} (ht : s.heap.IsTuple tp items)
    (go : ∀ h', IsEnum h' (s.heap.objs.size + 1) s.heap.objs.size 0 .none → h'.IsTupleIter s.heap.objs.size tp 0 →
      (∀ b o, s.heap.get? b = some o → h'.get? b = some o) → Q (.ref (s.heap.objs.size + 1)) { s with heap := h' }) :
    wpAny (model prog w) A (call (.type "enumerate") [.ref tp]) Q E s := by
  obtain ⟨⟨c, dct, dt, sl⟩, here, hc, n, hd⟩ := ht
  obtain rfl : c = .type "tuple" := hc
  obtain rfl : dt = .seq items n := hd
  refine callType_new F.called_enumerate (by decide) (F.typeCall_enumerate_1 _) (F.newCall_enumerate_1 _) (fun obj => F.args_object_init_2 obj _) F.entry_enumerate_new
    (enum_newT tp items n dct sl) ⟨here, ?_⟩
  have z1 : (s.heap.push { cls := .type "tuple_iterator", data := .fields #[.ref tp, .int 0 0] }).objs.size = s.heap.objs.size + 1 := Heap.size_push ..
  have en := Heap.get?_push_size (s.heap.push { cls := .type "tuple_iterator", data := .fields #[.ref tp, .int 0 0] })
    (o := { cls := .type "enumerate", data := .fields #[.none, .bool false, .ref s.heap.objs.size, rawInt 0, .none, .none] }) rfl
  show _ ∧ _
  rw [z1] at en ⊢
  exact ⟨⟨_, en, rfl⟩, go _ en ⟨_, Heap.get?_push_of_some _ (Heap.get?_push_size _ rfl), rfl, rfl⟩ fun b o x => Heap.get?_push_of_some _ (Heap.get?_push_of_some _ x)⟩
end
theorem tup_ne_iter {h : Heap} {b it : Addr} {i : Nat} {its : Array Value} (p : h.IsTuple b its) (q : h.IsTupleIter it b i) : b ≠ it := by
  rintro rfl
  obtain ⟨o1, e1, c1, _⟩ := p
  obtain ⟨o2, e2, c2, _⟩ := q
  rw [e1] at e2
  cases e2
  rw [c1] at c2
  exact absurd (Value.type.inj c2) (by decide)
/-- the items of the tuple at b, each in a new pair behind its place -/
def Itet (K : PySem.W.Frag) (b : Addr) (n : Nat) : It := ⟨fun i H => ∃ ys, SqT K H b ys ∧ ys.length = n ∧ i < n,
  fun i H v H' => ∃ (T : Addr) (y : V), v = .ref T ∧ H T = none ∧ H' = upd H T (.tup [.int (i : Nat), y]) ∧ ∀ ys, SqT K H b ys → ys[i]? = some y, fun i H => ∃ ys, SqT K H b ys ∧ ys.length = n ∧ n ≤ i⟩
section
variable {P : Program} {w : World} {K : PySem.W.Frag}
theorem turn_enumT {elts : List Expr} {kk : Nat} {tpos : Pos} (b en si : Addr) (n : Nat) (apart : en ≠ si) :
    Turn P w K (.Tuple elts kk tpos) (Itet K b n) [en, si] en (fun i h => (∃ old, IsEnum h en si ((i : Nat) : Int) old) ∧ h.IsTupleIter si b i ∧ i ≤ n) := by
  have both : ∀ {b : Addr}, b ∈ [en, si] → b = en ∨ b = si := fun {b} h => by simpa using h
  refine { mem := by simp, obj := ?_, keep := ?_, item := ?_, done := ?_, self := ?_ }
  · rintro i h ⟨⟨old, he⟩, ⟨o, ho, _, hd⟩, _⟩ b hb
    rcases both hb with rfl | rfl
    · exact ⟨_, he, fun v q => nomatch q⟩
    · exact ⟨o, ho, fun v q => by rw [hd] at q; exact nomatch q⟩
  · rintro i h h' ⟨⟨old, he⟩, hs, le⟩ kept
    exact ⟨⟨old, kept en (by simp) _ he⟩, hs.at fun o q => kept si (by simp) o q, le⟩
  · rintro X rfl rfl rfl calm i pins st σ H E I far ⟨⟨old, he⟩, hs, _⟩ ⟨ys, hq, hn, lt⟩
    obtain ⟨its, rv, pt, _⟩ := I.tuple hq
    obtain ⟨y, hy⟩ : ∃ y, ys[i]? = some y := ⟨_, List.getElem?_eq_getElem (by omega)⟩
    obtain ⟨u, hu, ru⟩ := rv.get hy
    have ne := tup_ne_iter pt hs
    have D := Draws.tuple (prog := X.prog) (w := X.w) (A := X.A.in1) (I.ok.hd calm) si b ne its.toArray
    have len := rv.length
    have lt1 := Heap.lt_size he
    have lt2 : si < st.heap.objs.size := by obtain ⟨_, q, _⟩ := hs; exact Heap.lt_size q
    have ptT : st.heap.IsTuple b its.toArray := pt
    have ben : b ≠ en := by
      rintro rfl
      obtain ⟨o1, e1, c1, _⟩ := pt
      rw [he] at e1
      cases e1
      exact absurd (Value.type.inj c1) (by decide)
    refine wpAny_pyNext_enum_itemD D he ⟨hs, ptT⟩ (by rw [List.size_toArray]; omega) apart (by simp [apart, ben.symm]) fun x h1 tk item out hs1 pair _ stay => ?_
    have ex : x = u := by
      have : its.toArray[i]? = some u := by simpa using hu
      rw [this] at item
      exact (Option.some.inj item).symm
    subst ex
    refine ⟨_, rfl, wpAny_letOwnedTupleGo_enum (s := { st with heap := h1, toks := tk + 1 }) out fun h2 he2 but => ?_⟩
    have pair2 : h2.get? st.heap.objs.size = some { cls := .type "tuple", data := .seq #[.int i tk, x] } := (but.2 _ (Nat.ne_of_gt lt1)).trans pair
    have made : ObjOk X.prog X.w (upd H st.heap.objs.size (.tup [.int (i : Nat), y])) h2 st.heap.objs.size (.tup [.int (i : Nat), y]) :=
      ⟨by show 2 ≤ sizeLine; decide, _, .cons ⟨_, rfl⟩ (.cons ru .nil), ⟨_, pair2, rfl, _, rfl⟩⟩
    have J : Inv X pins σ (upd H st.heap.objs.size (.tup [.int (i : Nat), y])) { st with heap := h2, toks := tk + 1 } := by
      refine I.turnedNew (ch := [en, si]) (fun b o nb q => ?_) far (Nat.le_refl _) made
      have n1 : b ≠ en := fun e => nb (by simp [e])
      have n2 : b ≠ si := fun e => nb (by simp [e])
      exact (but.2 b n1).trans (stay b o n1 (by simp [n2]) q)
    refine ⟨.ref st.heap.objs.size, _, J, rfl, ⟨_, y, rfl, I.hok.fresh (Nat.le_refl _), rfl, fun zs hz => by rw [I.tuple_inj hz hq]; exact hy⟩, ⟨⟨x, ?_⟩, hs1.1.at fun o q => (but.2 si apart.symm).trans q, by omega⟩, fun b hb => ?_⟩
    · have e1 : ((i + 1 : Nat) : Int) = (i : Int) + 1 := by omega
      rw [e1]
      exact he2
    · have lb : b < st.heap.objs.size := by
        rcases both hb with rfl | rfl
        · exact lt1
        · exact lt2
      rw [upd_ne (Nat.ne_of_lt lb)]
      exact (far b hb).1
  · rintro X rfl rfl rfl calm i pins st σ H E I far ⟨⟨old, he⟩, hs, le⟩ ⟨ys, hq, hn, ge⟩
    obtain ⟨its, rv, pt, _⟩ := I.tuple hq
    have ne := tup_ne_iter pt hs
    have D := Draws.tuple (prog := X.prog) (w := X.w) (A := X.A.in1) (I.ok.hd calm) si b ne its.toArray
    have len := rv.length
    obtain ⟨f0, f1, _, f3, f4, f5⟩ := far si (by simp)
    have ei : i = its.toArray.size := by rw [List.size_toArray]; omega
    subst ei
    exact wpAny_pyNext_enum_endD D he ⟨hs, pt⟩ fun h' but => ⟨rfl, I.turned (t' := st.toks) (fun b o nb q => but b o nb q) f0 f1 f3 f4 f5⟩
  · rintro A i st Q E ⟨⟨_, he⟩, _, _⟩ q
    exact wpAny_pyIter_enum he q
theorem pi_enumT {X : Cx} {e : Expr} {ta : TA} {p pos tpos : Pos} {elts : List Expr} {kk : Nat} (gl : Gl X "enumerate") (none_ : X.mg "enumerate" = none) (ha : PA X [e] ta) (hs : starEach [e] X.env = [(false, eval e X.env)]) :
    PI X (.Tuple elts kk tpos) (.Call (.Name "enumerate" p) [e] [] pos) (fun σ H R => ta σ H fun vs H1 => ∃ b ys, vs = [.ref b] ∧ SqT X.K H1 b ys ∧ R (Itet X.K b ys.length) H1) := by
  constructor
  intro pins st σ H R I want
  have args := ha.run pos pins st σ H _ I want
  refine Call_ (ld_blt I gl none_ boot_enumerate ?_)
  refine PyProof.Rows.callWith_type1 (thn args fun us s1 got => ?_) hs rfl
  obtain ⟨vs, H1, I1, rv, b, ys, rfl, hq, q⟩ := got
  match us, rv with
  | [_], .cons rfl .nil =>
    obtain ⟨its, rv2, pt, _⟩ := I1.tuple hq
    refine call_enumT (show s1.heap.IsTuple b its.toArray from pt) fun h' he hsi keep => wpAny_pyIter_enum he ?_
    have I2 : Inv X pins σ H1 { s1 with heap := h' } := I1.kept (t' := s1.toks) keep
    have T := turn_enumT (P := X.prog) (w := X.w) (K := X.K) (elts := elts) (kk := kk) (tpos := tpos) b (s1.heap.objs.size + 1) s1.heap.objs.size ys.length (Nat.succ_ne_self _)
    refine ⟨_, _, _, _, H1, rfl, I2, T, ⟨⟨.none, he⟩, hsi, Nat.zero_le _⟩, fun b hb => ?_, q⟩
    have old : s1.heap.objs.size ≤ b := by
      rcases (by simpa using hb : b = s1.heap.objs.size + 1 ∨ b = s1.heap.objs.size) with rfl | rfl
      · exact Nat.le_succ _
      · exact Nat.le_refl _
    exact I1.fpOk old (I1.hok.fresh old)
end
/-! ### zip of a list and a tuple -/
/-- the items of the list at a beside those of the tuple at b, in new pairs -/
def Itlt (K : PySem.W.Frag) (a b : Addr) (n : Nat) : It :=
  ⟨fun i H => ∃ xs ys, SqL K H a xs ∧ xs.length = n ∧ SqT K H b ys ∧ ys.length = n ∧ i < n,
    fun i H v H' => ∃ (T : Addr) (x y : V), v = .ref T ∧ H T = none ∧ H' = upd H T (.tup [x, y]) ∧ (∀ xs, SqL K H a xs → xs[i]? = some x) ∧ ∀ ys, SqT K H b ys → ys[i]? = some y,
    fun i H => ∃ xs ys, SqL K H a xs ∧ xs.length = n ∧ SqT K H b ys ∧ ys.length = n ∧ n ≤ i⟩
set_option maxHeartbeats 400000 in
theorem turn_zipLT {P : Program} {w : World} {K : PySem.W.Frag} {elts : List Expr} {kk : Nat} {tpos : Pos} (a b z TI TO i1 i2 : Addr) (n : Nat) (S : ZipSep2 z TI TO i1 i2 [i1, a] [i2, b]) (ha1 : a ≠ i1) :
    Turn P w K (.Tuple elts kk tpos) (Itlt K a b n) [z, TI, TO, i1, i2] z (fun i h => (IsZip h z TI TO .none ∧ IsPair h TI (.ref i1) (.ref i2) ∧ (∃ x y, IsPair h TO x y) ∧ h.IsListIter i1 a i ∧ h.IsTupleIter i2 b i) ∧ i ≤ n) where
  mem := by simp
  obj := fun i h st c hc => by
    obtain ⟨⟨hz, hTI, ⟨x, y, hTO⟩, ⟨o1, e1, _, d1⟩, ⟨o2, e2, _, d2⟩⟩, _⟩ := st
    have e' : c = z ∨ c = TI ∨ c = TO ∨ c = i1 ∨ c = i2 := by simpa using hc
    rcases e' with q | q | q | q | q
    · rw [q]; exact ⟨_, hz, fun v q => nomatch q⟩
    · rw [q]; exact ⟨_, hTI, fun v q => nomatch q⟩
    · rw [q]; exact ⟨_, hTO, fun v q => nomatch q⟩
    · rw [q]; exact ⟨o1, e1, fun v q => by rw [d1] at q; cases q⟩
    · rw [q]; exact ⟨o2, e2, fun v q => by rw [d2] at q; cases q⟩
  keep := fun i h h' st k => by
    obtain ⟨⟨hz, hTI, ⟨x, y, hTO⟩, h1, h2⟩, le⟩ := st
    exact ⟨⟨k z (by simp) _ hz, k TI (by simp) _ hTI, ⟨x, y, k TO (by simp) _ hTO⟩, h1.at fun o q => k i1 (by simp) o q, h2.at fun o q => k i2 (by simp) o q⟩, le⟩
  item := by
    intro X hP hw hK hc i pins s σ H E I hf st hg
    subst hP hw hK
    obtain ⟨⟨hz, hTI, ⟨x0, y0, hTO⟩, h1, h2⟩, le1⟩ := st
    obtain ⟨xs, ys, hqx, hm, hqy, hn, lt1⟩ := hg
    obtain ⟨its1, rv1, p1, _⟩ := I.list hqx
    obtain ⟨its2, rv2, p2, _⟩ := I.tuple hqy
    have l1 := rv1.length
    have l2 := rv2.length
    obtain ⟨x, hx⟩ : ∃ x, xs[i]? = some x := ⟨_, List.getElem?_eq_getElem (by omega)⟩
    obtain ⟨u1, hu1, ru1⟩ := rv1.get hx
    obtain ⟨y, hy⟩ : ∃ y, ys[i]? = some y := ⟨_, List.getElem?_eq_getElem (by omega)⟩
    obtain ⟨u2, hu2, ru2⟩ := rv2.get hy
    have hzl : z < s.heap.objs.size := Heap.lt_size hz
    have D1 := Draws.list (prog := X.prog) (w := X.w) (A := X.A.in1) (I.ok.hd hc) i1 a ha1 its1.toArray
    have D2 := Draws.tuple (prog := X.prog) (w := X.w) (A := X.A.in1) (I.ok.hd hc) i2 b (tup_ne_iter p2 h2) its2.toArray
    refine wpAny_pyNext_zipD2_item S D1 D2 hz hTI hTO ⟨h1, p1.isList⟩ ⟨h2, p2⟩ (by rw [List.size_toArray]; omega) (by rw [List.size_toArray]; omega) fun x1 x2 h' tk it1 it2 z' TO' h1' h2' hT hsz hk => ?_
    have ex1 : x1 = u1 := by
      have : its1.toArray[i]? = some u1 := by simpa using hu1
      rw [this] at it1
      exact (Option.some.inj it1).symm
    have ex2 : x2 = u2 := by
      have : its2.toArray[i]? = some u2 := by simpa using hu2
      rw [this] at it2
      exact (Option.some.inj it2).symm
    subst ex1
    subst ex2
    refine ⟨_, rfl, wpAny_letOwnedTupleGo_zip (s := { s with heap := h', toks := tk }) z' fun h'' z'' sb => ?_⟩
    have hT2 : h''.get? s.heap.objs.size = some { cls := .type "tuple", data := .seq #[x1, x2] } := (sb.2 _ (Nat.ne_of_gt hzl)).trans hT
    have new : ObjOk X.prog X.w (upd H s.heap.objs.size (.tup [x, y])) h'' s.heap.objs.size (.tup [x, y]) :=
      ⟨by show 2 ≤ sizeLine; decide, [x1, x2], .cons ru1 (.cons ru2 .nil), ⟨_, hT2, rfl, _, rfl⟩⟩
    have I1 : Inv X pins σ (upd H s.heap.objs.size (.tup [x, y])) { s with heap := h'', toks := tk } :=
      I.turnedNew (ch := [z, TI, TO, i1, i2]) (fun c o hb q => (sb.2 c (fun q' => hb (by simp [q']))).trans (hk c o (fun q' => hb (by simp [q'])) (fun q' => hb (by simp [q'])) (fun q' => hb (by simp [q'])) (fun q' => hb (by simp [q'])) q)) hf (Nat.le_refl _) new
    have zi1 : i1 ≠ z := fun e => S.zf1 (by simp [e])
    have zi2 : i2 ≠ z := fun e => S.zf2 (by simp [e])
    refine ⟨.ref s.heap.objs.size, _, I1, rfl, ⟨_, x, y, rfl, I.hok.fresh (Nat.le_refl _), rfl, fun l hl => by rw [I.list_inj hl hqx]; exact hx, fun l hl => by rw [I.tuple_inj hl hqy]; exact hy⟩, ⟨⟨z'', ?_, ⟨x1, x2, ?_⟩, ?_, ?_⟩, by omega⟩, fun c hcm => ?_⟩
    · exact (sb.2 _ S.TIz).trans (hk _ _ S.TIz S.TITO S.TIi1 S.TIi2 hTI)
    · exact (sb.2 _ S.TOz).trans TO'
    · exact h1'.1.at fun o q => (sb.2 _ zi1).trans q
    · exact h2'.1.at fun o q => (sb.2 _ zi2).trans q
    · have hlt : c < s.heap.objs.size := by
        have e' : c = z ∨ c = TI ∨ c = TO ∨ c = i1 ∨ c = i2 := by simpa using hcm
        rcases e' with q | q | q | q | q
        · rw [q]; exact hzl
        · rw [q]; exact Heap.lt_size hTI
        · rw [q]; exact Heap.lt_size hTO
        · rw [q]; obtain ⟨_, e1, _⟩ := h1; exact Heap.lt_size e1
        · rw [q]; obtain ⟨_, e2, _⟩ := h2; exact Heap.lt_size e2
      rw [upd_ne (Nat.ne_of_lt hlt)]
      exact (hf c hcm).1
  done := by
    intro X hP hw hK hc i pins s σ H E I hf st hg
    subst hP hw hK
    obtain ⟨⟨hz, hTI, ⟨x0, y0, hTO⟩, h1, h2⟩, le1⟩ := st
    obtain ⟨xs, ys, hqx, hm, hqy, hn, ge⟩ := hg
    obtain ⟨its1, rv1, p1, _⟩ := I.list hqx
    obtain ⟨its2, rv2, p2, _⟩ := I.tuple hqy
    have l1 := rv1.length
    have l2 := rv2.length
    have D1 := Draws.list (prog := X.prog) (w := X.w) (A := X.A.in1) (I.ok.hd hc) i1 a ha1 its1.toArray
    have D2 := Draws.tuple (prog := X.prog) (w := X.w) (A := X.A.in1) (I.ok.hd hc) i2 b (tup_ne_iter p2 h2) its2.toArray
    have sz1 : its1.toArray.size = xs.length := by rw [List.size_toArray]; exact l1.symm
    have sz2 : its2.toArray.size = ys.length := by rw [List.size_toArray]; exact l2.symm
    exact wpAny_pyNext_zipD2_end S D1 D2 hz hTI hTO ⟨h1, p1.isList⟩ ⟨h2, p2⟩ (by rw [sz1]; omega) (by rw [sz2]; omega) (by rw [sz1, sz2]; omega) fun h' tk hk => ⟨rfl, I.turnedL (t' := tk) (ch := [z, TI, TO, i1, i2]) (fun c o hb q =>
      hk c o (fun q' => hb (by simp [q'])) (fun q' => hb (by simp [q'])) (fun q' => hb (by simp [q'])) (fun q' => hb (by simp [q'])) q) hf⟩
  self := fun A i s Q E st h => wpAny_pyIter_zip st.1.1 h
theorem neA {a b : Nat} (h : ¬ a = b) : @Ne Addr a b := h
theorem nmem2 {a b c : Addr} (h : a ≠ b) (h2 : a ≠ c) : a ∉ [b, c] := fun z => by
  rcases List.mem_cons.mp z with z | z
  · exact h z
  · exact h2 (List.mem_singleton.mp z)
theorem zs_le {n c : Addr} (h : c ∈ [n + 4, n + 2, n + 3, n, n + 1]) : n ≤ c := by
  have e' : c = n + 4 ∨ c = n + 2 ∨ c = n + 3 ∨ c = n ∨ c = n + 1 := by simpa using h
  rcases e' with z | z | z | z | z
  · rw [z]; exact Nat.le_add_right _ _
  · rw [z]; exact Nat.le_add_right _ _
  · rw [z]; exact Nat.le_add_right _ _
  · rw [z]; exact Nat.le_refl _
  · rw [z]; exact Nat.le_add_right _ _
theorem zsepLT {n a b : Nat} (ha : a < n) (h : b < n) : ZipSep2 (n + 4) (n + 2) (n + 3) n (n + 1) [n, a] [n + 1, b] :=
  ⟨neA (a := n + 2) (b := n + 4) (by omega), neA (a := n + 3) (b := n + 4) (by omega), neA (a := n + 2) (b := n + 3) (by omega), neA (a := n + 2) (b := n) (by omega), List.mem_cons_self ..,
    nmem2 (neA (a := n + 4) (b := n) (by omega)) (neA (a := n + 4) (b := a) (by omega)), nmem2 (neA (a := n + 3) (b := n) (by omega)) (neA (a := n + 3) (b := a) (by omega)), neA (a := n + 2) (b := n + 1) (by omega), List.mem_cons_self ..,
    nmem2 (neA (a := n + 4) (b := n + 1) (by omega)) (neA (a := n + 4) (b := b) (by omega)), nmem2 (neA (a := n + 3) (b := n + 1) (by omega)) (neA (a := n + 3) (b := b) (by omega)),
    nmem2 (neA (a := n) (b := n + 1) (by omega)) (neA (a := n) (b := b) (by omega)), nmem2 (neA (a := n + 1) (b := n) (by omega)) (neA (a := n + 1) (b := a) (by omega))⟩
set_option maxHeartbeats 400000 in
theorem pi_zipLT {X : Cx} {e e2 : Expr} {ta : TA} {p pos tpos : Pos} {elts : List Expr} {kk : Nat} (hg : Gl X "zip") (hm : X.mg "zip" = none) (ha : PA X [e, e2] ta)
    (hs : starEach [e, e2] X.env = (false, eval e X.env) :: starEach [e2] X.env := by rfl) (hpl : (backTo pos (starEach [e2] X.env)).any (·.1) = false := by rfl) :
    PI X (.Tuple elts kk tpos) (.Call (.Name "zip" p) [e, e2] [] pos) (fun σ H R => ta σ H fun vs H1 => ∃ a b xs ys, vs = [.ref a, .ref b] ∧ SqL X.K H1 a xs ∧ SqT X.K H1 b ys ∧ xs.length = ys.length ∧ R (Itlt X.K a b ys.length) H1) := by
  refine ⟨fun pins s σ H R I h => ?_⟩
  refine Call_ (ld_blt I hg hm PyProof.Rows.boot_zip (PyProof.Rows.callWith_type1 (thn (ha.run pos pins s σ H _ I h) fun us s1 ⟨vs, H1, I1, r1, q1⟩ => ?_) hs hpl))
  obtain ⟨a, b, xs, ys, ex, hx, hy, hl, q1⟩ := q1
  subst ex
  cases r1 with
  | cons r rr =>
    cases rr with
    | cons r' rr =>
      cases rr
      cases r
      cases r'
      obtain ⟨its1, rv1, p1, _⟩ := I1.list hx
      obtain ⟨its2, rv2, p2, _⟩ := I1.tuple hy
      obtain ⟨o1, ho1, _⟩ := id p1.isList
      obtain ⟨o2, ho2, _⟩ := id p2
      have la : a < s1.heap.objs.size := Heap.lt_size ho1
      have lb : b < s1.heap.objs.size := Heap.lt_size ho2
      refine zip_begins2 (begins_list a its1.toArray) (begins_tuple b its2.toArray) p1.isList p2 fun h' hz hTI hTO h1 h2 hsz keep => wpAny_pyIter_zip hz ?_
      have I2 : Inv X pins σ H1 { s1 with heap := h' } := I1.kept (t' := s1.toks) keep
      exact ⟨s1.heap.objs.size + 4, [s1.heap.objs.size + 4, s1.heap.objs.size + 2, s1.heap.objs.size + 3, s1.heap.objs.size, s1.heap.objs.size + 1], _, _, H1, rfl, I2, turn_zipLT a b _ _ _ _ _ ys.length (zsepLT la lb) (Nat.ne_of_lt la), ⟨⟨hz, hTI, ⟨_, _, hTO⟩, ⟨_, h1, rfl, rfl⟩, ⟨_, h2, rfl, rfl⟩⟩, Nat.zero_le _⟩, fun c hcm => I1.fpOk (zs_le hcm) (I1.hok.fresh (zs_le hcm)), q1⟩
end G

namespace G
open PySem PySem.Spec PyProof.Rows L2
/-! ### lists told item by item, by any relation that tuples and locked things keep -/
inductive RAll {α : Type} (R : Hp → V → α → Prop) (H : Hp) : List V → List α → Prop
  | nil : RAll R H [] []
  | cons {v : V} {vs : List V} {a : α} {as : List α} : R H v a → RAll R H vs as → RAll R H (v :: vs) (a :: as)
structure Keeps {α : Type} (R : Hp → V → α → Prop) : Prop where
  k : ∀ {H H' : Hp} {v : V} {a : α}, Tp H H' → R H v a → R H' v a
section
variable {α : Type} {R : Hp → V → α → Prop} {H H' : Hp}
theorem RAll.mono (k : Keeps R) (t : Tp H H') {vs : List V} {as : List α} (h : RAll R H vs as) : RAll R H' vs as := by
  induction h with
  | nil => exact .nil
  | cons h _ ih => exact .cons (k.k t h) ih
theorem RAll.len {vs : List V} {as : List α} (h : RAll R H vs as) : vs.length = as.length := by
  induction h with
  | nil => rfl
  | cons _ _ ih => exact congrArg Nat.succ ih
theorem RAll.get {vs : List V} {as : List α} (h : RAll R H vs as) : ∀ {i : Nat} {a : α}, as[i]? = some a → ∃ v, vs[i]? = some v ∧ R H v a := by
  induction h with
  | nil => intro i a e; simp at e
  | @cons v vs a0 as h _ ih =>
    intro i a e
    cases i with
    | zero => simp at e; subst e; exact ⟨v, rfl, h⟩
    | succ i => obtain ⟨u, e1, h1⟩ := ih (i := i) (by simpa using e); exact ⟨u, by simpa using e1, h1⟩
theorem RAll.getV {vs : List V} {as : List α} (h : RAll R H vs as) : ∀ {i : Nat} {v : V}, vs[i]? = some v → ∃ a, as[i]? = some a ∧ R H v a := by
  induction h with
  | nil => intro i a e; simp at e
  | @cons v vs a0 as h _ ih =>
    intro i a e
    cases i with
    | zero => simp at e; subst e; exact ⟨a0, rfl, h⟩
    | succ i => obtain ⟨u, e1, h1⟩ := ih (i := i) (by simpa using e); exact ⟨u, by simpa using e1, h1⟩
theorem RAll.app {vs us : List V} {as bs : List α} (h : RAll R H vs as) (h2 : RAll R H us bs) : RAll R H (vs ++ us) (as ++ bs) := by
  induction h with
  | nil => exact h2
  | cons h _ ih => exact .cons h ih
theorem RAll.to {β : Type} {S : Hp → V → β → Prop} {g : α → β} (w : ∀ v a, R H v a → S H v (g a)) {vs : List V} {as : List α} (h : RAll R H vs as) : RAll S H vs (as.map g) := by
  induction h with
  | nil => exact .nil
  | cons h _ ih => exact .cons (w _ _ h) ih
theorem RAll.dts {K : PySem.W.Frag} {g : α → PyData} (w : ∀ v a, R H v a → Dt K H v (g a)) {vs : List V} {as : List α} (h : RAll R H vs as) : DtAll K H vs (as.map g) := by
  induction h with
  | nil => exact .nil
  | cons h _ ih => exact .cons (w _ _ h) ih
end
section
variable {c : Cd} {σ : L2.St} {H : Hp} {Q : VK} {pos : Pos} {x y : V} {elt tg iter : Expr} {ifs : List Expr} {scope : Scope} {vs : List Nat} {α β : Type}
/-- a turn of a comprehension that changes nothing -/
def TurnR (cB : Cd) (tg : Expr) (ifs : List Expr) (elt : Expr) (vs : List Nat) (σ : L2.St) (S : Hp → V → β → Prop) (x : V) (H' : Hp) (o : Option β) : Prop :=
  RG cB tg x (wipe σ vs) H' fun σ2 H2 => H2 = H' ∧ wipe σ2 vs = wipe σ vs ∧ RTs cB ifs σ2 H2 fun b H3 => Same H' H3 ∧ if b = true then RE cB elt σ2 H3 fun y H4 => Same H3 H4 ∧ ∃ e, o = some e ∧ S H4 y e else o = none
theorem TurnR.one {cB : Cd} {S : Hp → V → β → Prop} (kS : Keeps S) {x : V} {H1 H' : Hp} {o : Option β} {D : Addr} {acc : List V} {es : List β} (hD : H1 D = none) (s : Same H1 H') (ha : H' D = some (.lst acc)) (hd : RAll S H' acc es) (t : TurnR cB tg ifs elt vs σ S x H' o) :
    Turn1 cB tg ifs elt vs σ D x H' acc fun acc' H2 => H2 D = some (.lst acc') ∧ Same H1 H2 ∧ RAll S H2 acc' (es ++ o.toList) := by
  refine RG.mono (fun σ2 H2 z => ?_) t
  obtain ⟨rfl, z1, z2⟩ := z
  refine ⟨z1, RTs.mono (fun b H3 z => ?_) z2⟩
  obtain ⟨s3, z⟩ := z
  cases b with
  | true =>
    refine RE.mono (fun y H4 z => ?_) z
    obtain ⟨s4, e, rfl, he⟩ := z
    have aD := s4 _ _ (s3 _ _ ha)
    have k := kp_upd (o' := .lst (acc ++ [y])) aD (fun _ e => nomatch e) (fun _ _ e => nomatch e)
    exact ⟨aD, upd_same, same_mut (s.trans (s3.trans s4)) hD, ((hd.mono kS (tp_same (s3.trans s4))).mono kS k.t).app (.cons (kS.k k.t he) .nil)⟩
  | false =>
    have z : o = none := z
    subst z
    exact ⟨s3 _ _ ha, s.trans s3, by rw [Option.toList_none, List.append_nil]; exact hd.mono kS (tp_same s3)⟩
theorem outsR {g : α → Option β} {ds : List α} {i : Nat} {d : α} (h : ds[i]? = some d) : (ds.take i).filterMap g ++ (g d).toList = (ds.take (i + 1)).filterMap g := by
  obtain ⟨h1, rfl⟩ := List.getElem?_eq_some_iff.mp h
  rw [List.take_succ_eq_append_getElem h1, List.filterMap_append]
  congr 1
/-- over a list -/
theorem lcL_R {R : Hp → V → α → Prop} {S : Hp → V → β → Prop} (kR : Keeps R) (kS : Keeps S) (g : α → Option β) (q : RE c iter σ H fun x H1 => ∃ a xs ds, x = .ref a ∧ SqL c.K H1 a xs ∧ RAll R H1 xs ds ∧ ds.length ≤ 1000 ∧ (∀ d x H', d ∈ ds → Same H1 H' → R H' x d → TurnR (blkCd c scope) tg ifs elt vs σ S x H' (g d)) ∧
      ∀ p us H2, Same H1 H2 → H1 p = none → H2 p = some (.lst us) → RAll S H2 us (ds.filterMap g) → Q (.ref p) H2) :
    tLc (RI c tg iter) (RG (blkCd c scope) tg) (RTs (blkCd c scope) ifs) (RE (blkCd c scope) elt) vs σ H Q := by
  refine lc_L (RE.mono (fun x H1 z => ?_) q)
  obtain ⟨a, xs, ds, rfl, ht, ha, hl, t, k⟩ := z
  have hle := ha.len
  refine ⟨a, xs, rfl, ht, by omega, fun D hD => ⟨fun i acc H' => acc.length ≤ i ∧ H' D = some (.lst acc) ∧ Same H1 H' ∧ RAll S H' acc ((ds.take i).filterMap g), ⟨Nat.le_refl _, upd_same, same_new hD, .nil⟩, ?_, ?_, ?_⟩⟩
  · rintro i acc H' _ ⟨l, _, s, _⟩
    exact ⟨s.seq ht, l⟩
  · rintro i x acc H' hx ⟨l, h1, s, h2⟩
    obtain ⟨d, hd, hx'⟩ := ha.getV hx
    have T := TurnR.one kS hD s h1 h2 (t d x H' (List.mem_of_getElem? hd) s (kR.k (tp_same s) hx'))
    refine RG.mono (fun σ2 H2 z => ⟨z.1, RTs.mono (fun b H3 z => ?_) z.2⟩) T
    cases b with
    | true => exact RE.mono (fun y H4 z => ⟨z.1, by rw [List.length_append, List.length_singleton]; omega, z.2.1, z.2.2.1, by rw [← outsR hd]; exact z.2.2.2⟩) z
    | false => exact ⟨by omega, z.1, z.2.1, by rw [← outsR hd]; exact z.2.2⟩
  · rintro acc H' ⟨l, h1, s, h2⟩
    refine k D acc H' s hD h1 ?_
    rw [hle, List.take_length] at h2
    exact h2
/-- over a tuple -/
theorem lcT_R {R : Hp → V → α → Prop} {S : Hp → V → β → Prop} (kR : Keeps R) (kS : Keeps S) (g : α → Option β) (q : RE c iter σ H fun x H1 => ∃ a xs ds, x = .ref a ∧ SqT c.K H1 a xs ∧ RAll R H1 xs ds ∧ ds.length ≤ 1000 ∧ (∀ d x H', d ∈ ds → Same H1 H' → R H' x d → TurnR (blkCd c scope) tg ifs elt vs σ S x H' (g d)) ∧
      ∀ p us H2, Same H1 H2 → H1 p = none → H2 p = some (.lst us) → RAll S H2 us (ds.filterMap g) → Q (.ref p) H2) :
    tLc (RI c tg iter) (RG (blkCd c scope) tg) (RTs (blkCd c scope) ifs) (RE (blkCd c scope) elt) vs σ H Q := by
  refine lc_T (RE.mono (fun x H1 z => ?_) q)
  obtain ⟨a, xs, ds, rfl, ht, ha, hl, t, k⟩ := z
  have hle := ha.len
  refine ⟨a, xs, rfl, ht, by omega, fun D hD => ⟨fun i acc H' => acc.length ≤ i ∧ H' D = some (.lst acc) ∧ Same H1 H' ∧ RAll S H' acc ((ds.take i).filterMap g), ⟨Nat.le_refl _, upd_same, same_new hD, .nil⟩, ?_, ?_, ?_⟩⟩
  · rintro i acc H' _ ⟨l, _, s, _⟩
    exact ⟨(tp_same s).sqt ht, l⟩
  · rintro i x acc H' hx ⟨l, h1, s, h2⟩
    obtain ⟨d, hd, hx'⟩ := ha.getV hx
    have T := TurnR.one kS hD s h1 h2 (t d x H' (List.mem_of_getElem? hd) s (kR.k (tp_same s) hx'))
    refine RG.mono (fun σ2 H2 z => ⟨z.1, RTs.mono (fun b H3 z => ?_) z.2⟩) T
    cases b with
    | true => exact RE.mono (fun y H4 z => ⟨z.1, by rw [List.length_append, List.length_singleton]; omega, z.2.1, z.2.2.1, by rw [← outsR hd]; exact z.2.2.2⟩) z
    | false => exact ⟨by omega, z.1, z.2.1, by rw [← outsR hd]; exact z.2.2⟩
  · rintro acc H' ⟨l, h1, s, h2⟩
    refine k D acc H' s hD h1 ?_
    rw [hle, List.take_length] at h2
    exact h2
/-- over enumerate(tuple) -/
theorem i_enumT {e : Expr} {p tpos : Pos} {elts : List Expr} {kk : Nat} {W : It → Hp → Prop} (hm : c.mg "enumerate" = none) (q : RE c e σ H fun x H1 => ∃ b ys, x = .ref b ∧ SqT c.K H1 b ys ∧ W (Itet c.K b ys.length) H1) (hg : c.sc.names.lookup ("enumerate" : Str) = some .globalImplicit := by rfl) (hs : ∀ env, starEach [e] env = [(false, eval e env)] := by intro _; rfl) :
    RI c (.Tuple elts kk tpos) (.Call (.Name "enumerate" p) [e] [] pos) σ H W := by
  refine ri_of (t := fun σ H R => RA c [e] σ H fun vs H1 => ∃ b ys, vs = [.ref b] ∧ SqT c.K H1 b ys ∧ R (Itet c.K b ys.length) H1) (fun X h => by rw [← h.K]; exact pi_enumT (gl_of h hg) (by rw [h.mg]; exact hm) (pa_ra h) (hs _)) ?_
  refine a_cons (RE.mono (fun x H1 z => a_nil ?_) q) (fun env => by rw [hs]; rfl)
  obtain ⟨b, ys, rfl, h1, h2⟩ := z
  exact ⟨b, ys, rfl, h1, h2⟩
theorem i_enumL {e : Expr} {p tpos : Pos} {elts : List Expr} {kk : Nat} {W : It → Hp → Prop} (hm : c.mg "enumerate" = none) (q : RE c e σ H fun x H1 => ∃ b ys, x = .ref b ∧ SqL c.K H1 b ys ∧ W (Ite c.K b) H1) (hg : c.sc.names.lookup ("enumerate" : Str) = some .globalImplicit := by rfl) (hs : ∀ env, starEach [e] env = [(false, eval e env)] := by intro _; rfl) :
    RI c (.Tuple elts kk tpos) (.Call (.Name "enumerate" p) [e] [] pos) σ H W := by
  refine ri_of (t := iEnum c.K (RA c [e])) (fun X h => by rw [← h.K]; exact pi_enum (gl_of h hg) (by rw [h.mg]; exact hm) (pa_ra h) (hs _)) ?_
  refine a_cons (RE.mono (fun x H1 z => a_nil ?_) q) (fun env => by rw [hs]; rfl)
  obtain ⟨b, ys, rfl, h1, h2⟩ := z
  exact ⟨b, ys, rfl, h1, h2⟩
theorem i_zipLT {e e2 : Expr} {p tpos : Pos} {elts : List Expr} {kk : Nat} {W : It → Hp → Prop} (hm : c.mg "zip" = none) (q : RE c e σ H fun x H0 => RE c e2 σ H0 fun y H1 => ∃ a b xs ys, x = .ref a ∧ y = .ref b ∧ SqL c.K H1 a xs ∧ SqT c.K H1 b ys ∧ xs.length = ys.length ∧ W (Itlt c.K a b ys.length) H1)
    (hg : c.sc.names.lookup ("zip" : Str) = some .globalImplicit := by rfl) (hs : ∀ env, starEach [e, e2] env = (false, eval e env) :: starEach [e2] env := by intro _; rfl) (hs2 : ∀ env, starEach [e2] env = (false, eval e2 env) :: starEach [] env := by intro _; rfl) (hpl : ∀ env, (backTo pos (starEach [e2] env)).any (·.1) = false := by intro _; rfl) :
    RI c (.Tuple elts kk tpos) (.Call (.Name "zip" p) [e, e2] [] pos) σ H W := by
  refine ri_of (t := fun σ H R => RA c [e, e2] σ H fun vs H1 => ∃ a b xs ys, vs = [.ref a, .ref b] ∧ SqL c.K H1 a xs ∧ SqT c.K H1 b ys ∧ xs.length = ys.length ∧ R (Itlt c.K a b ys.length) H1) (fun X h => by rw [← h.K]; exact pi_zipLT (gl_of h hg) (by rw [h.mg]; exact hm) (pa_ra h) (hs _) (hpl _)) ?_
  refine a_cons (RE.mono (fun x H0 q0 => a_cons (RE.mono (fun y H1 q1 => a_nil ?_) q0) hs2) q) hs
  obtain ⟨a, b, xs, ys, rfl, rfl, h1, h2, h3, h4⟩ := q1
  exact ⟨a, b, xs, ys, rfl, h1, h2, h3, h4⟩
end
/-- for k, x in enumerate(tuple): the pairs are handed over as new tuples -/
theorem s_forE {c : Cd} {σ : L2.St} {H : Hp} {pos : Pos} {nx : L2.St → Hp → Prop} {rt : VK} {bk ct : L2.St → Hp → Prop} {e : Expr} {p ppos tpos : Pos} {elts : List Expr} {kk : Nat} {body : List Stmt} {α : Type} {R : Hp → V → α → Prop} (kR : Keeps R) (hm : c.mg "enumerate" = none)
    (q : RE c e σ H fun x H1 => ∃ b ys as, x = .ref b ∧ SqT c.K H1 b ys ∧ RAll R H1 ys as ∧ ∃ Pv : Nat → L2.St → Hp → Prop, Pv 0 σ H1 ∧ (∀ i σ' H', Pv i σ' H' → Tp H1 H') ∧
      (∀ i a σ' H' T v H'', as[i]? = some a → Pv i σ' H' → Same H' H'' → H'' T = some (.tup [.int (i : Nat), v]) → R H'' v a → RG c (.Tuple elts kk tpos) (.ref T) σ' H'' fun σ2 H2 => RB c body ⟨Pv (i + 1), rt, nx, Pv (i + 1)⟩ σ2 H2) ∧ ∀ σ' H', Pv as.length σ' H' → nx σ' H')
    (hg : c.sc.names.lookup ("enumerate" : Str) = some .globalImplicit := by rfl) (hs : ∀ env, starEach [e] env = [(false, eval e env)] := by intro _; rfl)
    (hf : ∀ env x, foldedSetIterable (.Call (.Name "enumerate" p) [e] [] ppos) env x = pure x := by intro _ _; rfl) : RS c (.For (.Tuple elts kk tpos) (.Call (.Name "enumerate" p) [e] [] ppos) body [] pos) ⟨nx, rt, bk, ct⟩ σ H := by
  refine s_for (i_enumT hm (RE.mono (fun x H1 z => ?_) q) hg hs) hf
  obtain ⟨b, ys, as, rfl, ht, hd, Pv, p0, tp, step, fin⟩ := z
  have hl := hd.len
  refine ⟨b, ys, rfl, ht, fun i m σ' H' => m = as.length - i ∧ i ≤ as.length ∧ Pv i σ' H', ⟨_, rfl, Nat.zero_le _, p0⟩, ?_⟩
  rintro i m σ' H' ⟨rfl, hi, hp⟩
  have htp := tp i σ' H' hp
  by_cases more : i < as.length
  · refine .inr ⟨⟨ys, htp.sqt ht, rfl, by omega⟩, Pv (i + 1), fun σ2 H2 p' => ⟨as.length - (i + 1), by omega, rfl, more, p'⟩, fun x H2 got => ?_⟩
    obtain ⟨T, y, rfl, hT, rfl, hyy⟩ := got
    obtain ⟨v, hv, dv⟩ := hd.get (List.getElem?_eq_getElem more)
    have := hyy ys (htp.sqt ht)
    rw [hv] at this
    cases this
    have sn := same_new (o := .tup [.int (i : Nat), y]) hT
    exact step i _ σ' H' T y _ (List.getElem?_eq_getElem more) hp sn upd_same (kR.k (tp_same sn) (kR.k htp dv))
  · obtain rfl : i = as.length := by omega
    exact .inl ⟨⟨ys, htp.sqt ht, rfl, by omega⟩, fin σ' H' hp⟩
/-- for x, y in zip(list, tuple) -/
theorem s_forLT {c : Cd} {σ : L2.St} {H : Hp} {pos : Pos} {nx : L2.St → Hp → Prop} {rt : VK} {bk ct : L2.St → Hp → Prop} {e e2 : Expr} {p ppos tpos : Pos} {elts : List Expr} {kk : Nat} {body : List Stmt} {α β : Type} {R : Hp → V → α → Prop} {S : Hp → V → β → Prop} (kR : Keeps R) (kS : Keeps S) (hm : c.mg "zip" = none)
    (q : RE c e σ H fun x H0 => RE c e2 σ H0 fun y H1 => ∃ a b xs ys as bs, x = .ref a ∧ y = .ref b ∧ SqL c.K H1 a xs ∧ SqT c.K H1 b ys ∧ RAll R H1 xs as ∧ RAll S H1 ys bs ∧ as.length = bs.length ∧ ∃ Pv : Nat → L2.St → Hp → Prop, Pv 0 σ H1 ∧ (∀ i σ' H', Pv i σ' H' → Same H1 H') ∧
      (∀ i a b σ' H' T u v H'', as[i]? = some a → bs[i]? = some b → Pv i σ' H' → Same H' H'' → H'' T = some (.tup [u, v]) → R H'' u a → S H'' v b → RG c (.Tuple elts kk tpos) (.ref T) σ' H'' fun σ2 H2 => RB c body ⟨Pv (i + 1), rt, nx, Pv (i + 1)⟩ σ2 H2) ∧ ∀ σ' H', Pv as.length σ' H' → nx σ' H')
    (hg : c.sc.names.lookup ("zip" : Str) = some .globalImplicit := by rfl) (hs : ∀ env, starEach [e, e2] env = (false, eval e env) :: starEach [e2] env := by intro _; rfl) (hs2 : ∀ env, starEach [e2] env = (false, eval e2 env) :: starEach [] env := by intro _; rfl) (hpl : ∀ env, (backTo ppos (starEach [e2] env)).any (·.1) = false := by intro _; rfl)
    (hf : ∀ env x, foldedSetIterable (.Call (.Name "zip" p) [e, e2] [] ppos) env x = pure x := by intro _ _; rfl) : RS c (.For (.Tuple elts kk tpos) (.Call (.Name "zip" p) [e, e2] [] ppos) body [] pos) ⟨nx, rt, bk, ct⟩ σ H := by
  refine s_for (i_zipLT hm (RE.mono (fun x H0 z => RE.mono (fun y H1 z => ?_) z) q) hg hs hs2 hpl) hf
  obtain ⟨a, b, xs, ys, as, bs, rfl, rfl, h1, h2, r1, r2, hl, Pv, p0, tp, step, fin⟩ := z
  have l1 := r1.len
  have l2 := r2.len
  refine ⟨a, b, xs, ys, rfl, rfl, h1, h2, by omega, fun i m σ' H' => m = as.length - i ∧ i ≤ as.length ∧ Pv i σ' H', ⟨_, rfl, Nat.zero_le _, p0⟩, ?_⟩
  rintro i m σ' H' ⟨rfl, hi, hp⟩
  have hs1 := tp i σ' H' hp
  by_cases more : i < as.length
  · refine .inr ⟨⟨xs, ys, hs1.seq h1, by omega, (tp_same hs1).sqt h2, rfl, by omega⟩, Pv (i + 1), fun σ2 H2 p' => ⟨as.length - (i + 1), by omega, rfl, more, p'⟩, fun x H2 got => ?_⟩
    obtain ⟨T, u, v, rfl, hT, rfl, hx, hy⟩ := got
    obtain ⟨u', hu, du⟩ := r1.get (List.getElem?_eq_getElem more)
    obtain ⟨v', hv, dv⟩ := r2.get (List.getElem?_eq_getElem (show i < bs.length by omega))
    have e1 := hx xs (hs1.seq h1)
    rw [hu] at e1
    cases e1
    have e2 := hy ys ((tp_same hs1).sqt h2)
    rw [hv] at e2
    cases e2
    have sn := same_new (o := .tup [u, v]) hT
    exact step i _ _ σ' H' T u v _ (List.getElem?_eq_getElem more) (List.getElem?_eq_getElem (show i < bs.length by omega)) hp sn upd_same (kR.k (tp_same sn) (kR.k (tp_same hs1) du)) (kS.k (tp_same sn) (kS.k (tp_same hs1) dv))
  · obtain rfl : i = as.length := by omega
    exact .inl ⟨⟨xs, ys, hs1.seq h1, by omega, (tp_same hs1).sqt h2, rfl, by omega⟩, fin σ' H' hp⟩
end G
namespace K
open PySem PySem.Spec PyProof.Rows L2 G
variable {M : Md}
/-- a tuple of ints, as it is kept -/
def TI (H : Hp) (v : V) (ns : List Int) : Prop := ∃ a, v = .ref a ∧ H a = some (.tup (ns.map V.int))
theorem kTI : Keeps TI := ⟨fun t ⟨a, e, h⟩ => ⟨a, e, t.t _ _ h⟩⟩
theorem TI.dt {K : PySem.W.Frag} {H : Hp} {v : V} {ns : List Int} (h : TI H v ns) : Dt K H v (stD ns) := by
  obtain ⟨a, rfl, h⟩ := h
  exact .tup (.of h) (dtInts ns)
def keyI (ns : List Int) : List Key := ns.map Sum.inl
theorem keyI_kV (ns : List Int) : (keyI ns).map kV = ns.map V.int := by
  unfold keyI
  rw [List.map_map]
  rfl
theorem TI.key {H : Hp} {a : Addr} {ns : List Int} (h : H a = some (.tup (ns.map V.int))) : H a = some (.tup ((keyI ns).map kV)) := by rw [keyI_kV]; exact h
theorem keyI_inj {a b : List Int} (h : keyI a = keyI b) : a = b := by
  unfold keyI at h
  induction a generalizing b with
  | nil => cases b with
    | nil => rfl
    | cons => cases h
  | cons x a ih => cases b with
    | nil => cases h
    | cons y b =>
      rw [List.map_cons, List.map_cons, List.cons.injEq] at h
      rw [Sum.inl.inj h.1, ih h.2]
def dR (K : PySem.W.Frag) : Hp → V → PyData → Prop := fun H v d => Dt K H v d
theorem kdR {K : PySem.W.Frag} : Keeps (dR K) := ⟨fun t h => Dt.mono t h⟩
theorem dts_R {K : PySem.W.Frag} {H : Hp} : ∀ {ds : List PyData} {vs : List V}, DtAll K H vs ds → RAll (dR K) H vs ds
  | [], _, h => by cases h; exact .nil
  | d :: ds, _, h => by
    cases h with
    | cons h1 h2 => exact .cons h1 (dts_R h2)
theorem R_dts {K : PySem.W.Frag} {H : Hp} {ds : List PyData} {vs : List V} (h : RAll (dR K) H vs ds) : DtAll K H vs ds := by
  induction h with
  | nil => exact .nil
  | cons h _ ih => exact .cons h ih
section
variable {c : Cd} {σ : L2.St} {H : Hp} {Q : VK} {pos : Pos} {x y : V}
theorem ro_catTI {ns ms : List Int} (h1 : TI H x ns) (h2 : TI H y ms) (hl : ns.length + ms.length ≤ 100000) (q : ∀ v H2, Same H H2 → TI H2 v (ns ++ ms) → Q v H2) : RO c .Add x y H Q := by
  obtain ⟨a, rfl, t1⟩ := h1
  obtain ⟨b, rfl, t2⟩ := h2
  refine ro_of (r := rCatA c.K) (fun X h => by rw [← h.K]; exact op_catA) ⟨a, b, _, _, rfl, rfl, .of t1, .of t2, Nat.le_trans (by rw [List.length_map, List.length_map]; exact hl : _ ≤ 100000) (by decide), ?_, ?_, ?_⟩
  · intro e
    obtain rfl : ns = [] := List.map_eq_nil_iff.mp e
    exact q _ _ (Same.refl _) ⟨b, rfl, t2⟩
  · intro _ e
    obtain rfl : ms = [] := List.map_eq_nil_iff.mp e
    rw [List.append_nil] at q
    exact q _ _ (Same.refl _) ⟨a, rfl, t1⟩
  · intro _ _ p hp
    exact q _ _ (same_new hp) ⟨p, rfl, by rw [List.map_append]; exact upd_same⟩
/-- (i,) -/
theorem e_tupTI {es : List Expr} {x1} (q : RA c es σ H fun xs H1 => ∃ ns : List Int, xs = ns.map V.int ∧ ns.length ≤ 1000 ∧ ∀ v H2, Same H1 H2 → TI H2 v ns → Q v H2) : RE c (.Tuple es x1 pos) σ H Q :=
  e_tup (RA.mono (fun xs H1 z => by
    obtain ⟨ns, rfl, h2, h3⟩ := z
    exact ⟨Nat.le_trans (by rw [List.length_map]; exact h2) (by decide : 1000 ≤ sizeLine), fun p hp => h3 _ _ (same_new hp) ⟨p, rfl, upd_same⟩⟩) q)
/-- a slice of such a tuple -/
theorem rsl_TI {ns : List Int} {lo hi : Option Int} (hx : TI H x ns) (q : ∀ v H2, Same H H2 → TI H2 v (G.cutD ns lo hi) → Q v H2) : RSl c x lo hi H Q := by
  obtain ⟨a, rfl, ht⟩ := hx
  have hc : cutV (ns.map V.int) lo hi = (G.cutD ns lo hi).map V.int := by
    unfold cutV G.cutD
    rw [List.length_map, List.map_take, List.map_drop]
  refine rsl_of (r := rSlA c.K) (fun X h => by rw [← h.K]; exact sl_tupA) ⟨a, _, rfl, .of ht, fun e => ?_, fun _ p hp => q _ _ (same_new hp) ⟨p, rfl, by rw [← hc]; exact upd_same⟩⟩
  refine q _ _ (Same.refl _) ⟨a, rfl, ?_⟩
  have e2 : G.cutD ns lo hi = ns := by
    unfold G.cutD
    rw [List.length_map] at e
    rw [e.1, e.2]
    simp
  rw [e2]
  exact ht
end
end K

namespace G
open PySem PySem.Spec PyProof.Rows L2
section
variable {c : Cd} {σ : L2.St} {H : Hp} {Q : VK} {pos : Pos}
theorem s_setLc2 {nx : L2.St → Hp → Prop} {rt : VK} {bk ct : L2.St → Hp → Prop} {i : Nat} {y : Str} {py : Pos} {elt tg iter tg1 iter1 : Expr} {ifs ifs1 : List Expr} {scope : Scope} {own : List (Str × Nat)} {vs1 : List Nat} {spos : Pos} (hA : At c.N i y) (ok : Blk c scope own) (hv : ∀ i ∈ vs1, i ∈ own.map (·.2))
    (q : tLc2 (RI c tg iter) (RG (blkCd c scope) tg) (RTs (blkCd c scope) ifs) (RI (blkCd c scope) tg1 iter1) (RG (blkCd c scope) tg1) (RTs (blkCd c scope) ifs1) (RE (blkCd c scope) elt) (own.map (·.2)) vs1 σ H fun v H1 => nx (σ.set i (some v)) H1)
    (hy : c.sc.names.lookup y = some .local := by rfl) (hl : (py.line == pos.line) = true := by rfl) (ha : (scope.names.any fun (n, k) => n == y && (k == .local || k == .cell)) = false := by rfl) (hf : c.sc.kind = .function := by rfl) (hs : ∀ env x, foldedSetIterable iter env x = pure x := by intro _ _; rfl) (hs1 : ∀ env x, foldedSetIterable iter1 env x = pure x := by intro _ _; rfl) :
    RS c (.Assign [.Name y py] (.ListComp elt [⟨tg, iter, ifs, 0⟩, ⟨tg1, iter1, ifs1, 0⟩] scope pos) spos) ⟨nx, rt, bk, ct⟩ σ H :=
  rs_of (c := c) (σ := σ) (H := H) (D := ⟨nx, rt, bk, ct⟩) (t := tAsg (tLc2 (RI c tg iter) (RG (blkCd c scope) tg) (RTs (blkCd c scope) ifs) (RI (blkCd c scope) tg1 iter1) (RG (blkCd c scope) tg1) (RTs (blkCd c scope) ifs1) (RE (blkCd c scope) elt) (own.map (fun p : Str × Nat => p.2)) vs1) (gName i)) (fun X h => ps_setLc2 h.calm (by rw [h.N]; exact h.nd) (by rw [h.N]; exact hA.get) (by rw [h.sc]; exact hy)
    (sw_true (by rw [h.sc]; exact hf) (by rw [h.sc]; exact hy) hl ha) (pi_ri h) (by rw [h.N, h.sc]; exact ok.ok) hv (fun s H C cl fp => pg_rg (is_blk h s H C cl fp)) (fun s H C cl fp => pts_rts (is_blk h s H C cl fp)) (fun s H C cl fp => pi_ri (is_blk h s H C cl fp)) (fun s H C cl fp => pg_rg (is_blk h s H C cl fp)) (fun s H C cl fp => pts_rts (is_blk h s H C cl fp)) (fun s H C cl fp => pe_re (is_blk h s H C cl fp)) (hs _) hs1) q
end
end G

namespace K
open PySem PySem.Spec PyProof.Rows L2 G
variable {M : Md}
/-- [e for x in xs for t in range(a, b)], outer over a list, the items told by relations -/
theorem lc2_R {α β : Type} {R : Hp → V → α → Prop} {S : Hp → V → β → Prop} (kR : Keeps R) (kS : Keeps S) {c : Cd} {σ : L2.St} {H : Hp} {Q : VK} {elt tg iter tg1 a b : Expr} {p ppos : Pos} {scope : Scope} {vs vs1 : List Nat} {g : α → Int → β} (hm : c.mg "range" = none)
    (q : RE c iter σ H fun x H1 => ∃ l xs ds lo hi, x = .ref l ∧ SqL c.K H1 l xs ∧ RAll R H1 xs ds ∧ (-1000 ≤ lo ∧ lo ≤ 1000) ∧ (-2000 ≤ hi ∧ hi ≤ 2000) ∧ ds.length * (hi - lo).toNat ≤ 1000 ∧
      (∀ d v H', d ∈ ds → Same H1 H' → R H' v d → RG (blkCd c scope) tg v (wipe σ vs) H' fun σ2 H2 => H2 = H' ∧ wipe σ2 vs = wipe σ vs ∧
        RE (blkCd c scope) a σ2 H2 fun y H3 => RE (blkCd c scope) b σ2 H3 fun z H4 => y = .int lo ∧ z = .int hi ∧ H4 = H' ∧
        ∀ (t : Nat) H', Same H1 H' → (lo + t < hi) → R H' v d → RG (blkCd c scope) tg1 (.int (lo + t)) (wipe σ2 vs1) H' fun σ3 H5 => H5 = H' ∧ wipe σ3 vs1 = wipe σ2 vs1 ∧ RE (blkCd c scope) elt σ3 H5 fun w H6 => Same H5 H6 ∧ S H6 w (g d (lo + t))) ∧
      ∀ p us H3, Same H1 H3 → H1 p = none → H3 p = some (.lst us) → RAll S H3 us (ds.flatMap fun d => (List.range (hi - lo).toNat).map fun t : Nat => g d (lo + (t : Int))) → Q (.ref p) H3)
    (hg : (blkCd c scope).sc.names.lookup ("range" : Str) = some .globalImplicit := by rfl) (hs : ∀ env, starEach [a, b] env = [(false, eval a env), (false, eval b env)] := by intro _; rfl) (hs2 : ∀ env, starEach [b] env = [(false, eval b env)] := by intro _; rfl) :
    tLc2 (RI c tg iter) (RG (blkCd c scope) tg) (RTs (blkCd c scope) []) (RI (blkCd c scope) tg1 (.Call (.Name "range" p) [a, b] [] ppos)) (RG (blkCd c scope) tg1) (RTs (blkCd c scope) []) (RE (blkCd c scope) elt) vs vs1 σ H Q := by
  refine i_list (RE.mono (fun x H1 z => ?_) q)
  obtain ⟨l, xs, ds, lo, hi, rfl, ht, hd, lb, hb, many, tn, k⟩ := z
  refine ⟨l, rfl, ⟨xs, ht⟩, fun D hD => ?_⟩
  have lx := hd.len
  let row : α → List β := fun d => (List.range (hi - lo).toNat).map fun t : Nat => g d (lo + (t : Int))
  have rowl : ∀ d, (row d).length = (hi - lo).toNat := fun d => by simp [row]
  have rowsl : ∀ es : List α, (es.flatMap row).length = es.length * (hi - lo).toNat := fun es => by
    induction es with
    | nil => simp
    | cons e es ih => rw [List.flatMap_cons, List.length_append, rowl, ih, List.length_cons, Nat.add_mul, Nat.one_mul, Nat.add_comm]
  refine ⟨fun i m H' => m = xs.length - i ∧ i ≤ xs.length ∧ ∃ acc, H' D = some (.lst acc) ∧ Same H1 H' ∧ RAll S H' acc ((ds.take i).flatMap row), ⟨xs.length, by simp, Nat.zero_le _, [], upd_same, same_new hD, .nil⟩, ?_⟩
  rintro i m H2 ⟨rfl, hi2, acc, ha, s2, h2⟩
  by_cases hlt : i < xs.length
  · obtain ⟨d, hdi, hx⟩ := hd.getV (List.getElem?_eq_getElem hlt)
    refine .inr ⟨⟨xs, xs[i], s2.seq ht, by simp [hlt]⟩, fun H' => ∃ acc, H' D = some (.lst acc) ∧ Same H1 H' ∧ RAll S H' acc ((ds.take (i + 1)).flatMap row), fun H' ⟨acc, z1, z2, z3⟩ => ⟨xs.length - (i + 1), by omega, rfl, hlt, acc, z1, z2, z3⟩, ?_⟩
    rintro y H3 ⟨e0, yy⟩
    subst e0
    have e := yy xs (s2.seq ht)
    rw [List.getElem?_eq_getElem hlt] at e
    cases e
    refine RG.mono (fun σ2 H4 z => ?_) (tn d xs[i] _ (List.mem_of_getElem? hdi) s2 (kR.k (tp_same s2) hx))
    obtain ⟨rfl, w1, z⟩ := z
    refine ⟨w1, ts_nil ?_⟩
    rw [if_pos rfl]
    refine i_range2 hm (a_cons (RE.mono (fun y H5 z => a_cons (RE.mono (fun z2 H6 z => a_nil ?_) z) (fun env => by rw [hs2]; rfl)) z) (fun env => by rw [hs, hs2])) hg hs hs2
    obtain ⟨rfl, rfl, rfl, tn2⟩ := z
    have hcap : (ds.take i).length * (hi - lo).toNat + (hi - lo).toNat ≤ 1000 := by
      have h1 : (ds.take i).length + 1 ≤ ds.length := by rw [List.length_take]; omega
      have h2 := Nat.mul_le_mul_right (hi - lo).toNat h1
      rw [Nat.add_mul, Nat.one_mul] at h2
      omega
    refine ⟨lo, hi, rfl, ⟨by omega, by omega, by omega, by omega⟩, fun j k H' => k = (hi - lo).toNat - j ∧ j ≤ (hi - lo).toNat ∧ ∃ acc, H' D = some (.lst acc) ∧ Same H1 H' ∧ RAll S H' acc ((ds.take i).flatMap row ++ (List.range j).map fun t : Nat => g d (lo + (t : Int))), ⟨(hi - lo).toNat, by simp, Nat.zero_le _, acc, ha, s2, by simpa using h2⟩, ?_⟩
    rintro j k0 H7 ⟨rfl, hj, acc7, ha7, s7, h7⟩
    by_cases hjl : j < (hi - lo).toNat
    · refine .inr ⟨hjl, fun H' => ∃ acc, H' D = some (.lst acc) ∧ Same H1 H' ∧ RAll S H' acc ((ds.take i).flatMap row ++ (List.range (j + 1)).map fun t : Nat => g d (lo + (t : Int))), fun H' ⟨acc, z1, z2, z3⟩ => ⟨(hi - lo).toNat - (j + 1), by omega, rfl, hjl, acc, z1, z2, z3⟩, ?_⟩
      rintro y H8 ⟨e8, rfl⟩
      subst e8
      refine RG.mono (fun σ3 H9 z => ?_) (tn2 j _ s7 (by omega) (kR.k (tp_same s7) hx))
      obtain ⟨rfl, w3, z⟩ := z
      refine ⟨w3, ts_nil ?_⟩
      rw [if_pos rfl]
      refine RE.mono (fun w H10 z => ?_) z
      obtain ⟨s10, h10⟩ := z
      have aD := s10 _ _ ha7
      have ku := kp_upd (o' := .lst (acc7 ++ [w])) aD (fun _ e => nomatch e) (fun _ _ e => nomatch e)
      have l7 := h7.len
      rw [List.length_append, rowsl, List.length_map, List.length_range] at l7
      refine ⟨acc7, aD, Nat.lt_of_le_of_lt (show acc7.length ≤ 1000 by omega) (by decide), acc7 ++ [w], upd_same, same_mut (s7.trans s10) hD, ?_⟩
      rw [List.range_succ, List.map_append, ← List.append_assoc]
      exact ((h7.mono kS (tp_same s10)).mono kS ku.t).app (.cons (kS.k ku.t h10) .nil)
    · have ej : j = (hi - lo).toNat := by omega
      subst ej
      refine .inl ⟨Nat.le_refl _, acc7, ha7, s7, ?_⟩
      rw [List.take_succ_eq_append_getElem (by omega), List.flatMap_append]
      have ed : ds[i]'(by omega) = d := by
        have := List.getElem?_eq_getElem (l := ds) (i := i) (by omega)
        rw [this] at hdi
        exact Option.some.inj hdi
      rw [ed]
      simpa [row] using h7
  · have e : i = xs.length := by omega
    subst e
    rw [lx, List.take_length] at h2
    exact .inl ⟨⟨xs, s2.seq ht, Nat.le_refl _⟩, k D acc H2 s2 hD ha h2⟩
/-- a def that answers with a new list, its items told by a relation -/
def spLR {α : Type} (S : Hp → V → α → Prop) (W : List PyData → List α → Prop) (K : PySem.W.Frag) : Sp := fun vs H Q _ => ∃ ds es, DtAll K H vs ds ∧ W ds es ∧ ∀ l us H', Same H H' → H l = none → H' l = some (.lst us) → RAll S H' us es → Q (.ref l) H'
theorem e_callR {α : Type} {S : Hp → V → α → Prop} {c : Cd} {σ : L2.St} {H : Hp} {Q : VK} {pos : Pos} {x : Str} {p : Pos} {e : Expr} {es : List Expr} {ps : List Str} {k : Nat} {W : List PyData → List α → Prop} (D : Dc c.toMd x ps k (spLR S W c.K)) (q : RA c (e :: es) σ H fun vs H1 => ∃ ds es, DtAll c.K H1 vs ds ∧ W ds es ∧ ∀ l us H', Same H1 H' → H1 l = none → H' l = some (.lst us) → RAll S H' us es → Q (.ref l) H') (hk : k ≤ c.k := by exact Nat.le_of_ble_eq_true rfl) (hg : c.sc.names.lookup x = some .globalImplicit := by rfl)
    (hdb : (x == ("__debug__" : Str)) = false := by decide) (he : ∀ env, starEach (e :: es) env = (false, eval e env) :: starEach es env := by intro _; rfl) (hpl : ∀ env, (backTo pos (starEach es env)).any (·.1) = false := by intro _; rfl) :
    RE c (.Call (.Name x p) (e :: es) [] pos) σ H Q := e_call D q hk hg hdb he hpl
def app1 (o : St1) (t : Int) : St1 := o ++ [t]
theorem widen_app1 (acc : List St1) (p : Rng) : acc.flatMap (fun d => (List.range (p.2 + 1 - p.1).toNat).map fun t : Nat => app1 d (p.1 + (t : Int))) = widen acc p := rfl
def rComb : List PyData → List St1 → Prop := fun ds es => ∃ rs : List Row, ds = [.tuple (rngs rs)] ∧ Small rs ∧ es = statesOf (rg rs)
def rSlist : List PyData → List St1 → Prop := fun ds es => ∃ (rs : List Row) (rest : List PyData), ds = [.tuple (cellsD rs :: rest)] ∧ Small rs ∧ es = statesOf (rg rs)
/-! a program: cells, rules, whatever else -/
def progD (rs : List Row) (rl : List Rl) (more : List PyData) : PyData := .tuple (cellsD rs :: .tuple (rl.map Rl.d) :: more)
def findR (rl : List Rl) (nm : Str) : Option Rl := rl.find? fun r => decide (r.name = nm)
end K

namespace K
open PySem L2 G
variable {M : Md}
def rowsA : List Row := [("big", 0, 0, 1, false, true, 0), ("x", 0, 0, 3, true, false, 0)]
def rAdd : Rl := ⟨"add", .int 1, [(.nm "x", .bin "+" (.nm "x") (.int 1))]⟩
def rTwice : Rl := ⟨"twice", .int 1, [(.nm "x", .bin "*" (.nm "x") (.int 2))]⟩
def rSee : Rl := ⟨"see", .bin "<" (.int 2) (.nm "x"), [(.nm "big", .int 1)]⟩
theorem sw0 {ts vs : List Expr} {k1 k2 : Nat} {p1 p2 : Pos} (h : vs.all (foldedForSure 8) = true) (env : Env) : swappedStores [.Tuple ts k1 p1] (.Tuple vs k2 p2) env = pure none := by
  unfold swappedStores
  simp only [h]
  repeat (first | rfl | split)
structure RowsAll (rs : List Row) : Prop where
  sm : Small rs
  ri : RowsIn rs
  nd : (rs.map nameOf).Nodup
theorem rg_mem {rs : List Row} {p : Rng} (h : p ∈ rg rs) : ∃ r ∈ rs, p = (r.2.2.1, r.2.2.2.1) := by
  obtain ⟨r, hr, h2⟩ := List.mem_flatMap.mp h
  exact ⟨r, hr, (List.mem_replicate.mp h2).2⟩
theorem all_of (rs : List Row) (h : (decide (total rs ≤ 10) && (rg rs).all (fun p => decide (1 ≤ span p) && decide (-10 ≤ p.1) && decide (p.2 ≤ 10)) && decide (many (rg rs) ≤ 256) && decide (rs.length ≤ 10) && rs.all (fun r => PyData.strOk r.1) && decide (rs.map nameOf).Nodup) = true) : RowsAll rs := by
  simp only [Bool.and_eq_true, List.all_eq_true, decide_eq_true_eq] at h
  obtain ⟨⟨⟨⟨⟨h1, h2⟩, h3⟩, h4⟩, h5⟩, h6⟩ := h
  exact ⟨⟨h1, fun p hp => ⟨(h2 p hp).1.1, (h2 p hp).1.2, (h2 p hp).2⟩, h3⟩, ⟨h4, h5⟩, h6⟩
theorem fold_val (B : Int) : ∀ (ps : List Rng) (acc : List St1), (∀ p ∈ ps, -B ≤ p.1 ∧ p.2 ≤ B) → (∀ o ∈ acc, ∀ v ∈ o, -B ≤ v ∧ v ≤ B) → ∀ o ∈ ps.foldl widen acc, ∀ v ∈ o, -B ≤ v ∧ v ≤ B
  | [], acc, _, h => h
  | p :: ps, acc, hp, h => by
    refine fold_val B ps (widen acc p) (fun q hq => hp q (List.mem_cons_of_mem _ hq)) fun o ho v hv => ?_
    obtain ⟨o2, h2, h3⟩ := List.mem_flatMap.mp ho
    obtain ⟨t, ht, rfl⟩ := List.mem_map.mp h3
    have ht := List.mem_range.mp ht
    have hp1 := hp p (List.mem_cons_self ..)
    rcases List.mem_append.mp hv with hv | hv
    · exact h o2 h2 v hv
    · rw [List.mem_singleton.mp hv]
      unfold span at ht
      omega
/-- each value lies in its range -/
def Lies (qs : List Rng) (o : St1) : Prop := o.length = qs.length ∧ ∀ (i : Nat) (r : Rng), qs[i]? = some r → r.1 ≤ gt o i ∧ gt o i ≤ r.2
theorem lies_fold : ∀ (ps qs : List Rng) (acc : List St1), (∀ o ∈ acc, Lies qs o) → ∀ o ∈ ps.foldl widen acc, Lies (qs ++ ps) o
  | [], qs, acc, h => by rw [List.append_nil]; exact h
  | p :: ps, qs, acc, h => by
    have e : qs ++ p :: ps = (qs ++ [p]) ++ ps := by rw [List.append_assoc]; rfl
    rw [e]
    refine lies_fold ps (qs ++ [p]) (widen acc p) fun o ho => ?_
    obtain ⟨o2, h2, h3⟩ := List.mem_flatMap.mp ho
    obtain ⟨t, ht, rfl⟩ := List.mem_map.mp h3
    have ht := List.mem_range.mp ht
    obtain ⟨l2, g2⟩ := h o2 h2
    refine ⟨by rw [List.length_append, List.length_append, l2]; rfl, fun i r hr => ?_⟩
    unfold gt
    rw [Int.toNat_natCast, List.getD_eq_getElem?_getD]
    by_cases hi : i < qs.length
    · rw [List.getElem?_append_left hi] at hr
      have := g2 i r hr
      unfold gt at this
      rw [Int.toNat_natCast, List.getD_eq_getElem?_getD] at this
      rw [List.getElem?_append_left (by omega)]
      exact this
    · rw [List.getElem?_append_right (by omega)] at hr
      rw [List.getElem?_append_right (by omega), l2]
      have hi2 : i - qs.length = 0 := by
        have := (List.getElem?_eq_some_iff.mp hr).1
        rw [List.length_singleton] at this
        omega
      rw [hi2] at hr ⊢
      obtain rfl : p = r := Option.some.inj hr
      show p.1 ≤ p.1 + (t : Int) ∧ p.1 + (t : Int) ≤ p.2
      unfold span at ht
      omega
theorem states_ok {rs : List Row} (A : RowsAll rs) : ∀ st ∈ statesOf (rg rs), StOk rs st := by
  intro st hst
  refine ⟨by rw [states_mem hst, rg_len], fun v hv => ?_, A.sm.tot, A.nd, A.ri, ?_⟩
  · exact fold_val 10 (rg rs) [[]] (fun p hp => ⟨(A.sm.sp p hp).2.1, (A.sm.sp p hp).2.2⟩) (fun o ho v hv => by rw [List.mem_singleton.mp ho] at hv; cases hv) st hst v hv
  · have h0 := lies_fold (rg rs) [] [[]] (fun o ho => by rw [List.mem_singleton.mp ho]; exact ⟨rfl, fun i r hr => by simp at hr⟩) st hst
    exact h0.2
theorem fitB {rs : List Row} {s : Str} (h : (rs.any fun r => decide (r.1 = s) && decide (r.2.1 = 0)) = true) : ∃ r ∈ rs, r.1 = s ∧ r.2.1 = 0 := by
  obtain ⟨r, hr, h2⟩ := List.any_eq_true.mp h
  simp only [Bool.and_eq_true, decide_eq_true_eq] at h2
  exact ⟨r, hr, h2⟩
theorem fitC {rs : List Row} {s : Str} (h : (rs.any fun r => decide (r.1 = s) && decide (0 < r.2.1)) = true) : ∃ r ∈ rs, r.1 = s ∧ 0 < r.2.1 := by
  obtain ⟨r, hr, h2⟩ := List.any_eq_true.mp h
  simp only [Bool.and_eq_true, decide_eq_true_eq] at h2
  exact ⟨r, hr, h2⟩
def fitb (rs : List Row) : Ex → Bool
  | .int i => decide (-1000000 ≤ i ∧ i ≤ 1000000)
  | .nm s => rs.any fun r => decide (r.1 = s) && decide (r.2.1 = 0)
  | .at t e => (rs.any fun r => decide (r.1 = t) && decide (0 < r.2.1)) && fitb rs e
  | .un op e => decide (op ∈ uns) && fitb rs e
  | .bin op a b => decide (op ∈ bins) && (fitb rs a && fitb rs b)
  | .kk op e n => decide (op ∈ kks) && (fitb rs e && decide (1 ≤ n ∧ n ≤ 3))
  | .ite a b e => fitb rs a && (fitb rs b && fitb rs e)
theorem fitb_ok {rs : List Row} : ∀ e : Ex, fitb rs e = true → Fit rs e
  | .int i, h => by
    unfold fitb at h
    unfold Fit
    exact of_decide_eq_true h
  | .nm s, h => by unfold fitb at h; exact fitB h
  | .at t e, h => by
    unfold fitb at h
    rw [Bool.and_eq_true] at h
    exact ⟨fitC h.1, fitb_ok e h.2⟩
  | .un op e, h => by
    unfold fitb at h
    rw [Bool.and_eq_true] at h
    exact ⟨of_decide_eq_true h.1, fitb_ok e h.2⟩
  | .bin op a b, h => by
    unfold fitb at h
    rw [Bool.and_eq_true, Bool.and_eq_true] at h
    exact ⟨of_decide_eq_true h.1, fitb_ok a h.2.1, fitb_ok b h.2.2⟩
  | .kk op e n, h => by
    unfold fitb at h
    rw [Bool.and_eq_true, Bool.and_eq_true] at h
    exact ⟨of_decide_eq_true h.1, fitb_ok e h.2.1, of_decide_eq_true h.2.2⟩
  | .ite a b e, h => by
    unfold fitb at h
    rw [Bool.and_eq_true, Bool.and_eq_true] at h
    exact ⟨fitb_ok a h.1, fitb_ok b h.2.1, fitb_ok e h.2.2⟩
def fittb (rs : List Row) : Tg → Bool
  | .nm s => rs.any fun r => decide (r.1 = s) && decide (r.2.1 = 0)
  | .at t e => (rs.any fun r => decide (r.1 = t) && decide (0 < r.2.1)) && (fitb rs e && decide (e.dep ≤ 2))
theorem fittb_ok {rs : List Row} (t : Tg) (h : fittb rs t = true) : FitT rs t := by
  cases t with
  | nm s => exact fitB h
  | «at» t e =>
    unfold fittb at h
    rw [Bool.and_eq_true, Bool.and_eq_true] at h
    exact ⟨fitC h.1, fitb_ok e h.2.1, of_decide_eq_true h.2.2⟩
def rlb (rs : List Row) (r : Rl) : Bool := PyData.strOk r.name && (fitb rs r.guard && decide (r.guard.dep ≤ 4)) && decide (r.as.length ≤ 10) && decide (0 < r.as.length) && r.as.all fun p => fittb rs p.1 && (fitb rs p.2 && decide (p.2.dep ≤ 2))
theorem rlb_ok {rs : List Row} {r : Rl} (h : rlb rs r = true) : FitR rs r := by
  unfold rlb at h
  simp only [Bool.and_eq_true, List.all_eq_true, decide_eq_true_eq] at h
  obtain ⟨⟨⟨⟨h1, h2⟩, h3⟩, h4⟩, h5⟩ := h
  exact ⟨h1, ⟨fitb_ok _ h2.1, h2.2⟩, h3, fun e => by rw [e] at h4; exact absurd h4 (by decide), fun p hp => ⟨fittb_ok _ (h5 p hp).1, fitb_ok _ (h5 p hp).2.1, (h5 p hp).2.2⟩⟩
end K

namespace G
open PySem PySem.Spec PyProof.Rows L2
/-! ### t[::-1] of a tuple -/
theorem adj_back (n : Nat) : Builtin.Slice.sliceAdjust none none (-1) (n : Int) = ((n : Int) - 1, -1) := by
  unfold Builtin.Slice.sliceAdjust
  simp
theorem plc_back (n : Nat) : Builtin.Slice.slicePlaces ((n : Int) - 1) (-1) (-1) = n := by
  unfold Builtin.Slice.slicePlaces
  simp
  omega
theorem fm_congr {α β : Type} {f g : α → Option β} : ∀ {l : List α}, (∀ x ∈ l, f x = g x) → l.filterMap f = l.filterMap g
  | [], _ => rfl
  | x :: l, h => by rw [List.filterMap_cons, List.filterMap_cons, h x (List.mem_cons_self ..), fm_congr fun y hy => h y (List.mem_cons_of_mem _ hy)]
theorem pick_back (xs : Array Value) : ((List.range xs.size).filterMap fun (m : Nat) => xs[((xs.size : Int) - 1 + (m : Int) * (-1)).toNat]?) = xs.toList.reverse := by
  have e1 : ((List.range xs.size).filterMap fun (m : Nat) => xs[((xs.size : Int) - 1 + (m : Int) * (-1)).toNat]?) = (List.range xs.size).filterMap fun m => xs.toList.reverse[m]? := by
    refine fm_congr fun m hm => ?_
    have hlt := List.mem_range.mp hm
    rw [show ((xs.size : Int) - 1 + (m : Int) * (-1)).toNat = xs.size - 1 - m by omega, List.getElem?_reverse (by rw [Array.length_toList]; exact hlt), Array.length_toList, Array.getElem?_toList]
  have e2 : ∀ (l : List Value) (n : Nat), n = l.length → (List.range n).filterMap (fun m => l[m]?) = l := by
    intro l n h
    subst h
    refine List.ext_getElem? fun j => ?_
    have e3 : (List.range l.length).filterMap (fun m => l[m]?) = (List.range l.length).map fun m => l.getD m .none := by
      rw [← List.filterMap_eq_map]
      refine fm_congr fun m hm => ?_
      have hlt := List.mem_range.mp hm
      simp [List.getD, List.getElem?_eq_getElem hlt]
    rw [e3, List.getElem?_map]
    by_cases hj : j < l.length
    · rw [List.getElem?_range hj]
      simp [List.getD, List.getElem?_eq_getElem hj]
    · rw [List.getElem?_eq_none (by rw [List.length_range]; omega), List.getElem?_eq_none (by omega)]
      rfl
  rw [e1]
  exact e2 _ _ (by rw [List.length_reverse, Array.length_toList])
section
variable {prog : Program} {w : World} {A : Around} {E : Value → Shared → Prop} {s : Shared}
theorem applied_back {b : Addr} {step : Value} {n : Nat} {Q : Int × Int × Nat → Shared → Prop} (at_ : s.heap.IsSliceOf b .none .none step) (p : IsPart step (some (-1))) (k : Q ((n : Int) - 1, -1, n) s) : wpAny (model prog w) A (Builtin.Slice.sliceApplied (.ref b) (pure (n : Int))) Q E s := by
  obtain ⟨o, g1, g2, g3⟩ := id at_
  unfold Builtin.Slice.sliceApplied Builtin.Slice.sliceFields
  refine wpAny_bind (wpAny_bind (wpAny_field g1 g3 (x := .none) rfl ?_))
  refine wpAny_bind (wpAny_field g1 g3 (x := .none) rfl ?_)
  refine wpAny_bind (wpAny_field g1 g3 (x := step) rfl (wpAny_pure ?_))
  refine wpAny_bind (HT.slicePart_ p ?_)
  show wpAny _ _ (if ((-1 : Int) == 0) = true then _ else _) _ _ s
  rw [if_neg (by decide)]
  refine wpAny_bind (slicePart_none ?_)
  refine wpAny_bind (slicePart_none ?_)
  refine wpAny_bind (wpAny_pure ?_)
  show wpAny _ _ (match Builtin.Slice.sliceAdjust none none (-1) (n : Int) with | (lo, hi) => pure (lo, (-1 : Int), Builtin.Slice.slicePlaces lo hi (-1))) _ _ s
  rw [adj_back]
  show wpAny _ _ (pure ((n : Int) - 1, (-1 : Int), Builtin.Slice.slicePlaces ((n : Int) - 1) (-1) (-1))) _ _ s
  rw [plc_back]
  exact wpAny_pure k
theorem getItem_back {t b : Addr} {items : Array Value} {step : Value} {Q : Value → Shared → Prop} (ht : IsTup s.heap t items) (at_ : s.heap.IsSliceOf b .none .none step) (p : IsPart step (some (-1)))
    (k : Q (.ref s.heap.objs.size) { s with heap := s.heap.push { cls := .type "tuple", data := .seq items.toList.reverse.toArray } }) (fits : items.size ≤ sizeLine) : wpAny (model prog w) A (getItem (.ref t) (.ref b)) Q E s := by
  have room : sizeOk (.seq items.toList.reverse.toArray) := by
    show items.toList.reverse.toArray.size ≤ sizeLine
    rw [List.size_toArray, List.length_reverse, Array.length_toList]
    exact fits
  obtain ⟨o, g1, g2, g3⟩ := id at_
  have kind : s.TypeIs (.ref b) "slice" := ⟨o, g1, g2⟩
  unfold getItem
  try with_reducible refine wpAny_holding ?_
  first | refine wpAny_bind (wpAny_pure ?_) | skip
  refine wpAny_bind (wpAny_sequenceKey ht.typeIs (by decide) ?_)
  refine wpAny_bind (wpAny_callSpecial?_slot (name := Str.ofString "__getitem__") ht.typeIs slot_tuple_getitem (wpAny_call_entry slot_tuple_getitem ht.typeIs entry_tuple_getitem ?_ (args_tuple_getitem _ _)))
  show wpAny _ _ (Builtin.Tuple.tupleItemsOf (.ref t) >>= _) _ _ s
  refine wpAny_bind (tupleItemsOf_ ht (wpAny_bind (wpAny_typeOf kind ?_)))
  rw [if_pos (by decide)]
  refine wpAny_bind (applied_back at_ p ?_)
  show wpAny _ _ (if (((items.size : Int) - 1) == 0 && (-1 : Int) == 1 && items.size == items.size) = true then _ else _) _ _ s
  rw [if_neg (by simp), pick_back]
  first
    | exact wpAny_bind (m := Builtin.Tuple.tupleExact _) (wpAny_newObj_type (wpAny_pure ⟨_, rfl, wpAny_pure k⟩) room)
    | exact wpAny_bind (m := Builtin.Tuple.tupleExact _) (wpAny_newObj_type (wpAny_bind (wpAny_pure (wpAny_pure ⟨_, rfl, wpAny_pure k⟩))) room)
    | exact wpAny_bind (wpAny_bind (m := Builtin.Tuple.tupleExact _) (wpAny_newObj_type (wpAny_pure (wpAny_pure ⟨_, rfl, wpAny_pure k⟩)) room))
    | exact wpAny_bind (wpAny_bind (m := Builtin.Tuple.tupleExact _) (wpAny_newObj_type (wpAny_pure ⟨_, rfl, wpAny_pure k⟩) room))
end
def tRevT (K : PySem.W.Frag) (te : TE) : TE := fun σ H Q => te σ H fun x H1 => ∃ a xs, x = .ref a ∧ SqT K H1 a xs ∧ ∀ p, H1 p = none → Q (.ref p) (upd H1 p (.tup xs.reverse))
theorem pe_revT {X : Cx} {e : Expr} {te : TE} {k : Nat} {p1 p2 p3 pos : Pos} (he : PE X e te) : PE X (.Subscript e (.Slice none none (some (.UnaryOp .USub (.Constant (.int 1) k p1) p2)) p3) pos) (tRevT X.K te) := by
  constructor
  intro pins st σ H Q J z
  refine Subscript_ (thn (he.run pins st σ H _ J z) fun v s1 ⟨x, H1, J1, r1, a, xs, ex, hx, q⟩ => ?_)
  subst ex
  obtain rfl : v = Value.ref a := r1
  have third : PO X (some (.UnaryOp .USub (.Constant (.int 1) k p1) p2)) (tPart (tUn (rU fun i => .int (-i)) (tC (.int 1)))) := po_some (pe_un un_neg pe_int)
  refine wpAny_Slice (thn (po_none.run pins s1 σ H1 (fun o H2 => o = none ∧ H2 = H1) J1 ⟨rfl, rfl⟩) fun vl s2 ⟨l, H2, J2, pl, el, e2⟩ => ?_)
  subst el e2
  cases pl
  refine thn (po_none.run pins s2 σ H2 (fun o H3 => o = none ∧ H3 = H2) J2 ⟨rfl, rfl⟩) fun vu s3 ⟨u, H3, J3, pu, eu, e3⟩ => ?_
  subst eu e3
  cases pu
  refine thn (third.run pins s3 σ H3 (fun o H4 => o = some (-1) ∧ H4 = H3) J3 ⟨1, rfl, -1, rfl, rfl, rfl⟩) fun vs s4 ⟨o, H4, J4, ps, eo, e4⟩ => ?_
  subst eo e4
  have J5 : Inv X pins σ H4 { s4 with heap := s4.heap.push { cls := .type "slice", data := .fields #[.none, .none, vs] } } := J4.kept (t' := s4.toks) fun b ob q => Heap.get?_push_of_some _ q
  obtain ⟨its, r, ht, hz⟩ := J5.tuple hx
  have same := r.length
  show wpAny (model X.prog X.w) X.A (subscriptTail e (.Slice none none (some (.UnaryOp .USub (.Constant (.int 1) k p1) p2)) p3) (.ref a) (.ref s4.heap.objs.size)) (EP X pins σ Q) X.xe { s4 with heap := s4.heap.push { cls := .type "slice", data := .fields #[.none, .none, vs] } }
  refine tail_any (ops := [.ref a, .ref s4.heap.objs.size]) ht.typeIs slot_tuple_getitem.lookup ?_ (by with_unfolding_all rfl)
  refine getItem_back ht (Heap.IsSliceOf.new _ .none .none vs) ps ?_ (by rw [List.size_toArray]; omega)
  refine ⟨.ref _, _, J5.laid (t' := s4.toks) (o := .tup xs.reverse) (fun b ob q => Heap.get?_push_of_some _ q) (Nat.le_refl _) ?_, rfl, q _ (J5.hok.fresh (Nat.le_refl _))⟩
  exact ⟨by rw [List.length_reverse]; exact hz, _, r.reverse, IsTup.new _ _⟩
theorem DtAll.rev {K : PySem.W.Frag} {H : Hp} : ∀ {ds : List PyData} {vs : List V}, DtAll K H vs ds → DtAll K H vs.reverse ds.reverse
  | [], _, h => by cases h; exact .nil
  | d :: ds, _, h => by
    cases h with
    | cons h1 h2 =>
      rw [List.reverse_cons, List.reverse_cons]
      exact (DtAll.rev h2).app (.cons h1 .nil)
theorem e_revT {c : Cd} {σ : L2.St} {H : Hp} {Q : VK} {e : Expr} {k : Nat} {p1 p2 p3 pos : Pos} (q : RE c e σ H fun x H1 => ∃ ds, Dt c.K H1 x (.tuple ds) ∧ ∀ v H2, Same H1 H2 → Dt c.K H2 v (.tuple ds.reverse) → Q v H2) : RE c (.Subscript e (.Slice none none (some (.UnaryOp .USub (.Constant (.int 1) k p1) p2)) p3) pos) σ H Q := by
  refine re_of (t := tRevT c.K (RE c e)) (fun X h => by rw [← h.K]; exact pe_revT (pe_re h)) (RE.mono (fun x H1 z => ?_) q)
  obtain ⟨ds, hx, z⟩ := z
  obtain ⟨a, xs, rfl, ht, hd⟩ := hx.tupE
  exact ⟨a, xs, rfl, ht, fun p hp => z _ _ (same_new hp) (.tup (.of upd_same) (hd.rev.mono (tp_same (same_new hp))))⟩
end G

namespace G
open PySem PySem.Spec PyProof.Rows L2
theorem e_revL {c : Cd} {σ : L2.St} {H : Hp} {Q : VK} {e : Expr} {k : Nat} {p1 p2 p3 pos : Pos} (q : RE c e σ H fun x H1 => ∃ a xs, x = .ref a ∧ SqL c.K H1 a xs ∧ ∀ p H2, Same H1 H2 → H1 p = none → H2 p = some (.lst xs.reverse) → Q (.ref p) H2) : RE c (.Subscript e (.Slice none none (some (.UnaryOp .USub (.Constant (.int 1) k p1) p2)) p3) pos) σ H Q := by
  refine re_of (t := tRevL c.K (RE c e)) (fun X h => by rw [← h.K]; exact pe_revL (pe_re h)) (RE.mono (fun x H1 z => ?_) q)
  obtain ⟨a, xs, rfl, ht, z⟩ := z
  exact ⟨a, xs, rfl, ht, fun p hp => z p _ (same_new hp) hp upd_same⟩
end G
namespace K
open PySem PySem.Spec PyProof.Rows L2 G
variable {M : Md}
def rNamed : List PyData → PyData → Prop := fun ds d => ∃ (rs : List Row) (rl : List Rl) (more : List PyData) (nm : Str) (r : Rl), ds = [progD rs rl more, .str nm] ∧ findR rl nm = some r ∧ d = r.d
theorem findR_go {rl : List Rl} {nm : Str} {i : Nat} {r : Rl} (h : rl[i]? = some r) : findR (rl.drop i) nm = if r.name = nm then some r else findR (rl.drop (i + 1)) nm := by
  obtain ⟨h1, h2⟩ := List.getElem?_eq_some_iff.mp h
  rw [List.drop_eq_getElem_cons h1, h2]
  unfold findR
  rw [List.find?_cons]
  by_cases e : r.name = nm
  · rw [if_pos e, decide_eq_true e]
  · rw [if_neg e, decide_eq_false e]
theorem ok_named {f fd} (F : Fun M.K "rule_named" "rule_named" s_rule_named f fd) (b : Bl M) : FnG M.prog M.w M.K M.mg M.base CX0 1 f fd ["program", "name"] (spF rNamed M.K) := by
  refine fn_ok F sc_rule_named (fun vs H Q E h => ?_) (fun H vs Q E h => ?_)
  · obtain ⟨ds, d, h, ⟨rs, rl, more, nm, r, rfl, _⟩, _⟩ := h
    exact h.len
  obtain ⟨ds, d, h, ⟨rs, rl, more, nm, r, rfl, fnd, rfl⟩, k⟩ := h
  obtain _ | ⟨hp, h⟩ := h
  obtain _ | ⟨hn, h⟩ := h
  cases h
  cases hn
  rename_i vp
  refine b_cons (s_forT ?_)
  tm_at "go"
  refine rx_tup hp (d := .tuple (rl.map Rl.d)) (pl_at (j := 1) rfl rfl) fun vr hr => ?_
  obtain ⟨a, xs, rfl, ht, hd⟩ := hr.tupE
  refine ⟨a, xs, rfl, ht, fun i σ1 H1 => ∃ v : Option V, σ1 = [some vp, some (.str nm), v] ∧ H1 = H ∧ findR (rl.drop i) nm = some r, ⟨_, rfl, rfl, fnd⟩, ?_, ?_, ?_⟩
  · rintro i σ' H' _ ⟨v, rfl, rfl, _⟩
    exact ht
  · rintro i x σ' H' hx ⟨v, rfl, rfl, hf⟩
    obtain ⟨d, hdi, hx'⟩ := hd.getV hx
    rw [List.getElem?_map] at hdi
    obtain ⟨q, hq, rfl⟩ := Option.map_eq_some_iff.mp hdi
    rw [findR_go hq] at hf
    refine g_name (by tm_at "at") ?_
    tm_at "go"
    refine ifd (fun c1 => ?_) (fun c1 => ?_)
    · rw [if_pos c1] at hf
      obtain rfl := Option.some.inj hf
      tm_at "go"
      exact k _ _ (Same.refl _) hx'
    · rw [if_neg c1] at hf
      tm_at "go"
      exact ⟨rfl, hf⟩
  · rintro σ' H' ⟨v, rfl, rfl, hf⟩
    rw [List.drop_eq_nil_of_le (by have := hd.len; rw [List.length_map] at this; omega)] at hf
    cases hf
/-! ### steps of the cells -/
def stp : List Rng → List (Nat × Nat)
  | [] => []
  | p :: ps => (many ps, span p) :: stp ps
theorem stp_len : ∀ ps : List Rng, (stp ps).length = ps.length
  | [] => rfl
  | p :: ps => congrArg Nat.succ (stp_len ps)
def stD2 (q : Nat × Nat) : PyData := .tuple [.int q.1, .int q.2]
def stepsD (ps : List Rng) : PyData := .tuple ((stp ps).map stD2)
def rSteps : List PyData → PyData → Prop := fun ds d => ∃ (rs : List Row) (rest : List PyData), ds = [.tuple (cellsD rs :: rest)] ∧ Small rs ∧ d = stepsD (rg rs)
theorem many_cons (p : Rng) (ps : List Rng) : many (p :: ps) = many ps * span p := by
  rw [show p :: ps = [p] ++ ps from rfl, many_app, Nat.mul_comm]
  congr 1
  exact Nat.one_mul _
theorem many_drop {ps : List Rng} (h : ∀ p ∈ ps, 1 ≤ span p) (i : Nat) : many (ps.drop i) ≤ many ps ∧ 1 ≤ many (ps.drop i) := by
  have pos : ∀ qs : List Rng, (∀ p ∈ qs, 1 ≤ span p) → 1 ≤ many qs := by
    intro qs
    induction qs with
    | nil => intro _; exact Nat.le_refl _
    | cons q qs ih =>
      intro hq
      rw [many_cons]
      exact Nat.mul_pos (ih fun p hp => hq p (List.mem_cons_of_mem _ hp)) (hq q (List.mem_cons_self ..))
  have hd := pos (ps.drop i) fun p hp => h p (List.mem_of_mem_drop hp)
  have ht := pos (ps.take i) fun p hp => h p (List.mem_of_mem_take hp)
  refine ⟨?_, hd⟩
  have e : many ps = many (ps.take i) * many (ps.drop i) := by rw [← many_app, List.take_append_drop]
  rw [e]
  exact Nat.le_mul_of_pos_left _ ht
/-! ### the state with the low value -/
def lw (n s m : Nat) : Nat := n - n / s % m * s
theorem lw_le (n s m : Nat) : lw n s m ≤ n := Nat.sub_le _ _
theorem low_le (n s m : Nat) : n / s % m * s ≤ n := Nat.le_trans (Nat.mul_le_mul_right s (Nat.mod_le _ _)) (Nat.div_mul_le_self n s)
theorem lw_int (n s m : Nat) : (n : Int) - (n : Int) / (s : Int) % (m : Int) * (s : Int) = ((lw n s m : Nat) : Int) := by
  have h := low_le n s m
  rw [← Int.natCast_ediv, ← Int.natCast_emod, ← Int.natCast_mul]
  unfold lw
  omega
def rLow : List PyData → PyData → Prop := fun ds d => ∃ n s m : Nat, ds = [.int n, .int s, .int m] ∧ (1 ≤ s ∧ s ≤ 256) ∧ (1 ≤ m ∧ m ≤ 256) ∧ d = .int (lw n s m : Nat)
end K

namespace K
open PySem PySem.Spec PyProof.Rows L2 G
variable {M : Md}
abbrev As := Option (List (Int × Int))
/-! ### what is assigned, compared -/
theorem eqv_ent (p q : Int × Int) : PyData.eqv (entD p) (entD q) = decide (p = q) := by
  obtain ⟨a, b⟩ := p
  obtain ⟨x, y⟩ := q
  unfold entD
  simp only [PyData.eqv, PyData.eqvAll]
  by_cases h1 : a = x
  · by_cases h2 : b = y
    · simp [h1, h2]
    · simp [h1, h2]
  · simp [h1]
theorem eqv_ents : ∀ es fs : List (Int × Int), PyData.eqvAll (es.map entD) (fs.map entD) = decide (es = fs)
  | [], [] => by simp [PyData.eqvAll]
  | [], _ :: _ => by simp [PyData.eqvAll]
  | _ :: _, [] => by simp [PyData.eqvAll]
  | p :: es, q :: fs => by
    rw [List.map_cons, List.map_cons]
    simp only [PyData.eqvAll, eqv_ent, eqv_ents es fs]
    by_cases h1 : p = q
    · by_cases h2 : es = fs
      · simp [h1, h2]
      · simp [h1, h2]
    · simp [h1]
theorem eqv_as (a b : As) : PyData.eqv (asgD a) (asgD b) = decide (a = b) := by
  cases a with
  | none =>
    cases b with
    | none => simp [asgD, PyData.eqv]
    | some b => simp [asgD, PyData.eqv]
  | some a =>
    cases b with
    | none => simp [asgD, PyData.eqv]
    | some b =>
      unfold asgD
      rw [show PyData.eqv (.tuple (a.map entD)) (.tuple (b.map entD)) = PyData.eqvAll (a.map entD) (b.map entD) from by simp only [PyData.eqv], eqv_ents]
      by_cases h : a = b
      · rw [decide_eq_true h, decide_eq_true (by rw [h])]
      · rw [decide_eq_false h, decide_eq_false fun e => h (Option.some.inj e)]
theorem sh_as (a : As) : Shp 5 (asgD a) := by
  cases a with
  | none => exact shp_non
  | some es =>
    refine shp_tup fun d hd => ?_
    obtain ⟨p, _, rfl⟩ := List.mem_map.mp hd
    refine shp_tup fun d hd => ?_
    rcases List.mem_cons.mp hd with rfl | hd
    · exact shp_int _
    · rw [List.mem_singleton.mp hd]; exact shp_int _
/-! ### two states that show that a cell is read -/
def rdp (es : List As) (s m : Nat) : Option Nat := (List.range es.length).find? fun n => decide (es.getD n none ≠ es.getD (lw n s m) none)
def rpD (s m : Nat) : Option Nat → PyData
  | none => .none
  | some n => .tuple [.int (lw n s m : Nat), .int (n : Nat)]
theorem rdp_some {es : List As} {s m n : Nat} (hn : n < es.length) (h : es.getD n none ≠ es.getD (lw n s m) none) (hb : ∀ j, j < n → es.getD j none = es.getD (lw j s m) none) : rdp es s m = some n := by
  unfold rdp
  rw [List.find?_eq_some_iff_append]
  refine ⟨decide_eq_true h, List.range n, (List.range (es.length - n - 1)).map (n + 1 + ·), ?_, fun a ha => ?_⟩
  · have e : es.length = n + (1 + (es.length - n - 1)) := by omega
    conv => lhs; rw [e, List.range_add, List.range_add, List.map_append]
    simp [List.map_map]
    intro a _
    omega
  · rw [hb a (List.mem_range.mp ha)]
    simp
theorem rdp_none {es : List As} {s m : Nat} (hb : ∀ j, j < es.length → es.getD j none = es.getD (lw j s m) none) : rdp es s m = none := by
  unfold rdp
  rw [List.find?_eq_none]
  intro a ha
  rw [hb a (List.mem_range.mp ha)]
  simp
theorem rdp_iff {es : List As} {s m : Nat} : (rdp es s m).isSome = true ↔ ∃ n, n < es.length ∧ es.getD n none ≠ es.getD (lw n s m) none := by
  unfold rdp
  rw [List.find?_isSome]
  constructor
  · rintro ⟨n, h1, h2⟩
    exact ⟨n, List.mem_range.mp h1, of_decide_eq_true h2⟩
  · rintro ⟨n, h1, h2⟩
    exact ⟨n, List.mem_range.mpr h1, decide_eq_true h2⟩
def rRp : List PyData → PyData → Prop := fun ds d => ∃ (es : List As) (s m : Nat), ds = [.tuple (es.map asgD), .int s, .int m] ∧ (1 ≤ s ∧ s ≤ 256) ∧ (1 ≤ m ∧ m ≤ 256) ∧ d = rpD s m (rdp es s m)
theorem as_at {es : List As} {n : Nat} (h : n < es.length) : (es.map asgD)[n]? = some (asgD (es.getD n none)) := by
  rw [List.getElem?_map, List.getElem?_eq_getElem h, List.getD_eq_getElem?_getD, List.getElem?_eq_getElem h]
  rfl
structure Bl3 (M : Md) : Prop where
  enum : M.mg "enumerate" = none
  zip : M.mg "zip" = none
/-! ### the cells that are changed -/
def chg (st : St1) : As → List Int
  | none => []
  | some es => (es.filter fun p => decide (gt st p.1 ≠ p.2)).map (·.1)
def inC (n : Nat) : As → Prop
  | none => True
  | some es => ∀ p ∈ es, 0 ≤ p.1 ∧ p.1 < n
def rChg : List PyData → List PyData → Prop := fun ds es => ∃ (st : St1) (a : As), ds = [stD st, asgD a] ∧ inC st.length a ∧ (∀ l, a = some l → l.length ≤ 100) ∧ es = (chg st a).map .int
def gChg (st : St1) : PyData → Option PyData
  | .tuple [.int i, .int v] => if gt st i ≠ v then some (.int i) else none
  | _ => none
theorem gChg_all (st : St1) (es : List (Int × Int)) : (es.map entD).filterMap (gChg st) = ((es.filter fun p => decide (gt st p.1 ≠ p.2)).map (·.1)).map .int := by
  induction es with
  | nil => rfl
  | cons p es ih =>
    rw [List.map_cons, List.filterMap_cons, List.filter_cons]
    have e : gChg st (entD p) = if gt st p.1 ≠ p.2 then some (PyData.int p.1) else none := rfl
    rw [e]
    by_cases h : gt st p.1 ≠ p.2
    · rw [if_pos h, if_pos (decide_eq_true h), List.map_cons, List.map_cons, ← ih]
    · rw [if_neg h, if_neg (by simpa using h), ← ih]
theorem st_at {st : St1} {j : Int} (h0 : 0 ≤ j) (h1 : j < st.length) : atI (st.map PyData.int) j = some (.int (gt st j)) := by
  have hlt : j.toNat < st.length := by omega
  refine pl_at (j := j.toNat) (by omega) ?_
  rw [List.getElem?_map, List.getElem?_eq_getElem hlt]
  unfold gt
  rw [List.getD_eq_getElem?_getD, List.getElem?_eq_getElem hlt]
  rfl
end K

namespace G
open PySem PySem.Spec PyProof.Rows L2
section
variable {c : Cd} {σ : L2.St} {H : Hp} {Q : VK} {pos : Pos} {elt : Expr} {ifs : List Expr} {scope : Scope} {vs : List Nat} {α β : Type}
def outsE (g : Nat → α → Option β) (as : List α) : List β := as.zipIdx.filterMap fun p => g p.2 p.1
theorem outsE_snoc {g : Nat → α → Option β} {as : List α} {i : Nat} {a : α} (h : as[i]? = some a) : outsE g (as.take i) ++ (g i a).toList = outsE g (as.take (i + 1)) := by
  obtain ⟨h1, rfl⟩ := List.getElem?_eq_some_iff.mp h
  unfold outsE
  rw [List.take_succ_eq_append_getElem h1, List.zipIdx_append, List.filterMap_append]
  congr 1
  simp [Nat.min_eq_left (Nat.le_of_lt h1)]
  cases e : g i as[i] <;> simp [List.filterMap_cons, e]
/-- [.. for k, x in enumerate(tuple) if ..] -/
theorem lcE_R {R : Hp → V → α → Prop} {S : Hp → V → β → Prop} (kR : Keeps R) (kS : Keeps S) (g : Nat → α → Option β) {e : Expr} {p ppos tpos : Pos} {elts : List Expr} {kk : Nat} (hm : c.mg "enumerate" = none)
    (q : RE c e σ H fun x H1 => ∃ b ys as, x = .ref b ∧ SqT c.K H1 b ys ∧ RAll R H1 ys as ∧ as.length ≤ 1000 ∧ (∀ i a T v H', as[i]? = some a → Same H1 H' → H' T = some (.tup [.int (i : Nat), v]) → R H' v a → TurnR (blkCd c scope) (.Tuple elts kk tpos) ifs elt vs σ S (.ref T) H' (g i a)) ∧
      ∀ p us H2, Same H1 H2 → H1 p = none → H2 p = some (.lst us) → RAll S H2 us (outsE g as) → Q (.ref p) H2)
    (hg : c.sc.names.lookup ("enumerate" : Str) = some .globalImplicit := by rfl) (hs : ∀ env, starEach [e] env = [(false, eval e env)] := by intro _; rfl) :
    tLc (RI c (.Tuple elts kk tpos) (.Call (.Name "enumerate" p) [e] [] ppos)) (RG (blkCd c scope) (.Tuple elts kk tpos)) (RTs (blkCd c scope) ifs) (RE (blkCd c scope) elt) vs σ H Q := by
  refine i_enumT hm (RE.mono (fun x H1 z => ?_) q) hg hs
  obtain ⟨b, ys, as, rfl, ht, hd, few, tn, k⟩ := z
  have hl := hd.len
  refine ⟨b, ys, rfl, ht, fun D hD => ⟨fun i m H' => m = as.length - i ∧ i ≤ as.length ∧ ∃ acc, acc.length ≤ i ∧ H' D = some (.lst acc) ∧ Same H1 H' ∧ RAll S H' acc (outsE g (as.take i)), ⟨_, rfl, Nat.zero_le _, [], Nat.le_refl _, upd_same, same_new hD, .nil⟩, ?_⟩⟩
  rintro i m H' ⟨rfl, hi, acc, la, hA, s, hr⟩
  by_cases more : i < as.length
  · refine .inr ⟨⟨ys, (tp_same s).sqt ht, rfl, by omega⟩, fun H' => ∃ acc, acc.length ≤ i + 1 ∧ H' D = some (.lst acc) ∧ Same H1 H' ∧ RAll S H' acc (outsE g (as.take (i + 1))), fun H' z => ⟨as.length - (i + 1), by omega, rfl, more, z⟩, fun x H2 got => ?_⟩
    obtain ⟨T, y, rfl, hT, rfl, hyy⟩ := got
    obtain ⟨v, hv, dv⟩ := hd.get (List.getElem?_eq_getElem more)
    have := hyy ys ((tp_same s).sqt ht)
    rw [hv] at this
    cases this
    have sn := same_new (o := .tup [.int (i : Nat), y]) hT
    have ea := List.getElem?_eq_getElem more
    have TT := TurnR.one kS hD (s.trans sn) (sn _ _ hA) (hr.mono kS (tp_same sn)) (tn i _ T y _ ea (s.trans sn) upd_same (kR.k (tp_same (s.trans sn)) dv))
    refine RG.mono (fun σ2 H2 z => ⟨z.1, RTs.mono (fun b H3 z => ?_) z.2⟩) TT
    cases b with
    | true => exact RE.mono (fun y H4 z => ⟨acc, z.1, Nat.lt_of_le_of_lt la (Nat.lt_of_lt_of_le more (Nat.le_trans few (by decide))), acc ++ [y], by rw [List.length_append, List.length_singleton]; omega, z.2.1, z.2.2.1, by rw [← outsE_snoc ea]; exact z.2.2.2⟩) z
    | false => exact ⟨acc, by omega, z.1, z.2.1, by rw [← outsE_snoc ea]; exact z.2.2⟩
  · obtain rfl : i = as.length := by omega
    rw [List.take_length] at hr
    exact .inl ⟨⟨ys, (tp_same s).sqt ht, rfl, by omega⟩, k D acc H' s hD hA hr⟩
end
end G
namespace K
open PySem PySem.Spec PyProof.Rows L2 G
variable {M : Md}
def ents (rs : List Row) (r : Rl) : List As := (statesOf (rg rs)).map fun st => asg rs st r
structure PgOk (rs : List Row) (rl : List Rl) (nm : Str) (r : Rl) : Prop where
  all : RowsAll rs
  fnd : findR rl nm = some r
  fit : FitR rs r
theorem sts_len {rs : List Row} (A : RowsAll rs) : (statesOf (rg rs)).length ≤ 256 := by rw [states_len]; exact A.sm.many
theorem ents_len {rs : List Row} (A : RowsAll rs) (r : Rl) : (ents rs r).length ≤ 256 := by unfold ents; rw [List.length_map]; exact sts_len A
def rEnts : List PyData → PyData → Prop := fun ds d => ∃ (rs : List Row) (rl : List Rl) (more : List PyData) (nm : Str) (r : Rl), ds = [progD rs rl more, .str nm] ∧ PgOk rs rl nm r ∧ d = .tuple ((ents rs r).map asgD)
abbrev dcNamed (M : Md) : Prop := Dc M "rule_named" ["program", "name"] 1 (spF rNamed M.K)
abbrev dcSl (M : Md) : Prop := Dc M "state_list" ["program"] 3 (spLR TI rSlist M.K)
theorem fm_some {α β : Type} (g : α → β) (l : List α) : l.filterMap (fun a => some (g a)) = l.map g := by
  induction l with
  | nil => rfl
  | cons a l ih => rw [List.filterMap_cons, List.map_cons, ← ih]
def gRd (es : List As) : Nat → Nat × Nat → Option Int := fun i q => if (rdp es q.1 q.2).isSome = true then some (i : Int) else none
def rds (rs : List Row) (r : Rl) : List Int := outsE (gRd (ents rs r)) (stp (rg rs))
def iR : Hp → V → Int → Prop := fun _ v i => v = .int i
theorem kiR : Keeps iR := ⟨fun _ h => h⟩
theorem iR_ints {H : Hp} {vs : List V} {is : List Int} (h : RAll iR H vs is) : vs = is.map V.int := by
  induction h with
  | nil => rfl
  | cons h _ ih => rw [show _ = V.int _ from h, ih]; rfl
def qR (K : PySem.W.Frag) : Hp → V → Nat × Nat → Prop := fun H v q => Dt K H v (stD2 q)
theorem kqR {K : PySem.W.Frag} : Keeps (qR K) := ⟨fun t h => Dt.mono t h⟩
theorem RAll.ofD {α : Type} {K : PySem.W.Frag} {H : Hp} {g : α → PyData} : ∀ {as : List α} {vs : List V}, DtAll K H vs (as.map g) → RAll (fun H v a => Dt K H v (g a)) H vs as
  | [], _, h => by cases h; exact .nil
  | a :: as, _, h => by
    cases h with
    | cons h1 h2 => exact .cons h1 (RAll.ofD h2)
def intsD (is : List Int) : PyData := .tuple (is.map .int)
theorem stp_in : ∀ {ps : List Rng}, (∀ p ∈ ps, 1 ≤ span p) → ∀ q ∈ stp ps, (1 ≤ q.1 ∧ q.1 ≤ many ps) ∧ (1 ≤ q.2 ∧ q.2 ≤ many ps)
  | [], _, q, hq => nomatch hq
  | p :: ps, h, q, hq => by
    have hp := h p (List.mem_cons_self ..)
    have ht := fun x hx => h x (List.mem_cons_of_mem p hx)
    obtain ⟨_, m2⟩ := many_drop (ps := ps) ht 0
    rw [List.drop_zero] at m2
    rw [many_cons]
    have a1 := Nat.le_mul_of_pos_right (many ps) hp
    have a2 := Nat.le_mul_of_pos_left (span p) m2
    rcases List.mem_cons.mp hq with rfl | hq
    · exact ⟨⟨m2, a1⟩, ⟨hp, a2⟩⟩
    · obtain ⟨⟨b1, b2⟩, b3, b4⟩ := stp_in ht q hq
      exact ⟨⟨b1, Nat.le_trans b2 a1⟩, ⟨b3, Nat.le_trans b4 a1⟩⟩
def rReads : List PyData → PyData → Prop := fun ds d => ∃ (rs : List Row) (rl : List Rl) (more : List PyData) (nm : Str) (r : Rl), ds = [progD rs rl more, .str nm] ∧ PgOk rs rl nm r ∧ d = intsD (rds rs r)
end K

namespace G
open PySem PySem.Spec PyProof.Rows L2
/-! ### set(xs) of a list of ints, and sorted of it -/
section
variable {P : Program} {w : World} {A : Around} {E : Value → Shared → Prop} {s : Shared}
/-- the set before anything is put in -/
abbrev freshSet (w : World) : Obj := { cls := .type "set", dict := none, data := .set #[] 0 (.fresh 0 0 (!w.params.followText "set-order")) }
set_option maxRecDepth 100000 in
set_option maxHeartbeats 3200000 in
theorem call_setL {l : Addr} {items : Array Value} (ns : List Int) {Q : Value → Shared → Prop} (none_ : A.handled = none) (isL : s.heap.IsList l items) (its : IntsAre items.toList ns) (few : ns.length + 1 < scanBound)
    (go : ∀ (h2 : Heap) (tk c : Nat), SetR w h2 s.heap.objs.size (fun j => decide (j ∈ ns)) c → c ≤ ns.length → (∀ b o, s.heap.get? b = some o → h2.get? b = some o) → Q (.ref s.heap.objs.size) { s with heap := h2, toks := tk }) : wpAny (model P w) A (call (.type "set") [.ref l]) Q E s := by
  have size : items.size = ns.length := by
    have z := IntsAre.length its
    rwa [Array.length_toList] at z
  obtain ⟨c0, tl0, mro0⟩ := F.called_set.mro
  have made0 := F.called_set.made
  have sub0 := F.called_set.sub
  refine wpAny_call (codeAny_of_tree ?_)
  show wpAny _ _ (callAny (.type "set") _) _ _ _
  refine wpAny_pure ⟨Code.quiet_builtin _ (by decide +kernel), codeAny_builtin F.entry_type_call ?_⟩
  rw [Around.under_plain (weight_type_call_type "set" [.ref l] []) rfl]
  have n1 := F.called_set.notType
  have n2 := F.called_set.canCreate
  have n3 := F.typeCall_set_1 (.ref l)
  repeat (any_goals (first | assumption | wp_step))
  refine codeAny_mono (code_set_led1 (.ref l) (E := E) (Q₁ := fun ob t1 => ob = .ref s.heap.objs.size ∧ t1 = { s with heap := s.heap.push (freshSet w) }) ⟨rfl, rfl⟩) fun r t1 got => ?_
  match r, got with
  | .ok (.ret ob), got =>
    obtain ⟨rfl, rfl⟩ := got
    have here : (s.heap.push (freshSet w)).get? s.heap.objs.size = some (freshSet w) := Heap.get?_push_size _ rfl
    have kind : Shared.TypeIs { s with heap := s.heap.push (freshSet w) } (.ref s.heap.objs.size) "set" := ⟨_, here, rfl⟩
    have i1 := F.called_set.init.lookup
    have i2 := F.called_set.init.bind (.ref s.heap.objs.size)
    repeat (any_goals (first | assumption | wp_step))
    refine codeAny_mono (codeAny_call_builtin (R := wants (fun r t2 => r = .none ∧ ∃ h2 tk c, t2 = { s with heap := h2, toks := tk } ∧ SetR w h2 s.heap.objs.size (fun j => decide (j ∈ ns)) c ∧ c ≤ ns.length ∧ ∀ b o, s.heap.get? b = some o → h2.get? b = some o) E)
      F.called_set.init.plain F.entry_set_init (check_set_init_1 kind ?_)) fun r2 t2 got2 => ?_
    · obtain ⟨⟨oc, od, odat, osl⟩, at_, cl, nl, dl⟩ := isL
      obtain rfl : oc = .type "list" := cl
      obtain rfl : odat = .seq items nl := dl
      have at2 : (s.heap.push (freshSet w)).get? l = some ⟨.type "list", od, .seq items nl, osl⟩ := Heap.get?_push_of_some _ at_
      have u1 := F.sub_list_set
      have u2 := F.sub_list_frozenset
      have u3 : (Value.type "list" == Value.type "dict") = false := by decide
      have lst : (s.heap.push (freshSet w)).IsList l items := ⟨_, at2, rfl, nl, rfl⟩
      unfold Builtin.«set.__init__» noKeywords Builtin.Frozenset.updateFrom
      generalize ePI : pyIter = PI
      wp_walk
      subst ePI
      refine wpAny_pyIter_list lst ?_
      refine wpAny_bind (wpAny_runValue ?_)
      have lt0 : l < s.heap.objs.size := Heap.lt_size at_
      have none3 : A.in1.in1.in1.handled = none := by simp [none_]
      have apart : l ≠ (s.heap.push (freshSet w)).objs.size := by rw [Heap.size_push]; exact Nat.ne_of_lt (Nat.lt_succ_of_lt lt0)
      have outside : s.heap.objs.size ∉ [(s.heap.push (freshSet w)).objs.size, l] := by
        rw [Heap.size_push]
        simp only [List.mem_cons, List.mem_singleton, List.not_mem_nil, or_false, not_or]
        exact ⟨Nat.ne_of_lt (Nat.lt_succ_self _), Nat.ne_of_gt lt0⟩
      have each : ∀ (i : Nat) (v : Value), items[i]? = some v → ∃ k t, ns[i]? = some k ∧ v = .int k t := by
        intro i v hv
        have lt : i < ns.length := by rw [← size]; exact (Array.getElem?_eq_some_iff.mp hv).1
        obtain ⟨t, e⟩ := PyProof.Rows.IntsAre.int_at its i v (by rw [Array.getElem?_toList]; exact hv)
        refine ⟨ns[i], t, List.getElem?_eq_getElem lt, ?_⟩
        rw [e, List.getD_eq_getElem?_getD, List.getElem?_eq_getElem lt] <;> rfl
      have first_ : ((s.heap.push (freshSet w)).push { cls := .type "list_iterator", data := .fields #[.ref l, .int 0 0] }).get? s.heap.objs.size = some (freshSet w) := Heap.get?_push_of_some _ here
      refine set_update_ints ((Walks.list none3 _ l apart items).toS) s.heap.objs.size outside ns size few each (items.size - 0) 0 _ (by omega) (Nat.zero_le _) ⟨⟨_, Heap.get?_push_size _ rfl, rfl, rfl⟩, lst.push _⟩ ⟨0, Nat.le_refl 0, setR_new_at first_⟩ ?_
      intro s2 c2 moved le2 set2
      obtain ⟨h2, g2, d2, tk2, os2⟩ := s2
      obtain rfl : g2 = s.gens := moved.gens
      obtain rfl : d2 = s.drawn := moved.drawn
      obtain rfl : os2 = s.os := moved.os
      show wpAny _ _ _ _ _ _
      refine wpAny_pure ?_
      show wpAny _ _ (ret Value.none) _ _ _
      rw [size] at le2
      refine wpAny_pure ⟨rfl, h2, tk2, c2, rfl, set2, le2, fun b o e => ?_⟩
      have ltb : b < s.heap.objs.size := Heap.lt_size e
      have far : b ≠ (s.heap.push (freshSet w)).objs.size := by rw [Heap.size_push]; exact Nat.ne_of_lt (Nat.lt_succ_of_lt ltb)
      exact moved.heap b o (by simp only [List.mem_cons, List.mem_singleton, List.not_mem_nil, or_false, not_or]; exact ⟨Nat.ne_of_lt ltb, far⟩) (Heap.get?_push_of_some _ (Heap.get?_push_of_some _ e))
    · match r2, got2 with
      | .ok (.ret r3), got2 =>
        obtain ⟨rfl, h2, tk, c2, rfl, a1, a2, a3⟩ := got2
        repeat (any_goals (first | assumption | wp_step))
        exact go _ _ _ a1 a2 a3
      | .error e, got2 => exact got2
  | .error e, got => exact got
end
def rSetL (K : PySem.W.Frag) (w : World) : List V → Hp → VK → Prop := fun vs H Q => ∃ (l : Addr) (ns : List Int), vs = [.ref l] ∧ SqL K H l (ns.map V.int) ∧ ns.length ≤ 4000 ∧ ∀ (p : Addr) (n : Nat), H p = none → n ≤ ns.length → Q (.ref p) (upd H p (SetO w p (fun j => decide (j ∈ ns)) n))
theorem cr_setL {X : Cx} (calm : X.calm = true) : CallR X (.type "set") (rSetL X.K X.w) := by
  rintro pins s σ H vs us Q J rv ⟨l, ns, rfl, hl, few, k⟩
  obtain ⟨u, rfl, ru⟩ := vals1 rv
  cases ru
  obtain ⟨ws, rw0, pl, _⟩ := J.list hl
  refine call_setL ns (J.ok.hd calm) pl.isList (by simpa using RZ.intsAre_vals rw0) (by unfold scanBound; omega) fun h2 tk c a1 a2 a3 => ?_
  exact ⟨.ref s.heap.objs.size, _, J.laid (t' := tk) a3 (Nat.le_refl _) (setO_new a1), rfl, k _ c (J.hok.fresh (Nat.le_refl _)) a2⟩
section
variable {c : Cd} {H : Hp} {Q : VK}
theorem rc_setL {l : Addr} {ns : List Int} (hl : SqL c.K H l (ns.map V.int)) (few : ns.length ≤ 4000) (q : ∀ p n, H p = none → Q (.ref p) (upd H p (SetO c.w p (fun j => decide (j ∈ ns)) n))) : RC c (.type "set") [.ref l] H Q :=
  rc_of (r := rSetL c.K c.w) (fun X h => by rw [← h.K, ← h.w]; exact cr_setL h.calm) ⟨l, ns, rfl, hl, few, fun p n hp _ => q p n hp⟩
end
end G

namespace G
open PySem PySem.Spec PyProof.Rows L2
def rSetD (K : PySem.W.Frag) (w : World) : List V → Hp → VK → Prop := fun vs H Q => ∃ (l : Addr) (ns : List Int), vs = [.ref l] ∧ SqL K H l (ns.map V.int) ∧ ns.length ≤ 4000 ∧ ∀ (p : Addr) (ks : List Int), H p = none → ks.Nodup → (∀ k, k ∈ ks ↔ k ∈ ns) → Q (.ref p) (upd H p (SetO w p (fun j => decide (j ∈ ns)) ks.length))
theorem cr_setD {X : Cx} (calm : X.calm = true) : CallR X (.type "set") (rSetD X.K X.w) := by
  rintro pins s σ H vs us Q J rv ⟨l, ns, rfl, hl, few, k⟩
  obtain ⟨u, rfl, ru⟩ := vals1 rv
  cases ru
  obtain ⟨ws, rw0, pl, _⟩ := J.list hl
  refine call_setL ns (J.ok.hd calm) pl.isList (by simpa using RZ.intsAre_vals rw0) (by unfold scanBound; omega) fun h2 tk c a1 a2 a3 => ?_
  obtain ⟨o, es, ep, t, ho, _, _, _, nd, mem, _, _, hn, _⟩ := id a1
  have e : (es.toList.map keyOf).length = c := by rw [List.length_map, Array.length_toList]; exact hn
  have q := k s.heap.objs.size (es.toList.map keyOf) (J.hok.fresh (Nat.le_refl _)) nd fun j => by rw [← mem j]; simp
  rw [e] at q
  exact ⟨.ref s.heap.objs.size, _, J.laid (t' := tk) a3 (Nat.le_refl _) (setO_new a1), rfl, q⟩
/-- sorted(set(xs)) of a list of ints with few values -/
theorem rc_sortedSet {c : Cd} {H : Hp} {Q : VK} {a : Addr} {S : Int → Bool} {n : Nat} (ha : H a = some (SetO c.w a S n)) (few : n < 64) (q : ∀ (ns : List Int) p, ns.Pairwise (· < ·) → (∀ k : Int, k ∈ ns ↔ S k = true) → H p = none → Q (.ref p) (upd H p (.lst (ns.map V.int)))) : RC c (.builtin "sorted") [.ref a] H Q :=
  rc_of (r := rSortedSet c.w) (fun X h => by rw [← h.w]; exact cr_sortedSet h.calm) ⟨a, S, n, rfl, ha, few, fun ns p h1 h2 _ h4 => q ns p h1 h2 h4⟩
theorem rc_setD {c : Cd} {H : Hp} {Q : VK} {l : Addr} {ns : List Int} (hl : SqL c.K H l (ns.map V.int)) (few : ns.length ≤ 4000) (q : ∀ p (ks : List Int), H p = none → ks.Nodup → (∀ k, k ∈ ks ↔ k ∈ ns) → Q (.ref p) (upd H p (SetO c.w p (fun j => decide (j ∈ ns)) ks.length))) : RC c (.type "set") [.ref l] H Q :=
  rc_of (r := rSetD c.K c.w) (fun X h => by rw [← h.K, ← h.w]; exact cr_setD h.calm) ⟨l, ns, rfl, hl, few, q⟩
end G
namespace K
open PySem PySem.Spec PyProof.Rows L2 G
variable {M : Md}
theorem srt_uniq : ∀ {a b : List Int}, a.Pairwise (· < ·) → b.Pairwise (· < ·) → (∀ k, k ∈ a ↔ k ∈ b) → a = b
  | [], [], _, _, _ => rfl
  | [], y :: b, _, _, h => by have := (h y).mpr (List.mem_cons_self ..); cases this
  | x :: a, [], _, _, h => by have := (h x).mp (List.mem_cons_self ..); cases this
  | x :: a, y :: b, ha, hb, h => by
    obtain ⟨ha1, ha2⟩ := List.pairwise_cons.mp ha
    obtain ⟨hb1, hb2⟩ := List.pairwise_cons.mp hb
    have exy : x = y := by
      rcases List.mem_cons.mp ((h x).mp (List.mem_cons_self ..)) with e | e
      · exact e
      · rcases List.mem_cons.mp ((h y).mpr (List.mem_cons_self ..)) with e2 | e2
        · exact e2.symm
        · have := hb1 x e; have := ha1 y e2; omega
    subst exy
    congr 1
    refine srt_uniq ha2 hb2 fun k => ⟨fun hk => ?_, fun hk => ?_⟩
    · rcases List.mem_cons.mp ((h k).mp (List.mem_cons_of_mem _ hk)) with e | e
      · have := ha1 k hk; omega
      · exact e
    · rcases List.mem_cons.mp ((h k).mpr (List.mem_cons_of_mem _ hk)) with e | e
      · have := hb1 k hk; omega
      · exact e
/-- the ascending list of the numbers below n of which p is true -/
def upto (n : Nat) (p : Int → Bool) : List Int := ((List.range n).map fun i : Nat => (i : Int)).filter p
theorem upto_pw (n : Nat) (p : Int → Bool) : (upto n p).Pairwise (· < ·) := by
  refine List.Pairwise.sublist List.filter_sublist ?_
  rw [List.pairwise_map]
  exact List.pairwise_lt_range.imp fun h => by omega
theorem upto_mem {n : Nat} {p : Int → Bool} {k : Int} : k ∈ upto n p ↔ (0 ≤ k ∧ k < n) ∧ p k = true := by
  unfold upto
  rw [List.mem_filter, List.mem_map]
  constructor
  · rintro ⟨⟨i, hi, rfl⟩, h⟩
    have := List.mem_range.mp hi
    exact ⟨by omega, h⟩
  · rintro ⟨⟨h0, h1⟩, h⟩
    exact ⟨⟨k.toNat, List.mem_range.mpr (by omega), by omega⟩, h⟩
def cgs (rs : List Row) (r : Rl) : List Int := upto (total rs) fun c => (statesOf (rg rs)).any fun st => decide (c ∈ chg st (asg rs st r))
theorem asg_inC {rs : List Row} {st : St1} (S : StOk rs st) (r : Rl) (F : FitR rs r) : inC st.length (asg rs st r) ∧ ∀ l, asg rs st r = some l → l.length ≤ 100 := by
  cases e : asg rs st r with
  | none => exact ⟨trivial, fun l h => by cases h⟩
  | some es =>
    obtain ⟨h1, h2, _⟩ := asg_in e
    refine ⟨fun p hp => ?_, fun l h => ?_⟩
    · rw [S.len]; exact (h1 p hp).1
    · cases h
      have := F.len
      omega
theorem chg_in {st : St1} {a : As} {n : Nat} (h : inC n a) : ∀ c ∈ chg st a, 0 ≤ c ∧ c < n := by
  cases a with
  | none => intro c hc; cases hc
  | some es =>
    intro c hc
    obtain ⟨p, hp, rfl⟩ := List.mem_map.mp hc
    exact h p (List.mem_filter.mp hp).1
theorem chg_len {rs : List Row} {st : St1} {r : Rl} (F : FitR rs r) : (chg st (asg rs st r)).length ≤ 10 := by
  cases e : asg rs st r with
  | none => exact Nat.zero_le _
  | some es =>
    obtain ⟨_, h2, _⟩ := asg_in e
    have := F.len
    unfold chg
    rw [List.length_map]
    exact Nat.le_trans (List.length_filter_le _ _) (by omega)
def asR (K : PySem.W.Frag) : Hp → V → As → Prop := fun H v a => Dt K H v (asgD a)
theorem kasR {K : PySem.W.Frag} : Keeps (asR K) := ⟨fun t h => Dt.mono t h⟩
def chgAll (rs : List Row) (r : Rl) (sts : List St1) : List Int := sts.flatMap fun st => chg st (asg rs st r)
theorem chgAll_len {rs : List Row} {r : Rl} (F : FitR rs r) : ∀ sts : List St1, (chgAll rs r sts).length ≤ 10 * sts.length
  | [] => Nat.le_refl _
  | st :: sts => by
    have h1 := chg_len (st := st) F
    have h2 := chgAll_len F sts
    unfold chgAll at h2 ⊢
    rw [List.flatMap_cons, List.length_append, List.length_cons]
    omega
theorem few_of {n : Nat} {ks : List Int} (nd : ks.Nodup) (h : ∀ k ∈ ks, 0 ≤ k ∧ k < n) : ks.length ≤ n := by
  have h2 := nat_nodup_len (ks.map Int.toNat) (List.range n) (by
    have : ∀ {l : List Int}, l.Nodup → (∀ k ∈ l, 0 ≤ k) → (l.map Int.toNat).Nodup := by
      intro l
      induction l with
      | nil => intro _ _; exact List.nodup_nil
      | cons x l ih =>
        intro hn hp
        obtain ⟨a, b⟩ := List.nodup_cons.mp hn
        rw [List.map_cons, List.nodup_cons]
        refine ⟨fun hm => ?_, ih b fun k hk => hp k (List.mem_cons_of_mem _ hk)⟩
        obtain ⟨y, hy, e⟩ := List.mem_map.mp hm
        have h1 := hp x (List.mem_cons_self ..)
        have h2 := hp y (List.mem_cons_of_mem _ hy)
        have : y = x := by omega
        exact a (this ▸ hy)
    exact this nd fun k hk => (h k hk).1) fun x hx => by
      obtain ⟨k, hk, rfl⟩ := List.mem_map.mp hx
      have := h k hk
      exact List.mem_range.mpr (by omega)
  rw [List.length_map, List.length_range] at h2
  exact h2
def rChanges : List PyData → PyData → Prop := fun ds d => ∃ (rs : List Row) (rl : List Rl) (more : List PyData) (nm : Str) (r : Rl), ds = [progD rs rl more, .str nm] ∧ PgOk rs rl nm r ∧ d = intsD (cgs rs r)
end K

namespace K
open PySem PySem.Spec PyProof.Rows L2 G
variable {M : Md}
/-! ### the states as keys, their numbers -/
def numF : List St1 → Nat → List (List Key × V)
  | [], _ => []
  | s :: ss, n => (keyI s, .int n) :: numF ss (n + 1)
theorem numF_app : ∀ (a b : List St1) (n : Nat), numF (a ++ b) n = numF a n ++ numF b (n + a.length)
  | [], b, n => by simp [numF]
  | s :: a, b, n => by
    rw [List.cons_append, numF, numF, numF_app a b (n + 1), List.length_cons, List.cons_append]
    congr 3
    omega
theorem numF_len : ∀ (a : List St1) (n : Nat), (numF a n).length = a.length
  | [], _ => rfl
  | _ :: a, n => congrArg Nat.succ (numF_len a (n + 1))
theorem numF_none : ∀ {a : List St1} {n : Nat} {o : St1}, o ∉ a → valV (numF a n) (keyI o) = none
  | [], _, _, _ => valV_nil
  | s :: a, n, o, h => by
    rw [numF, valV_neg fun e => h (by rw [keyI_inj e]; exact List.mem_cons_self ..)]
    exact numF_none fun z => h (List.mem_cons_of_mem _ z)
theorem numF_val : ∀ {a : List St1} {n : Nat} {o : St1}, o ∈ a → valV (numF a n) (keyI o) = some (.int ((n + a.idxOf o : Nat) : Int))
  | s :: a, n, o, h => by
    rw [numF, List.idxOf_cons]
    by_cases e : s = o
    · subst e
      rw [valV_pos rfl]
      simp
    · rw [valV_neg fun z => e (keyI_inj z)]
      rcases List.mem_cons.mp h with rfl | h
      · exact absurd rfl e
      · rw [numF_val h]
        have : (s == o) = false := by simpa using e
        rw [this]
        simp only [cond_false]
        congr 3
        omega
theorem numF_put {a : List St1} {o : St1} (h : o ∉ a) : putK (numF a 0) (keyI o) (.int (a.length : Nat)) = numF (a ++ [o]) 0 := by
  rw [putK_new _ (numF_none h), numF_app]
  simp [numF]
/-- the states -/
theorem widen_nd {acc : List St1} (h : acc.Nodup) (p : Rng) : (widen acc p).Nodup := by
  unfold widen List.Nodup
  rw [List.pairwise_flatMap]
  refine ⟨fun o _ => ?_, h.imp fun {o o'} hne x hx y hy e => ?_⟩
  · rw [List.pairwise_map]
    refine List.pairwise_lt_range.imp fun {a b} hlt e => ?_
    have := List.append_cancel_left e
    have := (List.cons.inj this).1
    omega
  · obtain ⟨a, _, rfl⟩ := List.mem_map.mp hx
    obtain ⟨b, _, rfl⟩ := List.mem_map.mp hy
    exact hne (List.append_inj_left' e rfl)
theorem sts_nd (ps : List Rng) : (statesOf ps).Nodup := by
  have : ∀ (ps : List Rng) (acc : List St1), acc.Nodup → (ps.foldl widen acc).Nodup := by
    intro ps
    induction ps with
    | nil => intro acc h; exact h
    | cons p ps ih => intro acc h; exact ih _ (widen_nd h p)
  exact this ps [[]] (by simp)
def InR : List Rng → List Int → Prop
  | [], [] => True
  | p :: ps, v :: t => (p.1 ≤ v ∧ v ≤ p.2) ∧ InR ps t
  | _, _ => False
theorem inR_mem : ∀ (ps : List Rng) (acc : List St1) (o t : List Int), o ∈ acc → InR ps t → o ++ t ∈ ps.foldl widen acc
  | [], acc, o, [], h, _ => by rw [List.append_nil]; exact h
  | p :: ps, acc, o, v :: t, h, hr => by
    obtain ⟨hv, hr⟩ := hr
    rw [show o ++ v :: t = (o ++ [v]) ++ t by simp]
    refine inR_mem ps (widen acc p) (o ++ [v]) t ?_ hr
    refine List.mem_flatMap.mpr ⟨o, h, List.mem_map.mpr ⟨(v - p.1).toNat, List.mem_range.mpr (by unfold span; omega), ?_⟩⟩
    have : p.1 + ((v - p.1).toNat : Int) = v := by omega
    rw [this]
  | [], acc, o, _ :: _, _, hr => hr.elim
  | _ :: _, acc, o, [], _, hr => hr.elim
theorem inR_of : ∀ (ps : List Rng) (o : St1), o.length = ps.length → (∀ (i : Nat) (r : Rng), ps[i]? = some r → r.1 ≤ gt o i ∧ gt o i ≤ r.2) → InR ps o
  | [], [], _, _ => trivial
  | p :: ps, v :: o, h, hr => by
    refine ⟨hr 0 p rfl, inR_of ps o (Nat.succ.inj h) fun i r hi => ?_⟩
    have := hr (i + 1) r (by simpa using hi)
    unfold gt at this ⊢
    rw [Int.toNat_natCast] at this ⊢
    simpa using this
  | [], _ :: _, h, _ => by cases h
  | _ :: _, [], h, _ => by cases h
theorem stok_mem {rs : List Row} {st : St1} (h : st.length = total rs) (hr : ∀ (i : Nat) (r : Rng), (rg rs)[i]? = some r → r.1 ≤ gt st i ∧ gt st i ≤ r.2) : st ∈ statesOf (rg rs) := by
  have := inR_mem (rg rs) [[]] [] st (List.mem_singleton.mpr rfl) (inR_of _ _ (by rw [h, rg_len]) hr)
  exact this
theorem gt_set {st : St1} {j i : Nat} {v : Int} : gt (st.set j v) (i : Int) = if j = i ∧ i < st.length then v else gt st i := by
  unfold gt
  rw [Int.toNat_natCast, List.getD_eq_getElem?_getD, List.getD_eq_getElem?_getD, List.getElem?_set]
  by_cases h : j = i
  · subst h
    by_cases h2 : j < st.length
    · rw [if_pos rfl, if_pos h2, if_pos ⟨rfl, h2⟩]; rfl
    · rw [if_pos rfl, if_neg h2, if_neg fun z => h2 z.2, List.getElem?_eq_none (by omega)]
  · rw [if_neg h, if_neg fun z => h z.1]
theorem fold_rng {rs : List Row} : ∀ (es : List (Int × Int)) (st : St1), (∀ p ∈ es, (0 ≤ p.1 ∧ p.1 < total rs) ∧ inR rs p = true) → (∀ (i : Nat) (r : Rng), (rg rs)[i]? = some r → r.1 ≤ gt st i ∧ gt st i ≤ r.2) → ∀ (i : Nat) (r : Rng), (rg rs)[i]? = some r → r.1 ≤ gt (es.foldl setAt st) i ∧ gt (es.foldl setAt st) i ≤ r.2
  | [], st, _, h => h
  | p :: es, st, hp, h => by
    refine fold_rng es (setAt st p) (fun q hq => hp q (List.mem_cons_of_mem _ hq)) fun i r hi => ?_
    obtain ⟨⟨h0, h1⟩, hr⟩ := hp p (List.mem_cons_self ..)
    unfold setAt
    rw [gt_set]
    by_cases e : p.1.toNat = i ∧ i < st.length
    · rw [if_pos e]
      unfold inR at hr
      rw [e.1, hi] at hr
      simpa using hr
    · rw [if_neg e]
      exact h i r hi
theorem beh_mem {rs : List Row} {st : St1} (S : StOk rs st) (r : Rl) : beh rs st r ∈ statesOf (rg rs) := by
  unfold beh
  cases e : asg rs st r with
  | none => exact stok_mem S.len S.rng
  | some es =>
    obtain ⟨hin, _⟩ := asg_in e
    exact stok_mem (by show (es.foldl setAt st).length = _; rw [setAt_len, S.len]) (fold_rng es st hin S.rng)
def num (rs : List Row) (st : St1) : Int := (((statesOf (rg rs)).idxOf st : Nat) : Int)
def mvs (rs : List Row) (r : Rl) : List Int := (statesOf (rg rs)).map fun st => num rs (beh rs st r)
end K
namespace G
open PySem PySem.Spec PyProof.Rows L2
/-- {st: k for k, st in enumerate(list)} -/
theorem dcT_enum {c : Cd} {σ : L2.St} {H : Hp} {Q : VK} {kx vx e : Expr} {p ppos tpos : Pos} {elts : List Expr} {kk : Nat} {scope : Scope} {vs : List Nat} (hm : c.mg "enumerate" = none)
    (q : RE c e σ H fun x H1 => ∃ b us sts, x = .ref b ∧ SqL c.K H1 b us ∧ RAll K.TI H1 us sts ∧ sts.length ≤ 1000 ∧ sts.Nodup ∧ (∀ i st T v H', sts[i]? = some st → Same H1 H' → H' T = some (.tup [.int (i : Nat), v]) → K.TI H' v st → RG (blkCd c scope) (.Tuple elts kk tpos) (.ref T) (wipe σ vs) H' fun σ2 H2 => H2 = H' ∧ wipe σ2 vs = wipe σ vs ∧
        RE (blkCd c scope) kx σ2 H2 fun y H3 => y = v ∧ H3 = H2 ∧ RE (blkCd c scope) vx σ2 H3 fun z H4 => z = .int (i : Nat) ∧ H4 = H2) ∧ ∀ D H2, Same H1 H2 → H1 D = none → H2 D = some (.dT (K.numF sts 0)) → Q (.ref D) H2)
    (hg : c.sc.names.lookup ("enumerate" : Str) = some .globalImplicit := by rfl) (hs : ∀ env, starEach [e] env = [(false, eval e env)] := by intro _; rfl) :
    tDcT (RI c (.Tuple elts kk tpos) (.Call (.Name "enumerate" p) [e] [] ppos)) (RG (blkCd c scope) (.Tuple elts kk tpos)) (RTs (blkCd c scope) []) (RE (blkCd c scope) kx) (RE (blkCd c scope) vx) vs σ H Q := by
  refine i_enumL hm (RE.mono (fun x H1 z => ?_) q) hg hs
  obtain ⟨b, us, sts, rfl, ht, hd, few, nd, tn, k⟩ := z
  have hl := hd.len
  refine ⟨b, us, rfl, ht, fun D hD => ⟨fun i m H' => m = sts.length - i ∧ i ≤ sts.length ∧ H' D = some (.dT (K.numF (sts.take i) 0)) ∧ Same H1 H', ⟨_, rfl, Nat.zero_le _, upd_same, same_new hD⟩, ?_⟩⟩
  rintro i m H' ⟨rfl, hi, hA, s⟩
  by_cases more : i < sts.length
  · refine .inr ⟨⟨us, us[i], s.seq ht, List.getElem?_eq_getElem (by omega)⟩, fun H' => H' D = some (.dT (K.numF (sts.take (i + 1)) 0)) ∧ Same H1 H', fun H' z => ⟨sts.length - (i + 1), by omega, rfl, more, z⟩, fun x H2 got => ?_⟩
    obtain ⟨T, y, rfl, hT, rfl, hyy⟩ := got
    obtain ⟨v, hv, dv⟩ := hd.get (List.getElem?_eq_getElem more)
    have := hyy us (s.seq ht)
    rw [hv] at this
    cases this
    have sn := same_new (o := .tup [.int (i : Nat), y]) hT
    have ea := List.getElem?_eq_getElem more
    refine RG.mono (fun σ2 H2 z => ?_) (tn i _ T y _ ea (s.trans sn) upd_same (K.kTI.k (tp_same (s.trans sn)) dv))
    obtain ⟨rfl, z1, z⟩ := z
    refine ⟨z1, ts_nil (ift (RE.mono (fun y' H3 z => ?_) z))⟩
    obtain ⟨rfl, rfl, z⟩ := z
    refine RE.mono (fun z' H4 z => ?_) z
    obtain ⟨rfl, rfl⟩ := z
    obtain ⟨a, rfl, ha⟩ := K.kTI.k (tp_same (s.trans sn)) dv
    have nm : sts[i] ∉ sts.take i := by
      intro hm
      have h2 : (sts.take i ++ [sts[i]]).Nodup := by
        rw [← List.take_succ_eq_append_getElem more]
        exact nd.sublist (List.take_sublist _ _)
      rw [List.nodup_append] at h2
      exact h2.2.2 _ hm _ (List.mem_singleton.mpr rfl) rfl
    refine ⟨_, K.keyI sts[i], a, rfl, K.TI.key ha, sn _ _ hA, Nat.lt_of_le_of_lt (show (K.numF (sts.take i) 0).length ≤ 1000 by rw [K.numF_len, List.length_take]; omega) (by decide), ?_, same_mut (s.trans sn) hD⟩
    have e := K.numF_put nm
    rw [List.length_take, Nat.min_eq_left (Nat.le_of_lt more)] at e
    rw [e, ← List.take_succ_eq_append_getElem more]
    exact upd_same
  · obtain rfl : i = sts.length := by omega
    rw [List.take_length] at hA
    exact .inl ⟨⟨us, s.seq ht, by omega⟩, k D H' s hD hA⟩
end G
namespace K
open PySem PySem.Spec PyProof.Rows L2 G
variable {M : Md}
def rMoves : List PyData → PyData → Prop := fun ds d => ∃ (rs : List Row) (rl : List Rl) (more : List PyData) (nm : Str) (r : Rl), ds = [progD rs rl more, .str nm] ∧ PgOk rs rl nm r ∧ d = intsD (mvs rs r)
/-- a def that changes nothing and answers with a tuple of ints, as it is kept -/
def spT (R : List PyData → List Int → Prop) (K : PySem.W.Frag) : Sp := fun vs H Q _ => ∃ ds ns, DtAll K H vs ds ∧ R ds ns ∧ ∀ v H', Same H H' → TI H' v ns → Q v H'
theorem e_callTI {c : Cd} {σ : L2.St} {H : Hp} {Q : VK} {pos : Pos} {x : Str} {p : Pos} {e : Expr} {es : List Expr} {ps : List Str} {k : Nat} {R : List PyData → List Int → Prop} (D : Dc c.toMd x ps k (spT R c.K)) (q : RA c (e :: es) σ H fun vs H1 => ∃ ds ns, DtAll c.K H1 vs ds ∧ R ds ns ∧ ∀ v H', Same H1 H' → TI H' v ns → Q v H') (hk : k ≤ c.k := by exact Nat.le_of_ble_eq_true rfl) (hg : c.sc.names.lookup x = some .globalImplicit := by rfl)
    (hdb : (x == ("__debug__" : Str)) = false := by decide) (he : ∀ env, starEach (e :: es) env = (false, eval e env) :: starEach es env := by intro _; rfl) (hpl : ∀ env, (backTo pos (starEach es env)).any (·.1) = false := by intro _; rfl) :
    RE c (.Call (.Name x p) (e :: es) [] pos) σ H Q := e_call D q hk hg hdb he hpl
theorem rc_tupTI {c : Cd} {H : Hp} {Q : VK} {p : Addr} {ns : List Int} (hl : SqL c.K H p (ns.map V.int)) (q : ∀ v H2, Same H H2 → TI H2 v ns → Q v H2) : RC c (.type "tuple") [.ref p] H Q :=
  rc_of (r := fun xs H Q => ∃ p ys, xs = [.ref p] ∧ ((SqL c.K H p ys ∧ ∀ l, H l = none → Q (.ref l) (upd H l (.tup ys))) ∨ (SqT c.K H p ys ∧ Q (.ref p) H))) (fun X h => by rw [← h.K]; exact call_tuple_of) ⟨p, _, rfl, .inl ⟨hl, fun l hn => q _ _ (same_new hn) ⟨l, rfl, upd_same⟩⟩⟩
def rWaI : List PyData → List Int → Prop := fun ds d => ∃ (rs : List Row) (st : St1) (r : Rl), ds = [stD st, asgD (asg rs st r)] ∧ StOk rs st ∧ FitR rs r ∧ d = beh rs st r
def rBehI : List PyData → List Int → Prop := fun ds d => ∃ (rs : List Row) (st : St1) (r : Rl), ds = [cellsD rs, r.d, stD st] ∧ StOk rs st ∧ FitR rs r ∧ d = beh rs st r
end K

namespace K
open PySem L2 G
variable {M : Md}
end K

namespace G
open PySem PySem.Spec PyProof.Rows L2
theorem In.app {K0 : PySem.W.Frag} {fp cl l : Addr} {us : List V} {H H1 : Hp} (i : K.In K0 fp cl l us H H1) (v : V) : K.In K0 fp cl l (us ++ [v]) H (upd H1 l (.lst (us ++ [v]))) :=
  ⟨kp_mut i.kp i.n, i.fd.upd i.ne i.nc, i.nc, upd_same, i.n, i.ne⟩
theorem inI (w : Int) (l : List Int) : inV (.int w) (l.map .int) = decide (w ∈ l) := by
  unfold inV
  rw [Bool.eq_iff_iff, List.any_eq_true, decide_eq_true_iff]
  constructor
  · rintro ⟨y, hy, h⟩
    obtain ⟨z, hz, rfl⟩ := List.mem_map.mp hy
    have : z = w := by simpa [eqV] using h
    rw [← this]; exact hz
  · intro h
    exact ⟨.int w, List.mem_map.mpr ⟨w, h, rfl⟩, by simp [eqV]⟩
theorem ro_inIT {c : Cd} {H : Hp} {Q : VK} {y : V} {w : Int} {ws : List Int} (hx : Dt c.K H y (.tuple (ws.map .int))) (q : Q (.bl (decide (w ∈ ws))) H) : RQ c .In (.int w) y H Q := by
  obtain ⟨a, xs, rfl, ht, hd⟩ := hx.tupE
  obtain rfl := K.dtInts_eq hd
  refine rq_of (r := rIn c.K false) (fun X h => by rw [← h.K]; exact op_in_seq) ⟨a, _, rfl, .inr ht, rfl, by simp [flatV], ?_⟩
  show Q (.bl (inV (.int w) (ws.map .int))) H
  rw [inI]
  exact q
theorem e_popAt {c : Cd} {σ : L2.St} {H : Hp} {Q : VK} {pos : Pos} {o e : Expr} {apos : Pos} (q : RE c o σ H fun x H1 => ∃ l zs, x = .ref l ∧ H1 l = some (.lst zs) ∧ RE c e σ H1 fun y H2 => ∃ (ys : List V) (i : Int) (v : V), y = .int i ∧ H2 l = some (.lst ys) ∧ 0 ≤ i ∧ i < ys.length ∧ ys.length ≤ 100000 ∧ ys[i.toNat]? = some v ∧ Q v (upd H2 l (.lst (ys.eraseIdx i.toNat))))
    (hbase : ∀ env, attributeBase o "pop" env (eval o env) = eval o env := by intro _; rfl)
    (hfew : ∀ env, ((backTo pos (starEach [e] env)).all (fun x => !x.1) && (backToKw pos (keywordEach [] env)).all (fun x => x.1.isSome)
      && decide (([e] : List Expr).length + ([] : List Keyword).length + (if ([] : List Keyword).isEmpty then 0 else 1) < 30)) = true := by intro _; rfl)
    (hline : (apos.endLine == pos.line) = true := by rfl) (hs : ∀ env, starEach [e] env = (false, eval e env) :: starEach [] env := by intro _; rfl) (hplain : ∀ env, (backTo pos (starEach [] env)).any (·.1) = false := by intro _; rfl) :
    RE c (.Call (.Attribute o "pop" apos) [e] [] pos) σ H Q := by
  refine e_bm PySem.F.plainAttrs_list PySem.F.slot_list_pop PySem.F.type_list_pop (RE.mono (fun x H1 z => ?_) q) hbase hfew hline hs hplain
  obtain ⟨l, zs, rfl, hl, z⟩ := z
  refine ⟨Or.inl ⟨rfl, _, Or.inl (Or.inl hl)⟩, a_cons (RE.mono (fun y H2 z => a_nil ?_) z) hs⟩
  obtain ⟨ys, i, v, rfl, hl, h0, h1, hz, hv, z⟩ := z
  refine rm_of (fun X h => mt_popAt) ⟨l, ys, i, i.toNat, v, rfl, rfl, hl, by omega, by omega, ?_, hv, z⟩
  unfold seqIndex?
  have e1 : (if i < 0 then i + (ys.length : Int) else i) = i := if_neg (by omega)
  simp only [e1]
  rw [if_pos (by simp; omega)]
theorem e_insert {c : Cd} {σ : L2.St} {H : Hp} {Q : VK} {pos : Pos} {o e1 e2 : Expr} {apos : Pos} (q : RE c o σ H fun x H1 => ∃ l zs, x = .ref l ∧ H1 l = some (.lst zs) ∧ RE c e1 σ H1 fun y H2 => RE c e2 σ H2 fun y2 H3 => ∃ (ys : List V) (i : Int), y = .int i ∧ H3 l = some (.lst ys) ∧ 0 ≤ i ∧ i ≤ 100000 ∧ ys.length ≤ 100000 ∧ Q .non (upd H3 l (.lst (ys.take i.toNat ++ [y2] ++ ys.drop i.toNat))))
    (hbase : ∀ env, attributeBase o "insert" env (eval o env) = eval o env := by intro _; rfl)
    (hfew : ∀ env, ((backTo pos (starEach [e1, e2] env)).all (fun x => !x.1) && (backToKw pos (keywordEach [] env)).all (fun x => x.1.isSome)
      && decide (([e1, e2] : List Expr).length + ([] : List Keyword).length + (if ([] : List Keyword).isEmpty then 0 else 1) < 30)) = true := by intro _; rfl)
    (hline : (apos.endLine == pos.line) = true := by rfl) (hs : ∀ env, starEach [e1, e2] env = (false, eval e1 env) :: starEach [e2] env := by intro _; rfl) (hs2 : ∀ env, starEach [e2] env = (false, eval e2 env) :: starEach [] env := by intro _; rfl) (hplain : ∀ env, (backTo pos (starEach [e2] env)).any (·.1) = false := by intro _; rfl) :
    RE c (.Call (.Attribute o "insert" apos) [e1, e2] [] pos) σ H Q := by
  refine e_bm PySem.F.plainAttrs_list PySem.F.slot_list_insert PySem.F.type_list_insert (RE.mono (fun x H1 z => ?_) q) hbase hfew hline hs hplain
  obtain ⟨l, zs, rfl, hl, z⟩ := z
  refine ⟨Or.inl ⟨rfl, _, Or.inl (Or.inl hl)⟩, a_cons (RE.mono (fun y H2 z => a_cons (RE.mono (fun y2 H3 z => a_nil ?_) z) hs2) z) hs⟩
  obtain ⟨ys, i, rfl, hl, h0, h1, hz, z⟩ := z
  exact rm_of (fun X h => mt_insert) ⟨l, ys, i, y2, rfl, rfl, hl, Nat.lt_of_le_of_lt hz (by decide), h0, by omega, z⟩
end G
namespace K
open PySem PySem.Spec PyProof.Rows L2 G
variable {M : Md}
abbrev dcDraw (M : Md) : Prop := Dc M "_law_draw" ["_law_feed_here", "_law_many_here"] 1 (spD preDraw rDraw M.K)
/-- one of some things, in a list of ours or a tuple -/
def spAny (K : PySem.W.Frag) : Sp := fun vs H Q _ => ∃ fd cl l us ds, vs = [.ref fd, .ref l] ∧ Feed K H fd cl ∧ ((H l = some (.lst us) ∧ l ≠ fd) ∨ SqT K H l us) ∧ DtAll K H us ds ∧ 0 < ds.length ∧ ds.length < 1000 ∧
  ∀ d v H', d ∈ ds → Kp fd H H' → Feed K H' fd cl → Dt K H' v d → Q v H'
theorem e_drawV {c : Cd} {σ : L2.St} {H : Hp} {Q : VK} {pos : Pos} (D : dcDraw c.toMd) {e1 e2 : Expr} {p : Pos} (q : RE c e1 σ H fun x H1 => RE c e2 σ H1 fun y H2 => ∃ (fp cl : Addr) (m : Int), x = .ref fp ∧ y = .int m ∧ (0 < m ∧ m < 1000) ∧ Feed c.K H2 fp cl ∧ ∀ r H3, 0 ≤ r → r < m → Kp fp H2 H3 → Feed c.K H3 fp cl → Q (.int r) H3)
    (hk : 1 ≤ c.k := by exact Nat.le_of_ble_eq_true rfl) (hg : c.sc.names.lookup ("_law_draw" : Str) = some .globalImplicit := by rfl) (h1 : ∀ env, starEach [e1, e2] env = (false, eval e1 env) :: starEach [e2] env := by intro _; rfl) (h2 : ∀ env, starEach [e2] env = (false, eval e2 env) :: starEach [] env := by intro _; rfl) (hpl : ∀ env, (backTo pos (starEach [e2] env)).any (·.1) = false := by intro _; rfl) :
    RE c (.Call (.Name "_law_draw" p) [e1, e2] [] pos) σ H Q := by
  refine e_call D (a_cons (RE.mono (fun x H1 z => a_cons (RE.mono (fun y H2 z => a_nil ?_) z) h2) q) h1) hk hg (by decide) h1 hpl
  obtain ⟨fp, cl, m, rfl, rfl, hm, hf, k⟩ := z
  refine ⟨fp, cl, _, _, rfl, hf, .cons (.int m) .nil, ⟨m, rfl, hm⟩, ?_⟩
  rintro d v H3 ⟨m', r, hm', rfl, r0, r1⟩ k3 f3 hv
  cases hm'
  cases hv
  exact k r H3 r0 r1 k3 f3
theorem e_any {c : Cd} {σ : L2.St} {H : Hp} {Q : VK} {pos : Pos} (D : Dc c.toMd "_law_any" ["_law_feed_here", "_law_some"] 2 (spAny c.K)) {e1 e2 : Expr} {p : Pos} (q : RE c e1 σ H fun x H1 => RE c e2 σ H1 fun y H2 => ∃ (fp cl l : Addr) (us : List V) (ds : List PyData), x = .ref fp ∧ y = .ref l ∧ Feed c.K H2 fp cl ∧ ((H2 l = some (.lst us) ∧ l ≠ fp) ∨ SqT c.K H2 l us) ∧ DtAll c.K H2 us ds ∧ 0 < ds.length ∧ ds.length < 1000 ∧ ∀ d v H', d ∈ ds → Kp fp H2 H' → Feed c.K H' fp cl → Dt c.K H' v d → Q v H')
    (hk : 2 ≤ c.k := by exact Nat.le_of_ble_eq_true rfl) (hg : c.sc.names.lookup ("_law_any" : Str) = some .globalImplicit := by rfl) (h1 : ∀ env, starEach [e1, e2] env = (false, eval e1 env) :: starEach [e2] env := by intro _; rfl) (h2 : ∀ env, starEach [e2] env = (false, eval e2 env) :: starEach [] env := by intro _; rfl) (hpl : ∀ env, (backTo pos (starEach [e2] env)).any (·.1) = false := by intro _; rfl) :
    RE c (.Call (.Name "_law_any" p) [e1, e2] [] pos) σ H Q := by
  refine e_call D (a_cons (RE.mono (fun x H1 z => a_cons (RE.mono (fun y H2 z => a_nil ?_) z) h2) q) h1) hk hg (by decide) h1 hpl
  obtain ⟨fp, cl, l, us, ds, rfl, rfl, hf, hl, hd, d0, d1, k⟩ := z
  exact ⟨fp, cl, l, us, ds, rfl, hf, hl, hd, d0, d1, k⟩
theorem erase_map {α β : Type} (f : α → β) : ∀ (l : List α) (j : Nat), (l.map f).eraseIdx j = (l.eraseIdx j).map f
  | [], _ => rfl
  | _ :: _, 0 => rfl
  | a :: l, j + 1 => by
    show f a :: (l.map f).eraseIdx j = f a :: (l.eraseIdx j).map f
    rw [erase_map f l j]
/-! ### names of rules -/
def names5 : List Str := ["a", "go", "pair", "x", "zzzzzzzz"]
def spNames (K : PySem.W.Frag) : Sp := fun vs H Q _ => ∃ (fd cl : Addr) (m : Int), vs = [.ref fd, .int m] ∧ Feed K H fd cl ∧ (1 ≤ m ∧ m ≤ 4) ∧
  ∀ (l : Addr) (ns : List Str) (H' : Hp), ns.Sublist names5 → 1 ≤ ns.length → ns.length ≤ m → Kp fd H H' → Feed K H' fd cl → H l = none → H' l = some (.lst (ns.map V.str)) → l ≠ cl → l ≠ fd → Q (.ref l) H'
end K

namespace K
open PySem PySem.Spec PyProof.Rows L2 G
/-! ### repr of data: its size -/
structure Shw (m n : Nat) (d : PyData) : Prop where
  ok : d.showable = true
  len : d.shown.length ≤ n
  dep : d.depth ≤ m
  nod : d.hasDict = false
theorem Shw.up {m n m' n' : Nat} {d : PyData} (h : Shw m n d) (h1 : m ≤ m') (h2 : n ≤ n') : Shw m' n' d := ⟨h.ok, Nat.le_trans h.len h2, Nat.le_trans h.dep h1, h.nod⟩
theorem sw_none : Shw 0 13 .none := ⟨by simp only [PyData.showable], by simp only [PyData.shown]; decide, by simp only [PyData.depth]; exact Nat.le_refl _, by simp only [PyData.hasDict]⟩
theorem sw_bool (b : Bool) : Shw 0 13 (.bool b) := by
  refine ⟨by simp only [PyData.showable], ?_, by simp only [PyData.depth]; exact Nat.le_refl _, by simp only [PyData.hasDict]⟩
  simp only [PyData.shown]
  cases b <;> decide
theorem sw_int {i : Int} (h : i.natAbs < 10 ^ 12) : Shw 0 13 (.int i) := by
  refine ⟨?_, PyData.shown_int_le h, by simp only [PyData.depth]; exact Nat.le_refl _, by simp only [PyData.hasDict]⟩
  simp only [PyData.showable, decide_eq_true_eq]
  have h2 : i.natAbs.log2 < 40 := PySem.Flt.log2_lt_of (by decide) (Nat.lt_of_lt_of_le h (by decide))
  omega
theorem sw_str {x : Str} {n : Nat} (h : (reprText x).length ≤ n) : Shw 0 n (.str x) := ⟨by simp only [PyData.showable], by simp only [PyData.shown]; exact h, by simp only [PyData.depth]; exact Nat.le_refl _, by simp only [PyData.hasDict]⟩
theorem sw_all {m n : Nat} : ∀ {ds : List PyData}, (∀ d ∈ ds, Shw m n d) → PyData.showableAll ds = true ∧ ((PyData.shownAll ds).map (·.length)).sum ≤ ds.length * n ∧ PyData.depthAll ds ≤ m ∧ PyData.hasDictAll ds = false
  | [], _ => ⟨by simp only [PyData.showableAll], by simp only [PyData.shownAll]; exact Nat.zero_le _, by simp only [PyData.depthAll]; exact Nat.zero_le _, by simp only [PyData.hasDictAll]⟩
  | d :: ds, h => by
    have h1 := h d (List.mem_cons_self ..)
    obtain ⟨a1, a2, a3, a4⟩ := sw_all fun e he => h e (List.mem_cons_of_mem _ he)
    refine ⟨by simp only [PyData.showableAll, h1.ok, a1, Bool.and_self], ?_, ?_, by simp only [PyData.hasDictAll, h1.nod, a4, Bool.or_self]⟩
    · have := h1.len
      simp only [PyData.shownAll, List.map_cons, List.sum_cons, List.length_cons, Nat.succ_mul]
      omega
    · simp only [PyData.depthAll]
      exact Nat.max_le.mpr ⟨h1.dep, a3⟩
theorem sw_tup {m n k : Nat} {ds : List PyData} (h : ∀ d ∈ ds, Shw m n d) (hk : ds.length ≤ k) : Shw (m + 1) (k * (n + 2) + 3) (.tuple ds) := by
  obtain ⟨a1, a2, a3, a4⟩ := sw_all h
  refine ⟨by simp only [PyData.showable, a1], ?_, by simp only [PyData.depth]; omega, by simp only [PyData.hasDict, a4]⟩
  simp only [PyData.shown]
  refine Nat.le_trans (tupleText_len_le _) ?_
  have e : (PyData.shownAll ds).length = ds.length := PyData.shownAll_length ds
  have e2 : ds.length * (n + 2) ≤ k * (n + 2) := Nat.mul_le_mul_right _ hk
  rw [e]
  rw [Nat.mul_add] at e2
  omega
theorem sw_lst {m n k : Nat} {ds : List PyData} (h : ∀ d ∈ ds, Shw m n d) (hk : ds.length ≤ k) : Shw (m + 1) (k * (n + 2) + 3) (.list ds) := by
  obtain ⟨a1, a2, a3, a4⟩ := sw_all h
  refine ⟨by simp only [PyData.showable, a1], ?_, by simp only [PyData.depth]; omega, by simp only [PyData.hasDict, a4]⟩
  simp only [PyData.shown]
  refine Nat.le_trans (listText_len_le _) ?_
  have e : (PyData.shownAll ds).length = ds.length := PyData.shownAll_length ds
  have e2 : ds.length * (n + 2) ≤ k * (n + 2) := Nat.mul_le_mul_right _ hk
  rw [e]
  rw [Nat.mul_add] at e2
  omega
/-! ### repr(v) of a tuple or list of data -/
def rRepr (K : PySem.W.Frag) : List V → Hp → VK → Prop := fun vs H Q => ∃ a d, vs = [.ref a] ∧ Dp K H (.ref a) d ∧ Shw 60 1000000 d ∧ Q (.str d.shown) H
theorem cr_repr {X : Cx} (quiet : X.A.guards = some []) (hu : X.A.units + 64 < cLine) : CallR X (.builtin "repr") (rRepr X.K) := by
  intro pins st σ H vs us Q J rv z
  obtain ⟨a, d, rfl, hd, sw, k⟩ := z
  obtain rfl := Vals.ref1 rv
  obtain ⟨as, rd⟩ := Dp.reads J d (.ref a) (.ref a) hd rfl
  have h1 := sw.dep
  have h2 := sw.len
  refine repr_of_reads' rd sw.ok (fun h => by rw [sw.nod] at h; cases h) quiet (by omega) (fun _ _ e => e) (fun h' u tk keep => ?_) (by rw [sizeLine_eq]; omega)
  exact ⟨.str d.shown, H, J.kept (t' := tk) keep, ⟨u, rfl⟩, k⟩
theorem rc_repr {c : Cd} {H : Hp} {Q : VK} {a : Addr} {d : PyData} (hd : Dp c.K H (.ref a) d) (sw : Shw 60 1000000 d) (q : Q (.str d.shown) H) (hq : c.g = true := by rfl) : RC c (.builtin "repr") [.ref a] H Q :=
  rc_of (r := rRepr c.K) (fun X h => by rw [← h.K]; exact cr_repr (h.gd hq) h.room.units) ⟨a, d, rfl, hd, sw, q⟩
end K

namespace K
open PySem PySem.Spec PyProof.Rows L2 G
variable {M : Md}
theorem In.app {K0 : PySem.W.Frag} {fp cl l : Addr} {us : List V} {H H1 : Hp} (i : In K0 fp cl l us H H1) (v : V) : In K0 fp cl l (us ++ [v]) H (upd H1 l (.lst (us ++ [v]))) := G.In.app i v
/-! ### cells -/
structure CellsOk (rs : List Row) : Prop where
  all : RowsAll rs
  ne : 0 < rs.length
  plain : 0 < (plains rs).length
  tab : ∀ r : Row, rs[0]? = some r → 0 < r.2.1 → r.1 = ("t" : Str)
  txt : ∀ r ∈ rs, (reprText r.1).length ≤ 20
  val : ∀ r ∈ rs, r.2.2.2.2.2.2.natAbs < 10 ^ 12
  ini : ∀ r ∈ rs, r.2.2.1 ≤ r.2.2.2.2.2.2 ∧ r.2.2.2.2.2.2 ≤ r.2.2.2.1
  hasx : ∃ r ∈ rs, r.1 = ("x" : Str) ∧ r.2.1 = 0
def cellB0 (rs : List Row) : Bool := (decide (total rs ≤ 10) && (rg rs).all (fun p => decide (1 ≤ span p) && decide (-10 ≤ p.1) && decide (p.2 ≤ 10)) && decide (many (rg rs) ≤ 256) && decide (rs.length ≤ 10) && rs.all (fun r => PyData.strOk r.1) && decide (rs.map nameOf).Nodup) &&
  (decide (0 < rs.length) && (decide (0 < (plains rs).length) && ((match rs[0]? with | some (r : Row) => decide (0 < r.2.1 → r.1 = ("t" : Str)) | none => true) && rs.all fun r => (decide ((reprText r.1).length ≤ 20) && decide (r.2.2.2.2.2.2.natAbs < 10 ^ 12)) && decide (r.2.2.1 ≤ r.2.2.2.2.2.2 ∧ r.2.2.2.2.2.2 ≤ r.2.2.2.1))))
def cellB (rs : List Row) : Bool := cellB0 rs && rs.any fun r => decide (r.1 = ("x" : Str)) && decide (r.2.1 = 0)
theorem cellB_ok {rs : List Row} (h : cellB rs = true) : CellsOk rs := by
  unfold cellB at h
  rw [Bool.and_eq_true] at h
  obtain ⟨h, hx⟩ := h
  unfold cellB0 at h
  rw [Bool.and_eq_true] at h
  obtain ⟨h1, h2⟩ := h
  rw [Bool.and_eq_true, Bool.and_eq_true, Bool.and_eq_true] at h2
  obtain ⟨h2, h3, h4, h5⟩ := h2
  rw [List.all_eq_true] at h5
  refine ⟨all_of _ h1, of_decide_eq_true h2, of_decide_eq_true h3, fun r hr => ?_, fun r hr => ?_, fun r hr => ?_, fun r hr => ?_, fitB hx⟩
  · rw [hr] at h4
    exact of_decide_eq_true h4
  · have := h5 r hr
    rw [Bool.and_eq_true, Bool.and_eq_true] at this
    exact of_decide_eq_true this.1.1
  · have := h5 r hr
    rw [Bool.and_eq_true, Bool.and_eq_true] at this
    exact of_decide_eq_true this.1.2
  · have := h5 r hr
    rw [Bool.and_eq_true] at this
    exact of_decide_eq_true this.2
def mkT (a b : Bool) : Row := ("t", 2, 0, 1, a, b, 0)
def mkX (hi : Int) (c : Bool) : Row := ("x", 0, 0, hi, true, c, 0)
def mkY (low : Int) (d : Bool) (e : Int) : Row := ("y", 0, low, 1, false, d, low + e)
def cellsOf (w : Nat) (a b : Bool) (hi : Int) (c : Bool) (low : Int) (d : Bool) (e : Int) : List Row := (if 1 < w then [mkT a b] else []) ++ mkX hi c :: (if w = 0 ∨ w = 3 then [mkY low d e] else [])
theorem cellsOf_ok : ∀ w ∈ [0, 1, 2, 3], ∀ a ∈ [true, false], ∀ b ∈ [true, false], ∀ hi ∈ [(1 : Int), 3], ∀ c ∈ [true, false], ∀ low ∈ [(0 : Int), -1], ∀ d ∈ [true, false], ∀ e ∈ [(0 : Int), 1], cellB (cellsOf w a b hi c low d e) = true := by decide +kernel
def preCells : List PyData → Prop := fun ds => ds = []
def rCells : List PyData → PyData → Prop := fun ds d => ∃ rs, d = cellsD rs ∧ CellsOk rs
theorem b2_mem (k : Bool) : k ∈ [true, false] := by cases k <;> simp
theorem i2_mem {r : Int} (h0 : 0 ≤ r) (h1 : r < 2) : r ∈ [(0 : Int), 1] := by
  have : r = 0 ∨ r = 1 := by omega
  rcases this with rfl | rfl <;> simp
end K

namespace K
open PySem PySem.Spec PyProof.Rows L2 G
variable {M : Md}
def preEx (n : Nat) : List PyData → Prop := fun ds => ∃ (rs : List Row) (deep : Int), ds = [cellsD rs, .int deep] ∧ CellsOk rs ∧ deep ≤ n
abbrev dcExpr (M : Md) (m : Nat) : Prop := Dc M "_law_expr" ["_law_feed_here", "_law_cells_here", "_law_deep"] (m + 3) (spD (preEx m) rForm M.K)
abbrev dcAny (M : Md) : Prop := Dc M "_law_any" ["_law_feed_here", "_law_some"] 2 (spAny M.K)
def opsA : List Str := ["+", "-", "*", "least", "most"]
def opsB : List Str := ["=", "<", "<=", "and", "or"]
theorem opsA_in : ∀ w ∈ opsA, w ∈ bins := by decide +kernel
theorem opsB_in : ∀ w ∈ opsB, w ∈ bins := by decide +kernel
theorem five : ∀ w ∈ ([0, 1, 2, -1, 3] : List Int), -1000000 ≤ w ∧ w ≤ 1000000 := by decide
theorem rForm_of {rs : List Row} {deep : Int} {d : PyData} (h : rForm [cellsD rs, .int deep] d) : ∃ e : Ex, d = e.d ∧ Fit rs e ∧ e.dep ≤ deep.toNat := by
  obtain ⟨rs', deep', e, e1, rfl, fit, dep⟩ := h
  obtain rfl : rs = rs' := cellsD_inj (List.cons.inj e1).1
  obtain rfl : deep = deep' := PyData.int.inj (List.cons.inj (List.cons.inj e1).2).1
  exact ⟨e, rfl, fit, dep⟩
theorem mem_str {l : List Str} {d : PyData} (h : d ∈ l.map PyData.str) : ∃ w ∈ l, d = .str w := by
  obtain ⟨w, hw, rfl⟩ := List.mem_map.mp h
  exact ⟨w, hw, rfl⟩
end K

namespace K
open PySem PySem.Spec PyProof.Rows L2 G
variable {M : Md}
def preRl : List PyData → Prop := fun ds => ∃ (rs : List Row) (nm : Str), ds = [cellsD rs, .str nm] ∧ CellsOk rs ∧ nm ∈ names5
structure RlOk (rs : List Row) (r : Rl) : Prop where
  fit : FitR rs r
  two : r.as.length ≤ 2
def rRl : List PyData → PyData → Prop := fun ds d => ∃ (rs : List Row) (nm : Str) (r : Rl), ds = [cellsD rs, .str nm] ∧ d = r.d ∧ RlOk rs r ∧ r.name = nm
theorem names_ok : ∀ w ∈ names5, PyData.strOk w = true := by decide +kernel
abbrev dcRl (M : Md) : Prop := Dc M "_law_rule" ["_law_feed_here", "_law_cells_here", "_law_name"] 6 (spD preRl rRl M.K)
end K

namespace Srt
open PySem PySem.Spec PySem.W PySem.Calls PyProof.Rows
variable {prog : Program} {w : World} {A : Around} {E : Value → Shared → Prop} {s : Shared}
/-- v is a tuple of two texts in the heap -/
def IsPrS (h : Heap) (v : Value) (x y : Str) : Prop := ∃ a o t u n, v = .ref a ∧ h.get? a = some o ∧ o.cls = .type "tuple" ∧ o.data = .seq #[.str x t, .str y u] n
theorem IsPrS.keeps {h h' : Heap} {v : Value} {x y : Str} (p : IsPrS h v x y) (k : ∀ b o, h.get? b = some o → o.cls = .type "tuple" → h'.get? b = some o) : IsPrS h' v x y := by
  obtain ⟨a, o, t, u, n, e, ho, hc, hd⟩ := p
  exact ⟨a, o, t, u, n, e, k _ _ ho hc, hc, hd⟩
theorem prS_tot {vs : List Value} (hp : ∀ v ∈ vs, ∃ x y, IsPrS s.heap v x y) : Tot prog w A s (tuples' true) (fun p => p.1 ∈ vs) := by
  intro p q hm hm'
  obtain ⟨x, y, a, o, t, u, n, e, ho, hc, hd⟩ := hp _ hm
  obtain ⟨x', y', a', o', t', u', n', e', ho', hc', hd'⟩ := hp _ hm'
  rw [e, e']
  refine ⟨if (x == x') = true then (if (y == y') = true then false else decide (y.cps.toList < y'.cps.toList)) else decide (x.cps.toList < x'.cps.toList), ?_⟩
  refine PySem.W.kat_lt ho hd ho' hd' ?_
  show PySem.W.KatLex prog w A true (decide (2 < 2)) _ [(.str x t, .str x' t'), (.str y u, .str y' u')] 0 s
  refine PySem.W.kat_cons (SeqAt.EqAt.str_str x t x' t' prog w _ _ ?_)
  refine PySem.W.kat_go (fun e1 => ?_) (fun e1 => ?_)
  · refine PySem.W.kat_yes (PySem.W.kat_cons (SeqAt.EqAt.str_str y u y' u' prog w _ _ ?_))
    refine PySem.W.kat_go (fun e2 => ?_) (fun e2 => ?_)
    · exact PySem.W.kat_yes (PySem.W.kat_nil ⟨rfl, by rw [if_pos e1, if_pos e2]; rfl⟩)
    · refine PySem.W.kat_no (oneLt_any_str ?_)
      exact ⟨rfl, by rw [if_pos e1, if_neg (by rw [e2]; decide)]⟩
  · refine PySem.W.kat_no (oneLt_any_str ?_)
    exact ⟨rfl, by rw [if_neg (by rw [e1]; decide)]⟩
theorem firstsS {h : Heap} : ∀ {vs : List Value}, (∀ v ∈ vs, ∃ x y, IsPrS h v x y) → ∃ fs : List Value, PySem.W.KatTups h vs fs ∧ fs.length = vs.length ∧ ∀ f ∈ fs, ∃ x t, f = Value.str x t
  | [], _ => ⟨[], PySem.W.KatTups.nil, rfl, fun _ hm => by simp at hm⟩
  | v :: vs, hp => by
    obtain ⟨fs, h1, h2, h3⟩ := firstsS (vs := vs) fun v' hm => hp v' (List.mem_cons_of_mem _ hm)
    obtain ⟨x, y, a, o, t, u, n, e, ho, hc, hd⟩ := hp v (List.mem_cons_self ..)
    subst e
    refine ⟨.str x t :: fs, PySem.W.KatTups.cons ho hc hd rfl h1, by rw [List.length_cons, List.length_cons, h2], fun f hm => ?_⟩
    rcases List.mem_cons.mp hm with rfl | hm
    · exact ⟨x, t, rfl⟩
    · exact h3 f hm
theorem prS_sortable {a : Addr} {vs : List Value} (h0 : 0 < vs.length) (hp : ∀ v ∈ vs, ∃ x y, IsPrS s.heap v x y) (ha : ∀ o, s.heap.get? a = some o → o.cls ≠ .type "tuple") : Sortable prog w A s a vs := by
  intro h' keep
  have hp' : ∀ v ∈ vs, ∃ x y, IsPrS h' v x y := fun v hm => by
    obtain ⟨x, y, p⟩ := hp v hm
    exact ⟨x, y, p.keeps fun b o e c => keep b o (fun z => by subst z; exact ha o e c) e⟩
  obtain ⟨fs, h1, h2, h3⟩ := firstsS hp'
  refine ⟨tuples' true, fun Q E hq => ?_, prS_tot hp'⟩
  refine PySem.W.kat_kind (T := .type "str") h1 (by omega) (fun f hm => ?_) (by rfl) ?_
  · obtain ⟨x, t, rfl⟩ := h3 f hm
    exact PySem.W.Looks.now
  · have e : (Value.type "str" != Value.type "tuple") = true := by first | decide +kernel | rfl | decide
    rw [e]
    exact hq
theorem sorted_prS {l : Addr} {vs : List Value} {Q : Value → Shared → Prop} (hl : s.heap.IsList l vs.toArray) (hz : vs.length ≤ sizeLine) (hp : ∀ v ∈ vs, ∃ x y, IsPrS s.heap v x y)
    (h : ∀ (h' : Heap) (d : Addr) (out : List Value), out.Perm vs → (∀ b o, s.heap.get? b = some o → h'.get? b = some o) → s.heap.objs.size ≤ d → (∃ n, h'.get? d = some (seqObj "list" out.toArray n)) → Q (.ref d) { s with heap := h' }) :
    wpAny (model prog w) A (call (.builtin "sorted") [.ref l]) Q E s := by
  refine sorted_any hl hz (fun h2 h₁ a ha k => ?_) fun out ho => ?_
  · refine prS_sortable (s := { s with heap := h₁ }) (by omega) (fun v hm => ?_) fun o e => ?_
    · obtain ⟨x, y, p⟩ := hp v hm
      exact ⟨x, y, p.keeps fun b o e _ => (k b o e).2⟩
    · have e' : some o = some (seqObj "list" vs.toArray 0) := e.symm.trans ha
      cases e'
      intro c
      exact absurd (Value.type.inj c) (by decide)
  · exact h _ _ out ho (fun b o e => sortedAll_old e) (Nat.le_succ _) (sortedAll_at s.heap vs out.toArray)
end Srt
namespace G
open PySem PySem.Spec PyProof.Rows L2
def prS (p : Str × Str) : PyData := .tuple [.str p.1, .str p.2]
theorem DtAll.perm {K : PySem.W.Frag} {H : Hp} {P : PyData → Prop} : ∀ {ys xs : List V}, ys.Perm xs → (∀ x ∈ xs, ∃ d, P d ∧ Dt K H x d) → ∃ ds, DtAll K H ys ds ∧ ds.length = xs.length ∧ ∀ d ∈ ds, P d := by
  intro ys xs hp h
  have h2 : ∀ y ∈ ys, ∃ d, P d ∧ Dt K H y d := fun y hy => h y (hp.mem_iff.mp hy)
  have : ∃ ds, DtAll K H ys ds ∧ ds.length = ys.length ∧ ∀ d ∈ ds, P d := by
    clear hp h
    induction ys with
    | nil => exact ⟨[], .nil, rfl, fun _ h => nomatch h⟩
    | cons y ys ih =>
      obtain ⟨d, hd, dt⟩ := h2 y (List.mem_cons_self ..)
      obtain ⟨ds, a, b, c⟩ := ih fun z hz => h2 z (List.mem_cons_of_mem _ hz)
      refine ⟨d :: ds, .cons dt a, by rw [List.length_cons, List.length_cons, b], fun e he => ?_⟩
      rcases List.mem_cons.mp he with rfl | he
      · exact hd
      · exact c e he
  obtain ⟨ds, a, b, c⟩ := this
  exact ⟨ds, a, b.trans hp.length_eq, c⟩
/-- sorted(xs) of pairs of texts: the same pairs in some order -/
def rSoS (K : PySem.W.Frag) : List V → Hp → VK → Prop := fun vs H Q => ∃ (a : Addr) (xs : List V) (ps : List (Str × Str)), vs = [V.ref a] ∧ SqL K H a xs ∧ DtAll K H xs (ps.map prS) ∧
  ∀ ys p, H p = none → ys.Perm xs → Q (.ref p) (upd H p (.lst ys))
theorem cr_soS {X : Cx} : CallR X (.builtin "sorted") (rSoS X.K) := by
  intro pins st σ H args us Q J rv z
  obtain ⟨a, xs, es, rfl, hs, hd, k⟩ := z
  obtain rfl := Vals.ref1 rv
  obtain ⟨its, rel, plain, few⟩ := J.list hs
  have has : ∀ v ∈ xs, ∃ (p : Str × Str) (t : Addr), v = .ref t ∧ SqT X.K H t [.str p.1, .str p.2] := fun v hv => by
    obtain ⟨i, hi⟩ := List.mem_iff_getElem?.mp hv
    obtain ⟨d, hd', hx⟩ := hd.getV hi
    rw [List.getElem?_map] at hd'
    obtain ⟨p, _, rfl⟩ := Option.map_eq_some_iff.mp hd'
    obtain ⟨a, ys, rfl, ht, hd2⟩ := Dt.tupE (show Dt X.K H v (.tuple [.str p.1, .str p.2]) from hx)
    obtain _ | ⟨h1, hd2⟩ := hd2
    obtain _ | ⟨h2, hd2⟩ := hd2
    cases hd2
    cases h1
    cases h2
    exact ⟨p, a, rfl, ht⟩
  obtain ⟨back, refs⟩ := refs_back rel fun x m => let ⟨_, t, e, _⟩ := has x m; ⟨t, e⟩
  refine Srt.sorted_prS plain.isList (by rw [← rel.length]; exact few) (fun v hv => ?_) fun h' d out h2 kp hdd new => ?_
  · obtain ⟨t, rfl⟩ := refs v hv
    have inx : V.ref t ∈ xs := by rw [back]; exact List.mem_map.mpr ⟨_, hv, rfl⟩
    obtain ⟨p, t', e, ht⟩ := has _ inx
    cases e
    obtain ⟨its2, r2, ⟨o, g1, g2, n, g3⟩, _⟩ := J.tuple ht
    obtain ⟨u1, u2, rfl, ⟨t1, rfl⟩, ⟨t2, rfl⟩⟩ := vals2 r2
    exact ⟨p.1, p.2, t, o, t1, t2, n, rfl, g1, g2, g3⟩
  · obtain ⟨n, made⟩ := new
    have perm : (out.map backV).Perm xs := by
      rw [back]
      exact h2.map _
    have h3 : ∀ u ∈ out, ∃ a, u = Value.ref a := fun u hu => refs u (h2.mem_iff.mp hu)
    refine ⟨.ref d, upd H d (.lst (out.map backV)), J.laid (t' := st.toks) kp hdd ⟨?_, out, n, vals_back h3, made⟩, rfl, k _ d (J.hok.fresh hdd) perm⟩
    rw [perm.length_eq]
    exact few
theorem rc_sortedS {c : Cd} {H : Hp} {Q : VK} {l : Addr} {us : List V} {ps : List (Str × Str)} (hl : H l = some (.lst us)) (hd : DtAll c.K H us (ps.map prS))
    (q : ∀ p ys H', Same H H' → H p = none → H' p = some (.lst ys) → (∃ qs : List (Str × Str), DtAll c.K H' ys (qs.map prS) ∧ qs.length = ps.length ∧ ∀ p ∈ qs, p ∈ ps) → Q (.ref p) H') : RC c (.builtin "sorted") [.ref l] H Q := by
  refine rc_of (r := rSoS c.K) (fun X h => by rw [← h.K]; exact cr_soS) ⟨l, us, ps, rfl, .of hl, hd, fun ys p hp perm => ?_⟩
  have s := same_new (o := .lst ys) hp
  refine q p ys _ s hp upd_same ?_
  have hall : ∀ x ∈ us, ∃ d, (∃ p ∈ ps, d = prS p) ∧ Dt c.K H x d := fun x hx => by
    obtain ⟨i, hi⟩ := List.mem_iff_getElem?.mp hx
    obtain ⟨d, hd', hx'⟩ := hd.getV hi
    rw [List.getElem?_map] at hd'
    obtain ⟨p, hp, rfl⟩ := Option.map_eq_some_iff.mp hd'
    exact ⟨_, ⟨p, List.mem_of_getElem? hp, rfl⟩, hx'⟩
  obtain ⟨ds, a, b, cc⟩ := DtAll.perm perm hall
  have : ∃ qs : List (Str × Str), ds = qs.map prS ∧ ∀ p ∈ qs, p ∈ ps := by
    clear a b
    induction ds with
    | nil => exact ⟨[], rfl, fun _ h => nomatch h⟩
    | cons d ds ih =>
      obtain ⟨p, hp, rfl⟩ := cc d (List.mem_cons_self ..)
      obtain ⟨qs, rfl, h2⟩ := ih fun e he => cc e (List.mem_cons_of_mem _ he)
      refine ⟨p :: qs, rfl, fun e he => ?_⟩
      rcases List.mem_cons.mp he with rfl | he
      · exact hp
      · exact h2 e he
  obtain ⟨qs, rfl, h2⟩ := this
  have hl2 := hd.len
  rw [List.length_map] at hl2 b
  exact ⟨qs, a.mono (tp_same s), by omega, h2⟩
end G

namespace K
open PySem PySem.Spec PyProof.Rows L2 G
variable {M : Md}
theorem In.oth {K0 : PySem.W.Frag} {fp cl l l2 : Addr} {us ws : List V} {H H1 : Hp} (i : In K0 fp cl l us H H1) (i2 : In K0 fp cl l2 ws H H1) (ne : l2 ≠ l) (o : HO) : In K0 fp cl l2 ws H (upd H1 l o) :=
  ⟨kp_mut i.kp i.n, i.fd.upd i.ne i.nc, i2.nc, (upd_ne ne).trans i2.g, i2.n, i2.ne⟩
def pairsD (ps : List (Str × Str)) : PyData := .tuple (ps.map prS)
/-- p stands forward in row -/
def Fwd (row : List Str) (p : Str × Str) : Prop := ∃ i j : Nat, i < j ∧ row[i]? = some p.1 ∧ row[j]? = some p.2
def spPairs (K : PySem.W.Frag) : Sp := fun vs H Q _ => ∃ (fd cl nl : Addr) (ns : List Str), vs = [.ref fd, .ref nl] ∧ Feed K H fd cl ∧ H nl = some (.lst (ns.map .str)) ∧ nl ≠ fd ∧ ns.length ≤ 5 ∧
  ∀ (v : V) (ps : List (Str × Str)) (row : List Str) (H' : Hp), row.Perm ns → (∀ p ∈ ps, Fwd row p) → ps.length ≤ 25 → Kp fd H H' → Feed K H' fd cl → Dt K H' v (pairsD ps) → Q v H'
theorem cutV_from (os : List Str) (k : Nat) (hk : k ≤ os.length) : cutV (os.map V.str) (some (k : Int)) none = (os.drop k).map .str := by
  unfold cutV
  rw [List.length_map, ← List.map_drop, ← List.map_take]
  congr 1
  rw [HT.sIx_nat, HT.sIx_none, Nat.min_eq_left hk]
  exact List.take_of_length_le (by rw [List.length_drop]; exact Nat.le_refl _)
theorem Fwd.mem {row : List Str} {p : Str × Str} (h : Fwd row p) : p.1 ∈ row ∧ p.2 ∈ row := by
  obtain ⟨i, j, _, h1, h2⟩ := h
  exact ⟨List.mem_of_getElem? h1, List.mem_of_getElem? h2⟩
set_option maxHeartbeats 2000000 in
theorem ok_pairs {f fd} (F : Fun M.K "_law_some_pairs" "_law_some_pairs" s__law_some_pairs f fd) (b : Bl M) (b3 : Bl3 M) (dd : dcDraw M) : FnG M.prog M.w M.K M.mg M.base CX0 2 f fd ["_law_feed_here", "_law_names"] (spPairs M.K) := by
  refine fn_ok F sc__law_some_pairs (fun vs H Q E h => ?_) (fun H vs Q E h => ?_)
  · obtain ⟨_, _, _, _, rfl, _⟩ := h
    rfl
  obtain ⟨fp, cl, nl, ns, rfl, hf, hn, hne, hlen, k⟩ := h
  refine b_cut (fun σ1 H' => ∃ (l1 l2 : Addr), l1 ≠ l2 ∧ σ1 = [some (.ref fp), some (.ref nl), some (.ref l1), some (.ref l2), none, none, none, none] ∧ In M.K fp cl l1 [] H H' ∧ In M.K fp cl l2 [] H H') ?_ ?_
  · refine s_par2 (by tm_at "at") (by tm_at "at") ?_
    refine e_lstD (a_nil ⟨(Nat.le_of_ble_eq_true rfl), fun l1 H1 s1 n1 g1 => ?_⟩)
    refine e_lstD (a_nil ⟨(Nat.le_of_ble_eq_true rfl), fun l2 H2 s2 n2 g2 => ?_⟩)
    have f1 := hf.same s1
    have i1 : In M.K fp cl l1 [] H H1 := ⟨kp_same s1, f1, ne_cl hf (Same.refl _) n1, g1, n1, ne_feed hf (Same.refl _) n1⟩
    refine ⟨l1, l2, fun e => ?_, rfl, i1.same s2, kp_same (s1.trans s2), f1.same s2, ne_cl f1 (Same.refl _) n2, g2, ?_, ne_feed f1 (Same.refl _) n2⟩
    · rw [← e, g1] at n2
      cases n2
    · exact kp_none (kp_same (m := fp) s1) n2 (ne_feed f1 (Same.refl _) n2)
  rintro _ H1 ⟨l1, l2, ne12, rfl, i1, j1⟩
  refine b_cut (fun σ1 H' => ∃ (os : List Str) (v4 : Option V), os.Perm ns ∧ σ1 = [some (.ref fp), some (.ref nl), some (.ref l1), some (.ref l2), v4, none, none, none] ∧ In M.K fp cl l1 (os.map .str) H H' ∧ In M.K fp cl l2 [] H H') ?_ ?_
  · refine s_forL (e_var (by tm_at "at") ⟨nl, _, rfl, .of (i1.kp.k _ _ hne hn), fun i σ' H' => ∃ (os : List Str) (v4 : Option V), os.Perm (ns.take i) ∧ σ' = [some (.ref fp), some (.ref nl), some (.ref l1), some (.ref l2), v4, none, none, none] ∧ In M.K fp cl l1 (os.map .str) H H' ∧ In M.K fp cl l2 [] H H', ?_, ?_, ?_, ?_⟩)
    · exact ⟨[], none, .nil, rfl, i1, j1⟩
    · rintro i σ' H' hi ⟨os, v4, h1, rfl, h4, h5⟩
      exact .of (h4.kp.k _ _ hne hn)
    · rintro i x σ' H' hx ⟨os, v4, h0, rfl, h4, h5⟩
      have hi := (List.getElem?_eq_some_iff.mp hx).1
      rw [List.length_map] at hi
      have h1 : os.length = i := by rw [h0.length_eq, List.length_take]; omega
      rw [List.getElem?_map] at hx
      obtain ⟨nm, hnm, rfl⟩ := Option.map_eq_some_iff.mp hx
      refine g_name (by tm_at "at") ?_
      refine b_one (s_expr (e_insert (e_var (by tm_at "at") ⟨l1, _, rfl, h4.g, ?_⟩)))
      refine e_drawV dd ?_
      tm_at "go"
      refine rc_lenL (.of h4.g) ?_
      rw [List.length_map]
      tm_at "go"
      refine ⟨fp, cl, _, rfl, rfl, by omega, h4.fd, fun r H2 r0 r1 k2 f2 => ?_⟩
      tm_at "go"
      have h42 := h4.draw k2 f2
      have h52 := h5.draw k2 f2
      refine ⟨_, r, rfl, h42.g, r0, by omega, by rw [List.length_map]; omega, ?_⟩
      refine ⟨os.take r.toNat ++ [nm] ++ os.drop r.toNat, _, ?_, rfl, ?_, h42.oth h52 (Ne.symm ne12) _⟩
      · have e : ns.take (i + 1) = ns.take i ++ [nm] := by
          obtain ⟨g1, g2⟩ := List.getElem?_eq_some_iff.mp hnm
          rw [List.take_succ_eq_append_getElem g1, g2]
        rw [e]
        have p1 : (os.take r.toNat ++ [nm] ++ os.drop r.toNat).Perm (nm :: os) := by
          have p2 : (os.take r.toNat ++ nm :: os.drop r.toNat).Perm (nm :: (os.take r.toNat ++ os.drop r.toNat)) := List.perm_middle
          rw [List.take_append_drop] at p2
          rw [List.append_assoc]
          exact p2
        exact p1.trans ((h0.cons nm).trans (List.perm_append_singleton nm _).symm)
      · have e : (os.take r.toNat ++ [nm] ++ os.drop r.toNat).map V.str = (os.map V.str).take r.toNat ++ [V.str nm] ++ (os.map V.str).drop r.toNat := by
          rw [List.map_append, List.map_append, List.map_take, List.map_drop]
          rfl
        rw [e]
        exact ⟨kp_mut h42.kp h42.n, h42.fd.upd h42.ne h42.nc, h42.nc, upd_same, h42.n, h42.ne⟩
    · rintro σ' H' ⟨os, v4, h1, rfl, h4, h5⟩
      rw [List.length_map, List.take_length] at h1
      exact ⟨os, v4, h1, rfl, h4, h5⟩
  rintro _ H2 ⟨os, v4, op, rfl, i2, j2⟩
  have ol := op.length_eq
  refine b_cut (fun σ1 H' => ∃ (ps : List (Str × Str)) (us : List V) (v4 v5 v6 v7 : Option V), ps.length ≤ 25 ∧ (∀ p ∈ ps, Fwd os p) ∧ σ1 = [some (.ref fp), some (.ref nl), some (.ref l1), some (.ref l2), v4, v5, v6, v7] ∧ In M.K fp cl l2 us H H' ∧ DtAll M.K H' us (ps.map prS)) ?_ ?_
  · refine s_for (i_enumL b3.enum (e_var (by tm_at "at") ⟨l1, _, rfl, .of i2.g, ?_⟩))
    refine ⟨fun i m σ' H' => m = os.length - i ∧ i ≤ os.length ∧ ∃ (ps : List (Str × Str)) (us : List V) (v4 v5 v6 v7 : Option V), ps.length ≤ 5 * i ∧ (∀ p ∈ ps, Fwd os p) ∧ σ' = [some (.ref fp), some (.ref nl), some (.ref l1), some (.ref l2), v4, v5, v6, v7] ∧ In M.K fp cl l1 (os.map .str) H H' ∧ In M.K fp cl l2 us H H' ∧ DtAll M.K H' us (ps.map prS), ⟨_, rfl, Nat.zero_le _, [], [], _, _, _, _, Nat.le_refl _, (fun _ h => nomatch h), rfl, i2, j2, .nil⟩, ?_⟩
    rintro i m σ' H' ⟨rfl, hi, ps, us, v4, v5, v6, v7, hl, hp, rfl, ii, jj, hd⟩
    have osq : SqL M.K H' l1 (os.map V.str) := .of ii.g
    by_cases more : i < os.length
    · refine .inr ⟨⟨os.map V.str, V.str os[i], osq, by rw [List.getElem?_map, List.getElem?_eq_getElem more]; rfl⟩, _, fun σ2 H2 z => ⟨os.length - (i + 1), by omega, rfl, more, z⟩, fun x H3 got => ?_⟩
      obtain ⟨T, y, rfl, hT, rfl, hyy⟩ := got
      have e1 := hyy _ osq
      rw [List.getElem?_map, List.getElem?_eq_getElem more] at e1
      obtain rfl : V.str os[i] = y := Option.some.inj e1
      have sn := same_new (o := .tup [.int (i : Nat), .str os[i]]) hT
      have ii := ii.same sn
      have jj := jj.same sn
      have hd := hd.mono (tp_same sn)
      refine g_tup (.of upd_same) (gs_cons (g_name (by tm_at "at") (gs_cons (g_name (by tm_at "at") (gs_nil ?_)))))
      generalize upd H' T (HO.tup [.int (i : Nat), .str os[i]]) = H3 at *
      refine b_one (s_expr (e_ext (e_var (by tm_at "at") ⟨l2, _, rfl, jj.g, ?_⟩)))
      refine e_lc (own := [("_law_other", 7)]) (Blk.of (N := N__law_some_pairs) (sc := defScope s__law_some_pairs) rfl rfl (by decide +kernel)) ?_
      refine lc_L ?_
      refine e_slice ?_
      tm_at "go"
      refine rsl_list (.of ii.g) fun p H4 s4 n4 g4 => ?_
      have ew := cutV_from os (i + 1) more
      rw [show ((i : Int) + 1) = ((i + 1 : Nat) : Int) from by omega, ew] at g4
      have wl : (os.drop (i + 1)).length ≤ 5 := by rw [List.length_drop]; omega
      have jj4 := jj.same s4
      refine ⟨p, _, rfl, .of g4, by rw [List.length_map]; omega, fun D hD => ?_⟩
      have pD : p ≠ D := fun e => by rw [e, hD] at g4; cases g4
      have nD : D ≠ fp := ne_feed jj4.fd (Same.refl _) hD
      have nC : D ≠ cl := ne_cl jj4.fd (Same.refl _) hD
      have n2D : l2 ≠ D := fun e => by have := jj4.g; rw [e, hD] at this; cases this
      have hpfp : p ≠ fp := ne_feed jj.fd (Same.refl _) n4
      have jD : In M.K fp cl D [] H4 (upd H4 D (.lst [])) := ⟨kp_same (same_new hD), jj4.fd.upd nD nC, nC, upd_same, hD, nD⟩
      refine ⟨fun t acc H' => ∃ qs : List (Str × Str), acc.length ≤ t ∧ qs.length = acc.length ∧ (∀ p ∈ qs, Fwd os p) ∧ In M.K fp cl D acc H4 H' ∧ DtAll M.K H' acc (qs.map prS), ⟨[], Nat.le_refl _, rfl, (fun _ h => nomatch h), jD, .nil⟩, ?_, ?_, ?_⟩
      · rintro t acc H' ht ⟨qs, a1, a2, a3, a4, a5⟩
        exact ⟨.of (a4.kp.k _ _ hpfp g4), a1⟩
      · rintro t x acc H' hx ⟨qs, a1, a2, a3, a4, a5⟩
        rw [List.getElem?_map] at hx
        obtain ⟨o2, ho2, rfl⟩ := Option.map_eq_some_iff.mp hx
        have o2f : Fwd os (os[i], o2) := ⟨i, i + 1 + t, by omega, List.getElem?_eq_getElem more, by rw [← List.getElem?_drop]; exact ho2⟩
        refine g_name (by tm_at "at") ⟨rfl, ts_one ?_⟩
        tm_at "go"
        refine e_drawV dd ?_
        tm_at "go"
        refine ⟨fp, cl, 4, rfl, rfl, by decide, a4.fd, fun r H5 r0 r1 k5 f5 => ?_⟩
        have b4 := a4.draw k5 f5
        tm_at "go"
        refine ifd (fun c1 => ?_) (fun c1 => ?_)
        · refine e_tupD ?_
          tm_at "go"
          refine tupend (ds := [.str os[i], .str o2]) (.cons (.str _) (.cons (.str _) .nil)) (Nat.le_of_ble_eq_true rfl) fun v9 H9 s9 h9 => ?_
          have b9 := b4.same s9
          have kt := (kp_upd (o' := .lst (acc ++ [v9])) b9.g (fun _ e => nomatch e) (fun _ _ e => nomatch e)).t
          refine ⟨b9.g, qs ++ [(os[i], o2)], by rw [List.length_append]; exact Nat.succ_le_succ a1, by rw [List.length_append, List.length_append, a2]; rfl, ?_, b9.app v9, ?_⟩
          · intro q hq
            rcases List.mem_append.mp hq with hq | hq
            · exact a3 q hq
            · rw [List.mem_singleton.mp hq]
              exact o2f
          · rw [List.map_append]
            exact ((a5.mono (k5.t.trans (tp_same s9))).mono kt).app (.cons (h9.mono kt) .nil)
        · exact ⟨qs, Nat.le_succ_of_le a1, a2, a3, b4, a5.mono k5.t⟩
      · rintro acc H5 ⟨qs, a1, a2, a3, a4, a5⟩
        rw [List.length_map] at a1
        have jj5 := jj4.draw a4.kp a4.fd
        have lus := hd.len
        rw [List.length_map] at lus
        refine ⟨D, _, _, rfl, jj5.g, a4.g, by omega, ?_⟩
        have kt := (kp_upd (o' := .lst (us ++ acc)) jj5.g (fun _ e => nomatch e) (fun _ _ e => nomatch e)).t
        refine ⟨ps ++ qs, us ++ acc, _, _, _, _, by rw [List.length_append]; omega, ?_, rfl, ?_, ?_, ?_⟩
        · intro q hq
          rcases List.mem_append.mp hq with hq | hq
          · exact hp q hq
          · exact a3 q hq
        · exact In.oth jj5 (((ii.same s4).draw a4.kp a4.fd)) ne12 _
        · exact ⟨kp_mut jj5.kp jj5.n, jj5.fd.upd jj5.ne jj5.nc, jj5.nc, upd_same, jj5.n, jj5.ne⟩
        · rw [List.map_append]
          exact (((hd.mono (tp_same s4)).mono a4.kp.t).mono kt).app (a5.mono kt)
    · obtain rfl : i = os.length := by omega
      exact .inl ⟨⟨_, osq, by rw [List.length_map]; exact Nat.le_refl _⟩, ps, us, v4, v5, v6, v7, by omega, hp, rfl, jj, hd⟩
  rintro _ H3 ⟨ps, us, v4, v5, v6, v7, hl, hp, rfl, jj, hd⟩
  tm_at "go"
  refine rc_sortedS jj.g hd fun p ys H4 s4 n4 g4 ⟨qs, hq, ql, qm⟩ => ?_
  tm_at "go"
  refine rc_tupL (.of g4) hq fun v8 H8 s8 h8 => ?_
  exact k _ _ os _ op (fun p hp' => hp p (qm p hp')) (by omega) (jj.kp.trans ((kp_same s4).trans (kp_same s8))) ((jj.fd.same s4).same s8) h8
end K

namespace G
open PySem PySem.Spec PyProof.Rows L2 SH
open PySem.W (EachIs)
/-! ### sorted(xs), set(xs) of tuples of texts -/
/-- a list or a tuple whose items are these -/
def SqA (K : PySem.W.Frag) (H : Hp) (a : Addr) (xs : List V) : Prop := SqL K H a xs ∨ SqT K H a xs
theorem strs_all {K : PySem.W.Frag} {H : Hp} : ∀ {k : List Str} {xs : List V}, DtAll K H xs (k.map .str) → xs = k.map V.str
  | [], _, h => by cases h; rfl
  | x :: k, _, h => by
    cases h with
    | cons h1 h2 =>
      cases h1
      rw [strs_all h2] <;> rfl
theorem all_strs {K : PySem.W.Frag} {H : Hp} : ∀ k : List Str, DtAll K H (k.map V.str) (k.map .str)
  | [] => .nil
  | x :: k => .cons (.str x) (all_strs k)
theorem dt_tS {K : PySem.W.Frag} {H : Hp} {v : V} {k : List Str} (h : Dt K H v (tS k)) : ∃ t, v = .ref t ∧ SqT K H t (k.map V.str) := by
  obtain ⟨t, xs, rfl, ht, hd⟩ := Dt.tupE (show Dt K H v (.tuple (k.map .str)) from h)
  rw [strs_all hd] at ht
  exact ⟨t, rfl, ht⟩
theorem tS_dt {K : PySem.W.Frag} {H : Hp} {t : Addr} {k : List Str} (h : SqT K H t (k.map V.str)) : Dt K H (.ref t) (tS k) := .tup h (all_strs k)
section
variable {X : Cx} {pins : List (Addr × Obj)} {σ : L2.St} {H : Hp} {s : Shared}
theorem raw_strs {P : Program} {w : World} {h : Heap} : ∀ {k : List Str} {us : List Value}, Vals (k.map V.str) us → ItemsAre (PySem.strKind P w) k us ∧ ReadsAll h us (k.map .str) []
  | [], _, .nil => ⟨.nil, .nil⟩
  | n :: k, _, .cons r t => by
    obtain ⟨u, rfl⟩ := r
    obtain ⟨a, b⟩ := raw_strs (P := P) (w := w) (h := h) t
    exact ⟨.cons (PySem.strKind_is _ _ n u) a, .cons (as := []) (bs := []) (.str n u) b⟩
theorem inv_strs {t : Addr} {k : List Str} (J : Inv X pins σ H s) (h : SqT X.K H t (k.map V.str)) : (kS X.prog X.w).is s.heap k t ∧ Reads s.heap (.ref t) (tS k) [] := by
  obtain ⟨its, r, ⟨o, oh, oc, n, od⟩, _⟩ := J.tuple h
  obtain ⟨a, b⟩ := raw_strs (P := X.prog) (w := X.w) (h := s.heap) r
  exact ⟨⟨o, its.toArray, n, oh, oc, od, by simpa using a⟩, .tuple oh oc od (by simpa using b)⟩
/-- a value that is a tuple of these texts -/
def TxV (X : Cx) (H : Hp) (s : Shared) (v : Value) (k : List Str) : Prop := ∃ t, v = .ref t ∧ SqT X.K H t (k.map V.str) ∧ Reads s.heap v (tS k) []
theorem each_tx (J : Inv X pins σ H s) : ∀ {ks : List (List Str)} {xs : List V} {us : List Value}, Vals xs us → DtAll X.K H xs (ks.map tS) → EachIs (TxV X H s) us ks
  | [], _, _, v, h => by cases h; cases v; exact .nil
  | k :: ks, _, _, v, h => by
    cases h with
    | cons h1 h2 =>
      cases v with
      | cons v1 v2 =>
        obtain ⟨t, rfl, ht⟩ := dt_tS h1
        cases v1
        exact .cons ⟨t, rfl, ht, (inv_strs J ht).2⟩ (each_tx J v2 h2)
theorem tx_back : ∀ {ks : List (List Str)} {us : List Value}, EachIs (TxV X H s) us ks → ∃ xs, Vals xs us ∧ DtAll X.K H xs (ks.map tS) ∧ xs.length = ks.length
  | _, _, .nil => ⟨[], .nil, .nil, rfl⟩
  | _, _, .cons ⟨t, e, ht, _⟩ more => by
    obtain ⟨xs, a, b, c⟩ := tx_back more
    subst e
    exact ⟨.ref t :: xs, .cons rfl a, .cons (tS_dt ht) b, by rw [List.length_cons, List.length_cons, c]⟩
theorem J_seq (J : Inv X pins σ H s) {a : Addr} {xs : List V} (h : SqA X.K H a xs) : ∃ (T : String) (o : Obj) (its : List Value) (n : Nat), (T = "list" ∨ T = "tuple") ∧ Vals xs its ∧ s.heap.get? a = some o ∧ o.cls = .type T ∧ o.data = .seq its.toArray n ∧ its.length ≤ sizeLine ∧ (T = "list" → s.heap.IsList a its.toArray) ∧ (T = "tuple" → s.heap.IsTuple a its.toArray) := by
  rcases h with h | h
  · obtain ⟨its, r, pl, z⟩ := J.list h
    obtain ⟨o, oh, oc, n, od⟩ := id pl.isList
    exact ⟨"list", o, its, n, .inl rfl, r, oh, oc, od, by rw [← r.length]; exact z, fun _ => pl.isList, fun e => absurd e (by decide)⟩
  · obtain ⟨its, r, tu, z⟩ := J.tuple h
    obtain ⟨o, oh, oc, n, od⟩ := id tu
    exact ⟨"tuple", o, its, n, .inr rfl, r, oh, oc, od, by first | exact z | (rw [← r.length]; exact z), fun e => absurd e (by decide), fun _ => tu⟩
end
def rSoT (K : PySem.W.Frag) : List V → Hp → VK → Prop := fun vs H Q => ∃ (a : Addr) (xs : List V) (ks : List (List Str)), vs = [.ref a] ∧ SqA K H a xs ∧ DtAll K H xs (ks.map tS) ∧ ∀ ys p, H p = none → DtAll K H ys ((srtT ks).map tS) → Q (.ref p) (upd H p (.lst ys))
theorem gathered {A : Around} {prog : Program} {w : World} {E : Value → Shared → Prop} {s : Shared} {T : List Value → Shared → Prop} {a : Addr} {its : List Value} {C : String} {o : Obj} {n : Nat} (eC : C = "list" ∨ C = "tuple") (oh : s.heap.get? a = some o) (oc : o.cls = .type C) (od : o.data = .seq its.toArray n) (le : its.length ≤ sizeLine)
    (go : ∀ s1, (∀ b o, s.heap.get? b = some o → s1.heap.get? b = some o) → s.heap.objs.size ≤ s1.heap.objs.size → s1.gens = s.gens → s1.os = s.os → T its s1) : wpAny (model prog w) A (collect (.ref a)) T E s := by
  refine gather_seq eC oh oc od (by simpa using le) ?_
  refine go _ (fun b u e => ?_) ?_ rfl rfl
  · have lt := Heap.lt_size e
    show ((s.heap.push _).update _ _).get? b = _
    rw [Heap.get?_update_ne _ _ _ _ (Nat.ne_of_lt lt)]
    exact Heap.get?_push_of_some _ e
  · show _ ≤ ((s.heap.push _).update _ _).objs.size
    rw [Heap.size_update, Heap.size_push]
    exact Nat.le_succ _
/-- the list that sorted gives is laid -/
theorem lay_sorted {X : Cx} {pins : List (Addr × Obj)} {σ : L2.St} {H : Hp} {s s' : Shared} {p : Addr} {out : List Value} {ys : List V} {c : Nat} (J : Inv X pins σ H s) (up : ∀ b o, s.heap.get? b = some o → s'.heap.get? b = some o) (g1 : s'.gens = s.gens) (o1 : s'.os = s.os) (le : s.heap.objs.size ≤ p)
    (at_ : s'.heap.get? p = some (seqObj "list" out.toArray c)) (rel : Vals ys out) (few : ys.length ≤ sizeLine) : Inv X pins σ (upd H p (.lst ys)) s' := by
  have free : H p = none := J.hok.fresh le
  have J2 : Inv X pins σ (upd H p (.lst ys)) { s with heap := s'.heap, gens := s'.gens, drawn := s'.drawn, toks := s'.toks } :=
    J.call (ch := []) (Un.laid up le free) (J.hok.laid up le ⟨few, out, c, rel, at_⟩) (by rw [g1]; exact J.bare) (fun _ z => nomatch z)
  have e : s' = { s with heap := s'.heap, gens := s'.gens, drawn := s'.drawn, toks := s'.toks } := by
    cases s'
    cases s
    cases o1
    rfl
  rw [e]
  exact J2
theorem tS_kind : ∀ b : List Str, ∃ xs, tS b = .tuple xs := fun b => ⟨_, rfl⟩
theorem cr_soT {X : Cx} (rm : X.A.units + 8 < cLine) : CallR X (.builtin "sorted") (rSoT X.K) := by
  rintro pins s σ H vs us Q J rv ⟨a, xs, ks, rfl, hs, hd, k⟩
  obtain rfl := Vals.ref1 rv
  obtain ⟨C, o, its, n, eC, rel, oh, oc, od, le, _⟩ := J_seq J hs
  have ev := each_tx J rel hd
  have lk : ks.length ≤ sizeLine := by rw [← ev.length]; exact le
  refine sort_gathered (enc := tS) (ks0 := ks) (R := TxV X H s) (.inl tS_kind) alike_tS (fun b => Nat.le_trans (depth_tS b) (by decide)) (fun v k r => by obtain ⟨_, _, _, r⟩ := r; exact r) lk rm (fun us pm => srtT_same pm) (fun T go => gathered eC oh oc od le fun s1 u1 u2 u3 u4 => go s1 its ks u1 u2 u3 u4 ev (List.Perm.refl _)) ?_
  intro s' p out c up g1 o1 lp at_ eo
  obtain ⟨ys, a1, a2, a3⟩ := tx_back eo
  have ly : ys.length ≤ sizeLine := by rw [a3, List.length_mergeSort]; exact lk
  exact ⟨.ref p, _, lay_sorted J up g1 o1 lp at_ a1 ly, rfl, k ys p (J.hok.fresh lp) a2⟩
/-- sorted(t), t a tuple or a list of texts -/
def srtS (k : List Str) : List Str := k.mergeSort (PySem.W.dataLe false PyData.str)
def rSoS1 (K : PySem.W.Frag) : List V → Hp → VK → Prop := fun vs H Q => ∃ (a : Addr) (k : List Str), vs = [.ref a] ∧ SqA K H a (k.map V.str) ∧ ∀ p, H p = none → Q (.ref p) (upd H p (.lst ((srtS k).map V.str)))
theorem sle_iff (a b : Str) : PySem.W.dataLe false PyData.str a b = true ↔ ¬ lts b a := by
  show (!PySem.W.dataLt (.str b) (.str a)) = true ↔ _
  rw [PySem.W.dataLt_str, Bool.not_eq_true', decide_eq_false_iff_not]
  exact Iff.rfl
theorem sle_trans (a b c : Str) (h : PySem.W.dataLe false PyData.str a b = true) (k : PySem.W.dataLe false PyData.str b c = true) : PySem.W.dataLe false PyData.str a c = true := by
  rw [sle_iff] at *
  intro z
  rcases lts_tri a b with y | y | y
  · exact k (lts_trans z y)
  · subst y; exact k z
  · exact h y
theorem sle_total (a b : Str) : (PySem.W.dataLe false PyData.str a b || PySem.W.dataLe false PyData.str b a) = true := by
  rw [Bool.or_eq_true, sle_iff, sle_iff]
  rcases lts_tri a b with y | y | y
  · exact .inl fun z => lts_irrefl _ (lts_trans y z)
  · subst y; exact .inl (lts_irrefl _)
  · exact .inr fun z => lts_irrefl _ (lts_trans y z)
theorem srtS_perm (ks : List Str) : (srtS ks).Perm ks := List.mergeSort_perm _ _
theorem srtS_le (ks : List Str) : (srtS ks).Pairwise fun a b => ¬ lts b a := (List.pairwise_mergeSort sle_trans sle_total ks).imp fun {a b} h => (sle_iff a b).mp h
theorem str_uniq {a b : List Str} (ha : a.Pairwise fun x y => ¬ lts y x) (hb : b.Pairwise fun x y => ¬ lts y x) (pm : a.Perm b) : a = b := by
  refine List.Perm.eq_of_pairwise (le := fun x y => ¬ lts y x) (fun x y _ _ h k => ?_) ha hb pm
  rcases lts_tri x y with z | z | z
  · exact absurd z k
  · exact z
  · exact absurd z h
theorem srtS_same {ks us : List Str} (h : ks.Perm us) : srtS ks = srtS us := str_uniq (srtS_le _) (srtS_le _) ((srtS_perm ks).trans (h.trans (srtS_perm us).symm))
theorem srtS_of {ks : List Str} (h : ks.Pairwise fun a b => ¬ lts b a) : srtS ks = ks := str_uniq (srtS_le _) h (srtS_perm ks)
theorem str_back : ∀ {ks : List Str} {us : List Value}, EachIs (fun v (x : Str) => ∃ t, v = .str x t) us ks → Vals (ks.map V.str) us
  | _, _, .nil => .nil
  | _, _, .cons ⟨t, e⟩ more => by subst e; exact .cons ⟨t, rfl⟩ (str_back more)
theorem str_each : ∀ {ks : List Str} {us : List Value}, Vals (ks.map V.str) us → EachIs (fun v (x : Str) => ∃ t, v = .str x t) us ks
  | [], _, .nil => .nil
  | x :: ks, _, .cons r t => by
    obtain ⟨u, rfl⟩ := r
    exact .cons ⟨u, rfl⟩ (str_each t)
theorem cr_soS1 {X : Cx} (rm : X.A.units + 8 < cLine) : CallR X (.builtin "sorted") (rSoS1 X.K) := by
  rintro pins s σ H vs us Q J rv ⟨a, ks, rfl, hs, k⟩
  obtain rfl := Vals.ref1 rv
  obtain ⟨C, o, its, n, eC, rel, oh, oc, od, le, _⟩ := J_seq J hs
  have ev := str_each rel
  have lk : ks.length ≤ sizeLine := by rw [← ev.length]; exact le
  refine sort_gathered (enc := PyData.str) (ks0 := ks) (R := fun v (x : Str) => ∃ t, v = .str x t) (.inr fun b => ⟨(fun z => nomatch z), fun _ z => nomatch z⟩) (fun a b => rfl) (fun b => Nat.zero_le _) (fun v k r => by obtain ⟨t, rfl⟩ := r; exact .str _ _) lk rm (fun us pm => srtS_same pm) (fun T go => gathered eC oh oc od le fun s1 u1 u2 u3 u4 => go s1 its ks u1 u2 u3 u4 ev (List.Perm.refl _)) ?_
  intro s' p out c up g1 o1 lp at_ eo
  have ly : ((srtS ks).map V.str).length ≤ sizeLine := by rw [List.length_map, (srtS_perm ks).length_eq]; exact lk
  exact ⟨.ref p, _, lay_sorted J up g1 o1 lp at_ (str_back eo) ly, rfl, k p (J.hok.fresh lp)⟩
/-! ### the set -/
structure Tab0 {P : Program} {w : World} (h : Heap) (a : Addr) (L : List (Addr × List Str)) : Prop where
  ex : ∃ (es : Array (Int × Value)) (ep : Nat) (t : SetTable), (∃ o, h.get? a = some o ∧ o.ExactSet ∧ o.data = .set es ep t) ∧ es.toList = rws (kS P w) L ∧ TabOk t (hss (kS P w) L) ∧ (L.map (·.2)).Nodup ∧
    (w.params.followText "set-order" = true ∨ t.led = true) ∧ L.length * 5 < t.mask * 3 ∧ L.length < 64
def SetST (P : Program) (w : World) (a : Addr) (L : List (Addr × List Str)) : HO := .ext fun h => Tab0 (P := P) (w := w) h a L
theorem tab0_of {P : Program} {w : World} {h : Heap} {a : Addr} {L : List (Addr × List Str)} {es : Array (Int × Value)} {ep : Nat} {t : SetTable} (Y : Tab (kS P w) h a L es ep t) : Tab0 (P := P) (w := w) h a L := ⟨es, ep, t, Y.here, Y.list, Y.tab, Y.once, Y.led, Y.room, Y.few⟩
theorem tab0_new {P : Program} {w : World} {H : Hp} {h : Heap} {a : Addr} {L : List (Addr × List Str)} (Y : Tab0 (P := P) (w := w) h a L) : ObjOk P w H h a (SetST P w a L) := by
  have ⟨es, ep, t, ⟨o, ho, r⟩, q⟩ := Y.ex
  refine ⟨Y, ⟨o, ho⟩, fun h1 h2 p k => ?_⟩
  have ⟨es', ep', t', ⟨o', ho', r'⟩, q'⟩ := Tab0.ex p
  exact ⟨es', ep', t', ⟨o', k o' ho', r'⟩, q'⟩
/-- the addresses behind tuples of texts -/
theorem pairs_of {K : PySem.W.Frag} {H : Hp} : ∀ {ks : List (List Str)} {xs : List V}, DtAll K H xs (ks.map tS) → ∃ es : List (Addr × List Str), xs = es.map (fun e => V.ref e.1) ∧ es.map (·.2) = ks ∧ ∀ e ∈ es, SqT K H e.1 (e.2.map V.str)
  | [], _, h => by cases h; exact ⟨[], rfl, rfl, fun _ z => nomatch z⟩
  | k :: ks, _, h => by
    cases h with
    | cons h1 h2 =>
      obtain ⟨t, rfl, ht⟩ := dt_tS h1
      obtain ⟨es, e1, e2, e3⟩ := pairs_of h2
      refine ⟨(t, k) :: es, by rw [e1] <;> rfl, by rw [List.map_cons, e2], fun e he => ?_⟩
      rcases List.mem_cons.mp he with rfl | he
      · exact ht
      · exact e3 e he
theorem refs_vals : ∀ {es : List (Addr × List Str)} {us : List Value}, Vals (es.map fun e => V.ref e.1) us → us = es.map fun e => Value.ref e.1
  | [], _, .nil => rfl
  | e :: es, _, .cons r t => by
    cases r
    rw [refs_vals t] <;> rfl
/-- set(xs) -/
def rSetST (K : PySem.W.Frag) (P : Program) (w : World) : List V → Hp → VK → Prop := fun vs H Q => ∃ (l : Addr) (xs : List V) (ks : List (List Str)), vs = [V.ref l] ∧ SqA K H l xs ∧ DtAll K H xs (ks.map tS) ∧ ks.length < 64 ∧
  ∀ a L, H a = none → (∀ e ∈ L, SqT K H e.1 (e.2.map V.str)) → (∀ k, k ∈ L.map (·.2) ↔ k ∈ ks) → Q (.ref a) (upd H a (SetST P w a L))
theorem cr_setST {X : Cx} (calm : X.calm = true) (rm : X.A.units + 64 < cLine) : CallR X (.type "set") (rSetST X.K X.prog X.w) := by
  rintro pins s σ H vs us Q J rv ⟨l, xs, ks, rfl, hs, hd, few, q⟩
  obtain rfl := Vals.ref1 rv
  obtain ⟨C, o, its, n, eC, rel, oh, oc, od, le, isL, isT⟩ := J_seq J hs
  obtain ⟨es, rfl, ek, et⟩ := pairs_of hd
  have lk : es.length < 64 := by rw [← ek, List.length_map] at few; exact few
  have keys : ∀ e ∈ es, (kS X.prog X.w).is s.heap e.2 e.1 := fun e he => (inv_strs J (et e he)).1
  have ei : its.toArray.toList = es.map fun e => Value.ref e.1 := by simpa using refs_vals rel
  have fin : ∀ (g : Heap) (tk : Nat) L es1 ep t, Tab (kS X.prog X.w) g s.heap.objs.size L es1 ep t → Has es es.length L → (∀ b o, s.heap.get? b = some o → g.get? b = some o) → ∃ x H', Inv X pins σ H' { s with heap := g, toks := tk } ∧ RelV x (.ref s.heap.objs.size) ∧ Q x H' := by
    intro g tk L es1 ep t Y has up
    refine ⟨.ref s.heap.objs.size, upd H s.heap.objs.size (SetST X.prog X.w s.heap.objs.size L), J.laid (t' := tk) up (Nat.le_refl _) (tab0_new (tab0_of Y)), rfl, q _ L (J.hok.fresh (Nat.le_refl _)) (fun e he => ?_) fun k => ?_⟩
    · exact et e (List.mem_of_mem_take (has.sub e he))
    · rw [← ek]
      constructor
      · intro hk
        obtain ⟨e, he, rfl⟩ := List.mem_map.mp hk
        exact List.mem_map.mpr ⟨e, List.mem_of_mem_take (has.sub e he), rfl⟩
      · intro hk
        obtain ⟨e, he, rfl⟩ := List.mem_map.mp hk
        exact has.all e (by rw [List.take_length]; exact he)
  have hr : (kS X.prog X.w).room X.A.in1.in1.in1 := by
    show X.A.units + 3 < cLine
    omega
  rcases eC with rfl | rfl
  · exact make_set fineS (srcL its.toArray) es (J.ok.hd calm) (isL rfl) ei keys lk hr fin
  · exact make_set fineS (srcT its.toArray) es (J.ok.hd calm) (isT rfl) ei keys lk hr fin
/-- sorted(set) -/
def rSoST (K : PySem.W.Frag) (P : Program) (w : World) : List V → Hp → VK → Prop := fun vs H Q => ∃ (a : Addr) (L : List (Addr × List Str)), vs = [V.ref a] ∧ H a = some (SetST P w a L) ∧ (∀ e ∈ L, SqT K H e.1 (e.2.map V.str)) ∧
  ∀ ys p, (L.map (·.2)).Nodup → H p = none → DtAll K H ys ((srtT (L.map (·.2))).map tS) → Q (.ref p) (upd H p (.lst ys))
theorem cr_soST {X : Cx} (calm : X.calm = true) (rm : X.A.units + 8 < cLine) : CallR X (.builtin "sorted") (rSoST X.K X.prog X.w) := by
  rintro pins s σ H vs us Q J rv ⟨a, L, rfl, ha, et, q⟩
  obtain rfl := Vals.ref1 rv
  have Y0 : Tab0 (P := X.prog) (w := X.w) s.heap a L := (J.hok a _ ha).1
  obtain ⟨es, ep, t, h1, h2, h3, h4, h5, h6, h7⟩ := Y0.ex
  have keys : ∀ e ∈ L, (kS X.prog X.w).is s.heap e.2 e.1 := fun e he => (inv_strs J (et e he)).1
  have Y : Tab (kS X.prog X.w) s.heap a L es ep t := ⟨h1, h2, h3, h4, keys, h5, h6, h7⟩
  obtain ⟨o, oh, ex, od⟩ := h1
  have zs := Y.size
  have val : es.toList.map (·.2) = L.map fun e => Value.ref e.1 := by
    rw [h2]
    unfold rws
    rw [List.map_map] <;> rfl
  have ord : ∀ vs : List Value, (∀ v ∈ vs, ∃ e ∈ L, v = Value.ref e.1) → ∃ M : List (Addr × List Str), vs = M.map (fun e => Value.ref e.1) ∧ ∀ e ∈ M, e ∈ L := by
    intro vs
    induction vs with
    | nil => exact fun _ => ⟨[], rfl, fun _ z => nomatch z⟩
    | cons v vs ih =>
      intro hv
      obtain ⟨e, he, ev⟩ := hv v List.mem_cons_self
      obtain ⟨M, m1, m2⟩ := ih fun u hu => hv u (List.mem_cons_of_mem _ hu)
      refine ⟨e :: M, by rw [List.map_cons, ev, m1], fun r hr => ?_⟩
      rcases List.mem_cons.mp hr with z | z
      · rw [z]; exact he
      · exact m2 r z
  have one : ∀ e ∈ L, ∀ r ∈ L, e.1 = r.1 → e = r := fun e he r hr z => by
    have a1 := keys e he
    have a2 := keys r hr
    rw [z] at a1
    exact Prod.ext z ((kS X.prog X.w).inj a1 a2)
  have back : ∀ M : List (Addr × List Str), (∀ e ∈ M, e ∈ L) → (M.map (fun e => Value.ref e.1)).Perm (L.map fun e => Value.ref e.1) → M.Perm L := by
    intro M sub pm
    have nL : L.Nodup := nodup_of_map h4
    have nr : (L.map fun e => Value.ref e.1).Nodup := by
      refine List.pairwise_map.mpr (List.Pairwise.imp_of_mem (fun {e r} he hr ne z => ?_) nL)
      injection z with z
      exact ne (one e he r hr z)
    have nM : M.Nodup := nodup_of_map (pm.nodup_iff.mpr nr)
    refine (List.perm_ext_iff_of_nodup nM nL).mpr fun e => ⟨sub e, fun he => ?_⟩
    obtain ⟨r, hr, z⟩ := List.mem_map.mp (pm.mem_iff.mpr (List.mem_map.mpr ⟨e, he, rfl⟩))
    injection z with z
    rw [← one r (sub r hr) e he z]
    exact hr
  have each : ∀ M : List (Addr × List Str), (∀ e ∈ M, e ∈ L) → EachIs (TxV X H s) (M.map fun e => Value.ref e.1) (M.map (·.2)) := by
    intro M
    induction M with
    | nil => exact fun _ => .nil
    | cons e M ih => exact fun sub => .cons ⟨e.1, rfl, et e (sub e List.mem_cons_self), (inv_strs J (et e (sub e List.mem_cons_self))).2⟩ (ih fun r hr => sub r (List.mem_cons_of_mem _ hr))
  have lk : (L.map (·.2)).length ≤ sizeLine := by rw [List.length_map, sizeLine_eq]; omega
  refine sort_gathered (enc := tS) (ks0 := L.map (·.2)) (R := TxV X H s) (.inl tS_kind) alike_tS (fun b => Nat.le_trans (depth_tS b) (by decide)) (fun v k r => by obtain ⟨_, _, _, r⟩ := r; exact r) lk rm (fun us pm => srtT_same pm) (fun T go => ?_) ?_
  · refine collect_set (A := X.A.in1) (J.ok.hd calm) ⟨o, oh, ex.1, od⟩ Y.fits (by unfold scanBound; omega) h3.ris h5 fun s1 vs u1 u2 u3 u4 pm => ?_
    rw [val] at pm
    obtain ⟨M, rfl, sub⟩ := ord vs fun v hv => by
      obtain ⟨e, he, rfl⟩ := List.mem_map.mp (pm.mem_iff.mp hv)
      exact ⟨e, he, rfl⟩
    exact go s1 _ (M.map (·.2)) u1 u2 u3 u4 (each M sub) ((back M sub pm).map (·.2))
  · intro s' p out c up g1 o1 lp at_ eo
    obtain ⟨ys, a1, a2, a3⟩ := tx_back eo
    have ly : ys.length ≤ sizeLine := by rw [a3, List.length_mergeSort]; exact lk
    exact ⟨.ref p, _, lay_sorted J up g1 o1 lp at_ a1 ly, rfl, q ys p h4 (J.hok.fresh lp) a2⟩
section
variable {c : Cd} {H : Hp} {Q : VK}
theorem rc_sortT {a : Addr} {xs : List V} {ks : List (List Str)} (hs : SqA c.K H a xs) (hd : DtAll c.K H xs (ks.map tS)) (q : ∀ p ys H1, Same H H1 → H p = none → H1 p = some (.lst ys) → DtAll c.K H1 ys ((srtT ks).map tS) → Q (.ref p) H1) : RC c (.builtin "sorted") [.ref a] H Q :=
  rc_of (r := rSoT c.K) (fun X h => by rw [← h.K]; exact cr_soT (by have := h.room.units; omega)) ⟨a, xs, ks, rfl, hs, hd, fun ys p hp h1 => q p ys _ (same_new hp) hp upd_same (h1.mono (tp_same (same_new hp)))⟩
theorem rc_sortS1 {a : Addr} {k : List Str} (hs : SqA c.K H a (k.map V.str)) (q : ∀ p, H p = none → Q (.ref p) (upd H p (.lst ((srtS k).map V.str)))) : RC c (.builtin "sorted") [.ref a] H Q :=
  rc_of (r := rSoS1 c.K) (fun X h => by rw [← h.K]; exact cr_soS1 (by have := h.room.units; omega)) ⟨a, k, rfl, hs, q⟩
/-- a set of tuples of texts stands at a -/
def IsST (c : Cd) (H : Hp) (a : Addr) (ks : List (List Str)) : Prop := ∃ L, H a = some (SetST c.prog c.w a L) ∧ (∀ e ∈ L, SqT c.K H e.1 (e.2.map V.str)) ∧ ∀ k, k ∈ L.map (·.2) ↔ k ∈ ks
theorem rc_setST {a : Addr} {xs : List V} {ks : List (List Str)} (hs : SqA c.K H a xs) (hd : DtAll c.K H xs (ks.map tS)) (few : ks.length < 64) (q : ∀ p H1, Same H H1 → H p = none → IsST c H1 p ks → Q (.ref p) H1) : RC c (.type "set") [.ref a] H Q :=
  rc_of (r := rSetST c.K c.prog c.w) (fun X h => by rw [← h.K, ← h.prog, ← h.w]; exact cr_setST h.calm (by have := h.room.units; omega)) ⟨a, xs, ks, rfl, hs, hd, few, fun p L hp h1 h2 =>
    q p _ (same_new hp) hp ⟨L, upd_same, fun e he => (tp_same (same_new hp)).sqt (h1 e he), h2⟩⟩
theorem rc_sortST {a : Addr} {ks : List (List Str)} (hs : IsST c H a ks) (q : ∀ p ys H1 (us : List (List Str)), Same H H1 → H p = none → H1 p = some (.lst ys) → us.Pairwise (List.Lex lts) → (∀ k, k ∈ us ↔ k ∈ ks) → DtAll c.K H1 ys (us.map tS) → Q (.ref p) H1) : RC c (.builtin "sorted") [.ref a] H Q := by
  obtain ⟨L, h1, h2, h3⟩ := hs
  exact rc_of (r := rSoST c.K c.prog c.w) (fun X h => by rw [← h.K, ← h.prog, ← h.w]; exact cr_soST h.calm (by have := h.room.units; omega)) ⟨a, L, rfl, h1, h2, fun ys p nd hp hy =>
    q p ys _ (srtT (L.map (·.2))) (same_new hp) hp upd_same (srtT_asc nd) (fun k => by rw [(srtT_perm _).mem_iff]; exact h3 k) (hy.mono (tp_same (same_new hp)))⟩
end
end G

namespace G
open PySem PySem.Spec PyProof.Rows L2
/-! ### comprehensions with two loops over lists or tuples of data -/
def SqB (t : Bool) (K : PySem.W.Frag) (H : Hp) (a : Addr) (xs : List V) : Prop := if t = true then SqT K H a xs else SqL K H a xs
theorem SqB.a {t : Bool} {K : PySem.W.Frag} {H : Hp} {a : Addr} {xs : List V} (h : SqB t K H a xs) : SqA K H a xs := by
  cases t with
  | true => exact .inr h
  | false => exact .inl h
theorem SqB.same {t : Bool} {K : PySem.W.Frag} {H H' : Hp} {a : Addr} {xs : List V} (h : SqB t K H a xs) (s : Same H H') : SqB t K H' a xs := by
  cases t with
  | true => exact (tp_same s).sqt h
  | false => exact s.seq h
structure Over (J : It) (t : Bool) (K : PySem.W.Frag) (a : Addr) (xs : List V) : Prop where
  stop : ∀ i H, SqB t K H a xs → xs.length ≤ i → J.stop i H
  go : ∀ i H x, SqB t K H a xs → xs[i]? = some x → J.go i H
  yld : ∀ i H x H', SqB t K H a xs → J.yld i H x H' → H' = H ∧ xs[i]? = some x
theorem over_of (t : Bool) (K : PySem.W.Frag) (a : Addr) (xs : List V) : Over (if t = true then Itt K a else Itl K a) t K a xs := by
  cases t with
  | true => exact ⟨fun i H s l => ⟨xs, s, l⟩, fun i H x s e => ⟨xs, x, s, e⟩, fun i H x H' s y => ⟨y.1, y.2 xs s⟩⟩
  | false => exact ⟨fun i H s l => ⟨xs, s, l⟩, fun i H x s e => ⟨xs, x, s, e⟩, fun i H x H' s y => ⟨y.1, y.2 xs s⟩⟩
theorem SqB.kp {t : Bool} {K : PySem.W.Frag} {H H' : Hp} {a D : Addr} {xs : List V} (h : SqB t K H a xs) (k : Kp D H H') (ne : t = false → a ≠ D) : SqB t K H' a xs := by
  cases t with
  | true => exact k.t.sqt h
  | false =>
    have ne := ne rfl
    rcases (show SqL K H a xs from h) with (h | ⟨o, h⟩) | h
    · exact .inl (.inl (k.k _ _ ne h))
    · exact .inl (.inr ⟨o, k.k _ _ ne h⟩)
    · exact .inr h
section
variable {c : Cd} {σ : L2.St} {H : Hp} {Q : VK} {pos : Pos}
theorem i_over (t : Bool) {tg l : Expr} {R : It → Hp → Prop} (q : RE c l σ H fun x H1 => ∃ a xs, x = .ref a ∧ SqB t c.K H1 a xs ∧ ∀ J, Over J t c.K a xs → R J H1) : RI c tg l σ H R := by
  cases t with
  | true =>
    refine i_tup (RE.mono (fun x H1 z => ?_) q)
    obtain ⟨a, xs, rfl, hs, r⟩ := z
    exact ⟨a, rfl, ⟨xs, hs⟩, r _ (over_of true _ _ _)⟩
  | false =>
    refine i_list (RE.mono (fun x H1 z => ?_) q)
    obtain ⟨a, xs, rfl, hs, r⟩ := z
    exact ⟨a, rfl, ⟨xs, hs⟩, r _ (over_of false _ _ _)⟩
theorem e_lc2 {elt tg iter tg1 iter1 : Expr} {ifs ifs1 : List Expr} {scope : Scope} {own : List (Str × Nat)} {vs1 : List Nat} (ok : Blk c scope own) (hv : ∀ i ∈ vs1, i ∈ own.map (·.2))
    (q : tLc2 (RI c tg iter) (RG (blkCd c scope) tg) (RTs (blkCd c scope) ifs) (RI (blkCd c scope) tg1 iter1) (RG (blkCd c scope) tg1) (RTs (blkCd c scope) ifs1) (RE (blkCd c scope) elt) (own.map (·.2)) vs1 σ H Q) (hs : ∀ env x, foldedSetIterable iter env x = pure x := by intro _ _; rfl) (hs1 : ∀ env x, foldedSetIterable iter1 env x = pure x := by intro _ _; rfl) :
    RE c (.ListComp elt [⟨tg, iter, ifs, 0⟩, ⟨tg1, iter1, ifs1, 0⟩] scope pos) σ H Q :=
  re_of (fun X h => pe_lc2 h.calm (by rw [h.N]; exact h.nd) (pi_ri h) (by rw [h.N, h.sc]; exact ok.ok) hv (fun s H C cl fp => pg_rg (is_blk h s H C cl fp)) (fun s H C cl fp => pts_rts (is_blk h s H C cl fp)) (fun s H C cl fp => pi_ri (is_blk h s H C cl fp)) (fun s H C cl fp => pg_rg (is_blk h s H C cl fp)) (fun s H C cl fp => pts_rts (is_blk h s H C cl fp)) (fun s H C cl fp => pe_re (is_blk h s H C cl fp)) (hs _) hs1) q
def sumL : List Nat → Nat
  | [] => 0
  | n :: l => n + sumL l
theorem sumL_split {f : PyData → Nat} : ∀ {ds : List PyData} {i : Nat} {d : PyData}, ds[i]? = some d → sumL ((ds.take i).map f) + f d ≤ sumL (ds.map f)
  | [], i, d, h => by simp at h
  | e :: ds, 0, d, h => by
    simp at h
    subst h
    show 0 + f e ≤ f e + _
    omega
  | e :: ds, i + 1, d, h => by
    have := sumL_split (f := f) (ds := ds) (i := i) (d := d) (by simpa using h)
    show f e + sumL ((ds.take i).map f) + f d ≤ f e + sumL (ds.map f)
    omega
theorem flat_len {g : PyData → PyData → Option PyData} {es : PyData → List PyData} : ∀ ds : List PyData, (ds.flatMap fun d => (es d).filterMap (g d)).length ≤ sumL (ds.map fun d => (es d).length)
  | [] => Nat.le_refl _
  | d :: ds => by
    have := flat_len (g := g) (es := es) ds
    have := List.length_filterMap_le (g d) (es d)
    rw [List.flatMap_cons, List.length_append, List.map_cons]
    show _ ≤ (es d).length + sumL _
    omega
theorem lc2_F (t t1 : Bool) (g : PyData → PyData → Option PyData) (es : PyData → List PyData) {elt tg iter tg1 iter1 : Expr} {ifs1 : List Expr} {scope : Scope} {vs vs1 : List Nat}
    (q : RE c iter σ H fun x H1 => ∃ l xs ds, x = .ref l ∧ SqB t c.K H1 l xs ∧ DtAll c.K H1 xs ds ∧ sumL (ds.map fun d => (es d).length) ≤ 1000 ∧
      (∀ d v H', d ∈ ds → Same H1 H' → Dt c.K H' v d → RG (blkCd c scope) tg v (wipe σ vs) H' fun σ2 H2 => H2 = H' ∧ wipe σ2 vs = wipe σ vs ∧
        RE (blkCd c scope) iter1 σ2 H' fun y H3 => Same H' H3 ∧ ∃ l2 ys, y = .ref l2 ∧ SqB t1 c.K H3 l2 ys ∧ (t1 = false → H1 l2 ≠ none ∨ H' l2 = none) ∧ DtAll c.K H3 ys (es d) ∧
        ∀ e u H4, e ∈ es d → Same H1 H4 → Tp H3 H4 → Dt c.K H4 u e → TurnF (blkCd c scope) tg1 ifs1 elt vs1 σ2 c.K u H4 (g d e)) ∧
      ∀ p us H3, Same H1 H3 → H1 p = none → H3 p = some (.lst us) → DtAll c.K H3 us (ds.flatMap fun d => (es d).filterMap (g d)) → Q (.ref p) H3) :
    tLc2 (RI c tg iter) (RG (blkCd c scope) tg) (RTs (blkCd c scope) []) (RI (blkCd c scope) tg1 iter1) (RG (blkCd c scope) tg1) (RTs (blkCd c scope) ifs1) (RE (blkCd c scope) elt) vs vs1 σ H Q := by
  refine i_over t (RE.mono (fun x H1 z => ?_) q)
  obtain ⟨l, xs, ds, rfl, hs, hd, few, tn, k⟩ := z
  refine ⟨l, xs, rfl, hs, fun J ov D hD => ?_⟩
  have lx := hd.len
  refine ⟨fun i m H' => m = xs.length - i ∧ i ≤ xs.length ∧ ∃ acc, H' D = some (.lst acc) ∧ Same H1 H' ∧ DtAll c.K H' acc ((ds.take i).flatMap fun d => (es d).filterMap (g d)), ⟨xs.length, by simp, Nat.zero_le _, [], upd_same, same_new hD, .nil⟩, ?_⟩
  rintro i m H2 ⟨rfl, hi, acc, ha, s2, h2⟩
  by_cases lt : i < xs.length
  · obtain ⟨d, hdi, hx⟩ := hd.getV (List.getElem?_eq_getElem lt)
    refine .inr ⟨ov.go i H2 xs[i] (hs.same s2) (List.getElem?_eq_getElem lt), fun H' => ∃ acc, H' D = some (.lst acc) ∧ Same H1 H' ∧ DtAll c.K H' acc ((ds.take (i + 1)).flatMap fun d => (es d).filterMap (g d)), fun H' ⟨acc, z1, z2, z3⟩ => ⟨xs.length - (i + 1), by omega, rfl, lt, acc, z1, z2, z3⟩, ?_⟩
    rintro y H3 yy
    obtain ⟨rfl, ey⟩ := ov.yld i H2 y H3 (hs.same s2) yy
    rw [List.getElem?_eq_getElem lt] at ey
    cases ey
    refine RG.mono (fun σ2 H4 z => ?_) (tn d xs[i] _ (List.mem_of_getElem? hdi) s2 (hx.mono (tp_same s2)))
    obtain ⟨rfl, w1, z⟩ := z
    refine ⟨w1, ts_nil ?_⟩
    rw [if_pos rfl]
    refine i_over t1 (RE.mono (fun y H5 z => ?_) z)
    obtain ⟨s5, l2, ys, rfl, hs2, own, hd2, tn2⟩ := z
    refine ⟨l2, ys, rfl, hs2, fun J1 ov1 => ?_⟩
    have ly := hd2.len
    have e1 : (ds.take (i + 1)).flatMap (fun d => (es d).filterMap (g d)) = ((ds.take i).flatMap fun d => (es d).filterMap (g d)) ++ (es d).filterMap (g d) := by
      obtain ⟨h1, rfl⟩ := List.getElem?_eq_some_iff.mp hdi
      rw [List.take_succ_eq_append_getElem h1, List.flatMap_append, List.flatMap_cons, List.flatMap_nil, List.append_nil]
    have ne : t1 = false → l2 ≠ D := fun z e => by
      rcases own z with y | y
      · rw [e] at y; exact y hD
      · rw [e, ha] at y; cases y
    have many : ((ds.take i).flatMap fun d => (es d).filterMap (g d)).length + (es d).length ≤ 1000 := by
      have z1 := flat_len (g := g) (es := es) (ds.take i)
      have z2 := sumL_split (f := fun d => (es d).length) hdi
      omega
    refine ⟨fun j m H' => m = ys.length - j ∧ j ≤ ys.length ∧ Kp D H5 H' ∧ Same H1 H' ∧ ∃ acc, H' D = some (.lst acc) ∧ DtAll c.K H' acc (((ds.take i).flatMap fun d => (es d).filterMap (g d)) ++ ((es d).take j).filterMap (g d)), ⟨ys.length, by simp, Nat.zero_le _, Kp.refl _ _, s2.trans s5, acc, s5 _ _ ha, by simpa using h2.mono (tp_same s5)⟩, ?_⟩
    rintro j m H7 ⟨rfl, hj, k7, s7, acc7, ha7, h7⟩
    have hs7 := hs2.kp k7 ne
    by_cases lj : j < ys.length
    · obtain ⟨e, hei, hy⟩ := hd2.getV (List.getElem?_eq_getElem lj)
      refine .inr ⟨ov1.go j H7 ys[j] hs7 (List.getElem?_eq_getElem lj), fun H' => Kp D H5 H' ∧ Same H1 H' ∧ ∃ acc, H' D = some (.lst acc) ∧ DtAll c.K H' acc (((ds.take i).flatMap fun d => (es d).filterMap (g d)) ++ ((es d).take (j + 1)).filterMap (g d)), fun H' ⟨z1, z2, acc, z3, z4⟩ => ⟨ys.length - (j + 1), by omega, rfl, lj, z1, z2, acc, z3, z4⟩, ?_⟩
      rintro u H8 yy
      obtain ⟨rfl, eu⟩ := ov1.yld j H7 u H8 hs7 yy
      rw [List.getElem?_eq_getElem lj] at eu
      cases eu
      have st := outs_step (g := g d) hei
      refine RG.mono (fun σ3 H9 z => ?_) (tn2 e ys[j] _ (List.mem_of_getElem? hei) s7 k7.t (hy.mono k7.t))
      obtain ⟨rfl, w3, z⟩ := z
      refine ⟨w3, RTs.mono (fun b H10 z => ?_) z⟩
      obtain ⟨s10, z⟩ := z
      cases b with
      | true =>
        rw [if_pos rfl] at z ⊢
        refine RE.mono (fun w H11 z => ?_) z
        obtain ⟨s11, o, eo, ho⟩ := z
        have aD := s11 _ _ (s10 _ _ ha7)
        have ku := kp_upd (o' := .lst (acc7 ++ [w])) aD (fun _ e => nomatch e) (fun _ _ e => nomatch e)
        have l7 := h7.len
        rw [List.length_append] at l7
        have l8 : (((es d).take j).filterMap (g d)).length ≤ (es d).length := Nat.le_trans (List.length_filterMap_le _ _) (by rw [List.length_take]; omega)
        refine ⟨acc7, aD, Nat.lt_of_le_of_lt (show acc7.length ≤ 1000 by omega) (by decide), (k7.trans (kp_same (s10.trans s11))).trans ku, same_mut (s7.trans (s10.trans s11)) hD, _, upd_same, ?_⟩
        rw [← st, eo, ← List.append_assoc]
        exact ((h7.mono (tp_same (s10.trans s11))).mono ku.t).app (.cons (ho.mono ku.t) .nil)
      | false =>
        rw [if_neg Bool.false_ne_true] at z ⊢
        refine ⟨k7.trans (kp_same s10), s7.trans s10, acc7, s10 _ _ ha7, ?_⟩
        rw [← st, z, Option.toList_none, List.append_nil]
        exact h7.mono (tp_same s10)
    · have ej : j = ys.length := by omega
      subst ej
      rw [ly, List.take_length] at h7
      exact .inl ⟨ov1.stop _ H7 hs7 (Nat.le_refl _), acc7, ha7, s7, by rw [e1]; exact h7⟩
  · have e : i = xs.length := by omega
    subst e
    rw [lx, List.take_length] at h2
    exact .inl ⟨ov.stop _ H2 (hs.same s2) (Nat.le_refl _), k D acc H2 s2 hD ha h2⟩
theorem sw_cell {elt : Expr} {gs : List Comprehension} {scope : Scope} {pos py : Pos} {y : Str} {l : Nat} {env : Env} (hy : env.scope.names.lookup y = some .cell) : swapsWith (.ListComp elt gs scope pos) (some (.Name y py)) l env = pure false := by
  have ky : env.kindOf y = some .cell := hy
  unfold swapsWith
  simp only [ky]
  have e : (some NameKind.cell == some NameKind.local) = false := rfl
  simp only [e, Bool.and_false, Bool.false_and]
/-- a comprehension stored in a name that an inner block looks at -/
theorem s_asgC {D : Ends} {y : Str} {py spos : Pos} {elt : Expr} {gs : List Comprehension} {scope : Scope} (q : RE c (.ListComp elt gs scope pos) σ H fun x H1 => RG c (.Name y py) x σ H1 D.nx) (hy : c.sc.names.lookup y = some .cell := by rfl) (hw : ∀ env, swappedStores [.Name y py] (.ListComp elt gs scope pos) env = pure none := by intro _; rfl)
    (h1 : ∀ env, (assignEach [.Name y py] env).map (·.2) = [assign (.Name y py) env] := by intro _; rfl) : RS c (.Assign [.Name y py] (.ListComp elt gs scope pos) spos) D σ H :=
  rs_of (fun X h => ps_asg (pe_re h) (pg_rg h) (show swapsWith (.ListComp elt gs scope pos) (some (.Name y py)) spos.line X.env = pure false from sw_cell (by rw [h.sc]; exact hy)) (hw _) (h1 _)) q
end
end G

namespace G
open PySem PySem.Spec PyProof.Rows L2 SH
section
variable {c : Cd} {H : Hp} {Q : VK}
theorem inVS (w : Str) (l : List Str) : inV (.str w) (l.map .str) = decide (w ∈ l) := by
  unfold inV
  rw [Bool.eq_iff_iff, List.any_eq_true, decide_eq_true_iff]
  constructor
  · rintro ⟨y, hy, h⟩
    obtain ⟨z, hz, rfl⟩ := List.mem_map.mp hy
    have : z = w := by simpa [eqV] using h
    rw [← this]; exact hz
  · intro h
    exact ⟨.str w, List.mem_map.mpr ⟨w, h, rfl⟩, by simp [eqV]⟩
theorem flatS (l : List Str) : (l.map V.str).all flatV = true := by
  rw [List.all_eq_true]
  intro x hx
  obtain ⟨s, _, rfl⟩ := List.mem_map.mp hx
  rfl
theorem ro_inSA {a : Addr} {w : Str} {ws : List Str} (hs : SqA c.K H a (ws.map V.str)) (q : Q (.bl (decide (w ∈ ws))) H) : RQ c .In (.str w) (.ref a) H Q := by
  refine rq_of (r := rIn c.K false) (fun X h => by rw [← h.K]; exact op_in_seq) ⟨a, _, rfl, hs, rfl, flatS ws, ?_⟩
  show Q (.bl (inV (.str w) (ws.map .str))) H
  rw [inVS]
  exact q
theorem ro_ninSA {a : Addr} {w : Str} {ws : List Str} (hs : SqA c.K H a (ws.map V.str)) (q : Q (.bl (!decide (w ∈ ws))) H) : RQ c .NotIn (.str w) (.ref a) H Q := by
  refine rq_of (r := rIn c.K true) (fun X h => by rw [← h.K]; exact op_notIn_seq) ⟨a, _, rfl, hs, rfl, flatS ws, ?_⟩
  show Q (.bl (!inV (.str w) (ws.map .str))) H
  rw [inVS]
  exact q
theorem ro_inS {v : V} {w : Str} {ws : List Str} (hx : Dt c.K H v (tS ws)) (q : Q (.bl (decide (w ∈ ws))) H) : RQ c .In (.str w) v H Q := by
  obtain ⟨t, rfl, ht⟩ := dt_tS hx
  exact ro_inSA (.inr ht) q
theorem ro_ninS {v : V} {w : Str} {ws : List Str} (hx : Dt c.K H v (tS ws)) (q : Q (.bl (!decide (w ∈ ws))) H) : RQ c .NotIn (.str w) v H Q := by
  obtain ⟨t, rfl, ht⟩ := dt_tS hx
  exact ro_ninSA (.inr ht) q
end
end G
namespace K
open PySem PySem.Spec PyProof.Rows L2 G SH
variable {M : Md}
/-! ### a program, as orders see it -/
def rrD (r : Str × List PyData) : PyData := .tuple (.str r.1 :: r.2)
def ogD (c : PyData) (rr : List (Str × List PyData)) (ps : List (Str × Str)) (more : List PyData) : PyData := .tuple (c :: .tuple (rr.map rrD) :: pairsD ps :: more)
def nmsO (rr : List (Str × List PyData)) : List Str := rr.map (·.1)
structure OgOk (ns : List Str) (ps : List (Str × Str)) : Prop where
  asc : ns.Pairwise lts
  few : ns.length ≤ 5
  in2 : OM.In2 ns ps
  pl : ps.length ≤ 40
  ok : ∀ n ∈ ns, PyData.strOk n = true
theorem OgOk.nd {ns : List Str} {ps : List (Str × Str)} (O : OgOk ns ps) : ns.Nodup := O.asc.imp fun {a b} h (e : a = b) => lts_irrefl b (by rw [e] at h; exact h)
def rNames : List PyData → PyData → Prop := fun ds d => ∃ c rr ps more, ds = [ogD c rr ps more] ∧ rr.length ≤ 6 ∧ d = tS (nmsO rr)
theorem ok_names {f fd} (F : Fun M.K "rule_names" "rule_names" s_rule_names f fd) (b : Bl M) : FnG M.prog M.w M.K M.mg M.base CX0 1 f fd ["program"] (spF rNames M.K) := by
  refine fn_ok F sc_rule_names (fun vs H Q E h => ?_) (fun H vs Q E h => ?_)
  · obtain ⟨ds, d, h, ⟨_, _, _, _, rfl, _⟩, _⟩ := h
    exact h.len
  obtain ⟨ds, d, h, ⟨c, rr, ps, more, rfl, few, rfl⟩, k⟩ := h
  obtain _ | ⟨hp, h⟩ := h
  cases h
  tm_at "go"
  refine e_lc (own := [("rule", 1)]) (Blk.of (N := N_rule_names) (sc := defScope s_rule_names) rfl rfl (by decide +kernel)) ?_
  refine lcT_F (fun d => match d with | .tuple (x :: _) => some x | _ => none) ?_
  tm_at "go"
  refine rx_tup hp (d := .tuple (rr.map rrD)) (pl_at (j := 1) rfl rfl) fun v1 h1 => ?_
  refine ⟨_, h1, by rw [List.length_map]; omega, fun d x H' hd s hx => ?_, fun p us H2 s2 n2 g2 h2 => ?_⟩
  · obtain ⟨r, hr, rfl⟩ := List.mem_map.mp hd
    refine g_name (by tm_at "at") ⟨rfl, rfl, ts_nil ⟨Same.refl _, ?_⟩⟩
    rw [if_pos rfl]
    tm_at "go"
    refine rx_str (n := r.1) hx (pl_at (j := 0) rfl rfl) ?_
    exact ⟨Same.refl _, _, rfl, .str _⟩
  · tm_at "go"
    refine rc_tupL (.of g2) h2 fun v H3 s3 h3 => ?_
    refine k v H3 (s2.trans s3) ?_
    have e : (rr.map rrD).filterMap (fun d => match d with | .tuple (x :: _) => some x | _ => none) = (nmsO rr).map .str := by
      clear hp h1 h2 h3 k
      induction rr with
      | nil => rfl
      | cons r rr ih => 
        have := ih (by rw [List.length_cons] at few; omega)
        simp only [List.map_cons, List.filterMap_cons, rrD, nmsO] at this ⊢
        rw [this]
    rw [e] at h3
    exact h3
abbrev dcNames (M : Md) : Prop := Dc M "rule_names" ["program"] 1 (spF rNames M.K)
def rNext : List PyData → PyData → Prop := fun ds d => ∃ c rr ps more p, ds = [ogD c rr ps more, tS p] ∧ rr.length ≤ 6 ∧ ps.length ≤ 40 ∧ d = tS (OM.nxt (nmsO rr) ps p)
theorem filter_strs (f : Str → Bool) : ∀ l : List Str, ((l.map PyData.str).filterMap fun d => match d with | .str x => if f x = true then some (PyData.str x) else none | _ => none) = (l.filter f).map .str
  | [] => rfl
  | x :: l => by
    rw [List.map_cons, List.filterMap_cons, List.filter_cons, filter_strs f l]
    by_cases h : f x = true
    · simp only [h, if_true]
      rfl
    · simp only [h, if_false]
      rfl
def gBar (p : List Str) (d : PyData) : Option PyData := match d with
  | .tuple [.str a, .str b] => if (!decide (a ∈ p)) = true then some (.str b) else none
  | _ => none
theorem bar_eq (p : List Str) : ∀ ps : List (Str × Str), (ps.map prS).filterMap (gBar p) = ((ps.filter fun q => !decide (q.1 ∈ p)).map (·.2)).map .str
  | [] => rfl
  | q :: ps => by
    rw [List.map_cons, List.filterMap_cons, List.filter_cons, bar_eq p ps]
    by_cases h : (!decide (q.1 ∈ p)) = true
    · have e : gBar p (prS q) = some (.str q.2) := by
        show (if (!decide (q.1 ∈ p)) = true then some (PyData.str q.2) else none) = _
        rw [if_pos h]
      rw [e, if_pos h]
      rfl
    · have e : gBar p (prS q) = none := by
        show (if (!decide (q.1 ∈ p)) = true then some (PyData.str q.2) else none) = _
        rw [if_neg h]
      rw [e, if_neg h]
theorem nxt_bar (ns : List Str) (ps : List (Str × Str)) (p : List Str) : (ns.filter fun n => !decide (n ∈ p) && !decide (n ∈ (ps.filter fun q => !decide (q.1 ∈ p)).map (·.2))) = OM.nxt ns ps p := by
  unfold OM.nxt
  refine List.filter_congr fun n _ => ?_
  congr 1
  · by_cases h : n ∈ p <;> simp [h]
  · rw [Bool.eq_iff_iff, Bool.not_eq_true', decide_eq_false_iff_not, List.all_eq_true]
    constructor
    · intro h q hq
      rw [decide_eq_true_eq]
      intro e
      by_cases z : q.1 ∈ p
      · exact z
      · exact absurd (List.mem_map.mpr ⟨q, List.mem_filter.mpr ⟨hq, by simp [z]⟩, e⟩) h
    · intro h z
      obtain ⟨q, hq, e⟩ := List.mem_map.mp z
      obtain ⟨h1, h2⟩ := List.mem_filter.mp hq
      have := h q h1
      rw [decide_eq_true_eq] at this
      simp [this e] at h2
theorem ok_next {f fd} (F : Fun M.K "next_rules" "next_rules" s_next_rules f fd) (b : Bl M) (dn : dcNames M) : FnG M.prog M.w M.K M.mg M.base CX0 2 f fd ["program", "prefix"] (spF rNext M.K) := by
  refine fn_ok F sc_next_rules (fun vs H Q E h => ?_) (fun H vs Q E h => ?_)
  · obtain ⟨ds, d, h, ⟨_, _, _, _, _, rfl, _⟩, _⟩ := h
    exact h.len
  obtain ⟨ds, d, h, ⟨c, rr, ps, more, p, rfl, few, pl, rfl⟩, k⟩ := h
  obtain _ | ⟨hp, h⟩ := h
  obtain _ | ⟨hq, h⟩ := h
  cases h
  rename_i vp vq
  refine b_cut (fun σ1 H1 => ∃ (l : Addr), σ1 = [some vp, some vq, some (.ref l), none, none, none] ∧ Same H H1 ∧ H1 l = some (.lst (((ps.filter fun q => !decide (q.1 ∈ p)).map (·.2)).map V.str))) ?_ ?_
  · refine s_asgC (e_lc (own := [("one", 3), ("other", 4)]) (Blk.of (N := N_next_rules) (sc := defScope s_next_rules) rfl rfl (by decide +kernel)) ?_)
    refine lcT_F (gBar p) ?_
    tm_at "go"
    refine rx_tup hp (d := pairsD ps) (pl_at (j := 2) rfl rfl) fun v1 h1 => ?_
    refine ⟨ps.map prS, h1, by rw [List.length_map]; omega, fun d x H' hd s hx => ?_, fun l us H2 s2 n2 g2 h2 => ?_⟩
    · obtain ⟨q, hq2, rfl⟩ := List.mem_map.mp hd
      refine g_unp2 (by tm_at "at") (by tm_at "at") hx fun v1 v2 h1 h2 => ?_
      cases h1
      cases h2
      refine ⟨rfl, rfl, ts_one ?_⟩
      tm_at "go"
      refine ro_ninS (hq.mono (tp_same s)) ?_
      tm_at "go"
      refine ⟨Same.refl _, ifb (fun c1 => ?_) (fun c1 => ?_)⟩
      · tm_at "go"
        exact ⟨Same.refl _, _, (show (if (!decide (q.1 ∈ p)) = true then some (PyData.str q.2) else none) = _ from if_pos c1), .str _⟩
      · exact (show (if (!decide (q.1 ∈ p)) = true then some (PyData.str q.2) else none) = _ from if_neg (by rw [c1]; exact Bool.false_ne_true))
    · rw [bar_eq] at h2
      have e := strs_all h2
      subst e
      refine g_name (by tm_at "at") ?_
      exact ⟨l, rfl, s2, g2⟩
  rintro _ H1 ⟨l, rfl, s1, g1⟩
  have hp1 := hp.mono (tp_same s1)
  have hq1 := hq.mono (tp_same s1)
  tm_at "go"
  refine e_lc (own := [("name", 5)]) (Blk.of (N := N_next_rules) (sc := defScope s_next_rules) rfl rfl (by decide +kernel)) ?_
  refine lcT_F (fun d => match d with | .str x => if (!decide (x ∈ p) && !decide (x ∈ (ps.filter fun q => !decide (q.1 ∈ p)).map (·.2))) = true then some (PyData.str x) else none | _ => none) ?_
  refine e_callF dn ?_
  tm_at "go"
  refine ⟨_, _, .cons hp1 .nil, ⟨c, rr, ps, more, rfl, few, rfl⟩, fun v H2 s2 h2 => ?_⟩
  refine ⟨(nmsO rr).map .str, h2, by rw [List.length_map]; unfold nmsO; rw [List.length_map]; omega, fun d x H' hd s hx => ?_, fun l2 us H3 s3 n3 g3 h3 => ?_⟩
  · obtain ⟨n, hn, rfl⟩ := List.mem_map.mp hd
    cases hx
    refine g_name (by tm_at "at") ⟨rfl, rfl, ts_one ?_⟩
    have hq2 := hq1.mono (tp_same (s2.trans s))
    have g2 := (s2.trans s) _ _ g1
    tm_at "go"
    refine ro_ninS hq2 ?_
    tm_at "go"
    refine ifb (fun c1 => ?_) (fun c1 => ?_)
    · tm_at "go"
      refine ro_ninSA (.inl (.of g2)) ?_
      tm_at "go"
      refine ⟨Same.refl _, ifb (fun c2 => ?_) (fun c2 => ?_)⟩
      · tm_at "go"
        exact ⟨Same.refl _, _, (show (if (!decide (n ∈ p) && _) = true then some (PyData.str n) else none) = _ from if_pos (by rw [c1, c2]; rfl)), .str _⟩
      · exact (show (if (!decide (n ∈ p) && _) = true then some (PyData.str n) else none) = _ from if_neg (by rw [c2, Bool.and_false]; exact Bool.false_ne_true))
    · tm_at "go"
      refine ⟨Same.refl _, ?_⟩
      rw [if_neg Bool.false_ne_true]
      exact (show (if (!decide (n ∈ p) && _) = true then some (PyData.str n) else none) = _ from if_neg (by rw [c1, Bool.false_and]; exact Bool.false_ne_true))
  · rw [filter_strs, nxt_bar] at h3
    tm_at "go"
    refine rc_tupL (.of g3) h3 fun v3 H4 s4 h4 => ?_
    exact k v3 H4 (s1.trans (s2.trans (s3.trans s4))) h4
def rWith : List PyData → PyData → Prop := fun ds d => ∃ (p : List Str) (n : Str), ds = [tS p, .str n] ∧ p.length ≤ 1000 ∧ d = tS (srtS (p ++ [n]))
theorem ok_with {f fd} (F : Fun M.K "with_rule" "with_rule" s_with_rule f fd) (b : Bl M) : FnG M.prog M.w M.K M.mg M.base CX0 1 f fd ["prefix", "name"] (spF rWith M.K) := by
  refine fn_ok F sc_with_rule (fun vs H Q E h => ?_) (fun H vs Q E h => ?_)
  · obtain ⟨ds, d, h, ⟨_, _, rfl, _⟩, _⟩ := h
    exact h.len
  obtain ⟨ds, d, h, ⟨p, n, rfl, lp, rfl⟩, k⟩ := h
  obtain _ | ⟨hp, h⟩ := h
  obtain _ | ⟨hn, h⟩ := h
  cases h
  cases hn
  rename_i vp
  tm_at "go"
  refine e_tupD ?_
  tm_at "go"
  refine ⟨[.str n], .cons (.str n) .nil, (show 1 ≤ 1000 by decide), fun v H2 s2 h2 => ?_⟩
  refine ro_catT (hp.mono (tp_same s2)) h2 (by rw [List.length_map, List.length_singleton]; omega) fun w H3 s3 h3 => ?_
  have h4 : Dt M.K H3 w (tS (p ++ [n])) := by
    show Dt M.K H3 w (.tuple ((p ++ [n]).map .str))
    rw [List.map_append]
    exact h3
  obtain ⟨t, rfl, ht⟩ := dt_tS h4
  tm_at "go"
  refine rc_sortS1 (.inr ht) fun q hq => ?_
  tm_at "go"
  refine rc_tupL (.of upd_same) (all_strs _) fun v3 H4 s4 h4 => ?_
  exact k v3 H4 (s2.trans (s3.trans ((same_new hq).trans s4))) h4
abbrev dcNext (M : Md) : Prop := Dc M "next_rules" ["program", "prefix"] 2 (spF rNext M.K)
abbrev dcWith (M : Md) : Prop := Dc M "with_rule" ["prefix", "name"] 1 (spF rWith M.K)
end K

namespace G
open PySem PySem.Spec PyProof.Rows L2 SH
section
variable {c : Cd} {H : Hp} {Q : VK}
theorem ro_ltS {i j : Str} (q : Q (.bl (decide (lts i j))) H) : RQ c .Lt (.str i) (.str j) H Q := rq_of (fun _ _ => op_lt_str) ⟨i, j, rfl, rfl, q⟩
end
end G
namespace K
open PySem PySem.Spec PyProof.Rows L2 G SH
variable {M : Md}
/-! ### pairs of texts, ascending -/
abbrev PL := List (Str × Str)
def pr2 (q : Str × Str) : List Str := [q.1, q.2]
theorem pr2_inj {a b : Str × Str} (h : pr2 a = pr2 b) : a = b := by
  obtain ⟨a1, a2⟩ := a
  obtain ⟨b1, b2⟩ := b
  injection h with h1 h2
  injection h2 with h2 h3
  exact Prod.ext h1 h2
theorem prs_tS (ps : PL) : ps.map prS = (ps.map pr2).map tS := by rw [List.map_map]; rfl
def prodL (ns : List Str) : PL := ns.flatMap fun a => ns.map fun b => (a, b)
theorem prodL_mem {ns : List Str} {q : Str × Str} : q ∈ prodL ns ↔ q.1 ∈ ns ∧ q.2 ∈ ns := by
  unfold prodL
  rw [List.mem_flatMap]
  constructor
  · rintro ⟨a, ha, h⟩
    obtain ⟨b, hb, rfl⟩ := List.mem_map.mp h
    exact ⟨ha, hb⟩
  · rintro ⟨ha, hb⟩
    exact ⟨q.1, ha, List.mem_map.mpr ⟨q.2, hb, rfl⟩⟩
theorem prodL_asc {ns : List Str} (asc : ns.Pairwise lts) : ((prodL ns).map pr2).Pairwise (List.Lex lts) := by
  unfold prodL
  rw [List.map_flatMap]
  refine OM.flat_pw asc (fun a _ => ?_) fun a b hab x hx y hy => ?_
  · rw [List.map_map, List.pairwise_map]
    exact asc.imp fun h => .cons (.rel h)
  · rw [List.map_map] at hx hy
    obtain ⟨u, _, rfl⟩ := List.mem_map.mp hx
    obtain ⟨v, _, rfl⟩ := List.mem_map.mp hy
    exact .rel hab
theorem asc_filter {p : Str × Str → Bool} {l : PL} (h : (l.map pr2).Pairwise (List.Lex lts)) : ((l.filter p).map pr2).Pairwise (List.Lex lts) := by
  rw [List.pairwise_map] at h ⊢
  exact h.sublist List.filter_sublist
noncomputable instance conDec (ps : PL) (ns : List Str) (a b : Str) : Decidable (OM.Con ps ns a b) := Classical.propDecidable _
noncomputable def clo (ns : List Str) (ps : PL) : PL := (prodL ns).filter fun q => decide (OM.Con ps ns q.1 q.2)
theorem clo_mem {ns : List Str} {ps : PL} (h2 : OM.In2 ns ps) {q : Str × Str} : q ∈ clo ns ps ↔ OM.Con ps ns q.1 q.2 := by
  unfold clo
  rw [List.mem_filter, prodL_mem, decide_eq_true_eq]
  exact ⟨fun h => h.2, fun h => ⟨OM.con_in h2 h, h⟩⟩
theorem asc_pairs {us : List (List Str)} {R : Str × Str → Prop} (asc : us.Pairwise (List.Lex lts)) (mem : ∀ k, k ∈ us ↔ ∃ q, R q ∧ k = pr2 q) : ∃ cs : PL, us = cs.map pr2 ∧ (cs.map pr2).Pairwise (List.Lex lts) ∧ ∀ q, q ∈ cs ↔ R q := by
  have each : ∀ us : List (List Str), (∀ k ∈ us, ∃ q, k = pr2 q) → ∃ cs : PL, us = cs.map pr2 := by
    intro us
    induction us with
    | nil => exact fun _ => ⟨[], rfl⟩
    | cons u us ih =>
      intro h
      obtain ⟨q, rfl⟩ := h u List.mem_cons_self
      obtain ⟨cs, rfl⟩ := ih fun k hk => h k (List.mem_cons_of_mem _ hk)
      exact ⟨q :: cs, rfl⟩
  obtain ⟨cs, rfl⟩ := each us fun k hk => by
    obtain ⟨q, _, e⟩ := (mem k).mp hk
    exact ⟨q, e⟩
  refine ⟨cs, rfl, asc, fun q => ?_⟩
  constructor
  · intro h
    obtain ⟨r, hr, e⟩ := (mem (pr2 q)).mp (List.mem_map.mpr ⟨q, h, rfl⟩)
    rw [pr2_inj e]
    exact hr
  · intro h
    obtain ⟨r, hr, e⟩ := List.mem_map.mp ((mem (pr2 q)).mpr ⟨q, h, rfl⟩)
    rw [← pr2_inj e]
    exact hr
theorem pairs_eq {cs es : PL} (h1 : (cs.map pr2).Pairwise (List.Lex lts)) (h2 : (es.map pr2).Pairwise (List.Lex lts)) (h : ∀ q, q ∈ cs ↔ q ∈ es) : cs = es := by
  have e := asc_uniq h1 h2 fun k => by
    constructor
    · intro z
      obtain ⟨q, hq, rfl⟩ := List.mem_map.mp z
      exact List.mem_map.mpr ⟨q, (h q).mp hq, rfl⟩
    · intro z
      obtain ⟨q, hq, rfl⟩ := List.mem_map.mp z
      exact List.mem_map.mpr ⟨q, (h q).mpr hq, rfl⟩
  have inj : ∀ a b : PL, a.map pr2 = b.map pr2 → a = b := by
    intro a
    induction a with
    | nil => intro b e; cases b with
      | nil => rfl
      | cons => cases e
    | cons x a ih => intro b e; cases b with
      | nil => cases e
      | cons y b =>
        injection e with e1 e2
        rw [pr2_inj e1, ih b e2]
  exact inj _ _ e
theorem pairs_nd {cs : PL} (h : (cs.map pr2).Pairwise (List.Lex lts)) : cs.Nodup := by
  rw [List.pairwise_map] at h
  exact h.imp fun {a b} z (e : a = b) => lex_no (by rw [e] at z; exact z)
theorem nd_len {α : Type} [DecidableEq α] {p l : List α} (h : p.Nodup) (hs : ∀ n ∈ p, n ∈ l) : p.length ≤ l.length := OM.nd_le h hs
theorem prodL_len (ns : List Str) : (prodL ns).length = ns.length * ns.length := by
  have : ∀ l : List Str, (l.flatMap fun a => ns.map fun b => (a, b)).length = l.length * ns.length := by
    intro l
    induction l with
    | nil => simp
    | cons a l ih => rw [List.flatMap_cons, List.length_append, ih, List.length_map, List.length_cons, Nat.add_mul, Nat.one_mul, Nat.add_comm]
  exact this ns
/-- the turn of the closure by a middle -/
def aheadL (cs : PL) (m : Str) : List Str := (cs.filter fun q => decide (q.2 = m)).map (·.1)
def afterL (cs : PL) (m : Str) : List Str := (cs.filter fun q => decide (q.1 = m)).map (·.2)
theorem ahead_mem {cs : PL} {m a : Str} : a ∈ aheadL cs m ↔ (a, m) ∈ cs := by
  unfold aheadL
  rw [List.mem_map]
  constructor
  · rintro ⟨q, hq, rfl⟩
    obtain ⟨h1, h2⟩ := List.mem_filter.mp hq
    rw [decide_eq_true_eq] at h2
    obtain ⟨q1, q2⟩ := q
    subst h2
    exact h1
  · exact fun h => ⟨(a, m), List.mem_filter.mpr ⟨h, by simp⟩, rfl⟩
theorem after_mem {cs : PL} {m a : Str} : a ∈ afterL cs m ↔ (m, a) ∈ cs := by
  unfold afterL
  rw [List.mem_map]
  constructor
  · rintro ⟨q, hq, rfl⟩
    obtain ⟨h1, h2⟩ := List.mem_filter.mp hq
    rw [decide_eq_true_eq] at h2
    obtain ⟨q1, q2⟩ := q
    subst h2
    exact h1
  · exact fun h => ⟨(m, a), List.mem_filter.mpr ⟨h, by simp⟩, rfl⟩
theorem ahead_nd {cs : PL} (h : cs.Nodup) (m : Str) : (aheadL cs m).Nodup := by
  unfold aheadL
  have h2 : (cs.filter fun q => decide (q.2 = m)).Nodup := h.sublist List.filter_sublist
  refine List.pairwise_map.mpr (List.Pairwise.imp_of_mem (fun {a b} ha hb ne e => ne ?_) h2)
  have e1 := (List.mem_filter.mp ha).2
  have e2 := (List.mem_filter.mp hb).2
  rw [decide_eq_true_eq] at e1 e2
  exact Prod.ext e (e1.trans e2.symm)
theorem after_nd {cs : PL} (h : cs.Nodup) (m : Str) : (afterL cs m).Nodup := by
  unfold afterL
  have h2 : (cs.filter fun q => decide (q.1 = m)).Nodup := h.sublist List.filter_sublist
  refine List.pairwise_map.mpr (List.Pairwise.imp_of_mem (fun {a b} ha hb ne e => ne ?_) h2)
  have e1 := (List.mem_filter.mp ha).2
  have e2 := (List.mem_filter.mp hb).2
  rw [decide_eq_true_eq] at e1 e2
  exact Prod.ext (e1.trans e2.symm) e
def midL (cs : PL) (m : Str) : PL := (aheadL cs m).flatMap fun a => (afterL cs m).map fun b => (a, b)
theorem mid_mem {cs : PL} {m : Str} {q : Str × Str} : q ∈ midL cs m ↔ (q.1, m) ∈ cs ∧ (m, q.2) ∈ cs := by
  unfold midL
  rw [List.mem_flatMap]
  constructor
  · rintro ⟨a, ha, h⟩
    obtain ⟨b, hb, rfl⟩ := List.mem_map.mp h
    exact ⟨ahead_mem.mp ha, after_mem.mp hb⟩
  · rintro ⟨h1, h2⟩
    exact ⟨q.1, ahead_mem.mpr h1, List.mem_map.mpr ⟨q.2, after_mem.mpr h2, rfl⟩⟩
theorem mid_len {cs : PL} {ns : List Str} (nd : cs.Nodup) (hin : ∀ q ∈ cs, q.1 ∈ ns ∧ q.2 ∈ ns) (few : ns.length ≤ 5) (m : Str) : cs.length ≤ 25 ∧ (aheadL cs m).length ≤ 5 ∧ (afterL cs m).length ≤ 5 ∧ (midL cs m).length ≤ 25 := by
  have a1 : (aheadL cs m).length ≤ 5 := Nat.le_trans (nd_len (ahead_nd nd m) fun a ha => (hin _ (ahead_mem.mp ha)).1) few
  have a2 : (afterL cs m).length ≤ 5 := Nat.le_trans (nd_len (after_nd nd m) fun a ha => (hin _ (after_mem.mp ha)).2) few
  have a3 : cs.length ≤ 25 := by
    have h1 : cs.length ≤ (prodL ns).length := nd_len nd fun q hq => prodL_mem.mpr (hin q hq)
    rw [prodL_len] at h1
    exact Nat.le_trans h1 (Nat.mul_le_mul few few)
  refine ⟨a3, a1, a2, ?_⟩
  have : ∀ l : List Str, (l.flatMap fun a => (afterL cs m).map fun b => (a, b)).length = l.length * (afterL cs m).length := by
    intro l
    induction l with
    | nil => simp
    | cons a l ih => rw [List.flatMap_cons, List.length_append, ih, List.length_map, List.length_cons, Nat.add_mul, Nat.one_mul, Nat.add_comm]
  unfold midL
  rw [this]
  exact Nat.mul_le_mul a1 a2
end K

namespace K
open PySem PySem.Spec PyProof.Rows L2 G SH
variable {M : Md}
def rClosed : List PyData → PyData → Prop := fun ds d => ∃ c rr ps more, ds = [ogD c rr ps more] ∧ OgOk (nmsO rr) ps ∧ d = pairsD (clo (nmsO rr) ps)
def gL (f : Str × Str → Bool) (g : Str × Str → Str) (d : PyData) : Option PyData := match d with
  | .tuple [.str a, .str b] => if f (a, b) = true then some (.str (g (a, b))) else none
  | _ => none
theorem gL_eq (f : Str × Str → Bool) (g : Str × Str → Str) : ∀ cs : PL, (cs.map prS).filterMap (gL f g) = ((cs.filter f).map g).map .str
  | [] => rfl
  | q :: cs => by
    rw [List.map_cons, List.filterMap_cons, List.filter_cons, gL_eq f g cs]
    by_cases h : f q = true
    · have e : gL f g (prS q) = some (.str (g q)) := by
        show (if f (q.1, q.2) = true then some (PyData.str (g (q.1, q.2))) else none) = _
        exact if_pos h
      rw [e, if_pos h]
      rfl
    · have e : gL f g (prS q) = none := by
        show (if f (q.1, q.2) = true then some (PyData.str (g (q.1, q.2))) else none) = _
        exact if_neg h
      rw [e, if_neg h]
theorem map_some {α : Type} (f : α → PyData) : ∀ l : List α, (l.map f).filterMap (fun d => some d) = l.map f
  | [] => rfl
  | x :: l => by rw [List.map_cons, List.filterMap_cons, map_some f l]
def gPair (d e : PyData) : Option PyData := match d, e with
  | .str a, .str b => some (prS (a, b))
  | _, _ => none
theorem gPair_eq (as bs : List Str) : ((as.map PyData.str).flatMap fun d => (bs.map PyData.str).filterMap (gPair d)) = (as.flatMap fun a => bs.map fun b => (a, b)).map prS := by
  have row : ∀ (a : Str) (bs : List Str), (bs.map PyData.str).filterMap (gPair (.str a)) = (bs.map fun b => (a, b)).map prS := by
    intro a bs
    induction bs with
    | nil => rfl
    | cons b bs ih => rw [List.map_cons, List.filterMap_cons, ih]; rfl
  induction as with
  | nil => rfl
  | cons a as ih => rw [List.map_cons, List.flatMap_cons, List.flatMap_cons, List.map_append, ih, row]
theorem sumL_const (l : List PyData) (n : Nat) : sumL (l.map fun _ => n) = l.length * n := by
  induction l with
  | nil => simp [sumL]
  | cons x l ih => 
    show n + sumL (l.map fun _ => n) = _
    rw [ih, List.length_cons, Nat.add_mul, Nat.one_mul, Nat.add_comm]
theorem ok_closed {f fd} (F : Fun M.K "pairs_closed" "pairs_closed" s_pairs_closed f fd) (b : Bl M) (dn : dcNames M) : FnG M.prog M.w M.K M.mg M.base CX0 2 f fd ["program"] (spF rClosed M.K) := by
  refine fn_ok F sc_pairs_closed (fun vs H Q E h => ?_) (fun H vs Q E h => ?_)
  · obtain ⟨ds, d, h, ⟨_, _, _, _, rfl, _⟩, _⟩ := h
    exact h.len
  obtain ⟨ds, d, h, ⟨c, rr, ps, more, rfl, O, rfl⟩, k⟩ := h
  obtain _ | ⟨hp, h⟩ := h
  cases h
  rename_i vp
  have fw := O.few
  have nl : (nmsO rr).length = rr.length := List.length_map ..
  refine b_cut (fun σ1 H1 => ∃ (l : Addr) (ys : List V) (cs : PL), σ1 = [some vp, some (.ref l), none, none, none, none, none] ∧ Same H H1 ∧ H1 l = some (.lst ys) ∧ DtAll M.K H1 ys (cs.map prS) ∧ (cs.map pr2).Pairwise (List.Lex lts) ∧ ∀ q, q ∈ cs ↔ OM.Con ps [] q.1 q.2) ?_ ?_
  · refine s_set (by tm_at "at") ?_
    tm_at "go"
    refine e_callT (T := "set") b.set (by decide +kernel) ?_
    tm_at "go"
    refine rx_tup hp (d := pairsD ps) (pl_at (j := 2) rfl rfl) fun v1 h1 => ?_
    obtain ⟨a, xs, rfl, hs, hd⟩ := Dt.tupE (show Dt M.K H v1 (.tuple (ps.map prS)) from h1)
    rw [prs_tS] at hd
    tm_at "go"
    refine rc_setST (.inr hs) hd (by rw [List.length_map]; have := O.pl; omega) fun p H1 s1 n1 i1 => ?_
    tm_at "go"
    refine rc_sortST i1 fun p2 ys H2 us s2 n2 g2 asc mem hy => ?_
    obtain ⟨cs, rfl, a1, a2⟩ := asc_pairs (R := fun q => OM.Con ps [] q.1 q.2) asc fun k => by
      rw [mem, List.mem_map]
      constructor
      · rintro ⟨q, hq, rfl⟩
        exact ⟨q, .base hq, rfl⟩
      · rintro ⟨q, hq, rfl⟩
        exact ⟨q, OM.con_nil.mp hq, rfl⟩
    exact ⟨p2, ys, cs, rfl, s1.trans s2, g2, by rw [prs_tS]; exact hy, a1, a2⟩
  rintro _ H1 ⟨l1, ys1, cs1, rfl, s1, g1, hy1, a1, m1⟩
  refine b_cut (fun σ1 H1 => ∃ (l : Addr) (ys : List V) (v2 v3 v4 v5 v6 : Option V), σ1 = [some vp, some (.ref l), v2, v3, v4, v5, v6] ∧ Same H H1 ∧ H1 l = some (.lst ys) ∧ DtAll M.K H1 ys ((clo (nmsO rr) ps).map prS)) ?_ ?_
  · refine s_forT ?_
    refine e_callF dn ?_
    tm_at "go"
    refine ⟨_, _, .cons (hp.mono (tp_same s1)) .nil, ⟨c, rr, ps, more, rfl, by omega, rfl⟩, fun v H2 s2 h2 => ?_⟩
    obtain ⟨a, rfl, ht⟩ := dt_tS h2
    refine ⟨a, _, rfl, ht, fun i σ' H' => ∃ (l : Addr) (ys : List V) (cs : PL) (v2 v3 v4 v5 v6 : Option V), σ' = [some vp, some (.ref l), v2, v3, v4, v5, v6] ∧ Same H2 H' ∧ H' l = some (.lst ys) ∧ DtAll M.K H' ys (cs.map prS) ∧ (cs.map pr2).Pairwise (List.Lex lts) ∧ ∀ q, q ∈ cs ↔ OM.Con ps ((nmsO rr).take i) q.1 q.2,
      ⟨l1, ys1, cs1, _, _, _, _, _, rfl, Same.refl _, s2 _ _ g1, hy1.mono (tp_same s2), a1, m1⟩, ?_, ?_, ?_⟩
    · rintro i σ' H' _ ⟨l, ys, cs, v2, v3, v4, v5, v6, rfl, s, _⟩
      exact (tp_same s).sqt ht
    · rintro i x σ' H' hx ⟨l, ys, cs, v2, v3, v4, v5, v6, rfl, s, g, hy, asc, mem⟩
      rw [List.getElem?_map] at hx
      obtain ⟨m, hm, rfl⟩ := Option.map_eq_some_iff.mp hx
      have nd := pairs_nd asc
      obtain ⟨c1, c2, c3, c4⟩ := mid_len nd (fun q hq => OM.con_in O.in2 ((mem q).mp hq)) fw m
      refine g_name (by tm_at "at") ?_
      refine b_cut (fun σ1 H1 => ∃ (la : Addr) (v4 v5 v6 : Option V), σ1 = [some vp, some (.ref l), some (.str m), some (.ref la), v4, v5, v6] ∧ Same H' H1 ∧ H1 la = some (.lst ((aheadL cs m).map V.str))) ?_ ?_
      · refine s_setLc (own := [("one", 5), ("other", 6)]) (by tm_at "at") (Blk.of (N := N_pairs_closed) (sc := defScope s_pairs_closed) rfl rfl (by decide +kernel)) ?_
        refine lcL_F (gL (fun q => decide (q.2 = m)) (·.1)) (e_var (by tm_at "at") ⟨l, ys, cs.map prS, rfl, .of g, hy, by rw [List.length_map]; omega, fun d x H3 hd s3 hx => ?_, fun p us H3 s3 n3 g3 h3 => ?_⟩)
        · obtain ⟨q, hq, rfl⟩ := List.mem_map.mp hd
          refine g_unp2 (by tm_at "at") (by tm_at "at") hx fun v1 v2 h1 h2 => ?_
          cases h1
          cases h2
          refine ⟨rfl, rfl, ts_one ?_⟩
          tm_at "go"
          refine ⟨Same.refl _, ifb (fun c1 => ?_) (fun c1 => ?_)⟩
          · tm_at "go"
            exact ⟨Same.refl _, _, (show (if decide (q.2 = m) = true then some (PyData.str q.1) else none) = _ from if_pos c1), .str _⟩
          · exact (show (if decide (q.2 = m) = true then some (PyData.str q.1) else none) = _ from if_neg (by rw [c1]; exact Bool.false_ne_true))
        · rw [gL_eq] at h3
          have e := strs_all h3
          subst e
          exact ⟨p, _, _, _, rfl, s3, g3⟩
      rintro _ H3 ⟨la, w4, w5, w6, rfl, s3, g3⟩
      refine b_cut (fun σ1 H1 => ∃ (lb : Addr) (v5 v6 : Option V), σ1 = [some vp, some (.ref l), some (.str m), some (.ref la), some (.ref lb), v5, v6] ∧ Same H3 H1 ∧ H1 lb = some (.lst ((afterL cs m).map V.str))) ?_ ?_
      · refine s_asgC (e_lc (own := [("one", 5), ("other", 6)]) (Blk.of (N := N_pairs_closed) (sc := defScope s_pairs_closed) rfl rfl (by decide +kernel)) ?_)
        refine lcL_F (gL (fun q => decide (q.1 = m)) (·.2)) (e_var (by tm_at "at") ⟨l, ys, cs.map prS, rfl, .of (s3 _ _ g), hy.mono (tp_same s3), by rw [List.length_map]; omega, fun d x H4 hd s4 hx => ?_, fun p us H4 s4 n4 g4 h4 => ?_⟩)
        · obtain ⟨q, hq, rfl⟩ := List.mem_map.mp hd
          refine g_unp2 (by tm_at "at") (by tm_at "at") hx fun v1 v2 h1 h2 => ?_
          cases h1
          cases h2
          refine ⟨rfl, rfl, ts_one ?_⟩
          tm_at "go"
          refine ⟨Same.refl _, ifb (fun c1 => ?_) (fun c1 => ?_)⟩
          · tm_at "go"
            exact ⟨Same.refl _, _, (show (if decide (q.1 = m) = true then some (PyData.str q.2) else none) = _ from if_pos c1), .str _⟩
          · exact (show (if decide (q.1 = m) = true then some (PyData.str q.2) else none) = _ from if_neg (by rw [c1]; exact Bool.false_ne_true))
        · rw [gL_eq] at h4
          have e := strs_all h4
          subst e
          refine g_name (by tm_at "at") ?_
          exact ⟨p, _, _, rfl, s4, g4⟩
      rintro _ H4 ⟨lb, u5, u6, rfl, s4, g4⟩
      have g5 := (s3.trans s4) _ _ g
      have y5 := hy.mono (tp_same (s3.trans s4))
      refine b_one (s_set (by tm_at "at") ?_)
      tm_at "go"
      refine e_callT (T := "set") b.set (by decide +kernel) ?_
      tm_at "go"
      refine e_lc2 (own := [("one", 5), ("other", 6)]) (vs1 := [6]) (Blk.of (N := N_pairs_closed) (sc := defScope s_pairs_closed) rfl rfl (by decide +kernel)) (by decide) ?_
      refine lc2_F false false gPair (fun _ => (afterL cs m).map .str) (e_var (by tm_at "at") ⟨la, _, (aheadL cs m).map .str, rfl, .of (s4 _ _ g3), all_strs _, ?_, fun d v H5 hd s5 hx => ?_, fun p us H5 s5 n5 g6 h5 => ?_⟩)
      · rw [sumL_const, List.length_map, List.length_map]
        exact Nat.le_trans (Nat.mul_le_mul c2 c3) (by decide)
      · obtain ⟨a1, _, rfl⟩ := List.mem_map.mp hd
        cases hx
        refine g_name (by tm_at "at") ⟨rfl, rfl, ?_⟩
        refine e_var (by tm_at "at") ⟨Same.refl _, lb, _, rfl, .of (s5 _ _ g4), fun _ => .inl (by rw [g4]; exact fun z => nomatch z), all_strs _, fun e u H6 he s6 t6 hu => ?_⟩
        obtain ⟨b1, _, rfl⟩ := List.mem_map.mp he
        cases hu
        refine g_name (by tm_at "at") ⟨rfl, rfl, ts_nil ⟨Same.refl _, ?_⟩⟩
        rw [if_pos rfl]
        refine e_tupD ?_
        tm_at "go"
        exact ⟨[.str a1, .str b1], .cons (.str _) (.cons (.str _) .nil), (show 2 ≤ 1000 by decide), fun v H7 s7 h7 => ⟨s7, _, rfl, h7⟩⟩
      · rw [gPair_eq] at h5
        refine ro_cat (s5 _ _ g5) g6 (by have := (y5.mono (tp_same s5)).len; have := h5.len; rw [List.length_map] at *; have z : (midL cs m).length ≤ 25 := c4; unfold midL at z; omega) fun p2 H6 s6 n6 g7 => ?_
        tm_at "go"
        have both : DtAll M.K H6 (ys ++ us) (((cs ++ midL cs m).map pr2).map tS) := by
          rw [← prs_tS, List.map_append]
          exact (y5.mono (tp_same (s5.trans s6))).app (h5.mono (tp_same s6))
        refine rc_setST (.inl (.of g7)) both (by rw [List.length_map, List.length_append]; omega) fun p3 H7 s7 n7 i7 => ?_
        tm_at "go"
        refine rc_sortST i7 fun p4 ys8 H8 vs8 s8 n8 g8 asc8 mem8 hy8 => ?_
        obtain ⟨cs8, rfl, b1, b2⟩ := asc_pairs (R := fun q => OM.Con ps ((nmsO rr).take (i + 1)) q.1 q.2) asc8 fun k => by
          have e : (nmsO rr).take (i + 1) = (nmsO rr).take i ++ [m] := by
            obtain ⟨g1, g2⟩ := List.getElem?_eq_some_iff.mp hm
            rw [List.take_succ_eq_append_getElem g1, g2]
          rw [mem8, List.mem_map, e]
          constructor
          · rintro ⟨q, hq, rfl⟩
            refine ⟨q, OM.turn_con.mp ?_, rfl⟩
            rcases List.mem_append.mp hq with hq | hq
            · exact .inl ((mem q).mp hq)
            · obtain ⟨z1, z2⟩ := mid_mem.mp hq
              exact .inr ⟨(mem _).mp z1, (mem _).mp z2⟩
          · rintro ⟨q, hq, rfl⟩
            refine ⟨q, ?_, rfl⟩
            rcases OM.turn_con.mpr hq with hq | ⟨z1, z2⟩
            · exact List.mem_append_left _ ((mem q).mpr hq)
            · exact List.mem_append_right _ (mid_mem.mpr ⟨(mem (q.1, m)).mpr z1, (mem (m, q.2)).mpr z2⟩)
        exact ⟨p4, ys8, cs8, _, _, _, _, _, rfl, s.trans (s3.trans (s4.trans (s5.trans (s6.trans (s7.trans s8))))), g8, by rw [prs_tS]; exact hy8, b1, b2⟩
    · rintro σ' H' ⟨l, ys, cs, v2, v3, v4, v5, v6, rfl, s, g, hy, asc, mem⟩
      rw [List.length_map, List.take_length] at mem
      have e : cs = clo (nmsO rr) ps := pairs_eq asc (asc_filter (prodL_asc O.asc)) fun q => by rw [mem]; exact (clo_mem O.in2).symm
      subst e
      exact ⟨l, ys, _, _, _, _, _, rfl, s1.trans (s2.trans s), g, hy⟩
  rintro _ H2 ⟨l, ys, v2, v3, v4, v5, v6, rfl, s2, g2, hy2⟩
  tm_at "go"
  refine rc_tupL (.of g2) hy2 fun v3 H3 s3 h3 => ?_
  exact k v3 H3 (s2.trans s3) h3
abbrev dcClosed (M : Md) : Prop := Dc M "pairs_closed" ["program"] 2 (spF rClosed M.K)
end K

namespace G
open PySem PySem.Spec PyProof.Rows L2 SH
def rNotInT (K : PySem.W.Frag) : R2 := fun x y H Q => ∃ d ds, Dp K H x d ∧ Dp K H y (.tuple ds) ∧ SeqAt.shaped d = true ∧ SeqAt.shaped (.tuple ds) = true ∧ Q (.bl (!ds.any fun z => PyData.eqv z d)) H
def rInT (K : PySem.W.Frag) : R2 := fun x y H Q => ∃ d ds, Dp K H x d ∧ Dp K H y (.tuple ds) ∧ SeqAt.shaped d = true ∧ SeqAt.shaped (.tuple ds) = true ∧ Q (.bl (ds.any fun z => PyData.eqv z d)) H
theorem op_inT {X : Cx} (hu : X.A.units + 65 < cLine) : OpR X (compareOp .In) (rInT X.K) := by
  intro pins s σ H x y v u Q I rx ry h
  obtain ⟨d, ds, hd, he, sd, se, q⟩ := h
  obtain ⟨as, r1⟩ := Dp.reads I d x v hd rx
  obtain ⟨bs, r2⟩ := Dp.reads I (.tuple ds) y u he ry
  exact SeqAt.in_tuple_reads r2 r1 (SeqAt.canLay_of_shaped se) (SeqAt.canLay_of_shaped sd) (room_in_shaped sd hu) ⟨.bl _, H, I, rfl, q⟩
theorem op_notInT {X : Cx} (hu : X.A.units + 65 < cLine) : OpR X (compareOp .NotIn) (rNotInT X.K) := by
  intro pins s σ H x y v u Q I rx ry h
  obtain ⟨d, ds, hd, he, sd, se, q⟩ := h
  obtain ⟨as, r1⟩ := Dp.reads I d x v hd rx
  obtain ⟨bs, r2⟩ := Dp.reads I (.tuple ds) y u he ry
  exact SeqAt.notIn_tuple_reads r2 r1 (SeqAt.canLay_of_shaped se) (SeqAt.canLay_of_shaped sd) (room_in_shaped sd hu) ⟨.bl _, H, I, rfl, q⟩
theorem eqv_strs : ∀ a b : List Str, PyData.eqvAll (a.map .str) (b.map .str) = decide (a = b)
  | [], [] => rfl
  | [], _ :: _ => rfl
  | _ :: _, [] => rfl
  | x :: a, y :: b => by
    rw [List.map_cons, List.map_cons, PyData.eqvAll, eqv_strs a b]
    have e : PyData.eqv (.str x) (.str y) = decide (x = y) := by
      rw [Bool.eq_iff_iff, decide_eq_true_eq]
      simp [PyData.eqv]
    rw [e, Bool.eq_iff_iff, Bool.and_eq_true, decide_eq_true_eq, decide_eq_true_eq, decide_eq_true_eq]
    constructor
    · rintro ⟨rfl, rfl⟩; rfl
    · intro h; injection h with h1 h2; exact ⟨h1, h2⟩
theorem eqv_tS (a b : List Str) : PyData.eqv (tS a) (tS b) = decide (a = b) := by
  show PyData.eqv (.tuple _) (.tuple _) = _
  rw [PyData.eqv]
  exact eqv_strs a b
def OkS (k : List Str) : Prop := ∀ x ∈ k, PyData.strOk x = true
theorem lay_strs : ∀ k : List Str, OkS k → PyData.canLayAll0 (k.map .str) = true
  | [], _ => by simp [PyData.canLayAll0]
  | x :: k, h => by simp [PyData.canLayAll0, PyData.canLay0, h x List.mem_cons_self, lay_strs k fun y hy => h y (List.mem_cons_of_mem _ hy)]
theorem shaped_tS {k : List Str} (o : OkS k) : SeqAt.shaped (tS k) = true := by
  show SeqAt.shaped (.tuple _) = true
  unfold SeqAt.shaped
  have := depth_strs k
  simp [PyData.canLay0, lay_strs k o, PyData.depth, this]
theorem shaped_tSs {ks : List (List Str)} (o : ∀ k ∈ ks, OkS k) : SeqAt.shaped (.tuple (ks.map tS)) = true ∧ SeqAt.shaped (.list (ks.map tS)) = true := by
  have a : ∀ ks : List (List Str), (∀ k ∈ ks, OkS k) → PyData.canLayAll0 (ks.map tS) = true ∧ PyData.depthAll (ks.map tS) ≤ 1 := by
    intro ks
    induction ks with
    | nil => exact fun _ => ⟨by simp [PyData.canLayAll0], by simp [PyData.depthAll]⟩
    | cons k ks ih =>
      intro o
      have ih := ih fun u hu => o u (List.mem_cons_of_mem _ hu)
      have d := depth_tS k
      have l : PyData.canLay0 (tS k) = true := by
        show PyData.canLay0 (.tuple _) = true
        simp [PyData.canLay0, lay_strs k (o k List.mem_cons_self)]
      refine ⟨by simp [PyData.canLayAll0, l, ih.1], ?_⟩
      rw [List.map_cons, PyData.depthAll]
      omega
  obtain ⟨h1, h2⟩ := a ks o
  constructor <;> (unfold SeqAt.shaped; simp [PyData.canLay0, h1, PyData.depth]; omega)
section
variable {c : Cd} {H : Hp} {Q : VK}
theorem any_tS (ks : List (List Str)) (k : List Str) : ((ks.map tS).any fun z => PyData.eqv z (tS k)) = decide (k ∈ ks) := by
  rw [Bool.eq_iff_iff, List.any_eq_true, decide_eq_true_eq]
  constructor
  · rintro ⟨d, hd, e⟩
    obtain ⟨u, hu, rfl⟩ := List.mem_map.mp hd
    rw [eqv_tS, decide_eq_true_eq] at e
    rw [← e]; exact hu
  · exact fun h => ⟨tS k, List.mem_map.mpr ⟨k, h, rfl⟩, by rw [eqv_tS]; simp⟩
/-- a tuple of texts in a tuple of such -/
theorem ro_inTS {x y : V} {k : List Str} {ks : List (List Str)} (hx : Dt c.K H x (tS k)) (hy : Dt c.K H y (.tuple (ks.map tS))) (o1 : OkS k) (o2 : ∀ k ∈ ks, OkS k) (q : Q (.bl (decide (k ∈ ks))) H) : RQ c .In x y H Q :=
  rq_of (r := rInT c.K) (fun X h => by rw [← h.K]; exact op_inT (by have := h.room.un; omega)) ⟨_, _, hx.dp, hy.dp, shaped_tS o1, (shaped_tSs o2).1, by rw [any_tS]; exact q⟩
theorem ro_ninTS {x y : V} {k : List Str} {ks : List (List Str)} (hx : Dt c.K H x (tS k)) (hy : Dt c.K H y (.tuple (ks.map tS))) (o1 : OkS k) (o2 : ∀ k ∈ ks, OkS k) (q : Q (.bl (!decide (k ∈ ks))) H) : RQ c .NotIn x y H Q :=
  rq_of (r := rNotInT c.K) (fun X h => by rw [← h.K]; exact op_notInT (by have := h.room.un; omega)) ⟨_, _, hx.dp, hy.dp, shaped_tS o1, (shaped_tSs o2).1, by rw [any_tS]; exact q⟩
theorem ro_inTP {x y : V} {p : Str × Str} {ps : List (Str × Str)} (hx : Dt c.K H x (prS p)) (hy : Dt c.K H y (.tuple (ps.map prS))) (o1 : OkS (K.pr2 p)) (o2 : ∀ q ∈ ps, OkS (K.pr2 q)) (q : Q (.bl (decide (p ∈ ps))) H) : RQ c .In x y H Q := by
  rw [K.prs_tS] at hy
  refine ro_inTS (k := K.pr2 p) hx hy o1 (fun k hk => by obtain ⟨q, hq, rfl⟩ := List.mem_map.mp hk; exact o2 q hq) ?_
  have e : decide (K.pr2 p ∈ ps.map K.pr2) = decide (p ∈ ps) := decide_eq_decide.mpr ⟨fun h => by obtain ⟨u, hu, e⟩ := List.mem_map.mp h; rw [← K.pr2_inj e]; exact hu, fun h => List.mem_map.mpr ⟨p, h, rfl⟩⟩
  rw [e]; exact q
theorem ro_ninTP {x y : V} {p : Str × Str} {ps : List (Str × Str)} (hx : Dt c.K H x (prS p)) (hy : Dt c.K H y (.tuple (ps.map prS))) (o1 : OkS (K.pr2 p)) (o2 : ∀ q ∈ ps, OkS (K.pr2 q)) (q : Q (.bl (!decide (p ∈ ps))) H) : RQ c .NotIn x y H Q := by
  rw [K.prs_tS] at hy
  refine ro_ninTS (k := K.pr2 p) hx hy o1 (fun k hk => by obtain ⟨q, hq, rfl⟩ := List.mem_map.mp hk; exact o2 q hq) ?_
  have e : decide (K.pr2 p ∈ ps.map K.pr2) = decide (p ∈ ps) := decide_eq_decide.mpr ⟨fun h => by obtain ⟨u, hu, e⟩ := List.mem_map.mp h; rw [← K.pr2_inj e]; exact hu, fun h => List.mem_map.mpr ⟨p, h, rfl⟩⟩
  rw [e]; exact q
end
end G
namespace K
open PySem PySem.Spec PyProof.Rows L2 G SH
variable {M : Md}
theorem OgOk.okp {ns : List Str} {ps : PL} (O : OgOk ns ps) {q : Str × Str} (h1 : q.1 ∈ ns) (h2 : q.2 ∈ ns) : OkS (pr2 q) := fun x hx => by
  rcases List.mem_cons.mp hx with rfl | hx
  · exact O.ok _ h1
  · rcases List.mem_cons.mp hx with rfl | hx
    · exact O.ok _ h2
    · cases hx
def findO (rr : List (Str × List PyData)) (nm : Str) : Option (Str × List PyData) := rr.find? fun r => decide (r.1 = nm)
theorem findO_go {rr : List (Str × List PyData)} {nm : Str} {i : Nat} {r : Str × List PyData} (h : rr[i]? = some r) : findO (rr.drop i) nm = if r.1 = nm then some r else findO (rr.drop (i + 1)) nm := by
  obtain ⟨h1, h2⟩ := List.getElem?_eq_some_iff.mp h
  rw [List.drop_eq_getElem_cons h1, h2]
  unfold findO
  rw [List.find?_cons]
  by_cases e : r.1 = nm
  · rw [if_pos e, decide_eq_true e]
  · rw [if_neg e, decide_eq_false e]
theorem findO_of {rr : List (Str × List PyData)} {nm : Str} (h : nm ∈ nmsO rr) : ∃ r, findO rr nm = some r := by
  unfold findO
  cases e : rr.find? fun r => decide (r.1 = nm) with
  | some r => exact ⟨r, rfl⟩
  | none =>
    obtain ⟨r, hr, rfl⟩ := List.mem_map.mp h
    have := List.find?_eq_none.mp e r hr
    simp at this
def rNamedO : List PyData → PyData → Prop := fun ds d => ∃ c rr ps more nm r, ds = [ogD c rr ps more, .str nm] ∧ findO rr nm = some r ∧ d = rrD r
theorem ok_namedO {f fd} (F : Fun M.K "rule_named" "rule_named" s_rule_named f fd) (b : Bl M) : FnG M.prog M.w M.K M.mg M.base CX0 1 f fd ["program", "name"] (spF rNamedO M.K) := by
  refine fn_ok F sc_rule_named (fun vs H Q E h => ?_) (fun H vs Q E h => ?_)
  · obtain ⟨ds, d, h, ⟨_, _, _, _, _, _, rfl, _⟩, _⟩ := h
    exact h.len
  obtain ⟨ds, d, h, ⟨c, rr, ps, more, nm, r, rfl, fnd, rfl⟩, k⟩ := h
  obtain _ | ⟨hp, h⟩ := h
  obtain _ | ⟨hn, h⟩ := h
  cases h
  cases hn
  rename_i vp
  refine b_cons (s_forT ?_)
  tm_at "go"
  refine rx_tup hp (d := .tuple (rr.map rrD)) (pl_at (j := 1) rfl rfl) fun vr hr => ?_
  obtain ⟨a, xs, rfl, ht, hd⟩ := hr.tupE
  refine ⟨a, xs, rfl, ht, fun i σ1 H1 => ∃ v : Option V, σ1 = [some vp, some (.str nm), v] ∧ H1 = H ∧ findO (rr.drop i) nm = some r, ⟨_, rfl, rfl, fnd⟩, ?_, ?_, ?_⟩
  · rintro i σ' H' _ ⟨v, rfl, rfl, _⟩
    exact ht
  · rintro i x σ' H' hx ⟨v, rfl, rfl, hf⟩
    obtain ⟨d, hdi, hx'⟩ := hd.getV hx
    rw [List.getElem?_map] at hdi
    obtain ⟨q, hq, rfl⟩ := Option.map_eq_some_iff.mp hdi
    rw [findO_go hq] at hf
    refine g_name (by tm_at "at") ?_
    tm_at "go"
    refine rx_str (n := q.1) hx' (pl_at (j := 0) rfl rfl) ?_
    tm_at "go"
    refine ifd (fun c1 => ?_) (fun c1 => ?_)
    · rw [if_pos c1] at hf
      obtain rfl := Option.some.inj hf
      tm_at "go"
      exact k _ _ (Same.refl _) hx'
    · rw [if_neg c1] at hf
      tm_at "go"
      exact ⟨rfl, hf⟩
  · rintro σ' H' ⟨v, rfl, rfl, hf⟩
    rw [List.drop_eq_nil_of_le (by have := hd.len; rw [List.length_map] at this; omega)] at hf
    cases hf
abbrev dcNamedO (M : Md) : Prop := Dc M "rule_named" ["program", "name"] 1 (spF rNamedO M.K)
def rBefore : List PyData → PyData → Prop := fun ds d => ∃ c rr ps more x y, ds = [ogD c rr ps more, .str x, .str y] ∧ OgOk (nmsO rr) ps ∧ x ∈ nmsO rr ∧ y ∈ nmsO rr ∧ d = .bool (decide (OM.Con ps (nmsO rr) x y))
theorem ok_before {f fd} (F : Fun M.K "is_before" "is_before" s_is_before f fd) (b : Bl M) (dn : dcNamedO M) (dc : dcClosed M) : FnG M.prog M.w M.K M.mg M.base CX0 3 f fd ["program", "rule", "other"] (spF rBefore M.K) := by
  refine fn_ok F sc_is_before (fun vs H Q E h => ?_) (fun H vs Q E h => ?_)
  · obtain ⟨ds, d, h, ⟨_, _, _, _, _, _, rfl, _⟩, _⟩ := h
    exact h.len
  obtain ⟨ds, d, h, ⟨c, rr, ps, more, x, y, rfl, O, hx, hy, rfl⟩, k⟩ := h
  obtain _ | ⟨hp, h⟩ := h
  obtain _ | ⟨h1, h⟩ := h
  obtain _ | ⟨h2, h⟩ := h
  cases h
  cases h1
  cases h2
  rename_i vp
  obtain ⟨r1, e1⟩ := findO_of hx
  obtain ⟨r2, e2⟩ := findO_of hy
  refine b_cons (s_expr ?_)
  refine e_callF dn ?_
  tm_at "go"
  refine ⟨_, _, .cons hp (.cons (.str _) .nil), ⟨c, rr, ps, more, x, r1, rfl, e1, rfl⟩, fun v1 H1 s1 h1 => ?_⟩
  refine b_cons (s_expr ?_)
  refine e_callF dn ?_
  tm_at "go"
  refine ⟨_, _, .cons (hp.mono (tp_same s1)) (.cons (.str _) .nil), ⟨c, rr, ps, more, y, r2, rfl, e2, rfl⟩, fun v2 H2 s2 h2 => ?_⟩
  tm_at "go"
  refine e_tupD ?_
  tm_at "go"
  refine ⟨[.str x, .str y], .cons (.str _) (.cons (.str _) .nil), (show 2 ≤ 1000 by decide), fun v3 H3 s3 h3 => ?_⟩
  refine e_callF dc ?_
  tm_at "go"
  refine ⟨_, _, .cons (hp.mono (tp_same (s1.trans (s2.trans s3)))) .nil, ⟨c, rr, ps, more, rfl, O, rfl⟩, fun v4 H4 s4 h4 => ?_⟩
  refine ro_inTP (p := (x, y)) (h3.mono (tp_same s4)) h4 (O.okp hx hy) (fun q hq => O.okp (OM.con_in O.in2 ((clo_mem O.in2).mp hq)).1 (OM.con_in O.in2 ((clo_mem O.in2).mp hq)).2) ?_
  have e : decide ((x, y) ∈ clo (nmsO rr) ps) = decide (OM.Con ps (nmsO rr) x y) := decide_eq_decide.mpr (clo_mem O.in2)
  rw [e]
  tm_at "go"
  exact k _ _ (s1.trans (s2.trans (s3.trans s4))) (.bl _)
end K

namespace G
open PySem PySem.Spec PyProof.Rows L2 SH
/-! ### tuples of texts of which it is known that they have no dict: t.index(x) -/
def PlT (K : PySem.W.Frag) (H : Hp) (v : V) (k : List Str) : Prop := ∃ a o, v = .ref a ∧ H a = some (.frz o (.tup (k.map V.str))) ∧ o.dict = none
theorem PlT.mono {K : PySem.W.Frag} {H H' : Hp} {v : V} {k : List Str} (t : Tp H H') (h : PlT K H v k) : PlT K H' v k := by
  obtain ⟨a, o, e, g, d⟩ := h
  exact ⟨a, o, e, t.f _ _ _ g, d⟩
theorem PlT.sq {K : PySem.W.Frag} {H : Hp} {v : V} {k : List Str} (h : PlT K H v k) : ∃ a, v = .ref a ∧ SqT K H a (k.map V.str) := by
  obtain ⟨a, o, e, g, _⟩ := h
  exact ⟨a, e, .inl (.inr ⟨o, g⟩)⟩
theorem PlT.dt {K : PySem.W.Frag} {H : Hp} {v : V} {k : List Str} (h : PlT K H v k) : Dt K H v (tS k) := by
  obtain ⟨a, rfl, s⟩ := h.sq
  exact tS_dt s
section
variable {X : Cx}
def tTupP (t : TA) : TE := fun σ H Q => t σ H fun xs H1 => xs.length ≤ sizeLine ∧ ∀ p o, H1 p = none → o.dict = none → Q (.ref p) (upd H1 p (.frz o (.tup xs)))
theorem pe_tupP {x1} {es : List Expr} {pos : Pos} {t : TA} (h : PA X es t) : PE X (.Tuple es x1 pos) (tTupP t) := by
  refine ⟨fun pins s σ H Q J hq => ?_⟩
  refine wpAny_Tuple_spliced (thn (h.run pos pins s σ H _ J hq) fun us s1 ⟨xs, H1, J1, r, z, q⟩ => ⟨by rw [← r.length]; exact z, ?_⟩)
  have free : H1 s1.heap.objs.size = none := J1.hok.fresh (Nat.le_refl _)
  refine ⟨.ref s1.heap.objs.size, _, J1.laid (t' := s1.toks) (o := .frz { cls := .type "tuple", data := .seq us.toArray } (.tup xs)) (fun b u e => Heap.get?_push_of_some _ e) (Nat.le_refl _) ?_, rfl, q _ _ free rfl⟩
  exact ⟨Heap.get?_push_size _ rfl, z, us, r, ⟨_, Heap.get?_push_size _ rfl, rfl, _, rfl⟩⟩
/-- t + u, what is made is known -/
def rCatP (K : PySem.W.Frag) : R2 := fun x y H Q => ∃ a b xs ys, x = .ref a ∧ y = .ref b ∧ SqT K H a xs ∧ SqT K H b ys ∧ xs.length + ys.length ≤ sizeLine ∧
  (xs = [] → Q (.ref b) H) ∧ (xs ≠ [] → ys = [] → Q (.ref a) H) ∧ (xs ≠ [] → ys ≠ [] → ∀ p o, H p = none → o.dict = none → Q (.ref p) (upd H p (.frz o (.tup (xs ++ ys)))))
theorem op_catP : OpR X (binaryOp .Add) (rCatP X.K) := by
  rintro pins s σ H x y v u Q J rx ry ⟨a, b, xs, ys, rfl, rfl, ha, hb, hz, q0, q1, q2⟩
  cases rx
  cases ry
  obtain ⟨its, r1, p1, _⟩ := J.tuple ha
  obtain ⟨its2, r2, p2, _⟩ := J.tuple hb
  by_cases hx : xs = []
  · subst hx
    cases r1
    exact cat_tup0 p1 p2 ⟨.ref b, H, J, rfl, q0 rfl⟩
  · refine HT.cat_tup p1 p2 (fun z => hx (r1.nil_iff.mp z)) (fun z => ⟨.ref a, H, J, rfl, q1 hx (r2.nil_iff.mp z)⟩) (fun z => ?_) (by rw [← r1.length, ← r2.length]; exact hz)
    refine ⟨.ref s.heap.objs.size, _, J.laid (t' := s.toks) (o := .frz { cls := .type "tuple", data := .seq (its ++ its2).toArray } (.tup (xs ++ ys))) (fun b ob e => Heap.get?_push_of_some _ e) (Nat.le_refl _) ?_, rfl, q2 hx (fun e => z (r2.nil_iff.mpr e)) _ _ (J.hok.fresh (Nat.le_refl _)) rfl⟩
    exact ⟨Heap.get?_push_size _ rfl, by rw [List.length_append]; exact hz, _, r1.append r2, IsTup.new _ _⟩
def tyP (x : V) (H : Hp) : Prop := ∃ a o xs, x = .ref a ∧ H a = some (.frz o (.tup xs)) ∧ o.dict = none
def tBMP (r : V → List V → Hp → VK → Prop) (to : TE) (t : TA) : TE := fun σ H Q => to σ H fun x H1 => tyP x H1 ∧ t σ H1 fun xs H2 => r x xs H2 Q
theorem pe_bmP {o e : Expr} {es : List Expr} {to : TE} {t : TA} {name : Str} {apos cpos : Pos} {id : String} {r : V → List V → Hp → VK → Prop} (slot : Slot "tuple" name id) (hty : typeOf (.builtin id) = pure (.type "method_descriptor")) (hm : MtR X id r) (ho : PE X o to) (ha : PA X (e :: es) t)
    (base_ : attributeBase o name X.env (eval o X.env) = eval o X.env)
    (few_ : ((backTo cpos (starEach (e :: es) X.env)).all (fun x => !x.1) && (backToKw cpos (keywordEach [] X.env)).all (fun x => x.1.isSome)
      && decide ((e :: es).length + ([] : List Keyword).length + (if ([] : List Keyword).isEmpty then 0 else 1) < 30)) = true)
    (line_ : (apos.endLine == cpos.line) = true) (hs : starEach (e :: es) X.env = (false, eval e X.env) :: starEach es X.env) (plain_ : (backTo cpos (starEach es X.env)).any (·.1) = false) :
    PE X (.Call (.Attribute o name apos) (e :: es) [] cpos) (tBMP r to t) := by
  refine ⟨fun pins s σ H Q J h => ?_⟩
  refine wpAny_Call_method_late base_ few_ line_ rfl (thn (ho.run pins s σ H _ J h) fun v s1 ⟨x, H1, J1, r1, ty, q1⟩ => ?_)
  obtain ⟨a, ob, xs, rfl, g, nd⟩ := ty
  cases r1
  obtain ⟨ga, _, its, _, o2, g2, c2, _⟩ := (show ObjOk X.prog X.w H1 s1.heap a (.frz ob (.tup xs)) from J1.hok a _ g)
  obtain rfl : o2 = ob := Option.some.inj (g2.symm.trans ga)
  refine ⟨"tuple", id, PySem.F.plainAttrs_tuple, slot, hty, ⟨_, g2, c2⟩, fun b eb => ?_, ?_⟩
  · cases eb
    exact ⟨_, g2, nd⟩
  have hA := ha.run cpos pins s1 σ H1 _ J1 q1
  rw [hs] at hA ⊢
  refine Calls.callWith_builtin (by show (false || (backTo cpos (starEach es X.env)).any (·.1)) = false; rw [plain_] <;> rfl) (Calls.evalArgs_plain ?_)
  exact thn hA fun us s2 ⟨vs, H2, J2, r2, q2⟩ => hm pins s2 σ H2 (.ref a) vs _ us Q J2 (show RelV (.ref a) (.ref a) from rfl) r2 q2
end
section
variable {c : Cd} {σ : L2.St} {H : Hp} {Q : VK} {pos : Pos}
theorem e_tupP {es : List Expr} {x1} (q : RA c es σ H fun xs H1 => ∃ k : List Str, xs = k.map V.str ∧ k.length ≤ 1000 ∧ ∀ v H2, Same H1 H2 → PlT c.K H2 v k → Q v H2) : RE c (.Tuple es x1 pos) σ H Q :=
  re_of (t := tTupP (RA c es)) (fun X h => pe_tupP (pa_ra h)) (RA.mono (fun xs H1 z => by
    obtain ⟨k, rfl, h1, h2⟩ := z
    exact ⟨by rw [List.length_map]; exact Nat.le_trans h1 (by decide), fun p o hp no => h2 _ _ (same_new hp) ⟨p, o, rfl, upd_same, no⟩⟩) q)
/-- t + u of tuples of texts -/
theorem ro_catP {x y : V} {k l : List Str} (hx : Dt c.K H x (tS k)) (hy : Dt c.K H y (tS l)) (h1 : k = [] → PlT c.K H y l) (h2 : l = [] → PlT c.K H x k) (few : k.length + l.length ≤ 100000) (q : ∀ v H2, Same H H2 → PlT c.K H2 v (k ++ l) → Q v H2) : RO c .Add x y H Q := by
  obtain ⟨a, rfl, ha⟩ := dt_tS hx
  obtain ⟨b, rfl, hb⟩ := dt_tS hy
  refine ro_of (r := rCatP c.K) (fun X h => by rw [← h.K]; exact op_catP) ⟨a, b, _, _, rfl, rfl, ha, hb, by rw [List.length_map, List.length_map]; exact Nat.le_trans few (by decide), fun e => ?_, fun _ e => ?_, fun _ _ p o hp no => ?_⟩
  · have e : k = [] := List.map_eq_nil_iff.mp e
    have z := h1 e
    subst e
    exact q _ _ (Same.refl _) z
  · have e : l = [] := List.map_eq_nil_iff.mp e
    have z := h2 e
    subst e
    rw [List.append_nil] at q
    exact q _ _ (Same.refl _) z
  · refine q _ _ (same_new hp) ⟨p, o, rfl, ?_, no⟩
    rw [List.map_append]
    exact upd_same
def rIdxT (K : PySem.W.Frag) : V → List V → Hp → VK → Prop := fun x xs H Q => ∃ p, ∃ ys : List Str, ∃ z j, x = .ref p ∧ xs = [.str z] ∧ SqT K H p (ys.map V.str) ∧ ys[j]? = some z ∧ (∀ m, m < j → ys[m]? ≠ some z) ∧ Q (.int (j : Nat)) H
/-- t.index(x), x a text of t -/
theorem e_indexT {o e : Expr} {apos : Pos} (q : RE c o σ H fun x H1 => ∃ k, PlT c.K H1 x k ∧ RE c e σ H1 fun y H2 => PlT c.K H2 x k ∧ ∃ n, y = .str n ∧ n ∈ k ∧ Q (.int (k.idxOf n)) H2)
    (base_ : ∀ env, attributeBase o "index" env (eval o env) = eval o env := by intro _; rfl)
    (few_ : ∀ env, ((backTo pos (starEach [e] env)).all (fun x => !x.1) && (backToKw pos (keywordEach [] env)).all (fun x => x.1.isSome)
      && decide (([e] : List Expr).length + ([] : List Keyword).length + (if ([] : List Keyword).isEmpty then 0 else 1) < 30)) = true := by intro _; rfl)
    (line_ : (apos.endLine == pos.line) = true := by rfl) (hs : ∀ env, starEach [e] env = (false, eval e env) :: starEach [] env := by intro _; rfl) (plain_ : ∀ env, (backTo pos (starEach [] env)).any (·.1) = false := by intro _; rfl) :
    RE c (.Call (.Attribute o "index" apos) [e] [] pos) σ H Q := by
  refine re_of (t := tBMP (RM c "tuple.index") (RE c o) (RA c [e])) (fun X h => pe_bmP PySem.F.slot_tuple_index PySem.F.type_tuple_index (mt_rm h) (pe_re h) (pa_ra h) (base_ _) (few_ _) line_ (hs _) (plain_ _)) (RE.mono (fun x H1 z => ?_) q)
  obtain ⟨k, hx, z⟩ := z
  obtain ⟨a, ob, e1, g, nd⟩ := hx
  refine ⟨⟨a, ob, _, e1, g, nd⟩, a_cons (RE.mono (fun y H2 z => a_nil ?_) z) hs⟩
  obtain ⟨h2, n, rfl, hn, q⟩ := z
  obtain ⟨a', e2, s2⟩ := h2.sq
  subst e2
  refine rm_of (r := rIdxT c.K) (fun X h => by rw [← h.K]; exact mt_tup_index) ⟨a', k, n, k.idxOf n, rfl, rfl, ?_, ?_, ?_, q⟩
  · exact s2
  · have lt := List.idxOf_lt_length_iff.mpr hn
    rw [List.getElem?_eq_getElem lt, List.getElem_idxOf]
  · intro m hm e
    have := List.not_of_lt_findIdx (p := (· == n)) (xs := k) hm
    obtain ⟨h1, h2⟩ := List.getElem?_eq_some_iff.mp e
    simp [h2] at this
end
end G

namespace G
open PySem PySem.Spec PyProof.Rows L2 SH
section
variable {c : Cd} {H : Hp} {Q : VK}
theorem rc_allB {p : Addr} {bs : List Bool} (h : SqL c.K H p (bs.map V.bl)) (q : Q (.bl (bs.all id)) H) : RC c (.builtin "all") [.ref p] H Q :=
  rc_of (r := rAll c.K) (fun X h => by rw [← h.K]; exact cr_all h.calm) ⟨p, bs, rfl, h, q⟩
theorem dt_bools {K : PySem.W.Frag} {H : Hp} : ∀ {bs : List Bool} {xs : List V}, DtAll K H xs (bs.map .bool) → xs = bs.map .bl
  | [], _, h => by cases h; rfl
  | b :: bs, _, h => by
    obtain _ | ⟨h1, h2⟩ := h
    cases h1
    rw [dt_bools h2]; rfl
theorem rc_isTupT {v : V} {ds : List PyData} (h : Dt c.K H v (.tuple ds)) (q : Q (.bl true) H) : RC c (.builtin "isinstance") [v, .ty "tuple"] H Q := by
  obtain ⟨a, xs, rfl, hs, _⟩ := h.tupE
  exact rc_isi (t := "tuple") (ty_tup hs) rfl q
end
end G
namespace K
open PySem PySem.Spec PyProof.Rows L2 G SH
variable {M : Md}
/-! ### open pairs -/
def gP (f : Str × Str → Bool) (d : PyData) : Option PyData := match d with
  | .tuple [.str a, .str b] => if f (a, b) = true then some (prS (a, b)) else none
  | _ => none
theorem gP_at {f : Str × Str → Bool} {q : Str × Str} : gP f (prS q) = if f q = true then some (prS q) else none := rfl
theorem gP_eq (f : Str × Str → Bool) : ∀ cs : PL, (cs.map prS).filterMap (gP f) = (cs.filter f).map prS
  | [] => rfl
  | q :: cs => by
    rw [List.map_cons, List.filterMap_cons, List.filter_cons, gP_eq f cs, gP_at]
    by_cases h : f q = true
    · rw [if_pos h, if_pos h]
      rfl
    · rw [if_neg h, if_neg h]
noncomputable def opn (ns : List Str) (ps : PL) : PL := (prodL ns).filter fun q => decide (lts q.1 q.2) && (!decide (OM.Con ps ns q.1 q.2) && !decide (OM.Con ps ns q.2 q.1))
def rOpn : List PyData → PyData → Prop := fun ds d => ∃ c rr ps more, ds = [ogD c rr ps more] ∧ OgOk (nmsO rr) ps ∧ d = pairsD (opn (nmsO rr) ps)
def gLt (d e : PyData) : Option PyData := match d, e with
  | .str a, .str b => if decide (lts a b) = true then some (prS (a, b)) else none
  | _, _ => none
theorem gLt_eq (as bs : List Str) : ((as.map PyData.str).flatMap fun d => (bs.map PyData.str).filterMap (gLt d)) = ((as.flatMap fun a => bs.map fun b => (a, b)).filter fun q => decide (lts q.1 q.2)).map prS := by
  have row : ∀ (a : Str) (bs : List Str), (bs.map PyData.str).filterMap (gLt (.str a)) = ((bs.map fun b => (a, b)).filter fun q => decide (lts q.1 q.2)).map prS := by
    intro a bs
    induction bs with
    | nil => rfl
    | cons b bs ih =>
      rw [List.map_cons, List.filterMap_cons, List.map_cons, List.filter_cons, ih]
      by_cases h : decide (lts a b) = true
      · have e : gLt (.str a) (.str b) = some (prS (a, b)) := if_pos h
        rw [e, if_pos h]
        rfl
      · have e : gLt (.str a) (.str b) = none := if_neg h
        rw [e, if_neg h]
  induction as with
  | nil => rfl
  | cons a as ih => rw [List.map_cons, List.flatMap_cons, List.flatMap_cons, List.filter_append, List.map_append, ih, row]
theorem ok_opn {f fd} (F : Fun M.K "unordered_pairs" "unordered_pairs" s_unordered_pairs f fd) (b : Bl M) (dn : dcNames M) (dc : dcClosed M) : FnG M.prog M.w M.K M.mg M.base CX0 3 f fd ["program"] (spF rOpn M.K) := by
  refine fn_ok F sc_unordered_pairs (fun vs H Q E h => ?_) (fun H vs Q E h => ?_)
  · obtain ⟨ds, d, h, ⟨_, _, _, _, rfl, _⟩, _⟩ := h
    exact h.len
  obtain ⟨ds, d, h, ⟨c, rr, ps, more, rfl, O, rfl⟩, k⟩ := h
  obtain _ | ⟨hp, h⟩ := h
  cases h
  rename_i vp
  have fw := O.few
  have nl : (nmsO rr).length = rr.length := List.length_map ..
  refine b_cut (fun σ1 H1 => ∃ (v1 : V), σ1 = [some vp, some v1, none, none, none, none] ∧ Same H H1 ∧ Dt M.K H1 v1 (tS (nmsO rr))) ?_ ?_
  · refine s_set (by tm_at "at") ?_
    refine e_callF dn ?_
    tm_at "go"
    exact ⟨_, _, .cons hp .nil, ⟨c, rr, ps, more, rfl, by omega, rfl⟩, fun v H2 s2 h2 => ⟨v, rfl, s2, h2⟩⟩
  rintro _ H1 ⟨v1, rfl, s1, h1⟩
  refine b_cut (fun σ1 H2 => ∃ (v2 : V), σ1 = [some vp, some v1, some v2, none, none, none] ∧ Same H1 H2 ∧ Dt M.K H2 v2 (pairsD (clo (nmsO rr) ps))) ?_ ?_
  · refine s_set (by tm_at "at") ?_
    refine e_callF dc ?_
    tm_at "go"
    exact ⟨_, _, .cons (hp.mono (tp_same s1)) .nil, ⟨c, rr, ps, more, rfl, O, rfl⟩, fun v H2 s2 h2 => ⟨v, rfl, s2, h2⟩⟩
  rintro _ H2 ⟨v2, rfl, s2, h2⟩
  have h12 := h1.mono (tp_same s2)
  obtain ⟨an, rfl, hn⟩ := dt_tS h12
  have plen : (prodL (nmsO rr)).length ≤ 25 := by rw [prodL_len]; exact Nat.mul_le_mul fw fw
  refine b_cut (fun σ1 H3 => ∃ (l : Addr) (us : List V) (w4 w5 : Option V), σ1 = [some vp, some (.ref an), some v2, some (.ref l), w4, w5] ∧ Same H2 H3 ∧ H3 l = some (.lst us) ∧ DtAll M.K H3 us (((prodL (nmsO rr)).filter fun q => decide (lts q.1 q.2)).map prS)) ?_ ?_
  · refine s_setLc2 (own := [("one", 4), ("other", 5)]) (vs1 := [5]) (by tm_at "at") (Blk.of (N := N_unordered_pairs) (sc := defScope s_unordered_pairs) rfl rfl (by decide +kernel)) (by decide) ?_
    refine lc2_F true true gLt (fun _ => (nmsO rr).map .str) (e_var (by tm_at "at") ⟨an, _, (nmsO rr).map .str, rfl, hn, all_strs _, ?_, fun d v H5 hd s5 hx => ?_, fun p us H5 s5 n5 g6 h5 => ?_⟩)
    · rw [sumL_const, List.length_map]
      exact Nat.le_trans (Nat.mul_le_mul fw fw) (by decide)
    · obtain ⟨a1, _, rfl⟩ := List.mem_map.mp hd
      cases hx
      refine g_name (by tm_at "at") ⟨rfl, rfl, ?_⟩
      refine e_var (by tm_at "at") ⟨Same.refl _, an, _, rfl, (tp_same s5).sqt hn, (fun z => nomatch z), all_strs _, fun e u H6 he s6 t6 hu => ?_⟩
      obtain ⟨b1, _, rfl⟩ := List.mem_map.mp he
      cases hu
      refine g_name (by tm_at "at") ⟨rfl, rfl, ts_one ?_⟩
      tm_at "go"
      refine ro_ltS ?_
      tm_at "go"
      refine ⟨Same.refl _, ifb (fun c1 => ?_) (fun c1 => ?_)⟩
      · refine e_tupD ?_
        tm_at "go"
        exact ⟨[.str a1, .str b1], .cons (.str _) (.cons (.str _) .nil), (show 2 ≤ 1000 by decide), fun v H7 s7 h7 => ⟨s7, _, (show (if decide (lts a1 b1) = true then some (prS (a1, b1)) else none) = _ from if_pos c1), h7⟩⟩
      · exact (show (if decide (lts a1 b1) = true then some (prS (a1, b1)) else none) = _ from if_neg (by rw [c1]; exact Bool.false_ne_true))
    · rw [gLt_eq] at h5
      exact ⟨p, us, _, _, rfl, s5, g6, h5⟩
  rintro _ H3 ⟨l, us, w4, w5, rfl, s3, g3, h3⟩
  have hc := h2.mono (tp_same s3)
  tm_at "go"
  refine e_lc (own := [("one", 4), ("other", 5)]) (Blk.of (N := N_unordered_pairs) (sc := defScope s_unordered_pairs) rfl rfl (by decide +kernel)) ?_
  have few2 : ((prodL (nmsO rr)).filter fun q => decide (lts q.1 q.2)).length ≤ 25 := Nat.le_trans (List.length_filter_le _ _) plen
  refine lcL_F (gP fun q => !decide (OM.Con ps (nmsO rr) q.1 q.2) && !decide (OM.Con ps (nmsO rr) q.2 q.1)) (e_var (by tm_at "at") ⟨l, us, _, rfl, .of g3, h3, by rw [List.length_map]; omega, fun d x H4 hd s4 hx => ?_, fun p us2 H4 s4 n4 g4 h4 => ?_⟩)
  · obtain ⟨q, hq, rfl⟩ := List.mem_map.mp hd
    obtain ⟨hq1, _⟩ := List.mem_filter.mp hq
    obtain ⟨m1, m2⟩ := prodL_mem.mp hq1
    refine g_unp2 (by tm_at "at") (by tm_at "at") hx fun v1 v2 h1 h2 => ?_
    cases h1
    cases h2
    refine ⟨rfl, rfl, ts_one ?_⟩
    tm_at "go"
    refine e_tupD ?_
    tm_at "go"
    refine ⟨[.str q.1, .str q.2], .cons (.str _) (.cons (.str _) .nil), (show 2 ≤ 1000 by decide), fun v H5 s5 h5 => ?_⟩
    tm_at "go"
    have okc : ∀ r ∈ clo (nmsO rr) ps, OkS (pr2 r) := fun r hr => O.okp (OM.con_in O.in2 ((clo_mem O.in2).mp hr)).1 (OM.con_in O.in2 ((clo_mem O.in2).mp hr)).2
    refine ro_ninTP (p := q) h5 (hc.mono (tp_same (s4.trans s5))) (O.okp m1 m2) okc ?_
    have e1 : decide (q ∈ clo (nmsO rr) ps) = decide (OM.Con ps (nmsO rr) q.1 q.2) := decide_eq_decide.mpr (clo_mem O.in2)
    rw [e1]
    tm_at "go"
    refine ifb (fun c1 => ?_) (fun c1 => ?_)
    · tm_at "go"
      refine e_tupD ?_
      tm_at "go"
      refine ⟨[.str q.2, .str q.1], .cons (.str _) (.cons (.str _) .nil), (show 2 ≤ 1000 by decide), fun v6 H6 s6 h6 => ?_⟩
      tm_at "go"
      refine ro_ninTP (p := (q.2, q.1)) h6 (hc.mono (tp_same (s4.trans (s5.trans s6)))) (O.okp m2 m1) okc ?_
      have e2 : decide ((q.2, q.1) ∈ clo (nmsO rr) ps) = decide (OM.Con ps (nmsO rr) q.2 q.1) := decide_eq_decide.mpr (clo_mem O.in2)
      rw [e2]
      tm_at "go"
      refine ⟨s5.trans s6, ifb (fun c2 => ?_) (fun c2 => ?_)⟩
      · refine e_tupD ?_
        tm_at "go"
        exact ⟨[.str q.1, .str q.2], .cons (.str _) (.cons (.str _) .nil), (show 2 ≤ 1000 by decide), fun v7 H7 s7 h7 => ⟨s7, _, (show (if (!decide (OM.Con ps (nmsO rr) q.1 q.2) && _) = true then some (prS (q.1, q.2)) else none) = _ from if_pos (by rw [c1, c2]; rfl)), h7⟩⟩
      · exact (show (if (!decide (OM.Con ps (nmsO rr) q.1 q.2) && _) = true then some (prS (q.1, q.2)) else none) = _ from if_neg (by rw [c2, Bool.and_false]; exact Bool.false_ne_true))
    · tm_at "go"
      refine ⟨s5, ?_⟩
      rw [if_neg Bool.false_ne_true]
      exact (show (if (!decide (OM.Con ps (nmsO rr) q.1 q.2) && _) = true then some (prS (q.1, q.2)) else none) = _ from if_neg (by rw [c1, Bool.false_and]; exact Bool.false_ne_true))
  · tm_at "go"
    refine rc_tupL (.of g4) h4 fun v3 H5 s5 h5 => ?_
    refine k v3 H5 (s1.trans (s2.trans (s3.trans (s4.trans s5)))) ?_
    rw [gP_eq, List.filter_filter] at h5
    have e2 : opn (nmsO rr) ps = (prodL (nmsO rr)).filter fun a => (!decide (OM.Con ps (nmsO rr) a.1 a.2) && !decide (OM.Con ps (nmsO rr) a.2 a.1)) && decide (lts a.1 a.2) := by
      unfold opn
      refine List.filter_congr fun q _ => ?_
      rw [Bool.and_comm]
    show Dt M.K H5 v3 (.tuple ((opn (nmsO rr) ps).map prS))
    rw [e2]
    exact h5
abbrev dcOpn (M : Md) : Prop := Dc M "unordered_pairs" ["program"] 3 (spF rOpn M.K)
end K

namespace G
open PySem PySem.Spec PyProof.Rows L2 SH
theorem cutD_to {α : Type} (xs : List α) (n : Nat) : cutD xs none (some (n : Int)) = xs.take n := by
  unfold cutD
  rw [HT.sIx_none, HT.sIx_nat, List.drop_zero]
  by_cases h : n ≤ xs.length
  · rw [Nat.min_eq_left h, Nat.sub_zero]
  · rw [Nat.min_eq_right (by omega), Nat.sub_zero, List.take_length, List.take_of_length_le (by omega)]
theorem cutD_from {α : Type} (xs : List α) (n : Nat) : cutD xs (some (n : Int)) none = xs.drop n := by
  unfold cutD
  rw [HT.sIx_none, HT.sIx_nat]
  by_cases h : n ≤ xs.length
  · rw [Nat.min_eq_left h]
    exact List.take_of_length_le (by rw [List.length_drop]; exact Nat.le_refl _)
  · rw [Nat.min_eq_right (by omega), List.drop_length, List.drop_of_length_le (by omega), List.take_nil]
end G
namespace K
open PySem PySem.Spec PyProof.Rows L2 G SH
variable {M : Md}
/-! ### the first order -/
def rFirstO : List PyData → PyData → Prop := fun ds d => ∃ c rr ps more, ds = [ogD c rr ps more] ∧ OgOk (nmsO rr) ps ∧ d = tS (OM.greedy (nmsO rr) ps (nmsO rr).length [])
theorem nxt_le (ns : List Str) (ps : PL) (p : List Str) : (OM.nxt ns ps p).length ≤ ns.length := List.length_filter_le _ _
theorem ok_first {f fd} (F : Fun M.K "first_order" "first_order" s_first_order f fd) (b : Bl M) (dn : dcNext M) : FnG M.prog M.w M.K M.mg M.base CX0 3 f fd ["program"] (spF rFirstO M.K) := by
  refine fn_ok F sc_first_order (fun vs H Q E h => ?_) (fun H vs Q E h => ?_)
  · obtain ⟨ds, d, h, ⟨_, _, _, _, rfl, _⟩, _⟩ := h
    exact h.len
  obtain ⟨ds, d, h, ⟨c, rr, ps, more, rfl, O, rfl⟩, k⟩ := h
  obtain _ | ⟨hp, h⟩ := h
  cases h
  rename_i vp
  have fw := O.few
  have nl : (nmsO rr).length = rr.length := List.length_map ..
  refine b_cut (fun σ1 H1 => ∃ (v1 : V), σ1 = [some vp, some v1, none] ∧ Same H H1 ∧ Dt M.K H1 v1 (tS [])) ?_ ?_
  · refine s_set (by tm_at "at") ?_
    refine e_tupD ?_
    tm_at "go"
    exact ⟨[], .nil, Nat.zero_le _, fun v H2 s2 h2 => ⟨v, rfl, s2, h2⟩⟩
  rintro _ H1 ⟨v1, rfl, s1, h1⟩
  refine b_cut (fun σ1 H2 => ∃ (v1 : V) (v2 : Option V), σ1 = [some vp, some v1, v2] ∧ Same H H2 ∧ Dt M.K H2 v1 (tS (OM.greedy (nmsO rr) ps (nmsO rr).length []))) ?_ ?_
  · refine s_forT ?_
    tm_at "go"
    refine rx_tup (hp.mono (tp_same s1)) (d := .tuple (rr.map rrD)) (pl_at (j := 1) rfl rfl) fun vr hr => ?_
    obtain ⟨a, xs, rfl, ht, hd⟩ := hr.tupE
    have lx : xs.length = rr.length := by have := hd.len; rwa [List.length_map] at this
    refine ⟨a, xs, rfl, ht, fun i σ' H' => ∃ (v1 : V) (v2 : Option V) (p : List Str), σ' = [some vp, some v1, v2] ∧ Same H1 H' ∧ Dt M.K H' v1 (tS p) ∧ p.length ≤ i ∧ OM.greedy (nmsO rr) ps (rr.length - i) p = OM.greedy (nmsO rr) ps (nmsO rr).length [],
      ⟨v1, none, [], rfl, Same.refl _, h1, Nat.le_refl _, by rw [nl, Nat.sub_zero]⟩, ?_, ?_, ?_⟩
    · rintro i σ' H' _ ⟨v1, v2, p, rfl, s, _⟩
      exact (tp_same s).sqt ht
    · rintro i x σ' H' hx ⟨v1, v2, p, rfl, s, hv, lp, eg⟩
      have hi := (List.getElem?_eq_some_iff.mp hx).1
      refine g_name (by tm_at "at") ?_
      refine b_one (s_set (by tm_at "at") ?_)
      tm_at "go"
      refine e_callF dn ?_
      tm_at "go"
      refine ⟨_, _, .cons (hp.mono (tp_same (s1.trans s))) (.cons hv .nil), ⟨c, rr, ps, more, p, rfl, by omega, O.pl, rfl⟩, fun v H2 s2 h2 => ?_⟩
      tm_at "go"
      refine rsl_tup h2 fun w H3 s3 h3 => ?_
      have e1 : cutD ((OM.nxt (nmsO rr) ps p).map PyData.str) none (some 1) = ((OM.nxt (nmsO rr) ps p).take 1).map .str := by
        rw [show (some (1 : Int)) = some ((1 : Nat) : Int) from rfl, cutD_to, List.map_take]
      rw [e1] at h3
      refine ro_catT (ds := p.map .str) (hv.mono (tp_same (s2.trans s3))) h3 (by rw [List.length_map, List.length_map, List.length_take]; omega) fun u H4 s4 h4 => ?_
      refine ⟨u, _, p ++ (OM.nxt (nmsO rr) ps p).take 1, rfl, s.trans (s2.trans (s3.trans s4)), ?_, by rw [List.length_append, List.length_take]; omega, ?_⟩
      · show Dt M.K H4 u (.tuple ((p ++ (OM.nxt (nmsO rr) ps p).take 1).map .str))
        rw [List.map_append]
        exact h4
      · rw [← eg, show rr.length - i = (rr.length - (i + 1)) + 1 by omega]
        rfl
    · rintro σ' H' ⟨v1, v2, p, rfl, s, hv, lp, eg⟩
      rw [lx, Nat.sub_self] at eg
      refine ⟨v1, v2, rfl, s1.trans s, ?_⟩
      rw [← eg]
      exact hv
  rintro _ H2 ⟨v1, v2, rfl, s2, h2⟩
  tm_at "go"
  exact k _ _ s2 h2
/-! ### is an order legal -/
def legb (ns : List Str) (ps : PL) (k : List Str) : Bool := decide (k.length = ns.length) && (ns.all fun n => decide (n ∈ k)) && ps.all fun q => decide (k.idxOf q.1 < k.idxOf q.2)
def spLeg (K : PySem.W.Frag) : Sp := fun vs H Q _ => ∃ c rr ps more k vp vt, vs = [vp, vt] ∧ Dt K H vp (ogD c rr ps more) ∧ PlT K H vt k ∧ OgOk (nmsO rr) ps ∧ k.length ≤ 1000 ∧ ∀ H', Same H H' → Q (.bl (legb (nmsO rr) ps k)) H'
theorem bools_map {α : Type} (f : α → Bool) (l : List α) : l.map (fun x => PyData.bool (f x)) = (l.map f).map .bool := by rw [List.map_map]; rfl
theorem ok_legal {f fd} (F : Fun M.K "is_legal" "is_legal" s_is_legal f fd) (b : Bl M) (ha : M.mg "all" = none) (dn : dcNames M) : FnG M.prog M.w M.K M.mg M.base CX0 2 f fd ["program", "thing"] (spLeg M.K) := by
  refine fn_ok F sc_is_legal (fun vs H Q E h => ?_) (fun H vs Q E h => ?_)
  · obtain ⟨_, _, _, _, _, _, _, rfl, _⟩ := h
    rfl
  obtain ⟨c, rr, ps, more, k, vp, vt, rfl, hp, ht, O, lk, q⟩ := h
  have fw := O.few
  have nl : (nmsO rr).length = rr.length := List.length_map ..
  refine b_cut (fun σ1 H1 => ∃ (v2 : V), σ1 = [some vp, some vt, some v2, none, none, none] ∧ Same H H1 ∧ Dt M.K H1 v2 (tS (nmsO rr))) ?_ ?_
  · refine s_set (by tm_at "at") ?_
    refine e_callF dn ?_
    tm_at "go"
    exact ⟨_, _, .cons hp .nil, ⟨c, rr, ps, more, rfl, by omega, rfl⟩, fun v H2 s2 h2 => ⟨v, rfl, s2, h2⟩⟩
  rintro _ H1 ⟨v2, rfl, s1, h2⟩
  have t1 := ht.mono (tp_same s1)
  refine b_cut (fun σ1 H2 => H1 = H2 ∧ σ1 = [some vp, some vt, some v2, none, none, none] ∧ k.length = (nmsO rr).length) ?_ ?_
  · refine s_if (t_w (e := .BoolOp _ _ _) (w_or ?_))
    tm_at "go"
    refine t_val ?_
    tm_at "go"
    refine rc_isTupT t1.dt ?_
    refine ⟨_, rfl, ?_⟩
    tm_at "go"
    refine rc_lenT t1.dt ?_
    tm_at "go"
    refine rc_lenT h2 ?_
    tm_at "go"
    rw [List.length_map, List.length_map]
    refine ifnd (fun c1 => ?_) (fun c1 => ?_)
    · tm_at "go"
      have e : legb (nmsO rr) ps k = false := by
        unfold legb
        rw [decide_eq_false (by omega), Bool.false_and, Bool.false_and]
      rw [e] at q
      exact q _ s1
    · tm_at "go"
      exact ⟨rfl, rfl, by omega⟩
  rintro _ _ ⟨rfl, rfl, el⟩
  refine b_cut (fun σ1 H2 => Same H1 H2 ∧ σ1 = [some vp, some vt, some v2, none, none, none] ∧ ∀ n ∈ nmsO rr, n ∈ k) ?_ ?_
  · refine s_if (t_not (t_val ?_))
    refine e_callB (id := "all") ha (by decide +kernel) ?_
    refine a_cons ?_
    refine e_lc (own := [("name", 5)]) (Blk.of (N := N_is_legal) (sc := defScope s_is_legal) rfl rfl (by decide +kernel)) ?_
    refine lcT_F (fun d => match d with | .str n => some (.bool (decide (n ∈ k))) | _ => none) (e_var (by tm_at "at") ⟨(nmsO rr).map .str, h2, by rw [List.length_map]; omega, fun d x H' hd s hx => ?_, fun p us H3 s3 n3 g3 h3 => ?_⟩)
    · obtain ⟨n, _, rfl⟩ := List.mem_map.mp hd
      cases hx
      refine g_name (by tm_at "at") ⟨rfl, rfl, ts_nil ⟨Same.refl _, ?_⟩⟩
      rw [if_pos rfl]
      tm_at "go"
      refine ro_inS (t1.mono (tp_same s)).dt ?_
      exact ⟨Same.refl _, _, rfl, .bl _⟩
    · have e : ((nmsO rr).map PyData.str).filterMap (fun d => match d with | .str n => some (PyData.bool (decide (n ∈ k))) | _ => none) = ((nmsO rr).map fun n => decide (n ∈ k)).map .bool := by
        generalize nmsO rr = l
        induction l with
        | nil => rfl
        | cons n l ih => 
          simp only [List.map_cons, List.filterMap_cons]
          rw [ih]
      rw [e] at h3
      have e2 := dt_bools h3
      subst e2
      tm_at "go"
      refine rc_allB (.of g3) ?_
      refine ⟨_, rfl, ?_⟩
      rw [List.all_map]
      show if (!((nmsO rr).all fun n => decide (n ∈ k))) = true then _ else _
      refine ifb (fun c1 => ?_) (fun c1 => ?_)
      · tm_at "go"
        have e3 : legb (nmsO rr) ps k = false := by
          unfold legb
          rw [Bool.not_eq_true'] at c1
          rw [c1, Bool.and_false, Bool.false_and]
        rw [e3] at q
        exact q _ (s1.trans s3)
      · tm_at "go"
        refine ⟨s3, rfl, fun n hn => ?_⟩
        rw [Bool.not_eq_false'] at c1
        have := List.all_eq_true.mp c1 n hn
        rwa [decide_eq_true_eq] at this
  rintro _ H2 ⟨s2, rfl, all_⟩
  have t2 := t1.mono (tp_same s2)
  have hp2 := hp.mono (tp_same (s1.trans s2))
  refine b_one (s_ret ?_)
  refine e_callB (id := "all") ha (by decide +kernel) ?_
  refine a_cons ?_
  refine e_lc (own := [("one", 3), ("other", 4)]) (Blk.of (N := N_is_legal) (sc := defScope s_is_legal) rfl rfl (by decide +kernel)) ?_
  refine lcT_F (fun d => match d with | .tuple [.str x, .str y] => some (.bool (decide (k.idxOf x < k.idxOf y))) | _ => none) ?_
  tm_at "go"
  refine rx_tup hp2 (d := pairsD ps) (pl_at (j := 2) rfl rfl) fun v1 h1 => ?_
  refine ⟨ps.map prS, h1, by rw [List.length_map]; have := O.pl; omega, fun d x H' hd s hx => ?_, fun p us H3 s3 n3 g3 h3 => ?_⟩
  · obtain ⟨r, hr, rfl⟩ := List.mem_map.mp hd
    obtain ⟨m1, m2⟩ := O.in2 r hr
    refine g_unp2 (by tm_at "at") (by tm_at "at") hx fun v1 v2 h1 h2 => ?_
    cases h1
    cases h2
    refine ⟨rfl, rfl, ts_nil ⟨Same.refl _, ?_⟩⟩
    rw [if_pos rfl]
    have t3 := t2.mono (tp_same s)
    refine e_cmp ?_
    refine e_indexT (e_var (by tm_at "at") ⟨k, t3, ?_⟩)
    tm_at "go"
    refine ⟨t3, r.1, rfl, all_ _ m1, ?_⟩
    refine e_indexT (e_var (by tm_at "at") ⟨k, t3, ?_⟩)
    tm_at "go"
    refine ⟨t3, r.2, rfl, all_ _ m2, ?_⟩
    tm_at "go"
    have e : decide ((k.idxOf r.1 : Int) < (k.idxOf r.2 : Int)) = decide (k.idxOf r.1 < k.idxOf r.2) := decide_eq_decide.mpr Int.ofNat_lt
    rw [e]
    exact ⟨Same.refl _, _, rfl, .bl _⟩
  · have e : (ps.map prS).filterMap (fun d => match d with | .tuple [.str x, .str y] => some (PyData.bool (decide (k.idxOf x < k.idxOf y))) | _ => none) = (ps.map fun q => decide (k.idxOf q.1 < k.idxOf q.2)).map .bool := by
      generalize ps = l
      induction l with
      | nil => rfl
      | cons n l ih => 
        rw [List.map_cons, List.filterMap_cons, ih]
        rfl
    rw [e] at h3
    have e2 := dt_bools h3
    subst e2
    tm_at "go"
    refine rc_allB (.of g3) ?_
    have e3 : legb (nmsO rr) ps k = (ps.map fun q => decide (k.idxOf q.1 < k.idxOf q.2)).all id := by
      unfold legb
      rw [List.all_map, decide_eq_true el, Bool.true_and]
      have : ((nmsO rr).all fun n => decide (n ∈ k)) = true := List.all_eq_true.mpr fun n hn => decide_eq_true (all_ n hn)
      rw [this, Bool.true_and]
      rfl
    rw [e3] at q
    exact q _ (s1.trans (s2.trans s3))
abbrev dcFirstO (M : Md) : Prop := Dc M "first_order" ["program"] 3 (spF rFirstO M.K)
abbrev dcLegal (M : Md) : Prop := Dc M "is_legal" ["program", "thing"] 2 (spLeg M.K)
end K

namespace K
open PySem PySem.Spec PyProof.Rows L2 G SH
variable {M : Md}
/-! ### levels: sets of rules that may have been done -/
def kids (ns : List Str) (ps : PL) (L : List (List Str)) : List (List Str) := L.flatMap fun p => (OM.nxt ns ps p).map fun n => srtS (p ++ [n])
def ded : List (List Str) → List (List Str)
  | [] => []
  | x :: l => if x ∈ l then ded l else x :: ded l
theorem ded_mem {k : List Str} : ∀ {l : List (List Str)}, k ∈ ded l ↔ k ∈ l
  | [] => Iff.rfl
  | x :: l => by
    unfold ded
    by_cases h : x ∈ l
    · rw [if_pos h, ded_mem, List.mem_cons]
      exact ⟨.inr, fun z => z.elim (fun e => e ▸ h) id⟩
    · rw [if_neg h, List.mem_cons, List.mem_cons, ded_mem]
theorem ded_nd : ∀ l : List (List Str), (ded l).Nodup
  | [] => List.nodup_nil
  | x :: l => by
    unfold ded
    by_cases h : x ∈ l
    · rw [if_pos h]; exact ded_nd l
    · rw [if_neg h]; exact List.nodup_cons.mpr ⟨fun z => h (ded_mem.mp z), ded_nd l⟩
def lvl (ns : List Str) (ps : PL) : Nat → List (List Str)
  | 0 => [[]]
  | j + 1 => srtT (ded (kids ns ps (lvl ns ps j)))
def pfx (ns : List Str) (ps : PL) : List (List Str) := (List.range (ns.length + 1)).flatMap (lvl ns ps)
theorem srt_pw {ns : List Str} (asc : ns.Pairwise lts) (p : List Str) : (OM.srt ns p).Pairwise lts := asc.sublist List.filter_sublist
theorem lts_asym {x y : Str} (h : lts x y) : ¬ lts y x := fun k => lts_irrefl _ (lts_trans h k)
theorem srtS_srt {ns p : List Str} (asc : ns.Pairwise lts) (nd : p.Nodup) (sub : ∀ n ∈ p, n ∈ ns) : srtS p = OM.srt ns p := by
  refine str_uniq (srtS_le p) ((srt_pw asc p).imp fun h => lts_asym h) ((srtS_perm p).trans ?_)
  have nns : ns.Nodup := asc.imp fun {a b} h (e : a = b) => lts_irrefl b (by rw [e] at h; exact h)
  refine (List.perm_ext_iff_of_nodup nd (nns.sublist List.filter_sublist)).mpr fun n => ?_
  show n ∈ p ↔ n ∈ OM.srt ns p
  rw [OM.srt_mem]
  exact ⟨fun h => ⟨sub n h, h⟩, fun h => h.2⟩
theorem lvl_asc (ns : List Str) (ps : PL) : ∀ j, (lvl ns ps j).Pairwise (List.Lex lts)
  | 0 => List.pairwise_singleton _ _
  | j + 1 => srtT_asc (ded_nd _)
theorem lvl_succ {ns : List Str} {ps : PL} {j : Nat} {k : List Str} : k ∈ lvl ns ps (j + 1) ↔ k ∈ kids ns ps (lvl ns ps j) := by
  show k ∈ srtT _ ↔ _
  rw [(srtT_perm _).mem_iff, ded_mem]
theorem lev_facts {ns : List Str} {ps : PL} {j : Nat} {q : List Str} (asc : ns.Pairwise lts) (h : OM.Lev ns ps j q) : q.length = j ∧ q.Nodup ∧ (∀ n ∈ q, n ∈ ns) ∧ q.Pairwise lts ∧ ∃ p, q = OM.srt ns p := by
  obtain ⟨p, w, lp, rfl⟩ := h
  have nns : ns.Nodup := asc.imp fun {a b} h (e : a = b) => lts_irrefl b (by rw [e] at h; exact h)
  obtain ⟨k1, k2, _⟩ := OM.way_keeps w
  exact ⟨by rw [OM.srt_len nns k2 fun n hn => (k1 n hn).1, lp], nns.sublist List.filter_sublist, fun n hn => (OM.srt_mem.mp hn).1, srt_pw asc p, p, rfl⟩
theorem lvl_mem {ns : List Str} {ps : PL} (asc : ns.Pairwise lts) (h2 : OM.In2 ns ps) : ∀ {j : Nat} {k : List Str}, k ∈ lvl ns ps j ↔ OM.Lev ns ps j k
  | 0, k => by
    rw [OM.lev_zero]
    show k ∈ [[]] ↔ _
    rw [List.mem_singleton]
  | j + 1, k => by
    rw [lvl_succ, OM.lev_succ h2]
    unfold kids
    rw [List.mem_flatMap]
    have turn : ∀ p n, OM.Lev ns ps j p → n ∈ OM.nxt ns ps p → srtS (p ++ [n]) = OM.srt ns (p ++ [n]) := fun p n lp hn => by
      obtain ⟨_, nd, sub, _⟩ := lev_facts asc lp
      obtain ⟨n1, n2, _⟩ := OM.nxt_mem.mp hn
      refine srtS_srt asc ?_ fun m hm => ?_
      · rw [List.nodup_append]
        exact ⟨nd, List.pairwise_singleton _ _, fun a ha b hb => by rw [List.mem_singleton.mp hb]; exact fun e => n2 (e ▸ ha)⟩
      · rcases List.mem_append.mp hm with hm | hm
        · exact sub m hm
        · rw [List.mem_singleton.mp hm]; exact n1
    constructor
    · rintro ⟨p, hp, hk⟩
      obtain ⟨n, hn, rfl⟩ := List.mem_map.mp hk
      have lp := (lvl_mem asc h2).mp hp
      exact ⟨p, n, lp, hn, turn p n lp hn⟩
    · rintro ⟨p, n, lp, hn, rfl⟩
      exact ⟨p, (lvl_mem asc h2).mpr lp, List.mem_map.mpr ⟨n, hn, turn p n lp hn⟩⟩
theorem lvl_none {ns : List Str} {ps : PL} (asc : ns.Pairwise lts) (h2 : OM.In2 ns ps) {j : Nat} (h : ns.length < j) : lvl ns ps j = [] := by
  refine List.eq_nil_iff_forall_not_mem.mpr fun k hk => ?_
  obtain ⟨h1, nd, sub, _⟩ := lev_facts asc ((lvl_mem asc h2).mp hk)
  have := nd_len nd sub
  omega
/-! how many there are -/
def subs : List Str → List (List Str)
  | [] => [[]]
  | a :: l => subs l ++ (subs l).map (a :: ·)
theorem filter_subs (f : Str → Bool) : ∀ l : List Str, l.filter f ∈ subs l
  | [] => List.mem_singleton.mpr rfl
  | a :: l => by
    rw [List.filter_cons]
    by_cases h : f a = true
    · rw [if_pos h]
      exact List.mem_append_right _ (List.mem_map.mpr ⟨_, filter_subs f l, rfl⟩)
    · rw [if_neg h]
      exact List.mem_append_left _ (filter_subs f l)
def chs : Nat → Nat → Nat
  | 0, 0 => 1
  | 0, _ + 1 => 0
  | n + 1, 0 => chs n 0
  | n + 1, j + 1 => chs n (j + 1) + chs n j
theorem subs_len : ∀ (l : List Str) (j : Nat), ((subs l).filter fun q => decide (q.length = j)).length = chs l.length j
  | [], 0 => rfl
  | [], _ + 1 => rfl
  | a :: l, 0 => by
    show ((subs l ++ (subs l).map (a :: ·)).filter _).length = chs l.length 0
    rw [List.filter_append, List.length_append, subs_len l 0]
    have e : ((subs l).map (a :: ·)).filter (fun q => decide (q.length = 0)) = [] := by
      refine List.filter_eq_nil_iff.mpr fun q hq => ?_
      obtain ⟨r, _, rfl⟩ := List.mem_map.mp hq
      simp
    rw [e]
    rfl
  | a :: l, j + 1 => by
    show ((subs l ++ (subs l).map (a :: ·)).filter _).length = chs l.length (j + 1) + chs l.length j
    rw [List.filter_append, List.length_append, subs_len l (j + 1), List.filter_map, List.length_map, ← subs_len l j]
    congr 2
    refine List.filter_congr fun q _ => ?_
    show decide ((a :: q).length = j + 1) = _
    rw [List.length_cons]
    exact decide_eq_decide.mpr ⟨fun h => by omega, fun h => by omega⟩
theorem lvl_len {ns : List Str} {ps : PL} (asc : ns.Pairwise lts) (h2 : OM.In2 ns ps) (j : Nat) : (lvl ns ps j).length ≤ chs ns.length j := by
  rw [← subs_len]
  have nd : (lvl ns ps j).Nodup := (lvl_asc ns ps j).imp fun {a b} h (e : a = b) => lex_no (by rw [e] at h; exact h)
  refine nd_len nd fun k hk => ?_
  obtain ⟨h1, _, _, _, p, rfl⟩ := lev_facts asc ((lvl_mem asc h2).mp hk)
  exact List.mem_filter.mpr ⟨filter_subs _ _, decide_eq_true h1⟩
theorem nxt_room {ns : List Str} {ps : PL} {q : List Str} (nns : ns.Nodup) (nd : q.Nodup) (sub : ∀ n ∈ q, n ∈ ns) : (OM.nxt ns ps q).length + q.length ≤ ns.length := by
  rw [← List.length_append]
  refine nd_len ?_ fun n hn => ?_
  · rw [List.nodup_append]
    exact ⟨nns.sublist List.filter_sublist, nd, fun a ha b hb e => (OM.nxt_mem.mp ha).2.1 (e ▸ hb)⟩
  · rcases List.mem_append.mp hn with hn | hn
    · exact (OM.nxt_mem.mp hn).1
    · exact sub n hn
theorem sum_le_mul {α : Type} (f : α → Nat) (c : Nat) : ∀ l : List α, (∀ x ∈ l, f x ≤ c) → sumL (l.map f) ≤ l.length * c
  | [], _ => by simp [sumL]
  | x :: l, h => by
    have h1 := h x List.mem_cons_self
    have h2 := sum_le_mul f c l fun y hy => h y (List.mem_cons_of_mem _ hy)
    show f x + sumL (l.map f) ≤ (l.length + 1) * c
    rw [Nat.add_mul, Nat.one_mul]
    omega
theorem flat_sum {α β : Type} (f : α → List β) : ∀ l : List α, (l.flatMap f).length = sumL (l.map fun x => (f x).length)
  | [] => rfl
  | x :: l => by
    rw [List.flatMap_cons, List.length_append, flat_sum f l]
    rfl
theorem few_tab : ∀ n, n ≤ 5 → ∀ j, j ≤ 5 → chs n j * (n - j) ≤ 30 ∧ chs n j ≤ 10 := by decide
theorem lvl_few {ns : List Str} {ps : PL} (O : OgOk ns ps) (j : Nat) : sumL ((lvl ns ps j).map fun p => (OM.nxt ns ps p).length) ≤ 30 ∧ (lvl ns ps j).length ≤ 10 := by
  by_cases h : j ≤ ns.length
  · have l1 := lvl_len O.asc O.in2 j
    obtain ⟨t1, t2⟩ := few_tab ns.length O.few j (Nat.le_trans h O.few)
    have s1 := sum_le_mul (fun p => (OM.nxt ns ps p).length) (ns.length - j) (lvl ns ps j) fun p hp => by
      obtain ⟨h1, nd, sub, _⟩ := lev_facts O.asc ((lvl_mem O.asc O.in2).mp hp)
      have := nxt_room (ps := ps) O.nd nd sub
      omega
    exact ⟨Nat.le_trans s1 (Nat.le_trans (Nat.mul_le_mul_right _ l1) t1), Nat.le_trans l1 t2⟩
  · rw [lvl_none O.asc O.in2 (by omega)]
    exact ⟨by simp [sumL], Nat.zero_le _⟩
theorem kids_few {ns : List Str} {ps : PL} (O : OgOk ns ps) (j : Nat) : (kids ns ps (lvl ns ps j)).length ≤ 30 := by
  unfold kids
  rw [flat_sum]
  have := (lvl_few O j).1
  simpa using this
theorem lvl_stays {ns : List Str} {ps : PL} {i : Nat} (h : lvl ns ps i = []) : ∀ d, lvl ns ps (i + d) = []
  | 0 => h
  | d + 1 => by
    show srtT (ded (kids ns ps (lvl ns ps (i + d)))) = []
    rw [lvl_stays h d]
    exact (srtT_perm []).eq_nil
theorem pfx_of {ns : List Str} {ps : PL} {i : Nat} (h : lvl ns ps i = []) (hi : i ≤ ns.length + 1) : (List.range i).flatMap (lvl ns ps) = pfx ns ps := by
  have go : ∀ d, (List.range (i + d)).flatMap (lvl ns ps) = (List.range i).flatMap (lvl ns ps) := by
    intro d
    induction d with
    | zero => rfl
    | succ d ih =>
      rw [show i + (d + 1) = (i + d) + 1 from rfl, List.range_succ, List.flatMap_append, ih, List.flatMap_cons, List.flatMap_nil, lvl_stays h d, List.append_nil, List.append_nil]
  unfold pfx
  rw [← go (ns.length + 1 - i), show i + (ns.length + 1 - i) = ns.length + 1 by omega]
theorem flat_few {ns : List Str} {ps : PL} (O : OgOk ns ps) : ∀ i, ((List.range i).flatMap (lvl ns ps)).length ≤ 10 * i
  | 0 => Nat.le_refl _
  | i + 1 => by
    rw [List.range_succ, List.flatMap_append, List.length_append, List.flatMap_cons, List.flatMap_nil, List.append_nil]
    have := flat_few O i
    have := (lvl_few O i).2
    omega
end K

namespace K
open PySem PySem.Spec PyProof.Rows L2 G SH
variable {M : Md}
theorem truL {K : PySem.W.Frag} {H : Hp} {l : Addr} {us : List V} (g : H l = some (.lst us)) : TruV K (.ref l) H (!us.isEmpty) := Or.inl ⟨us, .of g, rfl⟩
/-- a def that answers with a new list of tuples of texts -/
def spTL (W : List PyData → List (List Str) → Prop) (K : PySem.W.Frag) : Sp := fun vs H Q _ => ∃ ds ks, DtAll K H vs ds ∧ W ds ks ∧ ∀ l us H', Same H H' → H l = none → H' l = some (.lst us) → DtAll K H' us (ks.map tS) → Q (.ref l) H'
def rPbl : List PyData → List (List Str) → Prop := fun ds ks => ∃ c rr ps more, ds = [ogD c rr ps more] ∧ OgOk (nmsO rr) ps ∧ ks = pfx (nmsO rr) ps
def unT : PyData → List Str
  | .tuple ds => ds.filterMap fun d => match d with | .str x => some x | _ => none
  | _ => []
theorem unT_tS (k : List Str) : unT (tS k) = k := by
  show (k.map PyData.str).filterMap _ = k
  rw [List.filterMap_map]
  induction k with
  | nil => rfl
  | cons x k ih => rw [List.filterMap_cons]; simp only [Function.comp] at ih ⊢; rw [ih]
def gWith (d e : PyData) : Option PyData := match e with
  | .str n => some (tS (srtS (unT d ++ [n])))
  | _ => none
theorem gWith_eq (ns : List Str) (ps : PL) (L : List (List Str)) : ((L.map tS).flatMap fun d => ((OM.nxt ns ps (unT d)).map PyData.str).filterMap (gWith d)) = (kids ns ps L).map tS := by
  have row : ∀ (p : List Str) (l : List Str), (l.map PyData.str).filterMap (gWith (tS p)) = (l.map fun n => srtS (p ++ [n])).map tS := by
    intro p l
    induction l with
    | nil => rfl
    | cons n l ih =>
      rw [List.map_cons, List.filterMap_cons, ih]
      show tS (srtS (unT (tS p) ++ [n])) :: _ = _
      rw [unT_tS]
      rfl
  unfold kids
  induction L with
  | nil => rfl
  | cons p L ih => rw [List.map_cons, List.flatMap_cons, List.flatMap_cons, List.map_append, ih, row, unT_tS]
theorem sum_tS (ns : List Str) (ps : PL) : ∀ L : List (List Str), sumL ((L.map tS).map fun d => ((OM.nxt ns ps (unT d)).map PyData.str).length) = sumL (L.map fun p => (OM.nxt ns ps p).length)
  | [] => rfl
  | p :: L => by
    show ((OM.nxt ns ps (unT (tS p))).map PyData.str).length + sumL _ = (OM.nxt ns ps p).length + sumL _
    rw [unT_tS, List.length_map]
    congr 1
    exact sum_tS ns ps L
theorem ok_pbl {f fd} (F : Fun M.K "prefixes_by_length" "prefixes_by_length" s_prefixes_by_length f fd) (b : Bl M) (dn : dcNext M) (dw : dcWith M) : FnG M.prog M.w M.K M.mg M.base CX0 3 f fd ["program"] (spTL rPbl M.K) := by
  refine fn_ok F sc_prefixes_by_length (fun vs H Q E h => ?_) (fun H vs Q E h => ?_)
  · obtain ⟨ds, d, h, ⟨_, _, _, _, rfl, _⟩, _⟩ := h
    exact h.len
  obtain ⟨ds, d, h, ⟨c, rr, ps, more, rfl, O, rfl⟩, k⟩ := h
  obtain _ | ⟨hp, h⟩ := h
  cases h
  rename_i vp
  have fw := O.few
  have nl : (nmsO rr).length = rr.length := List.length_map ..
  refine b_cut (fun σ1 H1 => ∃ (l1 : Addr), σ1 = [some vp, some (.ref l1), none, none, none] ∧ Same H H1 ∧ H l1 = none ∧ H1 l1 = some (.lst [])) ?_ ?_
  · refine s_set (by tm_at "at") ?_
    refine e_lst ?_
    tm_at "go"
    exact ⟨Nat.zero_le _, fun p hp => ⟨p, rfl, same_new hp, hp, upd_same⟩⟩
  rintro _ H1 ⟨l1, rfl, s1, n1, g1⟩
  refine b_cut (fun σ1 H2 => ∃ (l2 : Addr) (us : List V), σ1 = [some vp, some (.ref l1), some (.ref l2), none, none] ∧ Same H1 H2 ∧ H2 l2 = some (.lst us) ∧ DtAll M.K H2 us (([[]] : List (List Str)).map tS)) ?_ ?_
  · refine s_set (by tm_at "at") ?_
    refine e_lst ?_
    refine a_cons ?_
    refine e_tupD ?_
    tm_at "go"
    refine ⟨[], .nil, Nat.zero_le _, fun v H2 s2 h2 => ?_⟩
    tm_at "go"
    exact ⟨(show 1 ≤ sizeLine by decide), fun p hp => ⟨p, [v], rfl, s2.trans (same_new hp), upd_same, .cons (h2.mono (tp_same (same_new hp))) .nil⟩⟩
  rintro _ H2 ⟨l2, us, rfl, s2, g2, h2⟩
  refine b_cut (fun σ1 H3 => ∃ (l : Addr) (ys : List V) (v2 v3 v4 : Option V), σ1 = [some vp, some (.ref l), v2, v3, v4] ∧ Same H H3 ∧ H l = none ∧ H3 l = some (.lst ys) ∧ DtAll M.K H3 ys ((pfx (nmsO rr) ps).map tS)) ?_ ?_
  · refine s_while (fun m σ' H' => ∃ (i : Nat) (l l2 : Addr) (ys us : List V) (v3 v4 : Option V), m = rr.length + 1 - i ∧ i ≤ rr.length + 1 ∧ σ' = [some vp, some (.ref l), some (.ref l2), v3, v4] ∧ Same H H' ∧ H l = none ∧ H' l = some (.lst ys) ∧ DtAll M.K H' ys (((List.range i).flatMap (lvl (nmsO rr) ps)).map tS) ∧ H' l2 = some (.lst us) ∧ DtAll M.K H' us ((lvl (nmsO rr) ps i).map tS))
      (rr.length + 1) ⟨0, l1, l2, [], us, _, _, rfl, Nat.zero_le _, rfl, s1.trans s2, n1, s2 _ _ g1, .nil, g2, h2⟩ ?_
    rintro m σ' H' ⟨i, l, l2, ys, us, v3, v4, rfl, hi, rfl, s, n, g, hy, g', hu⟩
    have lu := hu.len
    rw [List.length_map] at lu
    refine t_tru (e_var (by tm_at "at") ⟨!us.isEmpty, truL g', ?_⟩)
    refine ifb (fun c1 => ?_) (fun c1 => ?_)
    · have ne : us ≠ [] := by
        intro e
        subst e
        cases c1
      have hi2 : i ≤ rr.length := by
        rcases Nat.lt_or_ge rr.length i with z | z
        · rw [lvl_none O.asc O.in2 (by omega)] at lu
          exact absurd (List.eq_nil_of_length_eq_zero lu) ne
        · exact z
      have f1 := flat_few O i
      obtain ⟨f2, f3⟩ := lvl_few O i
      refine b_cut (fun σ1 H3 => ∃ (l3 : Addr) (zs : List V), σ1 = [some vp, some (.ref l3), some (.ref l2), v3, v4] ∧ Same H' H3 ∧ H' l3 = none ∧ H3 l3 = some (.lst zs) ∧ DtAll M.K H3 zs (((List.range (i + 1)).flatMap (lvl (nmsO rr) ps)).map tS)) ?_ ?_
      · refine s_set (by tm_at "at") ?_
        tm_at "go"
        refine ro_cat g g' ?_ fun p H3 s3 n3 g3 => ?_
        · have := hy.len
          rw [List.length_map] at this
          omega
        · refine ⟨p, _, rfl, s3, n3, g3, ?_⟩
          rw [List.range_succ, List.flatMap_append, List.flatMap_cons, List.flatMap_nil, List.append_nil, List.map_append]
          exact (hy.app hu).mono (tp_same s3)
      rintro _ H3 ⟨l3, zs, rfl, s3, n3, g3, h3⟩
      have gl2 := s3 _ _ g'
      have hu2 := hu.mono (tp_same s3)
      have hp3 := hp.mono (tp_same (s.trans s3))
      refine b_one (s_set (by tm_at "at") ?_)
      tm_at "go"
      refine e_callT (T := "set") b.set (by decide +kernel) ?_
      tm_at "go"
      refine e_lc2 (own := [("prefix", 3), ("name", 4)]) (vs1 := [4]) (Blk.of (N := N_prefixes_by_length) (sc := defScope s_prefixes_by_length) rfl rfl (by decide +kernel)) (by decide) ?_
      refine lc2_F false true gWith (fun d => (OM.nxt (nmsO rr) ps (unT d)).map .str) (e_var (by tm_at "at") ⟨l2, us, _, rfl, .of gl2, hu2, ?_, fun d v H5 hd s5 hx => ?_, fun p us5 H5 s5 n5 g6 h5 => ?_⟩)
      · rw [sum_tS]
        omega
      · obtain ⟨p, hpm, rfl⟩ := List.mem_map.mp hd
        obtain ⟨q1, _, _, _⟩ := lev_facts O.asc ((lvl_mem O.asc O.in2).mp hpm)
        refine g_name (by tm_at "at") ⟨rfl, rfl, ?_⟩
        refine e_callF dn ?_
        tm_at "go"
        refine ⟨_, _, .cons (hp3.mono (tp_same s5)) (.cons hx .nil), ⟨c, rr, ps, more, p, rfl, by omega, O.pl, rfl⟩, fun w H6 s6 h6 => ?_⟩
        obtain ⟨an, rfl, hn⟩ := dt_tS h6
        rw [unT_tS]
        refine ⟨s6, an, _, rfl, hn, (fun z => nomatch z), all_strs _, fun e u H7 he s7 t7 hu7 => ?_⟩
        obtain ⟨n, _, rfl⟩ := List.mem_map.mp he
        cases hu7
        refine g_name (by tm_at "at") ⟨rfl, rfl, ts_nil ⟨Same.refl _, ?_⟩⟩
        rw [if_pos rfl]
        refine e_callF dw ?_
        tm_at "go"
        refine ⟨_, _, .cons ((hx.mono (tp_same s6)).mono t7) (.cons (.str _) .nil), ⟨p, n, rfl, by omega, rfl⟩, fun v8 H8 s8 h8 => ?_⟩
        refine ⟨s8, _, (show some (tS (srtS (unT (tS p) ++ [n]))) = _ from by rw [unT_tS]), h8⟩
      · rw [gWith_eq] at h5
        tm_at "go"
        have kf := kids_few O i
        refine rc_setST (.inl (.of g6)) h5 (by omega) fun p3 H7 s7 n7 i7 => ?_
        tm_at "go"
        refine rc_sortST i7 fun p4 ys8 H8 vs8 s8 n8 g8 asc8 mem8 hy8 => ?_
        have e8 : vs8 = lvl (nmsO rr) ps (i + 1) := asc_uniq asc8 (lvl_asc _ _ _) fun q => by rw [mem8, lvl_succ]
        subst e8
        have sx := s5.trans (s7.trans s8)
        refine ⟨rr.length + 1 - (i + 1), by omega, i + 1, l3, p4, zs, ys8, _, _, rfl, by omega, rfl, (s.trans s3).trans sx, ?_, sx _ _ g3, h3.mono (tp_same sx), g8, hy8⟩
        cases z : H l3 with
        | none => rfl
        | some o => rw [s _ _ z] at n3; cases n3
    · have e : us = [] := by
        cases us with
        | nil => rfl
        | cons => cases c1
      subst e
      have e2 : lvl (nmsO rr) ps i = [] := List.eq_nil_of_length_eq_zero lu.symm
      have e3 := pfx_of e2 (by omega)
      rw [e3] at hy
      exact ⟨l, ys, _, _, _, rfl, s, n, g, hy⟩
  rintro _ H3 ⟨l, ys, v2, v3, v4, rfl, s3, n3, g3, h3⟩
  tm_at "go"
  exact k l ys H3 s3 n3 g3 h3
abbrev dcPbl (M : Md) : Prop := Dc M "prefixes_by_length" ["program"] 3 (spTL rPbl M.K)
theorem e_callTL {c : Cd} {σ : L2.St} {H : Hp} {Q : VK} {pos : Pos} {x : Str} {p : Pos} {e : Expr} {es : List Expr} {ps : List Str} {k : Nat} {W : List PyData → List (List Str) → Prop} (D : Dc c.toMd x ps k (spTL W c.K)) (q : RA c (e :: es) σ H fun vs H1 => ∃ ds ks, DtAll c.K H1 vs ds ∧ W ds ks ∧ ∀ l us H', Same H1 H' → H1 l = none → H' l = some (.lst us) → DtAll c.K H' us (ks.map tS) → Q (.ref l) H') (hk : k ≤ c.k := by exact Nat.le_of_ble_eq_true rfl) (hg : c.sc.names.lookup x = some .globalImplicit := by rfl)
    (hdb : (x == ("__debug__" : Str)) = false := by decide) (he : ∀ env, starEach (e :: es) env = (false, eval e env) :: starEach es env := by intro _; rfl) (hpl : ∀ env, (backTo pos (starEach es env)).any (·.1) = false := by intro _; rfl) :
    RE c (.Call (.Name x p) (e :: es) [] pos) σ H Q := e_call D q hk hg hdb he hpl
def rPfx : List PyData → PyData → Prop := fun ds d => ∃ c rr ps more, ds = [ogD c rr ps more] ∧ OgOk (nmsO rr) ps ∧ d = .tuple ((srtT (pfx (nmsO rr) ps)).map tS)
theorem ok_pfx {f fd} (F : Fun M.K "prefixes_of" "prefixes_of" s_prefixes_of f fd) (b : Bl M) (dp : dcPbl M) : FnG M.prog M.w M.K M.mg M.base CX0 4 f fd ["program"] (spF rPfx M.K) := by
  refine fn_ok F sc_prefixes_of (fun vs H Q E h => ?_) (fun H vs Q E h => ?_)
  · obtain ⟨ds, d, h, ⟨_, _, _, _, rfl, _⟩, _⟩ := h
    exact h.len
  obtain ⟨ds, d, h, ⟨c, rr, ps, more, rfl, O, rfl⟩, k⟩ := h
  obtain _ | ⟨hp, h⟩ := h
  cases h
  tm_at "go"
  refine e_callTL dp ?_
  tm_at "go"
  refine ⟨_, _, .cons hp .nil, ⟨c, rr, ps, more, rfl, O, rfl⟩, fun l us H1 s1 n1 g1 h1 => ?_⟩
  tm_at "go"
  refine rc_sortT (.inl (.of g1)) h1 fun p ys H2 s2 n2 g2 h2 => ?_
  tm_at "go"
  refine rc_tupL (.of g2) h2 fun v3 H3 s3 h3 => ?_
  exact k v3 H3 (s1.trans (s2.trans s3)) h3
abbrev dcPfx (M : Md) : Prop := Dc M "prefixes_of" ["program"] 4 (spF rPfx M.K)
end K

namespace G
open PySem PySem.Spec PyProof.Rows L2
/-! ### generator defs that only hand out what they walk -/
/-- a generator def at the module's name x -/
structure DcG (c : Md) (x : Str) (ps : List Str) (k : Nat) (sp : SpG) : Prop where
  ex : ∃ (f : Addr) (fd : FuncData), GFn c.prog c.w c.K c.mg c.base k f fd ps sp ∧ c.mg x = some (.ref f) ∧ PySem.W.keepIn c.K (.ref f) = true ∧ Binds c.K fd ps []
section
variable {c : Cd} {σ : L2.St} {H : Hp} {Q : VK} {pos : Pos}
/-- list(f(e, ..)) of a generator def -/
theorem e_listG {x : Str} {p p1 p2 : Pos} {e : Expr} {es : List Expr} {ps : List Str} {k : Nat} {sp : SpG} (D : DcG c.toMd x ps k sp) (hm0 : c.mg "list" = none) (q : RA c (e :: es) σ H fun vs H1 => sp vs H1 (fun out H2 => ∀ p, H2 p = none → Q (.ref p) (upd H2 p (.lst out))) fun _ _ _ => False) (hk : k + 3 ≤ c.k := by exact Nat.le_of_ble_eq_true rfl) (hg : c.sc.names.lookup x = some .globalImplicit := by rfl) (hg2 : c.sc.names.lookup ("list" : Str) = some .globalImplicit := by rfl)
    (hdb : (x == ("__debug__" : Str)) = false := by decide) (he : ∀ env, starEach (e :: es) env = (false, eval e env) :: starEach es env := by intro _; rfl) (hpl : ∀ env, (backTo p2 (starEach es env)).any (·.1) = false := by intro _; rfl) (h1 : ∀ env, starEach [.Call (.Name x p1) (e :: es) [] p2] env = (false, eval (.Call (.Name x p1) (e :: es) [] p2) env) :: starEach [] env := by intro _; rfl) :
    RE c (.Call (.Name "list" p) [.Call (.Name x p1) (e :: es) [] p2] [] pos) σ H Q := by
  obtain ⟨f, fd, F, hm, hkp, hb⟩ := D.ex
  refine re_of (t := tListG (tCallG sp [] (fun _ _ _ => False) (RA c (e :: es)))) (fun X h => ?_) (RA.mono (fun vs H1 z => ?_) q)
  · refine pe_listG (k := k) (E := fun _ _ _ => False) (pgen_call (f := f) (fd := fd) (ps := ps) (ds := []) ?_ (h.room.mono (Nat.le_trans (Nat.le_add_right _ _) hk)) (gl_of h hg) (by rw [h.mg]; exact hm) (by rw [h.K]; exact hkp) (by rw [h.K]; exact hb) .nil (pa_ra h) hdb (he _) (hpl _)) (fun _ _ _ _ _ _ _ z => by obtain ⟨_, _, _, _, _, _, _, _, _, _, _, _, hf⟩ := z; exact hf.elim) (fun _ _ _ z => z.elim) (h.room.mono hk) (gl_of h hg2) (by rw [h.mg]; exact hm0) (by decide +kernel) (by decide) (by decide) (h1 _)
    rw [h.prog, h.w, h.K, h.mg, h.base]; exact F
  · rw [List.append_nil]
    exact z
end
theorem is_gcx {M : Md} {N : List Str} {qual : Str} {sc : Scope} {f : Addr} {cdv : Value} {A : Around} {outer : List Env} {s : Shared} {H : Hp} {E : XK} {pn : List (Addr × Obj)} {k : Nat} (hn : N.Nodup) (hr : Room k (A.deeper (envOfC qual sc s.heap.objs.size f cdv))) :
    Is ⟨M, N, sc, k, true, false, none⟩ (gcxOf M.prog M.w M.K M.mg M.base N qual sc f cdv A outer s H E pn) :=
  ⟨rfl, rfl, rfl, rfl, rfl, rfl, rfl, rfl, hr, fun _ _ => rfl, owns_gcx, hn, fun z => Bool.noConfusion z, fun _ _ z => nomatch z⟩
/-- a generator def whose body is «for x in e: yield x» -/
theorem gfn_walk {M : Md} {x qual : Str} {st : Stmt} {f : Addr} {fd : FuncData} {N ps : List Str} {k : Nat} {sp : SpG} {tg it e : Expr} {p1 p2 p3 : Pos} (F : Fun M.K x qual st f fd) (S : GScope N ps (defScope st)) (len : ∀ vs H Q E, sp vs H Q E → vs.length = ps.length)
    (hst : defBody st = [.For tg it [.Expr (.Yield (some e) p1) p2] [] p3]) (hs : ∀ env x, foldedSetIterable it env x = pure x) (hi : ∀ env : Env, env.scope = defScope st → interactive env = false)
    (body : ∀ (H : Hp) (vs : List V) (Q : List V → Hp → Prop) (E : XK), sp vs H Q E → RI ⟨M, N, defScope st, k, true, false, none⟩ tg it (start N vs) H fun J H1 => ∃ W : Nat → Nat → List V → L2.St → Hp → Prop, (∃ m, W 0 m [] (start N vs) H1) ∧ ∀ i m ys σ H, W i m ys σ H →
      (J.stop i H ∧ Q ys H) ∨ (J.go i H ∧ ∃ Nx : List V → L2.St → Hp → Prop, (∀ ys' σ' H', Nx ys' σ' H' → ∃ m', m' < m ∧ W (i + 1) m' ys' σ' H') ∧ ∀ x H', J.yld i H x H' → RG ⟨M, N, defScope st, k, true, false, none⟩ tg x σ H' fun σ2 H2 => ys.length < sizeLine ∧ RE ⟨M, N, defScope st, k, true, false, none⟩ e σ2 H2 fun y H3 => Nx (ys ++ [y]) σ2 H3)) :
    GFn M.prog M.w M.K M.mg M.base (k + 1) f fd ps sp := by
  obtain ⟨oc, od, kV, doc, pm, an, cdv, ct, osl, rfl, lk, hcd⟩ := F.ex
  refine gfn_of lk hcd S len fun A outer s H vs Q E pn hr h => ?_
  have hx := is_gcx (M := M) (N := N) (qual := qual) (sc := defScope st) (f := f) (cdv := cdv) (A := A) (outer := outer) (s := s) (H := H) (E := E) (pn := pn) S.nd hr
  refine ⟨_, hst ▸ gss_cons (gs_for owns_gcx rfl (pi_ri hx) (pg_rg hx) (gss_cons (gs_yield (pe_re hx) S.co (hi _ rfl)) gss_nil) (hs _)) gss_nil, ?_⟩
  refine RI.mono (fun J H1 z => ?_) (body H vs Q E h)
  obtain ⟨W, w0, tn⟩ := z
  exact ⟨W, w0, tn⟩
end G

namespace G
open PySem PySem.Spec PyProof.Rows L2
theorem rs_only {c : Cd} {st : Stmt} {D : Ends} {σ : L2.St} {H : Hp} {nx : L2.St → Hp → Prop} (q : RS c st ⟨nx, fun _ _ => False, fun _ _ => False, fun _ _ => False⟩ σ H) (w : ∀ σ H, nx σ H → D.nx σ H) : RS c st D σ H :=
  RS.mono (D := ⟨nx, fun _ _ => False, fun _ _ => False, fun _ _ => False⟩) (D' := D) ⟨w, fun _ _ z => False.elim z, fun _ _ z => False.elim z, fun _ _ z => False.elim z⟩ q
/-! ### a generator def that works on a stack -/
theorem gfn_stack {M : Md} {x qual : Str} {st : Stmt} {f : Addr} {fd : FuncData} {N ps : List Str} {k : Nat} {sp : SpG} {a1 a2 b1 b2 : Stmt} {test c1 e : Expr} {p1 p2 p3 p4 : Pos} (F : Fun M.K x qual st f fd) (S : GScope N ps (defScope st)) (len : ∀ vs H Q E, sp vs H Q E → vs.length = ps.length)
    (hst : defBody st = [a1, a2, .While test [b1, .If c1 [.Expr (.Yield (some e) p1) p2] [] p3, b2] [] p4]) (hi : ∀ env : Env, env.scope = defScope st → interactive env = false)
    (body : ∀ (H : Hp) (vs : List V) (Q : List V → Hp → Prop) (E : XK), sp vs H Q E → RS ⟨M, N, defScope st, k, true, false, none⟩ a1 ⟨fun σ0 H0 => RS ⟨M, N, defScope st, k, true, false, none⟩ a2 ⟨fun σ1 H1 => ∃ W : Nat → List V → L2.St → Hp → Prop, (∃ m, W m [] σ1 H1) ∧ ∀ m ys σ H, W m ys σ H →
      RT ⟨M, N, defScope st, k, true, false, none⟩ test σ H fun b H2 => if b = true then ∃ Nx : List V → L2.St → Hp → Prop, (∀ ys' σ' H', Nx ys' σ' H' → ∃ m', m' < m ∧ W m' ys' σ' H') ∧
        RS ⟨M, N, defScope st, k, true, false, none⟩ b1 ⟨fun σ3 H3 => RT ⟨M, N, defScope st, k, true, false, none⟩ c1 σ3 H3 fun b H4 => if b = true then ys.length < sizeLine ∧ RE ⟨M, N, defScope st, k, true, false, none⟩ e σ3 H4 fun y H5 => RS ⟨M, N, defScope st, k, true, false, none⟩ b2 ⟨Nx (ys ++ [y]), fun _ _ => False, fun _ _ => False, fun _ _ => False⟩ σ3 H5
            else RS ⟨M, N, defScope st, k, true, false, none⟩ b2 ⟨Nx ys, fun _ _ => False, fun _ _ => False, fun _ _ => False⟩ σ3 H4, fun _ _ => False, fun _ _ => False, fun _ _ => False⟩ σ H2
        else Q ys H2, fun _ _ => False, fun _ _ => False, fun _ _ => False⟩ σ0 H0, fun _ _ => False, fun _ _ => False, fun _ _ => False⟩ (start N vs) H) :
    GFn M.prog M.w M.K M.mg M.base (k + 1) f fd ps sp := by
  obtain ⟨oc, od, kV, doc, pm, an, cdv, ct, osl, rfl, lk, hcd⟩ := F.ex
  refine gfn_of lk hcd S len fun A outer s H vs Q E pn hr h => ?_
  have hx := is_gcx (M := M) (N := N) (qual := qual) (sc := defScope st) (f := f) (cdv := cdv) (A := A) (outer := outer) (s := s) (H := H) (E := E) (pn := pn) S.nd hr
  refine ⟨_, hst ▸ gss_cons (gs_ps (ps_rs hx)) (gss_cons (gs_ps (ps_rs hx)) (gss_cons (gs_while owns_gcx (pt_rt hx) (gss_cons (gs_ps (ps_rs hx)) (gss_cons (GF.gs_if (pt_rt hx) (gss_cons (gs_yield (pe_re hx) S.co (hi _ rfl)) gss_nil) gss_nil) (gss_cons (gs_ps (ps_rs hx)) gss_nil)))) gss_nil)), ?_⟩
  refine rs_only (body H vs Q E h) fun σ0 H0 q0 => ?_
  refine rs_only q0 fun σ1 H1 q1 => ?_
  obtain ⟨W, w0, turn⟩ := q1
  refine ⟨W, w0, fun m ys σ H2 w => RT.mono (fun b H3 q => ?_) (turn m ys σ H2 w)⟩
  cases b with
  | false =>
    rw [if_neg Bool.false_ne_true] at q ⊢
    exact q
  | true =>
    rw [if_pos rfl] at q ⊢
    obtain ⟨Nx, lt, q⟩ := q
    refine ⟨Nx, lt, rs_only q fun σ3 H4 q => ?_⟩
    refine RT.mono (fun b H5 q => ?_) q
    cases b with
    | true =>
      rw [if_pos rfl] at q ⊢
      exact ⟨q.1, RE.mono (fun y H6 q => rs_only q fun _ _ z => z) q.2⟩
    | false =>
      rw [if_neg Bool.false_ne_true] at q ⊢
      exact rs_only q fun _ _ z => z
end G

namespace G
open PySem PySem.Spec PyProof.Rows L2 SH
theorem e_pop0 {c : Cd} {σ : L2.St} {H : Hp} {Q : VK} {pos : Pos} {o : Expr} {apos : Pos} (q : RE c o σ H fun x H1 => ∃ l zs y, x = .ref l ∧ H1 l = some (.lst (zs ++ [y])) ∧ Q y (upd H1 l (.lst zs)))
    (hbase : ∀ env, attributeBase o "pop" env (eval o env) = eval o env := by intro _; rfl) (hline : (apos.endLine == pos.line) = true := by rfl) :
    RE c (.Call (.Attribute o "pop" apos) [] [] pos) σ H Q := by
  refine e_bm0 PySem.F.plainAttrs_list PySem.F.slot_list_pop PySem.F.type_list_pop (RE.mono (fun x H1 z => ?_) q) hbase hline
  obtain ⟨l, zs, y, rfl, hl, z⟩ := z
  refine ⟨Or.inl ⟨rfl, _, Or.inl (Or.inl hl)⟩, rm_of (fun X h => mt_pop) ⟨l, _, y, rfl, rfl, hl, ?_, ?_⟩⟩
  · rw [List.length_append, List.length_singleton, Nat.add_sub_cancel, List.getElem?_append_right (Nat.le_refl _), Nat.sub_self]
    rfl
  · rw [List.dropLast_concat]
    exact z
end G
namespace K
open PySem PySem.Spec PyProof.Rows L2 G SH
variable {M : Md}
/-! ### exchanges -/
def exD (e : List Str × Str × Str) : PyData := .tuple [tS e.1, .str e.2.1, .str e.2.2]
def ltPairs (l : List Str) : PL := (prodL l).filter fun q => decide (lts q.1 q.2)
def exs (ns : List Str) (ps : PL) : List (List Str × Str × Str) := (srtT (pfx ns ps)).flatMap fun p => (ltPairs (OM.nxt ns ps p)).map fun q => (p, q.1, q.2)
/-- a def that answers with a new list of data -/
def spDL (W : List PyData → List PyData → Prop) (K : PySem.W.Frag) : Sp := fun vs H Q _ => ∃ ds es, DtAll K H vs ds ∧ W ds es ∧ ∀ l us H', Same H H' → H l = none → H' l = some (.lst us) → DtAll K H' us es → Q (.ref l) H'
def rExl : List PyData → List PyData → Prop := fun ds es => ∃ c rr ps more, ds = [ogD c rr ps more] ∧ OgOk (nmsO rr) ps ∧ es = (exs (nmsO rr) ps).map exD
def gEx (p : List Str) (d e : PyData) : Option PyData := match d, e with
  | .str a, .str b => if decide (lts a b) = true then some (exD (p, a, b)) else none
  | _, _ => none
theorem gEx_eq (p : List Str) (l : List Str) : ((l.map PyData.str).flatMap fun d => (l.map PyData.str).filterMap (gEx p d)) = ((ltPairs l).map fun q => (p, q.1, q.2)).map exD := by
  have row : ∀ (a : Str) (bs : List Str), (bs.map PyData.str).filterMap (gEx p (.str a)) = (((bs.map fun b => (a, b)).filter fun q => decide (lts q.1 q.2)).map fun q => (p, q.1, q.2)).map exD := by
    intro a bs
    induction bs with
    | nil => rfl
    | cons b bs ih =>
      rw [List.map_cons, List.filterMap_cons, List.map_cons, List.filter_cons, ih]
      by_cases h : decide (lts a b) = true
      · have e : gEx p (.str a) (.str b) = some (exD (p, a, b)) := if_pos h
        rw [e, if_pos h]
        rfl
      · have e : gEx p (.str a) (.str b) = none := if_neg h
        rw [e, if_neg h]
  have go : ∀ as : List Str, ((as.map PyData.str).flatMap fun d => (l.map PyData.str).filterMap (gEx p d)) = (((as.flatMap fun a => l.map fun b => (a, b)).filter fun q => decide (lts q.1 q.2)).map fun q => (p, q.1, q.2)).map exD := by
    intro as
    induction as with
    | nil => rfl
    | cons a as ih => rw [List.map_cons, List.flatMap_cons, List.flatMap_cons, List.filter_append, List.map_append, List.map_append, ih, row]
  exact go l
theorem pfx_len {ns : List Str} {ps : PL} (O : OgOk ns ps) : (pfx ns ps).length ≤ 60 := by
  have h1 := flat_few O (ns.length + 1)
  have := O.few
  show ((List.range (ns.length + 1)).flatMap (lvl ns ps)).length ≤ 60
  omega
theorem pfx_mem {ns : List Str} {ps : PL} (O : OgOk ns ps) {p : List Str} : p ∈ pfx ns ps ↔ ∃ j, OM.Lev ns ps j p := by
  unfold pfx
  rw [List.mem_flatMap]
  constructor
  · rintro ⟨j, _, h⟩
    exact ⟨j, (lvl_mem O.asc O.in2).mp h⟩
  · rintro ⟨j, h⟩
    have h2 := (lvl_mem O.asc O.in2).mpr h
    refine ⟨j, List.mem_range.mpr ?_, h2⟩
    rcases Nat.lt_or_ge ns.length j with z | z
    · rw [lvl_none O.asc O.in2 z] at h2; cases h2
    · omega
theorem pfx_p {ns : List Str} {ps : PL} (O : OgOk ns ps) {p : List Str} (h : p ∈ srtT (pfx ns ps)) : p.length ≤ 5 ∧ p.Nodup ∧ (∀ n ∈ p, n ∈ ns) ∧ ∃ j, OM.Lev ns ps j p := by
  obtain ⟨j, l⟩ := (pfx_mem O).mp ((srtT_perm _).mem_iff.mp h)
  obtain ⟨h1, nd, sub, _⟩ := lev_facts O.asc l
  exact ⟨Nat.le_trans (nd_len nd sub) O.few, nd, sub, j, l⟩
theorem nxt_few {ns : List Str} {ps : PL} (O : OgOk ns ps) (p : List Str) : (OM.nxt ns ps p).length ≤ 5 := Nat.le_trans (nxt_le ns ps p) O.few
theorem ltp_few {ns : List Str} {ps : PL} (O : OgOk ns ps) (p : List Str) : (ltPairs (OM.nxt ns ps p)).length ≤ 25 := by
  unfold ltPairs
  refine Nat.le_trans (List.length_filter_le _ _) ?_
  rw [prodL_len]
  exact Nat.mul_le_mul (nxt_few O p) (nxt_few O p)
theorem exs_part {ns : List Str} {ps : PL} (O : OgOk ns ps) : ∀ l : List (List Str), (l.flatMap fun p => (ltPairs (OM.nxt ns ps p)).map fun q => (p, q.1, q.2)).length ≤ 25 * l.length
  | [] => Nat.le_refl _
  | p :: l => by
    rw [List.flatMap_cons, List.length_append, List.length_map, List.length_cons]
    have := ltp_few O p
    have := exs_part O l
    omega
theorem ok_exl {f fd} (F : Fun M.K "exchange_list" "exchange_list" s_exchange_list f fd) (b : Bl M) (dp : dcPfx M) (dn : dcNext M) : FnG M.prog M.w M.K M.mg M.base CX0 5 f fd ["program"] (spDL rExl M.K) := by
  refine fn_ok F sc_exchange_list (fun vs H Q E h => ?_) (fun H vs Q E h => ?_)
  · obtain ⟨ds, d, h, ⟨_, _, _, _, rfl, _⟩, _⟩ := h
    exact h.len
  obtain ⟨ds, d, h, ⟨c, rr, ps, more, rfl, O, rfl⟩, k⟩ := h
  obtain _ | ⟨hp, h⟩ := h
  cases h
  rename_i vp
  have fw := O.few
  have nl : (nmsO rr).length = rr.length := List.length_map ..
  refine b_cut (fun σ1 H1 => ∃ (l1 : Addr), σ1 = [some vp, some (.ref l1), none, none, none, none] ∧ Same H H1 ∧ H l1 = none ∧ H1 l1 = some (.lst [])) ?_ ?_
  · refine s_set (by tm_at "at") ?_
    refine e_lst ?_
    tm_at "go"
    exact ⟨Nat.zero_le _, fun p hp => ⟨p, rfl, same_new hp, hp, upd_same⟩⟩
  rintro _ H1 ⟨l1, rfl, s1, n1, g1⟩
  refine b_cut (fun σ1 H3 => ∃ (l : Addr) (ys : List V) (v2 v3 v4 v5 : Option V), σ1 = [some vp, some (.ref l), v2, v3, v4, v5] ∧ Same H H3 ∧ H l = none ∧ H3 l = some (.lst ys) ∧ DtAll M.K H3 ys ((exs (nmsO rr) ps).map exD)) ?_ ?_
  · refine s_forT ?_
    refine e_callF dp ?_
    tm_at "go"
    refine ⟨_, _, .cons (hp.mono (tp_same s1)) .nil, ⟨c, rr, ps, more, rfl, O, rfl⟩, fun v H2 s2 h2 => ?_⟩
    obtain ⟨a, xs, rfl, ht, hd⟩ := Dt.tupE (show Dt M.K H2 v (.tuple _) from h2)
    have pl := pfx_len O
    have lx := hd.len
    rw [List.length_map, (srtT_perm _).length_eq] at lx
    refine ⟨a, xs, rfl, ht, fun i σ' H' => ∃ (l : Addr) (ys : List V) (v2 v3 v4 v5 : Option V), σ' = [some vp, some (.ref l), v2, v3, v4, v5] ∧ Same H2 H' ∧ H l = none ∧ H' l = some (.lst ys) ∧ DtAll M.K H' ys ((((srtT (pfx (nmsO rr) ps)).take i).flatMap fun p => (ltPairs (OM.nxt (nmsO rr) ps p)).map fun q => (p, q.1, q.2)).map exD),
      ⟨l1, [], none, none, none, none, rfl, Same.refl _, n1, s2 _ _ g1, .nil⟩, ?_, ?_, ?_⟩
    · rintro i σ' H' _ ⟨l, ys, v2, v3, v4, v5, rfl, s, _⟩
      exact (tp_same s).sqt ht
    · rintro i x σ' H' hx ⟨l, ys, v2, v3, v4, v5, rfl, s, n, g, hy⟩
      obtain ⟨d, hdi, hx'⟩ := hd.getV hx
      rw [List.getElem?_map] at hdi
      obtain ⟨p, hpi, rfl⟩ := Option.map_eq_some_iff.mp hdi
      have hi := (List.getElem?_eq_some_iff.mp hx).1
      obtain ⟨lp5, _, _, _⟩ := pfx_p O (List.mem_of_getElem? hpi)
      have e1 : (srtT (pfx (nmsO rr) ps)).take (i + 1) = (srtT (pfx (nmsO rr) ps)).take i ++ [p] := by
        obtain ⟨g1, g2⟩ := List.getElem?_eq_some_iff.mp hpi
        rw [List.take_succ_eq_append_getElem g1, g2]
      have hx2 := hx'.mono (tp_same s)
      refine g_name (by tm_at "at") ?_
      refine b_cut (fun σ1 H4 => ∃ (an : Addr) (v4 v5 : Option V), σ1 = [some vp, some (.ref l), some x, some (.ref an), v4, v5] ∧ Same H' H4 ∧ SqT M.K H4 an ((OM.nxt (nmsO rr) ps p).map V.str)) ?_ ?_
      · refine s_set (by tm_at "at") ?_
        refine e_callF dn ?_
        tm_at "go"
        refine ⟨_, _, .cons (hp.mono (tp_same (s1.trans (s2.trans s)))) (.cons hx2 .nil), ⟨c, rr, ps, more, p, rfl, by omega, O.pl, rfl⟩, fun w H4 s4 h4 => ?_⟩
        obtain ⟨an, rfl, hn⟩ := dt_tS h4
        exact ⟨an, _, _, rfl, s4, hn⟩
      rintro _ H4 ⟨an, w4, w5, rfl, s4, hn⟩
      have hx3 := hx2.mono (tp_same s4)
      refine b_one (s_set (by tm_at "at") ?_)
      tm_at "go"
      refine e_lc2 (own := [("one", 4), ("other", 5)]) (vs1 := [5]) (Blk.of (N := N_exchange_list) (sc := defScope s_exchange_list) rfl rfl (by decide +kernel)) (by decide) ?_
      refine lc2_F true true (gEx p) (fun _ => (OM.nxt (nmsO rr) ps p).map .str) (e_var (by tm_at "at") ⟨an, _, (OM.nxt (nmsO rr) ps p).map .str, rfl, hn, all_strs _, ?_, fun d v H5 hd s5 hx => ?_, fun p6 us H5 s5 n5 g6 h5 => ?_⟩)
      · rw [sumL_const, List.length_map]
        exact Nat.le_trans (Nat.mul_le_mul (nxt_few O p) (nxt_few O p)) (by decide)
      · obtain ⟨a1, _, rfl⟩ := List.mem_map.mp hd
        cases hx
        refine g_name (by tm_at "at") ⟨rfl, rfl, ?_⟩
        refine e_var (by tm_at "at") ⟨Same.refl _, an, _, rfl, (tp_same s5).sqt hn, (fun z => nomatch z), all_strs _, fun e u H6 he s6 t6 hu => ?_⟩
        obtain ⟨b1, _, rfl⟩ := List.mem_map.mp he
        cases hu
        refine g_name (by tm_at "at") ⟨rfl, rfl, ts_one ?_⟩
        tm_at "go"
        refine ro_ltS ?_
        tm_at "go"
        refine ⟨Same.refl _, ifb (fun c1 => ?_) (fun c1 => ?_)⟩
        · refine e_tupD ?_
          tm_at "go"
          exact ⟨[tS p, .str a1, .str b1], .cons (hx3.mono (tp_same s6)) (.cons (.str _) (.cons (.str _) .nil)), (show 3 ≤ 1000 by decide), fun v H7 s7 h7 => ⟨s7, _, (show (if decide (lts a1 b1) = true then some (exD (p, a1, b1)) else none) = _ from if_pos c1), h7⟩⟩
        · exact (show (if decide (lts a1 b1) = true then some (exD (p, a1, b1)) else none) = _ from if_neg (by rw [c1]; exact Bool.false_ne_true))
      · rw [gEx_eq] at h5
        have ly := hy.len
        have l5 := h5.len
        rw [List.length_map] at ly l5
        rw [List.length_map] at l5
        have b1 := exs_part O ((srtT (pfx (nmsO rr) ps)).take i)
        have b2 := ltp_few O p
        have b3 : ((srtT (pfx (nmsO rr) ps)).take i).length ≤ 60 := by rw [List.length_take]; omega
        refine ro_cat (s5 _ _ (s4 _ _ g)) g6 (by omega) fun p7 H7 s7 n7 g7 => ?_
        have sx := s4.trans (s5.trans s7)
        refine ⟨p7, _, _, _, _, _, rfl, s.trans sx, ?_, g7, ?_⟩
        · cases z : H p7 with
          | none => rfl
          | some o => rw [s5 _ _ (s4 _ _ (s _ _ (s2 _ _ (s1 _ _ z))))] at n7; cases n7
        · rw [e1, List.flatMap_append, List.map_append, List.flatMap_cons, List.flatMap_nil, List.append_nil]
          exact (hy.mono (tp_same sx)).app (h5.mono (tp_same s7))
    · rintro σ' H' ⟨l, ys, v2, v3, v4, v5, rfl, s, n, g, hy⟩
      rw [lx, List.take_of_length_le (by rw [(srtT_perm _).length_eq]; exact Nat.le_refl _)] at hy
      exact ⟨l, ys, _, _, _, _, rfl, s1.trans (s2.trans s), n, g, hy⟩
  rintro _ H3 ⟨l, ys, v2, v3, v4, v5, rfl, s3, n3, g3, h3⟩
  tm_at "go"
  exact k l ys H3 s3 n3 g3 h3
abbrev dcExl (M : Md) : Prop := Dc M "exchange_list" ["program"] 5 (spDL rExl M.K)
/-- a generator of data -/
def spGD (W : List PyData → List PyData → Prop) (K : PySem.W.Frag) : SpG := fun vs H Q _ => ∃ (v : V) (d : PyData) (es : List PyData), vs = [v] ∧ Dt K H v d ∧ W [d] es ∧ es.length ≤ 10000 ∧ ∀ out H', Same H H' → DtAll K H' out es → Q out H'
theorem gsc_exG : GScope N_exchanges_of ["program"] (defScope s_exchanges_of) := ⟨rfl, rfl, rfl, by decide +kernel, rfl, by decide +kernel, by decide +kernel⟩
theorem ok_exG {f fd} (F : Fun M.K "exchanges_of" "exchanges_of" s_exchanges_of f fd) (b : Bl M) (ds : dcExl M) : GFn M.prog M.w M.K M.mg M.base 6 f fd ["program"] (spGD rExl M.K) := by
  refine gfn_walk F gsc_exG (fun vs H Q E h => ?_) rfl (by intro _ _; rfl) (fun env he => ?_) (fun H vs Q E h => ?_)
  · obtain ⟨v, d, es, rfl, _⟩ := h
    rfl
  · unfold interactive
    rw [he]
    rfl
  obtain ⟨v, d, es, rfl, hv, hw, cnt, k⟩ := h
  refine i_list ?_
  refine e_call ds ?_
  refine a_cons (e_var (by tm_at "at") (a_nil ?_))
  refine ⟨_, _, .cons hv .nil, hw, fun l us H1 s1 n1 g1 h1 => ?_⟩
  have lu := h1.len
  refine ⟨l, rfl, ⟨us, .of g1⟩, fun i m ys σ H2 => m = us.length - i ∧ i ≤ us.length ∧ (∃ v1, σ = [some v, v1]) ∧ H2 = H1 ∧ ys = us.take i, ⟨us.length, by simp, Nat.zero_le _, ⟨_, rfl⟩, rfl, rfl⟩, ?_⟩
  rintro i m ys σ H2 ⟨rfl, hi, ⟨v1, rfl⟩, rfl, rfl⟩
  by_cases hlt : i < us.length
  · refine .inr ⟨⟨us, us[i], .of g1, by simp [hlt]⟩, fun ys' σ' H' => (∃ v1, σ' = [some v, v1]) ∧ H' = H2 ∧ ys' = us.take (i + 1), fun ys' σ' H' ⟨z1, z2, z3⟩ => ⟨us.length - (i + 1), by omega, rfl, hlt, z1, z2, z3⟩, ?_⟩
    rintro x H3 ⟨e0, yy⟩
    subst e0
    have e := yy us (.of g1)
    rw [List.getElem?_eq_getElem hlt] at e
    cases e
    refine g_name (by tm_at "at") ⟨?_, ?_⟩
    · rw [List.length_take]
      exact Nat.lt_of_le_of_lt (show min i us.length ≤ 10000 by omega) (by decide)
    · refine e_var (by tm_at "at") ?_
      exact ⟨⟨_, rfl⟩, rfl, by rw [List.take_succ_eq_append_getElem hlt]⟩
  · have e : i = us.length := by omega
    subst e
    refine .inl ⟨⟨us, .of g1, Nat.le_refl _⟩, k _ _ s1 ?_⟩
    rw [List.take_length]
    exact h1
end K

namespace K
open PySem PySem.Spec PyProof.Rows L2 G SH
variable {M : Md}
/-! ### the legal orders, listed by depth -/
def PlO (K : PySem.W.Frag) (H : Hp) (v : V) (k : List Str) : Prop := Dt K H v (tS k) ∧ (k ≠ [] → PlT K H v k)
theorem kPlO {K : PySem.W.Frag} : Keeps (PlO K) := ⟨fun t h => ⟨h.1.mono t, fun ne => (h.2 ne).mono t⟩⟩
theorem lo_few {ns : List Str} {ps : PL} : ∀ (k : Nat) (p : List Str), (OM.lo ns ps k p).length ≤ ns.length ^ k
  | 0, p => Nat.le_refl _
  | k + 1, p => by
    show ((OM.nxt ns ps p).flatMap fun n => OM.lo ns ps k (p ++ [n])).length ≤ _
    have each : ∀ l : List Str, (l.flatMap fun n => OM.lo ns ps k (p ++ [n])).length ≤ l.length * ns.length ^ k := by
      intro l
      induction l with
      | nil => simp
      | cons n l ih =>
        have := lo_few (ns := ns) (ps := ps) k (p ++ [n])
        rw [List.flatMap_cons, List.length_append, List.length_cons, Nat.add_mul, Nat.one_mul]
        omega
    refine Nat.le_trans (each _) ?_
    rw [Nat.pow_succ, Nat.mul_comm]
    exact Nat.mul_le_mul_left _ (nxt_le ns ps p)
theorem lo_few5 {ns : List Str} {ps : PL} (O : OgOk ns ps) : (OM.lo ns ps ns.length []).length ≤ 3125 := by
  refine Nat.le_trans (lo_few _ _) ?_
  have : ∀ n, n ≤ 5 → n ^ n ≤ 3125 := by decide
  exact this _ O.few
/-- a generator of orders -/
def spLo (K : PySem.W.Frag) : SpG := fun vs H Q _ => ∃ v c rr ps more, vs = [v] ∧ Dt K H v (ogD c rr ps more) ∧ OgOk (nmsO rr) ps ∧ ∀ out H', Same H H' → RAll (PlO K) H' out (OM.lo (nmsO rr) ps (nmsO rr).length []) → Q out H'
theorem gsc_lo : GScope N_legal_orders ["program"] (defScope s_legal_orders) := ⟨rfl, rfl, rfl, by decide +kernel, rfl, by decide +kernel, by decide +kernel⟩
theorem rall_snoc {α : Type} {R : Hp → V → α → Prop} {H : Hp} : ∀ {vs : List V} {as : List α} {a : α}, RAll R H vs (as ++ [a]) → ∃ us v, vs = us ++ [v] ∧ RAll R H us as ∧ R H v a
  | _, [], a, .cons h .nil => ⟨[], _, rfl, .nil, h⟩
  | _, b :: as, a, .cons h t => by
    obtain ⟨us, v, rfl, h1, h2⟩ := rall_snoc t
    exact ⟨_ :: us, v, rfl, .cons h h1, h2⟩
theorem cost_len (w many : Nat) : ∀ st : List (List Str), st.length ≤ OM.cost w many st
  | [] => Nat.zero_le _
  | p :: st => by
    have := cost_len w many st
    have := OM.big_pos w (many - p.length)
    show st.length + 1 ≤ ((p :: st).map _).sum
    rw [List.map_cons, List.sum_cons]
    show _ ≤ _ + OM.cost w many st
    omega
theorem cost0 {n : Nat} (h : n ≤ 5) : OM.cost n n ([[]] : List (List Str)) ≤ 5000 := by
  have t : ∀ n, n ≤ 5 → OM.big n n ≤ 5000 := by decide
  have := t n h
  show ([[]].map fun p : List Str => OM.big n (n - p.length)).sum ≤ 5000
  rw [List.map_cons, List.map_nil, List.sum_cons, List.sum_nil]
  exact this
theorem cost_pop (w many : Nat) (st : List (List Str)) (p : List Str) : OM.cost w many st < OM.cost w many (st ++ [p]) := by
  have := OM.big_pos w (many - p.length)
  unfold OM.cost
  rw [List.map_append, List.sum_append, List.map_cons, List.map_nil, List.sum_cons, List.sum_nil]
  omega
theorem ok_lo {f fd} (F : Fun M.K "legal_orders" "legal_orders" s_legal_orders f fd) (b : Bl M) (dn : dcNext M) : GFn M.prog M.w M.K M.mg M.base 3 f fd ["program"] (spLo M.K) := by
  refine gfn_stack F gsc_lo (fun vs H Q E h => ?_) rfl (fun env he => ?_) (fun H vs Q E h => ?_)
  · obtain ⟨v, _, _, _, _, rfl, _⟩ := h
    rfl
  · unfold interactive
    rw [he]
    rfl
  obtain ⟨v, c, rr, ps, more, rfl, hp, O, q⟩ := h
  have fw := O.few
  have nl : (nmsO rr).length = rr.length := List.length_map ..
  refine s_set (by tm_at "at") ?_
  tm_at "go"
  refine rx_tup hp (d := .tuple (rr.map rrD)) (pl_at (j := 1) rfl rfl) fun v1 h1 => ?_
  tm_at "go"
  refine rc_lenT h1 ?_
  rw [List.length_map]
  refine s_set (by tm_at "at") ?_
  refine e_lst ?_
  refine a_cons ?_
  refine e_tupD ?_
  tm_at "go"
  refine ⟨[], .nil, Nat.zero_le _, fun v2 H2 s2 h2 => ?_⟩
  tm_at "go"
  refine ⟨(show 1 ≤ sizeLine by decide), fun lb nb => ?_⟩
  have s3 := s2.trans (same_new (o := .lst [v2]) nb)
  have n0 : H lb = none := by
    cases z : H lb with
    | none => rfl
    | some o => rw [s2 _ _ z] at nb; cases nb
  have h23 := h2.mono (tp_same (same_new (o := .lst [v2]) nb))
  have g3 : (upd H2 lb (.lst [v2])) lb = some (.lst [v2]) := upd_same
  generalize upd H2 lb (.lst [v2]) = H3 at s3 h23 g3 ⊢
  refine ⟨fun m ys σ H' => ∃ (st : List (List Str)) (us : List V) (outs : List (List Str)) (v3 v4 : Option V), m = OM.cost (nmsO rr).length (nmsO rr).length st ∧ σ = [some v, some (.int rr.length), some (.ref lb), v3, v4] ∧ Same H H' ∧ H' lb = some (.lst us) ∧ RAll (PlO M.K) H' us st ∧ RAll (PlO M.K) H' ys outs ∧ (∀ p ∈ st, OM.Pre (nmsO rr) ps p) ∧ outs ++ OM.todo (nmsO rr) ps (nmsO rr).length st = OM.lo (nmsO rr) ps (nmsO rr).length [] ∧ OM.cost (nmsO rr).length (nmsO rr).length st ≤ 5000,
    ⟨_, [[]], [v2], [], none, none, rfl, rfl, s3, g3, .cons ⟨h23, fun z => absurd rfl z⟩ .nil, .nil, fun p hp => by rw [List.mem_singleton.mp hp]; exact ⟨.nil _⟩, by simp [OM.todo], cost0 fw⟩, ?_⟩
  rintro m ys σ H4 ⟨st, us, outs, v3, v4, rfl, rfl, s4, g4, hu, ho, pre, eq, cst⟩
  refine t_tru (e_var (by tm_at "at") ⟨!us.isEmpty, truL g4, ?_⟩)
  have lo5 := lo_few5 O
  have lout : outs.length ≤ 3125 := by
    rw [← eq, List.length_append] at lo5
    omega
  refine ifb (fun c1 => ?_) (fun c1 => ?_)
  · obtain ⟨st', p, rfl⟩ : ∃ st' p, st = st' ++ [p] := by
      rcases List.eq_nil_or_concat st with e | ⟨a, b, e⟩
      · subst e; cases hu; cases c1
      · exact ⟨a, b, by rw [e, List.concat_eq_append]⟩
    obtain ⟨us', vp, rfl, hu', hv⟩ := rall_snoc hu
    have prep := pre p (List.mem_append_right _ (List.mem_singleton.mpr rfl))
    have lep := OM.pre_le prep
    refine ⟨fun ys' σ' H' => ∃ (st2 : List (List Str)) (us2 : List V) (outs2 : List (List Str)) (v3 v4 : Option V), OM.cost (nmsO rr).length (nmsO rr).length st2 < OM.cost (nmsO rr).length (nmsO rr).length (st' ++ [p]) ∧ σ' = [some v, some (.int rr.length), some (.ref lb), v3, v4] ∧ Same H H' ∧ H' lb = some (.lst us2) ∧ RAll (PlO M.K) H' us2 st2 ∧ RAll (PlO M.K) H' ys' outs2 ∧ (∀ p ∈ st2, OM.Pre (nmsO rr) ps p) ∧ outs2 ++ OM.todo (nmsO rr) ps (nmsO rr).length st2 = OM.lo (nmsO rr) ps (nmsO rr).length [],
      fun ys' σ' H' ⟨st2, us2, outs2, v3, v4, lt, z1, z2, z3, z4, z5, z6, z7⟩ => ⟨_, lt, st2, us2, outs2, v3, v4, rfl, z1, z2, z3, z4, z5, z6, z7, Nat.le_trans (Nat.le_of_lt lt) cst⟩, ?_⟩
    refine s_set (by tm_at "at") ?_
    refine e_pop0 (e_var (by tm_at "at") ⟨lb, us', vp, rfl, g4, ?_⟩)
    have ku := kp_upd (o' := .lst us') g4 (fun _ e => nomatch e) (fun _ _ e => nomatch e)
    have s5 : Same H (upd H4 lb (.lst us')) := same_mut s4 n0
    have g5 : (upd H4 lb (.lst us')) lb = some (.lst us') := upd_same
    have hu5 := hu'.mono kPlO ku.t
    have hv5 := kPlO.k ku.t hv
    have ho5 := ho.mono kPlO ku.t
    generalize upd H4 lb (.lst us') = H5 at s5 g5 hu5 hv5 ho5 ⊢
    have hp5 := hp.mono (tp_same s5)
    -- the loop over what may come next
    have loop : ∀ (ys5 : List V) (outs5 : List (List Str)), RAll (PlO M.K) H5 ys5 outs5 → outs5 ++ OM.todo (nmsO rr) ps (nmsO rr).length (st' ++ ((OM.nxt (nmsO rr) ps p).reverse.map fun n => p ++ [n])) = OM.lo (nmsO rr) ps (nmsO rr).length [] →
        OM.cost (nmsO rr).length (nmsO rr).length (st' ++ ((OM.nxt (nmsO rr) ps p).reverse.map fun n => p ++ [n])) < OM.cost (nmsO rr).length (nmsO rr).length (st' ++ [p]) → (∀ n ∈ OM.nxt (nmsO rr) ps p, OM.Pre (nmsO rr) ps (p ++ [n])) →
        RS ⟨M, N_legal_orders, defScope s_legal_orders, 2, true, false, none⟩ (((match (defBody s_legal_orders).getD 2 (.Pass ⟨0, 0, 0, 0⟩) with | .While _ bd _ _ => bd | _ => []) : List Stmt).getD 2 (.Pass ⟨0, 0, 0, 0⟩)) ⟨fun σ' H' => ∃ (st2 : List (List Str)) (us2 : List V) (outs2 : List (List Str)) (v3 v4 : Option V), OM.cost (nmsO rr).length (nmsO rr).length st2 < OM.cost (nmsO rr).length (nmsO rr).length (st' ++ [p]) ∧ σ' = [some v, some (.int rr.length), some (.ref lb), v3, v4] ∧ Same H H' ∧ H' lb = some (.lst us2) ∧ RAll (PlO M.K) H' us2 st2 ∧ RAll (PlO M.K) H' ys5 outs2 ∧ (∀ p ∈ st2, OM.Pre (nmsO rr) ps p) ∧ outs2 ++ OM.todo (nmsO rr) ps (nmsO rr).length st2 = OM.lo (nmsO rr) ps (nmsO rr).length [],
          fun _ _ => False, fun _ _ => False, fun _ _ => False⟩ [some v, some (.int rr.length), some (.ref lb), some vp, v4] H5 := by
      intro ys5 outs5 hy5 eq5 lt5 pk
      refine s_forT ?_
      refine e_revT ?_
      refine e_callF dn ?_
      tm_at "go"
      refine ⟨_, _, .cons hp5 (.cons hv5.1 .nil), ⟨c, rr, ps, more, p, rfl, by omega, O.pl, rfl⟩, fun w H6 s6 h6 => ?_⟩
      refine ⟨_, h6, fun w7 H7 s7 h7 => ?_⟩
      rw [← List.map_reverse] at h7
      obtain ⟨an, rfl, hn⟩ := dt_tS (k := (OM.nxt (nmsO rr) ps p).reverse) h7
      have s57 := s6.trans s7
      refine ⟨an, _, rfl, hn, fun i σ' H' => ∃ (us2 : List V) (v4 : Option V), σ' = [some v, some (.int rr.length), some (.ref lb), some vp, v4] ∧ Same H H' ∧ Kp lb H7 H' ∧ H' lb = some (.lst us2) ∧ RAll (PlO M.K) H' us2 (st' ++ (((OM.nxt (nmsO rr) ps p).reverse.take i).map fun n => p ++ [n])) ∧ RAll (PlO M.K) H' ys5 outs5,
        ⟨us', _, rfl, s5.trans s57, Kp.refl _ _, s57 _ _ g5, by simpa using hu5.mono kPlO (tp_same s57), hy5.mono kPlO (tp_same s57)⟩, ?_, ?_, ?_⟩
      · rintro i σ' H' _ ⟨us2, w4, rfl, s, kp, _⟩
        exact kp.t.sqt hn
      · rintro i x σ' H' hx ⟨us2, w4, rfl, s, kp, g, hu2, hy2⟩
        rw [List.getElem?_map] at hx
        obtain ⟨n, hni, rfl⟩ := Option.map_eq_some_iff.mp hx
        have hvv := kPlO.k (tp_same s57) hv5
        have hvp := kPlO.k kp.t hvv
        refine g_name (by tm_at "at") ?_
        refine b_one (s_expr (e_app (e_var (by tm_at "at") ⟨lb, us2, rfl, g, ?_⟩)))
        tm_at "go"
        refine e_tupP ?_
        tm_at "go"
        refine ⟨[n], rfl, (show 1 ≤ 1000 by decide), fun w8 H8 s8 h8 => ?_⟩
        refine ro_catP (k := p) (l := [n]) (hvp.1.mono (tp_same s8)) h8.dt (fun _ => h8) (fun e => nomatch e) (by rw [List.length_singleton]; omega) fun w9 H9 s9 h9 => ?_
        have s79 := s8.trans s9
        have g9 := s79 _ _ g
        have k9 := kp_upd (o' := .lst (us2 ++ [w9])) g9 (fun _ e => nomatch e) (fun _ _ e => nomatch e)
        have lu2 := hu2.len
        have e1 : ((OM.nxt (nmsO rr) ps p).reverse.take (i + 1)) = ((OM.nxt (nmsO rr) ps p).reverse.take i) ++ [n] := by
          obtain ⟨g1, g2⟩ := List.getElem?_eq_some_iff.mp hni
          rw [List.take_succ_eq_append_getElem g1, g2]
        refine ⟨us2, g9, ?_, us2 ++ [w9], _, rfl, same_mut (s.trans s79) n0, (kp.trans (kp_same s79)).trans k9, upd_same, ?_, (hy2.mono kPlO (tp_same s79)).mono kPlO k9.t⟩
        · have l1 := cost_len (nmsO rr).length (nmsO rr).length (st' ++ [p])
          have l2 := nxt_few O p
          rw [List.length_append, List.length_map, List.length_take, List.length_reverse] at lu2
          rw [List.length_append] at l1
          omega
        · rw [e1, List.map_append, ← List.append_assoc]
          exact ((hu2.mono kPlO (tp_same s79)).mono kPlO k9.t).app (.cons ⟨(h9.mono k9.t).dt, fun _ => h9.mono k9.t⟩ .nil)
      · rintro σ' H' ⟨us2, w4, rfl, s, kp, g, hu2, hy2⟩
        rw [List.length_map, List.take_length] at hu2
        refine ⟨_, us2, outs5, _, _, lt5, rfl, s, g, hu2, hy2, ?_, eq5⟩
        intro r hr
        rcases List.mem_append.mp hr with hr | hr
        · exact pre r (List.mem_append_left _ hr)
        · obtain ⟨n, hn, rfl⟩ := List.mem_map.mp hr
          exact pk n (List.mem_reverse.mp hn)
    refine t_cmp ?_
    tm_at "go"
    refine rc_lenT (ds := p.map .str) hv5.1 ?_
    tm_at "go"
    rw [List.length_map]
    have pk : ∀ n ∈ OM.nxt (nmsO rr) ps p, OM.Pre (nmsO rr) ps (p ++ [n]) := fun n hn => OM.pre_kid prep hn
    refine ifd (fun c2 => ?_) (fun c2 => ?_)
    · have c3 : p.length = (nmsO rr).length := by omega
      have none_ := OM.pre_full prep O.nd c3
      refine ⟨?_, e_var (by tm_at "at") ?_⟩
      · have := ho5.len
        exact Nat.lt_of_le_of_lt (show ys.length ≤ 3125 by omega) (by decide)
      · refine loop (ys ++ [vp]) (outs ++ [p]) (ho5.app (.cons hv5 .nil)) ?_ ?_ pk
        · rw [none_, List.reverse_nil, List.map_nil, List.append_nil, ← eq, OM.todo_snoc, c3, Nat.sub_self, List.append_assoc]
          rfl
        · rw [none_, List.reverse_nil, List.map_nil, List.append_nil]
          exact cost_pop _ _ _ _
    · have c3 : p.length < (nmsO rr).length := by omega
      refine loop ys outs ho5 ?_ (OM.cost_kids _ _ _ _ _ c3) pk
      rw [OM.todo_kids _ _ _ _ _ c3, ← eq, OM.todo_snoc]
  · have e : us = [] := by
      cases us with
      | nil => rfl
      | cons => cases c1
    subst e
    cases hu
    rw [show OM.todo (nmsO rr) ps (nmsO rr).length [] = [] from rfl, List.append_nil] at eq
    rw [eq] at ho
    exact q ys H4 s4 ho
end K

namespace G
open PySem PySem.Spec PyProof.Rows L2
section
variable {c : Cd} {σ : L2.St} {H : Hp} {Q : VK} {pos : Pos} {elt : Expr} {ifs : List Expr} {scope : Scope} {vs : List Nat} {α β : Type}
/-- [.. for k, x in enumerate(list) if ..] -/
theorem lcEL_R {R : Hp → V → α → Prop} {S : Hp → V → β → Prop} (kR : Keeps R) (kS : Keeps S) (g : Nat → α → Option β) {e : Expr} {p ppos tpos : Pos} {elts : List Expr} {kk : Nat} (hm : c.mg "enumerate" = none)
    (q : RE c e σ H fun x H1 => ∃ b ys as, x = .ref b ∧ SqL c.K H1 b ys ∧ RAll R H1 ys as ∧ as.length ≤ 1000 ∧ (∀ i a T v H', as[i]? = some a → Same H1 H' → H' T = some (.tup [.int (i : Nat), v]) → R H' v a → TurnR (blkCd c scope) (.Tuple elts kk tpos) ifs elt vs σ S (.ref T) H' (g i a)) ∧
      ∀ p us H2, Same H1 H2 → H1 p = none → H2 p = some (.lst us) → RAll S H2 us (outsE g as) → Q (.ref p) H2)
    (hg : c.sc.names.lookup ("enumerate" : Str) = some .globalImplicit := by rfl) (hs : ∀ env, starEach [e] env = [(false, eval e env)] := by intro _; rfl) :
    tLc (RI c (.Tuple elts kk tpos) (.Call (.Name "enumerate" p) [e] [] ppos)) (RG (blkCd c scope) (.Tuple elts kk tpos)) (RTs (blkCd c scope) ifs) (RE (blkCd c scope) elt) vs σ H Q := by
  refine i_enumL hm (RE.mono (fun x H1 z => ?_) q) hg hs
  obtain ⟨b, ys, as, rfl, ht, hd, few, tn, k⟩ := z
  have hl := hd.len
  refine ⟨b, ys, rfl, ht, fun D hD => ⟨fun i m H' => m = as.length - i ∧ i ≤ as.length ∧ ∃ acc, acc.length ≤ i ∧ H' D = some (.lst acc) ∧ Same H1 H' ∧ RAll S H' acc (outsE g (as.take i)), ⟨_, rfl, Nat.zero_le _, [], Nat.le_refl _, upd_same, same_new hD, .nil⟩, ?_⟩⟩
  rintro i m H' ⟨rfl, hi, acc, la, hA, s, hr⟩
  by_cases more : i < as.length
  · refine .inr ⟨⟨ys, ys[i]'(by omega), s.seq ht, List.getElem?_eq_getElem (by omega)⟩, fun H' => ∃ acc, acc.length ≤ i + 1 ∧ H' D = some (.lst acc) ∧ Same H1 H' ∧ RAll S H' acc (outsE g (as.take (i + 1))), fun H' z => ⟨as.length - (i + 1), by omega, rfl, more, z⟩, fun x H2 got => ?_⟩
    obtain ⟨T, y, rfl, hT, rfl, hyy⟩ := got
    obtain ⟨v, hv, dv⟩ := hd.get (List.getElem?_eq_getElem more)
    have := hyy ys (s.seq ht)
    rw [hv] at this
    cases this
    have sn := same_new (o := .tup [.int (i : Nat), y]) hT
    have ea := List.getElem?_eq_getElem more
    have TT := TurnR.one kS hD (s.trans sn) (sn _ _ hA) (hr.mono kS (tp_same sn)) (tn i _ T y _ ea (s.trans sn) upd_same (kR.k (tp_same (s.trans sn)) dv))
    refine RG.mono (fun σ2 H2 z => ⟨z.1, RTs.mono (fun b H3 z => ?_) z.2⟩) TT
    cases b with
    | true => exact RE.mono (fun y H4 z => ⟨acc, z.1, Nat.lt_of_le_of_lt la (Nat.lt_of_lt_of_le more (Nat.le_trans few (by decide))), acc ++ [y], by rw [List.length_append, List.length_singleton]; omega, z.2.1, z.2.2.1, by rw [← outsE_snoc ea]; exact z.2.2.2⟩) z
    | false => exact ⟨acc, by omega, z.1, z.2.1, by rw [← outsE_snoc ea]; exact z.2.2⟩
  · obtain rfl : i = as.length := by omega
    rw [List.take_length] at hr
    exact .inl ⟨⟨ys, s.seq ht, by omega⟩, k D acc H' s hD hA hr⟩
end
end G
namespace K
open PySem PySem.Spec PyProof.Rows L2 G SH
variable {M : Md}
/-! ### the programs drawn -/
abbrev dcPairs (M : Md) : Prop := Dc M "_law_some_pairs" ["_law_feed_here", "_law_names"] 2 (spPairs M.K)
def cellV : PyData := .tuple [.tuple [.str "v", .int 0, .int 0, .int 1, .bool false, .bool true, .int 0]]
def restV (i : Nat) : List PyData := [.int 1, .tuple [.tuple [.str "v", .int ((i : Int) % 2)]]]
def rrV (ns : List Str) : List (Str × List PyData) := outsE (fun i n => some (n, restV i)) ns
theorem rrV_nms (ns : List Str) : nmsO (rrV ns) = ns := by
  unfold rrV outsE nmsO
  have go : ∀ (l : List Str) (k : Nat), ((l.zipIdx k).filterMap fun p => some (p.1, restV p.2)).map (·.1) = l := by
    intro l
    induction l with
    | nil => intro k; rfl
    | cons x l ih => intro k; rw [List.zipIdx_cons, List.filterMap_cons]; exact congrArg _ (ih (k + 1))
  exact go ns 0
def spBare (K : PySem.W.Frag) : Sp := fun vs H Q _ => ∃ fp cl : Addr, vs = [.ref fp, .int 5] ∧ Feed K H fp cl ∧
  ∀ (v : V) (ns : List Str) (ps : PL) (row : List Str) (H' : Hp), OgOk ns ps → ps.length ≤ 25 → OM.Acy ns ps row → Kp fp H H' → Feed K H' fp cl → Dt K H' v (ogD cellV (rrV ns) ps [.int 1]) → Q v H'
theorem names5_asc : names5.Pairwise lts := by decide +kernel
theorem names5_ok : ∀ n ∈ names5, PyData.strOk n = true := by decide +kernel
theorem fwd_acy {ns row : List Str} {ps : PL} (nd : ns.Nodup) (pm : row.Perm ns) (fw : ∀ p ∈ ps, Fwd row p) : OM.Acy ns ps row where
  all := fun n => pm.mem_iff
  fwd := by
    intro a n b e q hq en
    obtain ⟨i, j, lt, h1, h2⟩ := fw q hq
    have rnd : row.Nodup := pm.nodup_iff.mpr nd
    have hn : row[a.length]? = some n := by rw [e, List.getElem?_append_right (Nat.le_refl _), Nat.sub_self]; rfl
    have hj : j = a.length := by
      obtain ⟨l1, g1⟩ := List.getElem?_eq_some_iff.mp h2
      obtain ⟨l2, g2⟩ := List.getElem?_eq_some_iff.mp hn
      rcases Nat.lt_trichotomy j a.length with z | z | z
      · exact absurd (g1.trans (en.trans g2.symm)) (List.pairwise_iff_getElem.mp rnd _ _ l1 l2 z)
      · exact z
      · exact absurd (g2.trans (en.symm.trans g1.symm)) (List.pairwise_iff_getElem.mp rnd _ _ l2 l1 z)
    rw [hj] at lt
    rw [e, List.getElem?_append_left lt] at h1
    exact List.mem_of_getElem? h1
theorem ok_bare {f fd} (F : Fun M.K "_law_bare_program" "_law_bare_program" s__law_bare_program f fd) (b : Bl M) (b3 : Bl3 M) (dd : dcDraw M) (dp : dcPairs M) : FnG M.prog M.w M.K M.mg M.base CX0 3 f fd ["_law_feed_here", "_law_most"] (spBare M.K) := by
  refine fn_ok F sc__law_bare_program (fun vs H Q E h => ?_) (fun H vs Q E h => ?_)
  · obtain ⟨_, _, rfl, _⟩ := h
    rfl
  obtain ⟨fp, cl, rfl, hf, k⟩ := h
  refine b_cut (fun σ1 H1 => ∃ l : Addr, σ1 = [some (.ref fp), some (.int 5), some (.ref l), none, none, none, none] ∧ Same H H1 ∧ H l = none ∧ H1 l = some (.lst (names5.map V.str))) ?_ ?_
  · refine s_set (by tm_at "at") (e_lstD ?_)
    tm_at "go"
    exact ⟨by decide, fun l H1 s1 n1 g1 => ⟨l, rfl, s1, n1, g1⟩⟩
  rintro _ H1 ⟨l, rfl, s1, n1, g1⟩
  have ne := ne_feed hf (Same.refl _) n1
  refine b_cut (fun σ1 H2 => ∃ r : Int, 0 ≤ r ∧ r ≤ 5 ∧ σ1 = [some (.ref fp), some (.int 5), some (.ref l), some (.int r), none, none, none] ∧ Kp fp H H2 ∧ Feed M.K H2 fp cl ∧ H2 l = some (.lst (names5.map V.str))) ?_ ?_
  · refine s_set (by tm_at "at") ?_
    refine e_drawV dd ?_
    tm_at "go"
    refine ⟨fp, cl, 6, rfl, rfl, by decide, hf.same s1, fun r H2 r0 r1 k2 f2 => ?_⟩
    exact ⟨r, r0, by omega, rfl, (kp_same s1).trans k2, f2, k2.k _ _ ne g1⟩
  rintro _ H2 ⟨r, r0, r5, rfl, k2, f2, g2⟩
  refine b_cut (fun σ1 H' => ∃ ns : List Str, σ1 = [some (.ref fp), some (.int 5), some (.ref l), some (.int r), none, none, none] ∧ Kp fp H H' ∧ Feed M.K H' fp cl ∧ H' l = some (.lst (ns.map V.str)) ∧ ns.Sublist names5) ?_ ?_
  · refine s_while (fun n σ1 H' => ∃ ns : List Str, n = ns.length ∧ σ1 = [some (.ref fp), some (.int 5), some (.ref l), some (.int r), none, none, none] ∧ Kp fp H H' ∧ Feed M.K H' fp cl ∧ H' l = some (.lst (ns.map V.str)) ∧ ns.Sublist names5) 5 ⟨names5, rfl, rfl, k2, f2, g2, List.Sublist.refl _⟩ ?_
    rintro n σ' H' ⟨ns, rfl, rfl, kp, ff, gg, sub⟩
    have l5 : ns.length ≤ 5 := sub.length_le
    refine t_cmp ?_
    tm_at "go"
    refine rc_lenL (.of gg) ?_
    rw [List.length_map]
    tm_at "go"
    refine ifd (fun c1 => ?_) (fun c1 => ?_)
    · refine b_one (s_expr (e_popAt (e_var (by tm_at "at") ⟨l, _, rfl, gg, ?_⟩)))
      refine e_drawV dd ?_
      tm_at "go"
      refine rc_lenL (.of gg) ?_
      rw [List.length_map]
      refine ⟨fp, cl, _, rfl, rfl, by omega, ff, fun q H3 q0 q1 k3 f3 => ?_⟩
      have g3 := k3.k _ _ ne gg
      have lt : q.toNat < ns.length := by omega
      refine ⟨_, q, .str ns[q.toNat], rfl, g3, q0, by rw [List.length_map]; exact q1, by rw [List.length_map]; omega, by rw [List.getElem?_map, List.getElem?_eq_getElem lt]; rfl, ?_⟩
      rw [erase_map]
      have nc : l ≠ cl := ne_cl hf (Same.refl _) n1
      refine ⟨_, ?_, ns.eraseIdx q.toNat, rfl, rfl, kp_mut (kp.trans k3) n1, f3.upd ne nc, upd_same, (List.eraseIdx_sublist ..).trans sub⟩
      rw [List.length_eraseIdx, if_pos lt]
      omega
    · exact ⟨ns, rfl, kp, ff, gg, sub⟩
  rintro _ H3 ⟨ns, rfl, k3, f3, g3, sub⟩
  have l5 : ns.length ≤ 5 := sub.length_le
  refine b_cut (fun σ1 H4 => ∃ (v4 : V) (w5 w6 : Option V), σ1 = [some (.ref fp), some (.int 5), some (.ref l), some (.int r), some v4, w5, w6] ∧ Same H3 H4 ∧ Dt M.K H4 v4 (.tuple ((rrV ns).map rrD))) ?_ ?_
  · refine s_set (by tm_at "at") ?_
    tm_at "go"
    refine e_lc (own := [("_law_k", 5), ("_law_name", 6)]) (Blk.of (N := N__law_bare_program) (sc := defScope s__law_bare_program) rfl rfl (by decide +kernel)) ?_
    refine lcEL_R (R := fun H v (n : Str) => v = V.str n) (S := fun H v (r : Str × List PyData) => Dt M.K H v (rrD r)) ⟨fun _ h => h⟩ ⟨fun t h => h.mono t⟩ (fun i n => some (n, restV i)) b3.enum ?_
    refine e_var (by tm_at "at") ⟨l, _, ns, rfl, .of g3, ?_, by omega, fun i a T v H' hi s hT hv => ?_, fun p us H4 s4 n4 g4 h4 => ?_⟩
    · have : ∀ l : List Str, RAll (fun H v (n : Str) => v = V.str n) H3 (l.map V.str) l := by
        intro l
        induction l with
        | nil => exact .nil
        | cons n l ih => exact .cons rfl ih
      exact this ns
    · subst hv
      refine g_tup (.of hT) (gs_cons (g_name (by tm_at "at") (gs_cons (g_name (by tm_at "at") (gs_nil ?_)))))
      refine ⟨rfl, rfl, ts_nil ⟨Same.refl _, ?_⟩⟩
      rw [if_pos rfl]
      refine e_tupD ?_
      tm_at "go"
      refine e_tupD ?_
      tm_at "go"
      refine e_tupD ?_
      tm_at "go"
      refine ro_mod (by decide) ?_
      tm_at "go"
      refine ⟨[.str "v", .int ((i : Int) % 2)], .cons (.str _) (.cons (.int _) .nil), (show 2 ≤ 1000 by decide), fun v5 H5 s5 h5 => ?_⟩
      tm_at "go"
      refine ⟨[_], .cons h5 .nil, (show 1 ≤ 1000 by decide), fun v6 H6 s6 h6 => ?_⟩
      tm_at "go"
      refine ⟨[.str a, .int 1, _], .cons (.str _) (.cons (.int _) (.cons h6 .nil)), (show 3 ≤ 1000 by decide), fun v7 H7 s7 h7 => ?_⟩
      exact ⟨s5.trans (s6.trans s7), _, rfl, h7⟩
    · tm_at "go"
      have h5 := RAll.dts (g := rrD) (fun v a h => h) h4
      refine rc_tupL (.of g4) h5 fun v3 H5 s5 h5 => ?_
      exact ⟨v3, _, _, rfl, s4.trans s5, h5⟩
  rintro _ H4 ⟨v4, w5, w6, rfl, s4, h4⟩
  refine b_one (s_ret ?_)
  refine e_tupD ?_
  refine a_cons ?_
  refine e_tupD ?_
  refine a_cons ?_
  refine e_tupD ?_
  tm_at "go"
  refine ⟨[.str "v", .int 0, .int 0, .int 1, .bool false, .bool true, .int 0], .cons (.str _) (.cons (.int _) (.cons (.int _) (.cons (.int _) (.cons (.bl _) (.cons (.bl _) (.cons (.int _) .nil)))))), (show 7 ≤ 1000 by decide), fun v5 H5 s5 h5 => ?_⟩
  tm_at "go"
  refine ⟨[_], .cons h5 .nil, (show 1 ≤ 1000 by decide), fun v6 H6 s6 h6 => ?_⟩
  tm_at "go"
  refine e_call dp ?_
  tm_at "go"
  have s46 := s4.trans (s5.trans s6)
  refine ⟨fp, cl, l, ns, rfl, f3.same s46, s46 _ _ g3, ne, l5, fun v7 ps row H7 pm fw pl k7 f7 h7 => ?_⟩
  tm_at "go"
  refine ⟨[cellV, .tuple ((rrV ns).map rrD), pairsD ps, .int 1], .cons (h6.mono k7.t) (.cons ((h4.mono (tp_same (s5.trans s6))).mono k7.t) (.cons h7 (.cons (.int _) .nil))), (show 4 ≤ 1000 by decide), fun v8 H8 s8 h8 => ?_⟩
  have asc : ns.Pairwise lts := names5_asc.sublist sub
  have nd : ns.Nodup := asc.imp fun {a b} h (e : a = b) => lts_irrefl b (by rw [e] at h; exact h)
  refine k v8 ns ps row H8 ⟨asc, l5, fun p hp => ?_, by omega, fun n hn => names5_ok n (sub.mem hn)⟩ pl (fwd_acy nd pm fw) (((k3.trans (kp_same s46)).trans k7).trans (kp_same s8)) (f7.same s8) h8
  obtain ⟨m1, m2⟩ := (fw p hp).mem
  exact ⟨pm.mem_iff.mp m1, pm.mem_iff.mp m2⟩
abbrev dcBare (M : Md) : Prop := Dc M "_law_bare_program" ["_law_feed_here", "_law_most"] 3 (spBare M.K)
end K

namespace K
open PySem PySem.Spec PyProof.Rows L2 G SH
variable {M : Md}
/-! ### the orders by levels -/
def spWays (K : PySem.W.Frag) : Sp := fun vs H Q _ => ∃ vp ln c rr ps more, vs = [vp, .ref ln] ∧ Dt K H vp (ogD c rr ps more) ∧ H ln = some (.lst ((nmsO rr).map V.str)) ∧ OgOk (nmsO rr) ps ∧
  ∀ l us H', Same H H' → H l = none → H' l = some (.lst us) → DtAll K H' us ((OM.wy (nmsO rr) ps (nmsO rr).length).map tS) → Q (.ref l) H'
theorem wy_few {ns : List Str} {ps : PL} : ∀ k : Nat, (OM.wy ns ps k).length ≤ ns.length ^ k
  | 0 => Nat.le_refl _
  | k + 1 => by
    show ((OM.wy ns ps k).flatMap fun p => (OM.nxt ns ps p).map fun n => p ++ [n]).length ≤ _
    have each : ∀ l : List (List Str), (l.flatMap fun p => (OM.nxt ns ps p).map fun n => p ++ [n]).length ≤ l.length * ns.length := by
      intro l
      induction l with
      | nil => simp
      | cons n l ih =>
        have := nxt_le ns ps n
        rw [List.flatMap_cons, List.length_append, List.length_cons, List.length_map, Nat.add_mul, Nat.one_mul]
        omega
    refine Nat.le_trans (each _) ?_
    rw [Nat.pow_succ]
    exact Nat.mul_le_mul_right _ (wy_few k)
theorem wy_few5 {ns : List Str} {ps : PL} (O : OgOk ns ps) {k : Nat} (h : k ≤ 5) : (OM.wy ns ps k).length ≤ 3125 := by
  refine Nat.le_trans (wy_few k) ?_
  have : ∀ n, n ≤ 5 → ∀ k, k ≤ 5 → n ^ k ≤ 3125 := by decide
  exact this _ O.few _ h
theorem wy_len {ns : List Str} {ps : PL} : ∀ (k : Nat) (p : List Str), p ∈ OM.wy ns ps k → p.length = k
  | 0, p, h => by rw [List.mem_singleton.mp h]; rfl
  | k + 1, p, h => by
    obtain ⟨q, hq, h⟩ := List.mem_flatMap.mp h
    obtain ⟨n, _, rfl⟩ := List.mem_map.mp h
    rw [List.length_append, wy_len k q hq]
    rfl
theorem nxt_srtS {ns : List Str} {ps : PL} (h2 : OM.In2 ns ps) (p : List Str) : OM.nxt ns ps (srtS p) = OM.nxt ns ps p := OM.nxt_eq h2 fun n _ => (srtS_perm p).mem_iff
theorem part_few (ns : List Str) (ps : PL) (l : List (List Str)) (i : Nat) (p : List Str) (h : l[i]? = some p) : ((l.take i).flatMap fun p => (OM.nxt ns ps p).map fun n => p ++ [n]).length + (OM.nxt ns ps p).length ≤ (l.flatMap fun p => (OM.nxt ns ps p).map fun n => p ++ [n]).length := by
  obtain ⟨h1, h2⟩ := List.getElem?_eq_some_iff.mp h
  have e : l = l.take i ++ p :: l.drop (i + 1) := by
    rw [← h2, List.getElem_cons_drop, List.take_append_drop]
  conv => rhs; rw [e]
  rw [List.flatMap_append, List.length_append, List.flatMap_cons, List.length_append, List.length_map]
  omega
def gMore (p : List Str) (d : PyData) : Option PyData := match d with
  | .str n => some (tS (p ++ [n]))
  | _ => none
theorem gMore_eq (p : List Str) : ∀ l : List Str, (l.map PyData.str).filterMap (gMore p) = (l.map fun n => p ++ [n]).map tS
  | [] => rfl
  | n :: l => by rw [List.map_cons, List.filterMap_cons, gMore_eq p l]; rfl
theorem ok_ways {f fd} (F : Fun M.K "_law_ways" "_law_ways" s__law_ways f fd) (b : Bl M) (dn : dcNext M) : FnG M.prog M.w M.K M.mg M.base CX0 3 f fd ["_law_place", "_law_names"] (spWays M.K) := by
  refine fn_ok F sc__law_ways (fun vs H Q E h => ?_) (fun H vs Q E h => ?_)
  · obtain ⟨_, _, _, _, _, _, rfl, _⟩ := h
    rfl
  obtain ⟨vp, ln, c, rr, ps, more, rfl, hp, gn, O, k⟩ := h
  have fw := O.few
  have nl : (nmsO rr).length = rr.length := List.length_map ..
  refine b_cut (fun σ1 H1 => ∃ (l1 : Addr) (us : List V), σ1 = [some vp, some (.ref ln), some (.ref l1), none, none, none, none] ∧ Same H H1 ∧ H l1 = none ∧ H1 l1 = some (.lst us) ∧ DtAll M.K H1 us (([[]] : List (List Str)).map tS)) ?_ ?_
  · refine s_set (by tm_at "at") ?_
    refine e_lst ?_
    refine a_cons ?_
    refine e_tupD ?_
    tm_at "go"
    refine ⟨[], .nil, Nat.zero_le _, fun v H2 s2 h2 => ?_⟩
    tm_at "go"
    refine ⟨(show 1 ≤ sizeLine by decide), fun p hp => ⟨p, [v], rfl, s2.trans (same_new hp), ?_, upd_same, .cons (h2.mono (tp_same (same_new hp))) .nil⟩⟩
    cases z : H p with
    | none => rfl
    | some o => rw [s2 _ _ z] at hp; cases hp
  rintro _ H1 ⟨l1, us1, rfl, s1, n1, g1, h1⟩
  refine b_cut (fun σ1 H3 => ∃ (l : Addr) (ys : List V) (v3 v4 v5 v6 : Option V), σ1 = [some vp, some (.ref ln), some (.ref l), v3, v4, v5, v6] ∧ Same H H3 ∧ H l = none ∧ H3 l = some (.lst ys) ∧ DtAll M.K H3 ys ((OM.wy (nmsO rr) ps (nmsO rr).length).map tS)) ?_ ?_
  · refine s_forR1 b.range ?_
    tm_at "go"
    refine rc_lenL (.of (s1 _ _ gn)) ?_
    rw [List.length_map]
    refine ⟨_, rfl, by omega, by omega, fun i σ' H' => ∃ (l : Addr) (ys : List V) (v3 v4 v5 v6 : Option V), σ' = [some vp, some (.ref ln), some (.ref l), v3, v4, v5, v6] ∧ Same H H' ∧ H l = none ∧ H' l = some (.lst ys) ∧ DtAll M.K H' ys ((OM.wy (nmsO rr) ps i).map tS),
      ⟨l1, us1, none, none, none, none, rfl, s1, n1, g1, h1⟩, ?_, ?_⟩
    · rintro i σ' H' hi ⟨l, ys, v3, v4, v5, v6, rfl, s, n, g, hy⟩
      have hi5 : i + 1 ≤ 5 := by omega
      have wf := wy_few5 O hi5
      refine g_name (by tm_at "at") ?_
      refine b_cut (fun σ1 H4 => ∃ (lq : Addr) (v3 v5 v6 : Option V), σ1 = [some vp, some (.ref ln), some (.ref l), v3, some (.ref lq), v5, v6] ∧ Same H' H4 ∧ H' lq = none ∧ H4 lq = some (.lst [])) ?_ ?_
      · refine s_set (by tm_at "at") ?_
        refine e_lst ?_
        tm_at "go"
        exact ⟨Nat.zero_le _, fun p hp => ⟨p, _, _, _, rfl, same_new hp, hp, upd_same⟩⟩
      rintro _ H4 ⟨lq, w3, w5, w6, rfl, s4, n4, g4⟩
      have nlq : l ≠ lq := fun e => by rw [← e, g] at n4; cases n4
      have gl4 := s4 _ _ g
      have hy4 := hy.mono (tp_same s4)
      have ly := hy4.len
      rw [List.length_map] at ly
      refine b_cut (fun σ1 H5 => ∃ (zs : List V) (v3 v5 v6 : Option V), σ1 = [some vp, some (.ref ln), some (.ref l), v3, some (.ref lq), v5, v6] ∧ Same H' H5 ∧ H5 lq = some (.lst zs) ∧ DtAll M.K H5 zs ((OM.wy (nmsO rr) ps (i + 1)).map tS)) ?_ ?_
      · refine s_forL (e_var (by tm_at "at") ⟨l, ys, rfl, .of gl4, fun j σ' H5 => ∃ (zs : List V) (v3 v5 v6 : Option V), σ' = [some vp, some (.ref ln), some (.ref l), v3, some (.ref lq), v5, v6] ∧ Same H' H5 ∧ Kp lq H4 H5 ∧ H5 lq = some (.lst zs) ∧ DtAll M.K H5 zs ((((OM.wy (nmsO rr) ps i).take j).flatMap fun p => (OM.nxt (nmsO rr) ps p).map fun n => p ++ [n]).map tS),
          ⟨[], _, _, _, rfl, s4, Kp.refl _ _, g4, .nil⟩, ?_, ?_, ?_⟩)
        · rintro j σ' H5 _ ⟨zs, v3, v5, v6, rfl, s5, k5, _⟩
          exact .of (k5.k _ _ nlq gl4)
        · rintro j x σ' H5 hx ⟨zs, v3, v5, v6, rfl, s5, k5, g5, hz⟩
          obtain ⟨d, hdi, hx'⟩ := hy4.getV hx
          rw [List.getElem?_map] at hdi
          obtain ⟨p, hpi, rfl⟩ := Option.map_eq_some_iff.mp hdi
          have pl := wy_len i p (List.mem_of_getElem? hpi)
          have hx5 := hx'.mono k5.t
          have pf := part_few (nmsO rr) ps _ j p hpi
          have pf2 : ((OM.wy (nmsO rr) ps i).flatMap fun p => (OM.nxt (nmsO rr) ps p).map fun n => p ++ [n]).length ≤ 3125 := wf
          refine g_name (by tm_at "at") ?_
          refine b_one (s_expr (e_ext (e_var (by tm_at "at") ⟨lq, zs, rfl, g5, ?_⟩)))
          refine e_lc (own := [("_law_name", 6)]) (Blk.of (N := N__law_ways) (sc := defScope s__law_ways) rfl rfl (by decide +kernel)) ?_
          refine lcT_F (gMore p) ?_
          refine e_callF dn ?_
          tm_at "go"
          obtain ⟨t, rfl, ht⟩ := dt_tS hx5
          refine rc_sortS1 (.inr ht) fun q hq => ?_
          tm_at "go"
          refine rc_tupL (.of upd_same) (all_strs _) fun v7 H7 s7 h7 => ?_
          tm_at "go"
          have sq := (same_new (o := .lst ((srtS p).map V.str)) hq).trans s7
          refine ⟨_, _, .cons ((hp.mono (tp_same (s.trans s5))).mono (tp_same sq)) (.cons (show Dt M.K H7 v7 (tS (srtS p)) from h7) .nil), ⟨c, rr, ps, more, srtS p, rfl, by omega, O.pl, rfl⟩, fun v8 H8 s8 h8 => ?_⟩
          rw [nxt_srtS O.in2] at h8
          have s58 := sq.trans s8
          refine ⟨(OM.nxt (nmsO rr) ps p).map .str, h8, by rw [List.length_map]; have := nxt_few O p; omega, fun d x H9 hd s9 hx9 => ?_, fun p9 us9 H9 s9 n9 g9 h9 => ?_⟩
          · obtain ⟨n, _, rfl⟩ := List.mem_map.mp hd
            cases hx9
            refine g_name (by tm_at "at") ⟨rfl, rfl, ts_nil ⟨Same.refl _, ?_⟩⟩
            rw [if_pos rfl]
            tm_at "go"
            refine e_tupD ?_
            tm_at "go"
            refine ⟨[.str n], .cons (.str _) .nil, (show 1 ≤ 1000 by decide), fun v10 H10 s10 h10 => ?_⟩
            refine ro_catT (ds := p.map .str) (hx5.mono (tp_same (s58.trans (s9.trans s10)))) h10 (by rw [List.length_map, List.length_singleton]; omega) fun u H11 s11 h11 => ?_
            refine ⟨s10.trans s11, tS (p ++ [n]), rfl, ?_⟩
            show Dt M.K H11 u (.tuple ((p ++ [n]).map .str))
            rw [List.map_append]
            exact h11
          · rw [gMore_eq] at h9
            have g59 := (s58.trans s9) _ _ g5
            have lz := hz.len
            have l9 := h9.len
            rw [List.length_map] at lz l9
            rw [List.length_map] at l9
            refine ⟨p9, zs, us9, rfl, g59, g9, by omega, ?_⟩
            have k9 := kp_upd (o' := .lst (zs ++ us9)) g59 (fun _ e => nomatch e) (fun _ _ e => nomatch e)
            have n0 : H' lq = none := n4
            refine ⟨zs ++ us9, _, _, _, rfl, same_mut (s5.trans (s58.trans s9)) n0, (k5.trans (kp_same (s58.trans s9))).trans k9, upd_same, ?_⟩
            have e1 : (OM.wy (nmsO rr) ps i).take (j + 1) = (OM.wy (nmsO rr) ps i).take j ++ [p] := by
              obtain ⟨g1, g2⟩ := List.getElem?_eq_some_iff.mp hpi
              rw [List.take_succ_eq_append_getElem g1, g2]
            rw [e1, List.flatMap_append, List.map_append, List.flatMap_cons, List.flatMap_nil, List.append_nil]
            exact ((hz.mono (tp_same (s58.trans s9))).mono k9.t).app (h9.mono k9.t)
        · rintro σ' H5 ⟨zs, v3, v5, v6, rfl, s5, k5, g5, hz⟩
          rw [ly, List.take_length] at hz
          exact ⟨zs, _, _, _, rfl, s5, g5, hz⟩
      rintro _ H5 ⟨zs, u3, u5, u6, rfl, s5, g5, hz⟩
      refine b_one (s_set (by tm_at "at") (e_var (by tm_at "at") ?_))
      refine ⟨lq, zs, _, _, _, _, rfl, s.trans s5, ?_, g5, hz⟩
      cases z : H lq with
      | none => rfl
      | some o => rw [s _ _ z] at n4; cases n4
    · rintro σ' H' ⟨l, ys, v3, v4, v5, v6, rfl, s, n, g, hy⟩
      rw [show ((nmsO rr).length : Int).toNat = (nmsO rr).length by omega] at hy
      exact ⟨l, ys, _, _, _, _, rfl, s, n, g, hy⟩
  rintro _ H3 ⟨l, ys, v3, v4, v5, v6, rfl, s3, n3, g3, h3⟩
  tm_at "go"
  exact k l ys H3 s3 n3 g3 h3
abbrev dcWays (M : Md) : Prop := Dc M "_law_ways" ["_law_place", "_law_names"] 3 (spWays M.K)
end K

namespace G
open PySem PySem.Spec PyProof.Rows L2 SH
open PySem.W (EachIs)
/-! ### dicts whose keys are tuples of texts -/
/-- an entry: the key, the tuple's address, the value -/
abbrev E3 := List Str × Addr × V
abbrev R3 := List Str × Addr × Value
def Ent (p : E3) (q : R3) : Prop := p.1 = q.1 ∧ p.2.1 = q.2.1 ∧ RelV p.2.2 q.2.2
def RawK (P : Program) (w : World) (h : Heap) (a : Addr) (ys : List R3) : Prop := ∃ o es ep, h.get? a = some o ∧ o.ExactDict ∧ o.data = .dict es ep ∧ es.toList = ys.map (entryOfKey (kS P w)) ∧ (ys.map (·.1)).Nodup
def DctO (P : Program) (w : World) (a : Addr) (xs : List E3) : HO := .ext fun h => (a == sysModules) = false ∧ xs.length ≤ sizeLine ∧ ∃ ys, Paired Ent xs ys ∧ RawK P w h a ys
theorem dctO_new {P : Program} {w : World} {H : Hp} {h : Heap} {a : Addr} {xs : List E3} {ys : List R3} (sm : (a == sysModules) = false) (le : xs.length ≤ sizeLine) (pr : Paired Ent xs ys) (raw : RawK P w h a ys) : ObjOk P w H h a (DctO P w a xs) := by
  have ⟨o, es, ep, oh, r⟩ := raw
  exact ⟨⟨sm, le, ys, pr, raw⟩, ⟨o, oh⟩, fun h1 h2 ⟨z1, z2, zs, z3, o1, es1, ep1, g1, z4⟩ up => ⟨z1, z2, zs, z3, o1, es1, ep1, up _ g1, z4⟩⟩
def putE (xs : List E3) (k : List Str) (t : Addr) (v : V) : List E3 := if k ∈ xs.map (·.1) then xs.map (fun x => if x.1 = k then (x.1, x.2.1, v) else x) else xs ++ [(k, t, v)]
theorem ent_keys : ∀ {xs : List E3} {ys : List R3}, Paired Ent xs ys → ys.map (·.1) = xs.map (·.1)
  | _, _, .nil => rfl
  | _, _, .cons r t => by rw [List.map_cons, List.map_cons, ent_keys t, r.1]
theorem ent_len : ∀ {xs : List E3} {ys : List R3}, Paired Ent xs ys → ys.length = xs.length
  | _, _, .nil => rfl
  | _, _, .cons _ t => congrArg Nat.succ (ent_len t)
theorem ent_app {p : E3} {q : R3} (h : Ent p q) : ∀ {xs : List E3} {ys : List R3}, Paired Ent xs ys → Paired Ent (xs ++ [p]) (ys ++ [q])
  | _, _, .nil => .cons h .nil
  | _, _, .cons r t => .cons r (ent_app h t)
theorem ent_put {k : List Str} {v : V} {u : Value} (rv : RelV v u) : ∀ {xs : List E3} {ys : List R3}, Paired Ent xs ys → Paired Ent (xs.map fun x => if x.1 = k then (x.1, x.2.1, v) else x) (ys.map (putAt k u))
  | _, _, .nil => .nil
  | x :: xs, y :: ys, .cons r t => by
    refine .cons ?_ (ent_put rv t)
    obtain ⟨r1, r2, r3⟩ := r
    unfold putAt
    show Ent (if x.1 = k then (x.1, x.2.1, v) else x) _
    by_cases e : x.1 = k
    · rw [if_pos e, if_pos (by rw [← r1]; exact e)]
      exact ⟨r1, r2, rv⟩
    · rw [if_neg e, if_neg (by rw [← r1]; exact e)]
      exact ⟨r1, r2, r3⟩
theorem atKey_mem {ys : List R3} {k : List Str} : (atKey ys k).isSome = decide (k ∈ ys.map (·.1)) := by
  unfold atKey
  rw [Option.isSome_map, Bool.eq_iff_iff, List.find?_isSome, decide_eq_true_eq]
  constructor
  · rintro ⟨x, hx, e⟩
    rw [decide_eq_true_eq] at e
    exact List.mem_map.mpr ⟨x, hx, e⟩
  · intro h
    obtain ⟨x, hx, e⟩ := List.mem_map.mp h
    exact ⟨x, hx, decide_eq_true e⟩
theorem ent_stored {xs : List E3} {ys : List R3} {k : List Str} {t : Addr} {v : V} {u : Value} (rv : RelV v u) (pr : Paired Ent xs ys) : Paired Ent (putE xs k t v) (storedH ys k t u) := by
  have ek := ent_keys pr
  have am := atKey_mem (ys := ys) (k := k)
  unfold putE
  by_cases e : k ∈ xs.map (·.1)
  · rw [if_pos e]
    rw [ek, decide_eq_true e] at am
    obtain ⟨p, hp⟩ := Option.isSome_iff_exists.mp am
    rw [storedH_old hp]
    exact ent_put rv pr
  · rw [if_neg e]
    rw [ek, decide_eq_false e] at am
    have hp : atKey ys k = none := by
      cases z : atKey ys k with
      | none => rfl
      | some p => rw [z] at am; cases am
    rw [storedH_new hp]
    exact ent_app ⟨rfl, rfl, rv⟩ pr
theorem put_len (xs : List E3) (k : List Str) (t : Addr) (v : V) : (putE xs k t v).length ≤ xs.length + 1 := by
  unfold putE
  by_cases e : k ∈ xs.map (·.1)
  · rw [if_pos e, List.length_map]; exact Nat.le_succ _
  · rw [if_neg e, List.length_append, List.length_singleton]; exact Nat.le_refl _
theorem put_keys {xs : List E3} {k : List Str} {t : Addr} {v : V} {u : List Str} : u ∈ (putE xs k t v).map (·.1) ↔ u ∈ xs.map (·.1) ∨ u = k := by
  unfold putE
  by_cases e : k ∈ xs.map (·.1)
  · rw [if_pos e, List.map_map]
    have e2 : ((fun x : E3 => x.1) ∘ fun x => if x.1 = k then (x.1, x.2.1, v) else x) = fun x : E3 => x.1 := by
      funext x
      show (if x.1 = k then (x.1, x.2.1, v) else x).1 = x.1
      split <;> rfl
    rw [e2]
    exact ⟨.inl, fun z => z.elim id fun z => z ▸ e⟩
  · rw [if_neg e, List.map_append, List.mem_append, List.map_cons, List.map_nil, List.mem_singleton]
theorem put_at {K : PySem.W.Frag} {H : Hp} {xs : List E3} {k : List Str} {t : Addr} {v : V} (ht : SqT K H t (k.map V.str)) (h : ∀ x ∈ xs, SqT K H x.2.1 (x.1.map V.str)) : ∀ x ∈ putE xs k t v, SqT K H x.2.1 (x.1.map V.str) := by
  intro x hx
  unfold putE at hx
  by_cases e : k ∈ xs.map (·.1)
  · rw [if_pos e] at hx
    obtain ⟨y, hy, rfl⟩ := List.mem_map.mp hx
    by_cases z : y.1 = k
    · rw [if_pos z]; exact h y hy
    · rw [if_neg z]; exact h y hy
  · rw [if_neg e] at hx
    rcases List.mem_append.mp hx with hx | hx
    · exact h x hx
    · rw [List.mem_singleton.mp hx]; exact ht
section
variable {X : Cx} {pins : List (Addr × Obj)} {σ : L2.St} {H : Hp} {s : Shared}
theorem ent_ref : ∀ {xs : List E3} {ys : List R3}, Paired Ent xs ys → ∀ y ∈ ys, ∃ x ∈ xs, Ent x y
  | _, _, .nil, y, hy => nomatch hy
  | x :: _, _ :: _, .cons r t, y, hy => by
    rcases List.mem_cons.mp hy with rfl | hy
    · exact ⟨x, List.mem_cons_self, r⟩
    · obtain ⟨z, hz, e⟩ := ent_ref t y hy
      exact ⟨z, List.mem_cons_of_mem _ hz, e⟩
theorem dct_of (J : Inv X pins σ H s) {a : Addr} {xs : List E3} (ha : H a = some (DctO X.prog X.w a xs)) (hx : ∀ x ∈ xs, SqT X.K H x.2.1 (x.1.map V.str)) : (a == sysModules) = false ∧ xs.length ≤ sizeLine ∧ ∃ ys, Paired Ent xs ys ∧ s.heap.DictOfH (kS X.prog X.w) a ys := by
  obtain ⟨⟨sm, le, ys, pr, o, es, ep, oh, ex, od, ee, nd⟩, _⟩ := J.hok a _ ha
  refine ⟨sm, le, ys, pr, o, es, ep, oh, ex, od, ee, fun y hy => ?_, nd⟩
  obtain ⟨x, hx', e1, e2, _⟩ := ent_ref pr y hy
  rw [← e1, ← e2]
  exact (inv_strs J (hx x hx')).1
theorem dct_write (J : Inv X pins σ H s) {a : Addr} {xs zs : List E3} {ys : List R3} {h' : Heap} {tk : Nat} (ha : H a = some (DctO X.prog X.w a xs)) (sm : (a == sysModules) = false) (le : zs.length ≤ sizeLine) (pr : Paired Ent zs ys) (dd : h'.DictOfH (kS X.prog X.w) a ys) (sb : Heap.SameBut a s.heap h') : Inv X pins σ (upd H a (DctO X.prog X.w a zs)) { s with heap := h', toks := tk } := by
  obtain ⟨o, es, ep, oh, ex, od, ee, _, nd⟩ := dd
  exact d_write (t' := tk) J (by rw [ha]; exact True.intro) sb ⟨o, oh⟩ (dctO_new sm le pr ⟨o, es, ep, oh, ex, od, ee, nd⟩)
/-- d[k] = v -/
def rPutS (K : PySem.W.Frag) (P : Program) (w : World) : TSet := fun o i v H Q => ∃ a t k xs, o = .ref a ∧ i = .ref t ∧ H a = some (DctO P w a xs) ∧ (∀ x ∈ xs, SqT K H x.2.1 (x.1.map V.str)) ∧ SqT K H t (k.map V.str) ∧ xs.length < sizeLine ∧ Q (upd H a (DctO P w a (putE xs k t v)))
theorem set_dictS (hu : X.A.units + 1 < cLine) : PSet X (rPutS X.K X.prog X.w) := by
  rintro pins s σ H o i v ov iv u Q J ro ri rv ⟨a, t, k, xs, rfl, rfl, ha, hx, ht, le, q⟩
  cases ro
  cases ri
  obtain ⟨sm, _, ys, pr, dd⟩ := dct_of J ha hx
  refine wpAny_setItem_heap (knd := kS X.prog X.w) (hsz := by rw [ent_len pr]; omega) (show X.A.units + 1 < cLine from hu) (inv_strs J ht).1 dd fun h' dd' sb => ?_
  exact ⟨_, dct_write J ha sm (Nat.le_trans (put_len _ _ _ _) le) (ent_stored rv pr) dd' sb, q⟩
/-- k in d -/
def rInDS (K : PySem.W.Frag) (P : Program) (w : World) (neg : Bool) : R2 := fun x y H Q => ∃ a t k xs, y = .ref a ∧ x = .ref t ∧ H a = some (DctO P w a xs) ∧ (∀ x ∈ xs, SqT K H x.2.1 (x.1.map V.str)) ∧ SqT K H t (k.map V.str) ∧ Q (.bl (if neg = true then !decide (k ∈ xs.map (·.1)) else decide (k ∈ xs.map (·.1)))) H
theorem op_inDS (hu : X.A.units + 1 < cLine) : OpR X (compareOp .In) (rInDS X.K X.prog X.w false) := by
  rintro pins s σ H x y v u Q J rx ry ⟨a, t, k, xs, rfl, rfl, ha, hx, ht, q⟩
  cases rx
  cases ry
  obtain ⟨sm, _, ys, pr, dd⟩ := dct_of J ha hx
  refine wpAny_in_heap (knd := kS X.prog X.w) (show X.A.units + 1 < cLine from hu) (inv_strs J ht).1 sm dd ?_
  rw [atKey_mem, ent_keys pr]
  exact ⟨.bl _, H, J.tok _, rfl, q⟩
theorem op_ninDS (hu : X.A.units + 1 < cLine) : OpR X (compareOp .NotIn) (rInDS X.K X.prog X.w true) := by
  rintro pins s σ H x y v u Q J rx ry ⟨a, t, k, xs, rfl, rfl, ha, hx, ht, q⟩
  cases rx
  cases ry
  obtain ⟨sm, _, ys, pr, dd⟩ := dct_of J ha hx
  refine notIn_keyed (knd := kS X.prog X.w) (show X.A.units + 1 < cLine from hu) (inv_strs J ht).1 sm ⟨ys, dd, rfl⟩ ?_
  rw [valueAt_pairsH, Option.isSome_map, atKey_mem, ent_keys pr]
  exact ⟨.bl _, H, J.tok _, rfl, q⟩
/-- {} and {k: v} -/
def tDNewS (P : Program) (w : World) : TE := fun _ H Q => ∀ p, H p = none → Q (.ref p) (upd H p (DctO P w p []))
theorem dctO_empty {P : Program} {w : World} {H : Hp} (h : Heap) (hb : sysModules < h.objs.size) : ObjOk P w H (h.push { cls := .type "dict", data := .dict #[] }) h.objs.size (DctO P w h.objs.size []) :=
  dctO_new (beq_eq_false_iff_ne.mpr (Ne.symm (Nat.ne_of_lt hb))) (Nat.zero_le _) .nil ⟨_, #[], 0, Heap.get?_push_size _ rfl, ⟨rfl, rfl, rfl⟩, rfl, rfl, List.nodup_nil⟩
theorem pe_dnewS {pos : Pos} : PE X (.Dict [] [] pos) (tDNewS X.prog X.w) := ⟨fun pins s σ H Q J h =>
  wpAny_Dict_empty ⟨.ref s.heap.objs.size, _, J.laid (a := s.heap.objs.size) (o := DctO X.prog X.w s.heap.objs.size []) (t' := s.toks) (fun _ _ q => Heap.get?_push_of_some _ q) (Nat.le_refl _) (dctO_empty s.heap J.big), rfl, h _ (J.hok.fresh (Nat.le_refl _))⟩⟩
def tDOneS (K : PySem.W.Frag) (P : Program) (w : World) (tk tv : TE) : TE := fun σ H Q => ∀ p, H p = none → tk σ (upd H p (DctO P w p [])) fun x H1 => tv σ H1 fun y H2 => H2 p = some (DctO P w p []) ∧ ∃ t k, x = .ref t ∧ SqT K H2 t (k.map V.str) ∧ Q (.ref p) (upd H2 p (DctO P w p [(k, t, y)]))
theorem pe_doneS {ke ve : Expr} {pos : Pos} {tk tv : TE} (hu : X.A.units + 1 < cLine) (hk : PE X ke tk) (hv : PE X ve tv) (shape : (evalEachOpt [some ke] X.env).zip ((evalEach [ve] X.env).map fun v => do let x ← v; standAt pos; pure x) = [(eval ke X.env, do let x ← eval ve X.env; standAt pos; pure x)].map fun p => (some p.1, p.2) := by rfl) : PE X (.Dict [some ke] [ve] pos) (tDOneS X.K X.prog X.w tk tv) := by
  refine ⟨fun pins s σ H Q J q => ?_⟩
  have free := J.hok.fresh (Nat.le_refl s.heap.objs.size)
  have J1 := J.laid (a := s.heap.objs.size) (o := DctO X.prog X.w s.heap.objs.size []) (h' := s.heap.push { cls := .type "dict", data := .dict #[] }) (t' := s.toks) (fun _ _ q => Heap.get?_push_of_some _ q) (Nat.le_refl _) (dctO_empty s.heap J.big)
  rw [arm_eval_Dict, shape]
  rw [dictDisplay_pairs [(eval ke X.env, do let x ← eval ve X.env; standAt pos; pure x)] (by simp) (by show 1 < 17; decide)]
  refine wpAny_bind (wpAny_standAt (wpAny_bind (PySem.wpAny_subDictH (knd := kS X.prog X.w) (show X.A.units < cLine by omega) (show 1 ≤ 15 by decide) ?_)))
  unfold evalPairs
  refine wpAny_bind (thn (hk.run pins _ σ _ _ J1 (q _ free)) fun kv s1 ⟨x, H1, I1, rx, q1⟩ => ?_)
  refine wpAny_bind (wpAny_holding (wpAny_bind (thn (hv.run pins s1 σ H1 _ I1 q1) fun vv s2 ⟨y, H2, I2, ry, q2⟩ => wpAny_bind (wpAny_standAt (wpAny_pure ?_)))))
  unfold evalPairs
  refine wpAny_bind (wpAny_holding (wpAny_pure (wpAny_pure ?_)))
  obtain ⟨at_, t, k, rfl, ht, q⟩ := q2
  cases rx
  obtain ⟨sm, _, ys, pr, dd⟩ := dct_of I2 at_ (fun _ z => nomatch z)
  cases pr
  refine ⟨[(k, t, vv)], ⟨rfl, rfl, (inv_strs I2 ht).1, trivial⟩, dd, fun h' tk' dk sb => wpAny_pure ?_⟩
  exact ⟨.ref s.heap.objs.size, _, dct_write (zs := [(k, t, y)]) I2 at_ sm (show 1 ≤ sizeLine by decide) (.cons ⟨rfl, rfl, ry⟩ .nil) dk sb, rfl, q⟩
end
/-! sorted(d) -/
theorem gather_src {prog : Program} {w : World} {A : Around} {E : Value → Shared → Prop} {s : Shared} {C : String} {r d : Addr} {n : Nat} {Pv : Nat → Value → Prop} {OK : Heap → Prop} {R : List Value → Shared → Prop} (src : PySem.W.KdlSrc prog w C r d n Pv OK) (calm : A.handled = none) (ok : OK s.heap) (le : n ≤ sizeLine)
    (q : ∀ (h' : Heap) (tk : Nat) (acc : Array Value), (∀ b o, s.heap.get? b = some o → h'.get? b = some o) → s.heap.objs.size ≤ h'.objs.size → ItemsOf Pv acc n → R acc.toList { s with heap := h', toks := tk }) :
    wpAny (model prog w) A (collect (.ref r)) R E s := by
  have lt := src.there _ ok
  unfold collect
  refine wpAny_bind (wpAny_runValue (codeAny_builtin entry_proto_collect' ?_))
  rw [Around.under_plainId PySem.F.plain_proto_collect _]
  show wpAny _ A.in1 (newList [] >>= fun l => again (.builtin "list.__iadd__" ⟨[l, .ref r], []⟩)) _ _ s
  refine wpAny_bind (wpAny_newObj_type ?_)
  refine wpAny_pure ⟨plainId_quiet PySem.F.plain_list_iadd _, codeAny_builtin entry_list_iadd' ?_⟩
  rw [Around.under_plainId PySem.F.plain_list_iadd _]
  have at1 : (s.heap.push { cls := .type "list", data := .seq ([] : List Value).toArray }).get? s.heap.objs.size = some { cls := .type "list", data := .seq #[] } := Heap.get?_push_size _ rfl
  show wpAny _ A.in1 (Builtin.List.listExtendWith (.ref s.heap.objs.size) (.ref r) (.ref s.heap.objs.size)) _ _ _
  have run := PySem.W.kdl_extend (A := A) (s := { s with heap := s.heap.push { cls := .type "list", data := .seq ([] : List Value).toArray } })
    (R := fun (z : Result) (t : Shared) => ∃ (g : Heap) (tk : Nat) (acc : Array Value) (c : Nat), z = .ok (.ret (.ref s.heap.objs.size)) ∧ t = { s with heap := g, toks := tk } ∧
      (∀ b o, s.heap.get? b = some o → g.get? b = some o) ∧ g.get? s.heap.objs.size = some { cls := .type "list", dict := none, data := .seq acc c, slots := #[] } ∧ ItemsOf Pv acc n)
    src calm (src.keep _ _ ok fun b _ o e => Heap.get?_push_of_some _ e) s.heap.objs.size (Nat.ne_of_gt lt.1) (Nat.ne_of_gt lt.2) (.ref s.heap.objs.size) 0 at1
    (fun g tk acc c up at_ items => ⟨g, tk, acc, c, rfl, rfl, fun b o e => up b o (Nat.ne_of_lt (Heap.lt_size e)) (Heap.get?_push_of_some _ e), at_, items⟩) le
  refine wpAny_mono run (fun fin t z => ?_) fun e t z => ?_
  · cases fin with
    | done f =>
      obtain ⟨g, tk, acc, c, e, rfl, up, at_, items⟩ := z
      cases e
      show wpAny _ A (load s.heap.objs.size >>= _) _ _ _
      exact wpAny_bind (wpAny_load at_ (wpAny_pure (q g tk acc up (Nat.le_of_lt (Heap.lt_size at_)) items)))
    | again c1 =>
      refine ⟨z.1, codeAny_mono z.2 fun y t2 y2 => ?_⟩
      obtain ⟨g, tk, acc, c, rfl, rfl, up, at_, items⟩ := y2
      show wpAny _ A (load s.heap.objs.size >>= _) _ _ _
      exact wpAny_bind (wpAny_load at_ (wpAny_pure (q g tk acc up (Nat.le_of_lt (Heap.lt_size at_)) items)))
  · obtain ⟨_, _, _, _, e', _⟩ := z
    cases e'
def rSoDS (K : PySem.W.Frag) (P : Program) (w : World) : List V → Hp → VK → Prop := fun vs H Q => ∃ a xs, vs = [V.ref a] ∧ H a = some (DctO P w a xs) ∧ (∀ x ∈ xs, SqT K H x.2.1 (x.1.map V.str)) ∧ ∀ ys p, (xs.map (·.1)).Nodup → H p = none → DtAll K H ys ((srtT (xs.map (·.1))).map tS) → Q (.ref p) (upd H p (.lst ys))
theorem cr_soDS {X : Cx} (calm : X.calm = true) (rm : X.A.units + 8 < cLine) : CallR X (.builtin "sorted") (rSoDS X.K X.prog X.w) := by
  rintro pins s σ H vs us Q J rv ⟨a, xs, rfl, ha, hx, q⟩
  obtain rfl := Vals.ref1 rv
  obtain ⟨sm, le, ys, pr, dd⟩ := dct_of J ha hx
  obtain ⟨o, es, ep, oh, ex, od, ee, his, nd⟩ := dd
  have zs : es.size = xs.length := by rw [size_of_entries ee, ent_len pr]
  have ks := ent_keys pr
  have lk : (xs.map (·.1)).length ≤ sizeLine := by rw [List.length_map]; exact le
  have nd2 : (xs.map (·.1)).Nodup := by rw [← ks]; exact nd
  refine sort_gathered (enc := tS) (ks0 := xs.map (·.1)) (R := TxV X H s) (.inl tS_kind) alike_tS (fun b => Nat.le_trans (depth_tS b) (by decide)) (fun v k r => by obtain ⟨_, _, _, r⟩ := r; exact r) lk rm (fun us pm => srtT_same pm) (fun T go => ?_) ?_
  · refine gather_src (KdlSrc.rawDict (es := es) (ep := ep) sm) (J.ok.hd calm) ⟨o, oh, ex, od⟩ (by rw [zs]; exact le) fun h' tk acc up size items => ?_
    have el : acc.toList = ys.map fun y => Value.ref y.2.1 := by
      have ln : ys.length = es.size := by rw [size_of_entries ee]
      refine items_out (Pv := fun i v => ∃ hi : i < es.size, v = es[i].key) (by rw [List.length_map, ln]; exact items) fun j v ⟨hj, e⟩ => ?_
      have hy : j < ys.length := by omega
      have g := entry_at ee j
      rw [List.getElem?_eq_getElem hy, Array.getElem?_eq_getElem hj] at g
      have g2 := Option.some.inj g
      rw [List.getElem?_map, List.getElem?_eq_getElem hy, e, g2]
      rfl
    have ev : ∀ (xs : List E3) (ys : List R3), Paired Ent xs ys → (∀ x ∈ xs, SqT X.K H x.2.1 (x.1.map V.str)) → EachIs (TxV X H s) (ys.map fun y => Value.ref y.2.1) (xs.map (·.1)) := by
      intro xs ys pr
      induction pr with
      | nil => exact fun _ => .nil
      | @cons x y xs ys r t ih =>
        intro hx
        have h1 := hx x List.mem_cons_self
        refine .cons ⟨x.2.1, by rw [r.2.1], h1, ?_⟩ (ih fun z hz => hx z (List.mem_cons_of_mem _ hz))
        show Reads s.heap (Value.ref y.2.1) (tS x.1) []
        rw [← r.2.1]
        exact (inv_strs J h1).2
    rw [el]
    exact go _ _ _ up size rfl rfl (ev xs ys pr hx) (List.Perm.refl _)
  · intro s' p out c up g1 o1 lp at_ eo
    obtain ⟨ys, a1, a2, a3⟩ := tx_back eo
    have ly : ys.length ≤ sizeLine := by rw [a3, List.length_mergeSort]; exact lk
    exact ⟨.ref p, _, lay_sorted J up g1 o1 lp at_ a1 ly, rfl, q ys p nd2 (J.hok.fresh lp) a2⟩
/-! ### as steps -/
/-- a dict of this kind stands at a -/
def IsDS (c : Md) (H : Hp) (a : Addr) (kvs : List (List Str × V)) : Prop := ∃ xs, H a = some (DctO c.prog c.w a xs) ∧ (∀ x ∈ xs, SqT c.K H x.2.1 (x.1.map V.str)) ∧ kvs = xs.map fun x => (x.1, x.2.2)
def putS (kvs : List (List Str × V)) (k : List Str) (v : V) : List (List Str × V) := if k ∈ kvs.map (·.1) then kvs.map (fun x => if x.1 = k then (x.1, v) else x) else kvs ++ [(k, v)]
theorem putS_E (xs : List E3) (k : List Str) (t : Addr) (v : V) : putS (xs.map fun x => (x.1, x.2.2)) k v = (putE xs k t v).map fun x => (x.1, x.2.2) := by
  have e1 : (xs.map fun x => (x.1, x.2.2)).map (·.1) = xs.map (·.1) := by rw [List.map_map]; rfl
  unfold putS putE
  rw [e1]
  by_cases e : k ∈ xs.map (·.1)
  · rw [if_pos e, if_pos e, List.map_map, List.map_map]
    refine List.map_congr_left fun x _ => ?_
    show (if x.1 = k then (x.1, v) else (x.1, x.2.2)) = (fun x : E3 => (x.1, x.2.2)) (if x.1 = k then (x.1, x.2.1, v) else x)
    split <;> rfl
  · rw [if_neg e, if_neg e, List.map_append]
    rfl
theorem putS_mem {kvs : List (List Str × V)} {k u : List Str} {v : V} : u ∈ (putS kvs k v).map (·.1) ↔ u ∈ kvs.map (·.1) ∨ u = k := by
  unfold putS
  by_cases e : k ∈ kvs.map (·.1)
  · rw [if_pos e, List.map_map]
    have e2 : ((fun x : List Str × V => x.1) ∘ fun x => if x.1 = k then (x.1, v) else x) = fun x : List Str × V => x.1 := by
      funext x
      show (if x.1 = k then (x.1, v) else x).1 = x.1
      split <;> rfl
    rw [e2]
    exact ⟨.inl, fun z => z.elim id fun z => z ▸ e⟩
  · rw [if_neg e, List.map_append, List.mem_append, List.map_cons, List.map_nil, List.mem_singleton]
theorem putS_len (kvs : List (List Str × V)) (k : List Str) (v : V) : (putS kvs k v).length ≤ kvs.length + 1 := by
  unfold putS
  by_cases e : k ∈ kvs.map (·.1)
  · rw [if_pos e, List.length_map]; exact Nat.le_succ _
  · rw [if_neg e, List.length_append, List.length_singleton]; exact Nat.le_refl _
theorem IsDS.kp {c : Md} {H H' : Hp} {m a : Addr} {kvs : List (List Str × V)} (h : IsDS c H a kvs) (k : Kp m H H') (ne : a ≠ m) : IsDS c H' a kvs := by
  obtain ⟨xs, h1, h2, h3⟩ := h
  exact ⟨xs, k.k _ _ ne h1, fun x hx => k.t.sqt (h2 x hx), h3⟩
theorem IsDS.same {c : Md} {H H' : Hp} {a : Addr} {kvs : List (List Str × V)} (h : IsDS c H a kvs) (s : Same H H') : IsDS c H' a kvs := by
  obtain ⟨xs, h1, h2, h3⟩ := h
  exact ⟨xs, s _ _ h1, fun x hx => (tp_same s).sqt (h2 x hx), h3⟩
section
variable {c : Cd} {σ : L2.St} {H : Hp} {Q : VK} {pos : Pos}
theorem e_dict0 (q : ∀ p H1, Same H H1 → H p = none → IsDS c.toMd H1 p [] → Q (.ref p) H1) : RE c (.Dict [] [] pos) σ H Q :=
  re_of (t := tDNewS c.prog c.w) (fun X h => by rw [← h.prog, ← h.w]; exact pe_dnewS) fun p hp => q p _ (same_new hp) hp ⟨[], upd_same, (fun _ z => nomatch z), rfl⟩
theorem rp_ds {a : Addr} {v : V} {x : V} {k : List Str} {kvs : List (List Str × V)} (h : IsDS c.toMd H a kvs) (hk : Dt c.K H x (tS k)) (few : kvs.length < 100000) {R : Hp → Prop} (q : ∀ H1, Kp a H H1 → (∀ H0, Same H0 H → H0 a = none → Same H0 H1) → IsDS c.toMd H1 a (putS kvs k v) → R H1) : RP c (.ref a) x v H R := by
  obtain ⟨xs, h1, h2, rfl⟩ := h
  obtain ⟨t, rfl, ht⟩ := dt_tS hk
  rw [List.length_map] at few
  have kp : Kp a H (upd H a (DctO c.prog c.w a (putE xs k t v))) := kp_upd h1 (fun _ e => nomatch e) (fun _ _ e => nomatch e)
  refine rp_of (r := rPutS c.K c.prog c.w) (fun X h => by rw [← h.K, ← h.prog, ← h.w]; exact set_dictS (by have := h.room.units; omega)) ⟨a, t, k, xs, rfl, rfl, h1, h2, ht, Nat.lt_of_lt_of_le few (by decide), q _ kp (fun H0 s n => same_mut s n) ⟨putE xs k t v, upd_same, fun y hy => kp.t.sqt (put_at ht h2 y hy), putS_E xs k t v⟩⟩
theorem ro_ninDS {a : Addr} {x : V} {k : List Str} {kvs : List (List Str × V)} (h : IsDS c.toMd H a kvs) (hk : Dt c.K H x (tS k)) (q : Q (.bl (!decide (k ∈ kvs.map (·.1)))) H) : RQ c .NotIn x (.ref a) H Q := by
  obtain ⟨xs, h1, h2, rfl⟩ := h
  obtain ⟨t, rfl, ht⟩ := dt_tS hk
  rw [List.map_map] at q
  exact rq_of (r := rInDS c.K c.prog c.w true) (fun X h => by rw [← h.K, ← h.prog, ← h.w]; exact op_ninDS (by have := h.room.units; omega)) ⟨a, t, k, xs, rfl, rfl, h1, h2, ht, q⟩
theorem ro_inDS {a : Addr} {x : V} {k : List Str} {kvs : List (List Str × V)} (h : IsDS c.toMd H a kvs) (hk : Dt c.K H x (tS k)) (q : Q (.bl (decide (k ∈ kvs.map (·.1)))) H) : RQ c .In x (.ref a) H Q := by
  obtain ⟨xs, h1, h2, rfl⟩ := h
  obtain ⟨t, rfl, ht⟩ := dt_tS hk
  rw [List.map_map] at q
  exact rq_of (r := rInDS c.K c.prog c.w false) (fun X h => by rw [← h.K, ← h.prog, ← h.w]; exact op_inDS (by have := h.room.units; omega)) ⟨a, t, k, xs, rfl, rfl, h1, h2, ht, q⟩
theorem rc_sortDS {a : Addr} {kvs : List (List Str × V)} (h : IsDS c.toMd H a kvs) (q : ∀ p ys H1 (us : List (List Str)), Same H H1 → H p = none → H1 p = some (.lst ys) → us.Pairwise (List.Lex lts) → (∀ k, k ∈ us ↔ k ∈ kvs.map (·.1)) → DtAll c.K H1 ys (us.map tS) → Q (.ref p) H1) : RC c (.builtin "sorted") [.ref a] H Q := by
  obtain ⟨xs, h1, h2, rfl⟩ := h
  refine rc_of (r := rSoDS c.K c.prog c.w) (fun X h => by rw [← h.K, ← h.prog, ← h.w]; exact cr_soDS h.calm (by have := h.room.units; omega)) ⟨a, xs, rfl, h1, h2, fun ys p nd hp hy => ?_⟩
  refine q p ys _ (srtT (xs.map (·.1))) (same_new hp) hp upd_same (srtT_asc nd) (fun k => ?_) (hy.mono (tp_same (same_new hp)))
  rw [(srtT_perm _).mem_iff, List.map_map]
  rfl
/-- {k: v} -/
theorem e_dict1 {ke ve : Expr} (q : ∀ p, H p = none → ∀ H0, Same H H0 → H0 p ≠ none → RE c ke σ H0 fun x H1 => RE c ve σ H1 fun y H2 => Same H0 H2 ∧ ∃ k, Dt c.K H2 x (tS k) ∧ ∀ H3, Same H H3 → Tp H2 H3 → IsDS c.toMd H3 p [(k, y)] → Q (.ref p) H3)
    (shape : ∀ env, (evalEachOpt [some ke] env).zip ((evalEach [ve] env).map fun v => do let x ← v; standAt pos; pure x) = [(eval ke env, do let x ← eval ve env; standAt pos; pure x)].map fun p => (some p.1, p.2) := by intro _; rfl) : RE c (.Dict [some ke] [ve] pos) σ H Q := by
  refine re_of (t := tDOneS c.K c.prog c.w (RE c ke) (RE c ve)) (fun X h => by rw [← h.K, ← h.prog, ← h.w]; exact pe_doneS (by have := h.room.units; omega) (pe_re h) (pe_re h) (shape _)) fun p hp => ?_
  have at_ : (upd H p (DctO c.prog c.w p [])) p = some (DctO c.prog c.w p []) := upd_same
  refine RE.mono (fun x H1 z => RE.mono (fun y H2 z => ?_) z) (q p hp _ (same_new hp) (by rw [at_]; exact fun z => nomatch z))
  obtain ⟨s, k, hk, q⟩ := z
  obtain ⟨t, rfl, ht⟩ := dt_tS hk
  have at2 := s _ _ at_
  have kp : Kp p H2 (upd H2 p (DctO c.prog c.w p [(k, t, y)])) := kp_upd at2 (fun _ e => nomatch e) (fun _ _ e => nomatch e)
  refine ⟨at2, t, k, rfl, ht, q _ (same_mut ((same_new hp).trans s) hp) kp.t ⟨[(k, t, y)], upd_same, fun x hx => ?_, rfl⟩⟩
  rw [List.mem_singleton.mp hx]
  exact kp.t.sqt ht
end
end G

namespace G
open PySem PySem.Spec PyProof.Rows L2 SH
theorem eqv_tSs : ∀ a b : List (List Str), PyData.eqvAll (a.map tS) (b.map tS) = decide (a = b)
  | [], [] => rfl
  | [], _ :: _ => rfl
  | _ :: _, [] => rfl
  | x :: a, y :: b => by
    rw [List.map_cons, List.map_cons, PyData.eqvAll, eqv_tSs a b, eqv_tS, Bool.eq_iff_iff, Bool.and_eq_true, decide_eq_true_eq, decide_eq_true_eq, decide_eq_true_eq]
    constructor
    · rintro ⟨rfl, rfl⟩; rfl
    · intro h; injection h with h1 h2; exact ⟨h1, h2⟩
section
variable {c : Cd} {H : Hp} {Q : VK}
/-- != of tuples of such tuples -/
theorem ro_neTSs {x y : V} {a b : List (List Str)} (hx : Dt c.K H x (.tuple (a.map tS))) (hy : Dt c.K H y (.tuple (b.map tS))) (oa : ∀ k ∈ a, OkS k) (ob : ∀ k ∈ b, OkS k) (q : Q (.bl (!decide (a = b))) H) : RQ c .NotEq x y H Q := by
  refine ro_neD hx.dp hy.dp (shaped_tSs oa).1 (shaped_tSs ob).1 ?_
  have e : PyData.eqv (.tuple (a.map tS)) (.tuple (b.map tS)) = decide (a = b) := by rw [PyData.eqv]; exact eqv_tSs a b
  rw [e]
  exact q
/-- == and != of lists of such tuples -/
theorem ro_neLSs {x y : Addr} {us vs : List V} {a b : List (List Str)} (gx : H x = some (.lst us)) (gy : H y = some (.lst vs)) (hx : DtAll c.K H us (a.map tS)) (hy : DtAll c.K H vs (b.map tS)) (oa : ∀ k ∈ a, OkS k) (ob : ∀ k ∈ b, OkS k) (q : Q (.bl (!decide (a = b))) H) : RQ c .NotEq (.ref x) (.ref y) H Q := by
  refine ro_neD (.lst (.of gx) hx.dp) (.lst (.of gy) hy.dp) (shaped_tSs oa).2 (shaped_tSs ob).2 ?_
  have e : PyData.eqv (.list (a.map tS)) (.list (b.map tS)) = decide (a = b) := by rw [PyData.eqv]; exact eqv_tSs a b
  rw [e]
  exact q
theorem ro_eqLSs {x y : Addr} {us vs : List V} {a b : List (List Str)} (gx : H x = some (.lst us)) (gy : H y = some (.lst vs)) (hx : DtAll c.K H us (a.map tS)) (hy : DtAll c.K H vs (b.map tS)) (oa : ∀ k ∈ a, OkS k) (ob : ∀ k ∈ b, OkS k) (q : Q (.bl (decide (a = b))) H) : RQ c .Eq (.ref x) (.ref y) H Q := by
  refine ro_eqD (.lst (.of gx) hx.dp) (.lst (.of gy) hy.dp) (shaped_tSs oa).2 (shaped_tSs ob).2 ?_
  have e : PyData.eqv (.list (a.map tS)) (.list (b.map tS)) = decide (a = b) := by rw [PyData.eqv]; exact eqv_tSs a b
  rw [e]
  exact q
end
end G
namespace K
open PySem PySem.Spec PyProof.Rows L2 G SH
variable {M : Md}
/-! ### does an order keep a pair -/
def spKeep (K : PySem.W.Frag) : Sp := fun vs H Q _ => ∃ vo vq k q, vs = [vo, vq] ∧ PlT K H vo k ∧ Dt K H vq (prS q) ∧ q.1 ∈ k ∧ q.2 ∈ k ∧ ∀ H', Same H H' → Q (.bl (decide (k.idxOf q.1 < k.idxOf q.2))) H'
theorem ok_keeps {f fd} (F : Fun M.K "_law_keeps" "_law_keeps" s__law_keeps f fd) (b : Bl M) : FnG M.prog M.w M.K M.mg M.base CX0 1 f fd ["_law_order", "_law_pair"] (spKeep M.K) := by
  refine fn_ok F sc__law_keeps (fun vs H Q E h => ?_) (fun H vs Q E h => ?_)
  · obtain ⟨_, _, _, _, rfl, _⟩ := h
    rfl
  obtain ⟨vo, vq, k, q, rfl, ho, hq, m1, m2, z⟩ := h
  refine b_one (s_ret ?_)
  refine e_cmp ?_
  refine e_indexT (e_var (by tm_at "at") ⟨k, ho, ?_⟩)
  tm_at "go"
  refine ⟨ho, q.1, rfl, m1, ?_⟩
  refine e_indexT (e_var (by tm_at "at") ⟨k, ho, ?_⟩)
  tm_at "go"
  refine ⟨ho, q.2, rfl, m2, ?_⟩
  tm_at "go"
  have e : decide ((k.idxOf q.1 : Int) < (k.idxOf q.2 : Int)) = decide (k.idxOf q.1 < k.idxOf q.2) := decide_eq_decide.mpr Int.ofNat_lt
  rw [e]
  exact z H (Same.refl _)
abbrev dcKeeps (M : Md) : Prop := Dc M "_law_keeps" ["_law_order", "_law_pair"] 1 (spKeep M.K)
/-! ### the prefixes are the beginnings of orders -/
theorem pfx_nd {ns : List Str} {ps : PL} (O : OgOk ns ps) : (pfx ns ps).Nodup := by
  unfold pfx
  have go : ∀ l : List Nat, l.Nodup → (l.flatMap (lvl ns ps)).Nodup := by
    intro l
    induction l with
    | nil => exact fun _ => List.nodup_nil
    | cons j l ih =>
      intro nd
      obtain ⟨n1, n2⟩ := List.nodup_cons.mp nd
      rw [List.flatMap_cons, List.nodup_append]
      refine ⟨(lvl_asc ns ps j).imp fun {a b} h (e : a = b) => lex_no (by rw [e] at h; exact h), ih n2, fun a ha b hb e => ?_⟩
      obtain ⟨i, hi, hb⟩ := List.mem_flatMap.mp hb
      have l1 := (lev_facts O.asc ((lvl_mem O.asc O.in2).mp ha)).1
      have l2 := (lev_facts O.asc ((lvl_mem O.asc O.in2).mp hb)).1
      rw [e, l2] at l1
      exact n1 (l1 ▸ hi)
  exact go _ List.nodup_range
theorem lo_facts {ns : List Str} {ps : PL} (O : OgOk ns ps) {o : List Str} (h : o ∈ OM.lo ns ps ns.length []) : o.length = ns.length ∧ o.Nodup ∧ (∀ n ∈ o, n ∈ ns) ∧ OM.Way ns ps [] o := by
  obtain ⟨r, e, lr, w⟩ := OM.lo_way.mp h
  rw [List.nil_append] at e
  subst e
  obtain ⟨k1, k2, _⟩ := OM.way_keeps w
  exact ⟨lr, k2, fun n hn => (k1 n hn).1, w⟩
theorem pfx_take {ns row : List Str} {ps : PL} (O : OgOk ns ps) (A : OM.Acy ns ps row) {k : List Str} : k ∈ srtT (pfx ns ps) ↔ ∃ o ∈ OM.lo ns ps ns.length [], ∃ j, j ≤ o.length ∧ k = srtS (o.take j) := by
  rw [(srtT_perm _).mem_iff, pfx_mem O]
  constructor
  · rintro ⟨j, l⟩
    have lj : j ≤ ns.length := by
      obtain ⟨h1, nd, sub, _⟩ := lev_facts O.asc l
      have := nd_len nd sub
      omega
    obtain ⟨o, ho, e⟩ := (OM.lev_take A O.nd lj).mp l
    obtain ⟨l1, nd, sub, _⟩ := lo_facts O ho
    exact ⟨o, ho, j, by omega, by rw [e, srtS_srt O.asc (nd.sublist (List.take_sublist _ _)) fun n hn => sub n (List.mem_of_mem_take hn)]⟩
  · rintro ⟨o, ho, j, lj, rfl⟩
    obtain ⟨l1, nd, sub, _⟩ := lo_facts O ho
    refine ⟨j, (OM.lev_take A O.nd (by omega)).mpr ⟨o, ho, ?_⟩⟩
    rw [srtS_srt O.asc (nd.sublist (List.take_sublist _ _)) fun n hn => sub n (List.mem_of_mem_take hn)]
theorem exs_open {ns : List Str} {ps : PL} (O : OgOk ns ps) {p : List Str} (hp : p ∈ srtT (pfx ns ps)) : ((OM.nxt ns ps p).flatMap fun one => ((OM.nxt ns ps p).filter fun other => decide ((one, other) ∈ opn ns ps)).map fun other => (p, one, other)) = (ltPairs (OM.nxt ns ps p)).map fun q => (p, q.1, q.2) := by
  obtain ⟨_, _, _, j, l⟩ := pfx_p O hp
  have key : ∀ a ∈ OM.nxt ns ps p, ∀ b ∈ OM.nxt ns ps p, decide ((a, b) ∈ opn ns ps) = decide (lts a b) := by
    intro a ha b hb
    refine decide_eq_decide.mpr ?_
    unfold opn
    rw [List.mem_filter, prodL_mem]
    have n1 := OM.nxt_open O.in2 (M := ns) l ha hb
    have n2 := OM.nxt_open O.in2 (M := ns) l hb ha
    constructor
    · rintro ⟨_, h⟩
      rw [Bool.and_eq_true, decide_eq_true_eq] at h
      exact h.1
    · intro h
      refine ⟨⟨(OM.nxt_mem.mp ha).1, (OM.nxt_mem.mp hb).1⟩, ?_⟩
      simp [h, n1, n2]
  unfold ltPairs prodL
  have go : ∀ as : List Str, (∀ a ∈ as, a ∈ OM.nxt ns ps p) → (as.flatMap fun one => ((OM.nxt ns ps p).filter fun other => decide ((one, other) ∈ opn ns ps)).map fun other => (p, one, other)) = ((as.flatMap fun a => (OM.nxt ns ps p).map fun b => (a, b)).filter fun q => decide (lts q.1 q.2)).map fun q => (p, q.1, q.2) := by
    intro as
    induction as with
    | nil => exact fun _ => rfl
    | cons a as ih =>
      intro h
      rw [List.flatMap_cons, List.flatMap_cons, List.filter_append, List.map_append, ih fun x hx => h x (List.mem_cons_of_mem _ hx)]
      congr 1
      rw [List.filter_map, List.map_map]
      have e : (OM.nxt ns ps p).filter (fun other => decide ((a, other) ∈ opn ns ps)) = (OM.nxt ns ps p).filter ((fun q : Str × Str => decide (lts q.1 q.2)) ∘ fun b => (a, b)) := List.filter_congr fun b hb => key a (h a List.mem_cons_self) b hb
      rw [e]
      rfl
  exact go _ fun a ha => ha
theorem alike_ex (a b : List Str × Str × Str) : PySem.W.alike (exD a) (exD b) = true := by
  show PySem.W.alike (.tuple [tS a.1, .str a.2.1, .str a.2.2]) (.tuple [tS b.1, .str b.2.1, .str b.2.2]) = true
  rw [PySem.W.alike, PySem.W.alikeAll, alike_tS, PySem.W.alikeAll, PySem.W.alikeAll]
  rfl
theorem eqv_exs (l : List (List Str × Str × Str)) : PyData.eqv (.list (l.map exD)) (.list (l.map exD)) = true := by
  rw [PyData.eqv]
  refine PySem.W.eqvAll_refl_alike _ ?_
  induction l with
  | nil => rfl
  | cons a l ih => rw [List.map_cons, PySem.W.alikeAll, alike_ex, ih]; rfl
theorem shaped_exs {l : List (List Str × Str × Str)} (o : ∀ e ∈ l, OkS e.1 ∧ PyData.strOk e.2.1 = true ∧ PyData.strOk e.2.2 = true) : SeqAt.shaped (.list (l.map exD)) = true := by
  have a : ∀ l : List (List Str × Str × Str), (∀ e ∈ l, OkS e.1 ∧ PyData.strOk e.2.1 = true ∧ PyData.strOk e.2.2 = true) → PyData.canLayAll0 (l.map exD) = true ∧ PyData.depthAll (l.map exD) ≤ 2 := by
    intro l
    induction l with
    | nil => exact fun _ => ⟨by simp [PyData.canLayAll0], by simp [PyData.depthAll]⟩
    | cons e l ih =>
      intro o
      obtain ⟨h1, h2⟩ := ih fun u hu => o u (List.mem_cons_of_mem _ hu)
      obtain ⟨o1, o2, o3⟩ := o e List.mem_cons_self
      have lt : PyData.canLay0 (tS e.1) = true := by
        show PyData.canLay0 (.tuple _) = true
        simp [PyData.canLay0, lay_strs e.1 o1]
      have dt := depth_tS e.1
      have le : PyData.canLay0 (exD e) = true := by
        show PyData.canLay0 (.tuple [tS e.1, .str e.2.1, .str e.2.2]) = true
        simp [PyData.canLay0, PyData.canLayAll0, lt, o2, o3]
      have de : (exD e).depth ≤ 2 := by
        show (PyData.tuple [tS e.1, .str e.2.1, .str e.2.2]).depth ≤ 2
        simp only [PyData.depth, PyData.depthAll]
        omega
      refine ⟨by simp [PyData.canLayAll0, le, h1], ?_⟩
      rw [List.map_cons, PyData.depthAll]
      omega
  obtain ⟨h1, h2⟩ := a l o
  unfold SeqAt.shaped
  simp [PyData.canLay0, h1, PyData.depth]
  omega
end K

namespace K
open PySem PySem.Spec PyProof.Rows L2 G SH
variable {M : Md}
abbrev dgEx (M : Md) : Prop := DcG M "exchanges_of" ["program"] 6 (spGD rExl M.K)
/-- what three parts of the law are given: the program, its names, its orders -/
def spPr (K : PySem.W.Frag) : Sp := fun vs H Q _ => ∃ vp ln lo us c rr ps more row, vs = [vp, .ref ln, .ref lo] ∧ Dt K H vp (ogD c rr ps more) ∧ H ln = some (.lst ((nmsO rr).map V.str)) ∧ H lo = some (.lst us) ∧ RAll (PlO K) H us (OM.lo (nmsO rr) ps (nmsO rr).length []) ∧ OgOk (nmsO rr) ps ∧ OM.Acy (nmsO rr) ps row ∧ ∀ H', Same H H' → Q (.bl true) H'
theorem gEx1_eq (p : List Str) (a : Str) (f : Str → Bool) : ∀ l : List Str, ((l.map PyData.str).filterMap fun d => match d with | .str b => if f b = true then some (exD (p, a, b)) else none | _ => none) = ((l.filter f).map fun b => (p, a, b)).map exD
  | [] => rfl
  | b :: l => by
    rw [List.map_cons, List.filterMap_cons, List.filter_cons, gEx1_eq p a f l]
    by_cases h : f b = true
    · simp only [h, if_true]
      rfl
    · simp only [h, if_false]
      rfl
theorem exs_few {ns : List Str} {ps : PL} (O : OgOk ns ps) : (exs ns ps).length ≤ 1500 := by
  have h := exs_part O (srtT (pfx ns ps))
  have h2 := pfx_len O
  rw [(srtT_perm _).length_eq] at h
  unfold exs
  omega
theorem ok_prefR {f fd} (F : Fun M.K "_law_prefixes_right" "_law_prefixes_right" s__law_prefixes_right f fd) (b : Bl M) (dp : dcPfx M) (dn : dcNext M) (dopn : dcOpn M) (dg : dgEx M) : FnG M.prog M.w M.K M.mg M.base CX0 10 f fd ["_law_place", "_law_names", "_law_orders"] (spPr M.K) := by
  refine fn_ok F sc__law_prefixes_right (fun vs H Q E h => ?_) (fun H vs Q E h => ?_)
  · obtain ⟨_, _, _, _, _, _, _, _, _, rfl, _⟩ := h
    rfl
  obtain ⟨vp, ln, lo, us, c, rr, ps, more, row, rfl, hp, gn, go, ho, O, A, q⟩ := h
  have fw := O.few
  have nl : (nmsO rr).length = rr.length := List.length_map ..
  have lo5 := lo_few5 O
  have lu := ho.len
  -- the two that grow
  refine b_cut (fun σ1 H1 => ∃ ld lf : Addr, ld ≠ lf ∧ H ld = none ∧ H lf = none ∧ σ1 = [some vp, some (.ref ln), some (.ref lo), some (.ref ld), some (.ref lf), none, none, none, none, none, none, none] ∧ Same H H1 ∧ IsDS M H1 ld [] ∧ H1 lf = some (.lst [])) ?_ ?_
  · refine s_par2 (by tm_at "at") (by tm_at "at") ?_
    refine e_dict0 fun ld H1 s1 n1 d1 => ?_
    refine e_lst (a_nil ⟨Nat.zero_le _, fun lf nf => ?_⟩)
    have ne : ld ≠ lf := fun e => by
      obtain ⟨xs, g, _⟩ := d1
      rw [e, nf] at g
      cases g
    refine ⟨ld, lf, ne, n1, ?_, rfl, s1.trans (same_new nf), d1.same (same_new nf), upd_same⟩
    cases z : H lf with
    | none => rfl
    | some o => rw [s1 _ _ z] at nf; cases nf
  rintro _ H1 ⟨ld, lf, ne, nd0, nf0, rfl, s1, d1, g1⟩
  refine b_cut (fun σ1 H2 => ∃ (kvs : List (List Str × V)) (w5 w6 : Option V), σ1 = [some vp, some (.ref ln), some (.ref lo), some (.ref ld), some (.ref lf), w5, w6, none, none, none, none, none] ∧ Same H H2 ∧ IsDS M H2 ld kvs ∧ H2 lf = some (.lst []) ∧ ∀ u, u ∈ kvs.map (·.1) ↔ u ∈ srtT (pfx (nmsO rr) ps)) ?_ ?_
  · refine s_forL (e_var (by tm_at "at") ⟨lo, us, rfl, .of (s1 _ _ go), fun i σ' H' => ∃ (kvs : List (List Str × V)) (w5 w6 : Option V), σ' = [some vp, some (.ref ln), some (.ref lo), some (.ref ld), some (.ref lf), w5, w6, none, none, none, none, none] ∧ Same H H' ∧ IsDS M H' ld kvs ∧ H' lf = some (.lst []) ∧ kvs.length ≤ 6 * i ∧ ∀ u, u ∈ kvs.map (·.1) ↔ ∃ o ∈ (OM.lo (nmsO rr) ps (nmsO rr).length []).take i, ∃ j, j ≤ o.length ∧ u = srtS (o.take j),
      ⟨[], none, none, rfl, s1, d1, g1, Nat.zero_le _, fun u => ⟨(fun z => nomatch z), fun ⟨_, z, _⟩ => by rw [List.take_zero] at z; cases z⟩⟩, ?_, ?_, ?_⟩)
    · rintro i σ' H' _ ⟨kvs, w5, w6, rfl, s, _⟩
      exact .of (s _ _ go)
    · rintro i x σ' H' hx ⟨kvs, w5, w6, rfl, s, d, g, lk, mem⟩
      obtain ⟨o, hoi, hxo⟩ := ho.getV hx
      have hi := (List.getElem?_eq_some_iff.mp hx).1
      obtain ⟨lo_, _, _, _⟩ := lo_facts O (List.mem_of_getElem? hoi)
      have hxo2 := (kPlO.k (tp_same s) hxo).1
      refine g_name (by tm_at "at") ?_
      refine b_one (s_forR1 b.range ?_)
      tm_at "go"
      refine rc_lenT (ds := o.map .str) hxo2 ?_
      tm_at "go"
      rw [List.length_map]
      refine ⟨by omega, by omega, fun j σ' H2 => ∃ (kvs : List (List Str × V)) (w6 : Option V), σ' = [some vp, some (.ref ln), some (.ref lo), some (.ref ld), some (.ref lf), some x, w6, none, none, none, none, none] ∧ Same H H2 ∧ IsDS M H2 ld kvs ∧ H2 lf = some (.lst []) ∧ kvs.length ≤ 6 * i + j ∧ ∀ u, u ∈ kvs.map (·.1) ↔ (∃ o ∈ (OM.lo (nmsO rr) ps (nmsO rr).length []).take i, ∃ j, j ≤ o.length ∧ u = srtS (o.take j)) ∨ ∃ t, t < j ∧ u = srtS (o.take t),
        ⟨kvs, _, rfl, s, d, g, by omega, fun u => by rw [mem]; exact ⟨.inl, fun z => z.elim id fun ⟨_, z, _⟩ => absurd z (Nat.not_lt_zero _)⟩⟩, ?_, ?_⟩
      · rintro j σ2 H2 hj ⟨kvs2, v6, rfl, s2, d2, g2, lk2, mem2⟩
        refine g_name (by tm_at "at") ?_
        refine b_one (s_asg (e_bl ?_))
        refine g_sub (e_var (by tm_at "at") ?_)
        tm_at "go"
        refine rsl_tup (ds := o.map .str) (kPlO.k (tp_same s2) hxo).1 fun w H3 s3 h3 => ?_
        have e1 : cutD (o.map PyData.str) none (some (j : Int)) = (o.take j).map .str := by rw [cutD_to, List.map_take]
        rw [e1] at h3
        obtain ⟨t, rfl, ht⟩ := dt_tS (k := o.take j) h3
        tm_at "go"
        refine rc_sortS1 (.inr ht) fun p9 hp9 => ?_
        tm_at "go"
        refine rc_tupL (.of upd_same) (all_strs _) fun v7 H7 s7 h7 => ?_
        have s37 := s3.trans ((same_new hp9).trans s7)
        have d7 : IsDS M H7 ld kvs2 := d2.same s37
        have few2 : kvs2.length < 100000 := by omega
        refine rp_ds (c := { toMd := M, N := N__law_prefixes_right, sc := defScope s__law_prefixes_right, k := 9, top := true, g := false, ev := none }) (k := srtS (o.take j)) (kvs := kvs2) d7 h7 few2 fun H8 k8 up8 d8 => ?_
        refine ⟨putS kvs2 (srtS (o.take j)) (.bl true), _, rfl, up8 H (s2.trans s37) nd0, d8, k8.k _ _ (Ne.symm ne) (s37 _ _ g2), by have := putS_len kvs2 (srtS (o.take j)) (.bl true); omega, fun u => ?_⟩
        rw [putS_mem, mem2]
        constructor
        · rintro ((z | ⟨t, lt, e⟩) | e)
          · exact .inl z
          · exact .inr ⟨t, by omega, e⟩
          · exact .inr ⟨j, by omega, e⟩
        · rintro (z | ⟨t, lt, e⟩)
          · exact .inl (.inl z)
          · rcases Nat.lt_or_ge t j with y | y
            · exact .inl (.inr ⟨t, y, e⟩)
            · rw [show t = j by omega] at e
              exact .inr e
      · rintro σ2 H2 ⟨kvs2, v6, rfl, s2, d2, g2, lk2, mem2⟩
        rw [show ((o.length : Int) + 1).toNat = o.length + 1 by omega] at lk2 mem2
        refine ⟨kvs2, _, _, rfl, s2, d2, g2, by omega, fun u => ?_⟩
        have e1 : (OM.lo (nmsO rr) ps (nmsO rr).length []).take (i + 1) = (OM.lo (nmsO rr) ps (nmsO rr).length []).take i ++ [o] := by
          obtain ⟨g1, g2⟩ := List.getElem?_eq_some_iff.mp hoi
          rw [List.take_succ_eq_append_getElem g1, g2]
        rw [mem2, e1]
        constructor
        · rintro (⟨r, hr, j, hj, e⟩ | ⟨t, lt, e⟩)
          · exact ⟨r, List.mem_append_left _ hr, j, hj, e⟩
          · exact ⟨o, List.mem_append_right _ (List.mem_singleton.mpr rfl), t, by omega, e⟩
        · rintro ⟨r, hr, j, hj, e⟩
          rcases List.mem_append.mp hr with hr | hr
          · exact .inl ⟨r, hr, j, hj, e⟩
          · rw [List.mem_singleton] at hr
            subst hr
            exact .inr ⟨j, by omega, e⟩
    · rintro σ' H' ⟨kvs, w5, w6, rfl, s, d, g, lk, mem⟩
      rw [lu, List.take_length] at mem
      exact ⟨kvs, w5, w6, rfl, s, d, g, fun u => by rw [mem, pfx_take O A]⟩
  rintro _ H2 ⟨kvs, w5, w6, rfl, s2, d2, g2, mem⟩
  have okp : ∀ k ∈ srtT (pfx (nmsO rr) ps), OkS k := fun k hk x hx => O.ok _ ((pfx_p O hk).2.2.1 x hx)
  have hp2 := hp.mono (tp_same s2)
  refine b_cut (fun σ1 H3 => Same H2 H3 ∧ σ1 = [some vp, some (.ref ln), some (.ref lo), some (.ref ld), some (.ref lf), w5, w6, none, none, none, none, none]) ?_ ?_
  · refine s_if (t_cmp ?_)
    refine e_callF dp ?_
    tm_at "go"
    refine ⟨_, _, .cons hp2 .nil, ⟨c, rr, ps, more, rfl, O, rfl⟩, fun v3 H3 s3 h3 => ?_⟩
    tm_at "go"
    refine rc_sortDS (d2.same s3) fun p4 ys H4 vs4 s4 n4 g4 asc4 mem4 h4 => ?_
    have e4 : vs4 = srtT (pfx (nmsO rr) ps) := asc_uniq asc4 (srtT_asc (pfx_nd O)) fun k => by rw [mem4, mem]
    subst e4
    tm_at "go"
    refine rc_tupL (.of g4) h4 fun v5 H5 s5 h5 => ?_
    refine ro_neTSs (h3.mono (tp_same (s4.trans s5))) h5 okp okp ?_
    refine ⟨_, rfl, ?_⟩
    rw [decide_eq_true rfl]
    tm_at "go"
    exact ⟨s3.trans (s4.trans s5), rfl⟩
  rintro _ H3 ⟨s3, rfl⟩
  refine b_cut (fun σ1 H4 => ∃ v7, Same H3 H4 ∧ σ1 = [some vp, some (.ref ln), some (.ref lo), some (.ref ld), some (.ref lf), w5, w6, some v7, none, none, none, none] ∧ Dt M.K H4 v7 (pairsD (opn (nmsO rr) ps))) ?_ ?_
  · refine s_set (by tm_at "at") ?_
    refine e_callF dopn ?_
    tm_at "go"
    exact ⟨_, _, .cons (hp2.mono (tp_same s3)) .nil, ⟨c, rr, ps, more, rfl, O, rfl⟩, fun v H4 s4 h4 => ⟨v, s4, rfl, h4⟩⟩
  rintro _ H4 ⟨v7, s4, rfl, h7⟩
  have s24 := s3.trans s4
  have hp4 := hp2.mono (tp_same s24)
  have g4 := s24 _ _ g2
  have s04 := s2.trans s24
  have pl := pfx_len O
  refine b_cut (fun σ1 H5 => ∃ (zs : List V) (u8 u9 u10 u11 : Option V), Same H H5 ∧ σ1 = [some vp, some (.ref ln), some (.ref lo), some (.ref ld), some (.ref lf), w5, w6, some v7, u8, u9, u10, u11] ∧ H5 lf = some (.lst zs) ∧ DtAll M.K H5 zs ((exs (nmsO rr) ps).map exD)) ?_ ?_
  · refine s_forT ?_
    refine e_callF dp ?_
    tm_at "go"
    refine ⟨_, _, .cons hp4 .nil, ⟨c, rr, ps, more, rfl, O, rfl⟩, fun v5 H5 s5 h5 => ?_⟩
    obtain ⟨a, xs, rfl, ht, hd⟩ := Dt.tupE (show Dt M.K H5 v5 (.tuple _) from h5)
    have lx := hd.len
    rw [List.length_map, (srtT_perm _).length_eq] at lx
    refine ⟨a, xs, rfl, ht, fun i σ' H' => ∃ (zs : List V) (u8 u9 u10 u11 : Option V), Same H H' ∧ Kp lf H5 H' ∧ σ' = [some vp, some (.ref ln), some (.ref lo), some (.ref ld), some (.ref lf), w5, w6, some v7, u8, u9, u10, u11] ∧ H' lf = some (.lst zs) ∧ DtAll M.K H' zs ((((srtT (pfx (nmsO rr) ps)).take i).flatMap fun p => (ltPairs (OM.nxt (nmsO rr) ps p)).map fun q => (p, q.1, q.2)).map exD),
      ⟨[], none, none, none, none, s04.trans s5, Kp.refl _ _, rfl, s5 _ _ g4, .nil⟩, ?_, ?_, ?_⟩
    · rintro i σ' H' _ ⟨zs, u8, u9, u10, u11, s, kp, rfl, _⟩
      exact kp.t.sqt ht
    · rintro i x σ' H' hx ⟨zs, u8, u9, u10, u11, s, kp, rfl, g, hz⟩
      obtain ⟨d, hdi, hx'⟩ := hd.getV hx
      rw [List.getElem?_map] at hdi
      obtain ⟨p, hpi, rfl⟩ := Option.map_eq_some_iff.mp hdi
      have hi := (List.getElem?_eq_some_iff.mp hx).1
      have pin := List.mem_of_getElem? hpi
      obtain ⟨lp5, _, subp, _⟩ := pfx_p O pin
      have e1 : (srtT (pfx (nmsO rr) ps)).take (i + 1) = (srtT (pfx (nmsO rr) ps)).take i ++ [p] := by
        obtain ⟨g1, g2⟩ := List.getElem?_eq_some_iff.mp hpi
        rw [List.take_succ_eq_append_getElem g1, g2]
      have hx2 := hx'.mono kp.t
      have hp5 := hp.mono (tp_same s)
      have h75 := (h7.mono (tp_same s5)).mono kp.t
      have bnd := exs_part O ((srtT (pfx (nmsO rr) ps)).take i)
      have bnd3 : ((srtT (pfx (nmsO rr) ps)).take i).length ≤ 60 := by rw [List.length_take]; omega
      have lz := hz.len
      rw [List.length_map] at lz
      refine g_name (by tm_at "at") ?_
      refine b_cut (fun σ1 H6 => ∃ (an : Addr) (u10 u11 : Option V), σ1 = [some vp, some (.ref ln), some (.ref lo), some (.ref ld), some (.ref lf), w5, w6, some v7, some x, some (.ref an), u10, u11] ∧ Same H' H6 ∧ SqT M.K H6 an ((OM.nxt (nmsO rr) ps p).map V.str)) ?_ ?_
      · refine s_set (by tm_at "at") ?_
        refine e_callF dn ?_
        tm_at "go"
        refine ⟨_, _, .cons hp5 (.cons hx2 .nil), ⟨c, rr, ps, more, p, rfl, by omega, O.pl, rfl⟩, fun w H6 s6 h6 => ?_⟩
        obtain ⟨an, rfl, hn⟩ := dt_tS h6
        exact ⟨an, _, _, rfl, s6, hn⟩
      rintro _ H6 ⟨an, t10, t11, rfl, s6, hn⟩
      refine b_one (s_forT (e_var (by tm_at "at") ⟨an, _, rfl, hn, fun j σ' H7 => ∃ (zs2 : List V) (u10 u11 : Option V), Same H H7 ∧ Kp lf H6 H7 ∧ σ' = [some vp, some (.ref ln), some (.ref lo), some (.ref ld), some (.ref lf), w5, w6, some v7, some x, some (.ref an), u10, u11] ∧ H7 lf = some (.lst zs2) ∧
          DtAll M.K H7 zs2 (((((srtT (pfx (nmsO rr) ps)).take i).flatMap fun p => (ltPairs (OM.nxt (nmsO rr) ps p)).map fun q => (p, q.1, q.2)) ++ ((OM.nxt (nmsO rr) ps p).take j).flatMap fun one => ((OM.nxt (nmsO rr) ps p).filter fun other => decide ((one, other) ∈ opn (nmsO rr) ps)).map fun other => (p, one, other)).map exD) ∧ zs2.length ≤ zs.length + 5 * j,
        ⟨zs, _, _, s.trans s6, Kp.refl _ _, rfl, s6 _ _ g, by simpa using hz.mono (tp_same s6), Nat.le_refl _⟩, ?_, ?_, ?_⟩))
      · rintro j σ' H7 _ ⟨zs2, v10, v11, s7, k7, rfl, _⟩
        exact k7.t.sqt hn
      · rintro j y σ' H7 hy ⟨zs2, v10, v11, s7, k7, rfl, gz, hz2, lz2⟩
        rw [List.getElem?_map] at hy
        obtain ⟨one, hone, rfl⟩ := Option.map_eq_some_iff.mp hy
        have oin := (OM.nxt_mem.mp (List.mem_of_getElem? hone)).1
        have hj := (List.getElem?_eq_some_iff.mp hone).1
        have nf5 := nxt_few O p
        refine g_name (by tm_at "at") ?_
        refine b_one (s_expr (e_ext (e_var (by tm_at "at") ⟨lf, zs2, rfl, gz, ?_⟩)))
        refine e_lc (own := [("_law_other", 11)]) (Blk.of (N := N__law_prefixes_right) (sc := defScope s__law_prefixes_right) rfl rfl (by decide +kernel)) ?_
        refine lcT_F (fun d => match d with | .str b => if decide ((one, b) ∈ opn (nmsO rr) ps) = true then some (exD (p, one, b)) else none | _ => none) ?_
        have hn7 := k7.t.sqt hn
        refine e_var (by tm_at "at") ⟨(OM.nxt (nmsO rr) ps p).map .str, .tup hn7 (all_strs _), by rw [List.length_map]; omega, fun d z H8 hd8 s8 hz8 => ?_, fun p9 us9 H9 s9 n9 g9 h9 => ?_⟩
        · obtain ⟨other, hot, rfl⟩ := List.mem_map.mp hd8
          cases hz8
          have otin := (OM.nxt_mem.mp hot).1
          refine g_name (by tm_at "at") ⟨rfl, rfl, ts_one ?_⟩
          tm_at "go"
          refine e_tupD ?_
          tm_at "go"
          refine ⟨[.str one, .str other], .cons (.str _) (.cons (.str _) .nil), (show 2 ≤ 1000 by decide), fun v10 H10 s10 h10 => ?_⟩
          tm_at "go"
          have oko : ∀ r ∈ opn (nmsO rr) ps, OkS (pr2 r) := fun r hr => by
            obtain ⟨z1, _⟩ := List.mem_filter.mp hr
            obtain ⟨m1, m2⟩ := prodL_mem.mp z1
            exact O.okp m1 m2
          have h7b := ((h75.mono (tp_same s6)).mono k7.t).mono (tp_same (s8.trans s10))
          refine ro_inTP (p := (one, other)) h10 h7b (O.okp oin otin) oko ?_
          tm_at "go"
          refine ⟨s10, ifb (fun c1 => ?_) (fun c1 => ?_)⟩
          · refine e_tupD ?_
            tm_at "go"
            exact ⟨[tS p, .str one, .str other], .cons (((hx2.mono (tp_same s6)).mono k7.t).mono (tp_same (s8.trans s10))) (.cons (.str _) (.cons (.str _) .nil)), (show 3 ≤ 1000 by decide), fun v12 H12 s12 h12 => ⟨s12, _, (show (if decide ((one, other) ∈ opn (nmsO rr) ps) = true then some (exD (p, one, other)) else none) = _ from if_pos c1), h12⟩⟩
          · exact (show (if decide ((one, other) ∈ opn (nmsO rr) ps) = true then some (exD (p, one, other)) else none) = _ from if_neg (by rw [c1]; exact Bool.false_ne_true))
        · rw [gEx1_eq p one (fun b => decide ((one, b) ∈ opn (nmsO rr) ps))] at h9
          have g9z := s9 _ _ gz
          have l9 := h9.len
          rw [List.length_map, List.length_map] at l9
          have lf9 := List.length_filter_le (fun b => decide ((one, b) ∈ opn (nmsO rr) ps)) (OM.nxt (nmsO rr) ps p)
          refine ⟨p9, zs2, us9, rfl, g9z, g9, by omega, ?_⟩
          have k9 := kp_upd (o' := .lst (zs2 ++ us9)) g9z (fun _ e => nomatch e) (fun _ _ e => nomatch e)
          have e2 : (OM.nxt (nmsO rr) ps p).take (j + 1) = (OM.nxt (nmsO rr) ps p).take j ++ [one] := by
            obtain ⟨g1, g2⟩ := List.getElem?_eq_some_iff.mp hone
            rw [List.take_succ_eq_append_getElem g1, g2]
          refine ⟨zs2 ++ us9, _, _, same_mut (s7.trans s9) nf0, (k7.trans (kp_same s9)).trans k9, rfl, upd_same, ?_, by rw [List.length_append]; omega⟩
          rw [e2, List.flatMap_append, ← List.append_assoc, List.map_append, List.flatMap_cons, List.flatMap_nil, List.append_nil]
          exact ((hz2.mono (tp_same s9)).mono k9.t).app (h9.mono k9.t)
      · rintro σ' H7 ⟨zs2, v10, v11, s7, k7, rfl, gz, hz2, lz2⟩
        rw [List.length_map, List.take_length, exs_open O pin] at hz2
        refine ⟨zs2, _, _, _, _, s7, (kp.trans (kp_same s6)).trans k7, rfl, gz, ?_⟩
        rw [e1, List.flatMap_append, List.flatMap_cons, List.flatMap_nil, List.append_nil]
        exact hz2
    · rintro σ' H' ⟨zs, u8, u9, u10, u11, s, kp, rfl, g, hz⟩
      rw [lx, List.take_of_length_le (by rw [(srtT_perm _).length_eq]; exact Nat.le_refl _)] at hz
      exact ⟨zs, _, _, _, _, s, rfl, g, hz⟩
  rintro _ H5 ⟨zs, u8, u9, u10, u11, s5, rfl, g5, hz⟩
  have oke : ∀ e ∈ exs (nmsO rr) ps, OkS e.1 ∧ PyData.strOk e.2.1 = true ∧ PyData.strOk e.2.2 = true := by
    intro e he
    unfold exs at he
    obtain ⟨p, hp, he⟩ := List.mem_flatMap.mp he
    obtain ⟨r, hr, rfl⟩ := List.mem_map.mp he
    obtain ⟨z1, _⟩ := List.mem_filter.mp hr
    obtain ⟨m1, m2⟩ := prodL_mem.mp z1
    exact ⟨okp p hp, O.ok _ (OM.nxt_mem.mp m1).1, O.ok _ (OM.nxt_mem.mp m2).1⟩
  refine b_one (s_ret (e_cmp ?_))
  refine e_listG dg b.list ?_
  tm_at "go"
  refine ⟨vp, _, _, rfl, hp.mono (tp_same s5), ⟨c, rr, ps, more, rfl, O, rfl⟩, by rw [List.length_map]; have := exs_few O; omega, fun out H6 s6 h6 p6 n6 => ?_⟩
  tm_at "go"
  have s67 := same_new (o := .lst out) n6
  refine ro_eqD (d := .list ((exs (nmsO rr) ps).map exD)) (e := .list ((exs (nmsO rr) ps).map exD)) (.lst (.of upd_same) (h6.mono (tp_same s67)).dp) (.lst (.of ((s6.trans s67) _ _ g5)) (hz.mono (tp_same (s6.trans s67))).dp) (shaped_exs oke) (shaped_exs oke) ?_
  rw [eqv_exs]
  exact q _ (s5.trans (s6.trans s67))
abbrev dcPrefR (M : Md) : Prop := Dc M "_law_prefixes_right" ["_law_place", "_law_names", "_law_orders"] 10 (spPr M.K)
end K

namespace K
open PySem PySem.Spec PyProof.Rows L2 G SH
variable {M : Md}
/-! ### one more pair -/
theorem lo_fac_le {ns : List Str} {ps : PL} (hn : ns.Nodup) : ∀ (k : Nat) (p : List Str), p.Nodup → (∀ n ∈ p, n ∈ ns) → p.length + k = ns.length → (OM.lo ns ps k p).length ≤ OM.fac k
  | 0, p, _, _, _ => Nat.le_refl _
  | k + 1, p, nd, sub, hl => by
    have room := nxt_room (ps := ps) hn nd sub
    show ((OM.nxt ns ps p).flatMap fun n => OM.lo ns ps k (p ++ [n])).length ≤ OM.fac k * (k + 1)
    rw [flat_sum, Nat.mul_comm]
    refine Nat.le_trans (sum_le_mul _ (OM.fac k) _ fun n hm => ?_) (Nat.mul_le_mul_right _ (by omega))
    obtain ⟨h1, h2, _⟩ := OM.nxt_mem.mp hm
    refine lo_fac_le hn k (p ++ [n]) ?_ (fun m hm => ?_) (by rw [List.length_append, List.length_singleton]; omega)
    · rw [List.nodup_append]
      refine ⟨nd, List.nodup_cons.mpr ⟨(fun z => nomatch z), List.nodup_nil⟩, fun a ha b hb e => ?_⟩
      rw [List.mem_singleton] at hb
      subst hb
      exact h2 (e ▸ ha)
    · rcases List.mem_append.mp hm with hm | hm
      · exact sub m hm
      · rw [List.mem_singleton.mp hm]
        exact h1
theorem lo_120 {ns : List Str} {ps : PL} (O : OgOk ns ps) : (OM.lo ns ps ns.length []).length ≤ 120 := by
  refine Nat.le_trans (lo_fac_le O.nd ns.length [] List.nodup_nil (fun _ z => nomatch z) (by simp)) ?_
  have h : ∀ n, n ≤ 5 → OM.fac n ≤ 120 := by decide
  exact h _ O.few
def kpB (q : Str × Str) (o : List Str) : Bool := decide (o.idxOf q.1 < o.idxOf q.2)
theorem some_filter {α : Type} (f : α → Bool) : ∀ l : List α, (l.filterMap fun o => if f o = true then some o else none) = l.filter f
  | [] => rfl
  | o :: l => by
    rw [List.filterMap_cons, List.filter_cons, some_filter f l]
    by_cases h : f o = true
    · simp only [h, if_true]
    · simp only [h, if_false]
      rfl
theorem ogk_more {ns : List Str} {ps cs : PL} (O : OgOk ns ps) {q : Str × Str} (h1 : q.1 ∈ ns) (h2 : q.2 ∈ ns) (mem : ∀ r, r ∈ cs ↔ r ∈ ps ∨ r = q) (few : cs.length ≤ 40) : OgOk ns cs where
  asc := O.asc
  few := O.few
  ok := O.ok
  pl := few
  in2 := fun r hr => by
    rcases (mem r).mp hr with h | rfl
    · exact O.in2 r h
    · exact ⟨h1, h2⟩
theorem pairs_few {ns : List Str} {ps cs : PL} (O : OgOk ns ps) {q : Str × Str} (h1 : q.1 ∈ ns) (h2 : q.2 ∈ ns) (mem : ∀ r, r ∈ cs ↔ r ∈ ps ∨ r = q) (nd : cs.Nodup) : cs.length ≤ 25 := by
  have h : cs.length ≤ (prodL ns).length := nd_len nd fun r hr => by
    refine prodL_mem.mpr ?_
    rcases (mem r).mp hr with h | rfl
    · exact O.in2 r h
    · exact ⟨h1, h2⟩
  rw [prodL_len] at h
  exact Nat.le_trans h (Nat.mul_le_mul O.few O.few)
/-- an order in which a pair stands -/
theorem lo_kp {ns : List Str} {ps : PL} (O : OgOk ns ps) {q : Str × Str} (h1 : q.1 ∈ ns) (h2 : q.2 ∈ ns) {o : List Str} (ho : o ∈ OM.lo ns ps ns.length []) : q.1 ∈ o ∧ q.2 ∈ o ∧ o ≠ [] := by
  obtain ⟨_, h, _⟩ := (OM.lo_iff O.nd O.in2).mp ho
  have m1 := h _ h1
  exact ⟨m1, h _ h2, fun e => by rw [e] at m1; cases m1⟩
theorem lo_closed {ns : List Str} {ps : PL} (O : OgOk ns ps) {q : Str × Str} (c : OM.Con ps ns q.1 q.2) {o : List Str} (ho : o ∈ OM.lo ns ps ns.length []) : kpB q o = true := by
  obtain ⟨_, nd, _, w⟩ := lo_facts O ho
  obtain ⟨_, h, _⟩ := (OM.lo_iff O.nd O.in2).mp ho
  exact decide_eq_true ((OM.ahead_iff nd (h _ (OM.con_in O.in2 c).2)).mp fun x y e => OM.con_keeps c w x y e)
theorem none_kept {ns : List Str} {ps : PL} (O : OgOk ns ps) {q : Str × Str} (c : OM.Con ps ns q.1 q.2) : (OM.lo ns ps ns.length []).filter (fun o => !kpB q o) = [] :=
  List.filter_eq_nil_iff.mpr fun o ho => by rw [lo_closed O c ho]; exact Bool.false_ne_true
theorem lo_same {ns : List Str} {ps cs : PL} (O : OgOk ns ps) {q : Str × Str} (c : OM.Con ps ns q.1 q.2) (mem : ∀ r, r ∈ cs ↔ r ∈ ps ∨ r = q) : OM.lo ns cs ns.length [] = OM.lo ns ps ns.length [] := by
  have e := OM.lo_filter (ps := ps) (qs := cs) (fun _ => true) (fun r => by rw [OM.way_closed mem c]; exact ⟨fun h => ⟨h, rfl⟩, fun h => h.1⟩) O.asc (fun a b h1 h2 => lex_asym h1 h2) ns.length
  exact e.trans (List.filter_eq_self.mpr fun _ _ => rfl)
theorem clo_same {ns : List Str} {ps cs : PL} (O : OgOk ns ps) (O2 : OgOk ns cs) {q : Str × Str} (c : OM.Con ps ns q.1 q.2) (mem : ∀ r, r ∈ cs ↔ r ∈ ps ∨ r = q) : clo ns cs = clo ns ps :=
  pairs_eq (asc_filter (prodL_asc O.asc)) (asc_filter (prodL_asc O.asc)) fun r => by
    rw [clo_mem O.in2, clo_mem O2.in2]
    exact OM.con_closed O.in2 mem c
theorem lo_kept {ns : List Str} {ps cs : PL} (O : OgOk ns ps) {q : Str × Str} (h1 : q.1 ∈ ns) (h2 : q.2 ∈ ns) (mem : ∀ r, r ∈ cs ↔ r ∈ ps ∨ r = q) : OM.lo ns cs ns.length [] = (OM.lo ns ps ns.length []).filter (kpB q) := by
  have O2 : OM.In2 ns cs := fun r hr => by
    rcases (mem r).mp hr with h | rfl
    · exact O.in2 r h
    · exact ⟨h1, h2⟩
  have e : ∀ o, o ∈ OM.lo ns cs ns.length [] ↔ o ∈ (OM.lo ns ps ns.length []).filter (kpB q) := by
    intro o
    rw [List.mem_filter, OM.lo_iff O.nd O2, OM.lo_iff O.nd O.in2]
    constructor
    · rintro ⟨a, b, c⟩
      exact ⟨⟨a, b, fun r hr => c r ((mem r).mpr (.inl hr))⟩, decide_eq_true (c q ((mem q).mpr (.inr rfl)))⟩
    · rintro ⟨⟨a, b, c⟩, d⟩
      refine ⟨a, b, fun r hr => ?_⟩
      rcases (mem r).mp hr with h | rfl
      · exact c r h
      · exact of_decide_eq_true d
  exact asc_uniq (OM.lo_pw O.asc _ _) ((OM.lo_pw O.asc _ _).sublist List.filter_sublist) e
theorem srtT_pairs {ps : PL} {q : Str × Str} : ∃ cs : PL, srtT ((ps ++ [q]).map pr2) = cs.map pr2 ∧ (∀ r, r ∈ cs ↔ r ∈ ps ∨ r = q) ∧ cs.length = ps.length + 1 := by
  have h : ∀ k, k ∈ srtT ((ps ++ [q]).map pr2) → ∃ r, k = pr2 r := fun k hk => by
    obtain ⟨r, _, rfl⟩ := List.mem_map.mp ((srtT_perm _).mem_iff.mp hk)
    exact ⟨r, rfl⟩
  have all : ∀ l : List (List Str), (∀ k ∈ l, ∃ r, k = pr2 r) → ∃ cs : PL, l = cs.map pr2 := by
    intro l
    induction l with
    | nil => intro _; exact ⟨[], rfl⟩
    | cons k l ih =>
      intro z
      obtain ⟨cs, rfl⟩ := ih fun k hk => z k (List.mem_cons_of_mem _ hk)
      obtain ⟨r, rfl⟩ := z k (List.mem_cons_self ..)
      exact ⟨r :: cs, rfl⟩
  obtain ⟨cs, e⟩ := all _ h
  refine ⟨cs, e, fun r => ?_, ?_⟩
  · have m : pr2 r ∈ cs.map pr2 ↔ pr2 r ∈ (ps ++ [q]).map pr2 := by rw [← e]; exact (srtT_perm _).mem_iff
    have inj : ∀ l : PL, pr2 r ∈ l.map pr2 ↔ r ∈ l := fun l => ⟨fun z => by
      obtain ⟨y, hy, e⟩ := List.mem_map.mp z
      rw [← pr2_inj e]
      exact hy, fun z => List.mem_map.mpr ⟨r, z, rfl⟩⟩
    rw [inj, inj, List.mem_append, List.mem_singleton] at m
    exact m
  · have l := (srtT_perm ((ps ++ [q]).map pr2)).length_eq
    rw [e, List.length_map, List.length_map, List.length_append, List.length_singleton] at l
    exact l
def gSS (f : Str → Bool) (d : PyData) : Option PyData := match d with
  | .str x => if f x = true then some (.str x) else none
  | _ => none
theorem gSS_yes {f : Str → Bool} {x : Str} (h : f x = true) : gSS f (.str x) = some (.str x) := if_pos h
theorem gSS_no {f : Str → Bool} {x : Str} (h : f x = false) : gSS f (.str x) = none := if_neg (by rw [h]; exact Bool.false_ne_true)
theorem gSS_none {f : Str → Bool} : ∀ {l : List Str}, (∀ x ∈ l, f x = false) → (l.map PyData.str).filterMap (gSS f) = []
  | [], _ => rfl
  | x :: l, h => by
    rw [List.map_cons, List.filterMap_cons, gSS_no (h x (List.mem_cons_self ..))]
    exact gSS_none fun y hy => h y (List.mem_cons_of_mem _ hy)
end K

namespace K
open PySem PySem.Spec PyProof.Rows L2 G SH
variable {M : Md}
abbrev dgLo (M : Md) : Prop := DcG M "legal_orders" ["program"] 3 (spLo M.K)
/-- what the part about the closure is given -/
def spClR (K : PySem.W.Frag) : Sp := fun vs H Q _ => ∃ vp ln lo us c rr ps m, vs = [vp, .ref ln, .ref lo] ∧ Dt K H vp (ogD c rr ps [m]) ∧ H ln = some (.lst ((nmsO rr).map V.str)) ∧ H lo = some (.lst us) ∧ RAll (PlO K) H us (OM.lo (nmsO rr) ps (nmsO rr).length []) ∧ OgOk (nmsO rr) ps ∧ ps.length ≤ 25 ∧ ∀ H', Same H H' → Q (.bl true) H'
theorem ok_cloR {f fd} (F : Fun M.K "_law_closure_right" "_law_closure_right" s__law_closure_right f fd) (b : Bl M) (dcl : dcClosed M) (dk : dcKeeps M) (dib : Dc M "is_before" ["program", "rule", "other"] 3 (spF rBefore M.K)) (dopn : dcOpn M) (dlo : dgLo M) : FnG M.prog M.w M.K M.mg M.base CX0 10 f fd ["_law_place", "_law_names", "_law_orders"] (spClR M.K) := by
  refine fn_ok F sc__law_closure_right (fun vs H Q E h => ?_) (fun H vs Q E h => ?_)
  · obtain ⟨_, _, _, _, _, _, _, _, rfl, _⟩ := h
    rfl
  obtain ⟨vp, ln, lo, us, c, rr, ps, m, rfl, hp, gn, go, ho, O, pl, q⟩ := h
  have fw := O.few
  have nl : (nmsO rr).length = rr.length := List.length_map ..
  have lo5 := lo_120 O
  have lu := ho.len
  have okc : ∀ r ∈ clo (nmsO rr) ps, OkS (pr2 r) := fun r hr => O.okp (OM.con_in O.in2 ((clo_mem O.in2).mp hr)).1 (OM.con_in O.in2 ((clo_mem O.in2).mp hr)).2
  refine b_cut (fun σ1 H1 => ∃ vc, σ1 = [some vp, some (.ref ln), some (.ref lo), some vc, none, none, none, none, none] ∧ Same H H1 ∧ Dt M.K H1 vc (pairsD (clo (nmsO rr) ps))) ?_ ?_
  · refine s_set (by tm_at "at") ?_
    refine e_callF dcl ?_
    tm_at "go"
    exact ⟨_, _, .cons hp .nil, ⟨c, rr, ps, [m], rfl, O, rfl⟩, fun v H1 s1 h1 => ⟨v, rfl, s1, h1⟩⟩
  rintro _ H1 ⟨vc, rfl, s1, h1⟩
  obtain ⟨tc, xs, rfl, htc, hdc⟩ := Dt.tupE (show Dt M.K H1 vc (.tuple _) from h1)
  refine b_cut (fun σ1 H2 => ∃ w4 w5, σ1 = [some vp, some (.ref ln), some (.ref lo), some (.ref tc), w4, w5, none, none, none] ∧ Same H1 H2) ?_ ?_
  · refine s_forT (e_var (by tm_at "at") ?_)
    refine ⟨tc, xs, rfl, htc, fun i σ' H' => ∃ w4 w5, σ' = [some vp, some (.ref ln), some (.ref lo), some (.ref tc), w4, w5, none, none, none] ∧ Same H1 H', ⟨none, none, rfl, Same.refl _⟩, ?_, ?_, ?_⟩
    · rintro i σ' H' _ ⟨w4, w5, rfl, s⟩
      exact (tp_same s).sqt htc
    · rintro i x σ' H' hx ⟨w4, w5, rfl, s⟩
      obtain ⟨d, hdi, hx'⟩ := hdc.getV hx
      rw [List.getElem?_map] at hdi
      obtain ⟨r, hqi, rfl⟩ := Option.map_eq_some_iff.mp hdi
      have con := (clo_mem O.in2).mp (List.mem_of_getElem? hqi)
      obtain ⟨m1, m2⟩ := OM.con_in O.in2 con
      refine g_unp2 (by tm_at "at") (by tm_at "at") (hx'.mono (tp_same s)) fun v1 v2 e1 e2 => ?_
      cases e1
      cases e2
      have s0 := s1.trans s
      refine b_cut (fun σ1 H3 => σ1 = [some vp, some (.ref ln), some (.ref lo), some (.ref tc), some (.str r.1), some (.str r.2), none, none, none] ∧ Same H' H3) ?_ ?_
      · refine s_if (t_w (w_or (t_cmp ?_)))
        refine e_lc (own := [("_law_order", 8)]) (Blk.of (N := N__law_closure_right) (sc := defScope s__law_closure_right) rfl rfl (by decide +kernel)) ?_
        refine lcL_R (R := PlO M.K) (S := PlO M.K) kPlO kPlO (fun o => if (!kpB r o) = true then some o else none) (e_var (by tm_at "at") ⟨lo, us, _, rfl, .of (s0 _ _ go), ho.mono kPlO (tp_same s0), by omega, fun o x4 H4 ho4 s4 hx4 => ?_, fun p zs H4 s4 n4 g4 h4 => ?_⟩)
        · obtain ⟨k1, k2, kne⟩ := lo_kp O m1 m2 ho4
          refine g_name (by tm_at "at") ⟨rfl, rfl, ts_one ?_⟩
          refine t_not (t_val (e_call dk ?_))
          tm_at "go"
          refine e_tupD ?_
          tm_at "go"
          refine ⟨[.str r.1, .str r.2], .cons (.str _) (.cons (.str _) .nil), (show 2 ≤ 1000 by decide), fun v5 H5 s5 h5 => ?_⟩
          tm_at "go"
          refine ⟨_, _, o, r, rfl, (hx4.2 kne).mono (tp_same s5), h5, k1, k2, fun H6 s6 => ?_⟩
          refine ⟨_, rfl, s5.trans s6, ?_⟩
          refine ifb (fun c1 => ?_) (fun c1 => ?_)
          · tm_at "go"
            exact ⟨Same.refl _, o, (show (if (!kpB r o) = true then some o else none) = _ from if_pos c1), kPlO.k (tp_same (s5.trans s6)) hx4⟩
          · exact (show (if (!kpB r o) = true then some o else none) = _ from if_neg (by rw [show (!kpB r o) = false from c1]; exact Bool.false_ne_true))
        · rw [some_filter, none_kept O con] at h4
          cases h4
          refine e_lst (a_nil ⟨Nat.zero_le _, fun pe ne => ?_⟩)
          refine ro_neLSs (a := []) (b := []) (same_new ne _ _ g4) upd_same .nil .nil (fun _ z => nomatch z) (fun _ z => nomatch z) ?_
          refine ⟨_, rfl, ?_⟩
          rw [decide_eq_true rfl]
          have s5 := s4.trans (same_new (o := .lst []) ne)
          refine w_or1 (t_not (t_val (e_callF dib ?_)))
          tm_at "go"
          refine ⟨_, _, .cons ((hp.mono (tp_same s0)).mono (tp_same s5)) (.cons (.str _) (.cons (.str _) .nil)), ⟨c, rr, ps, [m], r.1, r.2, rfl, O, m1, m2, rfl⟩, fun v6 H6 s6 h6 => ?_⟩
          rw [decide_eq_true con] at h6
          cases h6
          refine ⟨_, rfl, ?_⟩
          tm_at "go"
          exact ⟨rfl, s5.trans s6⟩
      rintro _ H3 ⟨rfl, s3⟩
      have s03 := s0.trans s3
      refine b_one (s_if (t_cmp ?_))
      refine e_lc (own := [("_law_late", 6)]) (Blk.of (N := N__law_closure_right) (sc := defScope s__law_closure_right) rfl rfl (by decide +kernel)) ?_
      have gno : ∀ x, (decide ((r.2, x) ∈ clo (nmsO rr) ps) && !decide ((r.1, x) ∈ clo (nmsO rr) ps)) = false := fun x => by
        by_cases z1 : (r.2, x) ∈ clo (nmsO rr) ps
        · rw [decide_eq_true ((clo_mem O.in2 (q := (r.1, x))).mpr (OM.con_trans O.in2 con ((clo_mem O.in2).mp z1))), Bool.not_true, Bool.and_false]
        · rw [decide_eq_false z1, Bool.false_and]
      refine lcL_F (gSS fun x => decide ((r.2, x) ∈ clo (nmsO rr) ps) && !decide ((r.1, x) ∈ clo (nmsO rr) ps)) (e_var (by tm_at "at") ⟨ln, _, (nmsO rr).map .str, rfl, .of (s03 _ _ gn), all_strs _, by rw [List.length_map]; omega, fun d x4 H4 hd4 s4 hx4 => ?_, fun p zs H4 s4 n4 g4 h4 => ?_⟩)
      · obtain ⟨x, hxin, rfl⟩ := List.mem_map.mp hd4
        cases hx4
        have hc4 : ∀ {H5}, Same H4 H5 → Dt M.K H5 (.ref tc) (.tuple ((clo (nmsO rr) ps).map prS)) := fun s5 => (h1.mono (tp_same (s.trans s3))).mono (tp_same (s4.trans s5))
        refine g_name (by tm_at "at") ⟨rfl, rfl, ts_one ?_⟩
        refine t_w (w_and (t_cmp ?_))
        refine e_tupD ?_
        tm_at "go"
        refine ⟨[.str r.2, .str x], .cons (.str _) (.cons (.str _) .nil), (show 2 ≤ 1000 by decide), fun v5 H5 s5 h5 => ?_⟩
        tm_at "go"
        refine ro_inTP (p := (r.2, x)) h5 (hc4 s5) (O.okp m2 hxin) okc ?_
        refine ⟨_, rfl, ?_⟩
        refine ifb (fun c1 => ?_) (fun c1 => ?_)
        · refine w_and1 (t_cmp ?_)
          refine e_tupD ?_
          tm_at "go"
          refine ⟨[.str r.1, .str x], .cons (.str _) (.cons (.str _) .nil), (show 2 ≤ 1000 by decide), fun v6 H6 s6 h6 => ?_⟩
          tm_at "go"
          refine ro_ninTP (p := (r.1, x)) h6 (hc4 (s5.trans s6)) (O.okp m1 hxin) okc ?_
          have e := of_decide_eq_true c1
          have e2 : (r.1, x) ∈ clo (nmsO rr) ps := (clo_mem O.in2).mpr (OM.con_trans O.in2 con ((clo_mem O.in2).mp e))
          refine ⟨_, rfl, s5.trans s6, ?_⟩
          rw [decide_eq_true e2]
          exact gSS_no (gno x)
        · exact ⟨s5, gSS_no (gno x)⟩
      · rw [gSS_none fun x _ => gno x] at h4
        cases h4
        refine e_lst (a_nil ⟨Nat.zero_le _, fun pe ne => ?_⟩)
        refine ro_neLSs (a := []) (b := []) (same_new ne _ _ g4) upd_same .nil .nil (fun _ z => nomatch z) (fun _ z => nomatch z) ?_
        refine ⟨_, rfl, ?_⟩
        rw [decide_eq_true rfl]
        tm_at "go"
        exact ⟨_, _, rfl, s.trans (s3.trans (s4.trans (same_new ne)))⟩
    · rintro σ' H' ⟨w4, w5, rfl, s⟩
      exact ⟨w4, w5, rfl, s⟩
  rintro _ H2 ⟨w4, w5, rfl, s2⟩
  have s02 := s1.trans s2
  have h2 := h1.mono (tp_same s2)
  have cut2 : cutD [c, .tuple (rr.map rrD), pairsD ps, m] none (some 2) = [c, .tuple (rr.map rrD)] := by
    rw [show (2 : Int) = ((2 : Nat) : Int) from rfl, cutD_to]
    rfl
  refine b_cut (fun σ1 H3 => ∃ w6 w7, σ1 = [some vp, some (.ref ln), some (.ref lo), some (.ref tc), w4, w5, w6, w7, none] ∧ Same H2 H3) ?_ ?_
  · refine s_forT ?_
    tm_at "go"
    refine rsl_tup h2 fun v3 H3 s3 h3 => ?_
    rw [show (2 : Int) = ((2 : Nat) : Int) from rfl, cutD_to] at h3
    obtain ⟨td, yd, rfl, htd, hdd⟩ := Dt.tupE h3
    refine ⟨td, yd, rfl, htd, fun i σ' H' => ∃ w6 w7, σ' = [some vp, some (.ref ln), some (.ref lo), some (.ref tc), w4, w5, w6, w7, none] ∧ Same H3 H', ⟨none, none, rfl, Same.refl _⟩, ?_, ?_, ?_⟩
    · rintro i σ' H' _ ⟨w6, w7, rfl, s⟩
      exact (tp_same s).sqt htd
    · rintro i x σ' H' hx ⟨w6, w7, rfl, s⟩
      obtain ⟨d, hdi, hx'⟩ := hdd.getV hx
      obtain ⟨r, hr, rfl⟩ := List.mem_map.mp (List.mem_of_mem_take (List.mem_of_getElem? hdi))
      have con := (clo_mem O.in2).mp hr
      obtain ⟨m1, m2⟩ := OM.con_in O.in2 con
      have s23 := s3.trans s
      have s0 := s02.trans s23
      have hp0 := hp.mono (tp_same s0)
      refine g_name (by tm_at "at") ?_
      refine b_cut (fun σ1 H4 => ∃ v6 cs, σ1 = [some vp, some (.ref ln), some (.ref lo), some (.ref tc), w4, w5, some v6, some x, none] ∧ Same H' H4 ∧ Dt M.K H4 v6 (ogD c rr cs [m]) ∧ (∀ q, q ∈ cs ↔ q ∈ ps ∨ q = r) ∧ cs.Nodup) ?_ ?_
      · refine s_set (by tm_at "at") ?_
        tm_at "go"
        refine rsl_tup hp0 fun v3 H4 s4 h4 => ?_
        rw [cut2] at h4
        tm_at "go"
        refine e_tupD ?_
        tm_at "go"
        refine e_callT (T := "set") b.set (by decide +kernel) ?_
        tm_at "go"
        refine rx_tup (ds := [c, .tuple (rr.map rrD), pairsD ps, m]) (d := pairsD ps) (hp0.mono (tp_same s4)) (pl_at (j := 2) rfl rfl) fun v5 h5 => ?_
        tm_at "go"
        refine e_tupD ?_
        tm_at "go"
        refine ⟨[prS r], .cons ((hx'.mono (tp_same s)).mono (tp_same s4)) .nil, (show 1 ≤ 1000 by decide), fun v6 H6 s6 h6 => ?_⟩
        tm_at "go"
        refine ro_catT (h5.mono (tp_same s6)) h6 (by rw [List.length_map]; exact Nat.le_trans (Nat.add_le_add_right pl 1) (by decide)) fun v7 H7 s7 h7 => ?_
        tm_at "go"
        obtain ⟨t7, x7, rfl, ht7, hd7⟩ := Dt.tupE h7
        have e7 : ps.map prS ++ [prS r] = ((ps ++ [r]).map pr2).map tS := by rw [← prs_tS, List.map_append]; rfl
        rw [e7] at hd7
        refine rc_setST (.inr ht7) hd7 (by rw [List.length_map, List.length_append, List.length_singleton]; omega) fun p8 H8 s8 n8 i8 => ?_
        tm_at "go"
        refine rc_sortST i8 fun p9 y9 H9 u9 s9 n9 g9 asc9 mem9 h9 => ?_
        obtain ⟨cs, rfl, asc, mem⟩ := asc_pairs (R := fun q => q ∈ ps ∨ q = r) asc9 fun k => by
          rw [mem9, List.mem_map]
          constructor
          · rintro ⟨q, hq, rfl⟩
            rw [List.mem_append, List.mem_singleton] at hq
            exact ⟨q, hq, rfl⟩
          · rintro ⟨q, hq, rfl⟩
            exact ⟨q, by rw [List.mem_append, List.mem_singleton]; exact hq, rfl⟩
        tm_at "go"
        refine rc_tupL (.of g9) h9 fun v10 H10 s10 h10 => ?_
        tm_at "go"
        have s410 := s6.trans (s7.trans (s8.trans (s9.trans s10)))
        refine rx_tup (ds := [c, .tuple (rr.map rrD), pairsD ps, m]) (d := m) (hp0.mono (tp_same (s4.trans s410))) (pl_at (j := 3) rfl rfl) fun v11 h11 => ?_
        tm_at "go"
        rw [← prs_tS] at h10
        refine ⟨[pairsD cs, m], .cons h10 (.cons h11 .nil), (show 2 ≤ 1000 by decide), fun v12 H12 s12 h12 => ?_⟩
        tm_at "go"
        refine ro_catT (h4.mono (tp_same (s410.trans s12))) h12 (show 2 + 2 ≤ 100000 by decide) fun v13 H13 s13 h13 => ?_
        exact ⟨v13, cs, rfl, s4.trans (s410.trans (s12.trans s13)), h13, mem, pairs_nd asc⟩
      rintro _ H4 ⟨v6, cs, rfl, s4, h6, mem, ndc⟩
      have O2 := ogk_more O m1 m2 mem (Nat.le_trans (pairs_few O m1 m2 mem ndc) (by decide))
      have okl : ∀ k ∈ OM.lo (nmsO rr) ps (nmsO rr).length [], OkS k := fun k hk n hn => O.ok _ ((lo_facts O hk).2.2.1 n hn)
      refine b_one (s_if (t_w (w_or (t_cmp ?_))))
      refine e_listG dlo b.list ?_
      tm_at "go"
      refine ⟨v6, c, rr, cs, [m], rfl, h6, O2, fun out H5 s5 h5 p5 n5 => ?_⟩
      tm_at "go"
      have s56 := same_new (o := .lst out) n5
      rw [lo_same O con mem] at h5
      have s06 := s0.trans (s4.trans (s5.trans s56))
      refine ro_neLSs upd_same (s06 _ _ go) ((RAll.dts (g := tS) (fun v a h => h.1) h5).mono (tp_same s56)) ((RAll.dts (g := tS) (fun v a h => h.1) ho).mono (tp_same s06)) okl okl ?_
      refine ⟨_, rfl, ?_⟩
      rw [decide_eq_true rfl]
      refine w_or1 (t_cmp ?_)
      refine e_callF dcl ?_
      tm_at "go"
      refine ⟨_, _, .cons (h6.mono (tp_same (s5.trans s56))) .nil, ⟨c, rr, cs, [m], rfl, O2, rfl⟩, fun v7 H7 s7 h7 => ?_⟩
      tm_at "go"
      rw [clo_same O O2 con mem] at h7
      have okp : ∀ k ∈ (clo (nmsO rr) ps).map pr2, OkS k := fun k hk => by
        obtain ⟨r, hr, rfl⟩ := List.mem_map.mp hk
        exact okc r hr
      have e7 : pairsD (clo (nmsO rr) ps) = .tuple (((clo (nmsO rr) ps).map pr2).map tS) := by rw [← prs_tS]; rfl
      rw [e7] at h7
      refine ro_neTSs h7 (show Dt M.K _ _ (.tuple (((clo (nmsO rr) ps).map pr2).map tS)) by rw [← e7]; exact h2.mono (tp_same (s23.trans (s4.trans (s5.trans (s56.trans s7)))))) okp okp ?_
      refine ⟨_, rfl, ?_⟩
      rw [decide_eq_true rfl]
      tm_at "go"
      exact ⟨_, _, rfl, s.trans (s4.trans (s5.trans (s56.trans s7)))⟩
    · rintro σ' H' ⟨w6, w7, rfl, s⟩
      exact ⟨w6, w7, rfl, s3.trans s⟩
  rintro _ H3 ⟨w6, w7, rfl, s3⟩
  have s03 := s02.trans s3
  have okl : ∀ k ∈ OM.lo (nmsO rr) ps (nmsO rr).length [], OkS k := fun k hk n hn => O.ok _ ((lo_facts O hk).2.2.1 n hn)
  refine b_cut (fun σ1 H4 => ∃ w4 w5 w6 w7, σ1 = [some vp, some (.ref ln), some (.ref lo), some (.ref tc), w4, w5, w6, w7, none] ∧ Same H H4) ?_ ?_
  · refine s_forT ?_
    tm_at "go"
    refine e_callF dopn ?_
    tm_at "go"
    refine ⟨_, _, .cons (hp.mono (tp_same s03)) .nil, ⟨c, rr, ps, [m], rfl, O, rfl⟩, fun v4 H4 s4 h4 => ?_⟩
    tm_at "go"
    refine rsl_tup (ds := (opn (nmsO rr) ps).map prS) h4 fun v5 H5 s5 h5 => ?_
    rw [show (3 : Int) = ((3 : Nat) : Int) from rfl, cutD_to] at h5
    obtain ⟨td, yd, rfl, htd, hdd⟩ := Dt.tupE h5
    have s05 := s03.trans (s4.trans s5)
    refine ⟨td, yd, rfl, htd, fun i σ' H' => ∃ w4 w5 w6 w7, σ' = [some vp, some (.ref ln), some (.ref lo), some (.ref tc), w4, w5, w6, w7, none] ∧ Same H5 H', ⟨w4, w5, w6, w7, rfl, Same.refl _⟩, ?_, ?_, ?_⟩
    · rintro i σ' H' _ ⟨w4, w5, w6, w7, rfl, s⟩
      exact (tp_same s).sqt htd
    · rintro i x σ' H' hx ⟨w4, w5, w6, w7, rfl, s⟩
      obtain ⟨d, hdi, hx'⟩ := hdd.getV hx
      obtain ⟨r, hr, rfl⟩ := List.mem_map.mp (List.mem_of_mem_take (List.mem_of_getElem? hdi))
      obtain ⟨m1, m2⟩ := prodL_mem.mp (List.mem_filter.mp hr).1
      refine g_unp2 (by tm_at "at") (by tm_at "at") (hx'.mono (tp_same s)) fun v1 v2 e1 e2 => ?_
      cases e1
      cases e2
      refine b_one (s_forT ?_)
      refine e_tupD ?_
      tm_at "go"
      refine e_tupD ?_
      tm_at "go"
      refine ⟨[.str r.1, .str r.2], .cons (.str _) (.cons (.str _) .nil), (show 2 ≤ 1000 by decide), fun v6 H6 s6 h6 => ?_⟩
      tm_at "go"
      refine e_tupD ?_
      tm_at "go"
      refine ⟨[.str r.2, .str r.1], .cons (.str _) (.cons (.str _) .nil), (show 2 ≤ 1000 by decide), fun v7 H7 s7 h7 => ?_⟩
      tm_at "go"
      refine ⟨[prS r, prS (r.2, r.1)], .cons (h6.mono (tp_same s7)) (.cons h7 .nil), (show 2 ≤ 1000 by decide), fun v8 H8 s8 h8 => ?_⟩
      obtain ⟨te, ye, rfl, hte, hde⟩ := Dt.tupE h8
      have s58 := s.trans (s6.trans (s7.trans s8))
      refine ⟨te, ye, rfl, hte, fun j σ' H9 => ∃ w6 w7, σ' = [some vp, some (.ref ln), some (.ref lo), some (.ref tc), some (.str r.1), some (.str r.2), w6, w7, none] ∧ Same H8 H9, ⟨_, _, rfl, Same.refl _⟩, ?_, ?_, ?_⟩
      · rintro j σ' H9 _ ⟨w6, w7, rfl, s9⟩
        exact (tp_same s9).sqt hte
      · rintro j y σ' H9 hy ⟨w6, w7, rfl, s9⟩
        obtain ⟨d, hdj, hy'⟩ := hde.getV hy
        obtain ⟨q, rfl, k1, k2⟩ : ∃ q : Str × Str, d = prS q ∧ q.1 ∈ nmsO rr ∧ q.2 ∈ nmsO rr := by
          have hd := List.mem_of_getElem? hdj
          rcases List.mem_cons.mp hd with rfl | hd
          · exact ⟨r, rfl, m1, m2⟩
          · rw [List.mem_singleton] at hd
            exact ⟨(r.2, r.1), hd, m2, m1⟩
        have s0 := s05.trans (s58.trans s9)
        have hp0 := hp.mono (tp_same s0)
        have hy0 := hy'.mono (tp_same s9)
        refine g_name (by tm_at "at") ?_
        refine b_cut (fun σ1 H4 => ∃ v6 cs, σ1 = [some vp, some (.ref ln), some (.ref lo), some (.ref tc), some (.str r.1), some (.str r.2), some v6, some y, none] ∧ Same H9 H4 ∧ Dt M.K H4 v6 (ogD c rr cs [m]) ∧ (∀ r, r ∈ cs ↔ r ∈ ps ∨ r = q) ∧ cs.length ≤ 40) ?_ ?_
        · refine s_set (by tm_at "at") ?_
          tm_at "go"
          refine rsl_tup hp0 fun v3 H4 s4 h4 => ?_
          rw [cut2] at h4
          tm_at "go"
          refine e_tupD ?_
          tm_at "go"
          refine rx_tup (ds := [c, .tuple (rr.map rrD), pairsD ps, m]) (d := pairsD ps) (hp0.mono (tp_same s4)) (pl_at (j := 2) rfl rfl) fun v5 h5 => ?_
          tm_at "go"
          refine e_tupD ?_
          tm_at "go"
          refine ⟨[prS q], .cons (hy0.mono (tp_same s4)) .nil, (show 1 ≤ 1000 by decide), fun v6 H6 s6 h6 => ?_⟩
          tm_at "go"
          refine ro_catT (h5.mono (tp_same s6)) h6 (by rw [List.length_map]; exact Nat.le_trans (Nat.add_le_add_right pl 1) (by decide)) fun v7 H7 s7 h7 => ?_
          tm_at "go"
          obtain ⟨t7, x7, rfl, ht7, hd7⟩ := Dt.tupE h7
          have e7 : ps.map prS ++ [prS q] = ((ps ++ [q]).map pr2).map tS := by rw [← prs_tS, List.map_append]; rfl
          rw [e7] at hd7
          refine rc_sortT (.inr ht7) hd7 fun p9 y9 H8 s8 n9 g9 h9 => ?_
          obtain ⟨cs, e9, mem, lc⟩ := srtT_pairs (ps := ps) (q := q)
          rw [e9, ← prs_tS] at h9
          tm_at "go"
          refine rc_tupL (.of g9) h9 fun v10 H10 s10 h10 => ?_
          tm_at "go"
          have s410 := s6.trans (s7.trans (s8.trans s10))
          refine rx_tup (ds := [c, .tuple (rr.map rrD), pairsD ps, m]) (d := m) (hp0.mono (tp_same (s4.trans s410))) (pl_at (j := 3) rfl rfl) fun v11 h11 => ?_
          tm_at "go"
          refine ⟨[pairsD cs, m], .cons h10 (.cons h11 .nil), (show 2 ≤ 1000 by decide), fun v12 H12 s12 h12 => ?_⟩
          tm_at "go"
          refine ro_catT (h4.mono (tp_same (s410.trans s12))) h12 (show 2 + 2 ≤ 100000 by decide) fun v13 H13 s13 h13 => ?_
          exact ⟨v13, cs, rfl, s4.trans (s410.trans (s12.trans s13)), h13, mem, by omega⟩
        rintro _ H4 ⟨v6, cs, rfl, s4, h6, mem, lcs⟩
        have O2 := ogk_more O k1 k2 mem lcs
        refine b_one (s_if (t_cmp ?_))
        refine e_listG dlo b.list ?_
        tm_at "go"
        refine ⟨v6, c, rr, cs, [m], rfl, h6, O2, fun out H5 s5 h5 p5 n5 => ?_⟩
        have s56 := same_new (o := .lst out) n5
        have s06 := s0.trans (s4.trans (s5.trans s56))
        rw [lo_kept O k1 k2 mem] at h5
        refine e_lc (own := [("_law_order", 8)]) (Blk.of (N := N__law_closure_right) (sc := defScope s__law_closure_right) rfl rfl (by decide +kernel)) ?_
        refine lcL_R (R := PlO M.K) (S := PlO M.K) kPlO kPlO (fun o => if (kpB q o) = true then some o else none) (e_var (by tm_at "at") ⟨lo, us, _, rfl, .of (s06 _ _ go), ho.mono kPlO (tp_same s06), by omega, fun o x4 H7 ho4 s7 hx4 => ?_, fun p zs H7 s7 n7 g7 h7 => ?_⟩)
        · obtain ⟨j1, j2, kne⟩ := lo_kp O k1 k2 ho4
          refine g_name (by tm_at "at") ⟨rfl, rfl, ts_one ?_⟩
          refine t_val (e_call dk ?_)
          tm_at "go"
          refine ⟨_, _, o, q, rfl, hx4.2 kne, hy0.mono (tp_same (s4.trans (s5.trans (s56.trans s7)))), j1, j2, fun H8 s8 => ?_⟩
          refine ⟨_, rfl, s8, ?_⟩
          refine ifb (fun c1 => ?_) (fun c1 => ?_)
          · tm_at "go"
            exact ⟨Same.refl _, o, (show (if (kpB q o) = true then some o else none) = _ from if_pos c1), kPlO.k (tp_same s8) hx4⟩
          · exact (show (if (kpB q o) = true then some o else none) = _ from if_neg (by rw [show (kpB q o) = false from c1]; exact Bool.false_ne_true))
        · rw [some_filter] at h7
          have okf : ∀ k ∈ (OM.lo (nmsO rr) ps (nmsO rr).length []).filter (kpB q), OkS k := fun k hk => okl k (List.mem_filter.mp hk).1
          refine ro_neLSs (s7 _ _ upd_same) g7 ((RAll.dts (g := tS) (fun v a h => h.1) h5).mono (tp_same (s56.trans s7))) (RAll.dts (g := tS) (fun v a h => h.1) h7) okf okf ?_
          refine ⟨_, rfl, ?_⟩
          rw [decide_eq_true rfl]
          tm_at "go"
          exact ⟨_, _, rfl, s9.trans (s4.trans (s5.trans (s56.trans s7)))⟩
      · rintro σ' H9 ⟨w6, w7, rfl, s9⟩
        exact ⟨_, _, _, _, rfl, s58.trans s9⟩
    · rintro σ' H' ⟨w4, w5, w6, w7, rfl, s⟩
      exact ⟨w4, w5, w6, w7, rfl, s05.trans s⟩
  rintro _ H4 ⟨w4, w5, w6, w7, rfl, s4⟩
  refine b_one (s_ret ?_)
  tm_at "go"
  exact q _ s4
abbrev dcCloR (M : Md) : Prop := Dc M "_law_closure_right" ["_law_place", "_law_names", "_law_orders"] 10 (spClR M.K)
end K

namespace OM
variable {α : Type} [DecidableEq α]
theorem sw_idx {x y : List α} {a b u : α} (hab : a ≠ b) (hx : a ∉ x) (hxb : b ∉ x) :
    (u ∈ x ∧ (x ++ a :: b :: y).idxOf u = (x ++ b :: a :: y).idxOf u ∧ (x ++ a :: b :: y).idxOf u < x.length) ∨
    (u = a ∧ (x ++ a :: b :: y).idxOf u = x.length ∧ (x ++ b :: a :: y).idxOf u = x.length + 1) ∨
    (u = b ∧ (x ++ a :: b :: y).idxOf u = x.length + 1 ∧ (x ++ b :: a :: y).idxOf u = x.length) ∨
    (u ∉ x ∧ u ≠ a ∧ u ≠ b ∧ (x ++ a :: b :: y).idxOf u = (x ++ b :: a :: y).idxOf u ∧ x.length + 2 ≤ (x ++ a :: b :: y).idxOf u) := by
  by_cases h : u ∈ x
  · refine .inl ⟨h, ?_⟩
    rw [List.idxOf_append, List.idxOf_append, if_pos h, if_pos h]
    exact ⟨rfl, List.idxOf_lt_length_of_mem h⟩
  · refine .inr ?_
    by_cases ha : u = a
    · subst ha
      refine .inl ⟨rfl, ?_, ?_⟩
      · rw [idx_at _ h]
      · rw [List.idxOf_append, if_neg h, idx_ne (Ne.symm hab), List.idxOf_cons_self]
        omega
    · refine .inr ?_
      by_cases hb : u = b
      · subst hb
        refine .inl ⟨rfl, ?_, ?_⟩
        · rw [List.idxOf_append, if_neg h, idx_ne hab, List.idxOf_cons_self]
          omega
        · rw [idx_at _ h]
      · refine .inr ⟨h, ha, hb, ?_⟩
        rw [List.idxOf_append, List.idxOf_append, if_neg h, if_neg h, idx_ne (Ne.symm ha), idx_ne (Ne.symm hb), idx_ne (Ne.symm hb), idx_ne (Ne.symm ha)]
        exact ⟨rfl, by omega⟩
theorem lo_sw {ns : List α} {ps : List (α × α)} (hn : ns.Nodup) (h2 : In2 ns ps) {r s : List α} (hr : r ∈ lo ns ps ns.length []) (nd : r.Nodup) (sw : Sw ps ns r s) : s ∈ lo ns ps ns.length [] := by
  obtain ⟨x, a, b, y, rfl, rfl, n1, n2⟩ := sw
  obtain ⟨l, all, ord⟩ := (lo_iff hn h2).mp hr
  have nd' := List.nodup_append.mp nd
  have hab : a ≠ b := fun e => by
    have := nd'.2.1
    rw [e] at this
    exact (List.nodup_cons.mp this).1 (List.mem_cons_self ..)
  have ax : a ∉ x := fun z => nd'.2.2 a z a (List.mem_cons_self ..) rfl
  have bx : b ∉ x := fun z => nd'.2.2 b z b (List.mem_cons_of_mem _ (List.mem_cons_self ..)) rfl
  refine (lo_iff hn h2).mpr ⟨?_, fun n hn => ?_, fun q hq => ?_⟩
  · rw [← l]
    simp
  · have := all n hn
    simp only [List.mem_append, List.mem_cons] at this ⊢
    rcases this with h | h | h | h
    · exact .inl h
    · exact .inr (.inr (.inl h))
    · exact .inr (.inl h)
    · exact .inr (.inr (.inr h))
  · have lt := ord q hq
    have c1 : Con ps ns q.1 q.2 := .base hq
    rcases sw_idx (y := y) (u := q.1) hab ax bx with ⟨_, e1, f1⟩ | ⟨e, e1, f1⟩ | ⟨e, e1, f1⟩ | ⟨_, _, _, e1, f1⟩ <;>
    rcases sw_idx (y := y) (u := q.2) hab ax bx with ⟨_, e2, f2⟩ | ⟨e', e2, f2⟩ | ⟨e', e2, f2⟩ | ⟨_, _, _, e2, f2⟩ <;>
    first | omega | (exfalso; rw [e, e'] at c1; first | exact n1 c1 | exact n2 c1)
theorem reach_in {ps : List (α × α)} {M : List α} {S : List α → Prop} (h : ∀ r s, S r → Sw ps M r s → S s) {r t : List α} (c : Reach ps M r t) : S r → S t := by
  induction c with
  | refl => exact id
  | step sw _ ih => exact fun z => ih (h _ _ z sw)
/-- what a walk over the legal orders has found, what waits, and what is under way -/
structure Cov (ns : List α) (ps : List (α × α)) (o0 : List α) (ks ws pend : List (List α)) : Prop where
  nd : ks.Nodup
  sub : ∀ o ∈ ks, o ∈ lo ns ps ns.length []
  here : o0 ∈ ks
  wait : ∀ o ∈ ws, o ∈ ks
  done : ∀ o ∈ ks, o ∈ ws ∨ o ∈ pend ∨ ∀ s, Sw ps ns o s → s ∈ ks
theorem Cov.pop {ns : List α} {ps : List (α × α)} {o0 p : List α} {ks ws : List (List α)} (h : Cov ns ps o0 ks (ws ++ [p]) []) : Cov ns ps o0 ks ws [p] ∧ p ∈ ks := by
  refine ⟨⟨h.nd, h.sub, h.here, fun o ho => h.wait o (List.mem_append_left _ ho), fun o ho => ?_⟩, h.wait p (List.mem_append_right _ (List.mem_singleton.mpr rfl))⟩
  rcases h.done o ho with z | z | z
  · rcases List.mem_append.mp z with z | z
    · exact .inl z
    · exact .inr (.inl z)
  · cases z
  · exact .inr (.inr z)
theorem Cov.add {ns : List α} {ps : List (α × α)} {o0 t : List α} {ks ws pend : List (List α)} (h : Cov ns ps o0 ks ws pend) (ht : t ∈ lo ns ps ns.length []) (out : t ∉ ks) : Cov ns ps o0 (ks ++ [t]) (ws ++ [t]) pend where
  nd := by
    rw [List.nodup_append]
    refine ⟨h.nd, List.nodup_cons.mpr ⟨(fun z => nomatch z), List.nodup_nil⟩, fun a ha b hb e => ?_⟩
    rw [List.mem_singleton] at hb
    subst hb
    exact out (e ▸ ha)
  sub := fun o ho => by
    rcases List.mem_append.mp ho with ho | ho
    · exact h.sub o ho
    · rw [List.mem_singleton.mp ho]
      exact ht
  here := List.mem_append_left _ h.here
  wait := fun o ho => by
    rcases List.mem_append.mp ho with ho | ho
    · exact List.mem_append_left _ (h.wait o ho)
    · exact List.mem_append_right _ ho
  done := fun o ho => by
    rcases List.mem_append.mp ho with ho | ho
    · rcases h.done o ho with z | z | z
      · exact .inl (List.mem_append_left _ z)
      · exact .inr (.inl z)
      · exact .inr (.inr fun s hs => List.mem_append_left _ (z s hs))
    · exact .inl (List.mem_append_right _ ho)
theorem Cov.close {ns : List α} {ps : List (α × α)} {o0 p : List α} {ks ws : List (List α)} (h : Cov ns ps o0 ks ws [p]) (all : ∀ s, Sw ps ns p s → s ∈ ks) : Cov ns ps o0 ks ws [] := by
  refine ⟨h.nd, h.sub, h.here, h.wait, fun o ho => ?_⟩
  rcases h.done o ho with z | z | z
  · exact .inl z
  · rw [List.mem_singleton.mp z]
    exact .inr (.inr all)
  · exact .inr (.inr z)
theorem Cov.len {ns : List α} {ps : List (α × α)} {o0 : List α} {ks ws pend : List (List α)} (h : Cov ns ps o0 ks ws pend) : ks.length ≤ (lo ns ps ns.length []).length := nd_le h.nd h.sub
theorem Cov.all {ns : List α} {ps : List (α × α)} {o0 : List α} {ks : List (List α)} (h : Cov ns ps o0 ks [] []) (hn : ns.Nodup) (h2 : In2 ns ps) (way : ∀ o, o ∈ lo ns ps ns.length [] → Way ns ps [] o ∧ o.Perm ns) {o : List α} : o ∈ ks ↔ o ∈ lo ns ps ns.length [] := by
  refine ⟨h.sub o, fun ho => ?_⟩
  have h0 := h.sub _ h.here
  obtain ⟨w1, p1⟩ := way _ h0
  obtain ⟨w2, p2⟩ := way _ ho
  refine reach_in (S := fun o => o ∈ ks) (fun r s hr sw => ?_) (reach_all (M := ns) (p := []) (.nil []) w1 w2 (p1.trans p2.symm)) h.here
  rcases h.done r hr with z | z | z
  · cases z
  · cases z
  · exact z s sw
end OM
namespace K
open PySem PySem.Spec PyProof.Rows L2 G SH
variable {M : Md}
theorem ro_notBl {c : Cd} {H : Hp} {Q : VK} {a b : Bool} (q : Q (.bl (!decide (a = b))) H) : RQ c .IsNot (.bl a) (.bl b) H Q := rq_of (r := rNotB) (fun _ _ => op_notBl) ⟨a, b, rfl, rfl, q⟩
theorem cut_two {α : Type} (xs : List α) (k : Nat) (h : k + 2 ≤ xs.length) : G.cutD xs (some (k : Int)) (some ((k : Int) + 2)) = (xs.drop k).take 2 := by
  unfold G.cutD
  rw [show (k : Int) + 2 = ((k + 2 : Nat) : Int) by omega, HT.sIx_nat, HT.sIx_nat, Nat.min_eq_left (by omega), Nat.min_eq_left (by omega)]
  congr 1
  omega
theorem srtS_two {a b : Str} (h : lts a b) : srtS [a, b] = [a, b] ∧ srtS [b, a] = [a, b] := by
  have e : srtS [a, b] = [a, b] := srtS_of (.cons (fun y hy z => by
    rw [List.mem_singleton] at hy
    subst hy
    exact lts_irrefl _ (lts_trans h z)) (.cons (fun _ z => nomatch z) .nil))
  exact ⟨e, (srtS_same (List.Perm.swap ..)).trans e⟩
theorem opn_two {ns : List Str} {ps : PL} {a b : Str} (ha : a ∈ ns) (hb : b ∈ ns) (hab : a ≠ b) : srtS [a, b] ∈ (opn ns ps).map pr2 ↔ ¬ OM.Con ps ns a b ∧ ¬ OM.Con ps ns b a := by
  have inn : ∀ {a b : Str}, a ∈ ns → b ∈ ns → lts a b → ([a, b] ∈ (opn ns ps).map pr2 ↔ ¬ OM.Con ps ns a b ∧ ¬ OM.Con ps ns b a) := fun {a b} ha hb lt => by
    have e : [a, b] ∈ (opn ns ps).map pr2 ↔ (a, b) ∈ opn ns ps := ⟨fun z => by
      obtain ⟨q, hq, e⟩ := List.mem_map.mp z
      rw [← pr2_inj (show pr2 q = pr2 (a, b) from e)]
      exact hq, fun z => List.mem_map.mpr ⟨_, z, rfl⟩⟩
    rw [e]
    unfold opn
    rw [List.mem_filter, prodL_mem]
    simp [ha, hb, lt]
  rcases lts_tri a b with h | h | h
  · rw [(srtS_two h).1]
    exact inn ha hb h
  · exact absurd h hab
  · rw [(srtS_two h).2, inn hb ha h]
    exact ⟨fun z => ⟨z.2, z.1⟩, fun z => ⟨z.2, z.1⟩⟩
theorem lo_perm {ns : List Str} {ps : PL} (O : OgOk ns ps) {o : List Str} (ho : o ∈ OM.lo ns ps ns.length []) : OM.Way ns ps [] o ∧ o.Perm ns := by
  obtain ⟨l, nd, sub, w⟩ := lo_facts O ho
  obtain ⟨_, all, _⟩ := (OM.lo_iff O.nd O.in2).mp ho
  exact ⟨w, (List.perm_ext_iff_of_nodup nd O.nd).mpr fun n => ⟨sub n, all n⟩⟩
theorem legb_lo {ns : List Str} {ps : PL} (O : OgOk ns ps) {o : List Str} (ho : o ∈ OM.lo ns ps ns.length []) : legb ns ps o = true := by
  obtain ⟨l, all, ord⟩ := (OM.lo_iff O.nd O.in2).mp ho
  unfold legb
  rw [decide_eq_true l, Bool.true_and, Bool.and_eq_true, List.all_eq_true, List.all_eq_true]
  exact ⟨fun n hn => decide_eq_true (all n hn), fun q hq => decide_eq_true (ord q hq)⟩
/-- two neighbours of an order -/
theorem split2 {α : Type} {o : List α} {k : Nat} (h : k + 2 ≤ o.length) : ∃ a b, o[k]? = some a ∧ o[k + 1]? = some b ∧ o = o.take k ++ a :: b :: o.drop (k + 2) ∧ (o.take k).length = k ∧ (o.drop k).take 2 = [a, b] := by
  have e : o.drop k = o[k] :: o[k + 1] :: o.drop (k + 2) := by
    rw [List.drop_eq_getElem_cons (by omega), List.drop_eq_getElem_cons (by omega)]
  refine ⟨o[k], o[k + 1], List.getElem?_eq_getElem _, List.getElem?_eq_getElem _, ?_, by rw [List.length_take]; omega, by rw [e]; rfl⟩
  rw [← e, List.take_append_drop]
end K

namespace K
open PySem PySem.Spec PyProof.Rows L2 G SH
variable {M : Md}
/-- what the walk by exchanges is given -/
def spCon (K : PySem.W.Frag) : Sp := fun vs H Q _ => ∃ vp lo us c rr ps more row, vs = [vp, .ref lo] ∧ Dt K H vp (ogD c rr ps more) ∧ H lo = some (.lst us) ∧ RAll (PlO K) H us (OM.lo (nmsO rr) ps (nmsO rr).length []) ∧ OgOk (nmsO rr) ps ∧ OM.Acy (nmsO rr) ps row ∧ ∀ H', Same H H' → Q (.bl true) H'
theorem ok_con {f fd} (F : Fun M.K "_law_connected" "_law_connected" s__law_connected f fd) (b : Bl M) (dopn : dcOpn M) (dleg : dcLegal M) : FnG M.prog M.w M.K M.mg M.base CX0 10 f fd ["_law_place", "_law_orders"] (spCon M.K) := by
  refine fn_ok F sc__law_connected (fun vs H Q E h => ?_) (fun H vs Q E h => ?_)
  · obtain ⟨_, _, _, _, _, _, _, _, rfl, _⟩ := h
    rfl
  obtain ⟨vp, lo, us, c, rr, ps, more, row, rfl, hp, go, ho, O, A, q⟩ := h
  have fw := O.few
  have lo5 := lo_120 O
  have lu := ho.len
  have okl : ∀ k ∈ OM.lo (nmsO rr) ps (nmsO rr).length [], OkS k := fun k hk n hn => O.ok _ ((lo_facts O hk).2.2.1 n hn)
  have lone := OM.lo_ne A O.nd
  obtain ⟨o0, orest, elo⟩ := List.exists_cons_of_ne_nil lone
  have o0in : o0 ∈ OM.lo (nmsO rr) ps (nmsO rr).length [] := by rw [elo]; exact List.mem_cons_self ..
  obtain ⟨x0, ux, rfl, hx0⟩ : ∃ x0 ux, us = x0 :: ux ∧ PlO M.K H x0 o0 := by
    rw [elo] at ho
    obtain _ | ⟨h1, h2⟩ := ho
    exact ⟨_, _, rfl, h1⟩
  refine b_cut (fun σ1 H1 => ∃ (v2 : V) (ld lw : Addr), ld ≠ lw ∧ H ld = none ∧ H lw = none ∧ σ1 = [some vp, some (.ref lo), some v2, some (.ref ld), some (.ref lw), none, none, none] ∧ Same H H1 ∧ Dt M.K H1 v2 (pairsD (opn (nmsO rr) ps)) ∧ IsDS M H1 ld [(o0, .bl true)] ∧ H1 lw = some (.lst [x0])) ?_ ?_
  · refine s_par3 (by tm_at "at") (by tm_at "at") (by tm_at "at") ?_
    refine e_callF dopn ?_
    tm_at "go"
    refine ⟨_, _, .cons hp .nil, ⟨c, rr, ps, more, rfl, O, rfl⟩, fun v2 H1 s1 h2 => ?_⟩
    refine e_dict1 fun ld nd H0 s0 nn0 => ?_
    tm_at "go"
    refine rx_list (.of (s0 _ _ (s1 _ _ go))) (pl_at (j := 0) rfl rfl) ?_
    tm_at "go"
    refine ⟨Same.refl _, o0, (hx0.1.mono (tp_same (s1.trans s0))), fun H3 s3 t3 d3 => ?_⟩
    refine e_lst ?_
    tm_at "go"
    refine rx_list (.of (s3 _ _ (s1 _ _ go))) (pl_at (j := 0) rfl rfl) ?_
    tm_at "go"
    refine ⟨(show 1 ≤ sizeLine by decide), fun lw nw => ?_⟩
    have s13 := s1.trans s3
    have nn : ∀ {p : Addr} {Ha Hb : Hp}, Same Ha Hb → Hb p = none → Ha p = none := fun {p Ha Hb} s n => by
      cases z : Ha p with
      | none => rfl
      | some o => rw [s _ _ z] at n; cases n
    have ne : ld ≠ lw := fun e => by
      obtain ⟨xs, g, _⟩ := d3
      rw [e, nw] at g
      cases g
    exact ⟨v2, ld, lw, ne, nn s1 nd, nn s13 nw, rfl, s13.trans (same_new nw), h2.mono (tp_same (s3.trans (same_new nw))), d3.same (same_new nw), upd_same⟩
  rintro _ H1 ⟨v2, ld, lw, dw, nld, nlw, rfl, s1, h2, d1, g1⟩
  refine b_cut (fun σ1 H2 => ∃ (kvs : List (List Str × V)) (w5 w6 w7 : Option V), σ1 = [some vp, some (.ref lo), some v2, some (.ref ld), some (.ref lw), w5, w6, w7] ∧ Same H H2 ∧ IsDS M H2 ld kvs ∧ OM.Cov (nmsO rr) ps o0 (kvs.map (·.1)) [] []) ?_ ?_
  · refine s_while (fun m σ' H' => ∃ (kvs : List (List Str × V)) (zs : List V) (ws : List (List Str)) (w5 w6 w7 : Option V), m = 2 * (121 - kvs.length) + ws.length ∧ m ≤ 1000 ∧ σ' = [some vp, some (.ref lo), some v2, some (.ref ld), some (.ref lw), w5, w6, w7] ∧ Same H H' ∧ Dt M.K H' v2 (pairsD (opn (nmsO rr) ps)) ∧ IsDS M H' ld kvs ∧ H' lw = some (.lst zs) ∧ RAll (PlO M.K) H' zs ws ∧ OM.Cov (nmsO rr) ps o0 (kvs.map (·.1)) ws []) _
      ⟨[(o0, .bl true)], [x0], [o0], none, none, none, rfl, (show 2 * (121 - 1) + 1 ≤ 1000 by decide), rfl, s1, h2, d1, g1, .cons (kPlO.k (tp_same s1) hx0) .nil, ⟨List.nodup_cons.mpr ⟨(fun z => nomatch z), List.nodup_nil⟩, fun o ho => by rw [List.mem_singleton.mp ho]; exact o0in, List.mem_singleton.mpr rfl, fun o ho => ho, fun o ho => .inl ho⟩⟩ ?_
    rintro m σ' H' ⟨kvs, zs, ws, w5, w6, w7, rfl, mle, rfl, s, hv, hd, gw, hz, cov⟩
    refine t_cmp (e_var (by tm_at "at") ?_)
    refine e_lst (a_nil ⟨Nat.zero_le _, fun pe npe => ?_⟩)
    have se := same_new (o := .lst []) npe
    refine ro_neLSs (a := ws) (b := []) (se _ _ gw) upd_same ((RAll.dts (g := tS) (fun v a h => h.1) hz).mono (tp_same se)) .nil (fun k hk => okl k (cov.sub k (cov.wait k hk))) (fun _ z => nomatch z) ?_
    refine ⟨_, rfl, ?_⟩
    refine ifb (fun c1 => ?_) (fun c1 => ?_)
    · have wne : ws ≠ [] := fun e => by rw [e] at c1; cases c1
      obtain ⟨wi, p, rfl⟩ : ∃ wi p, ws = wi ++ [p] := ⟨ws.dropLast, ws.getLast wne, (List.dropLast_concat_getLast wne).symm⟩
      obtain ⟨zi, x, rfl, hzi, hx⟩ := rall_snoc hz
      obtain ⟨cov1, pin⟩ := cov.pop
      have plo := cov1.sub p pin
      obtain ⟨lp, ndp, subp, wp⟩ := lo_facts O plo
      have klen : kvs.length ≤ 120 := by have := cov1.len; rw [List.length_map] at this; omega
      have ste := s.trans se
      refine b_cut (fun σ1 H2 => σ1 = [some vp, some (.ref lo), some v2, some (.ref ld), some (.ref lw), some x, w6, w7] ∧ Same H H2 ∧ Dt M.K H2 v2 (pairsD (opn (nmsO rr) ps)) ∧ IsDS M H2 ld kvs ∧ H2 lw = some (.lst zi) ∧ RAll (PlO M.K) H2 zi wi ∧ PlO M.K H2 x p) ?_ ?_
      · refine s_set (by tm_at "at") ?_
        refine e_pop0 (e_var (by tm_at "at") ⟨lw, zi, x, rfl, se _ _ gw, ?_⟩)
        have kp := kp_upd (o' := .lst zi) (se _ _ gw) (fun _ e => nomatch e) (fun _ _ e => nomatch e)
        exact ⟨rfl, same_mut ste nlw, (hv.mono (tp_same se)).mono kp.t, (hd.same se).kp kp dw, upd_same, hzi.mono kPlO ((tp_same se).trans kp.t), kPlO.k ((tp_same se).trans kp.t) hx⟩
      rintro _ H2 ⟨rfl, s2, hv2, hd2, g2, hz2, hx2⟩
      refine b_one (s_forR1 b.range ?_)
      tm_at "go"
      refine rc_lenT (ds := p.map .str) hx2.1 ?_
      tm_at "go"
      rw [List.length_map]
      refine ⟨by omega, by omega, fun j σ' H3 => ∃ (kvs2 : List (List Str × V)) (zs : List V) (ws : List (List Str)) (w6 w7 : Option V), σ' = [some vp, some (.ref lo), some v2, some (.ref ld), some (.ref lw), some x, w6, w7] ∧ Same H H3 ∧ Dt M.K H3 v2 (pairsD (opn (nmsO rr) ps)) ∧ IsDS M H3 ld kvs2 ∧ H3 lw = some (.lst zs) ∧ RAll (PlO M.K) H3 zs ws ∧ PlO M.K H3 x p ∧ OM.Cov (nmsO rr) ps o0 (kvs2.map (·.1)) ws [p] ∧
          (∀ (y : List Str) (a b : Str) (z : List Str), p = y ++ a :: b :: z → y.length < j → ¬ OM.Con ps (nmsO rr) a b → ¬ OM.Con ps (nmsO rr) b a → (y ++ b :: a :: z) ∈ kvs2.map (·.1)) ∧ kvs2.length ≤ 120 ∧ 2 * (121 - kvs2.length) + ws.length ≤ 2 * (121 - kvs.length) + wi.length,
        ⟨kvs, zi, wi, w6, w7, rfl, s2, hv2, hd2, g2, hz2, hx2, cov1, fun _ _ _ _ _ z => absurd z (Nat.not_lt_zero _), klen, Nat.le_refl _⟩, ?_, ?_⟩
      · rintro j σ3 H3 hj ⟨kvs2, zs2, ws2, u6, u7, rfl, s3, hv3, hd3, g3, hz3, hx3, cov3, sw3, l3, m3⟩
        have hj2 : j + 2 ≤ p.length := by omega
        obtain ⟨a, bb, ea, eb, ep, ltk, edt⟩ := split2 hj2
        have ain := subp a (List.mem_of_getElem? ea)
        have bin := subp bb (List.mem_of_getElem? eb)
        have hab : a ≠ bb := fun e => by
          have n1 := ndp
          rw [ep] at n1
          have n2 := (List.nodup_append.mp n1).2.1
          rw [e] at n2
          exact (List.nodup_cons.mp n2).1 (List.mem_cons_self ..)
        have p5 : p.length ≤ 5 := by omega
        have pne : p ≠ [] := fun e => by rw [e] at hj2; simp at hj2
        refine g_name (by tm_at "at") ?_
        refine b_cut (fun σ1 H4 => ∃ v7, σ1 = [some vp, some (.ref lo), some v2, some (.ref ld), some (.ref lw), some x, some (.int (j : Int)), some v7] ∧ Same H3 H4 ∧ PlT M.K H4 v7 (p.take j ++ bb :: a :: p.drop (j + 2))) ?_ ?_
        · refine s_set (by tm_at "at") ?_
          tm_at "go"
          refine rsl_tup (ds := p.map .str) hx3.1 fun v8 H4 s4 h4 => ?_
          rw [cutD_to, ← List.map_take] at h4
          tm_at "go"
          refine e_tupP ?_
          tm_at "go"
          have hx4 := hx3.1.mono (tp_same s4)
          refine rx_tup (ds := p.map .str) (d := .str bb) hx4 (pl_at (j := j + 1) (by omega) (by rw [List.getElem?_map, eb]; rfl)) fun v9 h9 => ?_
          cases h9
          tm_at "go"
          refine rx_tup (ds := p.map .str) (d := .str a) hx4 (pl_at (j := j) rfl (by rw [List.getElem?_map, ea]; rfl)) fun v9 h9 => ?_
          cases h9
          tm_at "go"
          refine ⟨[bb, a], rfl, (show 2 ≤ 1000 by decide), fun v9 H5 s5 h5 => ?_⟩
          tm_at "go"
          refine ro_catP (k := p.take j) (l := [bb, a]) (h4.mono (tp_same s5)) h5.dt (fun _ => h5) (fun z => nomatch z) (by rw [ltk]; simp; omega) fun v10 H6 s6 h6 => ?_
          tm_at "go"
          refine rsl_tup (ds := p.map .str) (hx4.mono (tp_same (s5.trans s6))) fun v11 H7 s7 h7 => ?_
          rw [show ((j : Int) + 2) = ((j + 2 : Nat) : Int) by omega, cutD_from, ← List.map_drop] at h7
          have h6' := h6.mono (tp_same s7)
          refine ro_catP (k := p.take j ++ [bb, a]) (l := p.drop (j + 2)) h6'.dt h7 (fun z => absurd z (by simp)) (fun _ => h6') (by rw [List.length_append, ltk, List.length_drop]; simp; omega) fun v12 H8 s8 h8 => ?_
          rw [List.append_assoc] at h8
          exact ⟨v12, rfl, s4.trans (s5.trans (s6.trans (s7.trans s8))), h8⟩
        rintro _ H4 ⟨v7, rfl, s4, h7⟩
        have sw_ : ¬ OM.Con ps (nmsO rr) a bb → ¬ OM.Con ps (nmsO rr) bb a → OM.Sw ps (nmsO rr) p (p.take j ++ bb :: a :: p.drop (j + 2)) := fun n1 n2 => ⟨_, a, bb, _, ep, rfl, n1, n2⟩
        have next : ∀ {ks ks2 : List (List Str)}, (∀ u, u ∈ ks → u ∈ ks2) → (∀ (y : List Str) (a b : Str) (z : List Str), p = y ++ a :: b :: z → y.length < j → ¬ OM.Con ps (nmsO rr) a b → ¬ OM.Con ps (nmsO rr) b a → (y ++ b :: a :: z) ∈ ks) → (¬ OM.Con ps (nmsO rr) a bb → ¬ OM.Con ps (nmsO rr) bb a → (p.take j ++ bb :: a :: p.drop (j + 2)) ∈ ks2) →
            ∀ (y : List Str) (a b : Str) (z : List Str), p = y ++ a :: b :: z → y.length < j + 1 → ¬ OM.Con ps (nmsO rr) a b → ¬ OM.Con ps (nmsO rr) b a → (y ++ b :: a :: z) ∈ ks2 := by
          intro ks ks2 up old new y a' b' z e ly n1 n2
          rcases Nat.lt_or_ge y.length j with h | h
          · exact up _ (old y a' b' z e h n1 n2)
          · have ly2 : y.length = (p.take j).length := by omega
            obtain ⟨e1, e2⟩ := List.append_inj (e.symm.trans ep) ly2
            obtain ⟨e3, e4⟩ := List.cons.inj e2
            obtain ⟨e5, e6⟩ := List.cons.inj e4
            rw [e1, e3, e5, e6]
            rw [e3, e5] at n1 n2
            exact new n1 n2
        have hv4 := hv3.mono (tp_same s4)
        have hd4 := hd3.same s4
        have g4 := s4 _ _ g3
        have hz4 := hz3.mono kPlO (tp_same s4)
        have hx4 := kPlO.k (tp_same s4) hx3
        have s04 := s3.trans s4
        refine b_one (s_if (t_w (w_and (t_cmp ?_))))
        tm_at "go"
        refine rsl_tup (ds := p.map .str) hx4.1 fun v8 H5 s5 h5 => ?_
        rw [cut_two _ _ (by rw [List.length_map]; exact hj2), ← List.map_drop, ← List.map_take, edt] at h5
        obtain ⟨t5, rfl, ht5⟩ := dt_tS (k := [a, bb]) h5
        tm_at "go"
        refine rc_sortS1 (.inr ht5) fun p9 hp9 => ?_
        tm_at "go"
        refine rc_tupL (.of upd_same) (all_strs _) fun v10 H6 s6 h6 => ?_
        tm_at "go"
        have s46 := s5.trans ((same_new hp9).trans s6)
        have oko : ∀ k ∈ (opn (nmsO rr) ps).map pr2, OkS k := fun k hk => by
          obtain ⟨r, hr, rfl⟩ := List.mem_map.mp hk
          obtain ⟨z1, _⟩ := List.mem_filter.mp hr
          obtain ⟨m1, m2⟩ := prodL_mem.mp z1
          exact O.okp m1 m2
        refine ro_inTS (k := srtS [a, bb]) (ks := (opn (nmsO rr) ps).map pr2) h6 (show Dt M.K _ _ (.tuple (((opn (nmsO rr) ps).map pr2).map tS)) by rw [← prs_tS]; exact hv4.mono (tp_same s46)) (fun n hn => by
          have := (srtS_perm [a, bb]).mem_iff.mp hn
          rcases List.mem_cons.mp this with rfl | this
          · exact O.ok _ ain
          · rw [List.mem_singleton] at this
            subst this
            exact O.ok _ bin) oko ?_
        refine ⟨_, rfl, ?_⟩
        have hv6 := hv4.mono (tp_same s46)
        have hd6 := hd4.same s46
        have g6 := s46 _ _ g4
        have hz6 := hz4.mono kPlO (tp_same s46)
        have hx6 := kPlO.k (tp_same s46) hx4
        have s06 := s04.trans s46
        refine ifb (fun c2 => ?_) (fun c2 => ?_)
        · obtain ⟨n1, n2⟩ := (opn_two ain bin hab).mp (of_decide_eq_true c2)
          have inlo := OM.lo_sw O.nd O.in2 plo ndp (sw_ n1 n2)
          have h76 := h7.mono (tp_same s46)
          refine w_and1 (t_cmp ?_)
          tm_at "go"
          refine ro_ninDS hd6 h76.dt ?_
          refine ⟨_, rfl, ?_⟩
          refine ifb (fun c3 => ?_) (fun c3 => ?_)
          · have out : (p.take j ++ bb :: a :: p.drop (j + 2)) ∉ kvs2.map (·.1) := fun z => by rw [decide_eq_true z] at c3; cases c3
            refine b_cut (fun σ1 H7 => σ1 = [some vp, some (.ref lo), some v2, some (.ref ld), some (.ref lw), some x, some (.int (j : Int)), some v7] ∧ Same H6 H7) ?_ ?_
            · refine s_if (t_cmp ?_)
              refine e_call dleg ?_
              tm_at "go"
              refine ⟨c, rr, ps, more, _, vp, v7, rfl, hp.mono (tp_same s06), h76, O, by rw [List.length_append, ltk]; simp; omega, fun H7 s7 => ?_⟩
              rw [legb_lo O inlo]
              tm_at "go"
              refine ro_notBl ?_
              refine ⟨_, rfl, ?_⟩
              rw [decide_eq_true rfl]
              tm_at "go"
              exact ⟨rfl, s7⟩
            rintro _ H7 ⟨rfl, s7⟩
            have few2 : kvs2.length < 100000 := by omega
            have h77 := h76.mono (tp_same s7)
            have d7 := hd6.same s7
            refine b_cut (fun σ1 H8 => σ1 = [some vp, some (.ref lo), some v2, some (.ref ld), some (.ref lw), some x, some (.int (j : Int)), some v7] ∧ Same H H8 ∧ Kp ld H7 H8 ∧ IsDS M H8 ld (putS kvs2 (p.take j ++ bb :: a :: p.drop (j + 2)) (.bl true))) ?_ ?_
            · refine s_asg (e_bl ?_)
              refine g_sub (e_var (by tm_at "at") ?_)
              tm_at "go"
              refine rp_ds (c := { toMd := M, N := N__law_connected, sc := defScope s__law_connected, k := 9, top := true, g := false, ev := none }) (k := p.take j ++ bb :: a :: p.drop (j + 2)) (kvs := kvs2) d7 h77.dt few2 fun H8 k8 up8 d8 => ?_
              exact ⟨rfl, up8 H (s06.trans s7) nld, k8, d8⟩
            rintro _ H8 ⟨rfl, s8, k8, d8⟩
            have ePut : putS kvs2 (p.take j ++ bb :: a :: p.drop (j + 2)) (.bl true) = kvs2 ++ [(p.take j ++ bb :: a :: p.drop (j + 2), .bl true)] := if_neg out
            rw [ePut] at d8
            have t78 := (tp_same s7).trans k8.t
            have g8 := k8.k _ _ (Ne.symm dw) (s7 _ _ g6)
            have lz := hz6.len
            have lws := cov3.len
            refine b_one (s_expr (e_app (e_var (by tm_at "at") ⟨lw, zs2, rfl, g8, e_var (by tm_at "at") ⟨zs2, g8, ?_, ?_⟩⟩)))
            · have h1 := mle
              rw [List.length_append, List.length_singleton] at h1
              omega
            have kp9 := kp_upd (o' := .lst (zs2 ++ [v7])) g8 (fun _ e => nomatch e) (fun _ _ e => nomatch e)
            have t69 := t78.trans kp9.t
            have cov9 := cov3.add inlo out
            have len9 := cov9.len
            have e9 : (kvs2 ++ [(p.take j ++ bb :: a :: p.drop (j + 2), (V.bl true))]).map (·.1) = kvs2.map (·.1) ++ [p.take j ++ bb :: a :: p.drop (j + 2)] := by rw [List.map_append]; rfl
            rw [List.length_append, List.length_singleton, List.length_map] at len9
            refine ⟨_, zs2 ++ [v7], ws2 ++ [p.take j ++ bb :: a :: p.drop (j + 2)], _, _, rfl, same_mut s8 nlw, hv6.mono t69, d8.kp kp9 dw, upd_same, (hz6.mono kPlO t69).app (.cons ⟨(h76.mono t69).dt, fun _ => h76.mono t69⟩ .nil), kPlO.k t69 hx6, ?_, ?_, ?_, ?_⟩
            · rw [e9]
              exact cov9
            · rw [e9]
              exact next (fun u hu => List.mem_append_left _ hu) sw3 fun _ _ => List.mem_append_right _ (List.mem_singleton.mpr rfl)
            · rw [List.length_append, List.length_singleton]
              omega
            · rw [List.length_append, List.length_singleton, List.length_append, List.length_singleton]
              omega
          · have inn : (p.take j ++ bb :: a :: p.drop (j + 2)) ∈ kvs2.map (·.1) := by
              rcases Decidable.em ((p.take j ++ bb :: a :: p.drop (j + 2)) ∈ kvs2.map (·.1)) with z | z
              · exact z
              · rw [decide_eq_false z] at c3; cases c3
            tm_at "go"
            exact ⟨kvs2, zs2, ws2, _, _, rfl, s06, hv6, hd6, g6, hz6, hx6, cov3, next (fun u hu => hu) sw3 (fun _ _ => inn), l3, m3⟩
        · have shut : ¬ (¬ OM.Con ps (nmsO rr) a bb ∧ ¬ OM.Con ps (nmsO rr) bb a) := fun z => of_decide_eq_false c2 ((opn_two ain bin hab).mpr z)
          tm_at "go"
          exact ⟨kvs2, zs2, ws2, _, _, rfl, s06, hv6, hd6, g6, hz6, hx6, cov3, next (fun u hu => hu) sw3 (fun n1 n2 => absurd ⟨n1, n2⟩ shut), l3, m3⟩
      · rintro σ3 H3 ⟨kvs2, zs2, ws2, u6, u7, rfl, s3, hv3, hd3, g3, hz3, hx3, cov3, sw3, l3, m3⟩
        have cov4 := cov3.close fun t ⟨y, a, bb, z, e1, e2, n1, n2⟩ => by
          rw [e2]
          refine sw3 y a bb z e1 ?_ n1 n2
          rw [e1, List.length_append, List.length_cons, List.length_cons]
          omega
        exact ⟨2 * (121 - kvs2.length) + ws2.length, by rw [List.length_append, List.length_singleton]; omega, kvs2, zs2, ws2, _, _, _, rfl, (by rw [List.length_append, List.length_singleton] at mle; omega), rfl, s3, hv3, hd3, g3, hz3, cov4⟩
    · have e : ws = [] := by
        cases ws with
        | nil => rfl
        | cons y l => rw [decide_eq_false (fun z => nomatch z)] at c1; cases c1
      subst e
      exact ⟨kvs, _, _, _, rfl, s.trans se, hd.same se, cov⟩
  rintro _ H2 ⟨kvs, w5, w6, w7, rfl, s2, hd, cov⟩
  refine b_one (s_ret (e_cmp ?_))
  tm_at "go"
  refine rc_sortDS hd fun p4 ys H4 vs4 s4 n4 g4 asc4 mem4 h4 => ?_
  have e4 : vs4 = OM.lo (nmsO rr) ps (nmsO rr).length [] := asc_uniq asc4 (OM.lo_pw O.asc _ _) fun k => by rw [mem4]; exact cov.all O.nd O.in2 (fun o ho => lo_perm O ho)
  subst e4
  tm_at "go"
  have s04 := s2.trans s4
  refine ro_eqLSs g4 (s04 _ _ go) h4 ((RAll.dts (g := tS) (fun v a h => h.1) ho).mono (tp_same s04)) okl okl ?_
  rw [decide_eq_true rfl]
  exact q _ s04
abbrev dcCon (M : Md) : Prop := Dc M "_law_connected" ["_law_place", "_law_orders"] 10 (spCon M.K)
end K

namespace K
open PySem PySem.Spec PyProof.Rows L2 G SH
variable {M : Md}
def spFeed (K : PySem.W.Frag) : Sp := fun vs H Q _ => ∃ (sl : Addr) (ns : List Int), vs = [.ref sl] ∧ SqL K H sl (ns.map V.int) ∧ ns.length ≤ 63 ∧ ∀ fp cl H', Same H H' → H fp = none → H cl = none → Feed K H' fp cl → Q (.ref fp) H'
theorem cutV_int (ns : List Int) (lo hi : Option Int) : cutV (ns.map V.int) lo hi = (G.cutD ns lo hi).map V.int := cutD_map V.int ns lo hi
theorem ok_feed {f fd} (F : Fun M.K "_law_feed" "_law_feed" s__law_feed f fd) (b : Bl M) : FnG M.prog M.w M.K M.mg M.base CX0 1 f fd ["_law_script"] (spFeed M.K) := by
  refine fn_ok F sc__law_feed (fun vs H Q E h => ?_) (fun H vs Q E h => ?_)
  · obtain ⟨sl, ns, rfl, _⟩ := h
    rfl
  obtain ⟨sl, ns, rfl, hs, hl, k⟩ := h
  tm_at "go"
  refine e_disp (fun X h => pps_cons (pe_re h) (pe_re h) (pps_cons (pe_re h) (pe_re h) (pps_cons (pe_re h) (pe_re h) (pps_cons (pe_re h) (pe_re h) pps_nil)))) rfl rfl (by intro e; cases e) (by decide) ?_
  intro p hp
  simp only [tPairs]
  have s0 := same_new (o := .dK []) hp
  tm_at "go"
  refine rsl_list (s0.seq hs) fun l1 H1 s1 n1 g1 => ?_
  tm_at "go"
  refine rc_lstL (.of g1) fun l2 H2 s2 n2 g2 => ?_
  tm_at "go"
  have gp : H2 p = some (.dK []) := (s1.trans s2) _ _ upd_same
  rw [cutV_int] at g2
  have np : p ≠ l2 := by
    rintro rfl
    rw [s1 _ _ (upd_same (H := H))] at n2
    cases n2
  refine ⟨gp, fkv (.ref l2) 0 0 0, rfl, by rw [fkv_len]; decide, ?_⟩
  rw [show mergeK [] (fkv (.ref l2) 0 0 0) = fkv (.ref l2) 0 0 0 by rfl]
  have hl2 : (G.cutD ns none (some 63)).length ≤ 63 := Nat.le_trans (cutD_sub ns none (some 63)).length_le hl
  refine k p l2 _ (same_mut (s0.trans (s1.trans s2)) hp) hp (same_none s0 (same_none s1 n2)) ⟨_, 0, 0, 0, upd_same, ?_, hl2⟩
  rw [upd_ne (fun e => np e.symm)]
  exact g2
theorem ro_neTS {c : Cd} {H : Hp} {Q : VK} {x y : V} {a b : List Str} (hx : Dt c.K H x (tS a)) (hy : Dt c.K H y (tS b)) (oa : OkS a) (ob : OkS b) (q : Q (.bl (!decide (a = b))) H) : RQ c .NotEq x y H Q := by
  refine ro_neD hx.dp hy.dp (shaped_tS oa) (shaped_tS ob) ?_
  rw [eqv_tS]
  exact q
/-- the names of drawn rules -/
def gNm (d : PyData) : Option PyData := match d with
  | .tuple (.str n :: _) => some (.str n)
  | _ => none
theorem gNm_eq : ∀ rr : List (Str × List PyData), (rr.map rrD).filterMap gNm = (nmsO rr).map .str
  | [] => rfl
  | r :: rr => by
    rw [List.map_cons, List.filterMap_cons, gNm_eq rr]
    rfl
def spLaw (K : PySem.W.Frag) : Sp := fun vs H Q _ => ∃ (sl : Addr) (ns : List Int), vs = [.ref sl] ∧ SqL K H sl (ns.map V.int) ∧ ns.length ≤ 63 ∧ ∀ H', Q (.bl true) H'
set_option maxHeartbeats 1000000 in
theorem ok_law {f fd} (F : Fun M.K "law" "law" s_law f fd) (b : Bl M) (dfe : Dc M "_law_feed" ["_law_script"] 1 (spFeed M.K)) (dma : Dc M "_law_many" ["_law_script", "_law_count"] 1 (spMany M.K))
    (dba : dcBare M) (dlo : dgLo M) (dwy : dcWays M) (dfo : dcFirstO M) (dpr : dcPrefR M) (dcl : dcCloR M) (dco : dcCon M) : FnG M.prog M.w M.K M.mg M.base CX0 18 f fd ["_law_script"] (spLaw M.K) := by
  refine fn_ok F sc_law (fun vs H Q E h => ?_) (fun H vs Q E h => ?_)
  · obtain ⟨sl, ns, rfl, _⟩ := h
    rfl
  obtain ⟨sl, ns, rfl, hs, hl, k⟩ := h
  refine b_cut (fun σ1 H' => ∃ fp cl, σ1 = [some (.ref sl), some (.ref fp), none, none, none, none, none, none, none] ∧ Same H H' ∧ Feed M.K H' fp cl) ?_ ?_
  · refine s_set (by tm_at "at") ?_
    refine e_call dfe ?_
    tm_at "go"
    exact ⟨sl, ns, rfl, hs, hl, fun fp cl H1 s1 n1 nc1 f1 => ⟨fp, cl, rfl, s1, f1⟩⟩
  rintro _ H1 ⟨fp, cl, rfl, s1, f1⟩
  refine b_cons (s_forR1 b.range ?_)
  refine e_call dma ?_
  tm_at "go"
  refine ⟨sl, ns, 3, rfl, s1.seq hs, fun H3 s3 => ?_⟩
  refine ⟨_, rfl, by split <;> decide, by split <;> decide, fun i σ' H' => ∃ v2 v3 v4 v5 v6 v7, σ' = [some (.ref sl), some (.ref fp), v2, v3, v4, v5, v6, v7, none] ∧ Feed M.K H' fp cl, ⟨_, _, _, _, _, _, rfl, f1.same s3⟩, ?_, ?_⟩
  · rintro i σ' H4 hi ⟨v2, v3, v4, v5, v6, v7, rfl, f4⟩
    refine g_name (by tm_at "at") ?_
    refine b_cut (fun σ1 H5 => ∃ vp rr ps row, σ1 = [some (.ref sl), some (.ref fp), some (.int (i : Int)), some vp, v4, v5, v6, v7, none] ∧ Feed M.K H5 fp cl ∧ Dt M.K H5 vp (ogD cellV rr ps [.int 1]) ∧ OgOk (nmsO rr) ps ∧ ps.length ≤ 25 ∧ OM.Acy (nmsO rr) ps row) ?_ ?_
    · refine s_set (by tm_at "at") ?_
      refine e_call dba ?_
      tm_at "go"
      refine ⟨fp, cl, rfl, f4, fun v ns ps row H5 O pl A k5 f5 h5 => ?_⟩
      rw [← rrV_nms ns] at O A
      exact ⟨v, rrV ns, ps, row, rfl, f5, h5, O, pl, A⟩
    rintro _ H5 ⟨vp, rr, ps, row, rfl, f5, hp, O, pl, A⟩
    have fw := O.few
    have nl : (nmsO rr).length = rr.length := List.length_map ..
    have lo5 := lo_120 O
    have okl : ∀ k ∈ OM.lo (nmsO rr) ps (nmsO rr).length [], OkS k := fun k hk n hn => O.ok _ ((lo_facts O hk).2.2.1 n hn)
    refine b_cut (fun σ1 H6 => ∃ (ln lo : Addr) (us : List V), σ1 = [some (.ref sl), some (.ref fp), some (.int (i : Int)), some vp, some (.ref ln), some (.ref lo), v6, v7, none] ∧ Same H5 H6 ∧ H6 ln = some (.lst ((nmsO rr).map V.str)) ∧ H6 lo = some (.lst us) ∧ RAll (PlO M.K) H6 us (OM.lo (nmsO rr) ps (nmsO rr).length [])) ?_ ?_
    · refine s_par2 (by tm_at "at") (by tm_at "at") ?_
      refine e_lc (own := [("_law_rule", 8)]) (Blk.of (N := N_law) (sc := defScope s_law) rfl rfl (by decide +kernel)) ?_
      refine lcT_F gNm ?_
      tm_at "go"
      refine rx_tup (ds := [cellV, .tuple (rr.map rrD), pairsD ps, .int 1]) (d := .tuple (rr.map rrD)) hp (pl_at (j := 1) rfl rfl) fun vr hr => ?_
      refine ⟨rr.map rrD, hr, by rw [List.length_map]; omega, fun d x H6 hd s6 hx => ?_, fun p us H6 s6 n6 g6 h6 => ?_⟩
      · obtain ⟨r, _, rfl⟩ := List.mem_map.mp hd
        refine g_name (by tm_at "at") ⟨rfl, rfl, ts_nil ⟨Same.refl _, ?_⟩⟩
        rw [if_pos rfl]
        tm_at "go"
        refine rx_tup (ds := .str r.1 :: r.2) (d := .str r.1) hx (pl_at (j := 0) rfl rfl) fun v7 h7 => ?_
        exact ⟨Same.refl _, _, rfl, h7⟩
      · rw [gNm_eq] at h6
        have e6 := strs_all h6
        subst e6
        refine e_listG dlo b.list ?_
        tm_at "go"
        refine ⟨vp, cellV, rr, ps, [.int 1], rfl, hp.mono (tp_same s6), O, fun out H7 s7 h7 p7 n7 => ?_⟩
        have s78 := same_new (o := .lst out) n7
        exact ⟨p, p7, out, rfl, s6.trans (s7.trans s78), s78 _ _ (s7 _ _ g6), upd_same, h7.mono kPlO (tp_same s78)⟩
    rintro _ H6 ⟨ln, lo, us, rfl, s6, gn, go, ho⟩
    have f6 := f5.same s6
    have hp6 := hp.mono (tp_same s6)
    have lone := OM.lo_ne A O.nd
    obtain ⟨o0, orest, elo⟩ := List.exists_cons_of_ne_nil lone
    have o0in : o0 ∈ OM.lo (nmsO rr) ps (nmsO rr).length [] := by rw [elo]; exact List.mem_cons_self ..
    obtain ⟨x0, ux, rfl, hx0⟩ : ∃ x0 ux, us = x0 :: ux ∧ PlO M.K H6 x0 o0 := by
      rw [elo] at ho
      obtain _ | ⟨h1, h2⟩ := ho
      exact ⟨_, _, rfl, h1⟩
    have hod := RAll.dts (g := tS) (fun v a h => h.1) ho
    have e0 : OM.greedy (nmsO rr) ps (nmsO rr).length [] = o0 := by
      have h := OM.greedy_head A O.nd (nmsO rr).length [] ⟨.nil _⟩ (by simp)
      rw [elo] at h
      exact (Option.some.inj h).symm
    have esrt : srtT (OM.lo (nmsO rr) ps (nmsO rr).length []) = OM.lo (nmsO rr) ps (nmsO rr).length [] := srtT_of ((OM.lo_pw O.asc _ _).imp fun {a b} h z => lex_asym h z)
    refine b_cut (fun σ1 H7 => σ1 = [some (.ref sl), some (.ref fp), some (.int (i : Int)), some vp, some (.ref ln), some (.ref lo), v6, v7, none] ∧ Same H6 H7) ?_ ?_
    · refine s_if (t_w (w_or (t_cmp (e_var (by tm_at "at") ?_))))
      refine e_call dwy ?_
      tm_at "go"
      refine ⟨vp, ln, cellV, rr, ps, [.int 1], rfl, hp6, gn, O, fun l us H7 s7 n7 g7 h7 => ?_⟩
      rw [← OM.lo_wy] at h7
      refine ro_neLSs (s7 _ _ go) g7 (hod.mono (tp_same s7)) h7 okl okl ?_
      refine ⟨_, rfl, ?_⟩
      rw [decide_eq_true rfl]
      refine w_or (t_cmp ?_)
      refine e_callF dfo ?_
      tm_at "go"
      refine ⟨_, _, .cons (hp6.mono (tp_same s7)) .nil, ⟨cellV, rr, ps, [.int 1], rfl, O, rfl⟩, fun v8 H8 s8 h8 => ?_⟩
      rw [e0] at h8
      have s78 := s7.trans s8
      tm_at "go"
      refine rx_list (.of (s78 _ _ go)) (pl_at (j := 0) rfl rfl) ?_
      refine ro_neTS h8 (hx0.1.mono (tp_same s78)) (okl _ o0in) (okl _ o0in) ?_
      refine ⟨_, rfl, ?_⟩
      rw [decide_eq_true rfl]
      refine w_or1 (t_cmp (e_var (by tm_at "at") ?_))
      tm_at "go"
      refine rc_sortT (.inl (.of (s78 _ _ go))) (hod.mono (tp_same s78)) fun p9 y9 H9 s9 n9 g9 h9 => ?_
      rw [esrt] at h9
      refine ro_neLSs ((s78.trans s9) _ _ go) g9 (hod.mono (tp_same (s78.trans s9))) h9 okl okl ?_
      refine ⟨_, rfl, ?_⟩
      rw [decide_eq_true rfl]
      tm_at "go"
      exact ⟨rfl, s78.trans s9⟩
    rintro _ H7 ⟨rfl, s7⟩
    refine b_cut (fun σ1 H8 => σ1 = [some (.ref sl), some (.ref fp), some (.int (i : Int)), some vp, some (.ref ln), some (.ref lo), v6, v7, none] ∧ Same H6 H8) ?_ ?_
    · refine s_if (t_w (w_or (t_not (t_val ?_))))
      refine e_call dpr ?_
      tm_at "go"
      refine ⟨vp, ln, lo, _, cellV, rr, ps, [.int 1], row, rfl, hp6.mono (tp_same s7), s7 _ _ gn, s7 _ _ go, ho.mono kPlO (tp_same s7), O, A, fun H8 s8 => ?_⟩
      refine ⟨true, rfl, ?_⟩
      have s78 := s7.trans s8
      refine w_or1 (t_not (t_val ?_))
      refine e_call dcl ?_
      tm_at "go"
      refine ⟨vp, ln, lo, _, cellV, rr, ps, .int 1, rfl, hp6.mono (tp_same s78), s78 _ _ gn, s78 _ _ go, ho.mono kPlO (tp_same s78), O, pl, fun H9 s9 => ?_⟩
      refine ⟨true, rfl, ?_⟩
      tm_at "go"
      exact ⟨rfl, s78.trans s9⟩
    rintro _ H8 ⟨rfl, s8⟩
    refine b_cut (fun σ1 H9 => σ1 = [some (.ref sl), some (.ref fp), some (.int (i : Int)), some vp, some (.ref ln), some (.ref lo), v6, v7, none] ∧ Same H6 H9) ?_ ?_
    · refine s_if (t_not (t_val ?_))
      refine e_call dco ?_
      tm_at "go"
      refine ⟨vp, lo, _, cellV, rr, ps, [.int 1], row, rfl, hp6.mono (tp_same s8), s8 _ _ go, ho.mono kPlO (tp_same s8), O, A, fun H9 s9 => ?_⟩
      refine ⟨true, rfl, ?_⟩
      tm_at "go"
      exact ⟨rfl, s8.trans s9⟩
    rintro _ H9 ⟨rfl, s9⟩
    refine b_cut (fun σ1 H10 => σ1 = [some (.ref sl), some (.ref fp), some (.int (i : Int)), some vp, some (.ref ln), some (.ref lo), some (.int 1), v7, none] ∧ H9 = H10) ?_ ?_
    · refine s_set (by tm_at "at") ?_
      tm_at "go"
      exact ⟨rfl, rfl⟩
    rintro _ _ ⟨rfl, rfl⟩
    refine b_cut (fun σ1 H10 => ∃ w7, σ1 = [some (.ref sl), some (.ref fp), some (.int (i : Int)), some vp, some (.ref ln), some (.ref lo), some (.int (OM.fac (nmsO rr).length : Nat)), w7, none] ∧ H9 = H10) ?_ ?_
    · refine s_forR1 b.range ?_
      tm_at "go"
      refine rc_lenL (.of (s9 _ _ gn)) ?_
      rw [List.length_map]
      refine ⟨_, rfl, by omega, by omega, fun j σ' H' => ∃ w7, σ' = [some (.ref sl), some (.ref fp), some (.int (i : Int)), some vp, some (.ref ln), some (.ref lo), some (.int (OM.fac j : Nat)), w7, none] ∧ H9 = H', ⟨_, rfl, rfl⟩, ?_, ?_⟩
      · rintro j σ' H' hj ⟨w7, rfl, rfl⟩
        have hj5 : j < 5 := by omega
        have hfac : ∀ j, j < 5 → OM.fac j ≤ 24 := by decide
        have h24 := hfac j hj5
        refine g_name (by tm_at "at") ?_
        refine b_one (s_set (by tm_at "at") ?_)
        tm_at "go"
        refine ro_mul ?_ ?_
        · refine .inl ⟨by omega, by omega⟩
        · refine ⟨some (.int (j : Int)), ?_, rfl⟩
          rw [OM.fac, Int.natCast_mul, Int.natCast_add]
          rfl
      · rintro σ' H' ⟨w7, rfl, rfl⟩
        rw [show (((nmsO rr).length : Int)).toNat = (nmsO rr).length by omega]
        exact ⟨_, rfl, rfl⟩
    rintro _ _ ⟨w7, rfl, rfl⟩
    have hp9 := hp6.mono (tp_same s9)
    have O0 : OgOk (nmsO rr) [] := ⟨O.asc, O.few, (fun _ z => nomatch z), Nat.zero_le _, O.ok⟩
    have cut2 : cutD [cellV, .tuple (rr.map rrD), pairsD ps, .int 1] none (some 2) = [cellV, .tuple (rr.map rrD)] := by
      rw [show (2 : Int) = ((2 : Nat) : Int) from rfl, cutD_to]
      rfl
    refine b_one (s_if (t_cmp ?_))
    refine e_callB (id := "len") b.len (by decide +kernel) (a_cons ?_)
    refine e_listG dlo b.list ?_
    tm_at "go"
    refine rsl_tup hp9 fun v10 H10 s10 h10 => ?_
    rw [cut2] at h10
    tm_at "go"
    refine e_tupD ?_
    tm_at "go"
    refine e_tupD ?_
    tm_at "go"
    refine ⟨[], .nil, Nat.zero_le _, fun v11 H11 s11 h11 => ?_⟩
    tm_at "go"
    refine ⟨[.tuple [], .int 1], .cons h11 (.cons (.int 1) .nil), (show 2 ≤ 1000 by decide), fun v12 H12 s12 h12 => ?_⟩
    tm_at "go"
    refine ro_catT (h10.mono (tp_same (s11.trans s12))) h12 (show 2 + 2 ≤ 100000 by decide) fun v13 H13 s13 h13 => ?_
    tm_at "go"
    refine ⟨v13, cellV, rr, [], [.int 1], rfl, h13, O0, fun out H14 s14 h14 p14 n14 => ?_⟩
    have lo14 := h14.len
    rw [OM.lo_fac O.nd _ _ List.nodup_nil (fun _ z => nomatch z) (by simp)] at lo14
    tm_at "go"
    refine rc_lenL (.of upd_same) ?_
    rw [lo14]
    tm_at "go"
    rw [decide_eq_true rfl]
    tm_at "go"
    exact ⟨_, _, _, _, _, _, rfl, f6.same (s9.trans (s10.trans (s11.trans (s12.trans (s13.trans (s14.trans (same_new n14)))))))⟩
  · rintro σ' H4 ⟨v2, v3, v4, v5, v6, v7, rfl, f4⟩
    tm_at "go"
    exact k _
end K

namespace K
open PySem PySem.Spec PyProof.Rows L2 G
theorem fun_of {F : PySem.W.Frag} {x qual : Str} {st : Stmt} {f : Addr} {fd : FuncData} {kws : List (Str × V)} (z : FunD F x qual (defArgs st) (defBody st) (defScope st) [] kws f fd) : Fun F x qual st f fd := by
  obtain ⟨oc, od, dV, kV, doc, pm, an, cdv, ct, osl, e, lk, hcd, hD, _⟩ := z.ex
  rcases hD with ⟨_, rfl⟩ | ⟨h, _⟩
  · exact ⟨⟨oc, od, kV, doc, pm, an, cdv, ct, osl, e, lk, hcd⟩, z.kp⟩
  · exact absurd rfl h
theorem dc_of {M : Md} {x : Str} {st : Stmt} {f : Addr} {fd : FuncData} {ps : List Str} {k : Nat} {sp : Sp} (z : FunD M.K x x (defArgs st) (defBody st) (defScope st) [] [] f fd) (hm : M.mg x = some (.ref f))
    (hb : ∀ (kV doc pm : Value) (an : Option Addr) (cdv ct : Value) (us : List Value), us.length = ps.length → bindArgs (PySem.W.fnOf x x (defArgs st) (defBody st) (defScope st) .none kV doc pm an cdv ct) ⟨us, []⟩ = pure (ps.zip us))
    (ok : Fun M.K x x st f fd → FnG M.prog M.w M.K M.mg M.base CX0 k f fd ps sp) : Dc M x ps k sp := ⟨f, fd, ok (fun_of z), hm, z.kp, z.bindsN hb⟩
theorem kw_ofG {K : PySem.W.Frag} {x : Str} {st : Stmt} {f : Addr} {fd : FuncData} {kws : List (Str × V)} {ag : Args} {bs : List (Str × Value)} (z : FunD K x x (defArgs st) (defBody st) (defScope st) [] kws f fd)
    (h : ∀ (kV doc pm : Value) (an : Option Addr) (cdv ct : Value), bindArgs (PySem.W.fnOf x x (defArgs st) (defBody st) (defScope st) .none kV doc pm an cdv ct) ag = pure bs) (s : Shared) : BindsTo s fd ag bs := by
  obtain ⟨_, _, _, kV, doc, pm, an, cdv, ct, _, e, _, _, hD, _⟩ := z.ex
  subst e
  rcases hD with ⟨_, e⟩ | ⟨e, _⟩
  · subst e
    exact .of_eq (h kV doc pm an cdv ct)
  · exact absurd rfl e
set_option maxHeartbeats 4000000 in
theorem whole {M : Md} (b : Bl M) (b3 : Bl3 M) (hall : M.mg "all" = none)
    (D : ∀ (i : Nat) (d : He.DefD), fns[i]? = some d → ∃ fd, FunD M.K d.name d.qual d.params d.body d.scope (d.dvs M.K) (d.kws M.K) (He.fAd M.K d.at_) fd) (g : ∀ (i : Nat) (x : Str), fas[i]? = some (.glo x) → M.mg x = some (.ref (He.ga M.K x)))
    {fd : FuncData} (zl : FunD M.K "law" "law" (defArgs s_law) (defBody s_law) (defScope s_law) [] [] (He.ga M.K "law") fd) : FnOk M.prog M.w M.K M.mg M.base CX0 18 (He.ga M.K "law") fd ["_law_script"] (spLaw M.K) := by
  obtain ⟨w_rule_named, z_rule_named⟩ : ∃ fd, FunD M.K "rule_named" "rule_named" (defArgs s_rule_named) (defBody s_rule_named) (defScope s_rule_named) [] [] (He.ga M.K "rule_named") fd := D 0 _ rfl
  have m_rule_named : M.mg "rule_named" = some (.ref (He.ga M.K "rule_named")) := g 0 _ rfl
  obtain ⟨w_rule_names, z_rule_names⟩ : ∃ fd, FunD M.K "rule_names" "rule_names" (defArgs s_rule_names) (defBody s_rule_names) (defScope s_rule_names) [] [] (He.ga M.K "rule_names") fd := D 1 _ rfl
  have m_rule_names : M.mg "rule_names" = some (.ref (He.ga M.K "rule_names")) := g 1 _ rfl
  obtain ⟨w_pairs_closed, z_pairs_closed⟩ : ∃ fd, FunD M.K "pairs_closed" "pairs_closed" (defArgs s_pairs_closed) (defBody s_pairs_closed) (defScope s_pairs_closed) [] [] (He.ga M.K "pairs_closed") fd := D 2 _ rfl
  have m_pairs_closed : M.mg "pairs_closed" = some (.ref (He.ga M.K "pairs_closed")) := g 2 _ rfl
  obtain ⟨w_is_before, z_is_before⟩ : ∃ fd, FunD M.K "is_before" "is_before" (defArgs s_is_before) (defBody s_is_before) (defScope s_is_before) [] [] (He.ga M.K "is_before") fd := D 3 _ rfl
  have m_is_before : M.mg "is_before" = some (.ref (He.ga M.K "is_before")) := g 3 _ rfl
  obtain ⟨w_unordered_pairs, z_unordered_pairs⟩ : ∃ fd, FunD M.K "unordered_pairs" "unordered_pairs" (defArgs s_unordered_pairs) (defBody s_unordered_pairs) (defScope s_unordered_pairs) [] [] (He.ga M.K "unordered_pairs") fd := D 4 _ rfl
  have m_unordered_pairs : M.mg "unordered_pairs" = some (.ref (He.ga M.K "unordered_pairs")) := g 4 _ rfl
  obtain ⟨w_legal_orders, z_legal_orders⟩ : ∃ fd, FunD M.K "legal_orders" "legal_orders" (defArgs s_legal_orders) (defBody s_legal_orders) (defScope s_legal_orders) [] [] (He.ga M.K "legal_orders") fd := D 5 _ rfl
  have m_legal_orders : M.mg "legal_orders" = some (.ref (He.ga M.K "legal_orders")) := g 5 _ rfl
  obtain ⟨w_first_order, z_first_order⟩ : ∃ fd, FunD M.K "first_order" "first_order" (defArgs s_first_order) (defBody s_first_order) (defScope s_first_order) [] [] (He.ga M.K "first_order") fd := D 6 _ rfl
  have m_first_order : M.mg "first_order" = some (.ref (He.ga M.K "first_order")) := g 6 _ rfl
  obtain ⟨w_is_legal, z_is_legal⟩ : ∃ fd, FunD M.K "is_legal" "is_legal" (defArgs s_is_legal) (defBody s_is_legal) (defScope s_is_legal) [] [] (He.ga M.K "is_legal") fd := D 7 _ rfl
  have m_is_legal : M.mg "is_legal" = some (.ref (He.ga M.K "is_legal")) := g 7 _ rfl
  obtain ⟨w_prefixes_of, z_prefixes_of⟩ : ∃ fd, FunD M.K "prefixes_of" "prefixes_of" (defArgs s_prefixes_of) (defBody s_prefixes_of) (defScope s_prefixes_of) [] [] (He.ga M.K "prefixes_of") fd := D 8 _ rfl
  have m_prefixes_of : M.mg "prefixes_of" = some (.ref (He.ga M.K "prefixes_of")) := g 8 _ rfl
  obtain ⟨w_prefixes_by_length, z_prefixes_by_length⟩ : ∃ fd, FunD M.K "prefixes_by_length" "prefixes_by_length" (defArgs s_prefixes_by_length) (defBody s_prefixes_by_length) (defScope s_prefixes_by_length) [] [] (He.ga M.K "prefixes_by_length") fd := D 9 _ rfl
  have m_prefixes_by_length : M.mg "prefixes_by_length" = some (.ref (He.ga M.K "prefixes_by_length")) := g 9 _ rfl
  obtain ⟨w_with_rule, z_with_rule⟩ : ∃ fd, FunD M.K "with_rule" "with_rule" (defArgs s_with_rule) (defBody s_with_rule) (defScope s_with_rule) [] [] (He.ga M.K "with_rule") fd := D 10 _ rfl
  have m_with_rule : M.mg "with_rule" = some (.ref (He.ga M.K "with_rule")) := g 10 _ rfl
  obtain ⟨w_next_rules, z_next_rules⟩ : ∃ fd, FunD M.K "next_rules" "next_rules" (defArgs s_next_rules) (defBody s_next_rules) (defScope s_next_rules) [] [] (He.ga M.K "next_rules") fd := D 11 _ rfl
  have m_next_rules : M.mg "next_rules" = some (.ref (He.ga M.K "next_rules")) := g 11 _ rfl
  obtain ⟨w_exchanges_of, z_exchanges_of⟩ : ∃ fd, FunD M.K "exchanges_of" "exchanges_of" (defArgs s_exchanges_of) (defBody s_exchanges_of) (defScope s_exchanges_of) [] [] (He.ga M.K "exchanges_of") fd := D 12 _ rfl
  have m_exchanges_of : M.mg "exchanges_of" = some (.ref (He.ga M.K "exchanges_of")) := g 12 _ rfl
  obtain ⟨w_exchange_list, z_exchange_list⟩ : ∃ fd, FunD M.K "exchange_list" "exchange_list" (defArgs s_exchange_list) (defBody s_exchange_list) (defScope s_exchange_list) [] [] (He.ga M.K "exchange_list") fd := D 13 _ rfl
  have m_exchange_list : M.mg "exchange_list" = some (.ref (He.ga M.K "exchange_list")) := g 13 _ rfl
  obtain ⟨w__law_feed, z__law_feed⟩ : ∃ fd, FunD M.K "_law_feed" "_law_feed" (defArgs s__law_feed) (defBody s__law_feed) (defScope s__law_feed) [] [] (He.ga M.K "_law_feed") fd := D 14 _ rfl
  have m__law_feed : M.mg "_law_feed" = some (.ref (He.ga M.K "_law_feed")) := g 14 _ rfl
  obtain ⟨w__law_draw, z__law_draw⟩ : ∃ fd, FunD M.K "_law_draw" "_law_draw" (defArgs s__law_draw) (defBody s__law_draw) (defScope s__law_draw) [] [] (He.ga M.K "_law_draw") fd := D 15 _ rfl
  have m__law_draw : M.mg "_law_draw" = some (.ref (He.ga M.K "_law_draw")) := g 15 _ rfl
  obtain ⟨w__law_many, z__law_many⟩ : ∃ fd, FunD M.K "_law_many" "_law_many" (defArgs s__law_many) (defBody s__law_many) (defScope s__law_many) [] [] (He.ga M.K "_law_many") fd := D 16 _ rfl
  have m__law_many : M.mg "_law_many" = some (.ref (He.ga M.K "_law_many")) := g 16 _ rfl
  obtain ⟨w__law_some_pairs, z__law_some_pairs⟩ : ∃ fd, FunD M.K "_law_some_pairs" "_law_some_pairs" (defArgs s__law_some_pairs) (defBody s__law_some_pairs) (defScope s__law_some_pairs) [] [] (He.ga M.K "_law_some_pairs") fd := D 17 _ rfl
  have m__law_some_pairs : M.mg "_law_some_pairs" = some (.ref (He.ga M.K "_law_some_pairs")) := g 17 _ rfl
  obtain ⟨w__law_bare_program, z__law_bare_program⟩ : ∃ fd, FunD M.K "_law_bare_program" "_law_bare_program" (defArgs s__law_bare_program) (defBody s__law_bare_program) (defScope s__law_bare_program) [] [] (He.ga M.K "_law_bare_program") fd := D 18 _ rfl
  have m__law_bare_program : M.mg "_law_bare_program" = some (.ref (He.ga M.K "_law_bare_program")) := g 18 _ rfl
  obtain ⟨w__law_ways, z__law_ways⟩ : ∃ fd, FunD M.K "_law_ways" "_law_ways" (defArgs s__law_ways) (defBody s__law_ways) (defScope s__law_ways) [] [] (He.ga M.K "_law_ways") fd := D 19 _ rfl
  have m__law_ways : M.mg "_law_ways" = some (.ref (He.ga M.K "_law_ways")) := g 19 _ rfl
  obtain ⟨w__law_prefixes_right, z__law_prefixes_right⟩ : ∃ fd, FunD M.K "_law_prefixes_right" "_law_prefixes_right" (defArgs s__law_prefixes_right) (defBody s__law_prefixes_right) (defScope s__law_prefixes_right) [] [] (He.ga M.K "_law_prefixes_right") fd := D 20 _ rfl
  have m__law_prefixes_right : M.mg "_law_prefixes_right" = some (.ref (He.ga M.K "_law_prefixes_right")) := g 20 _ rfl
  obtain ⟨w__law_keeps, z__law_keeps⟩ : ∃ fd, FunD M.K "_law_keeps" "_law_keeps" (defArgs s__law_keeps) (defBody s__law_keeps) (defScope s__law_keeps) [] [] (He.ga M.K "_law_keeps") fd := D 21 _ rfl
  have m__law_keeps : M.mg "_law_keeps" = some (.ref (He.ga M.K "_law_keeps")) := g 21 _ rfl
  obtain ⟨w__law_closure_right, z__law_closure_right⟩ : ∃ fd, FunD M.K "_law_closure_right" "_law_closure_right" (defArgs s__law_closure_right) (defBody s__law_closure_right) (defScope s__law_closure_right) [] [] (He.ga M.K "_law_closure_right") fd := D 22 _ rfl
  have m__law_closure_right : M.mg "_law_closure_right" = some (.ref (He.ga M.K "_law_closure_right")) := g 22 _ rfl
  obtain ⟨w__law_connected, z__law_connected⟩ : ∃ fd, FunD M.K "_law_connected" "_law_connected" (defArgs s__law_connected) (defBody s__law_connected) (defScope s__law_connected) [] [] (He.ga M.K "_law_connected") fd := D 23 _ rfl
  have m__law_connected : M.mg "_law_connected" = some (.ref (He.ga M.K "_law_connected")) := g 23 _ rfl
  have dno := dc_of (st := s_rule_named) z_rule_named m_rule_named (fun _ _ _ _ _ _ us hl => match us, hl with | [_, _], _ => rfl) (fun F => ok_namedO F b)
  have dnm := dc_of (st := s_rule_names) z_rule_names m_rule_names (fun _ _ _ _ _ _ us hl => match us, hl with | [_], _ => rfl) (fun F => ok_names F b)
  have dcl := dc_of (st := s_pairs_closed) z_pairs_closed m_pairs_closed (fun _ _ _ _ _ _ us hl => match us, hl with | [_], _ => rfl) (fun F => ok_closed F b dnm)
  have dib := dc_of (st := s_is_before) z_is_before m_is_before (fun _ _ _ _ _ _ us hl => match us, hl with | [_, _, _], _ => rfl) (fun F => ok_before F b dno dcl)
  have dopn := dc_of (st := s_unordered_pairs) z_unordered_pairs m_unordered_pairs (fun _ _ _ _ _ _ us hl => match us, hl with | [_], _ => rfl) (fun F => ok_opn F b dnm dcl)
  have dnx := dc_of (st := s_next_rules) z_next_rules m_next_rules (fun _ _ _ _ _ _ us hl => match us, hl with | [_, _], _ => rfl) (fun F => ok_next F b dnm)
  have dwr := dc_of (st := s_with_rule) z_with_rule m_with_rule (fun _ _ _ _ _ _ us hl => match us, hl with | [_, _], _ => rfl) (fun F => ok_with F b)
  have dpbl := dc_of (st := s_prefixes_by_length) z_prefixes_by_length m_prefixes_by_length (fun _ _ _ _ _ _ us hl => match us, hl with | [_], _ => rfl) (fun F => ok_pbl F b dnx dwr)
  have dpf := dc_of (st := s_prefixes_of) z_prefixes_of m_prefixes_of (fun _ _ _ _ _ _ us hl => match us, hl with | [_], _ => rfl) (fun F => ok_pfx F b dpbl)
  have dfo := dc_of (st := s_first_order) z_first_order m_first_order (fun _ _ _ _ _ _ us hl => match us, hl with | [_], _ => rfl) (fun F => ok_first F b dnx)
  have dle := dc_of (st := s_is_legal) z_is_legal m_is_legal (fun _ _ _ _ _ _ us hl => match us, hl with | [_, _], _ => rfl) (fun F => ok_legal F b hall dnm)
  have dex := dc_of (st := s_exchange_list) z_exchange_list m_exchange_list (fun _ _ _ _ _ _ us hl => match us, hl with | [_], _ => rfl) (fun F => ok_exl F b dpf dnx)
  have dgx : dgEx M := ⟨_, _, ok_exG (fun_of z_exchanges_of) b dex, m_exchanges_of, z_exchanges_of.kp, z_exchanges_of.bindsN (fun _ _ _ _ _ _ us hl => match us, hl with | [_], _ => rfl)⟩
  have dlo : dgLo M := ⟨_, _, ok_lo (fun_of z_legal_orders) b dnx, m_legal_orders, z_legal_orders.kp, z_legal_orders.bindsN (fun _ _ _ _ _ _ us hl => match us, hl with | [_], _ => rfl)⟩
  have dfe := dc_of (st := s__law_feed) z__law_feed m__law_feed (fun _ _ _ _ _ _ us hl => match us, hl with | [_], _ => rfl) (fun F => ok_feed F b)
  have dd := dc_of (st := s__law_draw) z__law_draw m__law_draw (fun _ _ _ _ _ _ us hl => match us, hl with | [_, _], _ => rfl) (fun F => ok_draw F b)
  have dma := dc_of (st := s__law_many) z__law_many m__law_many (fun _ _ _ _ _ _ us hl => match us, hl with | [_, _], _ => rfl) (fun F => ok_many F b)
  have dsp := dc_of (st := s__law_some_pairs) z__law_some_pairs m__law_some_pairs (fun _ _ _ _ _ _ us hl => match us, hl with | [_, _], _ => rfl) (fun F => ok_pairs F b b3 dd)
  have dba := dc_of (st := s__law_bare_program) z__law_bare_program m__law_bare_program (fun _ _ _ _ _ _ us hl => match us, hl with | [_, _], _ => rfl) (fun F => ok_bare F b b3 dd dsp)
  have dwy := dc_of (st := s__law_ways) z__law_ways m__law_ways (fun _ _ _ _ _ _ us hl => match us, hl with | [_, _], _ => rfl) (fun F => ok_ways F b dnx)
  have dpr := dc_of (st := s__law_prefixes_right) z__law_prefixes_right m__law_prefixes_right (fun _ _ _ _ _ _ us hl => match us, hl with | [_, _, _], _ => rfl) (fun F => ok_prefR F b dpf dnx dopn dgx)
  have dk := dc_of (st := s__law_keeps) z__law_keeps m__law_keeps (fun _ _ _ _ _ _ us hl => match us, hl with | [_, _], _ => rfl) (fun F => ok_keeps F b)
  have dcr := dc_of (st := s__law_closure_right) z__law_closure_right m__law_closure_right (fun _ _ _ _ _ _ us hl => match us, hl with | [_, _, _], _ => rfl) (fun F => ok_cloR F b dcl dk dib dopn dlo)
  have dco := dc_of (st := s__law_connected) z__law_connected m__law_connected (fun _ _ _ _ _ _ us hl => match us, hl with | [_, _], _ => rfl) (fun F => ok_con F b dopn dle)
  exact ok_law (fun_of zl) b dfe dma dba dlo dwy dfo dpr dcr dco
end K

namespace K
open PySem PySem.Spec PyProof.Rows L2 G
theorem facts {P : Program} {w : World} {F : PySem.W.Frag} {h : Heap} {mg : Str → Option Value} {f : Addr} (X : F.In h) (N : h.Ns mainGlobals mg) (hf : mg ("law" : Str) = some (.ref f)) (c : He.SaysX fas fns [] [] ruleB w h F) :
    ∃ fd : FuncData, (∀ (s : Shared) (v : Value), BindsTo s fd ⟨[v], []⟩ [("_law_script", v)]) ∧ ∀ base : Heap, F.In base → base.Ns mainGlobals mg → FnOk P w F mg base CX0 18 f fd ["_law_script"] (spLaw F) := by
  have cd : He.SaysD fas fns F := congrArg (fun z : He.AlT => z.1) c.t
  have glo : ∀ (i : Nat) (x : Str), fas[i]? = some (.glo x) → mg x = some (.ref (He.ga F x)) := fun i x hx => He.glo_ok X N (cd.fact i hx)
  have fre : ∀ (i : Nat) (x : Str), fas[i]? = some (.free x) → mg x = none := fun i x hx => He.free_ok X N (cd.fact i hx)
  obtain ⟨fd, zl⟩ : ∃ fd, FunD F "law" "law" (defArgs s_law) (defBody s_law) (defScope s_law) [] [] (He.ga F "law") fd := cd.def_ 24 rfl
  have e := hf.symm.trans (glo 24 _ rfl)
  cases e
  refine ⟨fd, fun s v => FunD.bindsA (ps := ["_law_script"]) zl (fun _ _ _ _ _ _ us hl => match us, hl with | [_], _ => rfl) s [v] rfl, fun base _ _ => ?_⟩
  exact whole (M := ⟨P, w, F, mg, base⟩) ⟨fre 25 _ rfl, fre 26 _ rfl, fre 27 _ rfl, fre 28 _ rfl, fre 29 _ rfl, fre 30 _ rfl, fre 31 _ rfl, fre 32 _ rfl, fre 33 _ rfl, fre 34 _ rfl, fre 35 _ rfl, fre 36 _ rfl, fre 37 _ rfl⟩ ⟨fre 40 _ rfl, fre 38 _ rfl⟩ (fre 39 _ rfl) (fun i d hd => cd.def_ i hd) glo zl
end K
open PySem PySem.W PySem.Calls PyProof.Rows
set_option maxHeartbeats 0 in
theorem PySem.Challenge.cw_orderless_k28_whole_prefixes_and_orders_holds : PySem.Challenge.rw_orderless_k28_whole_prefixes_and_orders.Holds := by
  w_on; o_law
  refine HandSHeadRun.head_any (r := K.Rw) (q := view K.Rw.prog [K.lawAt]) (H := K.ownHook) (ob := K.obT) (M := 9000) (loose := K.loose) (d := HandSHeadRun.topDef K.Rw.prog K.lawAt) (kwd := []) K.obT_eq
    (by kernel_rfl) (fun s => by kernel_rfl) K.topRun (by kernel_rfl) (by kernel_rfl) (by kernel_rfl) (by rfl) (by first | assumption | decide +kernel) (by decide +kernel) ⟨rfl, rfl, rfl, rfl, rfl, by decide +kernel⟩ ?hw ?hc
  case hw => w_witness2
  case hc =>
    refine L2.walk_ofE (l := PySem.Challenge.rw_orderless_k28_whole_prefixes_and_orders) (n := 63) (k := 18) (x := "_law_script") (CX := L2.CX0) rfl (by decide) (by kernel_rfl) ⟨rfl, by decide, by decide⟩ ?F (fun _ _ _ _ z => z)
    intro w mg fa h Y N hmg0
    obtain ⟨F, FX, c⟩ := Y
    have nm : (HandSHeadRun.topDef K.Rw.prog K.lawAt).name = ("law" : PySem.Str) := by kernel_rfl
    rw [nm] at hmg0
    obtain ⟨fd, hb, ok⟩ := K.facts (P := PySem.Challenge.rw_orderless_k28_whole_prefixes_and_orders.prog) (w := w) FX N hmg0 c
    exact ⟨F, fd, K.spLaw F, FX, hb, fun H a ns few _ is => ⟨a, ns, rfl, is, few, fun _ => rfl⟩, ok⟩

