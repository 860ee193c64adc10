/-
  The law ElemLaws, walked. By an AI agent. No person has read it.
-/
import Derived.Test.YtbnaaomkndbpoaaDoorElmFirst
import Derived.Test.YtbnaaomkndbpoaaDoorElmS
namespace Go.Proofs.YtbnaaomkndbpoaaDoor
open Go.RowKit

theorem kept_fit (u : Bool) (n : Int) : Tens.fit u (Elm.kept u n) = true := by
  unfold Elm.kept
  cases u
  · exact decide_eq_true (by show -128 ≤ Tens.narrow n ∧ Tens.narrow n ≤ 127; unfold Tens.narrow; omega)
  · exact decide_eq_true (by show -2147483648 ≤ Tens.wide n ∧ Tens.wide n ≤ 2147483647; unfold Tens.wide; omega)
/-- Two good tensors that look alike. -/
structure Elm.Pair (a b : Ten) : Prop where
  fa : a.fault = (0, none)
  fb : b.fault = (0, none)
  z : a.zs = b.zs
  u : a.u = b.u
theorem Elm.Pair.swap {a b : Ten} (h : Elm.Pair a b) : Elm.Pair b a := ⟨h.fb, h.fa, h.z.symm, h.u.symm⟩
theorem Elm.Pair.len {a b : Ten} (h : Elm.Pair a b) : b.ds.length = a.ds.length := by
  have h1 := (fine_len h.fa).1
  have h2 := (fine_len h.fb).1
  rw [h.z] at h1
  omega
/-- What a lawful operation of two comes to. -/
theorem Elm.two_is (op : Int) (ho : 4 ≤ op ∧ op ≤ 7) {a b : Ten} (h : Elm.Pair a b) : Elm.fault op [] [a, b] = (0, none) ∧ Elm.ozs op [] [a, b] = a.zs ∧ Elm.ou op [] [a, b] = a.u ∧ Elm.ods op [] [a, b] = Elm.part op a.u [] a.ds b.ds 0 a.ds.length := by
  have h1 : Tens.first [a, b] = (0, none) := Tens.first_none _ (fun j t ht => by
    match j, ht with
    | 0, ht => cases ht; exact h.fa
    | 1, ht => cases ht; exact h.fb)
  have hk : Elm.known op = true := decide_eq_true (by omega)
  have hn : Elm.nins op = 2 := by unfold Elm.nins; rw [if_pos ho]
  have hq : Elm.nargs op = 0 := by unfold Elm.nargs; rw [if_neg (by omega), if_neg (by omega), if_neg (by omega)]
  have hca := (fine_len h.fa).2
  have hcb := (fine_len h.fb).2
  have h2 : Elm.code op [] [a.look, b.look] = 0 := by
    unfold Elm.code
    rw [if_neg (by rw [hk]; decide), if_neg (by rw [hn, hq]; simp), if_neg (fun hf => hf (by
      show (if Shp.code a.zs = 0 then (if Shp.code b.zs = 0 then 0 else Shp.code b.zs) else Shp.code a.zs) = 0
      rw [if_pos hca, if_pos hcb])), if_neg (by
      have e : Elm.alike op [a.look, b.look] = (decide (a.zs = b.zs) && (a.u == b.u)) := rfl
      rw [e, decide_eq_true h.z, h.u]
      simp), if_neg (by
      unfold Elm.may
      rw [if_neg (by omega), if_neg (by omega), if_neg (by omega)]
      decide)]
  have h3 : Elm.fault op [] [a, b] = (0, none) := by
    unfold Elm.fault
    rw [if_pos h1]
    exact congrArg (fun k => (k, none)) h2
  refine ⟨h3, ?_, ?_, ?_⟩
  · unfold Elm.ozs; rw [if_pos h3]; rfl
  · unfold Elm.ou
    rw [if_pos h3]
    show Elm.wide op a.u = a.u
    unfold Elm.wide
    have e1 : (op == 11) = false := by simp; omega
    have e2 : (op != 10) = true := by simp; omega
    rw [e1, e2]
    simp
  · unfold Elm.ods; rw [if_pos h3]; rfl
/-- .. of one: relu, clamp. -/
theorem Elm.one_is (op : Int) (ho : op = 8 ∨ op = 9) (qs : List Int) {a : Ten} (h : a.fault = (0, none)) (hq : qs.length = Elm.nargs op) (hm : Elm.may op a.u qs = true) :
    Elm.fault op qs [a] = (0, none) ∧ Elm.ozs op qs [a] = a.zs ∧ Elm.ou op qs [a] = a.u ∧ Elm.ods op qs [a] = Elm.part op a.u qs a.ds a.ds 0 a.ds.length := by
  have h1 : Tens.first [a] = (0, none) := Tens.first_none _ (fun j t ht => by
    match j, ht with
    | 0, ht => cases ht; exact h)
  have hk : Elm.known op = true := decide_eq_true (by omega)
  have hn : Elm.nins op = 1 := by unfold Elm.nins; rw [if_neg (by omega)]
  have hca := (fine_len h).2
  have h2 : Elm.code op qs [a.look] = 0 := by
    unfold Elm.code
    rw [if_neg (by rw [hk]; decide), if_neg (by rw [hn, hq]; simp), if_neg (fun hf => hf (by
      show (if Shp.code a.zs = 0 then 0 else Shp.code a.zs) = 0
      rw [if_pos hca])), if_neg (by
      have e : Elm.alike op [a.look] = if op = 10 then a.u else if op = 11 then !a.u else true := rfl
      rw [e, if_neg (by omega), if_neg (by omega)]
      decide), if_neg (by
      have e : Elm.may op ((List.head? [a.look]).map (·.u) |>.getD false) qs = Elm.may op a.u qs := rfl
      rw [e, hm]
      decide)]
  have h3 : Elm.fault op qs [a] = (0, none) := by
    unfold Elm.fault
    rw [if_pos h1]
    exact congrArg (fun k => (k, none)) h2
  refine ⟨h3, ?_, ?_, ?_⟩
  · unfold Elm.ozs; rw [if_pos h3]; rfl
  · unfold Elm.ou
    rw [if_pos h3]
    show Elm.wide op a.u = a.u
    unfold Elm.wide
    have e1 : (op == 11) = false := by simp; omega
    have e2 : (op != 10) = true := by simp; omega
    rw [e1, e2]
    simp
  · unfold Elm.ods; rw [if_pos h3]; rfl
theorem Elm.part_comm (op : Int) (ho : op = 4 ∨ op = 6) (u : Bool) (ds es : List Int) (n : Nat) : Elm.part op u [] ds es 0 n = Elm.part op u [] es ds 0 n := by
  unfold Elm.part
  refine List.map_congr_left fun i _ => ?_
  rcases ho with rfl | rfl
  · show Elm.kept u (IntKind.i64.wrap (_ + _)) = Elm.kept u (IntKind.i64.wrap (_ + _))
    rw [Int.add_comm]
  · show Elm.kept u (IntKind.i64.wrap (_ * _)) = Elm.kept u (IntKind.i64.wrap (_ * _))
    rw [Int.mul_comm]
/-- Elements that fit, as many as a shape has: nothing is amiss. -/
theorem fault_fine {zs ds es : List Int} {u : Bool} (h : Tens.fault zs u ds = (0, none)) (hl : es.length = ds.length) (hf : ∀ z ∈ es, Tens.fit u z = true) : Tens.fault zs u es = (0, none) :=
  Tens.fault_none zs u es (fine_len h).2 (by have := (fine_len h).1; omega) (fun _ _ hj => hf _ (List.mem_of_getElem? hj))
theorem fine_fit {zs ds : List Int} {u : Bool} (h : Tens.fault zs u ds = (0, none)) : ∀ z ∈ ds, Tens.fit u z = true := by
  unfold Tens.fault at h
  split at h
  · rename_i hc; exact absurd (congrArg Prod.fst h) hc
  · split at h
    · cases h
    · split at h
      · cases h
      · rename_i hn
        rw [List.findIdx?_eq_none_iff] at hn
        intro z hz
        simpa using hn z hz
theorem Elm.part_fit (op : Int) (ho : op = 4 ∨ op = 6) (u : Bool) (ds es : List Int) (n : Nat) : ∀ z ∈ Elm.part op u [] ds es 0 n, Tens.fit u z = true := by
  intro z hz
  unfold Elm.part at hz
  obtain ⟨i, -, rfl⟩ := List.mem_map.1 hz
  rcases ho with rfl | rfl
  · exact kept_fit u _
  · exact kept_fit u _
/-- Wide: added, then taken away. -/
theorem Elm.part_back (ds es : List Int) (hl : es.length = ds.length) (hd : ∀ z ∈ ds, Tens.fit true z = true) (he : ∀ z ∈ es, Tens.fit true z = true) : Elm.part 5 true [] (Elm.part 4 true [] ds es 0 ds.length) es 0 ds.length = ds := by
  refine List.ext_getElem? fun i => ?_
  by_cases hi : i < ds.length
  · have h1 := List.getElem?_eq_getElem hi
    have h2 := List.getElem?_eq_getElem (show i < es.length by omega)
    have f1 : -2147483648 ≤ ds[i] ∧ ds[i] ≤ 2147483647 := of_decide_eq_true (hd _ (List.getElem_mem hi))
    have f2 : -2147483648 ≤ es[i]'(by omega) ∧ es[i]'(by omega) ≤ 2147483647 := of_decide_eq_true (he _ (List.getElem_mem (by omega)))
    have h3 := Elm.part_at 4 true [] ds es 0 ds.length i _ _ hi (by rw [Nat.zero_add]; exact h1) (by rw [Nat.zero_add]; exact h2)
    rw [Elm.part_at 5 true [] _ es 0 ds.length i _ _ hi (by rw [Nat.zero_add]; exact h3) (by rw [Nat.zero_add]; exact h2), h1]
    show some (Tens.wide (IntKind.i64.wrap (Tens.wide (IntKind.i64.wrap (_ + _)) - _))) = _
    rw [IntKind.wrap_i64, IntKind.wrap_i64]
    unfold Tens.wide
    congr 1
    omega
  · rw [List.getElem?_eq_none (by rw [Elm.part_length]; omega), List.getElem?_eq_none (by omega)]
theorem Elm.part_clamp (u : Bool) (ds : List Int) : Elm.part 9 u [-3, 3] (Elm.part 9 u [-3, 3] ds ds 0 ds.length) (Elm.part 9 u [-3, 3] ds ds 0 ds.length) 0 ds.length = Elm.part 9 u [-3, 3] ds ds 0 ds.length := by
  refine List.ext_getElem? fun i => ?_
  by_cases hi : i < ds.length
  · have h1 := List.getElem?_eq_getElem hi
    have h3 := Elm.part_at 9 u [-3, 3] ds ds 0 ds.length i _ _ hi (by rw [Nat.zero_add]; exact h1) (by rw [Nat.zero_add]; exact h1)
    rw [Elm.part_at 9 u [-3, 3] _ _ 0 ds.length i _ _ hi (by rw [Nat.zero_add]; exact h3) (by rw [Nat.zero_add]; exact h3), h3]
    show some (max (-3) (min (max (-3) (min _ 3)) 3)) = some (max (-3) (min _ 3))
    congr 1
    omega
  · rw [List.getElem?_eq_none (by rw [Elm.part_length]; omega), List.getElem?_eq_none (by rw [Elm.part_length]; omega)]
theorem Elm.part_fit9 (u : Bool) (ds : List Int) (n : Nat) : ∀ z ∈ Elm.part 9 u [-3, 3] ds ds 0 n, Tens.fit u z = true := by
  intro z hz
  unfold Elm.part at hz
  obtain ⟨i, -, rfl⟩ := List.mem_map.1 hz
  have hb : ∀ x : Int, -3 ≤ max (-3) (min x 3) ∧ max (-3) (min x 3) ≤ 3 := fun x => by omega
  have := hb (ds.getD (0 + i) 0)
  show Tens.fit u (max (-3) (min (ds.getD (0 + i) 0) 3)) = true
  unfold Tens.fit
  cases u
  · exact decide_eq_true (by omega)
  · exact decide_eq_true (by omega)
theorem may_clamp (u : Bool) : Elm.may 9 u [-3, 3] = true := by cases u <;> rfl
theorem terr_nil {W : World} {ah am ar ak : Addr} {x : Value} (h : Elm.Err W ah am ar ak x (0, none)) : x = .nilIface := by
  unfold Elm.Err at h
  rw [if_neg (by simp)] at h
  exact h
/-- Two, of a pair. -/
theorem two_good (op : Int) (ho : 4 ≤ op ∧ op ≤ 7) {a b : Ten} (h : Elm.Pair a b) (ah am ar ak : Addr) (w : World) (ha : a.In w) (hb : b.In w) (hE : E4 w ah am ar ak) :
    Calls Tryd.prog 16 #[.int .i64 op, .agg (tcells a.P a.zs.length a.cap a.u a.D a.ds.length a.dcap), .agg (tcells b.P b.zs.length b.cap b.u b.D b.ds.length b.dcap)] w fun e w' =>
      (∃ t : Ten, e = .returned (.tuple #[.agg (tcells t.P t.zs.length t.cap t.u t.D t.ds.length t.dcap), .nilIface]) ∧ t.In w' ∧ t.zs = a.zs ∧ t.u = a.u ∧ t.ds = Elm.part op a.u [] a.ds b.ds 0 a.ds.length) ∧ Below w.heap.size w w' := by
  obtain ⟨h1, h2, h3, h4⟩ := Elm.two_is op ho h
  refine (two_c op a b ah am ar ak w ha hb hE).mono ?_
  rintro e w' ⟨⟨t, x, rfl, hIn, -, e1, e2, e3, hEr⟩, hB⟩
  rw [h1] at hEr
  obtain rfl := terr_nil hEr
  exact ⟨⟨t, rfl, hIn, e1.trans h2, e2.trans h3, e3.trans h4⟩, hB⟩
theorem one_good (op : Int) (ho : op = 8 ∨ op = 9) (qs : List Int) {a : Ten} (h : a.fault = (0, none)) (hq : qs.length = Elm.nargs op) (hm : Elm.may op a.u qs = true) (A : Option Addr) (qcap : Nat) (ah am ar ak : Addr) (w : World) (ha : a.In w) (hQ : Ri w A qs) (hE : E4 w ah am ar ak) :
    Calls Tryd.prog 17 #[.int .i64 op, .agg (tcells a.P a.zs.length a.cap a.u a.D a.ds.length a.dcap), .slice A qs.length qcap] w fun e w' =>
      (∃ t : Ten, e = .returned (.tuple #[.agg (tcells t.P t.zs.length t.cap t.u t.D t.ds.length t.dcap), .nilIface]) ∧ t.In w' ∧ t.zs = a.zs ∧ t.u = a.u ∧ t.ds = Elm.part op a.u qs a.ds a.ds 0 a.ds.length) ∧ Below w.heap.size w w' := by
  obtain ⟨h1, h2, h3, h4⟩ := Elm.one_is op ho qs h hq hm
  refine (one_c op qs a A qcap ah am ar ak w ha hQ hE).mono ?_
  rintro e w' ⟨⟨t, x, rfl, hIn, -, e1, e2, e3, hEr⟩, hB⟩
  rw [h1] at hEr
  obtain rfl := terr_nil hEr
  exact ⟨⟨t, rfl, hIn, e1.trans h2, e2.trans h3, e3.trans h4⟩, hB⟩
theorem same_good (s t : Ten) (w : World) (hs : s.In w) (ht : t.In w) (h1 : s.zs = t.zs) (h2 : s.u = t.u) (h3 : s.ds = t.ds) :
    Calls Tryd.prog 28 #[.agg (tcells s.P s.zs.length s.cap s.u s.D s.ds.length s.dcap), .agg (tcells t.P t.zs.length t.cap t.u t.D t.ds.length t.dcap)] w fun e w' => e = .returned (.bool true) ∧ Below w.heap.size w w' := by
  refine (tsame_c s.zs t.zs s.ds t.ds s.P t.P s.D t.D s.cap t.cap s.dcap t.dcap s.u t.u w hs.shp ht.shp hs.dat ht.dat hs.ls ht.ls hs.ld ht.ld).mono fun e w' h => ?_
  rw [decide_eq_true h1, decide_eq_true h3, h2] at h
  simpa using h
theorem valid_good (t : Ten) (ah am ar : Addr) (w : World) (ht : t.In w) (hE : E3 w ah am ar) (hf : Tens.fault t.zs t.u t.ds = (0, none)) :
    Calls Tryd.prog 29 #[.agg (tcells t.P t.zs.length t.cap t.u t.D t.ds.length t.dcap)] w fun e w' => e = .returned .nilIface ∧ Below w.heap.size w w' := by
  refine (tvalid_c t.zs t.ds t.P t.D t.cap t.dcap t.u ah am ar w ht.shp ht.dat (by have := ht.ls; omega) (by have := ht.ld; omega) hE).mono ?_
  rintro e w' ⟨⟨v, rfl, hv⟩, hb⟩
  rw [hf] at hv
  obtain rfl : v = .nilIface := hv
  exact ⟨rfl, hb⟩
/-- The sum, or the product, of a pair is good. -/
theorem Elm.Pair.good {a b : Ten} (h : Elm.Pair a b) (op : Int) (ho : op = 4 ∨ op = 6) {t : Ten} (h1 : t.zs = a.zs) (h2 : t.u = a.u) (h3 : t.ds = Elm.part op a.u [] a.ds b.ds 0 a.ds.length) : Tens.fault t.zs t.u t.ds = (0, none) := by
  rw [h1, h2, h3]
  exact fault_fine h.fa (Elm.part_length _ _ _ _ _ _ _) (Elm.part_fit op ho _ _ _ _)
set_option maxRecDepth 100000 in
set_option maxHeartbeats 16000000 in
theorem lawslaw_c (a b : Ten) (ah am ar ak : Addr) (w : World) (hra : Ri w a.P a.zs) (hda : Ri w a.D a.ds) (hrb : Ri w b.P b.zs) (hdb : Ri w b.D b.ds) (hE : E4 w ah am ar ak) :
    Calls Tryd.prog 6 #[.agg (tcells a.P a.zs.length a.cap a.u a.D a.ds.length a.dcap), .agg (tcells b.P b.zs.length b.cap b.u b.D b.ds.length b.dcap)] w fun e w' => e = .returned (.bool true) ∧ Below w.heap.size w w' := by
  obtain ⟨hb0, hA, hB⟩ := boxes_two w 38 38 a.vals b.vals
  unfold Ten.vals at hb0 hA hB
  have HF := hide (first7_c ah am ar ak _ (hE.below hb0))
  have A := hide hA
  have B := hide hB
  have HB := hide hb0
  have WA := hide (fun W => worldtensor_c a.P a.D a.zs.length a.cap a.ds.length a.dcap a.u W)
  have WB := hide (fun W => worldtensor_c b.P b.D b.zs.length b.cap b.ds.length b.dcap b.u W)
  have IA : Hid (a.zs.length ≤ 8 ∧ a.ds.length ≤ 300 → ∀ W, Below w.heap.size w W → a.In W) := hide fun h W hb => ⟨hra.below hb, hda.below hb, by omega, by omega⟩
  have IB : Hid (b.zs.length ≤ 8 ∧ b.ds.length ≤ 300 → ∀ W, Below w.heap.size w W → b.In W) := hide fun h W hb => ⟨hrb.below hb, hdb.below hb, by omega, by omega⟩
  have HE := hide (fun W (hb : Below w.heap.size w W) => hE.below hb)
  clear hb0 hA hB hra hda hrb hdb hE
  by_cases sa : a.zs.length ≤ 8 ∧ a.ds.length ≤ 300
  case neg =>
    rw [show (decide (a.zs.length ≤ 8) && decide (a.ds.length ≤ 300)) = false by rw [← Bool.decide_and]; exact decide_eq_false sa] at WA
    clear sa IA IB HE WB
    go_enter Tryd.func6, Tryd.ntmps6
    go_wp2_with fail
    generalize ((w.alloc (.cells #[.slice a.P a.zs.length a.cap, .bool a.u, .slice a.D a.ds.length a.dcap] 38)).alloc (.cells #[.slice b.P b.zs.length b.cap, .bool b.u, .slice b.D b.ds.length b.dcap] 38)) = W0 at *
    refine (HF.out).mono ?_
    rintro e w1 ⟨rfl, hb⟩
    replace A := hide (A.out.below hb A.out.lt)
    replace B := hide (B.out.below hb B.out.lt)
    replace HB := hide (HB.out.trans (hb.mono HB.out.size))
    clear hb
    clear HF
    have c_A0 := A.out.cell 0
    have c_A1 := A.out.cell 1
    have c_A2 := A.out.cell 2
    go_wp2_with fail
    clear c_A0 c_A1 c_A2
    refine (WA.out _).mono ?_
    rintro e w2 ⟨rfl, hb⟩
    replace A := hide (A.out.below hb A.out.lt)
    replace B := hide (B.out.below hb B.out.lt)
    replace HB := hide (HB.out.trans (hb.mono HB.out.size))
    clear hb
    go_wp2_with fail
    go_ret
    exact ⟨rfl, HB.out⟩
  case pos =>
  rw [show (decide (a.zs.length ≤ 8) && decide (a.ds.length ≤ 300)) = true by rw [← Bool.decide_and]; exact decide_eq_true sa] at WA
  by_cases sb : b.zs.length ≤ 8 ∧ b.ds.length ≤ 300
  case neg =>
    rw [show (decide (b.zs.length ≤ 8) && decide (b.ds.length ≤ 300)) = false by rw [← Bool.decide_and]; exact decide_eq_false sb] at WB
    clear sa sb IA IB HE
    go_enter Tryd.func6, Tryd.ntmps6
    go_wp2_with fail
    generalize ((w.alloc (.cells #[.slice a.P a.zs.length a.cap, .bool a.u, .slice a.D a.ds.length a.dcap] 38)).alloc (.cells #[.slice b.P b.zs.length b.cap, .bool b.u, .slice b.D b.ds.length b.dcap] 38)) = W0 at *
    refine (HF.out).mono ?_
    rintro e w1 ⟨rfl, hb⟩
    replace A := hide (A.out.below hb A.out.lt)
    replace B := hide (B.out.below hb B.out.lt)
    replace HB := hide (HB.out.trans (hb.mono HB.out.size))
    clear hb
    clear HF
    have c_A0 := A.out.cell 0
    have c_A1 := A.out.cell 1
    have c_A2 := A.out.cell 2
    go_wp2_with fail
    clear c_A0 c_A1 c_A2
    refine (WA.out _).mono ?_
    rintro e w2 ⟨rfl, hb⟩
    replace A := hide (A.out.below hb A.out.lt)
    replace B := hide (B.out.below hb B.out.lt)
    replace HB := hide (HB.out.trans (hb.mono HB.out.size))
    clear hb
    have c_B0 := B.out.cell 0
    have c_B1 := B.out.cell 1
    have c_B2 := B.out.cell 2
    go_wp2_with fail
    clear c_B0 c_B1 c_B2
    refine (WB.out _).mono ?_
    rintro e w3 ⟨rfl, hb⟩
    replace A := hide (A.out.below hb A.out.lt)
    replace B := hide (B.out.below hb B.out.lt)
    replace HB := hide (HB.out.trans (hb.mono HB.out.size))
    clear hb
    go_wp2_with fail
    go_ret
    exact ⟨rfl, HB.out⟩
  case pos =>
  rw [show (decide (b.zs.length ≤ 8) && decide (b.ds.length ≤ 300)) = true by rw [← Bool.decide_and]; exact decide_eq_true sb] at WB
  have TA := hide (IA.out sa)
  have TB := hide (IB.out sb)
  have la : a.ds.length ≤ 300 := sa.2
  have GA := hide (fun W (hb : Below w.heap.size w W) => good_c a.zs a.ds a.P a.D a.cap a.dcap a.u W (TA.out W hb).shp (TA.out W hb).dat (TA.out W hb).ls (TA.out W hb).ld)
  have GB := hide (fun W (hb : Below w.heap.size w W) => good_c b.zs b.ds b.P b.D b.cap b.dcap b.u W (TB.out W hb).shp (TB.out W hb).dat (TB.out W hb).ls (TB.out W hb).ld)
  have SD := hide (fun W (hb : Below w.heap.size w W) => samedesc_c a.zs b.zs a.P b.P a.cap b.cap a.u b.u W (TA.out W hb).shp (TB.out W hb).shp (TA.out W hb).ls (TB.out W hb).ls)
  clear sa sb IA IB
  by_cases fa : Tens.fault a.zs a.u a.ds = (0, none)
  case neg =>
    rw [decide_eq_false fa] at GA
    clear fa HE la TA TB GB SD
    go_enter Tryd.func6, Tryd.ntmps6
    go_wp2_with fail
    generalize ((w.alloc (.cells #[.slice a.P a.zs.length a.cap, .bool a.u, .slice a.D a.ds.length a.dcap] 38)).alloc (.cells #[.slice b.P b.zs.length b.cap, .bool b.u, .slice b.D b.ds.length b.dcap] 38)) = W0 at *
    refine (HF.out).mono ?_
    rintro e w1 ⟨rfl, hb⟩
    replace A := hide (A.out.below hb A.out.lt)
    replace B := hide (B.out.below hb B.out.lt)
    replace HB := hide (HB.out.trans (hb.mono HB.out.size))
    clear hb
    clear HF
    have c_A0 := A.out.cell 0
    have c_A1 := A.out.cell 1
    have c_A2 := A.out.cell 2
    go_wp2_with fail
    clear c_A0 c_A1 c_A2
    refine (WA.out _).mono ?_
    rintro e w2 ⟨rfl, hb⟩
    replace A := hide (A.out.below hb A.out.lt)
    replace B := hide (B.out.below hb B.out.lt)
    replace HB := hide (HB.out.trans (hb.mono HB.out.size))
    clear hb
    have c_B0 := B.out.cell 0
    have c_B1 := B.out.cell 1
    have c_B2 := B.out.cell 2
    go_wp2_with fail
    clear c_B0 c_B1 c_B2
    refine (WB.out _).mono ?_
    rintro e w3 ⟨rfl, hb⟩
    replace A := hide (A.out.below hb A.out.lt)
    replace B := hide (B.out.below hb B.out.lt)
    replace HB := hide (HB.out.trans (hb.mono HB.out.size))
    clear hb
    have c_A0 := A.out.cell 0
    have c_A1 := A.out.cell 1
    have c_A2 := A.out.cell 2
    go_wp2_with fail
    clear c_A0 c_A1 c_A2
    refine (GA.out _ HB.out).mono ?_
    rintro e w4 ⟨rfl, hb⟩
    replace A := hide (A.out.below hb A.out.lt)
    replace B := hide (B.out.below hb B.out.lt)
    replace HB := hide (HB.out.trans (hb.mono HB.out.size))
    clear hb
    go_wp2_with fail
    go_ret
    exact ⟨rfl, HB.out⟩
  case pos =>
  rw [decide_eq_true fa] at GA
  by_cases fb : Tens.fault b.zs b.u b.ds = (0, none)
  case neg =>
    rw [decide_eq_false fb] at GB
    clear fa fb HE la TA TB SD
    go_enter Tryd.func6, Tryd.ntmps6
    go_wp2_with fail
    generalize ((w.alloc (.cells #[.slice a.P a.zs.length a.cap, .bool a.u, .slice a.D a.ds.length a.dcap] 38)).alloc (.cells #[.slice b.P b.zs.length b.cap, .bool b.u, .slice b.D b.ds.length b.dcap] 38)) = W0 at *
    refine (HF.out).mono ?_
    rintro e w1 ⟨rfl, hb⟩
    replace A := hide (A.out.below hb A.out.lt)
    replace B := hide (B.out.below hb B.out.lt)
    replace HB := hide (HB.out.trans (hb.mono HB.out.size))
    clear hb
    clear HF
    have c_A0 := A.out.cell 0
    have c_A1 := A.out.cell 1
    have c_A2 := A.out.cell 2
    go_wp2_with fail
    clear c_A0 c_A1 c_A2
    refine (WA.out _).mono ?_
    rintro e w2 ⟨rfl, hb⟩
    replace A := hide (A.out.below hb A.out.lt)
    replace B := hide (B.out.below hb B.out.lt)
    replace HB := hide (HB.out.trans (hb.mono HB.out.size))
    clear hb
    have c_B0 := B.out.cell 0
    have c_B1 := B.out.cell 1
    have c_B2 := B.out.cell 2
    go_wp2_with fail
    clear c_B0 c_B1 c_B2
    refine (WB.out _).mono ?_
    rintro e w3 ⟨rfl, hb⟩
    replace A := hide (A.out.below hb A.out.lt)
    replace B := hide (B.out.below hb B.out.lt)
    replace HB := hide (HB.out.trans (hb.mono HB.out.size))
    clear hb
    have c_A0 := A.out.cell 0
    have c_A1 := A.out.cell 1
    have c_A2 := A.out.cell 2
    go_wp2_with fail
    clear c_A0 c_A1 c_A2
    refine (GA.out _ HB.out).mono ?_
    rintro e w4 ⟨rfl, hb⟩
    replace A := hide (A.out.below hb A.out.lt)
    replace B := hide (B.out.below hb B.out.lt)
    replace HB := hide (HB.out.trans (hb.mono HB.out.size))
    clear hb
    have c_B0 := B.out.cell 0
    have c_B1 := B.out.cell 1
    have c_B2 := B.out.cell 2
    go_wp2_with fail
    clear c_B0 c_B1 c_B2
    refine (GB.out _ HB.out).mono ?_
    rintro e w5 ⟨rfl, hb⟩
    replace A := hide (A.out.below hb A.out.lt)
    replace B := hide (B.out.below hb B.out.lt)
    replace HB := hide (HB.out.trans (hb.mono HB.out.size))
    clear hb
    go_wp2_with fail
    go_ret
    exact ⟨rfl, HB.out⟩
  case pos =>
  rw [decide_eq_true fb] at GB
  by_cases sd : (decide (a.zs = b.zs) && (a.u == b.u)) = true
  case neg =>
    rw [show (decide (a.zs = b.zs) && (a.u == b.u)) = false by simpa using sd] at SD
    clear fa fb sd HE la TA TB
    go_enter Tryd.func6, Tryd.ntmps6
    go_wp2_with fail
    generalize ((w.alloc (.cells #[.slice a.P a.zs.length a.cap, .bool a.u, .slice a.D a.ds.length a.dcap] 38)).alloc (.cells #[.slice b.P b.zs.length b.cap, .bool b.u, .slice b.D b.ds.length b.dcap] 38)) = W0 at *
    refine (HF.out).mono ?_
    rintro e w1 ⟨rfl, hb⟩
    replace A := hide (A.out.below hb A.out.lt)
    replace B := hide (B.out.below hb B.out.lt)
    replace HB := hide (HB.out.trans (hb.mono HB.out.size))
    clear hb
    clear HF
    have c_A0 := A.out.cell 0
    have c_A1 := A.out.cell 1
    have c_A2 := A.out.cell 2
    go_wp2_with fail
    clear c_A0 c_A1 c_A2
    refine (WA.out _).mono ?_
    rintro e w2 ⟨rfl, hb⟩
    replace A := hide (A.out.below hb A.out.lt)
    replace B := hide (B.out.below hb B.out.lt)
    replace HB := hide (HB.out.trans (hb.mono HB.out.size))
    clear hb
    have c_B0 := B.out.cell 0
    have c_B1 := B.out.cell 1
    have c_B2 := B.out.cell 2
    go_wp2_with fail
    clear c_B0 c_B1 c_B2
    refine (WB.out _).mono ?_
    rintro e w3 ⟨rfl, hb⟩
    replace A := hide (A.out.below hb A.out.lt)
    replace B := hide (B.out.below hb B.out.lt)
    replace HB := hide (HB.out.trans (hb.mono HB.out.size))
    clear hb
    have c_A0 := A.out.cell 0
    have c_A1 := A.out.cell 1
    have c_A2 := A.out.cell 2
    go_wp2_with fail
    clear c_A0 c_A1 c_A2
    refine (GA.out _ HB.out).mono ?_
    rintro e w4 ⟨rfl, hb⟩
    replace A := hide (A.out.below hb A.out.lt)
    replace B := hide (B.out.below hb B.out.lt)
    replace HB := hide (HB.out.trans (hb.mono HB.out.size))
    clear hb
    have c_B0 := B.out.cell 0
    have c_B1 := B.out.cell 1
    have c_B2 := B.out.cell 2
    go_wp2_with fail
    clear c_B0 c_B1 c_B2
    refine (GB.out _ HB.out).mono ?_
    rintro e w5 ⟨rfl, hb⟩
    replace A := hide (A.out.below hb A.out.lt)
    replace B := hide (B.out.below hb B.out.lt)
    replace HB := hide (HB.out.trans (hb.mono HB.out.size))
    clear hb
    have c_A0 := A.out.cell 0
    have c_A1 := A.out.cell 1
    have c_B0 := B.out.cell 0
    have c_B1 := B.out.cell 1
    go_wp2_with fail
    clear c_A0 c_A1 c_B0 c_B1
    refine (SD.out _ HB.out).mono ?_
    rintro e w6 ⟨rfl, hb⟩
    replace A := hide (A.out.below hb A.out.lt)
    replace B := hide (B.out.below hb B.out.lt)
    replace HB := hide (HB.out.trans (hb.mono HB.out.size))
    clear hb
    go_wp2_with fail
    go_ret
    exact ⟨rfl, HB.out⟩
  case pos =>
  rw [sd] at SD
  rw [Bool.and_eq_true] at sd
  have hp : Elm.Pair a b := ⟨fa, fb, of_decide_eq_true sd.1, by simpa using sd.2⟩
  have HP := hide hp
  clear fa fb sd hp
  go_enter Tryd.func6, Tryd.ntmps6
  go_wp2_with fail
  generalize ((w.alloc (.cells #[.slice a.P a.zs.length a.cap, .bool a.u, .slice a.D a.ds.length a.dcap] 38)).alloc (.cells #[.slice b.P b.zs.length b.cap, .bool b.u, .slice b.D b.ds.length b.dcap] 38)) = W0 at *
  refine (HF.out).mono ?_
  rintro e w1 ⟨rfl, hb⟩
  replace A := hide (A.out.below hb A.out.lt)
  replace B := hide (B.out.below hb B.out.lt)
  replace HB := hide (HB.out.trans (hb.mono HB.out.size))
  clear hb
  clear HF
  have c_A0 := A.out.cell 0
  have c_A1 := A.out.cell 1
  have c_A2 := A.out.cell 2
  go_wp2_with fail
  clear c_A0 c_A1 c_A2
  refine (WA.out _).mono ?_
  rintro e w2 ⟨rfl, hb⟩
  replace A := hide (A.out.below hb A.out.lt)
  replace B := hide (B.out.below hb B.out.lt)
  replace HB := hide (HB.out.trans (hb.mono HB.out.size))
  clear hb
  have c_B0 := B.out.cell 0
  have c_B1 := B.out.cell 1
  have c_B2 := B.out.cell 2
  go_wp2_with fail
  clear c_B0 c_B1 c_B2
  refine (WB.out _).mono ?_
  rintro e w3 ⟨rfl, hb⟩
  replace A := hide (A.out.below hb A.out.lt)
  replace B := hide (B.out.below hb B.out.lt)
  replace HB := hide (HB.out.trans (hb.mono HB.out.size))
  clear hb
  have c_A0 := A.out.cell 0
  have c_A1 := A.out.cell 1
  have c_A2 := A.out.cell 2
  go_wp2_with fail
  clear c_A0 c_A1 c_A2
  refine (GA.out _ HB.out).mono ?_
  rintro e w4 ⟨rfl, hb⟩
  replace A := hide (A.out.below hb A.out.lt)
  replace B := hide (B.out.below hb B.out.lt)
  replace HB := hide (HB.out.trans (hb.mono HB.out.size))
  clear hb
  have c_B0 := B.out.cell 0
  have c_B1 := B.out.cell 1
  have c_B2 := B.out.cell 2
  go_wp2_with fail
  clear c_B0 c_B1 c_B2
  refine (GB.out _ HB.out).mono ?_
  rintro e w5 ⟨rfl, hb⟩
  replace A := hide (A.out.below hb A.out.lt)
  replace B := hide (B.out.below hb B.out.lt)
  replace HB := hide (HB.out.trans (hb.mono HB.out.size))
  clear hb
  have c_A0 := A.out.cell 0
  have c_A1 := A.out.cell 1
  have c_B0 := B.out.cell 0
  have c_B1 := B.out.cell 1
  go_wp2_with fail
  clear c_A0 c_A1 c_B0 c_B1
  refine (SD.out _ HB.out).mono ?_
  rintro e w6 ⟨rfl, hb⟩
  replace A := hide (A.out.below hb A.out.lt)
  replace B := hide (B.out.below hb B.out.lt)
  replace HB := hide (HB.out.trans (hb.mono HB.out.size))
  clear hb
  clear WA WB GA GB SD
  have c_A0 := A.out.cell 0
  have c_A1 := A.out.cell 1
  have c_A2 := A.out.cell 2
  have c_B0 := B.out.cell 0
  have c_B1 := B.out.cell 1
  have c_B2 := B.out.cell 2
  go_wp2_with fail
  clear c_A0 c_A1 c_A2 c_B0 c_B1 c_B2
  refine (two_good 4 (by decide) HP.out ah am ar ak w6 (TA.out _ HB.out) (TB.out _ HB.out) (HE.out _ HB.out)).mono ?_
  rintro e w7 ⟨⟨s, rfl, hs, s1, s2, s3⟩, hb⟩
  replace A := hide (A.out.below hb A.out.lt)
  replace B := hide (B.out.below hb B.out.lt)
  replace HB := hide (HB.out.trans (hb.mono HB.out.size))
  clear hb
  have Ts := hide hs
  have S1 := hide s1
  have S2 := hide s2
  have S3 := hide s3
  clear hs s1 s2 s3
  have c_B0 := B.out.cell 0
  have c_B1 := B.out.cell 1
  have c_B2 := B.out.cell 2
  have l_B := B.out.lt
  have c_A0 := A.out.cell 0
  have c_A1 := A.out.cell 1
  have c_A2 := A.out.cell 2
  have l_A := A.out.lt
  obtain ⟨w7b, hw7b⟩ : ∃ W, W = w7.alloc (.cells #[.slice s.P s.zs.length s.cap, .bool s.u, .slice s.D s.ds.length s.dcap] 38) := ⟨_, rfl⟩
  have hbA : Below w7.heap.size w7 w7b := by rw [hw7b]; exact (Below.refl _ _).alloc (Nat.le_refl _) _
  have Bs : Hid (Has w7b w7.heap.size 38 [.slice s.P s.zs.length s.cap, .bool s.u, .slice s.D s.ds.length s.dcap]) := hide (by rw [hw7b]; exact Has.new _ _ _)
  replace A := hide (A.out.below hbA A.out.lt)
  replace B := hide (B.out.below hbA B.out.lt)
  replace HB := hide (HB.out.trans (hbA.mono HB.out.size))
  replace Ts := hide (Ts.out.below hbA)
  have Hw7b := hide hw7b
  clear hw7b hbA
  go_wp2_with fail
  rw [← Hw7b.out]
  clear Hw7b c_B0 c_B1 c_B2 l_B c_A0 c_A1 c_A2 l_A
  refine (two_good 4 (by decide) HP.out.swap ah am ar ak w7b (TB.out _ HB.out) (TA.out _ HB.out) (HE.out _ HB.out)).mono ?_
  rintro e w8 ⟨⟨t, rfl, ht, t1, t2, t3⟩, hb⟩
  replace A := hide (A.out.below hb A.out.lt)
  replace B := hide (B.out.below hb B.out.lt)
  replace HB := hide (HB.out.trans (hb.mono HB.out.size))
  replace Ts := hide (Ts.out.below hb)
  replace Bs := hide (Bs.out.below hb Bs.out.lt)
  clear hb
  have Tt := hide ht
  have T1 := hide t1
  have T2 := hide t2
  have T3 := hide t3
  clear ht t1 t2 t3
  have c_A0 := A.out.cell 0
  have c_A1 := A.out.cell 1
  have c_A2 := A.out.cell 2
  have l_A := A.out.lt
  have c_B0 := B.out.cell 0
  have c_B1 := B.out.cell 1
  have c_B2 := B.out.cell 2
  have l_B := B.out.lt
  obtain ⟨w8b, hw8b⟩ : ∃ W, W = w8.alloc (.cells #[.slice t.P t.zs.length t.cap, .bool t.u, .slice t.D t.ds.length t.dcap] 38) := ⟨_, rfl⟩
  have hbA : Below w8.heap.size w8 w8b := by rw [hw8b]; exact (Below.refl _ _).alloc (Nat.le_refl _) _
  have Bt : Hid (Has w8b w8.heap.size 38 [.slice t.P t.zs.length t.cap, .bool t.u, .slice t.D t.ds.length t.dcap]) := hide (by rw [hw8b]; exact Has.new _ _ _)
  replace A := hide (A.out.below hbA A.out.lt)
  replace B := hide (B.out.below hbA B.out.lt)
  replace HB := hide (HB.out.trans (hbA.mono HB.out.size))
  replace Ts := hide (Ts.out.below hbA)
  replace Bs := hide (Bs.out.below hbA Bs.out.lt)
  replace Tt := hide (Tt.out.below hbA)
  have Hw8b := hide hw8b
  clear hw8b hbA
  go_wp2_with fail
  rw [← Hw8b.out]
  clear Hw8b c_A0 c_A1 c_A2 l_A c_B0 c_B1 c_B2 l_B
  refine (two_good 7 (by decide) HP.out ah am ar ak w8b (TA.out _ HB.out) (TB.out _ HB.out) (HE.out _ HB.out)).mono ?_
  rintro e w9 ⟨⟨m, rfl, hm, m1, m2, m3⟩, hb⟩
  replace A := hide (A.out.below hb A.out.lt)
  replace B := hide (B.out.below hb B.out.lt)
  replace HB := hide (HB.out.trans (hb.mono HB.out.size))
  replace Ts := hide (Ts.out.below hb)
  replace Bs := hide (Bs.out.below hb Bs.out.lt)
  replace Tt := hide (Tt.out.below hb)
  replace Bt := hide (Bt.out.below hb Bt.out.lt)
  clear hb
  have Tm := hide hm
  have M1 := hide m1
  have M2 := hide m2
  have M3 := hide m3
  clear hm m1 m2 m3
  have c_A0 := A.out.cell 0
  have c_A1 := A.out.cell 1
  have c_A2 := A.out.cell 2
  have l_A := A.out.lt
  obtain ⟨w9b, hw9b⟩ : ∃ W, W = w9.alloc (.cells #[.slice m.P m.zs.length m.cap, .bool m.u, .slice m.D m.ds.length m.dcap] 38) := ⟨_, rfl⟩
  have hbA : Below w9.heap.size w9 w9b := by rw [hw9b]; exact (Below.refl _ _).alloc (Nat.le_refl _) _
  have Bm : Hid (Has w9b w9.heap.size 38 [.slice m.P m.zs.length m.cap, .bool m.u, .slice m.D m.ds.length m.dcap]) := hide (by rw [hw9b]; exact Has.new _ _ _)
  replace A := hide (A.out.below hbA A.out.lt)
  replace B := hide (B.out.below hbA B.out.lt)
  replace HB := hide (HB.out.trans (hbA.mono HB.out.size))
  replace Ts := hide (Ts.out.below hbA)
  replace Bs := hide (Bs.out.below hbA Bs.out.lt)
  replace Tt := hide (Tt.out.below hbA)
  replace Bt := hide (Bt.out.below hbA Bt.out.lt)
  replace Tm := hide (Tm.out.below hbA)
  have Hw9b := hide hw9b
  clear hw9b hbA
  go_wp2_with fail
  rw [← Hw9b.out]
  clear Hw9b c_A0 c_A1 c_A2 l_A
  refine (one_good 8 (by decide) [] HP.out.fa rfl (by rfl) none 0 ah am ar ak w9b (TA.out _ HB.out) (Ri.nil _ _) (HE.out _ HB.out)).mono ?_
  rintro e w10 ⟨⟨r, rfl, hr, r1, r2, r3⟩, hb⟩
  replace A := hide (A.out.below hb A.out.lt)
  replace B := hide (B.out.below hb B.out.lt)
  replace HB := hide (HB.out.trans (hb.mono HB.out.size))
  replace Ts := hide (Ts.out.below hb)
  replace Bs := hide (Bs.out.below hb Bs.out.lt)
  replace Tt := hide (Tt.out.below hb)
  replace Bt := hide (Bt.out.below hb Bt.out.lt)
  replace Tm := hide (Tm.out.below hb)
  replace Bm := hide (Bm.out.below hb Bm.out.lt)
  clear hb
  have Tr := hide hr
  have R1 := hide r1
  have R2 := hide r2
  have R3 := hide r3
  clear hr r1 r2 r3
  have c_A0 := A.out.cell 0
  have c_A1 := A.out.cell 1
  have c_A2 := A.out.cell 2
  have l_A := A.out.lt
  have c_B0 := B.out.cell 0
  have c_B1 := B.out.cell 1
  have c_B2 := B.out.cell 2
  have l_B := B.out.lt
  obtain ⟨w10b, hw10b⟩ : ∃ W, W = w10.alloc (.cells #[.slice r.P r.zs.length r.cap, .bool r.u, .slice r.D r.ds.length r.dcap] 38) := ⟨_, rfl⟩
  have hbA : Below w10.heap.size w10 w10b := by rw [hw10b]; exact (Below.refl _ _).alloc (Nat.le_refl _) _
  have Br : Hid (Has w10b w10.heap.size 38 [.slice r.P r.zs.length r.cap, .bool r.u, .slice r.D r.ds.length r.dcap]) := hide (by rw [hw10b]; exact Has.new _ _ _)
  replace A := hide (A.out.below hbA A.out.lt)
  replace B := hide (B.out.below hbA B.out.lt)
  replace HB := hide (HB.out.trans (hbA.mono HB.out.size))
  replace Ts := hide (Ts.out.below hbA)
  replace Bs := hide (Bs.out.below hbA Bs.out.lt)
  replace Tt := hide (Tt.out.below hbA)
  replace Bt := hide (Bt.out.below hbA Bt.out.lt)
  replace Tm := hide (Tm.out.below hbA)
  replace Bm := hide (Bm.out.below hbA Bm.out.lt)
  replace Tr := hide (Tr.out.below hbA)
  have Hw10b := hide hw10b
  clear hw10b hbA
  go_wp2_with fail
  rw [← Hw10b.out]
  clear Hw10b c_A0 c_A1 c_A2 l_A c_B0 c_B1 c_B2 l_B
  refine (two_good 6 (by decide) HP.out ah am ar ak w10b (TA.out _ HB.out) (TB.out _ HB.out) (HE.out _ HB.out)).mono ?_
  rintro e w11 ⟨⟨p, rfl, hp, p1, p2, p3⟩, hb⟩
  replace A := hide (A.out.below hb A.out.lt)
  replace B := hide (B.out.below hb B.out.lt)
  replace HB := hide (HB.out.trans (hb.mono HB.out.size))
  replace Ts := hide (Ts.out.below hb)
  replace Bs := hide (Bs.out.below hb Bs.out.lt)
  replace Tt := hide (Tt.out.below hb)
  replace Bt := hide (Bt.out.below hb Bt.out.lt)
  replace Tm := hide (Tm.out.below hb)
  replace Bm := hide (Bm.out.below hb Bm.out.lt)
  replace Tr := hide (Tr.out.below hb)
  replace Br := hide (Br.out.below hb Br.out.lt)
  clear hb
  have Tp := hide hp
  have P1 := hide p1
  have P2 := hide p2
  have P3 := hide p3
  clear hp p1 p2 p3
  have c_B0 := B.out.cell 0
  have c_B1 := B.out.cell 1
  have c_B2 := B.out.cell 2
  have l_B := B.out.lt
  have c_A0 := A.out.cell 0
  have c_A1 := A.out.cell 1
  have c_A2 := A.out.cell 2
  have l_A := A.out.lt
  obtain ⟨w11b, hw11b⟩ : ∃ W, W = w11.alloc (.cells #[.slice p.P p.zs.length p.cap, .bool p.u, .slice p.D p.ds.length p.dcap] 38) := ⟨_, rfl⟩
  have hbA : Below w11.heap.size w11 w11b := by rw [hw11b]; exact (Below.refl _ _).alloc (Nat.le_refl _) _
  have Bp : Hid (Has w11b w11.heap.size 38 [.slice p.P p.zs.length p.cap, .bool p.u, .slice p.D p.ds.length p.dcap]) := hide (by rw [hw11b]; exact Has.new _ _ _)
  replace A := hide (A.out.below hbA A.out.lt)
  replace B := hide (B.out.below hbA B.out.lt)
  replace HB := hide (HB.out.trans (hbA.mono HB.out.size))
  replace Ts := hide (Ts.out.below hbA)
  replace Bs := hide (Bs.out.below hbA Bs.out.lt)
  replace Tt := hide (Tt.out.below hbA)
  replace Bt := hide (Bt.out.below hbA Bt.out.lt)
  replace Tm := hide (Tm.out.below hbA)
  replace Bm := hide (Bm.out.below hbA Bm.out.lt)
  replace Tr := hide (Tr.out.below hbA)
  replace Br := hide (Br.out.below hbA Br.out.lt)
  replace Tp := hide (Tp.out.below hbA)
  have Hw11b := hide hw11b
  clear hw11b hbA
  go_wp2_with fail
  rw [← Hw11b.out]
  clear Hw11b c_B0 c_B1 c_B2 l_B c_A0 c_A1 c_A2 l_A
  refine (two_good 6 (by decide) HP.out.swap ah am ar ak w11b (TB.out _ HB.out) (TA.out _ HB.out) (HE.out _ HB.out)).mono ?_
  rintro e w12 ⟨⟨q, rfl, hq, q1, q2, q3⟩, hb⟩
  replace A := hide (A.out.below hb A.out.lt)
  replace B := hide (B.out.below hb B.out.lt)
  replace HB := hide (HB.out.trans (hb.mono HB.out.size))
  replace Ts := hide (Ts.out.below hb)
  replace Bs := hide (Bs.out.below hb Bs.out.lt)
  replace Tt := hide (Tt.out.below hb)
  replace Bt := hide (Bt.out.below hb Bt.out.lt)
  replace Tm := hide (Tm.out.below hb)
  replace Bm := hide (Bm.out.below hb Bm.out.lt)
  replace Tr := hide (Tr.out.below hb)
  replace Br := hide (Br.out.below hb Br.out.lt)
  replace Tp := hide (Tp.out.below hb)
  replace Bp := hide (Bp.out.below hb Bp.out.lt)
  clear hb
  have Tq := hide hq
  have Q1 := hide q1
  have Q2 := hide q2
  have Q3 := hide q3
  clear hq q1 q2 q3
  have c_Bs0 := Bs.out.cell 0
  have c_Bs1 := Bs.out.cell 1
  have c_Bs2 := Bs.out.cell 2
  have l_Bs := Bs.out.lt
  have c_Bt0 := Bt.out.cell 0
  have c_Bt1 := Bt.out.cell 1
  have c_Bt2 := Bt.out.cell 2
  have l_Bt := Bt.out.lt
  obtain ⟨w12b, hw12b⟩ : ∃ W, W = w12.alloc (.cells #[.slice q.P q.zs.length q.cap, .bool q.u, .slice q.D q.ds.length q.dcap] 38) := ⟨_, rfl⟩
  have hbA : Below w12.heap.size w12 w12b := by rw [hw12b]; exact (Below.refl _ _).alloc (Nat.le_refl _) _
  have Bq : Hid (Has w12b w12.heap.size 38 [.slice q.P q.zs.length q.cap, .bool q.u, .slice q.D q.ds.length q.dcap]) := hide (by rw [hw12b]; exact Has.new _ _ _)
  replace A := hide (A.out.below hbA A.out.lt)
  replace B := hide (B.out.below hbA B.out.lt)
  replace HB := hide (HB.out.trans (hbA.mono HB.out.size))
  replace Ts := hide (Ts.out.below hbA)
  replace Bs := hide (Bs.out.below hbA Bs.out.lt)
  replace Tt := hide (Tt.out.below hbA)
  replace Bt := hide (Bt.out.below hbA Bt.out.lt)
  replace Tm := hide (Tm.out.below hbA)
  replace Bm := hide (Bm.out.below hbA Bm.out.lt)
  replace Tr := hide (Tr.out.below hbA)
  replace Br := hide (Br.out.below hbA Br.out.lt)
  replace Tp := hide (Tp.out.below hbA)
  replace Bp := hide (Bp.out.below hbA Bp.out.lt)
  replace Tq := hide (Tq.out.below hbA)
  have Hw12b := hide hw12b
  clear hw12b hbA
  go_wp2_with fail
  rw [← Hw12b.out]
  clear Hw12b c_Bs0 c_Bs1 c_Bs2 l_Bs c_Bt0 c_Bt1 c_Bt2 l_Bt
  refine (same_good s t w12b Ts.out Tt.out (S1.out.trans (HP.out.z.trans T1.out.symm)) (S2.out.trans (HP.out.u.trans T2.out.symm)) (by rw [S3.out, T3.out, HP.out.len, ← HP.out.u]; exact Elm.part_comm 4 (by decide) _ _ _ _)).mono ?_
  rintro e w13 ⟨rfl, hb⟩
  replace A := hide (A.out.below hb A.out.lt)
  replace B := hide (B.out.below hb B.out.lt)
  replace HB := hide (HB.out.trans (hb.mono HB.out.size))
  replace Ts := hide (Ts.out.below hb)
  replace Bs := hide (Bs.out.below hb Bs.out.lt)
  replace Tt := hide (Tt.out.below hb)
  replace Bt := hide (Bt.out.below hb Bt.out.lt)
  replace Tm := hide (Tm.out.below hb)
  replace Bm := hide (Bm.out.below hb Bm.out.lt)
  replace Tr := hide (Tr.out.below hb)
  replace Br := hide (Br.out.below hb Br.out.lt)
  replace Tp := hide (Tp.out.below hb)
  replace Bp := hide (Bp.out.below hb Bp.out.lt)
  replace Tq := hide (Tq.out.below hb)
  replace Bq := hide (Bq.out.below hb Bq.out.lt)
  clear hb
  have c_Bp0 := Bp.out.cell 0
  have c_Bp1 := Bp.out.cell 1
  have c_Bp2 := Bp.out.cell 2
  have c_Bq0 := Bq.out.cell 0
  have c_Bq1 := Bq.out.cell 1
  have c_Bq2 := Bq.out.cell 2
  go_wp2_with fail
  clear c_Bp0 c_Bp1 c_Bp2 c_Bq0 c_Bq1 c_Bq2
  refine (same_good p q w13 Tp.out Tq.out (P1.out.trans (HP.out.z.trans Q1.out.symm)) (P2.out.trans (HP.out.u.trans Q2.out.symm)) (by rw [P3.out, Q3.out, HP.out.len, ← HP.out.u]; exact Elm.part_comm 6 (by decide) _ _ _ _)).mono ?_
  rintro e w14 ⟨rfl, hb⟩
  replace A := hide (A.out.below hb A.out.lt)
  replace B := hide (B.out.below hb B.out.lt)
  replace HB := hide (HB.out.trans (hb.mono HB.out.size))
  replace Ts := hide (Ts.out.below hb)
  replace Bs := hide (Bs.out.below hb Bs.out.lt)
  replace Tt := hide (Tt.out.below hb)
  replace Bt := hide (Bt.out.below hb Bt.out.lt)
  replace Tm := hide (Tm.out.below hb)
  replace Bm := hide (Bm.out.below hb Bm.out.lt)
  replace Tr := hide (Tr.out.below hb)
  replace Br := hide (Br.out.below hb Br.out.lt)
  replace Tp := hide (Tp.out.below hb)
  replace Bp := hide (Bp.out.below hb Bp.out.lt)
  replace Tq := hide (Tq.out.below hb)
  replace Bq := hide (Bq.out.below hb Bq.out.lt)
  clear hb
  have c_Bs0 := Bs.out.cell 0
  have c_Bs1 := Bs.out.cell 1
  have c_Bs2 := Bs.out.cell 2
  go_wp2_with fail
  clear c_Bs0 c_Bs1 c_Bs2
  refine (valid_good s ah am ar w14 Ts.out (HE.out _ HB.out).1 (HP.out.good 4 (by decide) S1.out S2.out S3.out)).mono ?_
  rintro e w15 ⟨rfl, hb⟩
  replace A := hide (A.out.below hb A.out.lt)
  replace B := hide (B.out.below hb B.out.lt)
  replace HB := hide (HB.out.trans (hb.mono HB.out.size))
  replace Ts := hide (Ts.out.below hb)
  replace Bs := hide (Bs.out.below hb Bs.out.lt)
  replace Tt := hide (Tt.out.below hb)
  replace Bt := hide (Bt.out.below hb Bt.out.lt)
  replace Tm := hide (Tm.out.below hb)
  replace Bm := hide (Bm.out.below hb Bm.out.lt)
  replace Tr := hide (Tr.out.below hb)
  replace Br := hide (Br.out.below hb Br.out.lt)
  replace Tp := hide (Tp.out.below hb)
  replace Bp := hide (Bp.out.below hb Bp.out.lt)
  replace Tq := hide (Tq.out.below hb)
  replace Bq := hide (Bq.out.below hb Bq.out.lt)
  clear hb
  have c_Bp0 := Bp.out.cell 0
  have c_Bp1 := Bp.out.cell 1
  have c_Bp2 := Bp.out.cell 2
  go_wp2_with fail
  clear c_Bp0 c_Bp1 c_Bp2
  refine (valid_good p ah am ar w15 Tp.out (HE.out _ HB.out).1 (HP.out.good 6 (by decide) P1.out P2.out P3.out)).mono ?_
  rintro e w16 ⟨rfl, hb⟩
  replace A := hide (A.out.below hb A.out.lt)
  replace B := hide (B.out.below hb B.out.lt)
  replace HB := hide (HB.out.trans (hb.mono HB.out.size))
  replace Ts := hide (Ts.out.below hb)
  replace Bs := hide (Bs.out.below hb Bs.out.lt)
  replace Tt := hide (Tt.out.below hb)
  replace Bt := hide (Bt.out.below hb Bt.out.lt)
  replace Tm := hide (Tm.out.below hb)
  replace Bm := hide (Bm.out.below hb Bm.out.lt)
  replace Tr := hide (Tr.out.below hb)
  replace Br := hide (Br.out.below hb Br.out.lt)
  replace Tp := hide (Tp.out.below hb)
  replace Bp := hide (Bp.out.below hb Bp.out.lt)
  replace Tq := hide (Tq.out.below hb)
  replace Bq := hide (Bq.out.below hb Bq.out.lt)
  clear hb
  clear Bp Bq Bt Tp Tq Tt
  clear P1 P2 P3 Q1 Q2 Q3 T1 T2 T3
  obtain ⟨n, hn⟩ : ∃ n, Hid (a.ds.length = n) := ⟨_, hide rfl⟩
  cases hu : a.u
  case false =>
    have HU := hide hu
    clear hu
    have cu := A.out.cell 1
    simp only [List.getElem?_cons_succ, List.getElem?_cons_zero] at cu
    rw [HU.out] at cu
    clear Bs Ts
    clear S1 S2 S3 HU
    have lm : Hid (m.ds.length = n) := hide (by rw [M3.out, Elm.part_length]; exact hn.out)
    have lr : Hid (r.ds.length = n) := hide (by rw [R3.out, Elm.part_length]; exact hn.out)
    have lb : Hid (b.ds.length = n) := hide (by rw [HP.out.len]; exact hn.out)
    have ln : n ≤ 300 := by rw [← hn.out]; exact la
    clear la
    go_wp2_with fail
    clear cu
    go_loopw [20] (fun k wr => ∃ i q : Nat, i ≤ n ∧ k = .int .i64 i ∧ wr = w16.drewN q) (fun k _ => n - (intOf k).toNat)
    case atStart => exact ⟨0, 0, by omega, rfl, rfl⟩
    case round =>
      obtain ⟨i, q, hi, rfl, rfl⟩ := hrel
      by_cases hlt : i < n
      · obtain ⟨ad, x, hAD, ex, cx⟩ := ri_at (TA.out _ HB.out).dat i (by rw [hn.out]; exact hlt)
        obtain ⟨bd, y, hBD, ey, cy⟩ := ri_at (TB.out _ HB.out).dat i (by rw [lb.out]; exact hlt)
        obtain ⟨md, mm, hMD, em, cm⟩ := ri_at Tm.out.dat i (by rw [lm.out]; exact hlt)
        obtain ⟨rd, rr, hRD, er, cr⟩ := ri_at Tr.out.dat i (by rw [lr.out]; exact hlt)
        have hmm : Hid (mm = max x y) := hide (by
          have h := em.out
          rw [M3.out, hn.out] at h
          rw [Elm.part_at 7 a.u [] a.ds b.ds 0 n i x y hlt (by rw [Nat.zero_add]; exact ex.out) (by rw [Nat.zero_add]; exact ey.out)] at h
          exact (Option.some.inj h).symm)
        have hrr : Hid (rr = max x 0) := hide (by
          have h := er.out
          rw [R3.out, hn.out] at h
          rw [Elm.part_at 8 a.u [] a.ds a.ds 0 n i x x hlt (by rw [Nat.zero_add]; exact ex.out) (by rw [Nat.zero_add]; exact ex.out)] at h
          exact (Option.some.inj h).symm)
        have f1 : (if x < y then y else x) = mm := by have := hmm.out; split <;> omega
        have f2 : (if y < x then x else y) = mm := by have := hmm.out; split <;> omega
        have f3 : (if x < 0 then 0 else x) = rr := by have := hrr.out; split <;> omega
        have f4 : (if 0 < x then x else 0) = rr := by have := hrr.out; split <;> omega
        have him : (i : Int) < n := by omega
        have hi0 : (0 : Int) ≤ (i : Int) := by omega
        have cA := A.out.cell 2
        have cB := B.out.cell 2
        have cM := Bm.out.cell 2
        have cR := Br.out.cell 2
        simp only [List.getElem?_cons_succ, List.getElem?_cons_zero] at cA cB cM cR
        rw [hAD, hn.out] at cA
        rw [hBD, lb.out] at cB
        rw [hMD, lm.out] at cM
        rw [hRD, lr.out] at cR
        clear hAD hBD hMD hRD
        go_wp2_with fail
        go_quiet (fail)
        go_wp2_with fail
        go_roundw
        case rel => exact ⟨i + 1, q + nq, by omega, by go_num, by first | rfl | exact World.drewN_drewN | exact World.drewN_drewN.symm | (simp only [World.drewN_drewN]; done)⟩
        case measure => simp [intOf]; omega
      · obtain rfl : i = n := by omega
        have nlt : ¬ ((i : Int) < i) := by omega
        have hd : Below w16.heap.size w16 (w16.drewN q) := below_drewN (Below.refl _ _) q
        replace A := hide (A.out.below hd A.out.lt)
        replace B := hide (B.out.below hd B.out.lt)
        replace HB := hide (HB.out.trans (hd.mono HB.out.size))
        replace Tm := hide (Tm.out.below hd)
        replace Bm := hide (Bm.out.below hd Bm.out.lt)
        replace Tr := hide (Tr.out.below hd)
        replace Br := hide (Br.out.below hd Br.out.lt)
        clear hd
        generalize w16.drewN q = wl at *
        clear Bm Br Tm Tr
        clear M1 M2 M3 R1 R2 R3 lm lr lb hlt hi
        have c_A0 := A.out.cell 0
        have c_A1 := A.out.cell 1
        have c_A2 := A.out.cell 2
        have l_A := A.out.lt
        simp only [List.getElem?_cons_succ, List.getElem?_cons_zero] at c_A2
        rw [hn.out] at c_A2
        obtain ⟨wl1, hwl1⟩ : ∃ W, W = wl.alloc (.cells #[.int .i64 (-3), .int .i64 3] 3) := ⟨_, rfl⟩
        have hbA : Below wl.heap.size wl wl1 := by rw [hwl1]; exact (Below.refl _ _).alloc (Nat.le_refl _) _
        have QA : Hid (Has wl1 wl.heap.size 3 [.int .i64 (-3), .int .i64 3]) := hide (by rw [hwl1]; exact Has.new _ _ _)
        replace A := hide (A.out.below hbA A.out.lt)
        replace B := hide (B.out.below hbA B.out.lt)
        replace HB := hide (HB.out.trans (hbA.mono HB.out.size))
        have Hwl1 := hide hwl1
        clear hwl1 hbA
        go_wp2_with fail
        rw [← Hwl1.out]
        clear Hwl1 c_A0 c_A1 c_A2 l_A nlt
        rw [← hn.out]
        refine (one_good 9 (by decide) [-3, 3] HP.out.fa rfl (may_clamp _) _ 2 ah am ar ak wl1 (TA.out _ HB.out) (show Ri _ _ [-3, 3] from (show Has _ _ 3 (i64s [-3, 3]) from QA.out).ri (by decide)) (HE.out _ HB.out)).mono ?_
        rintro e wl2 ⟨⟨c, rfl, hc, c1, c2, c3⟩, hb⟩
        replace A := hide (A.out.below hb A.out.lt)
        replace B := hide (B.out.below hb B.out.lt)
        replace HB := hide (HB.out.trans (hb.mono HB.out.size))
        replace QA := hide (QA.out.below hb QA.out.lt)
        clear hb
        have Tc := hide hc
        have C1 := hide c1
        have C2 := hide c2
        have C3 := hide c3
        clear hc c1 c2 c3
        obtain ⟨wl3, hwl3⟩ : ∃ W, W = wl2.alloc (.cells #[.slice c.P c.zs.length c.cap, .bool c.u, .slice c.D c.ds.length c.dcap] 38) := ⟨_, rfl⟩
        have hbA : Below wl2.heap.size wl2 wl3 := by rw [hwl3]; exact (Below.refl _ _).alloc (Nat.le_refl _) _
        have Bc : Hid (Has wl3 wl2.heap.size 38 [.slice c.P c.zs.length c.cap, .bool c.u, .slice c.D c.ds.length c.dcap]) := hide (by rw [hwl3]; exact Has.new _ _ _)
        replace A := hide (A.out.below hbA A.out.lt)
        replace B := hide (B.out.below hbA B.out.lt)
        replace HB := hide (HB.out.trans (hbA.mono HB.out.size))
        replace QA := hide (QA.out.below hbA QA.out.lt)
        replace Tc := hide (Tc.out.below hbA)
        have Hwl3 := hide hwl3
        clear hwl3 hbA
        obtain ⟨wl4, hwl4⟩ : ∃ W, W = wl3.alloc (.cells #[.int .i64 (-3), .int .i64 3] 3) := ⟨_, rfl⟩
        have hbA : Below wl3.heap.size wl3 wl4 := by rw [hwl4]; exact (Below.refl _ _).alloc (Nat.le_refl _) _
        have QB : Hid (Has wl4 (wl2.heap.size + 1) 3 [.int .i64 (-3), .int .i64 3]) := hide (by rw [hwl4]; exact box_at _ _ _ _ (by rw [Hwl3.out]; simp))
        replace A := hide (A.out.below hbA A.out.lt)
        replace B := hide (B.out.below hbA B.out.lt)
        replace HB := hide (HB.out.trans (hbA.mono HB.out.size))
        replace QA := hide (QA.out.below hbA QA.out.lt)
        replace Tc := hide (Tc.out.below hbA)
        replace Bc := hide (Bc.out.below hbA Bc.out.lt)
        have Hwl4 := hide hwl4
        clear hwl4 hbA
        go_wp2_with fail
        rw [← Hwl3.out]
        rw [← Hwl4.out]
        clear Hwl3 Hwl4
        have hcf : c.fault = (0, none) := by
          show Tens.fault c.zs c.u c.ds = (0, none)
          rw [C1.out, C2.out, C3.out]
          exact fault_fine HP.out.fa (Elm.part_length _ _ _ _ _ _ _) (Elm.part_fit9 _ _ _)
        refine (one_good 9 (by decide) [-3, 3] hcf rfl (may_clamp _) _ 2 ah am ar ak wl4 Tc.out (show Ri _ _ [-3, 3] from (show Has _ _ 3 (i64s [-3, 3]) from QB.out).ri (by decide)) (HE.out _ HB.out)).mono ?_
        rintro e wl5 ⟨⟨d2, rfl, hd2, d21, d22, d23⟩, hb⟩
        replace A := hide (A.out.below hb A.out.lt)
        replace B := hide (B.out.below hb B.out.lt)
        replace HB := hide (HB.out.trans (hb.mono HB.out.size))
        replace QA := hide (QA.out.below hb QA.out.lt)
        replace Tc := hide (Tc.out.below hb)
        replace Bc := hide (Bc.out.below hb Bc.out.lt)
        replace QB := hide (QB.out.below hb QB.out.lt)
        clear hb
        have Td2 := hide hd2
        have D1 := hide d21
        have D2 := hide d22
        have D3 := hide d23
        clear hd2 d21 d22 d23 hcf
        have c_Bc0 := Bc.out.cell 0
        have c_Bc1 := Bc.out.cell 1
        have c_Bc2 := Bc.out.cell 2
        have l_Bc := Bc.out.lt
        obtain ⟨wl6, hwl6⟩ : ∃ W, W = wl5.alloc (.cells #[.slice d2.P d2.zs.length d2.cap, .bool d2.u, .slice d2.D d2.ds.length d2.dcap] 38) := ⟨_, rfl⟩
        have hbA : Below wl5.heap.size wl5 wl6 := by rw [hwl6]; exact (Below.refl _ _).alloc (Nat.le_refl _) _
        have Bd2 : Hid (Has wl6 wl5.heap.size 38 [.slice d2.P d2.zs.length d2.cap, .bool d2.u, .slice d2.D d2.ds.length d2.dcap]) := hide (by rw [hwl6]; exact Has.new _ _ _)
        replace A := hide (A.out.below hbA A.out.lt)
        replace B := hide (B.out.below hbA B.out.lt)
        replace HB := hide (HB.out.trans (hbA.mono HB.out.size))
        replace QA := hide (QA.out.below hbA QA.out.lt)
        replace Tc := hide (Tc.out.below hbA)
        replace Bc := hide (Bc.out.below hbA Bc.out.lt)
        replace QB := hide (QB.out.below hbA QB.out.lt)
        replace Td2 := hide (Td2.out.below hbA)
        have Hwl6 := hide hwl6
        clear hwl6 hbA
        go_wp2_with fail
        rw [← Hwl6.out]
        clear Hwl6 c_Bc0 c_Bc1 c_Bc2 l_Bc
        refine (same_good c d2 wl6 Tc.out Td2.out D1.out.symm D2.out.symm (by rw [D3.out, C2.out, C3.out, Elm.part_length]; exact (Elm.part_clamp _ _).symm)).mono ?_
        rintro e wl7 ⟨rfl, hb⟩
        replace A := hide (A.out.below hb A.out.lt)
        replace B := hide (B.out.below hb B.out.lt)
        replace HB := hide (HB.out.trans (hb.mono HB.out.size))
        replace QA := hide (QA.out.below hb QA.out.lt)
        replace Tc := hide (Tc.out.below hb)
        replace Bc := hide (Bc.out.below hb Bc.out.lt)
        replace QB := hide (QB.out.below hb QB.out.lt)
        replace Td2 := hide (Td2.out.below hb)
        replace Bd2 := hide (Bd2.out.below hb Bd2.out.lt)
        clear hb
        go_wp2_with fail
        go_ret
        exact ⟨rfl, HB.out⟩
  case true =>
    have HU := hide hu
    clear hu
    have cu := A.out.cell 1
    simp only [List.getElem?_cons_succ, List.getElem?_cons_zero] at cu
    rw [HU.out] at cu
    have hps : Elm.Pair s b := ⟨HP.out.good 4 (by decide) S1.out S2.out S3.out, HP.out.fb, S1.out.trans HP.out.z, S2.out.trans HP.out.u⟩
    have HPS := hide hps
    clear hps
    have c_Bs0 := Bs.out.cell 0
    have c_Bs1 := Bs.out.cell 1
    have c_Bs2 := Bs.out.cell 2
    have c_B0 := B.out.cell 0
    have c_B1 := B.out.cell 1
    have c_B2 := B.out.cell 2
    go_wp2_with fail
    clear cu c_Bs0 c_Bs1 c_Bs2 c_B0 c_B1 c_B2
    refine (two_good 5 (by decide) HPS.out ah am ar ak w16 Ts.out (TB.out _ HB.out) (HE.out _ HB.out)).mono ?_
    rintro e w17 ⟨⟨d, rfl, hd, d1, d2, d3⟩, hb⟩
    replace A := hide (A.out.below hb A.out.lt)
    replace B := hide (B.out.below hb B.out.lt)
    replace HB := hide (HB.out.trans (hb.mono HB.out.size))
    replace Ts := hide (Ts.out.below hb)
    replace Bs := hide (Bs.out.below hb Bs.out.lt)
    replace Tm := hide (Tm.out.below hb)
    replace Bm := hide (Bm.out.below hb Bm.out.lt)
    replace Tr := hide (Tr.out.below hb)
    replace Br := hide (Br.out.below hb Br.out.lt)
    clear hb
    have Td := hide hd
    have D1 := hide d1
    have D2 := hide d2
    have D3 := hide d3
    clear hd d1 d2 d3
    have c_A0 := A.out.cell 0
    have c_A1 := A.out.cell 1
    have c_A2 := A.out.cell 2
    have l_A := A.out.lt
    obtain ⟨w17b, hw17b⟩ : ∃ W, W = w17.alloc (.cells #[.slice d.P d.zs.length d.cap, .bool d.u, .slice d.D d.ds.length d.dcap] 38) := ⟨_, rfl⟩
    have hbA : Below w17.heap.size w17 w17b := by rw [hw17b]; exact (Below.refl _ _).alloc (Nat.le_refl _) _
    have Bd : Hid (Has w17b w17.heap.size 38 [.slice d.P d.zs.length d.cap, .bool d.u, .slice d.D d.ds.length d.dcap]) := hide (by rw [hw17b]; exact Has.new _ _ _)
    replace A := hide (A.out.below hbA A.out.lt)
    replace B := hide (B.out.below hbA B.out.lt)
    replace HB := hide (HB.out.trans (hbA.mono HB.out.size))
    replace Ts := hide (Ts.out.below hbA)
    replace Bs := hide (Bs.out.below hbA Bs.out.lt)
    replace Tm := hide (Tm.out.below hbA)
    replace Bm := hide (Bm.out.below hbA Bm.out.lt)
    replace Tr := hide (Tr.out.below hbA)
    replace Br := hide (Br.out.below hbA Br.out.lt)
    replace Td := hide (Td.out.below hbA)
    have Hw17b := hide hw17b
    clear hw17b hbA
    go_wp2_with fail
    rw [← Hw17b.out]
    clear Hw17b c_A0 c_A1 c_A2 l_A
    refine (same_good d a w17b Td.out (TA.out _ HB.out) (D1.out.trans S1.out) (D2.out.trans S2.out) (by rw [D3.out, S2.out, S3.out, HU.out, Elm.part_length]; exact Elm.part_back _ _ HP.out.len (by have := fine_fit HP.out.fa; rw [HU.out] at this; exact this) (by have := fine_fit HP.out.fb; rw [← HP.out.u, HU.out] at this; exact this))).mono ?_
    rintro e w18 ⟨rfl, hb⟩
    replace A := hide (A.out.below hb A.out.lt)
    replace B := hide (B.out.below hb B.out.lt)
    replace HB := hide (HB.out.trans (hb.mono HB.out.size))
    replace Ts := hide (Ts.out.below hb)
    replace Bs := hide (Bs.out.below hb Bs.out.lt)
    replace Tm := hide (Tm.out.below hb)
    replace Bm := hide (Bm.out.below hb Bm.out.lt)
    replace Tr := hide (Tr.out.below hb)
    replace Br := hide (Br.out.below hb Br.out.lt)
    replace Td := hide (Td.out.below hb)
    replace Bd := hide (Bd.out.below hb Bd.out.lt)
    clear hb
    clear Bs Ts Bd Td
    clear S1 S2 S3 D1 D2 D3 HPS HU
    have lm : Hid (m.ds.length = n) := hide (by rw [M3.out, Elm.part_length]; exact hn.out)
    have lr : Hid (r.ds.length = n) := hide (by rw [R3.out, Elm.part_length]; exact hn.out)
    have lb : Hid (b.ds.length = n) := hide (by rw [HP.out.len]; exact hn.out)
    have ln : n ≤ 300 := by rw [← hn.out]; exact la
    clear la
    go_wp2_with fail
    go_loopw [20] (fun k wr => ∃ i q : Nat, i ≤ n ∧ k = .int .i64 i ∧ wr = w18.drewN q) (fun k _ => n - (intOf k).toNat)
    case atStart => exact ⟨0, 0, by omega, rfl, rfl⟩
    case round =>
      obtain ⟨i, q, hi, rfl, rfl⟩ := hrel
      by_cases hlt : i < n
      · obtain ⟨ad, x, hAD, ex, cx⟩ := ri_at (TA.out _ HB.out).dat i (by rw [hn.out]; exact hlt)
        obtain ⟨bd, y, hBD, ey, cy⟩ := ri_at (TB.out _ HB.out).dat i (by rw [lb.out]; exact hlt)
        obtain ⟨md, mm, hMD, em, cm⟩ := ri_at Tm.out.dat i (by rw [lm.out]; exact hlt)
        obtain ⟨rd, rr, hRD, er, cr⟩ := ri_at Tr.out.dat i (by rw [lr.out]; exact hlt)
        have hmm : Hid (mm = max x y) := hide (by
          have h := em.out
          rw [M3.out, hn.out] at h
          rw [Elm.part_at 7 a.u [] a.ds b.ds 0 n i x y hlt (by rw [Nat.zero_add]; exact ex.out) (by rw [Nat.zero_add]; exact ey.out)] at h
          exact (Option.some.inj h).symm)
        have hrr : Hid (rr = max x 0) := hide (by
          have h := er.out
          rw [R3.out, hn.out] at h
          rw [Elm.part_at 8 a.u [] a.ds a.ds 0 n i x x hlt (by rw [Nat.zero_add]; exact ex.out) (by rw [Nat.zero_add]; exact ex.out)] at h
          exact (Option.some.inj h).symm)
        have f1 : (if x < y then y else x) = mm := by have := hmm.out; split <;> omega
        have f2 : (if y < x then x else y) = mm := by have := hmm.out; split <;> omega
        have f3 : (if x < 0 then 0 else x) = rr := by have := hrr.out; split <;> omega
        have f4 : (if 0 < x then x else 0) = rr := by have := hrr.out; split <;> omega
        have him : (i : Int) < n := by omega
        have hi0 : (0 : Int) ≤ (i : Int) := by omega
        have cA := A.out.cell 2
        have cB := B.out.cell 2
        have cM := Bm.out.cell 2
        have cR := Br.out.cell 2
        simp only [List.getElem?_cons_succ, List.getElem?_cons_zero] at cA cB cM cR
        rw [hAD, hn.out] at cA
        rw [hBD, lb.out] at cB
        rw [hMD, lm.out] at cM
        rw [hRD, lr.out] at cR
        clear hAD hBD hMD hRD
        go_wp2_with fail
        go_quiet (fail)
        go_wp2_with fail
        go_roundw
        case rel => exact ⟨i + 1, q + nq, by omega, by go_num, by first | rfl | exact World.drewN_drewN | exact World.drewN_drewN.symm | (simp only [World.drewN_drewN]; done)⟩
        case measure => simp [intOf]; omega
      · obtain rfl : i = n := by omega
        have nlt : ¬ ((i : Int) < i) := by omega
        have hd : Below w18.heap.size w18 (w18.drewN q) := below_drewN (Below.refl _ _) q
        replace A := hide (A.out.below hd A.out.lt)
        replace B := hide (B.out.below hd B.out.lt)
        replace HB := hide (HB.out.trans (hd.mono HB.out.size))
        replace Tm := hide (Tm.out.below hd)
        replace Bm := hide (Bm.out.below hd Bm.out.lt)
        replace Tr := hide (Tr.out.below hd)
        replace Br := hide (Br.out.below hd Br.out.lt)
        clear hd
        generalize w18.drewN q = wl at *
        clear Bm Br Tm Tr
        clear M1 M2 M3 R1 R2 R3 lm lr lb hlt hi
        have c_A0 := A.out.cell 0
        have c_A1 := A.out.cell 1
        have c_A2 := A.out.cell 2
        have l_A := A.out.lt
        simp only [List.getElem?_cons_succ, List.getElem?_cons_zero] at c_A2
        rw [hn.out] at c_A2
        obtain ⟨wl1, hwl1⟩ : ∃ W, W = wl.alloc (.cells #[.int .i64 (-3), .int .i64 3] 3) := ⟨_, rfl⟩
        have hbA : Below wl.heap.size wl wl1 := by rw [hwl1]; exact (Below.refl _ _).alloc (Nat.le_refl _) _
        have QA : Hid (Has wl1 wl.heap.size 3 [.int .i64 (-3), .int .i64 3]) := hide (by rw [hwl1]; exact Has.new _ _ _)
        replace A := hide (A.out.below hbA A.out.lt)
        replace B := hide (B.out.below hbA B.out.lt)
        replace HB := hide (HB.out.trans (hbA.mono HB.out.size))
        have Hwl1 := hide hwl1
        clear hwl1 hbA
        go_wp2_with fail
        rw [← Hwl1.out]
        clear Hwl1 c_A0 c_A1 c_A2 l_A nlt
        rw [← hn.out]
        refine (one_good 9 (by decide) [-3, 3] HP.out.fa rfl (may_clamp _) _ 2 ah am ar ak wl1 (TA.out _ HB.out) (show Ri _ _ [-3, 3] from (show Has _ _ 3 (i64s [-3, 3]) from QA.out).ri (by decide)) (HE.out _ HB.out)).mono ?_
        rintro e wl2 ⟨⟨c, rfl, hc, c1, c2, c3⟩, hb⟩
        replace A := hide (A.out.below hb A.out.lt)
        replace B := hide (B.out.below hb B.out.lt)
        replace HB := hide (HB.out.trans (hb.mono HB.out.size))
        replace QA := hide (QA.out.below hb QA.out.lt)
        clear hb
        have Tc := hide hc
        have C1 := hide c1
        have C2 := hide c2
        have C3 := hide c3
        clear hc c1 c2 c3
        obtain ⟨wl3, hwl3⟩ : ∃ W, W = wl2.alloc (.cells #[.slice c.P c.zs.length c.cap, .bool c.u, .slice c.D c.ds.length c.dcap] 38) := ⟨_, rfl⟩
        have hbA : Below wl2.heap.size wl2 wl3 := by rw [hwl3]; exact (Below.refl _ _).alloc (Nat.le_refl _) _
        have Bc : Hid (Has wl3 wl2.heap.size 38 [.slice c.P c.zs.length c.cap, .bool c.u, .slice c.D c.ds.length c.dcap]) := hide (by rw [hwl3]; exact Has.new _ _ _)
        replace A := hide (A.out.below hbA A.out.lt)
        replace B := hide (B.out.below hbA B.out.lt)
        replace HB := hide (HB.out.trans (hbA.mono HB.out.size))
        replace QA := hide (QA.out.below hbA QA.out.lt)
        replace Tc := hide (Tc.out.below hbA)
        have Hwl3 := hide hwl3
        clear hwl3 hbA
        obtain ⟨wl4, hwl4⟩ : ∃ W, W = wl3.alloc (.cells #[.int .i64 (-3), .int .i64 3] 3) := ⟨_, rfl⟩
        have hbA : Below wl3.heap.size wl3 wl4 := by rw [hwl4]; exact (Below.refl _ _).alloc (Nat.le_refl _) _
        have QB : Hid (Has wl4 (wl2.heap.size + 1) 3 [.int .i64 (-3), .int .i64 3]) := hide (by rw [hwl4]; exact box_at _ _ _ _ (by rw [Hwl3.out]; simp))
        replace A := hide (A.out.below hbA A.out.lt)
        replace B := hide (B.out.below hbA B.out.lt)
        replace HB := hide (HB.out.trans (hbA.mono HB.out.size))
        replace QA := hide (QA.out.below hbA QA.out.lt)
        replace Tc := hide (Tc.out.below hbA)
        replace Bc := hide (Bc.out.below hbA Bc.out.lt)
        have Hwl4 := hide hwl4
        clear hwl4 hbA
        go_wp2_with fail
        rw [← Hwl3.out]
        rw [← Hwl4.out]
        clear Hwl3 Hwl4
        have hcf : c.fault = (0, none) := by
          show Tens.fault c.zs c.u c.ds = (0, none)
          rw [C1.out, C2.out, C3.out]
          exact fault_fine HP.out.fa (Elm.part_length _ _ _ _ _ _ _) (Elm.part_fit9 _ _ _)
        refine (one_good 9 (by decide) [-3, 3] hcf rfl (may_clamp _) _ 2 ah am ar ak wl4 Tc.out (show Ri _ _ [-3, 3] from (show Has _ _ 3 (i64s [-3, 3]) from QB.out).ri (by decide)) (HE.out _ HB.out)).mono ?_
        rintro e wl5 ⟨⟨d2, rfl, hd2, d21, d22, d23⟩, hb⟩
        replace A := hide (A.out.below hb A.out.lt)
        replace B := hide (B.out.below hb B.out.lt)
        replace HB := hide (HB.out.trans (hb.mono HB.out.size))
        replace QA := hide (QA.out.below hb QA.out.lt)
        replace Tc := hide (Tc.out.below hb)
        replace Bc := hide (Bc.out.below hb Bc.out.lt)
        replace QB := hide (QB.out.below hb QB.out.lt)
        clear hb
        have Td2 := hide hd2
        have D1 := hide d21
        have D2 := hide d22
        have D3 := hide d23
        clear hd2 d21 d22 d23 hcf
        have c_Bc0 := Bc.out.cell 0
        have c_Bc1 := Bc.out.cell 1
        have c_Bc2 := Bc.out.cell 2
        have l_Bc := Bc.out.lt
        obtain ⟨wl6, hwl6⟩ : ∃ W, W = wl5.alloc (.cells #[.slice d2.P d2.zs.length d2.cap, .bool d2.u, .slice d2.D d2.ds.length d2.dcap] 38) := ⟨_, rfl⟩
        have hbA : Below wl5.heap.size wl5 wl6 := by rw [hwl6]; exact (Below.refl _ _).alloc (Nat.le_refl _) _
        have Bd2 : Hid (Has wl6 wl5.heap.size 38 [.slice d2.P d2.zs.length d2.cap, .bool d2.u, .slice d2.D d2.ds.length d2.dcap]) := hide (by rw [hwl6]; exact Has.new _ _ _)
        replace A := hide (A.out.below hbA A.out.lt)
        replace B := hide (B.out.below hbA B.out.lt)
        replace HB := hide (HB.out.trans (hbA.mono HB.out.size))
        replace QA := hide (QA.out.below hbA QA.out.lt)
        replace Tc := hide (Tc.out.below hbA)
        replace Bc := hide (Bc.out.below hbA Bc.out.lt)
        replace QB := hide (QB.out.below hbA QB.out.lt)
        replace Td2 := hide (Td2.out.below hbA)
        have Hwl6 := hide hwl6
        clear hwl6 hbA
        go_wp2_with fail
        rw [← Hwl6.out]
        clear Hwl6 c_Bc0 c_Bc1 c_Bc2 l_Bc
        refine (same_good c d2 wl6 Tc.out Td2.out D1.out.symm D2.out.symm (by rw [D3.out, C2.out, C3.out, Elm.part_length]; exact (Elm.part_clamp _ _).symm)).mono ?_
        rintro e wl7 ⟨rfl, hb⟩
        replace A := hide (A.out.below hb A.out.lt)
        replace B := hide (B.out.below hb B.out.lt)
        replace HB := hide (HB.out.trans (hb.mono HB.out.size))
        replace QA := hide (QA.out.below hb QA.out.lt)
        replace Tc := hide (Tc.out.below hb)
        replace Bc := hide (Bc.out.below hb Bc.out.lt)
        replace QB := hide (QB.out.below hb QB.out.lt)
        replace Td2 := hide (Td2.out.below hb)
        replace Bd2 := hide (Bd2.out.below hb Bd2.out.lt)
        clear hb
        go_wp2_with fail
        go_ret
        exact ⟨rfl, HB.out⟩
end Go.Proofs.YtbnaaomkndbpoaaDoor
