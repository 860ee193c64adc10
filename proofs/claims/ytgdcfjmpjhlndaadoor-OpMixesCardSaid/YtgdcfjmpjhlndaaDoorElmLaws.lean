/-
  The law ElemLaws, walked. By an AI agent. No person has read it.
-/
import Derived.Test.YtgdcfjmpjhlndaaDoorElmFirst
import Derived.Test.YtgdcfjmpjhlndaaDoorElmS
namespace Go.Proofs.YtgdcfjmpjhlndaaDoor
open Go.RowKit

theorem kept_fit (u : Bool) (n : Int) : Tens.fit u (Elm.kept u n) = true := by
  unfold Elm.kept
  cases u
  · exact decide_eq_true (by show -128 ≤ Tens.narrow n ∧ Tens.narrow n ≤ 127; unfold Tens.narrow; omega)
  · exact decide_eq_true (by show -2147483648 ≤ Tens.wide n ∧ Tens.wide n ≤ 2147483647; unfold Tens.wide; omega)
/-- Two good tensors that look alike. -/
structure Elm.Pair (a b : Ten) : Prop where
  fa : a.fault = (0, none)
  fb : b.fault = (0, none)
  z : a.zs = b.zs
  u : a.u = b.u
theorem Elm.Pair.swap {a b : Ten} (h : Elm.Pair a b) : Elm.Pair b a := ⟨h.fb, h.fa, h.z.symm, h.u.symm⟩
theorem Elm.Pair.len {a b : Ten} (h : Elm.Pair a b) : b.ds.length = a.ds.length := by
  have h1 := (fine_len h.fa).1
  have h2 := (fine_len h.fb).1
  rw [h.z] at h1
  omega
/-- What a lawful operation of two comes to. -/
theorem Elm.two_is (op : Int) (ho : 4 ≤ op ∧ op ≤ 7) {a b : Ten} (h : Elm.Pair a b) : Elm.fault op [] [a, b] = (0, none) ∧ Elm.ozs op [] [a, b] = a.zs ∧ Elm.ou op [] [a, b] = a.u ∧ Elm.ods op [] [a, b] = Elm.part op a.u [] a.ds b.ds 0 a.ds.length := by
  have h1 : Tens.first [a, b] = (0, none) := Tens.first_none _ (fun j t ht => by
    match j, ht with
    | 0, ht => cases ht; exact h.fa
    | 1, ht => cases ht; exact h.fb)
  have hk : Elm.known op = true := decide_eq_true (by omega)
  have hn : Elm.nins op = 2 := by unfold Elm.nins; rw [if_pos ho]
  have hq : Elm.nargs op = 0 := by unfold Elm.nargs; rw [if_neg (by omega), if_neg (by omega), if_neg (by omega)]
  have hca := (fine_len h.fa).2
  have hcb := (fine_len h.fb).2
  have h2 : Elm.code op [] [a.look, b.look] = 0 := by
    unfold Elm.code
    rw [if_neg (by rw [hk]; decide), if_neg (by rw [hn, hq]; simp), if_neg (fun hf => hf (by
      show (if Shp.code a.zs = 0 then (if Shp.code b.zs = 0 then 0 else Shp.code b.zs) else Shp.code a.zs) = 0
      rw [if_pos hca, if_pos hcb])), if_neg (by
      have e : Elm.alike op [a.look, b.look] = (decide (a.zs = b.zs) && (a.u == b.u)) := rfl
      rw [e, decide_eq_true h.z, h.u]
      simp), if_neg (by
      unfold Elm.may
      rw [if_neg (by omega), if_neg (by omega), if_neg (by omega)]
      decide)]
  have h3 : Elm.fault op [] [a, b] = (0, none) := by
    unfold Elm.fault
    rw [if_pos h1]
    exact congrArg (fun k => (k, none)) h2
  refine ⟨h3, ?_, ?_, ?_⟩
  · unfold Elm.ozs; rw [if_pos h3]; rfl
  · unfold Elm.ou
    rw [if_pos h3]
    show Elm.wide op a.u = a.u
    unfold Elm.wide
    have e1 : (op == 11) = false := by simp; omega
    have e2 : (op != 10) = true := by simp; omega
    rw [e1, e2]
    simp
  · unfold Elm.ods; rw [if_pos h3]; rfl
/-- .. of one: relu, clamp. -/
theorem Elm.one_is (op : Int) (ho : op = 8 ∨ op = 9) (qs : List Int) {a : Ten} (h : a.fault = (0, none)) (hq : qs.length = Elm.nargs op) (hm : Elm.may op a.u qs = true) :
    Elm.fault op qs [a] = (0, none) ∧ Elm.ozs op qs [a] = a.zs ∧ Elm.ou op qs [a] = a.u ∧ Elm.ods op qs [a] = Elm.part op a.u qs a.ds a.ds 0 a.ds.length := by
  have h1 : Tens.first [a] = (0, none) := Tens.first_none _ (fun j t ht => by
    match j, ht with
    | 0, ht => cases ht; exact h)
  have hk : Elm.known op = true := decide_eq_true (by omega)
  have hn : Elm.nins op = 1 := by unfold Elm.nins; rw [if_neg (by omega)]
  have hca := (fine_len h).2
  have h2 : Elm.code op qs [a.look] = 0 := by
    unfold Elm.code
    rw [if_neg (by rw [hk]; decide), if_neg (by rw [hn, hq]; simp), if_neg (fun hf => hf (by
      show (if Shp.code a.zs = 0 then 0 else Shp.code a.zs) = 0
      rw [if_pos hca])), if_neg (by
      have e : Elm.alike op [a.look] = if op = 10 then a.u else if op = 11 then !a.u else true := rfl
      rw [e, if_neg (by omega), if_neg (by omega)]
      decide), if_neg (by
      have e : Elm.may op ((List.head? [a.look]).map (·.u) |>.getD false) qs = Elm.may op a.u qs := rfl
      rw [e, hm]
      decide)]
  have h3 : Elm.fault op qs [a] = (0, none) := by
    unfold Elm.fault
    rw [if_pos h1]
    exact congrArg (fun k => (k, none)) h2
  refine ⟨h3, ?_, ?_, ?_⟩
  · unfold Elm.ozs; rw [if_pos h3]; rfl
  · unfold Elm.ou
    rw [if_pos h3]
    show Elm.wide op a.u = a.u
    unfold Elm.wide
    have e1 : (op == 11) = false := by simp; omega
    have e2 : (op != 10) = true := by simp; omega
    rw [e1, e2]
    simp
  · unfold Elm.ods; rw [if_pos h3]; rfl
theorem Elm.part_comm (op : Int) (ho : op = 4 ∨ op = 6) (u : Bool) (ds es : List Int) (n : Nat) : Elm.part op u [] ds es 0 n = Elm.part op u [] es ds 0 n := by
  unfold Elm.part
  refine List.map_congr_left fun i _ => ?_
  rcases ho with rfl | rfl
  · show Elm.kept u (IntKind.i64.wrap (_ + _)) = Elm.kept u (IntKind.i64.wrap (_ + _))
    rw [Int.add_comm]
  · show Elm.kept u (IntKind.i64.wrap (_ * _)) = Elm.kept u (IntKind.i64.wrap (_ * _))
    rw [Int.mul_comm]
/-- Elements that fit, as many as a shape has: nothing is amiss. -/
theorem fault_fine {zs ds es : List Int} {u : Bool} (h : Tens.fault zs u ds = (0, none)) (hl : es.length = ds.length) (hf : ∀ z ∈ es, Tens.fit u z = true) : Tens.fault zs u es = (0, none) :=
  Tens.fault_none zs u es (fine_len h).2 (by have := (fine_len h).1; omega) (fun _ _ hj => hf _ (List.mem_of_getElem? hj))
theorem fine_fit {zs ds : List Int} {u : Bool} (h : Tens.fault zs u ds = (0, none)) : ∀ z ∈ ds, Tens.fit u z = true := by
  unfold Tens.fault at h
  split at h
  · rename_i hc; exact absurd (congrArg Prod.fst h) hc
  · split at h
    · cases h
    · split at h
      · cases h
      · rename_i hn
        rw [List.findIdx?_eq_none_iff] at hn
        intro z hz
        simpa using hn z hz
theorem Elm.part_fit (op : Int) (ho : op = 4 ∨ op = 6) (u : Bool) (ds es : List Int) (n : Nat) : ∀ z ∈ Elm.part op u [] ds es 0 n, Tens.fit u z = true := by
  intro z hz
  unfold Elm.part at hz
  obtain ⟨i, -, rfl⟩ := List.mem_map.1 hz
  rcases ho with rfl | rfl
  · exact kept_fit u _
  · exact kept_fit u _
/-- Wide: added, then taken away. -/
theorem Elm.part_back (ds es : List Int) (hl : es.length = ds.length) (hd : ∀ z ∈ ds, Tens.fit true z = true) (he : ∀ z ∈ es, Tens.fit true z = true) : Elm.part 5 true [] (Elm.part 4 true [] ds es 0 ds.length) es 0 ds.length = ds := by
  refine List.ext_getElem? fun i => ?_
  by_cases hi : i < ds.length
  · have h1 := List.getElem?_eq_getElem hi
    have h2 := List.getElem?_eq_getElem (show i < es.length by omega)
    have f1 : -2147483648 ≤ ds[i] ∧ ds[i] ≤ 2147483647 := of_decide_eq_true (hd _ (List.getElem_mem hi))
    have f2 : -2147483648 ≤ es[i]'(by omega) ∧ es[i]'(by omega) ≤ 2147483647 := of_decide_eq_true (he _ (List.getElem_mem (by omega)))
    have h3 := Elm.part_at 4 true [] ds es 0 ds.length i _ _ hi (by rw [Nat.zero_add]; exact h1) (by rw [Nat.zero_add]; exact h2)
    rw [Elm.part_at 5 true [] _ es 0 ds.length i _ _ hi (by rw [Nat.zero_add]; exact h3) (by rw [Nat.zero_add]; exact h2), h1]
    show some (Tens.wide (IntKind.i64.wrap (Tens.wide (IntKind.i64.wrap (_ + _)) - _))) = _
    rw [IntKind.wrap_i64, IntKind.wrap_i64]
    unfold Tens.wide
    congr 1
    omega
  · rw [List.getElem?_eq_none (by rw [Elm.part_length]; omega), List.getElem?_eq_none (by omega)]
theorem Elm.part_clamp (u : Bool) (ds : List Int) : Elm.part 9 u [-3, 3] (Elm.part 9 u [-3, 3] ds ds 0 ds.length) (Elm.part 9 u [-3, 3] ds ds 0 ds.length) 0 ds.length = Elm.part 9 u [-3, 3] ds ds 0 ds.length := by
  refine List.ext_getElem? fun i => ?_
  by_cases hi : i < ds.length
  · have h1 := List.getElem?_eq_getElem hi
    have h3 := Elm.part_at 9 u [-3, 3] ds ds 0 ds.length i _ _ hi (by rw [Nat.zero_add]; exact h1) (by rw [Nat.zero_add]; exact h1)
    rw [Elm.part_at 9 u [-3, 3] _ _ 0 ds.length i _ _ hi (by rw [Nat.zero_add]; exact h3) (by rw [Nat.zero_add]; exact h3), h3]
    show some (max (-3) (min (max (-3) (min _ 3)) 3)) = some (max (-3) (min _ 3))
    congr 1
    omega
  · rw [List.getElem?_eq_none (by rw [Elm.part_length]; omega), List.getElem?_eq_none (by rw [Elm.part_length]; omega)]
theorem Elm.part_fit9 (u : Bool) (ds : List Int) (n : Nat) : ∀ z ∈ Elm.part 9 u [-3, 3] ds ds 0 n, Tens.fit u z = true := by
  intro z hz
  unfold Elm.part at hz
  obtain ⟨i, -, rfl⟩ := List.mem_map.1 hz
  have hb : ∀ x : Int, -3 ≤ max (-3) (min x 3) ∧ max (-3) (min x 3) ≤ 3 := fun x => by omega
  have := hb (ds.getD (0 + i) 0)
  show Tens.fit u (max (-3) (min (ds.getD (0 + i) 0) 3)) = true
  unfold Tens.fit
  cases u
  · exact decide_eq_true (by omega)
  · exact decide_eq_true (by omega)
theorem may_clamp (u : Bool) : Elm.may 9 u [-3, 3] = true := by cases u <;> rfl
theorem terr_nil {W : World} {ah am ar ak : Addr} {x : Value} (h : Elm.Err W ah am ar ak x (0, none)) : x = .nilIface := by
  unfold Elm.Err at h
  rw [if_neg (by simp)] at h
  exact h
/-- Two, of a pair. -/
theorem two_good (op : Int) (ho : 4 ≤ op ∧ op ≤ 7) {a b : Ten} (h : Elm.Pair a b) (ah am ar ak : Addr) (w : World) (ha : a.In w) (hb : b.In w) (hE : E4 w ah am ar ak) :
    Calls Tryd.prog 12 #[.int .i64 op, .agg (tcells a.P a.zs.length a.cap a.u a.D a.ds.length a.dcap), .agg (tcells b.P b.zs.length b.cap b.u b.D b.ds.length b.dcap)] w fun e w' =>
      (∃ t : Ten, e = .returned (.tuple #[.agg (tcells t.P t.zs.length t.cap t.u t.D t.ds.length t.dcap), .nilIface]) ∧ t.In w' ∧ t.zs = a.zs ∧ t.u = a.u ∧ t.ds = Elm.part op a.u [] a.ds b.ds 0 a.ds.length) ∧ Below w.heap.size w w' := by
  obtain ⟨h1, h2, h3, h4⟩ := Elm.two_is op ho h
  refine (two_c op a b ah am ar ak w ha hb hE).mono ?_
  rintro e w' ⟨⟨t, x, rfl, hIn, -, e1, e2, e3, hEr⟩, hB⟩
  rw [h1] at hEr
  obtain rfl := terr_nil hEr
  exact ⟨⟨t, rfl, hIn, e1.trans h2, e2.trans h3, e3.trans h4⟩, hB⟩
theorem one_good (op : Int) (ho : op = 8 ∨ op = 9) (qs : List Int) {a : Ten} (h : a.fault = (0, none)) (hq : qs.length = Elm.nargs op) (hm : Elm.may op a.u qs = true) (A : Option Addr) (qcap : Nat) (ah am ar ak : Addr) (w : World) (ha : a.In w) (hQ : Ri w A qs) (hE : E4 w ah am ar ak) :
    Calls Tryd.prog 13 #[.int .i64 op, .agg (tcells a.P a.zs.length a.cap a.u a.D a.ds.length a.dcap), .slice A qs.length qcap] w fun e w' =>
      (∃ t : Ten, e = .returned (.tuple #[.agg (tcells t.P t.zs.length t.cap t.u t.D t.ds.length t.dcap), .nilIface]) ∧ t.In w' ∧ t.zs = a.zs ∧ t.u = a.u ∧ t.ds = Elm.part op a.u qs a.ds a.ds 0 a.ds.length) ∧ Below w.heap.size w w' := by
  obtain ⟨h1, h2, h3, h4⟩ := Elm.one_is op ho qs h hq hm
  refine (one_c op qs a A qcap ah am ar ak w ha hQ hE).mono ?_
  rintro e w' ⟨⟨t, x, rfl, hIn, -, e1, e2, e3, hEr⟩, hB⟩
  rw [h1] at hEr
  obtain rfl := terr_nil hEr
  exact ⟨⟨t, rfl, hIn, e1.trans h2, e2.trans h3, e3.trans h4⟩, hB⟩
theorem valid_good (t : Ten) (ah am ar : Addr) (w : World) (ht : t.In w) (hE : E3 w ah am ar) (hf : Tens.fault t.zs t.u t.ds = (0, none)) :
    Calls Tryd.prog 31 #[.agg (tcells t.P t.zs.length t.cap t.u t.D t.ds.length t.dcap)] w fun e w' => e = .returned .nilIface ∧ Below w.heap.size w w' := by
  refine (tvalid_c t.zs t.ds t.P t.D t.cap t.dcap t.u ah am ar w ht.shp ht.dat (by have := ht.ls; omega) (by have := ht.ld; omega) hE).mono ?_
  rintro e w' ⟨⟨v, rfl, hv⟩, hb⟩
  rw [hf] at hv
  obtain rfl : v = .nilIface := hv
  exact ⟨rfl, hb⟩
/-- The sum, or the product, of a pair is good. -/
theorem Elm.Pair.good {a b : Ten} (h : Elm.Pair a b) (op : Int) (ho : op = 4 ∨ op = 6) {t : Ten} (h1 : t.zs = a.zs) (h2 : t.u = a.u) (h3 : t.ds = Elm.part op a.u [] a.ds b.ds 0 a.ds.length) : Tens.fault t.zs t.u t.ds = (0, none) := by
  rw [h1, h2, h3]
  exact fault_fine h.fa (Elm.part_length _ _ _ _ _ _ _) (Elm.part_fit op ho _ _ _ _)
end Go.Proofs.YtgdcfjmpjhlndaaDoor
