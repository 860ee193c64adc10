/-
  The law ElemScales, walked. By an AI agent. No person has read it.
-/
import Derived.Test.YtgdcfjmpjhlndaaDoorElmLaws
import Derived.Test.YtgdcfjmpjhlndaaDoorShpCl
import Derived.Test.YtgdcfjmpjhlndaaDoorCelO
namespace Go.Proofs.YtgdcfjmpjhlndaaDoor
open Go.RowKit

theorem Elm.one_gen (op : Int) (ho : 8 ≤ op ∧ op ≤ 11) (qs : List Int) {a : Ten} (h : a.fault = (0, none)) (hq : qs.length = Elm.nargs op) (hm : Elm.may op a.u qs = true) (h10 : op = 10 → a.u = true) (h11 : op = 11 → a.u = false) :
    Elm.fault op qs [a] = (0, none) ∧ Elm.ozs op qs [a] = a.zs ∧ Elm.ou op qs [a] = Elm.wide op a.u ∧ Elm.ods op qs [a] = Elm.part op a.u qs a.ds a.ds 0 a.ds.length := by
  have h1 : Tens.first [a] = (0, none) := Tens.first_none _ (fun j t ht => by
    match j, ht with
    | 0, ht => cases ht; exact h)
  have hk : Elm.known op = true := decide_eq_true (by omega)
  have hn : Elm.nins op = 1 := by unfold Elm.nins; rw [if_neg (by omega)]
  have hca := (fine_len h).2
  have h2 : Elm.code op qs [a.look] = 0 := by
    unfold Elm.code
    rw [if_neg (by rw [hk]; decide), if_neg (by rw [hn, hq]; simp), if_neg (fun hf => hf (by
      show (if Shp.code a.zs = 0 then 0 else Shp.code a.zs) = 0
      rw [if_pos hca])), if_neg (by
      have e : Elm.alike op [a.look] = if op = 10 then a.u else if op = 11 then !a.u else true := rfl
      rw [e]
      by_cases g : op = 10
      · rw [if_pos g, h10 g]; decide
      · rw [if_neg g]
        by_cases g' : op = 11
        · rw [if_pos g', h11 g']; decide
        · rw [if_neg g']; decide), if_neg (by
      have e : Elm.may op ((List.head? [a.look]).map (·.u) |>.getD false) qs = Elm.may op a.u qs := rfl
      rw [e, hm]
      decide)]
  have h3 : Elm.fault op qs [a] = (0, none) := by
    unfold Elm.fault
    rw [if_pos h1]
    exact congrArg (fun k => (k, none)) h2
  refine ⟨h3, ?_, ?_, ?_⟩
  · unfold Elm.ozs; rw [if_pos h3]; rfl
  · unfold Elm.ou; rw [if_pos h3]; rfl
  · unfold Elm.ods; rw [if_pos h3]; rfl
theorem one_gen_c (op : Int) (ho : 8 ≤ op ∧ op ≤ 11) (qs : List Int) {a : Ten} (h : a.fault = (0, none)) (hq : qs.length = Elm.nargs op) (hm : Elm.may op a.u qs = true) (h10 : op = 10 → a.u = true) (h11 : op = 11 → a.u = false) (A : Option Addr) (qcap : Nat) (ah am ar ak : Addr) (w : World) (ha : a.In w) (hQ : Ri w A qs) (hE : E4 w ah am ar ak) :
    Calls Tryd.prog 13 #[.int .i64 op, .agg (tcells a.P a.zs.length a.cap a.u a.D a.ds.length a.dcap), .slice A qs.length qcap] w fun e w' =>
      (∃ t : Ten, e = .returned (.tuple #[.agg (tcells t.P t.zs.length t.cap t.u t.D t.ds.length t.dcap), .nilIface]) ∧ t.In w' ∧ t.zs = a.zs ∧ t.u = Elm.wide op a.u ∧ t.ds = Elm.part op a.u qs a.ds a.ds 0 a.ds.length) ∧ Below w.heap.size w w' := by
  obtain ⟨h1, h2, h3, h4⟩ := Elm.one_gen op ho qs h hq hm h10 h11
  refine (one_c op qs a A qcap ah am ar ak w ha hQ hE).mono ?_
  rintro e w' ⟨⟨t, x, rfl, hIn, -, e1, e2, e3, hEr⟩, hB⟩
  rw [h1] at hEr
  obtain rfl := terr_nil hEr
  exact ⟨⟨t, rfl, hIn, e1.trans h2, e2.trans h3, e3.trans h4⟩, hB⟩
theorem ri_drew {w : World} {A : Option Addr} {zs : List Int} (h : Ri w A zs) (k : Nat) : Ri (w.drewN k) A zs := h.below (below_drewN (Below.refl _ _) k)
theorem req_one (x z : Int) (hx : -128 ≤ x ∧ x ≤ 127) (hz : -128 ≤ z ∧ z ≤ 127) : Qua.req (x - z) 1073741824 30 z = x := by
  have c : ∀ v a b : Int, a ≤ v → v ≤ b → Flt.clamp v a b = v := fun v a b h1 h2 => by
    unfold Flt.clamp
    split <;> split <;> omega
  unfold Qua.req
  rw [c (x - z) _ _ (by omega) (by omega), c 1073741824 _ _ (by decide) (by decide), c 30 _ _ (by decide) (by decide), c z _ _ hz.1 hz.2]
  have hd : Qua.down ((x - z) * 1073741824) ((30 : Int).toNat) = x - z := by
    show (if 0 < 30 then (x - z) * 1073741824 + 2 ^ (30 - 1) else (x - z) * 1073741824) / 2 ^ 30 = x - z
    rw [if_pos (by decide)]
    have e1 : (2 : Int) ^ (30 - 1) = 536870912 := by decide
    have e2 : (2 : Int) ^ 30 = 1073741824 := by decide
    rw [e1, e2]
    omega
  rw [hd, c (x - z + z) _ _ (by omega) (by omega)]
  omega
/-- Numbers of narrow, in a row of so many. -/
theorem row_fine (ds : List Int) (u : Bool) (h1 : 1 ≤ ds.length) (h2 : ds.length ≤ 100) (hf : ∀ d ∈ ds, Tens.fit u d = true) : Tens.fault [(ds.length : Int)] u ds = (0, none) := by
  have hc : Shp.code [(ds.length : Int)] = 0 := by
    unfold Shp.code
    rw [if_neg (by simp), if_neg (by
      have e : List.all [(ds.length : Int)] Shp.okDim = true := by
        simp only [List.all_cons, List.all_nil, Bool.and_true]
        exact decide_eq_true (by omega)
      rw [e]
      decide), if_neg (by
      have e : Shp.prod [(ds.length : Int)] = (ds.length : Int) * 1 := rfl
      rw [e]
      omega)]
  have hel : (ds.length : Int) = Shp.elems [(ds.length : Int)] := by
    unfold Shp.elems
    rw [if_pos (show Shp.ok [(ds.length : Int)] = true from decide_eq_true hc)]
    show (ds.length : Int) = (ds.length : Int) * 1
    omega
  exact Tens.fault_none _ u ds hc hel (fun _ _ hj => hf _ (List.mem_of_getElem? hj))
theorem Elm.widen_at (ds : List Int) (z : Int) (hz : -128 ≤ z ∧ z ≤ 127) (hd : ∀ d ∈ ds, -128 ≤ d ∧ d ≤ 127) (i : Nat) (x : Int) (hx : ds[i]? = some x) : (Elm.part 11 false [z] ds ds 0 ds.length)[i]? = some (x - z) := by
  rw [Elm.part_at 11 false [z] ds ds 0 ds.length i x x (List.getElem?_eq_some_iff.1 hx).1 (by rw [Nat.zero_add]; exact hx) (by rw [Nat.zero_add]; exact hx)]
  have := hd x (List.mem_of_getElem? hx)
  show some (IntKind.i64.wrap (x - z)) = _
  rw [IntKind.wrap_i64]
  congr 1
  omega
theorem Elm.widen_fit (ds : List Int) (z : Int) (hz : -128 ≤ z ∧ z ≤ 127) (hd : ∀ d ∈ ds, -128 ≤ d ∧ d ≤ 127) : ∀ y ∈ Elm.part 11 false [z] ds ds 0 ds.length, Tens.fit true y = true := by
  intro y hy
  obtain ⟨i, hi⟩ := List.mem_iff_getElem?.1 hy
  have hl := (List.getElem?_eq_some_iff.1 hi).1
  rw [Elm.part_length] at hl
  have h1 := List.getElem?_eq_getElem hl
  rw [Elm.widen_at ds z hz hd i _ h1] at hi
  have := hd _ (List.getElem_mem hl)
  obtain rfl := Option.some.inj hi
  exact decide_eq_true (by omega)
theorem Elm.requant_at (ds : List Int) (z m s : Int) (hz : -128 ≤ z ∧ z ≤ 127) (hd : ∀ d ∈ ds, -128 ≤ d ∧ d ≤ 127) (i : Nat) (x : Int) (hx : ds[i]? = some x) :
    (Elm.part 10 true [m, s, z] (Elm.part 11 false [z] ds ds 0 ds.length) (Elm.part 11 false [z] ds ds 0 ds.length) 0 (Elm.part 11 false [z] ds ds 0 ds.length).length)[i]? = some (Qua.req (x - z) m s z) := by
  have h1 := Elm.widen_at ds z hz hd i x hx
  rw [Elm.part_at 10 true [m, s, z] _ _ 0 _ i (x - z) (x - z) (List.getElem?_eq_some_iff.1 h1).1 (by rw [Nat.zero_add]; exact h1) (by rw [Nat.zero_add]; exact h1)]
  rfl
theorem Elm.requant_back (ds : List Int) (z : Int) (hz : -128 ≤ z ∧ z ≤ 127) (hd : ∀ d ∈ ds, -128 ≤ d ∧ d ≤ 127) :
    Elm.part 10 true [1073741824, 30, z] (Elm.part 11 false [z] ds ds 0 ds.length) (Elm.part 11 false [z] ds ds 0 ds.length) 0 (Elm.part 11 false [z] ds ds 0 ds.length).length = ds := by
  refine List.ext_getElem? fun i => ?_
  by_cases hi : i < ds.length
  · have h1 := List.getElem?_eq_getElem hi
    rw [Elm.requant_at ds z _ _ hz hd i _ h1, req_one _ z (hd _ (List.getElem_mem hi)) hz, h1]
  · rw [List.getElem?_eq_none (by rw [Elm.part_length, Elm.part_length]; omega), List.getElem?_eq_none (by omega)]
theorem may_req (m s z : Int) (hm : 0 ≤ m ∧ m ≤ 2147483647) (hs : 0 ≤ s ∧ s ≤ 62) (hz : -128 ≤ z ∧ z ≤ 127) : Elm.may 10 true [m, s, z] = true := by
  show (decide (0 ≤ m) && decide (m ≤ 2147483647) && decide (0 ≤ s) && decide (s ≤ 62) && Tens.fit false z) = true
  rw [decide_eq_true hm.1, decide_eq_true hm.2, decide_eq_true hs.1, decide_eq_true hs.2, show Tens.fit false z = true from decide_eq_true hz]
  rfl
theorem fault_to {zs ds es : List Int} {u v : Bool} (h : Tens.fault zs u ds = (0, none)) (hl : es.length = ds.length) (hf : ∀ z ∈ es, Tens.fit v z = true) : Tens.fault zs v es = (0, none) :=
  Tens.fault_none zs v es (fine_len h).2 (by have := (fine_len h).1; omega) (fun _ _ hj => hf _ (List.mem_of_getElem? hj))
end Go.Proofs.YtgdcfjmpjhlndaaDoor
