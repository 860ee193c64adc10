/-
  What the answer of an operation of two looks like: elem.Result. By an AI agent. No person has read it.
-/
import Derived.Test.YtbnaaomkndbpoaaDoorElmC
namespace Go.Proofs.YtbnaaomkndbpoaaDoor
open Go.RowKit

theorem results_desc {fn : Func} {p u : Tmp} (h : fn.results = #[.cell p 27, .tmp u]) (tmps : Array Value) (w : World) (g : Nat) (x y : Value)
    (hp : tmps.getD p undef = .pointer (some ⟨g, 0, none⟩)) (hg : Has w g 27 [x, y]) : (results fn tmps).run Tryd.prog w = .ok (.tuple #[.agg #[x, y], tmps.getD u undef]) w := by
  rw [results_cell_tmp h, hp]
  have h1 := run_loadVar_row (P := Tryd.prog) w g 27 27 #[x, y] (0, 0) _ hg Tryd.underlying27 rfl (by kernel_rfl)
  simp [asAddr, h1, Result.andThen]
set_option maxRecDepth 100000 in
set_option maxHeartbeats 8000000 in
theorem result_two (op : Int) (ho : op = 4 ∨ op = 5 ∨ op = 6 ∨ op = 7) (zs : List Int) (P P2 : Option Addr) (cap cap2 k c : Nat) (u : Bool) (ah am ar : Addr) (w : World)
    (hk : Elm.Lies w k [.slice P zs.length cap, .bool u, .slice P2 zs.length cap2, .bool u]) (hr : Ri w P zs) (hr2 : Ri w P2 zs) (hm : zs.length ≤ 1000000) (hE : E3 w ah am ar) (hc : Shp.code zs = 0) :
    Calls Tryd.prog 11 #[.int .i64 op, .slice none 0 0, .slice (some ⟨k, 0, none⟩) 2 c] w fun e w' => (∃ g c rest, e = .returned (.tuple #[.agg (dcells (some ⟨g, 0, none⟩) zs.length c u), .nilIface]) ∧ zs.length ≤ c ∧ c ≤ 9223372036854775807 ∧ Has w' g 3 (i64s zs ++ rest)) ∧ Below w.heap.size w w' := by
  have n10 : op ≠ 10 := by omega
  have n11 : op ≠ 11 := by omega
  have V0 := hide (counts_bin op ho)
  have V1 := hide (fun W (hb : Below w.heap.size w W) => valid_c zs P cap u am ar W (hr.below hb) (by omega) (hE.2.below hb))
  have V2 := hide (fun W (hb : Below w.heap.size w W) => valid_c zs P2 cap2 u am ar W (hr2.below hb) (by omega) (hE.2.below hb))
  have V3 := hide (fun W (hb : Below w.heap.size w W) => looks_bin op ho zs P P2 cap cap2 k c u W (hk.below hb) (hr.below hb) (hr2.below hb) hm)
  have V4 := hide (may_bin op ho none 0 0 u)
  have V5 := hide (fun W (hb : Below w.heap.size w W) => clone_own zs P cap u W (hr.below hb) hm)
  rw [hc, show Shp.err am ar 0 = .nilIface from rfl] at V1 V2
  clear hr hr2 hm hE hc ho
  obtain ⟨n, hn⟩ : ∃ n, zs.length = n := ⟨_, rfl⟩
  rw [hn] at hk V1 V2 V5 ⊢
  clear hn
  have HB := hide ((Below.refl w.heap.size w).alloc (Nat.le_refl _) (.cells #[.slice none 0 0, .bool false] 27))
  have HK := hide (hk.below ((Below.refl w.heap.size w).alloc (Nat.le_refl _) (.cells #[.slice none 0 0, .bool false] 27)))
  have HZ := hide (Has.new w 27 [.slice none 0 0, .bool false])
  have HL := hide hk.1
  clear hk
  go_enter Tryd.func11, Tryd.ntmps11
  go_wp2_with fail
  refine (V0.out _).mono ?_
  rintro e w1 ⟨rfl, rfl⟩
  go_wp2_with fail
  refine wp_loop_rounds 3 ?_
  rw [rounds_succ]
  generalize (w.alloc (.cells #[.slice none 0 0, .bool false] 27)) = W0 at *
  have c0 : W0.cell? ⟨k, 0, none⟩ = some (.slice P n cap) := HK.out.2 0 _ rfl
  have c1 : W0.cell? ⟨k, 1, none⟩ = some (.bool u) := HK.out.2 1 _ rfl
  have HK' := hide (HK.out.below ((Below.refl W0.heap.size W0).alloc (Nat.le_refl _) (.cells #[.slice P n cap, .bool u] 27)))
  have HZ' := hide (HZ.out.alloc (.cells #[.slice P n cap, .bool u] 27))
  have HB' := hide (HB.out.alloc HB.out.size (.cells #[.slice P n cap, .bool u] 27))
  clear HK HZ HB
  have hx := Has.new W0 27 [.slice P n cap, .bool u]
  have d0 : (W0.alloc (.cells #[.slice P n cap, .bool u] 27)).cell? ⟨W0.heap.size, 0, none⟩ = some (.slice P n cap) := hx.cell 0
  have d1 : (W0.alloc (.cells #[.slice P n cap, .bool u] 27)).cell? ⟨W0.heap.size, 1, none⟩ = some (.bool u) := hx.cell 1
  clear hx
  go_wp2_with fail
  clear c0 c1 d0 d1
  refine (V1.out _ HB'.out).mono ?_
  rintro e W1 ⟨rfl, hb⟩
  have HK := hide (HK'.out.below hb)
  have HZ := hide (HZ'.out.below hb HZ'.out.lt)
  have HB := hide (HB'.out.trans (hb.mono HB'.out.size))
  clear HK' HZ' HB' hb
  go_wp2_with fail
  rw [rounds_succ]
  have c0 : W1.cell? ⟨k, 2, none⟩ = some (.slice P2 n cap2) := HK.out.2 2 _ rfl
  have c1 : W1.cell? ⟨k, 3, none⟩ = some (.bool u) := HK.out.2 3 _ rfl
  have HK' := hide (HK.out.below ((Below.refl W1.heap.size W1).alloc (Nat.le_refl _) (.cells #[.slice P2 n cap2, .bool u] 27)))
  have HZ' := hide (HZ.out.alloc (.cells #[.slice P2 n cap2, .bool u] 27))
  have HB' := hide (HB.out.alloc HB.out.size (.cells #[.slice P2 n cap2, .bool u] 27))
  clear HK HZ HB
  have hx := Has.new W1 27 [.slice P2 n cap2, .bool u]
  have d0 : (W1.alloc (.cells #[.slice P2 n cap2, .bool u] 27)).cell? ⟨W1.heap.size, 0, none⟩ = some (.slice P2 n cap2) := hx.cell 0
  have d1 : (W1.alloc (.cells #[.slice P2 n cap2, .bool u] 27)).cell? ⟨W1.heap.size, 1, none⟩ = some (.bool u) := hx.cell 1
  clear hx
  go_wp2_with fail
  clear c0 c1 d0 d1
  refine (V2.out _ HB'.out).mono ?_
  rintro e W2 ⟨rfl, hb⟩
  have HK := hide (HK'.out.below hb)
  have HZ := hide (HZ'.out.below hb HZ'.out.lt)
  have HB := hide (HB'.out.trans (hb.mono HB'.out.size))
  clear HK' HZ' HB' hb
  go_wp2_with fail
  rw [rounds_succ]
  go_wp2_with fail
  refine (V3.out _ HB.out).mono ?_
  rintro e W3 ⟨rfl, hb⟩
  have HK' := hide (HK.out.below hb)
  have HZ' := hide (HZ.out.below hb HZ.out.lt)
  have HB' := hide (HB.out.trans (hb.mono HB.out.size))
  clear HK HZ HB hb
  have c0 : W3.cell? ⟨k, 0, none⟩ = some (.slice P n cap) := HK'.out.2 0 _ rfl
  have c1 : W3.cell? ⟨k, 1, none⟩ = some (.bool u) := HK'.out.2 1 _ rfl
  go_wp2_with fail
  refine (V4.out _).mono ?_
  rintro e W5 ⟨rfl, rfl⟩
  go_wp2_with fail
  refine (V5.out _ HB'.out).mono ?_
  rintro e W4 ⟨⟨g, cc, rest, rfl, hg0, hc1, hc2, hg, -⟩, hb⟩
  have hg0 : w.heap.size < g := Nat.lt_of_lt_of_le (HZ'.out.lt) hg0
  have hz := HZ'.out.below hb HZ'.out.lt
  have hbb := HB'.out.trans (hb.mono HB'.out.size)
  have z0 : W4.cell? ⟨w.heap.size, 0, none⟩ = some (.slice none 0 0) := hz.cell 0
  have z1 : W4.cell? ⟨w.heap.size, 1, none⟩ = some (.bool false) := hz.cell 1
  have zf0 := hz.frozen 0
  have zf1 := hz.frozen 1
  have hzl := hz.lt
  have hgl := hg.lt
  have HR := hide (((hz.set_ 0 (.slice (some ⟨g, 0, none⟩) n cc)).set_ 1 (.bool u)).alloc (.cells #[.slice (some ⟨g, 0, none⟩) n cc, .bool u] 27))
  have HG := hide (((hg.far (p := ⟨w.heap.size, 0, none⟩) (by simp; omega) (.slice (some ⟨g, 0, none⟩) n cc)).far (p := ⟨w.heap.size, 1, none⟩) (by simp; omega) (.bool u)).alloc (.cells #[.slice (some ⟨g, 0, none⟩) n cc, .bool u] 27))
  have HB := hide (((hbb.setCell (p := ⟨w.heap.size, 0, none⟩) (by simp) (.slice (some ⟨g, 0, none⟩) n cc)).setCell (p := ⟨w.heap.size, 1, none⟩) (by simp) (.bool u)).alloc (by simp; exact hbb.size) (.cells #[.slice (some ⟨g, 0, none⟩) n cc, .bool u] 27))
  clear HZ' HB' HK' c0 c1 hb hg hz hbb
  have e11 : (op == 11) = false := by simpa using n11
  have e10 : (op != 10) = true := by simpa using n10
  cases u
  all_goals
    go_wp2_with fail
    refine bodyPost_ret (results_desc rfl _ _ w.heap.size _ _ rfl HR.out) rfl ?_
    exact ⟨⟨g, cc, rest, rfl, hc1, hc2, HG.out⟩, HB.out⟩
end Go.Proofs.YtbnaaomkndbpoaaDoor
