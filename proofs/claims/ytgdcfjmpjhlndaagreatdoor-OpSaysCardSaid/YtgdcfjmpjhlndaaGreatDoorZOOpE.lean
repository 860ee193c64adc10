/-
  The examples of package lodgelaw12. By an AI agent. No person has read it.
-/
import Derived.Test.YtgdcfjmpjhlndaaGreatDoorZOOpD
namespace Go.Proofs.YtgdcfjmpjhlndaaGreatDoor
open Go.RowKit
theorem opunit_good (op : Int) (qs : List Int) (ds : List Dsc) (A B : Option Addr) (qcap cap n m : Nat) (u : Int) (ah am ar ak : Addr) (w : World) (hQ : Ri w A qs) (hql : qs.length ≤ 1000000) (hR : Row w B (ds.flatMap Dsc.vals)) (hI : ∀ d ∈ ds, d.In w) (hl : ds.length ≤ 1000000) (hE : E4 w ah am ar ak) (hK : Kz w) (hcap : ∀ d ∈ ds, d.zs.length ≤ d.cap)
  (h0 : (Op.look op qs ds).1 = 0) (hu : Op.unit op qs ds = u) (hn : qs.length = n) (hm : ds.length = m) :
  Calls Tryz.prog 55 #[.int .i64 op, .slice A n qcap, .slice B m cap] w fun e w' => e = .returned (.tuple #[.int .i64 u, .nilIface]) ∧ Below w.heap.size w w' := by
 subst hn hm
 refine (opunit_c op qs ds A B qcap cap ah am ar ak w hQ hql hR hI hl hE hK hcap).mono fun e w' h => ?_
 unfold OpU at h
 rw [h0, hu] at h
 exact h
set_option maxRecDepth 100000 in
set_option maxHeartbeats 4000000 in
theorem first12_c (ah am ar ak : Addr) (w : World) (hE : E4 w ah am ar ak) (hK : Kz w) :
  Calls Tryz.prog 20 #[] w fun e w' => e = .returned (.bool true) ∧ Below w.heap.size w w' := by
 obtain ⟨W1, hW1⟩ : ∃ W, W = (((w.alloc (.cells #[.int .i64 0, .int .i64 0] 3)).alloc (.cells #[.int .i64 2, .int .i64 3] 3)).alloc (.cells #[.int .i64 3, .int .i64 4] 3)).alloc (.cells #[.slice (some ⟨w.heap.size + 1, 0, none⟩) 2 2, .bool false, .slice (some ⟨w.heap.size + 2, 0, none⟩) 2 2, .bool false] 24) := ⟨_, rfl⟩
 have hB1 : Below w.heap.size w W1 := by rw [hW1]; exact ((((Below.refl _ _).alloc (Nat.le_refl _) _).alloc (by simp) _).alloc (by simp; omega) _).alloc (by simp; omega) _
 have hq : Ri W1 (some ⟨w.heap.size, 0, none⟩) [0, 0] := by rw [hW1]; exact Has.ri ((((Has.new w 3 (i64s [0, 0])).alloc _).alloc _).alloc _) (by decide)
 have ha : Ri W1 (some ⟨w.heap.size + 1, 0, none⟩) [2, 3] := by rw [hW1]; exact Has.ri (((box_at _ 3 (i64s [2, 3]) _ (by simp)).alloc _).alloc _) (by decide)
 have hb : Ri W1 (some ⟨w.heap.size + 2, 0, none⟩) [3, 4] := by rw [hW1]; exact Has.ri ((box_at _ 3 (i64s [3, 4]) _ (by simp)).alloc _) (by decide)
 have hR : Row W1 (some ⟨w.heap.size + 3, 0, none⟩) ([(⟨some ⟨w.heap.size + 1, 0, none⟩, [2, 3], 2, false⟩ : Dsc), ⟨some ⟨w.heap.size + 2, 0, none⟩, [3, 4], 2, false⟩].flatMap Dsc.vals) := by
  rw [hW1]
  exact (box_at _ 24 [.slice (some ⟨w.heap.size + 1, 0, none⟩) 2 2, .bool false, .slice (some ⟨w.heap.size + 2, 0, none⟩) 2 2, .bool false] _ (by simp)).row
 have HU := hide (opunit_good 12 [0, 0] [⟨some ⟨w.heap.size + 1, 0, none⟩, [2, 3], 2, false⟩, ⟨some ⟨w.heap.size + 2, 0, none⟩, [3, 4], 2, false⟩] (some ⟨w.heap.size, 0, none⟩) (some ⟨w.heap.size + 3, 0, none⟩) 2 2 2 2 3 ah am ar ak W1 hq (by decide) hR (fun d hd => by
  simp only [List.mem_cons, List.not_mem_nil, or_false] at hd
  rcases hd with rfl | rfl
  ·exact ⟨ha, by show 2 ≤ 1000000; omega⟩
  ·exact ⟨hb, by show 2 ≤ 1000000; omega⟩) (by show 2 ≤ 1000000; omega) (hE.below hB1) (hK.below hB1) (fun d hd => by
  simp only [List.mem_cons, List.not_mem_nil, or_false] at hd
  rcases hd with rfl | rfl
  ·show 2 ≤ 2; omega
  ·show 2 ≤ 2; omega) rfl rfl rfl rfl)
 have HB := hide hB1
 have HW1 := hide hW1
 clear hE hK hW1 hB1 hq ha hb hR
 go_enter Tryz.func20, Tryz.ntmps20
 go_wp2_with fail
 rw [← HW1.out]
 clear HW1
 refine HU.out.mono ?_
 rintro e w2 ⟨rfl, hb⟩
 replace HB := hide (HB.out.trans (hb.mono HB.out.size))
 clear hb HU
 go_wp2_with fail
 go_ret
 exact ⟨rfl, HB.out⟩
end Go.Proofs.YtgdcfjmpjhlndaaGreatDoor
namespace Go.Proofs.YtgdcfjmpjhlndaaGreatDoor
open Go.RowKit
theorem Shp.code_ok {zs : List Int} (h1 : zs.length ≤ 4) (h2 : ∀ z ∈ zs, 1 ≤ z ∧ z ≤ 256) (h3 : Shp.prod zs ≤ 16384) : Shp.code zs = 0 := by
 unfold Shp.code
 rw [if_neg (by omega), if_neg, if_neg (by omega)]
 intro h
 have : zs.all Shp.okDim = true := List.all_eq_true.2 fun z hz => decide_eq_true (h2 z hz)
 rw [this] at h
 cases h
theorem Shp.elems_ok {zs : List Int} (h1 : zs.length ≤ 4) (h2 : ∀ z ∈ zs, 1 ≤ z ∧ z ≤ 256) (h3 : Shp.prod zs ≤ 16384) : Shp.elems zs = Shp.prod zs := by
 have h := (Shp.whole (Shp.code_ok h1 h2 h3)).2.2.1
 exact h
theorem Op.look_of {op : Int} {qs : List Int} {ds : List Dsc} (hk : Op.known op) (hf : Op.fits op qs ds) : Op.look op qs ds = Op.look2 op qs ds := by
 unfold Op.look
 rw [if_neg (fun h => h hk), if_neg (fun h => h hf)]
end Go.Proofs.YtgdcfjmpjhlndaaGreatDoor
