/-
  lodgeref3.Result of Conv; element of Conv, given what conv answers. By an AI agent. No person has read it.
-/
import Derived.Test.YtgdcfjmpjhlndaaGreatDoorZORefR
import Derived.Test.YtgdcfjmpjhlndaaGreatDoorZOOpK
namespace Go.Proofs.YtgdcfjmpjhlndaaGreatDoor
open Go.RowKit
set_option maxRecDepth 100000 in
set_option maxHeartbeats 4000000 in
theorem relem_conv (qs : List Int) (a b : Ten) (d : Dsc) (A B : Option Addr) (qcap cap : Nat) (i v : Int) (w : World) (hql : qs.length = 3) (hR : Row w B ([a, b].flatMap Ten.vals))
  (hC : ∀ W, Below w.heap.size w W → Calls Tryz.prog 74 #[.slice A 3 qcap, .int .i64 i, .agg (tcells a.P a.zs.length a.cap a.u a.D a.ds.length a.dcap), .agg (tcells b.P b.zs.length b.cap b.u b.D b.ds.length b.dcap), .agg (dcells d.P d.zs.length d.cap d.u)] W fun e w' => e = .returned (.int .i64 v) ∧ Below W.heap.size W w') :
  Calls Tryz.prog 42 #[.int .i64 13, .slice A qs.length qcap, .int .i64 i, .slice B 2 cap, .agg (dcells d.P d.zs.length d.cap d.u)] w fun e w' => e = .returned (.int .i64 v) ∧ Below w.heap.size w w' := by
 rw [hql]
 obtain ⟨pr, hpr, hprl, r0, r1, r2, r3, r4, r5⟩ := row_two hR
 subst hpr
 obtain ⟨W0, hW0⟩ : ∃ W, W = ((w.alloc (.cells #[.slice d.P d.zs.length d.cap, .bool d.u] 24)).alloc (.cells #[.slice a.P a.zs.length a.cap, .bool a.u, .slice a.D a.ds.length a.dcap] 26)) := ⟨_, rfl⟩
 have hbz : Below w.heap.size w (w.alloc (.cells #[.slice d.P d.zs.length d.cap, .bool d.u] 24)) := (Below.refl _ _).alloc (Nat.le_refl _) _
 have hbw : Below w.heap.size w W0 := by rw [hW0]; exact hbz.alloc (by simp) _
 have hx : Has W0 (w.heap.size + 1) 26 [.slice a.P a.zs.length a.cap, .bool a.u, .slice a.D a.ds.length a.dcap] := by rw [hW0]; exact box_at _ _ _ _ (by simp)
 have hy : Has W0 w.heap.size 24 [.slice d.P d.zs.length d.cap, .bool d.u] := by rw [hW0]; exact (Has.new w 24 _).alloc _
 have z0 : (w.alloc (.cells #[.slice d.P d.zs.length d.cap, .bool d.u] 24)).cell? pr = some (.slice a.P a.zs.length a.cap) := (hbz.cell hprl).trans r0
 have z1 : (w.alloc (.cells #[.slice d.P d.zs.length d.cap, .bool d.u] 24)).cell? ⟨pr.block, pr.off + 1, none⟩ = some (.bool a.u) := (hbz.cell (p := ⟨pr.block, pr.off + 1, none⟩) hprl).trans r1
 have z2 : (w.alloc (.cells #[.slice d.P d.zs.length d.cap, .bool d.u] 24)).cell? ⟨pr.block, pr.off + 2, none⟩ = some (.slice a.D a.ds.length a.dcap) := (hbz.cell (p := ⟨pr.block, pr.off + 2, none⟩) hprl).trans r2
 have hS00 : CS8 ⟨w.heap.size + 1, 0, none⟩ ⟨w.heap.size + 1, 1, none⟩ ⟨w.heap.size + 1, 2, none⟩ ⟨pr.block, pr.off + 3, none⟩ ⟨pr.block, pr.off + 4, none⟩ ⟨pr.block, pr.off + 5, none⟩ ⟨w.heap.size, 0, none⟩ ⟨w.heap.size, 1, none⟩ (.slice a.P a.zs.length a.cap) (.bool a.u) (.slice a.D a.ds.length a.dcap) (.slice b.P b.zs.length b.cap) (.bool b.u) (.slice b.D b.ds.length b.dcap) (.slice d.P d.zs.length d.cap) (.bool d.u) W0 := ⟨hx.cell 0, hx.cell 1, hx.cell 2, ten_kept r3 hbw, ten_kept r4 hbw, ten_kept r5 hbw, hy.cell 0, hy.cell 1⟩
 have hS0 := CS8.drew hS00
 have HC : Hid (Calls Tryz.prog 74 #[.slice A 3 qcap, .int .i64 i, .agg #[.slice a.P a.zs.length a.cap, .bool a.u, .slice a.D a.ds.length a.dcap], .agg #[.slice b.P b.zs.length b.cap, .bool b.u, .slice b.D b.ds.length b.dcap], .agg #[.slice d.P d.zs.length d.cap, .bool d.u]] W0.drew fun e w' => e = .returned (.int .i64 v) ∧ Below W0.drew.heap.size W0.drew w') := hide (hC W0.drew hbw.drew)
 have HB0 := hide hbw.drew
 have HW := hide hW0
 clear hR hC hW0 hbw hbz hx hy r0 r1 r2 r3 r4 r5 hprl hql hS00
 go_enter Tryz.func42, Tryz.ntmps42
 go_wp2_with fail
 rw [← HW.out]
 clear HW z0 z1 z2
 go_region_held3 (fun W => W.cell? ⟨w.heap.size + 1, 0, none⟩ = some (.slice a.P a.zs.length a.cap) ∧ W.cell? ⟨w.heap.size + 1, 1, none⟩ = some (.bool a.u) ∧ W.cell? ⟨w.heap.size + 1, 2, none⟩ = some (.slice a.D a.ds.length a.dcap) ∧ W.cell? ⟨pr.block, pr.off + 3, none⟩ = some (.slice b.P b.zs.length b.cap) ∧ W.cell? ⟨pr.block, pr.off + 4, none⟩ = some (.bool b.u) ∧ W.cell? ⟨pr.block, pr.off + 5, none⟩ = some (.slice b.D b.ds.length b.dcap) ∧ W.cell? ⟨w.heap.size, 0, none⟩ = some (.slice d.P d.zs.length d.cap) ∧ W.cell? ⟨w.heap.size, 1, none⟩ = some (.bool d.u))
  (first | with_reducible exact hS0 | with_reducible exact hS2 | with_reducible assumption)
  (first | (go_at_call 74; (with_reducible refine HC.out.mono ?_); rintro e W4 ⟨rfl, hb⟩; have hS2 := CS8.keep hS0 hb; have HFin := hide (HB0.out.trans (hb.mono HB0.out.size))))
 go_wp2_with fail
 go_ret
 exact ⟨rfl, HFin.out⟩
end Go.Proofs.YtgdcfjmpjhlndaaGreatDoor
namespace Go.Proofs.YtgdcfjmpjhlndaaGreatDoor
open Go.RowKit
def Cv.cell (qs : List Int) (a b : Ten) (i : Int) : Int := if Cel.fault [a, b] (Cv.code qs a.look b.look) = (0, none) then (if 0 ≤ i then (Cv.ds qs a b).getD i.toNat 0 else 0) else 0
end Go.Proofs.YtgdcfjmpjhlndaaGreatDoor
