/-
  A lawful operation: its numbers on both sides, the program's and the reference's; the reference's Apply and Element of anything. By an AI agent. No person has read it.
-/
import Derived.Test.YtgdcfjmpjhlndaaGreatDoorZFOpK
import Derived.Test.YtgdcfjmpjhlndaaGreatDoorZFOpD
import Derived.Test.YtgdcfjmpjhlndaaGreatDoorZFShpCl
import Derived.Test.YtgdcfjmpjhlndaaGreatDoorZFElmN
import Derived.Test.YtgdcfjmpjhlndaaGreatDoorZFSftG
import Derived.Test.YtgdcfjmpjhlndaaGreatDoorZFOpH
import Derived.Test.YtgdcfjmpjhlndaaGreatDoorZFRefI
import Derived.Test.YtgdcfjmpjhlndaaGreatDoorZFCnvH
import Derived.Test.YtgdcfjmpjhlndaaGreatDoorZFRefR
import Derived.Test.YtgdcfjmpjhlndaaGreatDoorZFPolE
import Derived.Test.YtgdcfjmpjhlndaaGreatDoorZFSftR
namespace Go.Proofs.YtgdcfjmpjhlndaaGreatDoor
open Go.RowKit
/-- Of package soft. -/
theorem relem_sf {op : Int} (hop : Sf.isOp op) {ts : List Ten} (hd : ∀ t ∈ ts, t.ds.length ≤ t.dcap) (hF : Cel.fault ts (Sf.code op (ts.map Ten.look)) = (0, none)) (A B : Option Addr) (nq qcap cap : Nat) (w : World) (hR : Row w B (ts.flatMap Ten.vals)) (hI : ∀ t ∈ ts, t.In w) (i : Nat) (v : Int) (d : Dsc) (hv : (Sf.ds op ts)[i]? = some v)
    (hnq : nq = 0 := by rfl) :
    Calls Tryz.prog 42 #[.int .i64 op, .slice A nq qcap, .int .i64 i, .slice B ts.length cap, .agg (dcells d.P d.zs.length d.cap d.u)] w fun e w' => e = .returned (.int .i64 v) ∧ Below w.heap.size w w' := by
  subst hnq
  have hil := (List.getElem?_eq_some_iff.1 hv).1
  rw [Sf.ds_length] at hil
  have he : v = Sf.el op ts i := by
    unfold Sf.ds at hv
    rw [Sf.part_at _ _ _ _ hil, Nat.zero_add] at hv
    exact (Option.some.inj hv).symm
  subst he
  obtain ⟨hf, hn, -⟩ := Sf.zero hF
  rcases hop with rfl | rfl | rfl | rfl
  · match ts, hn with
    | [a, b], _ =>
      obtain ⟨-, hz, hau, hbz, hbu, -, -, hs⟩ := Sf.fine_soft a b (hd a (by simp)) hF
      obtain ⟨hr, -, -⟩ := Sf.rows_of (hf a (by simp)) hz (hd a (by simp))
      have wa := (Tens.whole (hf a (by simp))).2.2
      have wb := Tens.whole (hf b (by simp))
      rw [hs] at hil
      refine relem_soft a b _ d A B 0 qcap cap i w hR (fun W hb => rsoftmax_c a b _ _ _ hr (fun z hz => ?_) ?_ (fun z hz => ?_) i W (by rw [← hr.len]; exact hil) ((hI a (by simp)).below hb) ((hI b (by simp)).below hb))
      · have := wa z hz
        rw [hau] at this
        exact fit_narrow rfl this
      · have := wb.2.1
        rw [hbz] at this
        simp [Shp.prod] at this
        omega
      · exact Sf.fits_wide (wb.2.2 z hz)
  · match ts, hn with
    | [a, b], _ =>
      obtain ⟨-, haz, hbz, -, -, -, hs⟩ := Sf.fine_gath a b (hd a (by simp)) hF
      rw [hs] at hil
      have wa := Tens.whole (hf a (by simp))
      have wm := (Shp.whole wa.1).2.1
      have b0 := wm (Sf.dim0 a : Int) (by rw [haz]; simp)
      have b1 := wm (Sf.last a : Int) (by rw [haz]; simp)
      have hm := (Sf.size_le (Sf.fine_gath a b (hd a (by simp)) hF).1).1
      rw [hs] at hm
      exact relem_gather a b (Sf.dim0 a) (Sf.last a) haz ⟨by omega, by omega⟩ ⟨by omega, by omega⟩ (by
        have := wa.2.1
        rw [haz] at this
        simp only [Shp.prod, Int.mul_one] at this
        rw [← Int.natCast_mul] at this
        omega) (by omega) d A B 0 qcap cap i w hil hR (hI a (by simp)) (hI b (by simp))
  · match ts, hn with
    | [a], _ =>
      obtain ⟨-, hz, -, -, hs⟩ := Sf.fine_row 19 (.inl rfl) a (hd a (by simp)) hF
      obtain ⟨hr, -, -⟩ := Sf.rows_of (hf a (by simp)) hz (hd a (by simp))
      rw [hs] at hil
      exact relem_rows 19 (.inl rfl) a _ _ _ hr (fun z hz => Sf.fits_wide ((Tens.whole (hf a (by simp))).2.2 z hz)) d A B qcap cap i w hil hR (hI a (by simp))
  · match ts, hn with
    | [a], _ =>
      obtain ⟨-, hz, -, -, hs⟩ := Sf.fine_row 20 (.inr rfl) a (hd a (by simp)) hF
      obtain ⟨hr, -, -⟩ := Sf.rows_of (hf a (by simp)) hz (hd a (by simp))
      rw [hs] at hil
      exact relem_rows 20 (.inr rfl) a _ _ _ hr (fun z hz => Sf.fits_wide ((Tens.whole (hf a (by simp))).2.2 z hz)) d A B qcap cap i w hil hR (hI a (by simp))
end Go.Proofs.YtgdcfjmpjhlndaaGreatDoor
