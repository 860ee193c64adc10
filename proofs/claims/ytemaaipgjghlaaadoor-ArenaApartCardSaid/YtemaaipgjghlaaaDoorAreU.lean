/-
  Arena.Drop of a block that is there, walked. By an AI agent. No person has read it.
-/
import Derived.Test.YtemaaipgjghlaaaDoorAreT
import Derived.Test.YtemaaipgjghlaaaDoorAreR
import Derived.Test.YtemaaipgjghlaaaDoorAreP
import Derived.Test.YtemaaipgjghlaaaDoorAreN
namespace Go.Proofs.YtemaaipgjghlaaaDoor
open Go.RowKit

/-- clear, whose run is known, in a region that draws. -/
theorem step_clear_runI {P : Program} {ops : Array Oper} {o : Oper} {a : Act} {w : World} {K : Act → World → Prop} {Q : Exit → Act → World → Prop} {E : Prop}
    (hg : o.guard = none) (d : Operand) (dT : TypeId) (hop : o.op = Op.call { callee := Callee.builtin Builtin.clear, args := #[d], argTypes := #[dT] })
    (v : Value) (hd : a.eval d = v) {v' : Value} {w' : World} (hr : (Builtin.clear_ #[dT] o.type #[v]).run P w = .ok v' w') (hK : K (a.put o.dst v') w') :
    if Region.wanted o (yielded ops a.tmps) = true then Oper.wp P o a w K Q else E := by
  have hw : Region.wanted o (yielded ops a.tmps) = true := by simp [Region.wanted, hg]
  rw [if_pos hw]
  unfold Oper.wp
  simp [execOp, hop, resolve, invoke, builtin, hd, hr, Result.andThen]
  exact hK
/-- Bytes of which some are made nothing. -/
def Ar.wipe (mem : List Nat) (x n : Nat) : List Nat := mem.take x ++ List.replicate n 0 ++ mem.drop (x + n)
theorem Ar.wipe_len (mem : List Nat) (x n : Nat) (h : x + n ≤ mem.length) : (Ar.wipe mem x n).length = mem.length := by
  unfold Ar.wipe
  rw [List.length_append, List.length_append, List.length_take, List.length_replicate, List.length_drop]
  omega
/-- clear of some of an arena's bytes. -/
theorem clear_mem (w : World) (m x n c : Nat) (mem : List Nat) (ty : TypeId) (h : Has w m 5 (u8s mem)) (hn : 0 < n) (hx : x + n ≤ mem.length) :
    (Builtin.clear_ #[35] ty #[.slice (some ⟨m, x, none⟩) n c]).run Tryd.prog w = .ok (.tuple #[]) (w.setRow m (u8s (Ar.wipe mem x n)).toArray) := by
  obtain ⟨i0, hi0, hz0, -, -⟩ := u8info
  have hz : (Builtin.zeroCells (Value.cells (.int .u8 0)) n).toList = u8s (List.replicate n 0) := by
    rw [show (Value.int .u8 0).cells = #[Value.int .u8 0] from rfl]
    simp [Builtin.zeroCells]
    apply List.ext_getElem
    · simp
    · intro i h1 h2
      simp [Nat.mod_one]
  have hr := run_clear_row (P := Tryd.prog) w 35 5 ty i0 (.int .u8 0) ubs hi0 hz0 m x n c (u8s mem).toArray 5 h hn (by show x + n * 1 ≤ _; simpa using hx) (by
    rw [hz]
    intro u hu
    obtain ⟨q, -, rfl⟩ := List.mem_map.1 hu
    rfl)
  have e : u8s (Ar.wipe mem x n) = (u8s mem).take x ++ u8s (List.replicate n 0) ++ (u8s mem).drop (x + n * 1) := by
    unfold Ar.wipe u8s
    rw [Nat.mul_one, List.map_append, List.map_append, List.map_take, List.map_drop]
  rw [hz] at hr
  rw [e]
  exact hr
end Go.Proofs.YtemaaipgjghlaaaDoor
