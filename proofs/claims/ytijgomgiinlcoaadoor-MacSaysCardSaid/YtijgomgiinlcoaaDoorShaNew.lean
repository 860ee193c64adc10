import Derived.Test.YtijgomgiinlcoaaDoorShaWrite
namespace Go.Proofs.YtijgomgiinlcoaaDoor
open Go.RowKit

def fresh : Array Value := (u32s Sha.H0 ++ (u8s (List.replicate 64 0) ++ [Value.int .i64 ((0 : Nat) : Int)])).toArray
theorem fresh_size : (Tryd.prog.info? 60).map (·.size) = some fresh.size := by kernel_rfl
theorem fresh_one : fresh.all (·.oneCell') = true := by kernel_rfl
theorem fresh_len : 73 = fresh.size := by kernel_rfl
theorem built_fresh {ops : Array Oper} {rest : List Oper} {o : Oper} {a : Act} {w : World} {Q : Exit → Act → World → Prop} (hg : o.guard = none) (x : Operand) (ho : o.op = .build 60 #[(0, x)])
    (hx : a.eval x = .agg (u32s Sha.H0).toArray) (FR : Array Value) (hf : Hid (fresh = FR))
    (h : wpList Tryd.prog ops Q rest (a.put o.dst (.agg FR)) w) : wpList Tryd.prog ops Q (o :: rest) a w := by
  refine wpList_build hg _ _ ho ?_ ?_
  · simp only [List.map_toArray, List.map_cons, List.map_nil, hx]
    kernel_rfl
  · simp only [List.map_toArray, List.map_cons, List.map_nil, hx]
    rw [← hf.out] at h
    exact h
theorem built_none {ops : Array Oper} {rest : List Oper} {o : Oper} {a : Act} {w : World} {Q : Exit → Act → World → Prop} (hg : o.guard = none) (ho : o.op = .build 60 #[])
    (Z : Array Value) (hf : Hid ((u32s (List.replicate 8 0) ++ (u8s (List.replicate 64 0) ++ [Value.int .i64 ((0 : Nat) : Int)])).toArray = Z))
    (h : wpList Tryd.prog ops Q rest (a.put o.dst (.agg Z)) w) : wpList Tryd.prog ops Q (o :: rest) a w := by
  refine wpList_build hg _ _ ho ?_ ?_
  · kernel_rfl
  · have e : (Tryd.prog.built 60 []).getD #[] = (u32s (List.replicate 8 0) ++ (u8s (List.replicate 64 0) ++ [Value.int .i64 ((0 : Nat) : Int)])).toArray := by kernel_rfl
    rw [← hf.out, ← e] at h
    have e2 : ((#[] : Array (Nat × Operand)).map fun (i, x) => (i, a.eval x)).toList = [] := by simp
    rw [e2]
    exact h

set_option maxRecDepth 100000 in
set_option maxHeartbeats 2000000 in
theorem reset_c (g : Nat) (old : Array Value) (w : World) (h : w.heap[g]? = some (.cells old 60 (0, 0))) (hl : old.size = 73) :
    Calls Tryd.prog 28 #[.pointer (some ⟨g, 0, none⟩)] w fun e w' => e = .returned (.tuple #[]) ∧ w' = w.setRow g fresh := by
  obtain ⟨FR, hf⟩ : ∃ FR, Hid (fresh = FR) := ⟨_, rfl⟩
  have h1 := hide fresh_size
  have h2 := hide fresh_one
  have h3 := hide fresh_len
  rw [hf.out] at h1 h2 h3 ⊢
  have HG := hide h
  have HL := hide hl
  clear h hl
  go_enter Tryd.func28, Tryd.ntmps28
  go_wp2_with (first
    | (refine built_fresh rfl (.tmp 3) rfl rfl FR hf ?_)
    | (refine wpList_store_row rfl 60 (.tmp 5) (.tmp 4) rfl g FR rfl rfl _ _ HG.out h1.out (HL.out.trans h3.out) h2.out ?_))
  go_end0
  exact ⟨rfl, rfl⟩

set_option maxRecDepth 100000 in
set_option maxHeartbeats 2000000 in
theorem new_c (w : World) :
    Calls Tryd.prog 21 #[] w fun e w' => e = .returned (.pointer (some ⟨w.heap.size, 0, none⟩)) ∧ HashIs w' w.heap.size [] ∧ Below w.heap.size w w' := by
  obtain ⟨Z, hZ⟩ : ∃ Z, Hid ((u32s (List.replicate 8 0) ++ (u8s (List.replicate 64 0) ++ [Value.int .i64 ((0 : Nat) : Int)])).toArray = Z) := ⟨_, rfl⟩
  go_enter Tryd.func21, Tryd.ntmps21
  go_wp2_with (first
    | (refine built_none rfl rfl Z hZ ?_)
    | (go_at_call 28; refine (reset_c w.heap.size Z (w.alloc (.cells Z 60)) (heap_alloc_new w _) (by rw [← hZ.out]; simp)).mono ?_; rintro e w' ⟨rfl, rfl⟩))
  go_ret
  refine ⟨rfl, ⟨Sha.H0, List.replicate 64 0, ⟨?_, rfl, by simp⟩, Sha.Holds.none⟩, below_setRow ((Below.refl _ _).alloc (Nat.le_refl _) _) (Nat.le_refl _) _⟩
  exact setRow_heap _ _ _ _ _ _ (heap_alloc_new w _)
end Go.Proofs.YtijgomgiinlcoaaDoor
