/-
  lodgeref3.Raw, walked. lodgeref3.DescBytes, walked. lodgeref3.Bytes and lodgeref3.Good, walked. By an AI agent. No person has read it.
-/
import Derived.Test.YtnbjcdmiehnceaaDoorTenRk
import Derived.Deep.RegionLaw
import Derived.Test.YtnbjcdmiehnceaaDoorTenBack0
import Derived.Test.YtnbjcdmiehnceaaDoorTenL
namespace Go.Proofs.YtnbjcdmiehnceaaDoor
open Go.RowKit

theorem Pk.App.bytes {base : Nat} {w wr w' : World} {v b v' : Value} {n n1 m : Nat} {xs ys : List Value} {o : Obj} {bs : List Nat} (h : Pk.App base w v n1 xs wr b) (h1 : w'.ownsRow base 5 1 v' (n1 + m) (xs ++ u8s bs)) (h2 : (wr.alloc o).grownBy w' b.ownBlock)
    (h3 : v'.ownBlock = b.ownBlock ∨ v'.ownBlock = some (wr.heap.size + 1)) (hn : n1 + m = n) (hx : xs ++ u8s bs = ys) : Pk.App base w v n ys w' v' := by
  subst hn
  subst hx
  refine h.andThen ⟨h1, (World.grownBy_alloc wr o b.ownBlock).andThen h2 (fun j hj => .inr hj), ?_⟩
  rcases h3 with e | e
  · exact .inl e
  · exact .inr ⟨_, e, by omega⟩
theorem Pk.le1 (N : Nat) : Pk.le 1 N = [N % 256] := by simp [Pk.le]
theorem u8s_add (a b : List Nat) : u8s a ++ u8s b = u8s (a ++ b) := by simp [u8s]
theorem u8_num (z : Int) : IntKind.u8.wrap z = ((Pk.num z % 256 : Nat) : Int) := by
  rw [IntKind.wrap_u8]
  unfold Pk.num
  omega
set_option maxRecDepth 100000 in
set_option maxHeartbeats 4000000 in
theorem rraw_n (ds : List Int) (P D : Option Addr) (nz cap dcap : Nat) (w : World) (hd : Ri w D ds) (hn : ds.length ≤ 1000000) :
    Calls Tryd.prog 53 #[.agg (tcells P nz cap false D ds.length dcap)] w fun e w' => (∃ v, e = .returned v ∧ w'.ownsRow w.heap.size 5 1 v ds.length (u8s (Pk.all 1 ds))) ∧ Below w.heap.size w w' := by
  have hrow := tens_row w P nz cap false D ds.length dcap
  have hb1 := (Below.refl _ w).alloc (Nat.le_refl _) (Obj.cells (tcells P nz cap false D ds.length dcap) 53)
  obtain ⟨w1, hw1⟩ : ∃ w1, Hid (w.alloc (Obj.cells (tcells P nz cap false D ds.length dcap) 53) = w1) := ⟨_, hide rfl⟩
  rw [hw1.out] at hrow hb1
  have H0 := hide (Pk.App.refl (World.ownsRow_nil w1 w.heap.size 5 1))
  have HR := hide hrow
  have HB1 := hide hb1
  have HD := hide (hd.below hb1)
  obtain ⟨m, hm⟩ : ∃ m, Hid (ds.length = m) := ⟨_, hide rfl⟩
  rw [hm.out] at hw1 hn HR ⊢
  clear hrow hd hb1
  go_enter Tryd.func53, Tryd.ntmps53
  go_wp2_with fail
  have hw1' := hw1.out
  rw [hw1']
  clear hw1 hw1'
  go_loopw [3, 4] (fun b j wr => ∃ i : Nat, i ≤ m ∧ j = .int .i64 i ∧ Hid (Pk.App w.heap.size w1 (.slice none 0 0) i (u8s (Pk.all 1 (ds.take i))) wr b)) (fun _ j _ => m - (intOf j).toNat)
  case atStart => exact ⟨0, by omega, rfl, by simpa [Pk.all] using H0⟩
  case round =>
    obtain ⟨i, hi, rfl, hI⟩ := hrel
    have hRw := HR.out.grown hI.out.grown (by simp [Value.ownBlock])
    have c2 : wr.cell? ⟨w.heap.size, 2, none⟩ = some (.slice D m dcap) := by rw [hRw.cell]; rfl
    by_cases hlt : i < m
    · have him : (i : Int) < m := by omega
      have hDw := HD.out.grown hI.out.grown (fun ad e _ => by simp [Value.ownBlock])
      obtain ⟨ad, z, rfl, ez, cz⟩ := ri_at hDw i (by rw [hm.out]; exact hlt)
      have hadd : IntKind.i64.wrap ((i : Int) + 1) = (i : Int) + 1 := by rw [IntKind.wrap_i64]; omega
      have hw8 := u8_num z
      have hs : Hid (u8s (Pk.all 1 (ds.take i)) ++ u8s [Pk.num z % 256] = u8s (Pk.all 1 (ds.take (i + 1)))) := hide (by rw [Pk.all_take 1 ds i z ez.out, Pk.le1, u8s_add])
      obtain ⟨c, hc⟩ : ∃ c, Hid (Pk.num z % 256 = c) := ⟨_, hide rfl⟩
      rw [hc.out] at hw8 hs
      have hcl : c < 256 := by rw [← hc.out]; omega
      have HOWN := hide (hI.out.own.alloc (.cells #[.int .u8 (c : Int)] 5))
      have HRB := hide (new_bytes wr c hcl)
      have HB0 := hide (show i + 1 ≤ 1000000000000 by omega)
      have HSZ := hide (show w.heap.size ≤ (wr.alloc (.cells #[.int .u8 (c : Int)] 5)).heap.size by have := hI.out.grown.size; have := HB1.out.size; simp; omega)
      clear hDw hc hcl
      go_wp2_with (at_builtin; refine wpList_append_bs rfl (.tmp 18) (.tmp 21) rfl w.heap.size _ i (u8s (Pk.all 1 (ds.take i))) rfl HOWN.out (some ⟨wr.heap.size, 0, none⟩) 1 1 [c] rfl (hide rfl) HRB.out HB0.out HSZ.out ?_)
      intro v' w' h1 h2 h3
      have HI2 := hide (Pk.App.bytes hI.out h1 h2 h3 rfl hs.out)
      have hRw2 := HR.out.grown HI2.out.grown (by simp [Value.ownBlock])
      have c1 : w'.cell? ⟨w.heap.size, 1, none⟩ = some (.bool false) := by rw [hRw2.cell]; rfl
      clear h1 h2 h3 hI HOWN HRB hRw hRw2
      go_wp2_with fail
      go_roundw
      case rel => exact ⟨i + 1, by omega, by go_num, HI2⟩
      case measure => simp [intOf]; omega
    · obtain rfl : i = m := by omega
      have hF := hI.out
      rw [List.take_of_length_le (by rw [hm.out]; exact Nat.le_refl _)] at hF
      have HF := hide hF
      clear hF hRw
      go_wp2_with fail
      go_ret
      exact ⟨⟨_, rfl, HF.out.own⟩, HB1.out.grown HF.out.grown HB1.out.size (fun k hk => by simp [Value.ownBlock] at hk)⟩
theorem Pk.le4 (N : Nat) : Pk.le 4 N = [N % 256] ++ [N / 256 % 256, N / 65536 % 256, N / 16777216 % 256] := by simp [Pk.le, List.range_succ]
theorem new_bytes3 (w : World) (a b c : Nat) (ha : a < 256) (hb : b < 256) (hc : c < 256) : Rb (w.alloc (.cells #[.int .u8 (a : Nat), .int .u8 (b : Nat), .int .u8 (c : Nat)] 5)) (some ⟨w.heap.size, 0, none⟩) [a, b, c] :=
  (Has.new w 5 (u8s [a, b, c])).rb (by
    intro x hx
    simp at hx
    omega)
set_option maxRecDepth 100000 in
set_option maxHeartbeats 4000000 in
theorem rraw_w (ds : List Int) (P D : Option Addr) (nz cap dcap : Nat) (w : World) (hd : Ri w D ds) (hn : ds.length ≤ 1000000) :
    Calls Tryd.prog 53 #[.agg (tcells P nz cap true D ds.length dcap)] w fun e w' => (∃ v, e = .returned v ∧ w'.ownsRow w.heap.size 5 1 v (ds.length * 4) (u8s (Pk.all 4 ds))) ∧ Below w.heap.size w w' := by
  have hrow := tens_row w P nz cap true D ds.length dcap
  have hb1 := (Below.refl _ w).alloc (Nat.le_refl _) (Obj.cells (tcells P nz cap true D ds.length dcap) 53)
  obtain ⟨w1, hw1⟩ : ∃ w1, Hid (w.alloc (Obj.cells (tcells P nz cap true D ds.length dcap) 53) = w1) := ⟨_, hide rfl⟩
  rw [hw1.out] at hrow hb1
  have H0 := hide (Pk.App.refl (World.ownsRow_nil w1 w.heap.size 5 1))
  have HR := hide hrow
  have HB1 := hide hb1
  have HD := hide (hd.below hb1)
  obtain ⟨m, hm⟩ : ∃ m, Hid (ds.length = m) := ⟨_, hide rfl⟩
  rw [hm.out] at hw1 hn HR ⊢
  clear hrow hd hb1
  go_enter Tryd.func53, Tryd.ntmps53
  go_wp2_with fail
  have hw1' := hw1.out
  rw [hw1']
  clear hw1 hw1'
  go_loopw [3, 4] (fun b j wr => ∃ i : Nat, i ≤ m ∧ j = .int .i64 i ∧ Hid (Pk.App w.heap.size w1 (.slice none 0 0) (i * 4) (u8s (Pk.all 4 (ds.take i))) wr b)) (fun _ j _ => m - (intOf j).toNat)
  case atStart => exact ⟨0, by omega, rfl, by simpa [Pk.all] using H0⟩
  case round =>
    obtain ⟨i, hi, rfl, hI⟩ := hrel
    have hRw := HR.out.grown hI.out.grown (by simp [Value.ownBlock])
    have c2 : wr.cell? ⟨w.heap.size, 2, none⟩ = some (.slice D m dcap) := by rw [hRw.cell]; rfl
    by_cases hlt : i < m
    · have him : (i : Int) < m := by omega
      have hDw := HD.out.grown hI.out.grown (fun ad e _ => by simp [Value.ownBlock])
      obtain ⟨ad, z, rfl, ez, cz⟩ := ri_at hDw i (by rw [hm.out]; exact hlt)
      have hadd : IntKind.i64.wrap ((i : Int) + 1) = (i : Int) + 1 := by rw [IntKind.wrap_i64]; omega
      have hw8 := u8_num z
      have hs : Hid (u8s (Pk.all 4 (ds.take i)) ++ u8s [Pk.num z % 256] ++ u8s [Pk.num z / 256 % 256, Pk.num z / 65536 % 256, Pk.num z / 16777216 % 256] = u8s (Pk.all 4 (ds.take (i + 1)))) := hide (by rw [Pk.all_take 4 ds i z ez.out, Pk.le4, u8s_add, u8s_add, List.append_assoc])
      obtain ⟨c, hc⟩ : ∃ c, Hid (Pk.num z % 256 = c) := ⟨_, hide rfl⟩
      obtain ⟨x1, hx1⟩ : ∃ c, Hid (Pk.num z / 256 % 256 = c) := ⟨_, hide rfl⟩
      obtain ⟨x2, hx2⟩ : ∃ c, Hid (Pk.num z / 65536 % 256 = c) := ⟨_, hide rfl⟩
      obtain ⟨x3, hx3⟩ : ∃ c, Hid (Pk.num z / 16777216 % 256 = c) := ⟨_, hide rfl⟩
      rw [hc.out] at hw8 hs
      rw [hx1.out, hx2.out, hx3.out] at hs
      have hq1 : z / 256 % 256 = (x1 : Int) := by rw [← hx1.out]; unfold Pk.num; omega
      have hq2 : z / 65536 % 256 = (x2 : Int) := by rw [← hx2.out]; unfold Pk.num; omega
      have hq3 : z / 16777216 % 256 = (x3 : Int) := by rw [← hx3.out]; unfold Pk.num; omega
      have hcl : c < 256 := by rw [← hc.out]; omega
      have hxl : x1 < 256 ∧ x2 < 256 ∧ x3 < 256 := by rw [← hx1.out, ← hx2.out, ← hx3.out]; omega
      have HOWN := hide (hI.out.own.alloc (.cells #[.int .u8 (c : Int)] 5))
      have HRB := hide (new_bytes wr c hcl)
      have HB0 := hide (show i * 4 + 1 ≤ 1000000000000 by omega)
      have HSZ := hide (show w.heap.size ≤ (wr.alloc (.cells #[.int .u8 (c : Int)] 5)).heap.size by have := hI.out.grown.size; have := HB1.out.size; simp; omega)
      clear hDw hc hcl
      go_wp2_with (at_builtin; refine wpList_append_bs rfl (.tmp 18) (.tmp 21) rfl w.heap.size _ (i * 4) (u8s (Pk.all 4 (ds.take i))) rfl HOWN.out (some ⟨wr.heap.size, 0, none⟩) 1 1 [c] rfl (hide rfl) HRB.out HB0.out HSZ.out ?_)
      intro v' w' h1 h2 h3
      have HI2 := hide (Pk.App.bytes (m := 1) (bs := [c]) hI.out h1 h2 h3 rfl rfl)
      have hRw2 := HR.out.grown HI2.out.grown (by simp [Value.ownBlock])
      have c1 : w'.cell? ⟨w.heap.size, 1, none⟩ = some (.bool true) := by rw [hRw2.cell]; rfl
      clear h1 h2 h3 hI HOWN HRB hRw hRw2 HB0 HSZ
      have HOWN := hide (HI2.out.own.alloc (.cells #[.int .u8 (x1 : Int), .int .u8 (x2 : Int), .int .u8 (x3 : Int)] 5))
      have HRB := hide (new_bytes3 w' x1 x2 x3 hxl.1 hxl.2.1 hxl.2.2)
      have HB0 := hide (show i * 4 + 1 + 3 ≤ 1000000000000 by omega)
      have HSZ := hide (show w.heap.size ≤ (w'.alloc (.cells #[.int .u8 (x1 : Int), .int .u8 (x2 : Int), .int .u8 (x3 : Int)] 5)).heap.size by have := HI2.out.grown.size; have := HB1.out.size; simp; omega)
      clear hxl
      go_wp2_with (at_builtin; refine wpList_append_bs rfl (.tmp 26) (.tmp 36) rfl w.heap.size _ (i * 4 + 1) (u8s (Pk.all 4 (ds.take i)) ++ u8s [c]) rfl HOWN.out (some ⟨w'.heap.size, 0, none⟩) 3 3 [x1, x2, x3] rfl (hide rfl) HRB.out HB0.out HSZ.out ?_)
      intro v2 w2 h1 h2 h3
      have HI3 := hide (Pk.App.bytes (m := 3) (bs := [x1, x2, x3]) HI2.out (by simpa [u8s, List.append_assoc] using h1) h2 h3 (show i * 4 + 1 + 3 = (i + 1) * 4 by omega) hs.out)
      clear h1 h2 h3 HOWN HRB HI2
      go_wp2_with fail
      go_roundw
      case rel => exact ⟨i + 1, by omega, by go_num, HI3⟩
      case measure => simp [intOf]; omega
    · obtain rfl : i = m := by omega
      have hF := hI.out
      rw [List.take_of_length_le (by rw [hm.out]; exact Nat.le_refl _)] at hF
      have HF := hide hF
      clear hF hRw
      go_wp2_with fail
      go_ret
      exact ⟨⟨_, rfl, HF.out.own⟩, HB1.out.grown HF.out.grown HB1.out.size (fun k hk => by simp [Value.ownBlock] at hk)⟩
/-- The append of bytes as a step of a region that draws its order. -/
theorem step_append_bs {w : World} {ops : Array Oper} {o : Oper} {a : Act} {K : Act → World → Prop} {Q : Exit → Act → World → Prop} {E : Prop} (hgd : o.guard = none) (s x : Operand)
    (ho : o.op = .call { callee := .builtin .append, args := #[s, x], argTypes := #[69, 69] })
    (base : Nat) (v : Value) (n : Nat) (xs : List Value) (hs : a.eval s = v) (hown : w.ownsRow base 5 1 v n xs) (A : Option Addr) (m cap : Nat) (bs : List Nat) (hx : a.eval x = .slice A m cap) (hm : Hid (bs.length = m)) (hr : Rb w A bs)
    (hb : n + m ≤ 1000000000000) (hbase : base ≤ w.heap.size)
    (h : ∀ v' w', w'.ownsRow base 5 1 v' (n + m) (xs ++ u8s bs) → w.grownBy w' v.ownBlock → (v'.ownBlock = v.ownBlock ∨ v'.ownBlock = some w.heap.size) → K (a.put o.dst v') w') :
    if Region.wanted o (yielded ops a.tmps) = true then Oper.wp Tryd.prog o a w K Q else E := by
  have hw : Region.wanted o (yielded ops a.tmps) = true := by simp [Region.wanted, hgd]
  rw [if_pos hw]
  obtain rfl := hm.out
  obtain ⟨v', w', hrun, h2, h3, h5⟩ := run_append_bs w o.type base v n xs hown A cap bs hr hb hbase
  unfold Oper.wp
  simp only [execOp, ho, resolve, invoke, builtin, Sem.run_bind, Sem.run_pure, Result.andThen_ok, List.map_toArray, List.map_cons, List.map_nil, hs, hx, hrun]
  exact h v' w' h2 h3 h5
theorem Pk.App.drew {base : Nat} {w w' : World} {v v' : Value} {n : Nat} {xs : List Value} (h : Pk.App base w v n xs w' v') : Pk.App base w v n xs w'.drew v' := ⟨h.own.drew, grown_drew h.grown, h.at_⟩
theorem drew_size (w : World) (o : Obj) : (w.alloc o).drew.heap.size = w.drew.heap.size + 1 := by
  show (w.alloc o).heap.size = w.heap.size + 1
  simp
theorem Pk.le2 (N : Nat) : Pk.le 2 N = [N % 256, N / 256 % 256] := by simp [Pk.le, List.range_succ]
theorem new_bytes2 (w : World) (a b : Nat) (ha : a < 256) (hb : b < 256) : Rb (w.alloc (.cells #[.int .u8 (a : Nat), .int .u8 (b : Nat)] 5)) (some ⟨w.heap.size, 0, none⟩) [a, b] :=
  (Has.new w 5 (u8s [a, b])).rb (by
    intro x hx
    simp at hx
    omega)
theorem own_lit (w : World) (base c : Nat) (h : base ≤ w.heap.size) : (w.alloc (.cells #[.int .u8 (c : Nat)] 5)).ownsRow base 5 1 (.slice (some ⟨w.heap.size, 0, none⟩) 1 1) 1 (u8s [c]) :=
  ⟨rfl, .inr ⟨_, 1, #[.int .u8 (c : Nat)], rfl, h, heap_alloc_new w _, by omega, by unfold maxLen; omega, by simp, by simp [u8s]⟩⟩
set_option maxRecDepth 100000 in
set_option maxHeartbeats 4000000 in
theorem rdescbytes_c (zs : List Int) (P : Option Addr) (cap : Nat) (u : Bool) (w : World) (hr : Ri w P zs) (hn : zs.length ≤ 1000000) :
    Calls Tryd.prog 80 #[.agg (dcells P zs.length cap u)] w fun e w' => (∃ v, e = .returned v ∧ w'.ownsRow w.heap.size 5 1 v (1 + zs.length * 2) (u8s (Pk.desc zs u))) ∧ Below w.heap.size w w' := by
  have hh : Hid (Pk.head zs u = (zs.length : Int) + (if u = true then 8 else 0)) := hide rfl
  obtain ⟨h0, hh0⟩ : ∃ h, Hid (Pk.head zs u = h) := ⟨_, hide rfl⟩
  have hc1 := u8_num h0
  obtain ⟨c0, hc0⟩ : ∃ c, Hid (Pk.num h0 % 256 = c) := ⟨_, hide rfl⟩
  have HDD : Hid (Pk.desc zs u = [c0] ++ Pk.all 2 zs) := hide (by rw [Pk.desc, Pk.le1, hh0.out, hc0.out])
  rw [hc0.out] at hc1
  rw [hh0.out] at hh
  clear hc0 hh0
  have hb1 := ((Below.refl _ w).alloc (Nat.le_refl _) (Obj.cells (dcells P zs.length cap u) 24)).alloc (by simp) (Obj.cells #[.int .u8 (c0 : Int)] 5)
  have hrow := (desc_row w P zs.length cap u).alloc (Obj.cells #[.int .u8 (c0 : Int)] 5)
  have hown := own_lit (w.alloc (Obj.cells (dcells P zs.length cap u) 24)) w.heap.size c0 (by simp)
  rw [show (w.alloc (Obj.cells (dcells P zs.length cap u) 24)).heap.size = w.heap.size + 1 by simp] at hown
  obtain ⟨w1, hw1⟩ : ∃ w1, Hid ((w.alloc (Obj.cells (dcells P zs.length cap u) 24)).alloc (Obj.cells #[.int .u8 (c0 : Int)] 5) = w1) := ⟨_, hide rfl⟩
  rw [hw1.out] at hb1 hrow hown
  have H0 := hide (Pk.App.refl hown)
  have HR := hide hrow
  have HB1 := hide hb1
  have HS : Hid (∀ wr b' nn ys, Pk.App w.heap.size w1 (.slice (some ⟨w.heap.size + 1, 0, none⟩) 1 1) nn ys wr b' → Ri wr P zs) := hide (fun wr b' nn ys hA => by
    by_cases hz : zs = []
    · subst hz; exact Ri.nil _ _
    · obtain ⟨ad, e, h1, -⟩ := hr.2 hz
      refine (hr.below hb1).grown hA.grown (fun ad' e' _ h => ?_)
      rw [e] at e'
      cases e'
      have h : ad.block = w.heap.size + 1 := Option.some.inj h
      omega)
  rw [HDD.out]
  obtain ⟨m, hm⟩ : ∃ m, Hid (zs.length = m) := ⟨_, hide rfl⟩
  rw [hm.out] at hw1 hn HR hh ⊢
  have hwh : IntKind.i64.wrap ((m : Int) + 8) = (m : Int) + 8 := by rw [IntKind.wrap_i64]; omega
  have hsz := hb1.size
  have HSZ1 : Hid (w.heap.size ≤ w1.heap.size) := hide hsz
  clear hrow hown hb1 hr HDD hsz
  cases u
  case' false => rw [if_neg (by decide), Int.add_zero] at hh
  case' true => rw [if_pos rfl] at hh
  all_goals
    obtain rfl := hh.out
    go_enter Tryd.func80, Tryd.ntmps80
    go_wp2_with fail
    have hw1' := hw1.out
    rw [hw1']
    clear hw1 hw1'
    go_loopw [4, 5] (fun b j wr => ∃ i : Nat, i ≤ m ∧ j = .int .i64 i ∧ Hid (Pk.App w.heap.size w1 (.slice (some ⟨w.heap.size + 1, 0, none⟩) 1 1) (1 + i * 2) (u8s ([c0] ++ Pk.all 2 (zs.take i))) wr b)) (fun _ j _ => m - (intOf j).toNat)
    case atStart => exact ⟨0, by omega, rfl, by simpa [Pk.all] using H0⟩
    case round =>
      obtain ⟨i, hi, rfl, hI⟩ := hrel
      have hRw := HR.out.grown hI.out.grown (by intro h; have h : w.heap.size = w.heap.size + 1 := Option.some.inj h; omega)
      have k0 : wr.cell? ⟨w.heap.size, 0, none⟩ = some (.slice P m cap) := by rw [hRw.cell]; rfl
      by_cases hlt : i < m
      · have him : (i : Int) < m := by omega
        have hDw := HS.out _ _ _ _ hI.out
        obtain ⟨ad, z, rfl, ez, cz⟩ := ri_at hDw i (by rw [hm.out]; exact hlt)
        have hadd : IntKind.i64.wrap ((i : Int) + 1) = (i : Int) + 1 := by rw [IntKind.wrap_i64]; omega
        have hw8 := u8_num z
        have hs : Hid (u8s ([c0] ++ Pk.all 2 (zs.take i)) ++ u8s [Pk.num z % 256, Pk.num z / 256 % 256] = u8s ([c0] ++ Pk.all 2 (zs.take (i + 1)))) := hide (by rw [Pk.all_take 2 zs i z ez.out, Pk.le2, u8s_add, List.append_assoc])
        obtain ⟨x0, hx0⟩ : ∃ c, Hid (Pk.num z % 256 = c) := ⟨_, hide rfl⟩
        obtain ⟨x1, hx1⟩ : ∃ c, Hid (Pk.num z / 256 % 256 = c) := ⟨_, hide rfl⟩
        rw [hx0.out] at hw8 hs
        rw [hx1.out] at hs
        have hq1 : IntKind.u8.wrap (z / 256) = (x1 : Int) := by rw [← hx1.out, IntKind.wrap_u8]; unfold Pk.num; omega
        have hxl : x0 < 256 ∧ x1 < 256 := by rw [← hx0.out, ← hx1.out]; omega
        have HOWN := hide ((hI.out.own.alloc (.cells #[.int .u8 (x0 : Int), .int .u8 (x1 : Int)] 5)).drew)
        have HRB := hide (show Rb ((wr.alloc (.cells #[.int .u8 (x0 : Int), .int .u8 (x1 : Int)] 5)).drew) (some ⟨wr.heap.size, 0, none⟩) [x0, x1] from new_bytes2 wr x0 x1 hxl.1 hxl.2)
        have HB0 := hide (show 1 + i * 2 + 2 ≤ 1000000000000 by omega)
        have HSZ := hide (show w.heap.size ≤ ((wr.alloc (.cells #[.int .u8 (x0 : Int), .int .u8 (x1 : Int)] 5)).drew).heap.size by have := hI.out.grown.size; have := HSZ1.out; simp; omega)
        have HZ3 : Hid (((wr.alloc (.cells #[.int .u8 (x0 : Int), .int .u8 (x1 : Int)] 5)).drew).heap.size = wr.drew.heap.size + 1) := hide (drew_size wr _)
        clear hDw hx0 hxl hx1
        go_wp2_with fail
        go_region_law (refine step_append_bs rfl (.tmp 23) (.tmp 37) rfl w.heap.size _ (1 + i * 2) (u8s ([c0] ++ Pk.all 2 (zs.take i))) (by first | rfl | simp [Act.eval]) HOWN.out (some ⟨wr.heap.size, 0, none⟩) 2 2 [x0, x1] (by first | rfl | simp [Act.eval]) (hide rfl) HRB.out HB0.out HSZ.out (fun v' w' h1 h2 h3 => ?_); have HI2 := hide (Pk.App.bytes (m := 2) (bs := [x0, x1]) hI.out.drew h1 h2 (HZ3.out ▸ h3) (show 1 + i * 2 + 2 = 1 + (i + 1) * 2 by omega) hs.out); clear h1 h2 h3)
        all_goals go_wp2_with fail
        all_goals go_roundw
        all_goals first
          | exact ⟨i + 1, by omega, by go_num, HI2⟩
          | (simp [intOf]; omega)
      · obtain rfl : i = m := by omega
        have hF := hI.out
        rw [List.take_of_length_le (by rw [hm.out]; exact Nat.le_refl _)] at hF
        have HF := hide hF
        clear hF hRw
        go_wp2_with fail
        go_ret
        exact ⟨⟨_, rfl, HF.out.own⟩, HB1.out.grown HF.out.grown HB1.out.size (fun k hk => by have h : w.heap.size + 1 = k := Option.some.inj hk; omega)⟩
theorem own_below {w w' : World} {base n : Nat} {e : TypeId} {v : Value} {xs : List Value} (h : w.ownsRow base e 1 v n xs) (hb : Below w.heap.size w w') : w'.ownsRow base e 1 v n xs := by
  have hl := h.lt
  refine ⟨h.1, ?_⟩
  rcases h.2 with ⟨rfl, rfl⟩ | ⟨g, cap, cur, rfl, h2, h3, h4, h5, h6, h7⟩
  · exact .inl ⟨rfl, rfl⟩
  · exact .inr ⟨g, cap, cur, rfl, h2, (hb.block g (hl g rfl).2).trans h3, h4, h5, h6, h7⟩
theorem own_less {w : World} {base base' n : Nat} {e : TypeId} {v : Value} {xs : List Value} (h : w.ownsRow base e 1 v n xs) (hb : base' ≤ base) : w.ownsRow base' e 1 v n xs := by
  refine ⟨h.1, ?_⟩
  rcases h.2 with ⟨rfl, rfl⟩ | ⟨g, cap, cur, rfl, h2, h3⟩
  · exact .inl ⟨rfl, rfl⟩
  · exact .inr ⟨g, cap, cur, rfl, Nat.le_trans hb h2, h3⟩
theorem rraw_c (ds : List Int) (P D : Option Addr) (nz cap dcap : Nat) (u : Bool) (w : World) (hd : Ri w D ds) (hn : ds.length ≤ 1000000) :
    Calls Tryd.prog 53 #[.agg (tcells P nz cap u D ds.length dcap)] w fun e w' => (∃ v, e = .returned v ∧ w'.ownsRow w.heap.size 5 1 v (ds.length * Tens.each u) (u8s (Pk.all (Tens.each u) ds))) ∧ Below w.heap.size w w' := by
  cases u
  · rw [show Tens.each false = 1 from rfl, Nat.mul_one]
    exact rraw_n ds P D nz cap dcap w hd hn
  · exact rraw_w ds P D nz cap dcap w hd hn
/-- What is appended last: the row, and all that was. -/
theorem bytes_end {w W2 W3 w' : World} {v v' : Value} {n k : Nat} {bs cs : List Nat} (hB : Below w.heap.size w W2) (hb : Below W2.heap.size W2 W3) (h0 : W2.ownsRow (w.heap.size + 1) 5 1 v n (u8s bs))
    (h1 : w'.ownsRow (w.heap.size + 1) 5 1 v' k (u8s bs ++ u8s cs)) (h2 : W3.grownBy w' v.ownBlock) : w'.ownsRow w.heap.size 5 1 v' k (u8s (bs ++ cs)) ∧ Below w.heap.size w w' := by
  refine ⟨by rw [← u8s_add]; exact own_less h1 (Nat.le_succ _), (hB.trans (hb.mono hB.size)).grown h2 (hB.trans (hb.mono hB.size)).size (fun k hk => ?_)⟩
  have := (h0.lt k hk).1
  omega
set_option maxRecDepth 100000 in
set_option maxHeartbeats 4000000 in
theorem rtbytes_c (zs ds : List Int) (P D : Option Addr) (cap dcap : Nat) (u : Bool) (w : World) (hr : Ri w P zs) (hd : Ri w D ds) (hm : zs.length ≤ 1000000) (hdm : ds.length ≤ 1000000) :
    Calls Tryd.prog 54 #[.agg (tcells P zs.length cap u D ds.length dcap)] w fun e w' => (∃ v, e = .returned v ∧ w'.ownsRow w.heap.size 5 1 v (1 + zs.length * 2 + ds.length * Tens.each u) (u8s (Pk.desc zs u ++ Pk.all (Tens.each u) ds))) ∧ Below w.heap.size w w' := by
  have hb1 := ((Below.refl _ w).alloc (Nat.le_refl _) (Obj.cells (tcells P zs.length cap u D ds.length dcap) 53)).drew
  have hrow : Has ((w.alloc (Obj.cells (tcells P zs.length cap u D ds.length dcap) 53)).drew) w.heap.size 53 [.slice P zs.length cap, .bool u, .slice D ds.length dcap] := (tens_row w P zs.length cap u D ds.length dcap).drewN 1
  have hsz : ((w.alloc (Obj.cells (tcells P zs.length cap u D ds.length dcap) 53)).drew).heap.size = w.heap.size + 1 := by
    show (w.alloc (Obj.cells (tcells P zs.length cap u D ds.length dcap) 53)).heap.size = w.heap.size + 1
    simp
  have H1 := hide (rdescbytes_c zs P cap u _ (hr.below hb1) hm)
  have H2 := hide (fun W (h : Below w.heap.size w W) => rraw_c ds P D zs.length cap dcap u W (hd.below h) hdm)
  have hall := hide (Pk.all_lt (Tens.each u) ds)
  have hlen : Hid ((Pk.all (Tens.each u) ds).length = ds.length * Tens.each u) := hide (Pk.all_length _ _)
  have he : Tens.each u ≤ 4 := by unfold Tens.each; split <;> omega
  have hbig : Hid (1 + zs.length * 2 + ds.length * Tens.each u ≤ 1000000000000) := hide (by have := Nat.mul_le_mul hdm he; omega)
  obtain ⟨n, hn⟩ : ∃ n, Hid (zs.length = n) := ⟨_, hide rfl⟩
  obtain ⟨m, hmm⟩ : ∃ m, Hid (ds.length = m) := ⟨_, hide rfl⟩
  obtain ⟨k, hk⟩ : ∃ k, Hid (Tens.each u = k) := ⟨_, hide rfl⟩
  rw [hk.out] at H2 hall hlen hbig ⊢
  rw [hmm.out] at H1 H2 hlen hbig hb1 hrow hsz ⊢
  rw [hn.out] at H1 H2 hbig hb1 hrow hsz ⊢
  obtain ⟨bs, hbs⟩ : ∃ bs, Hid (Pk.desc zs u = bs) := ⟨_, hide rfl⟩
  obtain ⟨cs, hcs⟩ : ∃ cs, Hid (Pk.all k ds = cs) := ⟨_, hide rfl⟩
  rw [hbs.out] at H1 ⊢
  rw [hcs.out] at H2 hall hlen ⊢
  clear hr hd hm hdm hn hmm hk he hbs hcs
  have HB1 := hide hb1
  have HR := hide hrow
  have HSz := hide hsz
  have c0 : ((w.alloc (Obj.cells (tcells P n cap u D m dcap) 53)).drew).cell? ⟨w.heap.size, 0, none⟩ = some (.slice P n cap) := by rw [hrow.cell]; rfl
  have c1 : ((w.alloc (Obj.cells (tcells P n cap u D m dcap) 53)).drew).cell? ⟨w.heap.size, 1, none⟩ = some (.bool u) := by rw [hrow.cell]; rfl
  have c2 : ((w.alloc (Obj.cells (tcells P n cap u D m dcap) 53)).drew).cell? ⟨w.heap.size, 2, none⟩ = some (.slice D m dcap) := by rw [hrow.cell]; rfl
  clear hb1 hrow hsz
  go_enter Tryd.func54, Tryd.ntmps54
  go_wp2_with fail
  go_region_law (first
    | (go_simp; go_at_call 80; refine H1.out.mono ?_; rintro e W2 ⟨⟨v, rfl, ho⟩, hb⟩; have HO := hide (HSz.out ▸ ho); have hz2 : Hid (w.heap.size + 1 ≤ W2.heap.size) := hide (HSz.out ▸ hb.size); have HB2 := hide (HB1.out.trans (hb.mono HB1.out.size)); have hR2 := HR.out.below hb HR.out.lt; have k0 : W2.cell? ⟨w.heap.size, 0, none⟩ = some (.slice P n cap) := (by rw [hR2.cell]; rfl); have k1 : W2.cell? ⟨w.heap.size, 1, none⟩ = some (.bool u) := (by rw [hR2.cell]; rfl); have k2 : W2.cell? ⟨w.heap.size, 2, none⟩ = some (.slice D m dcap) := (by rw [hR2.cell]; rfl); clear hR2 ho hb)
    | (go_simp; go_at_call 53; refine (H2.out _ HB2.out).mono ?_; rintro e W3 ⟨⟨v2, rfl, ho⟩, hb⟩; have hb3 := hide hb; obtain ⟨A, c, rfl, hA⟩ := own_rbs ho hall.out; have HA := hide hA.1; have HO3 := hide (own_below HO.out hb); clear ho hb)
    | (refine step_append_bs rfl (.tmp 5) (.tmp 7) rfl (w.heap.size + 1) _ (1 + n * 2) (u8s bs) rfl HO3.out A (m * k) c cs rfl hlen HA.out hbig.out (by have := hz2.out; have := hb3.out.size; omega) (fun v' w' h1 h2 h3 => ?_); have HE := hide (bytes_end HB2.out hb3.out HO.out h1 h2); clear h1 h2 h3))
  all_goals go_wp2_with fail
  all_goals go_ret
  all_goals exact ⟨⟨_, rfl, HE.out.1⟩, HE.out.2⟩
end Go.Proofs.YtnbjcdmiehnceaaDoor
