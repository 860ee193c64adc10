/-
  cells.Looks of any tensors, walked. By an AI agent. No person has read it.
-/
import Derived.Test.YtkehdgjdieemkaaDoorElmG
namespace Go.Proofs.YtkehdgjdieemkaaDoor
open Go.RowKit

set_option maxRecDepth 100000 in
set_option maxHeartbeats 8000000 in
theorem looks_c (ts : List Ten) (B : Option Addr) (cap : Nat) (ah am ar : Addr) (w : World) (hT : Row w B (ts.flatMap Ten.vals)) (hI : ∀ t ∈ ts, t.In w) (hl : ts.length ≤ 1000000) (hE : E3 w ah am ar) :
    Calls Tryd.prog 69 #[.slice B ts.length cap] w fun e w' =>
      (∃ v x, e = .returned (.tuple #[v, x]) ∧ (Tens.first ts = (0, none) → x = .nilIface ∧ w'.ownsRow w.heap.size 24 2 v ts.length (ts.flatMap fun t => t.look.vals)) ∧ (Tens.first ts ≠ (0, none) → v = .slice none 0 0 ∧ TErr w' ah am ar x (Tens.first ts))) ∧ Below w.heap.size w w' := by
  have V : Hid (∀ (i : Nat) (t : Ten), ts[i]? = some t → ∀ W, Below w.heap.size w W → Calls Tryd.prog 54 #[.agg (tcells t.P t.zs.length t.cap t.u t.D t.ds.length t.dcap)] W fun e w' => (∃ v, e = .returned v ∧ TErr w' ah am ar v t.fault) ∧ Below W.heap.size W w') := hide fun i t ht W hb => by
    have h := (hI t (List.mem_of_getElem? ht)).below hb
    exact tvalid_c t.zs t.ds t.P t.D t.cap t.dcap t.u ah am ar W h.shp h.dat (by have := h.ls; omega) (by have := h.ld; omega) (hE.below hb)
  have HR := hide hT
  obtain ⟨i0, hi0, hz0, hz1, hz2⟩ := descinfo
  have HI0 := hide hi0
  have HZ0 := hide hz0
  have HZ1 := hide hz1
  have HZ2 := hide hz2
  have HU := hide uds
  clear hi0 hz0 hz1 hz2 hT hI hE
  obtain ⟨n, hn⟩ : ∃ n, Hid (ts.length = n) := ⟨_, hide rfl⟩
  rw [hn.out] at hl ⊢
  go_enter Tryd.func69, Tryd.ntmps69
  go_wp2_with fail
  go_loopw [4, 10] (fun v k wr => ∃ i : Nat, i ≤ n ∧ k = .int .i64 i ∧ Hid (wr.ownsRow w.heap.size 24 2 v i ((ts.take i).flatMap fun t => t.look.vals)) ∧ Hid (Below w.heap.size w wr) ∧ Hid (∀ (j : Nat) x, j < i → ts[j]? = some x → x.fault = (0, none))) (fun _ k _ => n - (intOf k).toNat)
  case atStart => exact ⟨0, by omega, rfl, hide ⟨rfl, .inl ⟨rfl, rfl⟩⟩, hide (Below.refl _ _), hide (fun j x hj => by omega)⟩
  case round =>
    obtain ⟨i, hi, rfl, HO, HB, HF⟩ := hrel
    by_cases hlt : i < n
    · obtain ⟨ad, t, rfl, had, ht, c0, c1, c2⟩ := row_ten (HR.out.below HB.out) i (by rw [hn.out]; exact hlt)
      have hx := Has.new wr 26 t.vals
      have HBx := hide (HB.out.alloc HB.out.size (.cells t.vals.toArray 26))
      have HOx := hide (HO.out.alloc (.cells t.vals.toArray 26))
      have HX := hide hx
      have HV := hide (V.out i t ht.out _ HBx.out)
      have hcs := tfault_cases t.zs t.u t.ds
      have hek : Ten.fault t = Tens.fault t.zs t.u t.ds := rfl
      rw [← hek] at hcs
      clear hek hx HO HB V
      go_wp2_with fail
      clear c0 c1 c2 had
      refine HV.out.mono ?_
      rintro e w1 ⟨⟨v, rfl, hv⟩, hb⟩
      have HB := hide (HBx.out.trans (hb.mono HBx.out.size))
      have hx := HX.out.below hb HX.out.lt
      have hown := own_kept HOx.out hb
      clear HV HBx HOx HX hb
      have c3 : w1.cell? ⟨wr.heap.size, 0, none⟩ = some (.slice t.P t.zs.length t.cap) := hx.cell 0
      have c4 : w1.cell? ⟨wr.heap.size, 1, none⟩ = some (.bool t.u) := hx.cell 1
      clear hx
      by_cases hf : t.fault = (0, none)
      · rw [hf] at hv
        obtain rfl : v = .nilIface := hv
        have hown2 := hide (hown.alloc (.cells #[.slice t.P t.zs.length t.cap, .bool t.u] 24))
        have HB2 := hide (HB.out.alloc HB.out.size (.cells #[.slice t.P t.zs.length t.cap, .bool t.u] 24))
        have hsz := hide HB2.out.size
        have hnw := hide (new_cells w1 24 [.slice t.P t.zs.length t.cap, .bool t.u])
        have h1w : Hid (∀ x ∈ [Value.slice t.P t.zs.length t.cap, .bool t.u], x.oneCell' = true) := hide (by
          intro x hx
          simp at hx
          rcases hx with rfl | rfl
          all_goals rfl)
        have HFt := hide hf
        clear hown HB hcs hf
        go_wp2_with (at_builtin; refine wpList_append_own_at _ rfl _ _ 75 rfl w.heap.size 24 i0 (.agg #[.slice none 0 0, .bool false]) 2 32 HU.out HI0.out HZ0.out HZ1.out HZ2.out rfl (by decide) _ i _ rfl hown2.out ⟨w1.heap.size, 0, none⟩ 1 1 [.slice t.P t.zs.length t.cap, .bool t.u] rfl rfl hnw.out h1w.out (by unfold maxLen; omega) (by omega) hsz.out ?_)
        intro s0 W0 hown' hgrow hnil hat
        have HB := hide (elm_grown HB2.out hown2.out HB2.out.size hgrow)
        have HO := hide hown'
        clear HB2 hown2 hown' hgrow hnw h1w hsz c3 c4 hnil hat
        go_wp2_with fail
        go_roundw
        case rel =>
          refine ⟨i + 1, by omega, by go_num, hide ?_, HB, hide (fun j x hj hx => ?_)⟩
          · have h := HO.out
            rw [List.take_add_one, ht.out, Option.toList_some, List.flatMap_append, List.flatMap_cons, List.flatMap_nil, List.append_nil]
            exact h
          · rcases Nat.lt_or_ge j i with h | h
            · exact HF.out j x h hx
            · obtain rfl : j = i := by omega
              rw [ht.out] at hx
              obtain rfl := Option.some.inj hx
              exact HFt.out
        case measure => simp [intOf]; omega
      · have hE := hv.errv hcs hf
        have e1 := hide (Tens.first_at ts i t ht.out HF.out hf)
        have HV := hide hv
        have HN := hide hf
        have r1 := run_neqerr hE
        have r2 := run_neqguard hE
        clear hown hf hv hcs c3 c4 hE
        go_wp2_with fail
        refine bodyPost_ret (results_two rfl _ _) rfl ?_
        refine ⟨⟨_, _, rfl, fun h => ?_, fun _ => ⟨rfl, ?_⟩⟩, HB.out⟩
        · rw [e1.out] at h
          exact absurd h HN.out
        · rw [e1.out]
          exact HV.out
    · obtain rfl : i = n := by omega
      have hl2 : ts.take i = ts := List.take_of_length_le (by rw [hn.out]; exact Nat.le_refl _)
      rw [hl2] at HO
      have e1 := hide (Tens.first_none ts fun j x hx => HF.out j x (by have := (List.getElem?_eq_some_iff.1 hx).1; rw [hn.out] at this; exact this) hx)
      clear hl2 HF
      go_wp2_with fail
      refine bodyPost_ret (results_two rfl _ _) rfl ?_
      exact ⟨⟨_, _, rfl, fun _ => ⟨rfl, HO.out⟩, fun h => absurd e1.out h⟩, HB.out⟩
end Go.Proofs.YtkehdgjdieemkaaDoor
