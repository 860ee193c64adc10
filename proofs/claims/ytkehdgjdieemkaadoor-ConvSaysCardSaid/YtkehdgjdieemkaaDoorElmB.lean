/-
  What two tensors look like. By an AI agent. No person has read it.
-/
import Derived.Test.YtkehdgjdieemkaaDoorElmA
import Derived.Test.YtkehdgjdieemkaaDoorTenA
import Derived.Laws.OwnMore
import Derived.LoopN
namespace Go.Proofs.YtkehdgjdieemkaaDoor
open Go.RowKit

theorem descinfo : ∃ i : TypeInfo, Tryd.prog.info? 24 = some i ∧ i.zero = some (.agg #[.slice none 0 0, .bool false]) ∧ i.size = 2 ∧ i.bytes = 32 := by
  obtain ⟨i, hi⟩ : ∃ i, Tryd.prog.info? 24 = some i := by
    refine Option.isSome_iff_exists.1 ?_
    kernel_rfl
  have h1 : (Tryd.prog.info? 24).bind (·.zero) = some (.agg #[.slice none 0 0, .bool false]) := by kernel_rfl
  have h2 : (Tryd.prog.info? 24).map (·.size) = some 2 := by kernel_rfl
  have h3 : (Tryd.prog.info? 24).map (·.bytes) = some 32 := by kernel_rfl
  rw [hi] at h1 h2 h3
  exact ⟨i, hi, by simpa using h1, by simpa using h2, by simpa using h3⟩
theorem uds : Tryd.prog.underlying 75 = some (.slice 24) := by kernel_rfl
/-- A row of the call's own is kept by what is done below. -/
theorem own_kept {w w' : World} {base n s : Nat} {e : TypeId} {v : Value} {xs : List Value} (h : w.ownsRow base e s v n xs) (hb : Below w.heap.size w w') : w'.ownsRow base e s v n xs := by
  refine ⟨h.1, ?_⟩
  rcases h.2 with ⟨h1, h2⟩ | ⟨g, c, cur, h1, h2, h3, h4⟩
  · exact .inl ⟨h1, h2⟩
  · refine .inr ⟨g, c, cur, h1, h2, ?_, h4⟩
    rw [hb.block g (Array.getElem?_eq_some_iff.1 h3).1]
    exact h3
theorem elm_grown {w W w' : World} {base n s : Nat} {e : TypeId} {v : Value} {xs : List Value} (hb : Below base w W) (h : W.ownsRow base e s v n xs) (hs : base ≤ W.heap.size) (hg : W.grownBy w' v.ownBlock) : Below base w w' := by
  refine hb.grown hg hs (fun k hk => ?_)
  rcases h.2 with ⟨rfl, -⟩ | ⟨g, c, cur, rfl, h2, -⟩
  · cases hk
  · have : g = k := Option.some.inj hk
    omega
theorem results_two {fn : Func} {p u : Tmp} (h : fn.results = #[.tmp p, .tmp u]) (tmps : Array Value) (w : World) : (results fn tmps).run Tryd.prog w = .ok (.tuple #[tmps.getD p undef, tmps.getD u undef]) w := by
  simp [results, h]
theorem own_apart {w : World} {base n s g : Nat} {e : TypeId} {v : Value} {xs : List Value} (h : w.ownsRow base e s v n xs) (hg : g < base) : some g ≠ v.ownBlock := by
  intro hk
  rcases h.2 with ⟨rfl, -⟩ | ⟨k, c, cur, rfl, h2, -⟩
  · cases hk
  · have : g = k := Option.some.inj hk
    omega
set_option maxRecDepth 100000 in
set_option maxHeartbeats 8000000 in
theorem looks_two (zs ys ds es : List Int) (P P2 D D2 : Option Addr) (cap cap2 dcap dcap2 : Nat) (u u2 : Bool) (g : Nat) (t : TypeId) (ah am ar : Addr) (w : World)
    (hg : Has w g t [.slice P zs.length cap, .bool u, .slice D ds.length dcap, .slice P2 ys.length cap2, .bool u2, .slice D2 es.length dcap2])
    (hr : Ri w P zs) (hd : Ri w D ds) (hr2 : Ri w P2 ys) (hd2 : Ri w D2 es)
    (hm : zs.length ≤ 1000000) (hdm : ds.length ≤ 1000000) (hm2 : ys.length ≤ 1000000) (hdm2 : es.length ≤ 1000000) (hE : E3 w ah am ar)
    (hF : Tens.fault zs u ds = (0, none)) (hF2 : Tens.fault ys u2 es = (0, none)) :
    Calls Tryd.prog 69 #[.slice (some ⟨g, 0, none⟩) 2 2] w fun e w' => (∃ v, e = .returned (.tuple #[v, .nilIface]) ∧ w'.ownsRow w.heap.size 24 2 v 2 [.slice P zs.length cap, .bool u, .slice P2 ys.length cap2, .bool u2]) ∧ Below w.heap.size w w' := by
  have V1 := hide (fun W (hb : Below w.heap.size w W) => tvalid_c zs ds P D cap dcap u ah am ar W (hr.below hb) (hd.below hb) (by omega) (by omega) (hE.below hb))
  have V2 := hide (fun W (hb : Below w.heap.size w W) => tvalid_c ys es P2 D2 cap2 dcap2 u2 ah am ar W (hr2.below hb) (hd2.below hb) (by omega) (by omega) (hE.below hb))
  rw [hF] at V1
  rw [hF2] at V2
  obtain ⟨n1, h1⟩ : ∃ n, zs.length = n := ⟨_, rfl⟩
  obtain ⟨n2, h2⟩ : ∃ n, ds.length = n := ⟨_, rfl⟩
  obtain ⟨n3, h3⟩ : ∃ n, ys.length = n := ⟨_, rfl⟩
  obtain ⟨n4, h4⟩ : ∃ n, es.length = n := ⟨_, rfl⟩
  rw [h1, h2] at V1
  rw [h3, h4] at V2
  rw [h1, h2, h3, h4] at hg
  rw [h1, h3]
  clear h1 h2 h3 h4 hF hF2 hr hd hr2 hd2 hm hdm hm2 hdm2 hE
  obtain ⟨i0, hi0, hz0, hz1, hz2⟩ := descinfo
  have HI0 := hide hi0
  have HZ0 := hide hz0
  have HZ1 := hide hz1
  have HZ2 := hide hz2
  have HU := hide uds
  clear hi0 hz0 hz1 hz2
  have HG := hide hg
  have HB := hide (Below.refl w.heap.size w)
  have hglt := hg.lt
  clear hg
  have HO : Hid (w.ownsRow w.heap.size 24 2 (.slice none 0 0) 0 []) := hide ⟨rfl, .inl ⟨rfl, rfl⟩⟩
  go_enter Tryd.func69, Tryd.ntmps69
  go_wp2_with fail
  refine wp_loop_rounds 3 ?_
  rw [rounds_succ]
  have c0 : w.cell? ⟨g, 0, none⟩ = some (.slice P n1 cap) := HG.out.cell 0
  have c1 : w.cell? ⟨g, 1, none⟩ = some (.bool u) := HG.out.cell 1
  have c2 : w.cell? ⟨g, 2, none⟩ = some (.slice D n2 dcap) := HG.out.cell 2
  have hx : Has (w.alloc (.cells #[.slice P n1 cap, .bool u, .slice D n2 dcap] 26)) w.heap.size 26 [.slice P n1 cap, .bool u, .slice D n2 dcap] := Has.new _ _ _
  have HG' := hide (HG.out.alloc (.cells #[.slice P n1 cap, .bool u, .slice D n2 dcap] 26))
  have HB' := hide (HB.out.alloc HB.out.size (.cells #[.slice P n1 cap, .bool u, .slice D n2 dcap] 26))
  have HO' := hide (HO.out.alloc (.cells #[.slice P n1 cap, .bool u, .slice D n2 dcap] 26))
  have HX := hide hx
  clear HG HB HO hx
  go_wp2_with fail
  clear c0 c1 c2
  refine (V1.out _ HB'.out).mono ?_
  rintro e w0a ⟨⟨v0, rfl, hv⟩, hb⟩
  obtain rfl : v0 = .nilIface := hv
  generalize w.alloc (.cells #[.slice P n1 cap, .bool u, .slice D n2 dcap] 26) = X0 at *
  have HG := hide (HG'.out.below hb HG'.out.lt)
  have HB := hide (HB'.out.trans (hb.mono HB'.out.size))
  have hx := HX.out.below hb HX.out.lt
  have hown := own_kept HO'.out hb
  clear HG' HB' HX HO' hb
  have c3 : w0a.cell? ⟨w.heap.size, 0, none⟩ = some (.slice P n1 cap) := hx.cell 0
  have c4 : w0a.cell? ⟨w.heap.size, 1, none⟩ = some (.bool u) := hx.cell 1
  clear hx
  have HG' := hide (HG.out.alloc (.cells #[.slice P n1 cap, .bool u] 24))
  have HB' := hide (HB.out.alloc HB.out.size (.cells #[.slice P n1 cap, .bool u] 24))
  have hown2 := hide (hown.alloc (.cells #[.slice P n1 cap, .bool u] 24))
  have hsz := hide HB'.out.size
  have hnw := hide (new_cells w0a 24 [.slice P n1 cap, .bool u])
  have h1w : Hid (∀ x ∈ [Value.slice P n1 cap, .bool u], x.oneCell' = true) := hide (by
    intro x hx
    simp at hx
    rcases hx with rfl | rfl
    all_goals rfl)
  clear HB HG hown
  go_wp2_with (at_builtin; refine wpList_append_own_at _ rfl _ _ 75 rfl w.heap.size 24 i0 (.agg #[.slice none 0 0, .bool false]) 2 32 HU.out HI0.out HZ0.out HZ1.out HZ2.out rfl (by decide) (.slice none 0 0) 0 _ rfl hown2.out ⟨w0a.heap.size, 0, none⟩ 1 1 [.slice P n1 cap, .bool u] rfl rfl hnw.out h1w.out (by unfold maxLen; omega) (by omega) hsz.out ?_)
  intro s0 W0 hown' hgrow hnil hat
  have HG := hide (HG'.out.grown hgrow (own_apart hown2.out hglt))
  have HB := hide (elm_grown HB'.out hown2.out HB'.out.size hgrow)
  have HO := hide hown'
  clear HG' HB' hown2 hown' hgrow hnw h1w hsz c3 c4 hnil
  clear hat
  go_wp2_with fail
  rw [rounds_succ]
  have c0 : W0.cell? ⟨g, 3, none⟩ = some (.slice P2 n3 cap2) := HG.out.cell 3
  have c1 : W0.cell? ⟨g, 4, none⟩ = some (.bool u2) := HG.out.cell 4
  have c2 : W0.cell? ⟨g, 5, none⟩ = some (.slice D2 n4 dcap2) := HG.out.cell 5
  have hx : Has (W0.alloc (.cells #[.slice P2 n3 cap2, .bool u2, .slice D2 n4 dcap2] 26)) W0.heap.size 26 [.slice P2 n3 cap2, .bool u2, .slice D2 n4 dcap2] := Has.new _ _ _
  have HG' := hide (HG.out.alloc (.cells #[.slice P2 n3 cap2, .bool u2, .slice D2 n4 dcap2] 26))
  have HB' := hide (HB.out.alloc HB.out.size (.cells #[.slice P2 n3 cap2, .bool u2, .slice D2 n4 dcap2] 26))
  have HO' := hide (HO.out.alloc (.cells #[.slice P2 n3 cap2, .bool u2, .slice D2 n4 dcap2] 26))
  have HX := hide hx
  clear HG HB HO hx
  go_wp2_with fail
  clear c0 c1 c2
  refine (V2.out _ HB'.out).mono ?_
  rintro e w1a ⟨⟨v1, rfl, hv⟩, hb⟩
  obtain rfl : v1 = .nilIface := hv
  generalize W0.alloc (.cells #[.slice P2 n3 cap2, .bool u2, .slice D2 n4 dcap2] 26) = X1 at *
  have HG := hide (HG'.out.below hb HG'.out.lt)
  have HB := hide (HB'.out.trans (hb.mono HB'.out.size))
  have hx := HX.out.below hb HX.out.lt
  have hown := own_kept HO'.out hb
  clear HG' HB' HX HO' hb
  have c3 : w1a.cell? ⟨W0.heap.size, 0, none⟩ = some (.slice P2 n3 cap2) := hx.cell 0
  have c4 : w1a.cell? ⟨W0.heap.size, 1, none⟩ = some (.bool u2) := hx.cell 1
  clear hx
  have HG' := hide (HG.out.alloc (.cells #[.slice P2 n3 cap2, .bool u2] 24))
  have HB' := hide (HB.out.alloc HB.out.size (.cells #[.slice P2 n3 cap2, .bool u2] 24))
  have hown2 := hide (hown.alloc (.cells #[.slice P2 n3 cap2, .bool u2] 24))
  have hsz := hide HB'.out.size
  have hnw := hide (new_cells w1a 24 [.slice P2 n3 cap2, .bool u2])
  have h1w : Hid (∀ x ∈ [Value.slice P2 n3 cap2, .bool u2], x.oneCell' = true) := hide (by
    intro x hx
    simp at hx
    rcases hx with rfl | rfl
    all_goals rfl)
  clear HB HG hown
  go_wp2_with (at_builtin; refine wpList_append_own_at _ rfl _ _ 75 rfl w.heap.size 24 i0 (.agg #[.slice none 0 0, .bool false]) 2 32 HU.out HI0.out HZ0.out HZ1.out HZ2.out rfl (by decide) s0 1 _ rfl hown2.out ⟨w1a.heap.size, 0, none⟩ 1 1 [.slice P2 n3 cap2, .bool u2] rfl rfl hnw.out h1w.out (by unfold maxLen; omega) (by omega) hsz.out ?_)
  intro s1 W1 hown' hgrow hnil hat
  have HG := hide (HG'.out.grown hgrow (own_apart hown2.out hglt))
  have HB := hide (elm_grown HB'.out hown2.out HB'.out.size hgrow)
  have HO := hide hown'
  clear HG' HB' hown2 hown' hgrow hnw h1w hsz c3 c4 hnil
  clear hat
  go_wp2_with fail
  rw [rounds_succ]
  go_wp2_with fail
  refine bodyPost_ret (results_two rfl _ _) rfl ?_
  exact ⟨⟨_, rfl, HO.out⟩, HB.out⟩
end Go.Proofs.YtkehdgjdieemkaaDoor
