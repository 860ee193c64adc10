/-
  The law SoftSays, walked. By an AI agent. No person has read it.
-/
import Derived.Test.YtgdcfjmpjhlndaaGreatDoorZFOpX
import Derived.Test.YtgdcfjmpjhlndaaGreatDoorZFOpSame
import Derived.Test.YtgdcfjmpjhlndaaGreatDoorZFSftO
import Derived.Test.YtgdcfjmpjhlndaaGreatDoorZFSftS
import Derived.Test.YtgdcfjmpjhlndaaGreatDoorZFOpG
import Derived.Test.YtgdcfjmpjhlndaaGreatDoorZFTenH
import Derived.Test.YtgdcfjmpjhlndaaGreatDoorZFShpX
namespace Go.Proofs.YtgdcfjmpjhlndaaGreatDoor
open Go.RowKit
instance (op : Int) : Decidable (Sf.isOp op) := inferInstanceAs (Decidable (_ ∨ _ ∨ _ ∨ _))
/-- What an operation of package soft looks like, whatever it is. -/
def Sf.res (op : Int) (ds : List Dsc) : Nat × List Int × Bool := if Sf.isOp op then (Sf.code op ds, Sf.shape op ds, Sf.kind op ds) else (103, [], false)
theorem Sf.res_known (op : Int) (ds : List Dsc) : (Sf.res op ds).1 = 0 ∨ (Sf.res op ds).1 = 101 ∨ (Sf.res op ds).1 = 102 ∨ (Sf.res op ds).1 = 103 ∨ (Sf.res op ds).1 = 104 := by
  unfold Sf.res
  split
  · have h := Sf.code_known op ds
    unfold Cel.known at h
    show Sf.code op ds = 0 ∨ Sf.code op ds = 101 ∨ Sf.code op ds = 102 ∨ Sf.code op ds = 103 ∨ Sf.code op ds = 104
    omega
  · exact .inr (.inr (.inr (.inl rfl)))
def SfE (w : World) (ah am ar ak : Addr) (L : Nat × List Int × Bool) (e : Ending) (w' : World) : Prop :=
  (∃ d : Dsc, e = .returned (.tuple #[.agg (dcells d.P d.zs.length d.cap d.u), Elm.err ah am ar ak L.1]) ∧ d.In w' ∧ d.zs = L.2.1 ∧ d.u = L.2.2) ∧ Below w.heap.size w w'
theorem sresult_any (op : Int) (ds : List Dsc) (B : Option Addr) (cap : Nat) (ah am ar ak : Addr) (w : World) (hR : Row w B (ds.flatMap Dsc.vals)) (hI : ∀ d ∈ ds, d.In w) (hl : ds.length ≤ 1000000) (hE : E4 w ah am ar ak) :
    Calls Tryz.prog 14 #[.int .i64 op, .slice B ds.length cap] w (SfE w ah am ar ak (Sf.res op ds)) := by
  unfold Sf.res
  by_cases h : Sf.isOp op
  · rw [if_pos h]
    refine (sresult_c op h ds B cap ah am ar w hR hI hl hE.1).mono ?_
    rintro e w' ⟨⟨d, rfl, h1, -, h2, h3⟩, hb⟩
    exact ⟨⟨d, by rw [Op.err_known (Sf.code_known op ds)], h1, h2, h3⟩, hb⟩
  · rw [if_neg h]
    refine (sresult_none op h B ds.length cap ah am ar ak w hE).mono ?_
    rintro e w' ⟨rfl, hb⟩
    exact ⟨⟨⟨none, [], 0, false⟩, rfl, ⟨Ri.nil _ _, by simp⟩, rfl, rfl⟩, hb⟩
theorem rsoft_any (op : Int) (ds : List Dsc) (B : Option Addr) (cap : Nat) (w : World) (hR : Row w B (ds.flatMap Dsc.vals)) (hI : ∀ d ∈ ds, d.In w) (hc : ∀ d ∈ ds, d.zs.length ≤ d.cap) :
    Calls Tryz.prog 15 #[.int .i64 op, .slice B ds.length cap] w (RefD w (Sf.res op ds).2.1 (Sf.res op ds).2.2 (Sf.res op ds).1) := by
  unfold Sf.res
  by_cases h : Sf.isOp op
  · rw [if_pos h]
    exact (rsoft_c op h ds B cap w hR hI hc).mono fun _ _ h => h.d
  · rw [if_neg h]
    refine (rsoft_none op h B ds.length cap w).mono ?_
    rintro e w' ⟨rfl, hb⟩
    exact ⟨⟨⟨none, [], 0, false⟩, rfl, ⟨Ri.nil _ _, by simp⟩, rfl, rfl⟩, hb⟩
/-- lodgeref3.Result of an operation of package soft. -/
theorem rres_sf {op : Int} (hop : Sf.isOp op) (ds : List Dsc) (hn : ds.length = Sf.nins op) (B : Option Addr) (cap : Nat) (w : World) (hR : Row w B (ds.flatMap Dsc.vals)) (hI : ∀ d ∈ ds, d.In w) (hc : ∀ d ∈ ds, d.zs.length ≤ d.cap) :
    Calls Tryz.prog 38 #[.int .i64 op, .slice none 0 0, .slice B ds.length cap] w (RefE w (Sf.shape op ds) (Sf.kind op ds) (Sf.code op ds)) := by
  rw [hn]
  rcases hop with rfl | rfl | rfl | rfl
  · exact rres_soft16 ds none B 0 cap w hn hR hI hc
  · exact rres_soft17 ds none B 0 cap w hn hR hI hc
  · exact rres_soft19 ds none B 0 cap w hn hR hI hc
  · exact rres_soft20 ds none B 0 cap w hn hR hI hc
theorem rapply_sf {op : Int} (hop : Sf.isOp op) (ts : List Ten) (hn : ts.length = Sf.nins op) (hd : ∀ t ∈ ts, t.ds.length ≤ t.dcap) (B : Option Addr) (cap : Nat) (w : World) (hR : Row w B (ts.flatMap Ten.vals)) (hI : ∀ t ∈ ts, t.In w) (hl : ts.length ≤ 1000000) (hz : ∀ t ∈ ts, t.zs.length ≤ t.cap) (F : Nat × Option Nat) (hF : Cel.fault ts (Sf.code op (ts.map Ten.look)) = F) :
    Calls Tryz.prog 11 #[.int .i64 op, .slice none 0 0, .slice B ts.length cap] w (RTenE w F (if F = (0, none) then Sf.shape op (ts.map Ten.look) else []) (if F = (0, none) then Sf.kind op (ts.map Ten.look) else false) (if F = (0, none) then Sf.ds op ts else [])) := by
  have h := rapply_c op ts none B 0 0 cap (Sf.shape op (ts.map Ten.look)) (Sf.kind op (ts.map Ten.look)) (Sf.code op (ts.map Ten.look)) (Sf.ds op ts) w hR hI hl (fun W B' cap' hb hr => by
    have h := rres_sf hop (ts.map Ten.look) (by rw [List.length_map, hn]) B' cap' W (by rw [Ten.flat_look]; exact hr) (fun d hd => by
      obtain ⟨t, ht, rfl⟩ := List.mem_map.1 hd
      exact ((hI t ht).below hb).look) (fun d hd => by
      obtain ⟨t, ht, rfl⟩ := List.mem_map.1 hd
      exact hz t ht)
    rw [List.length_map] at h
    exact h) (fun h => by
    have hf := Sf.fine hop hd h
    have h2 := Sf.size_le hf
    exact ⟨by rw [Sf.ds_length]; omega, Sf.part_wf 0 _ (fun i hi => by rw [Nat.zero_add]; exact hf.wf i hi), by rw [Sf.ds_length]; omega⟩) (fun h i v W d hv hB _ _ _ => relem_sf hop hd h none B 0 0 cap W (hR.below hB) (fun t ht => (hI t ht).below hB) i v d hv)
  unfold Cel.or at h
  rw [hF] at h
  exact h
theorem relement_sf {op : Int} (hop : Sf.isOp op) (ts : List Ten) (hn : ts.length = Sf.nins op) (hd : ∀ t ∈ ts, t.ds.length ≤ t.dcap) (i : Int) (B : Option Addr) (cap : Nat) (w : World) (hR : Row w B (ts.flatMap Ten.vals)) (hI : ∀ t ∈ ts, t.In w) (hl : ts.length ≤ 1000000) (hz : ∀ t ∈ ts, t.zs.length ≤ t.cap) :
    Calls Tryz.prog 19 #[.int .i64 op, .slice none 0 0, .int .i64 i, .slice B ts.length cap] w fun e w' => e = .returned (.int .i64 (Sf.cell op ts i)) ∧ Below w.heap.size w w' :=
  relement_c op ts none B 0 0 cap (Sf.shape op (ts.map Ten.look)) (Sf.kind op (ts.map Ten.look)) (Sf.code op (ts.map Ten.look)) (Sf.ds op ts) i w hR hI hl (fun W B' cap' hb hr => by
    have h := rres_sf hop (ts.map Ten.look) (by rw [List.length_map, hn]) B' cap' W (by rw [Ten.flat_look]; exact hr) (fun d hd => by
      obtain ⟨t, ht, rfl⟩ := List.mem_map.1 hd
      exact ((hI t ht).below hb).look) (fun d hd => by
      obtain ⟨t, ht, rfl⟩ := List.mem_map.1 hd
      exact hz t ht)
    rw [List.length_map] at h
    exact h) (fun h => by
    have h2 := Sf.size_le (Sf.fine hop hd h)
    rw [Sf.ds_length]
    omega) (fun h i v W d hv hB _ _ _ => relem_sf hop hd h none B 0 0 cap W (hR.below hB) (fun t ht => (hI t ht).below hB) i v d hv)
theorem is_op {es : List Addr} {ah am ar ak : Addr} (h0 : es[0]? = some ah) (h1 : es[1]? = some ar) (h2 : es[2]? = some ak) (h3 : es[3]? = some am) (k : Nat) (hk : k = 0 ∨ k = 101 ∨ k = 102 ∨ k = 103 ∨ k = 104) (w : World) (h : Ez w es) :
    Calls Tryz.prog 16 #[Elm.err ah am ar ak k, .int .i64 (k : Nat)] w fun e w' => e = .returned (.bool true) ∧ Below w.heap.size w w' := by
  rcases hk with rfl | rfl | rfl | rfl | rfl
  · exact is_nil 0 w
  · exact is_c es 0 ah h0 101 w h
  · exact is_c es 1 ar h1 102 w h
  · exact is_c es 2 ak h2 103 w h
  · exact is_c es 3 am h3 104 w h
theorem rsame_good (s t : Ten) (w : World) (hs : s.In w) (ht : t.In w) (h1 : s.zs = t.zs) (h2 : s.u = t.u) (h3 : s.ds = t.ds) :
    Calls Tryz.prog 13 #[.agg (tcells s.P s.zs.length s.cap s.u s.D s.ds.length s.dcap), .agg (tcells t.P t.zs.length t.cap t.u t.D t.ds.length t.dcap)] w fun e w' => e = .returned (.bool true) ∧ Below w.heap.size w w' := by
  refine (sametensor_c s.zs t.zs s.ds t.ds s.P t.P s.D t.D s.cap t.cap s.dcap t.dcap s.u t.u w hs.shp ht.shp hs.dat ht.dat hs.ls ht.ls hs.ld ht.ld).mono fun e w' h => ?_
  rw [decide_eq_true h1, decide_eq_true h3, h2] at h
  simpa using h
theorem rdesc_good (a b : Dsc) (w : World) (ha : a.In w) (hb : b.In w) (h : a.zs = b.zs) (hu : a.u = b.u) :
    Calls Tryz.prog 17 #[.agg (dcells a.P a.zs.length a.cap a.u), .agg (dcells b.P b.zs.length b.cap b.u)] w fun e w' => e = .returned (.bool true) ∧ Below w.heap.size w w' := by
  refine (samedesc_c a.zs b.zs a.P b.P a.cap b.cap a.u b.u w ha.shp hb.shp ha.ls hb.ls).mono fun e w' h2 => ?_
  rw [decide_eq_true h, hu] at h2
  simpa using h2
theorem mem_two {P : Ten → Prop} {a b : Ten} (ha : P a) (hb : P b) : ∀ t ∈ [a, b], P t := fun t ht => by
  simp only [List.mem_cons, List.not_mem_nil, or_false] at ht
  rcases ht with rfl | rfl
  · exact ha
  · exact hb
theorem mem_one {P : Ten → Prop} {a : Ten} (ha : P a) : ∀ t ∈ [a], P t := fun t ht => by rw [List.mem_singleton.1 ht]; exact ha
theorem mem_dsc {P : Dsc → Prop} {a b : Dsc} (ha : P a) (hb : P b) : ∀ t ∈ [a, b], P t := fun t ht => by
  simp only [List.mem_cons, List.not_mem_nil, or_false] at ht
  rcases ht with rfl | rfl
  · exact ha
  · exact hb
theorem mem_dsc1 {P : Dsc → Prop} {a : Dsc} (ha : P a) : ∀ t ∈ [a], P t := fun t ht => by rw [List.mem_singleton.1 ht]; exact ha
set_option maxRecDepth 100000 in
set_option maxHeartbeats 32000000 in
theorem softsays_c (a b : Ten) (op i : Int) (hi : (Lit.int .i64 i).wf = true) (es : List Addr) (w : World) (ra : Ri w a.P a.zs ∧ Ri w a.D a.ds) (rb : Ri w b.P b.zs ∧ Ri w b.D b.ds) (ca : a.zs.length ≤ a.cap ∧ a.ds.length ≤ a.dcap) (cb : b.zs.length ≤ b.cap ∧ b.ds.length ≤ b.dcap) (hZ : Ez w es) :
    Calls Tryz.prog 3 #[.agg (tcells a.P a.zs.length a.cap a.u a.D a.ds.length a.dcap), .agg (tcells b.P b.zs.length b.cap b.u b.D b.ds.length b.dcap), .int .i64 op, .int .i64 i] w fun e w' => e = .returned (.bool true) ∧ Below w.heap.size w w' := by
  obtain ⟨ah, am, ar, ak, h0, h1, h2, h3, hE⟩ := E4.ofz hZ
  have hib := i64_wf hi
  obtain ⟨hb0, hA, hB⟩ := boxes_two w 26 26 a.vals b.vals
  unfold Ten.vals at hb0 hA hB
  have HF := hide (first11_c ah am ar _ (hE.below hb0).1)
  have BA := hide hA
  have BB := hide hB
  have HB := hide hb0
  have HE := hide (fun W (hb : Below w.heap.size w W) => hE.below hb)
  have HW0 := hide (fun W => worldtensor_c a.P a.D a.zs.length a.cap a.ds.length a.dcap a.u W)
  have HW1 := hide (fun W => worldtensor_c b.P b.D b.zs.length b.cap b.ds.length b.dcap b.u W)
  have RA := hide (fun W (hb : Below w.heap.size w W) => And.intro (ra.1.below hb) (ra.2.below hb))
  have RB := hide (fun W (hb : Below w.heap.size w W) => And.intro (rb.1.below hb) (rb.2.below hb))
  have CA := hide ca
  have CB := hide cb
  have ISE := hide (fun (ds : List Dsc) W (hb : Below w.heap.size w W) => is_op h0 h1 h2 h3 (Sf.res op ds).1 (Sf.res_known op ds) W (hZ.below hb))
  have SAME : Hid (∀ (v : Value) (op : Int) (ts : List Ten) W, Below w.heap.size w W → TErr W ah am ar v (Cel.fault ts (Sf.code op (ts.map Ten.look))) → Calls Tryz.prog 12 #[v, .agg (Tens.fval (Cel.fault ts (Sf.code op (ts.map Ten.look))))] W fun e w' => e = .returned (.bool true) ∧ Below W.heap.size W w') := hide (fun v op ts W hb ht => same_terr h0 h3 h1 v _ (Cel.fault_cases (Sf.code_known op (ts.map Ten.look))) W (hZ.below hb) ht)
  clear hb0 hA hB hE hZ ra rb ca cb h0 h1 h2 h3 hi
  go_enter Tryz.func3, Tryz.ntmps3
  go_wp2_with fail
  refine HF.out.mono ?_
  rintro e w1 ⟨rfl, hb⟩
  replace BA := hide (BA.out.below hb BA.out.lt)
  replace BB := hide (BB.out.below hb BB.out.lt)
  replace HB := hide (HB.out.trans (hb.mono HB.out.size))
  clear HF hb
  obtain ⟨sa, hsa⟩ : ∃ b, Hid ((decide (a.zs.length ≤ 8) && decide (a.ds.length ≤ 300)) = b) := ⟨_, hide rfl⟩
  obtain ⟨sb, hsb⟩ : ∃ b_, Hid ((decide (b.zs.length ≤ 8) && decide (b.ds.length ≤ 300)) = b_) := ⟨_, hide rfl⟩
  rw [hsa.out] at HW0
  rw [hsb.out] at HW1
  have c_BA0 := BA.out.cell 0
  have c_BA1 := BA.out.cell 1
  have c_BA2 := BA.out.cell 2
  go_wp2_with fail
  clear c_BA0 c_BA1 c_BA2
  refine (HW0.out _).mono ?_
  rintro e w2 ⟨rfl, hb⟩
  replace HB := hide (HB.out.trans (hb.mono HB.out.size))
  replace BA := hide (BA.out.below hb BA.out.lt)
  replace BB := hide (BB.out.below hb BB.out.lt)
  clear hb
  cases sa
  case false =>
    go_wp2_with fail
    go_ret
    exact ⟨rfl, HB.out⟩
  case true =>
  have c_BB0 := BB.out.cell 0
  have c_BB1 := BB.out.cell 1
  have c_BB2 := BB.out.cell 2
  go_wp2_with fail
  clear c_BB0 c_BB1 c_BB2
  refine (HW1.out _).mono ?_
  rintro e w3 ⟨rfl, hb⟩
  replace HB := hide (HB.out.trans (hb.mono HB.out.size))
  replace BA := hide (BA.out.below hb BA.out.lt)
  replace BB := hide (BB.out.below hb BB.out.lt)
  clear hb
  cases sb
  case false =>
    go_wp2_with fail
    go_ret
    exact ⟨rfl, HB.out⟩
  case true =>
  have Ha : Hid (a.zs.length ≤ 8 ∧ a.ds.length ≤ 300) := hide (by have h := hsa.out; rw [Bool.and_eq_true, decide_eq_true_eq, decide_eq_true_eq] at h; exact h)
  have Hb : Hid (b.zs.length ≤ 8 ∧ b.ds.length ≤ 300) := hide (by have h := hsb.out; rw [Bool.and_eq_true, decide_eq_true_eq, decide_eq_true_eq] at h; exact h)
  have IA := hide (fun W (hb : Below w.heap.size w W) => (show a.In W from ⟨(RA.out W hb).1, (RA.out W hb).2, by have := Ha.out; omega, by have := Ha.out; omega⟩))
  have IB := hide (fun W (hb : Below w.heap.size w W) => (show b.In W from ⟨(RB.out W hb).1, (RB.out W hb).2, by have := Hb.out; omega, by have := Hb.out; omega⟩))
  clear HW0 HW1 hsa hsb
  obtain ⟨F16, hF16⟩ : ∃ F, Hid (Cel.fault [a, b] (Sf.code 16 ([a, b].map Ten.look)) = F) := ⟨_, hide rfl⟩
  have V16 := hide (fun W (hb : Below w.heap.size w W) => sfsoftmax_c a b ah am ar W (IA.out W hb) (IB.out W hb) (mem_two CA.out.2 CB.out.2) (HE.out W hb).1)
  have X16 := hide (fun W (B : Option Addr) (hb : Below w.heap.size w W) (hr : Row W B ([a, b].flatMap Ten.vals)) => rapply_sf (op := 16) (.inl rfl) [a, b] rfl (mem_two CA.out.2 CB.out.2) B 2 W hr (mem_two (IA.out W hb) (IB.out W hb)) (by simp) (mem_two CA.out.1 CB.out.1) F16 hF16.out)
  have S16 := hide (fun v W hb h => SAME.out v 16 [a, b] W hb h)
  unfold TenE at V16
  unfold RTenE at X16
  rw [hF16.out] at V16 S16
  obtain ⟨p16, i16, hv16⟩ := fval_is F16
  rw [hv16] at X16 S16
  unfold gcells at X16 S16
  obtain ⟨c16, hc16⟩ : ∃ c, Hid ((F16.1 : Int) = c) := ⟨_, hide rfl⟩
  rw [hc16.out] at X16 S16
  clear hv16 hF16 hc16
  obtain ⟨F17, hF17⟩ : ∃ F, Hid (Cel.fault [a, b] (Sf.code 17 ([a, b].map Ten.look)) = F) := ⟨_, hide rfl⟩
  have V17 := hide (fun W (hb : Below w.heap.size w W) => sfgather_c a b ah am ar W (IA.out W hb) (IB.out W hb) (mem_two CA.out.2 CB.out.2) (HE.out W hb).1)
  have X17 := hide (fun W (B : Option Addr) (hb : Below w.heap.size w W) (hr : Row W B ([a, b].flatMap Ten.vals)) => rapply_sf (op := 17) (.inr (.inl rfl)) [a, b] rfl (mem_two CA.out.2 CB.out.2) B 2 W hr (mem_two (IA.out W hb) (IB.out W hb)) (by simp) (mem_two CA.out.1 CB.out.1) F17 hF17.out)
  have S17 := hide (fun v W hb h => SAME.out v 17 [a, b] W hb h)
  unfold TenE at V17
  unfold RTenE at X17
  rw [hF17.out] at V17 S17
  obtain ⟨p17, i17, hv17⟩ := fval_is F17
  rw [hv17] at X17 S17
  unfold gcells at X17 S17
  obtain ⟨c17, hc17⟩ : ∃ c, Hid ((F17.1 : Int) = c) := ⟨_, hide rfl⟩
  rw [hc17.out] at X17 S17
  clear hv17 hF17 hc17
  obtain ⟨F19, hF19⟩ : ∃ F, Hid (Cel.fault [a] (Sf.code 19 ([a].map Ten.look)) = F) := ⟨_, hide rfl⟩
  have V19 := hide (fun W (hb : Below w.heap.size w W) => sfargmax_c a ah am ar W (IA.out W hb) (mem_one CA.out.2) (HE.out W hb).1)
  have X19 := hide (fun W (B : Option Addr) (hb : Below w.heap.size w W) (hr : Row W B ([a].flatMap Ten.vals)) => rapply_sf (op := 19) (.inr (.inr (.inl rfl))) [a] rfl (mem_one CA.out.2) B 2 W hr (mem_one (IA.out W hb)) (by simp) (mem_one CA.out.1) F19 hF19.out)
  have S19 := hide (fun v W hb h => SAME.out v 19 [a] W hb h)
  unfold TenE at V19
  unfold RTenE at X19
  rw [hF19.out] at V19 S19
  obtain ⟨p19, i19, hv19⟩ := fval_is F19
  rw [hv19] at X19 S19
  unfold gcells at X19 S19
  obtain ⟨c19, hc19⟩ : ∃ c, Hid ((F19.1 : Int) = c) := ⟨_, hide rfl⟩
  rw [hc19.out] at X19 S19
  clear hv19 hF19 hc19
  obtain ⟨F20, hF20⟩ : ∃ F, Hid (Cel.fault [a] (Sf.code 20 ([a].map Ten.look)) = F) := ⟨_, hide rfl⟩
  have V20 := hide (fun W (hb : Below w.heap.size w W) => sfsum_c a ah am ar W (IA.out W hb) (mem_one CA.out.2) (HE.out W hb).1)
  have X20 := hide (fun W (B : Option Addr) (hb : Below w.heap.size w W) (hr : Row W B ([a].flatMap Ten.vals)) => rapply_sf (op := 20) (.inr (.inr (.inr rfl))) [a] rfl (mem_one CA.out.2) B 2 W hr (mem_one (IA.out W hb)) (by simp) (mem_one CA.out.1) F20 hF20.out)
  have S20 := hide (fun v W hb h => SAME.out v 20 [a] W hb h)
  unfold TenE at V20
  unfold RTenE at X20
  rw [hF20.out] at V20 S20
  obtain ⟨p20, i20, hv20⟩ := fval_is F20
  rw [hv20] at X20 S20
  unfold gcells at X20 S20
  obtain ⟨c20, hc20⟩ : ∃ c, Hid ((F20.1 : Int) = c) := ⟨_, hide rfl⟩
  rw [hc20.out] at X20 S20
  clear hv20 hF20 hc20
  clear SAME
  obtain ⟨gi, hgi⟩ : ∃ g, Hid (w3.heap.size = g) := ⟨_, hide rfl⟩
  have x0 : (w3.alloc (.cells #[.slice a.P a.zs.length a.cap, .bool a.u, .slice a.D a.ds.length a.dcap, .slice b.P b.zs.length b.cap, .bool b.u, .slice b.D b.ds.length b.dcap] 26)).cell? ⟨w.heap.size, 0, none⟩ = some (.slice a.P a.zs.length a.cap) := (BA.out.alloc _).cell 0
  have x1 : (w3.alloc (.cells #[.slice a.P a.zs.length a.cap, .bool a.u, .slice a.D a.ds.length a.dcap, .slice b.P b.zs.length b.cap, .bool b.u, .slice b.D b.ds.length b.dcap] 26)).cell? ⟨w.heap.size, 1, none⟩ = some (.bool a.u) := (BA.out.alloc _).cell 1
  have x2 : (w3.alloc (.cells #[.slice a.P a.zs.length a.cap, .bool a.u, .slice a.D a.ds.length a.dcap, .slice b.P b.zs.length b.cap, .bool b.u, .slice b.D b.ds.length b.dcap] 26)).cell? ⟨w.heap.size, 2, none⟩ = some (.slice a.D a.ds.length a.dcap) := (BA.out.alloc _).cell 2
  have x3 : (w3.alloc (.cells #[.slice a.P a.zs.length a.cap, .bool a.u, .slice a.D a.ds.length a.dcap, .slice b.P b.zs.length b.cap, .bool b.u, .slice b.D b.ds.length b.dcap] 26)).cell? ⟨w.heap.size + 1, 0, none⟩ = some (.slice b.P b.zs.length b.cap) := (BB.out.alloc _).cell 0
  have x4 : (w3.alloc (.cells #[.slice a.P a.zs.length a.cap, .bool a.u, .slice a.D a.ds.length a.dcap, .slice b.P b.zs.length b.cap, .bool b.u, .slice b.D b.ds.length b.dcap] 26)).cell? ⟨w.heap.size + 1, 1, none⟩ = some (.bool b.u) := (BB.out.alloc _).cell 1
  have x5 : (w3.alloc (.cells #[.slice a.P a.zs.length a.cap, .bool a.u, .slice a.D a.ds.length a.dcap, .slice b.P b.zs.length b.cap, .bool b.u, .slice b.D b.ds.length b.dcap] 26)).cell? ⟨w.heap.size + 1, 2, none⟩ = some (.slice b.D b.ds.length b.dcap) := (BB.out.alloc _).cell 2
  have c_BA0 := BA.out.cell 0
  have c_BA1 := BA.out.cell 1
  have c_BA2 := BA.out.cell 2
  have l_BA := BA.out.lt
  have c_BB0 := BB.out.cell 0
  have c_BB1 := BB.out.cell 1
  have c_BB2 := BB.out.cell 2
  have l_BB := BB.out.lt
  obtain ⟨d1, hd1⟩ : ∃ W, W = w3.alloc (.cells #[.slice a.P a.zs.length a.cap, .bool a.u, .slice a.D a.ds.length a.dcap, .slice b.P b.zs.length b.cap, .bool b.u, .slice b.D b.ds.length b.dcap] 26) := ⟨_, rfl⟩
  have hbA : Below w3.heap.size w3 d1 := by rw [hd1]; exact (Below.refl _ _).alloc (Nat.le_refl _) _
  have IN : Hid (Has d1 w3.heap.size 26 [.slice a.P a.zs.length a.cap, .bool a.u, .slice a.D a.ds.length a.dcap, .slice b.P b.zs.length b.cap, .bool b.u, .slice b.D b.ds.length b.dcap]) := hide (by rw [hd1]; exact Has.new _ _ _)
  replace HB := hide (HB.out.trans (hbA.mono HB.out.size))
  replace BA := hide (BA.out.below hbA BA.out.lt)
  replace BB := hide (BB.out.below hbA BB.out.lt)
  have Hd1 := hide hd1
  clear hd1 hbA
  go_wp2_with fail
  rw [← Hd1.out]
  clear Hd1 c_BA0 c_BA1 c_BA2 l_BA c_BB0 c_BB1 c_BB2 l_BB
  clear x0 x1 x2 x3 x4 x5
  refine (V16.out _ HB.out).mono ?_
  rintro e d2 ⟨⟨t16, e16, rfl, ht, -, htz, htu, htd, hte, -⟩, hb⟩
  replace HB := hide (HB.out.trans (hb.mono HB.out.size))
  replace BA := hide (BA.out.below hb BA.out.lt)
  replace BB := hide (BB.out.below hb BB.out.lt)
  replace IN := hide (IN.out.below hb IN.out.lt)
  clear hb
  have T16 := hide ht
  have Z16 := hide htz
  have U16 := hide htu
  have D16 := hide htd
  have E16 := hide hte
  clear ht htz htu htd hte V16
  have c_BA0 := BA.out.cell 0
  have c_BA1 := BA.out.cell 1
  have c_BA2 := BA.out.cell 2
  have l_BA := BA.out.lt
  have c_BB0 := BB.out.cell 0
  have c_BB1 := BB.out.cell 1
  have c_BB2 := BB.out.cell 2
  have l_BB := BB.out.lt
  obtain ⟨d3, hd3⟩ : ∃ W, W = d2.alloc (.cells #[.slice t16.P t16.zs.length t16.cap, .bool t16.u, .slice t16.D t16.ds.length t16.dcap] 26) := ⟨_, rfl⟩
  have hbA : Below d2.heap.size d2 d3 := by rw [hd3]; exact (Below.refl _ _).alloc (Nat.le_refl _) _
  have BT16 : Hid (Has d3 d2.heap.size 26 [.slice t16.P t16.zs.length t16.cap, .bool t16.u, .slice t16.D t16.ds.length t16.dcap]) := hide (by rw [hd3]; exact Has.new _ _ _)
  replace HB := hide (HB.out.trans (hbA.mono HB.out.size))
  replace BA := hide (BA.out.below hbA BA.out.lt)
  replace BB := hide (BB.out.below hbA BB.out.lt)
  replace IN := hide (IN.out.below hbA IN.out.lt)
  replace T16 := hide (T16.out.below hbA)
  replace E16 := hide (E16.out.down hbA)
  have Hd3 := hide hd3
  clear hd3 hbA
  go_wp2_with fail
  rw [← Hd3.out]
  clear Hd3 c_BA0 c_BA1 c_BA2 l_BA c_BB0 c_BB1 c_BB2 l_BB
  refine (V17.out _ HB.out).mono ?_
  rintro e d4 ⟨⟨t17, e17, rfl, ht, -, htz, htu, htd, hte, -⟩, hb⟩
  replace HB := hide (HB.out.trans (hb.mono HB.out.size))
  replace BA := hide (BA.out.below hb BA.out.lt)
  replace BB := hide (BB.out.below hb BB.out.lt)
  replace IN := hide (IN.out.below hb IN.out.lt)
  replace T16 := hide (T16.out.below hb)
  replace E16 := hide (E16.out.down hb)
  replace BT16 := hide (BT16.out.below hb BT16.out.lt)
  clear hb
  have T17 := hide ht
  have Z17 := hide htz
  have U17 := hide htu
  have D17 := hide htd
  have E17 := hide hte
  clear ht htz htu htd hte V17
  have c_BA0 := BA.out.cell 0
  have c_BA1 := BA.out.cell 1
  have c_BA2 := BA.out.cell 2
  have l_BA := BA.out.lt
  obtain ⟨d5, hd5⟩ : ∃ W, W = d4.alloc (.cells #[.slice t17.P t17.zs.length t17.cap, .bool t17.u, .slice t17.D t17.ds.length t17.dcap] 26) := ⟨_, rfl⟩
  have hbA : Below d4.heap.size d4 d5 := by rw [hd5]; exact (Below.refl _ _).alloc (Nat.le_refl _) _
  have BT17 : Hid (Has d5 d4.heap.size 26 [.slice t17.P t17.zs.length t17.cap, .bool t17.u, .slice t17.D t17.ds.length t17.dcap]) := hide (by rw [hd5]; exact Has.new _ _ _)
  replace HB := hide (HB.out.trans (hbA.mono HB.out.size))
  replace BA := hide (BA.out.below hbA BA.out.lt)
  replace BB := hide (BB.out.below hbA BB.out.lt)
  replace IN := hide (IN.out.below hbA IN.out.lt)
  replace T16 := hide (T16.out.below hbA)
  replace E16 := hide (E16.out.down hbA)
  replace BT16 := hide (BT16.out.below hbA BT16.out.lt)
  replace T17 := hide (T17.out.below hbA)
  replace E17 := hide (E17.out.down hbA)
  have Hd5 := hide hd5
  clear hd5 hbA
  go_wp2_with fail
  rw [← Hd5.out]
  clear Hd5 c_BA0 c_BA1 c_BA2 l_BA
  refine (V19.out _ HB.out).mono ?_
  rintro e d6 ⟨⟨t19, e19, rfl, ht, -, htz, htu, htd, hte, -⟩, hb⟩
  replace HB := hide (HB.out.trans (hb.mono HB.out.size))
  replace BA := hide (BA.out.below hb BA.out.lt)
  replace BB := hide (BB.out.below hb BB.out.lt)
  replace IN := hide (IN.out.below hb IN.out.lt)
  replace T16 := hide (T16.out.below hb)
  replace E16 := hide (E16.out.down hb)
  replace BT16 := hide (BT16.out.below hb BT16.out.lt)
  replace T17 := hide (T17.out.below hb)
  replace E17 := hide (E17.out.down hb)
  replace BT17 := hide (BT17.out.below hb BT17.out.lt)
  clear hb
  have T19 := hide ht
  have Z19 := hide htz
  have U19 := hide htu
  have D19 := hide htd
  have E19 := hide hte
  clear ht htz htu htd hte V19
  have c_BA0 := BA.out.cell 0
  have c_BA1 := BA.out.cell 1
  have c_BA2 := BA.out.cell 2
  have l_BA := BA.out.lt
  obtain ⟨d7, hd7⟩ : ∃ W, W = d6.alloc (.cells #[.slice t19.P t19.zs.length t19.cap, .bool t19.u, .slice t19.D t19.ds.length t19.dcap] 26) := ⟨_, rfl⟩
  have hbA : Below d6.heap.size d6 d7 := by rw [hd7]; exact (Below.refl _ _).alloc (Nat.le_refl _) _
  have BT19 : Hid (Has d7 d6.heap.size 26 [.slice t19.P t19.zs.length t19.cap, .bool t19.u, .slice t19.D t19.ds.length t19.dcap]) := hide (by rw [hd7]; exact Has.new _ _ _)
  replace HB := hide (HB.out.trans (hbA.mono HB.out.size))
  replace BA := hide (BA.out.below hbA BA.out.lt)
  replace BB := hide (BB.out.below hbA BB.out.lt)
  replace IN := hide (IN.out.below hbA IN.out.lt)
  replace T16 := hide (T16.out.below hbA)
  replace E16 := hide (E16.out.down hbA)
  replace BT16 := hide (BT16.out.below hbA BT16.out.lt)
  replace T17 := hide (T17.out.below hbA)
  replace E17 := hide (E17.out.down hbA)
  replace BT17 := hide (BT17.out.below hbA BT17.out.lt)
  replace T19 := hide (T19.out.below hbA)
  replace E19 := hide (E19.out.down hbA)
  have Hd7 := hide hd7
  clear hd7 hbA
  go_wp2_with fail
  rw [← Hd7.out]
  clear Hd7 c_BA0 c_BA1 c_BA2 l_BA
  refine (V20.out _ HB.out).mono ?_
  rintro e d8 ⟨⟨t20, e20, rfl, ht, -, htz, htu, htd, hte, -⟩, hb⟩
  replace HB := hide (HB.out.trans (hb.mono HB.out.size))
  replace BA := hide (BA.out.below hb BA.out.lt)
  replace BB := hide (BB.out.below hb BB.out.lt)
  replace IN := hide (IN.out.below hb IN.out.lt)
  replace T16 := hide (T16.out.below hb)
  replace E16 := hide (E16.out.down hb)
  replace BT16 := hide (BT16.out.below hb BT16.out.lt)
  replace T17 := hide (T17.out.below hb)
  replace E17 := hide (E17.out.down hb)
  replace BT17 := hide (BT17.out.below hb BT17.out.lt)
  replace T19 := hide (T19.out.below hb)
  replace E19 := hide (E19.out.down hb)
  replace BT19 := hide (BT19.out.below hb BT19.out.lt)
  clear hb
  have T20 := hide ht
  have Z20 := hide htz
  have U20 := hide htu
  have D20 := hide htd
  have E20 := hide hte
  clear ht htz htu htd hte V20
  have hsl : ∀ (g : Nat) (W : World), (Instr.slice 29 (.slice (some ⟨g, 0, none⟩) 2 2) none (some (.int .i64 1)) none).run Tryz.prog W = .ok (.slice (some ⟨g, 0, none⟩) 1 2) W := fun g W => by kernel_rfl
  obtain ⟨d9, hd9⟩ : ∃ W, W = d8.alloc (.cells #[.slice t20.P t20.zs.length t20.cap, .bool t20.u, .slice t20.D t20.ds.length t20.dcap] 26) := ⟨_, rfl⟩
  have hbA : Below d8.heap.size d8 d9 := by rw [hd9]; exact (Below.refl _ _).alloc (Nat.le_refl _) _
  have BT20 : Hid (Has d9 d8.heap.size 26 [.slice t20.P t20.zs.length t20.cap, .bool t20.u, .slice t20.D t20.ds.length t20.dcap]) := hide (by rw [hd9]; exact Has.new _ _ _)
  replace HB := hide (HB.out.trans (hbA.mono HB.out.size))
  replace BA := hide (BA.out.below hbA BA.out.lt)
  replace BB := hide (BB.out.below hbA BB.out.lt)
  replace IN := hide (IN.out.below hbA IN.out.lt)
  replace T16 := hide (T16.out.below hbA)
  replace E16 := hide (E16.out.down hbA)
  replace BT16 := hide (BT16.out.below hbA BT16.out.lt)
  replace T17 := hide (T17.out.below hbA)
  replace E17 := hide (E17.out.down hbA)
  replace BT17 := hide (BT17.out.below hbA BT17.out.lt)
  replace T19 := hide (T19.out.below hbA)
  replace E19 := hide (E19.out.down hbA)
  replace BT19 := hide (BT19.out.below hbA BT19.out.lt)
  replace T20 := hide (T20.out.below hbA)
  replace E20 := hide (E20.out.down hbA)
  have Hd9 := hide hd9
  clear hd9 hbA
  go_wp2_with fail
  rw [← Hd9.out]
  clear Hd9
  refine (X16.out _ (some ⟨w3.heap.size, 0, none⟩) HB.out IN.out.row).mono ?_
  rintro e d10 ⟨⟨x16, rfl, hx, hxz, hxu, hxd⟩, hb⟩
  replace HB := hide (HB.out.trans (hb.mono HB.out.size))
  replace BA := hide (BA.out.below hb BA.out.lt)
  replace BB := hide (BB.out.below hb BB.out.lt)
  replace IN := hide (IN.out.below hb IN.out.lt)
  replace T16 := hide (T16.out.below hb)
  replace E16 := hide (E16.out.down hb)
  replace BT16 := hide (BT16.out.below hb BT16.out.lt)
  replace T17 := hide (T17.out.below hb)
  replace E17 := hide (E17.out.down hb)
  replace BT17 := hide (BT17.out.below hb BT17.out.lt)
  replace T19 := hide (T19.out.below hb)
  replace E19 := hide (E19.out.down hb)
  replace BT19 := hide (BT19.out.below hb BT19.out.lt)
  replace T20 := hide (T20.out.below hb)
  replace E20 := hide (E20.out.down hb)
  replace BT20 := hide (BT20.out.below hb BT20.out.lt)
  clear hb
  have TX16 := hide hx
  have ZX16 := hide hxz
  have UX16 := hide hxu
  have DX16 := hide hxd
  clear hx hxz hxu hxd X16
  obtain ⟨d11, hd11⟩ : ∃ W, W = d10.alloc (.cells #[.slice x16.P x16.zs.length x16.cap, .bool x16.u, .slice x16.D x16.ds.length x16.dcap] 26) := ⟨_, rfl⟩
  have hbA : Below d10.heap.size d10 d11 := by rw [hd11]; exact (Below.refl _ _).alloc (Nat.le_refl _) _
  have BX16 : Hid (Has d11 d10.heap.size 26 [.slice x16.P x16.zs.length x16.cap, .bool x16.u, .slice x16.D x16.ds.length x16.dcap]) := hide (by rw [hd11]; exact Has.new _ _ _)
  replace HB := hide (HB.out.trans (hbA.mono HB.out.size))
  replace BA := hide (BA.out.below hbA BA.out.lt)
  replace BB := hide (BB.out.below hbA BB.out.lt)
  replace IN := hide (IN.out.below hbA IN.out.lt)
  replace T16 := hide (T16.out.below hbA)
  replace E16 := hide (E16.out.down hbA)
  replace BT16 := hide (BT16.out.below hbA BT16.out.lt)
  replace T17 := hide (T17.out.below hbA)
  replace E17 := hide (E17.out.down hbA)
  replace BT17 := hide (BT17.out.below hbA BT17.out.lt)
  replace T19 := hide (T19.out.below hbA)
  replace E19 := hide (E19.out.down hbA)
  replace BT19 := hide (BT19.out.below hbA BT19.out.lt)
  replace T20 := hide (T20.out.below hbA)
  replace E20 := hide (E20.out.down hbA)
  replace BT20 := hide (BT20.out.below hbA BT20.out.lt)
  replace TX16 := hide (TX16.out.below hbA)
  have Hd11 := hide hd11
  clear hd11 hbA
  obtain ⟨d12, hd12⟩ : ∃ W, W = d11.alloc (.cells #[.int .i64 c16, .bool p16, .int .i64 i16] 36) := ⟨_, rfl⟩
  have hbA : Below d11.heap.size d11 d12 := by rw [hd12]; exact (Below.refl _ _).alloc (Nat.le_refl _) _
  have G16 : Hid (Has d12 (d10.heap.size + 1) 36 [.int .i64 c16, .bool p16, .int .i64 i16]) := hide (by rw [hd12]; exact box_at _ _ _ _ (by rw [Hd11.out]; simp))
  replace HB := hide (HB.out.trans (hbA.mono HB.out.size))
  replace BA := hide (BA.out.below hbA BA.out.lt)
  replace BB := hide (BB.out.below hbA BB.out.lt)
  replace IN := hide (IN.out.below hbA IN.out.lt)
  replace T16 := hide (T16.out.below hbA)
  replace E16 := hide (E16.out.down hbA)
  replace BT16 := hide (BT16.out.below hbA BT16.out.lt)
  replace T17 := hide (T17.out.below hbA)
  replace E17 := hide (E17.out.down hbA)
  replace BT17 := hide (BT17.out.below hbA BT17.out.lt)
  replace T19 := hide (T19.out.below hbA)
  replace E19 := hide (E19.out.down hbA)
  replace BT19 := hide (BT19.out.below hbA BT19.out.lt)
  replace T20 := hide (T20.out.below hbA)
  replace E20 := hide (E20.out.down hbA)
  replace BT20 := hide (BT20.out.below hbA BT20.out.lt)
  replace TX16 := hide (TX16.out.below hbA)
  replace BX16 := hide (BX16.out.below hbA BX16.out.lt)
  have Hd12 := hide hd12
  clear hd12 hbA
  go_wp2_with fail
  rw [← Hd11.out]
  rw [← Hd12.out]
  clear Hd11 Hd12
  refine (X17.out _ (some ⟨w3.heap.size, 0, none⟩) HB.out IN.out.row).mono ?_
  rintro e d13 ⟨⟨x17, rfl, hx, hxz, hxu, hxd⟩, hb⟩
  replace HB := hide (HB.out.trans (hb.mono HB.out.size))
  replace BA := hide (BA.out.below hb BA.out.lt)
  replace BB := hide (BB.out.below hb BB.out.lt)
  replace IN := hide (IN.out.below hb IN.out.lt)
  replace T16 := hide (T16.out.below hb)
  replace E16 := hide (E16.out.down hb)
  replace BT16 := hide (BT16.out.below hb BT16.out.lt)
  replace T17 := hide (T17.out.below hb)
  replace E17 := hide (E17.out.down hb)
  replace BT17 := hide (BT17.out.below hb BT17.out.lt)
  replace T19 := hide (T19.out.below hb)
  replace E19 := hide (E19.out.down hb)
  replace BT19 := hide (BT19.out.below hb BT19.out.lt)
  replace T20 := hide (T20.out.below hb)
  replace E20 := hide (E20.out.down hb)
  replace BT20 := hide (BT20.out.below hb BT20.out.lt)
  replace TX16 := hide (TX16.out.below hb)
  replace BX16 := hide (BX16.out.below hb BX16.out.lt)
  replace G16 := hide (G16.out.below hb G16.out.lt)
  clear hb
  have TX17 := hide hx
  have ZX17 := hide hxz
  have UX17 := hide hxu
  have DX17 := hide hxd
  clear hx hxz hxu hxd X17
  obtain ⟨d14, hd14⟩ : ∃ W, W = d13.alloc (.cells #[.slice x17.P x17.zs.length x17.cap, .bool x17.u, .slice x17.D x17.ds.length x17.dcap] 26) := ⟨_, rfl⟩
  have hbA : Below d13.heap.size d13 d14 := by rw [hd14]; exact (Below.refl _ _).alloc (Nat.le_refl _) _
  have BX17 : Hid (Has d14 d13.heap.size 26 [.slice x17.P x17.zs.length x17.cap, .bool x17.u, .slice x17.D x17.ds.length x17.dcap]) := hide (by rw [hd14]; exact Has.new _ _ _)
  replace HB := hide (HB.out.trans (hbA.mono HB.out.size))
  replace BA := hide (BA.out.below hbA BA.out.lt)
  replace BB := hide (BB.out.below hbA BB.out.lt)
  replace IN := hide (IN.out.below hbA IN.out.lt)
  replace T16 := hide (T16.out.below hbA)
  replace E16 := hide (E16.out.down hbA)
  replace BT16 := hide (BT16.out.below hbA BT16.out.lt)
  replace T17 := hide (T17.out.below hbA)
  replace E17 := hide (E17.out.down hbA)
  replace BT17 := hide (BT17.out.below hbA BT17.out.lt)
  replace T19 := hide (T19.out.below hbA)
  replace E19 := hide (E19.out.down hbA)
  replace BT19 := hide (BT19.out.below hbA BT19.out.lt)
  replace T20 := hide (T20.out.below hbA)
  replace E20 := hide (E20.out.down hbA)
  replace BT20 := hide (BT20.out.below hbA BT20.out.lt)
  replace TX16 := hide (TX16.out.below hbA)
  replace BX16 := hide (BX16.out.below hbA BX16.out.lt)
  replace G16 := hide (G16.out.below hbA G16.out.lt)
  replace TX17 := hide (TX17.out.below hbA)
  have Hd14 := hide hd14
  clear hd14 hbA
  obtain ⟨d15, hd15⟩ : ∃ W, W = d14.alloc (.cells #[.int .i64 c17, .bool p17, .int .i64 i17] 36) := ⟨_, rfl⟩
  have hbA : Below d14.heap.size d14 d15 := by rw [hd15]; exact (Below.refl _ _).alloc (Nat.le_refl _) _
  have G17 : Hid (Has d15 (d13.heap.size + 1) 36 [.int .i64 c17, .bool p17, .int .i64 i17]) := hide (by rw [hd15]; exact box_at _ _ _ _ (by rw [Hd14.out]; simp))
  replace HB := hide (HB.out.trans (hbA.mono HB.out.size))
  replace BA := hide (BA.out.below hbA BA.out.lt)
  replace BB := hide (BB.out.below hbA BB.out.lt)
  replace IN := hide (IN.out.below hbA IN.out.lt)
  replace T16 := hide (T16.out.below hbA)
  replace E16 := hide (E16.out.down hbA)
  replace BT16 := hide (BT16.out.below hbA BT16.out.lt)
  replace T17 := hide (T17.out.below hbA)
  replace E17 := hide (E17.out.down hbA)
  replace BT17 := hide (BT17.out.below hbA BT17.out.lt)
  replace T19 := hide (T19.out.below hbA)
  replace E19 := hide (E19.out.down hbA)
  replace BT19 := hide (BT19.out.below hbA BT19.out.lt)
  replace T20 := hide (T20.out.below hbA)
  replace E20 := hide (E20.out.down hbA)
  replace BT20 := hide (BT20.out.below hbA BT20.out.lt)
  replace TX16 := hide (TX16.out.below hbA)
  replace BX16 := hide (BX16.out.below hbA BX16.out.lt)
  replace G16 := hide (G16.out.below hbA G16.out.lt)
  replace TX17 := hide (TX17.out.below hbA)
  replace BX17 := hide (BX17.out.below hbA BX17.out.lt)
  have Hd15 := hide hd15
  clear hd15 hbA
  go_wp2_with fail
  rw [← Hd14.out]
  rw [← Hd15.out]
  clear Hd14 Hd15
  refine (X19.out _ (some ⟨w3.heap.size, 0, none⟩) HB.out (IN.out.row_app (xs := [.slice a.P a.zs.length a.cap, .bool a.u, .slice a.D a.ds.length a.dcap]) (ys := [.slice b.P b.zs.length b.cap, .bool b.u, .slice b.D b.ds.length b.dcap]))).mono ?_
  rintro e d16 ⟨⟨x19, rfl, hx, hxz, hxu, hxd⟩, hb⟩
  replace HB := hide (HB.out.trans (hb.mono HB.out.size))
  replace BA := hide (BA.out.below hb BA.out.lt)
  replace BB := hide (BB.out.below hb BB.out.lt)
  replace IN := hide (IN.out.below hb IN.out.lt)
  replace T16 := hide (T16.out.below hb)
  replace E16 := hide (E16.out.down hb)
  replace BT16 := hide (BT16.out.below hb BT16.out.lt)
  replace T17 := hide (T17.out.below hb)
  replace E17 := hide (E17.out.down hb)
  replace BT17 := hide (BT17.out.below hb BT17.out.lt)
  replace T19 := hide (T19.out.below hb)
  replace E19 := hide (E19.out.down hb)
  replace BT19 := hide (BT19.out.below hb BT19.out.lt)
  replace T20 := hide (T20.out.below hb)
  replace E20 := hide (E20.out.down hb)
  replace BT20 := hide (BT20.out.below hb BT20.out.lt)
  replace TX16 := hide (TX16.out.below hb)
  replace BX16 := hide (BX16.out.below hb BX16.out.lt)
  replace G16 := hide (G16.out.below hb G16.out.lt)
  replace TX17 := hide (TX17.out.below hb)
  replace BX17 := hide (BX17.out.below hb BX17.out.lt)
  replace G17 := hide (G17.out.below hb G17.out.lt)
  clear hb
  have TX19 := hide hx
  have ZX19 := hide hxz
  have UX19 := hide hxu
  have DX19 := hide hxd
  clear hx hxz hxu hxd X19
  obtain ⟨d17, hd17⟩ : ∃ W, W = d16.alloc (.cells #[.slice x19.P x19.zs.length x19.cap, .bool x19.u, .slice x19.D x19.ds.length x19.dcap] 26) := ⟨_, rfl⟩
  have hbA : Below d16.heap.size d16 d17 := by rw [hd17]; exact (Below.refl _ _).alloc (Nat.le_refl _) _
  have BX19 : Hid (Has d17 d16.heap.size 26 [.slice x19.P x19.zs.length x19.cap, .bool x19.u, .slice x19.D x19.ds.length x19.dcap]) := hide (by rw [hd17]; exact Has.new _ _ _)
  replace HB := hide (HB.out.trans (hbA.mono HB.out.size))
  replace BA := hide (BA.out.below hbA BA.out.lt)
  replace BB := hide (BB.out.below hbA BB.out.lt)
  replace IN := hide (IN.out.below hbA IN.out.lt)
  replace T16 := hide (T16.out.below hbA)
  replace E16 := hide (E16.out.down hbA)
  replace BT16 := hide (BT16.out.below hbA BT16.out.lt)
  replace T17 := hide (T17.out.below hbA)
  replace E17 := hide (E17.out.down hbA)
  replace BT17 := hide (BT17.out.below hbA BT17.out.lt)
  replace T19 := hide (T19.out.below hbA)
  replace E19 := hide (E19.out.down hbA)
  replace BT19 := hide (BT19.out.below hbA BT19.out.lt)
  replace T20 := hide (T20.out.below hbA)
  replace E20 := hide (E20.out.down hbA)
  replace BT20 := hide (BT20.out.below hbA BT20.out.lt)
  replace TX16 := hide (TX16.out.below hbA)
  replace BX16 := hide (BX16.out.below hbA BX16.out.lt)
  replace G16 := hide (G16.out.below hbA G16.out.lt)
  replace TX17 := hide (TX17.out.below hbA)
  replace BX17 := hide (BX17.out.below hbA BX17.out.lt)
  replace G17 := hide (G17.out.below hbA G17.out.lt)
  replace TX19 := hide (TX19.out.below hbA)
  have Hd17 := hide hd17
  clear hd17 hbA
  obtain ⟨d18, hd18⟩ : ∃ W, W = d17.alloc (.cells #[.int .i64 c19, .bool p19, .int .i64 i19] 36) := ⟨_, rfl⟩
  have hbA : Below d17.heap.size d17 d18 := by rw [hd18]; exact (Below.refl _ _).alloc (Nat.le_refl _) _
  have G19 : Hid (Has d18 (d16.heap.size + 1) 36 [.int .i64 c19, .bool p19, .int .i64 i19]) := hide (by rw [hd18]; exact box_at _ _ _ _ (by rw [Hd17.out]; simp))
  replace HB := hide (HB.out.trans (hbA.mono HB.out.size))
  replace BA := hide (BA.out.below hbA BA.out.lt)
  replace BB := hide (BB.out.below hbA BB.out.lt)
  replace IN := hide (IN.out.below hbA IN.out.lt)
  replace T16 := hide (T16.out.below hbA)
  replace E16 := hide (E16.out.down hbA)
  replace BT16 := hide (BT16.out.below hbA BT16.out.lt)
  replace T17 := hide (T17.out.below hbA)
  replace E17 := hide (E17.out.down hbA)
  replace BT17 := hide (BT17.out.below hbA BT17.out.lt)
  replace T19 := hide (T19.out.below hbA)
  replace E19 := hide (E19.out.down hbA)
  replace BT19 := hide (BT19.out.below hbA BT19.out.lt)
  replace T20 := hide (T20.out.below hbA)
  replace E20 := hide (E20.out.down hbA)
  replace BT20 := hide (BT20.out.below hbA BT20.out.lt)
  replace TX16 := hide (TX16.out.below hbA)
  replace BX16 := hide (BX16.out.below hbA BX16.out.lt)
  replace G16 := hide (G16.out.below hbA G16.out.lt)
  replace TX17 := hide (TX17.out.below hbA)
  replace BX17 := hide (BX17.out.below hbA BX17.out.lt)
  replace G17 := hide (G17.out.below hbA G17.out.lt)
  replace TX19 := hide (TX19.out.below hbA)
  replace BX19 := hide (BX19.out.below hbA BX19.out.lt)
  have Hd18 := hide hd18
  clear hd18 hbA
  go_wp2_with fail
  rw [← Hd17.out]
  rw [← Hd18.out]
  clear Hd17 Hd18
  refine (X20.out _ (some ⟨w3.heap.size, 0, none⟩) HB.out (IN.out.row_app (xs := [.slice a.P a.zs.length a.cap, .bool a.u, .slice a.D a.ds.length a.dcap]) (ys := [.slice b.P b.zs.length b.cap, .bool b.u, .slice b.D b.ds.length b.dcap]))).mono ?_
  rintro e d19 ⟨⟨x20, rfl, hx, hxz, hxu, hxd⟩, hb⟩
  replace HB := hide (HB.out.trans (hb.mono HB.out.size))
  replace BA := hide (BA.out.below hb BA.out.lt)
  replace BB := hide (BB.out.below hb BB.out.lt)
  replace IN := hide (IN.out.below hb IN.out.lt)
  replace T16 := hide (T16.out.below hb)
  replace E16 := hide (E16.out.down hb)
  replace BT16 := hide (BT16.out.below hb BT16.out.lt)
  replace T17 := hide (T17.out.below hb)
  replace E17 := hide (E17.out.down hb)
  replace BT17 := hide (BT17.out.below hb BT17.out.lt)
  replace T19 := hide (T19.out.below hb)
  replace E19 := hide (E19.out.down hb)
  replace BT19 := hide (BT19.out.below hb BT19.out.lt)
  replace T20 := hide (T20.out.below hb)
  replace E20 := hide (E20.out.down hb)
  replace BT20 := hide (BT20.out.below hb BT20.out.lt)
  replace TX16 := hide (TX16.out.below hb)
  replace BX16 := hide (BX16.out.below hb BX16.out.lt)
  replace G16 := hide (G16.out.below hb G16.out.lt)
  replace TX17 := hide (TX17.out.below hb)
  replace BX17 := hide (BX17.out.below hb BX17.out.lt)
  replace G17 := hide (G17.out.below hb G17.out.lt)
  replace TX19 := hide (TX19.out.below hb)
  replace BX19 := hide (BX19.out.below hb BX19.out.lt)
  replace G19 := hide (G19.out.below hb G19.out.lt)
  clear hb
  have TX20 := hide hx
  have ZX20 := hide hxz
  have UX20 := hide hxu
  have DX20 := hide hxd
  clear hx hxz hxu hxd X20
  have y0 : ((d19.alloc (.cells #[.slice x20.P x20.zs.length x20.cap, .bool x20.u, .slice x20.D x20.ds.length x20.dcap] 26)).alloc (.cells #[.int .i64 c20, .bool p20, .int .i64 i20] 36)).cell? ⟨d10.heap.size + 1, 0, none⟩ = some (.int .i64 c16) := ((G16.out.alloc _).alloc _).cell 0
  have y1 : ((d19.alloc (.cells #[.slice x20.P x20.zs.length x20.cap, .bool x20.u, .slice x20.D x20.ds.length x20.dcap] 26)).alloc (.cells #[.int .i64 c20, .bool p20, .int .i64 i20] 36)).cell? ⟨d10.heap.size + 1, 1, none⟩ = some (.bool p16) := ((G16.out.alloc _).alloc _).cell 1
  have y2 : ((d19.alloc (.cells #[.slice x20.P x20.zs.length x20.cap, .bool x20.u, .slice x20.D x20.ds.length x20.dcap] 26)).alloc (.cells #[.int .i64 c20, .bool p20, .int .i64 i20] 36)).cell? ⟨d10.heap.size + 1, 2, none⟩ = some (.int .i64 i16) := ((G16.out.alloc _).alloc _).cell 2
  obtain ⟨d20, hd20⟩ : ∃ W, W = d19.alloc (.cells #[.slice x20.P x20.zs.length x20.cap, .bool x20.u, .slice x20.D x20.ds.length x20.dcap] 26) := ⟨_, rfl⟩
  have hbA : Below d19.heap.size d19 d20 := by rw [hd20]; exact (Below.refl _ _).alloc (Nat.le_refl _) _
  have BX20 : Hid (Has d20 d19.heap.size 26 [.slice x20.P x20.zs.length x20.cap, .bool x20.u, .slice x20.D x20.ds.length x20.dcap]) := hide (by rw [hd20]; exact Has.new _ _ _)
  replace HB := hide (HB.out.trans (hbA.mono HB.out.size))
  replace BA := hide (BA.out.below hbA BA.out.lt)
  replace BB := hide (BB.out.below hbA BB.out.lt)
  replace IN := hide (IN.out.below hbA IN.out.lt)
  replace T16 := hide (T16.out.below hbA)
  replace E16 := hide (E16.out.down hbA)
  replace BT16 := hide (BT16.out.below hbA BT16.out.lt)
  replace T17 := hide (T17.out.below hbA)
  replace E17 := hide (E17.out.down hbA)
  replace BT17 := hide (BT17.out.below hbA BT17.out.lt)
  replace T19 := hide (T19.out.below hbA)
  replace E19 := hide (E19.out.down hbA)
  replace BT19 := hide (BT19.out.below hbA BT19.out.lt)
  replace T20 := hide (T20.out.below hbA)
  replace E20 := hide (E20.out.down hbA)
  replace BT20 := hide (BT20.out.below hbA BT20.out.lt)
  replace TX16 := hide (TX16.out.below hbA)
  replace BX16 := hide (BX16.out.below hbA BX16.out.lt)
  replace G16 := hide (G16.out.below hbA G16.out.lt)
  replace TX17 := hide (TX17.out.below hbA)
  replace BX17 := hide (BX17.out.below hbA BX17.out.lt)
  replace G17 := hide (G17.out.below hbA G17.out.lt)
  replace TX19 := hide (TX19.out.below hbA)
  replace BX19 := hide (BX19.out.below hbA BX19.out.lt)
  replace G19 := hide (G19.out.below hbA G19.out.lt)
  replace TX20 := hide (TX20.out.below hbA)
  have Hd20 := hide hd20
  clear hd20 hbA
  obtain ⟨d21, hd21⟩ : ∃ W, W = d20.alloc (.cells #[.int .i64 c20, .bool p20, .int .i64 i20] 36) := ⟨_, rfl⟩
  have hbA : Below d20.heap.size d20 d21 := by rw [hd21]; exact (Below.refl _ _).alloc (Nat.le_refl _) _
  have G20 : Hid (Has d21 (d19.heap.size + 1) 36 [.int .i64 c20, .bool p20, .int .i64 i20]) := hide (by rw [hd21]; exact box_at _ _ _ _ (by rw [Hd20.out]; simp))
  replace HB := hide (HB.out.trans (hbA.mono HB.out.size))
  replace BA := hide (BA.out.below hbA BA.out.lt)
  replace BB := hide (BB.out.below hbA BB.out.lt)
  replace IN := hide (IN.out.below hbA IN.out.lt)
  replace T16 := hide (T16.out.below hbA)
  replace E16 := hide (E16.out.down hbA)
  replace BT16 := hide (BT16.out.below hbA BT16.out.lt)
  replace T17 := hide (T17.out.below hbA)
  replace E17 := hide (E17.out.down hbA)
  replace BT17 := hide (BT17.out.below hbA BT17.out.lt)
  replace T19 := hide (T19.out.below hbA)
  replace E19 := hide (E19.out.down hbA)
  replace BT19 := hide (BT19.out.below hbA BT19.out.lt)
  replace T20 := hide (T20.out.below hbA)
  replace E20 := hide (E20.out.down hbA)
  replace BT20 := hide (BT20.out.below hbA BT20.out.lt)
  replace TX16 := hide (TX16.out.below hbA)
  replace BX16 := hide (BX16.out.below hbA BX16.out.lt)
  replace G16 := hide (G16.out.below hbA G16.out.lt)
  replace TX17 := hide (TX17.out.below hbA)
  replace BX17 := hide (BX17.out.below hbA BX17.out.lt)
  replace G17 := hide (G17.out.below hbA G17.out.lt)
  replace TX19 := hide (TX19.out.below hbA)
  replace BX19 := hide (BX19.out.below hbA BX19.out.lt)
  replace G19 := hide (G19.out.below hbA G19.out.lt)
  replace TX20 := hide (TX20.out.below hbA)
  replace BX20 := hide (BX20.out.below hbA BX20.out.lt)
  have Hd21 := hide hd21
  clear hd21 hbA
  go_wp2_with fail
  rw [← Hd20.out]
  rw [← Hd21.out]
  clear Hd20 Hd21
  clear y0 y1 y2 hsl
  refine (S16.out e16 _ HB.out E16.out).mono ?_
  rintro e d22 ⟨rfl, hb⟩
  replace HB := hide (HB.out.trans (hb.mono HB.out.size))
  replace BA := hide (BA.out.below hb BA.out.lt)
  replace BB := hide (BB.out.below hb BB.out.lt)
  replace IN := hide (IN.out.below hb IN.out.lt)
  replace T16 := hide (T16.out.below hb)
  replace E16 := hide (E16.out.down hb)
  replace BT16 := hide (BT16.out.below hb BT16.out.lt)
  replace T17 := hide (T17.out.below hb)
  replace E17 := hide (E17.out.down hb)
  replace BT17 := hide (BT17.out.below hb BT17.out.lt)
  replace T19 := hide (T19.out.below hb)
  replace E19 := hide (E19.out.down hb)
  replace BT19 := hide (BT19.out.below hb BT19.out.lt)
  replace T20 := hide (T20.out.below hb)
  replace E20 := hide (E20.out.down hb)
  replace BT20 := hide (BT20.out.below hb BT20.out.lt)
  replace TX16 := hide (TX16.out.below hb)
  replace BX16 := hide (BX16.out.below hb BX16.out.lt)
  replace G16 := hide (G16.out.below hb G16.out.lt)
  replace TX17 := hide (TX17.out.below hb)
  replace BX17 := hide (BX17.out.below hb BX17.out.lt)
  replace G17 := hide (G17.out.below hb G17.out.lt)
  replace TX19 := hide (TX19.out.below hb)
  replace BX19 := hide (BX19.out.below hb BX19.out.lt)
  replace G19 := hide (G19.out.below hb G19.out.lt)
  replace TX20 := hide (TX20.out.below hb)
  replace BX20 := hide (BX20.out.below hb BX20.out.lt)
  replace G20 := hide (G20.out.below hb G20.out.lt)
  clear hb
  have c_G170 := G17.out.cell 0
  have c_G171 := G17.out.cell 1
  have c_G172 := G17.out.cell 2
  go_wp2_with fail
  clear c_G170 c_G171 c_G172
  refine (S17.out e17 _ HB.out E17.out).mono ?_
  rintro e d23 ⟨rfl, hb⟩
  replace HB := hide (HB.out.trans (hb.mono HB.out.size))
  replace BA := hide (BA.out.below hb BA.out.lt)
  replace BB := hide (BB.out.below hb BB.out.lt)
  replace IN := hide (IN.out.below hb IN.out.lt)
  replace T16 := hide (T16.out.below hb)
  replace E16 := hide (E16.out.down hb)
  replace BT16 := hide (BT16.out.below hb BT16.out.lt)
  replace T17 := hide (T17.out.below hb)
  replace E17 := hide (E17.out.down hb)
  replace BT17 := hide (BT17.out.below hb BT17.out.lt)
  replace T19 := hide (T19.out.below hb)
  replace E19 := hide (E19.out.down hb)
  replace BT19 := hide (BT19.out.below hb BT19.out.lt)
  replace T20 := hide (T20.out.below hb)
  replace E20 := hide (E20.out.down hb)
  replace BT20 := hide (BT20.out.below hb BT20.out.lt)
  replace TX16 := hide (TX16.out.below hb)
  replace BX16 := hide (BX16.out.below hb BX16.out.lt)
  replace G16 := hide (G16.out.below hb G16.out.lt)
  replace TX17 := hide (TX17.out.below hb)
  replace BX17 := hide (BX17.out.below hb BX17.out.lt)
  replace G17 := hide (G17.out.below hb G17.out.lt)
  replace TX19 := hide (TX19.out.below hb)
  replace BX19 := hide (BX19.out.below hb BX19.out.lt)
  replace G19 := hide (G19.out.below hb G19.out.lt)
  replace TX20 := hide (TX20.out.below hb)
  replace BX20 := hide (BX20.out.below hb BX20.out.lt)
  replace G20 := hide (G20.out.below hb G20.out.lt)
  clear hb
  have c_G190 := G19.out.cell 0
  have c_G191 := G19.out.cell 1
  have c_G192 := G19.out.cell 2
  go_wp2_with fail
  clear c_G190 c_G191 c_G192
  refine (S19.out e19 _ HB.out E19.out).mono ?_
  rintro e d24 ⟨rfl, hb⟩
  replace HB := hide (HB.out.trans (hb.mono HB.out.size))
  replace BA := hide (BA.out.below hb BA.out.lt)
  replace BB := hide (BB.out.below hb BB.out.lt)
  replace IN := hide (IN.out.below hb IN.out.lt)
  replace T16 := hide (T16.out.below hb)
  replace E16 := hide (E16.out.down hb)
  replace BT16 := hide (BT16.out.below hb BT16.out.lt)
  replace T17 := hide (T17.out.below hb)
  replace E17 := hide (E17.out.down hb)
  replace BT17 := hide (BT17.out.below hb BT17.out.lt)
  replace T19 := hide (T19.out.below hb)
  replace E19 := hide (E19.out.down hb)
  replace BT19 := hide (BT19.out.below hb BT19.out.lt)
  replace T20 := hide (T20.out.below hb)
  replace E20 := hide (E20.out.down hb)
  replace BT20 := hide (BT20.out.below hb BT20.out.lt)
  replace TX16 := hide (TX16.out.below hb)
  replace BX16 := hide (BX16.out.below hb BX16.out.lt)
  replace G16 := hide (G16.out.below hb G16.out.lt)
  replace TX17 := hide (TX17.out.below hb)
  replace BX17 := hide (BX17.out.below hb BX17.out.lt)
  replace G17 := hide (G17.out.below hb G17.out.lt)
  replace TX19 := hide (TX19.out.below hb)
  replace BX19 := hide (BX19.out.below hb BX19.out.lt)
  replace G19 := hide (G19.out.below hb G19.out.lt)
  replace TX20 := hide (TX20.out.below hb)
  replace BX20 := hide (BX20.out.below hb BX20.out.lt)
  replace G20 := hide (G20.out.below hb G20.out.lt)
  clear hb
  have c_G200 := G20.out.cell 0
  have c_G201 := G20.out.cell 1
  have c_G202 := G20.out.cell 2
  go_wp2_with fail
  clear c_G200 c_G201 c_G202
  refine (S20.out e20 _ HB.out E20.out).mono ?_
  rintro e d25 ⟨rfl, hb⟩
  replace HB := hide (HB.out.trans (hb.mono HB.out.size))
  replace BA := hide (BA.out.below hb BA.out.lt)
  replace BB := hide (BB.out.below hb BB.out.lt)
  replace IN := hide (IN.out.below hb IN.out.lt)
  replace T16 := hide (T16.out.below hb)
  replace E16 := hide (E16.out.down hb)
  replace BT16 := hide (BT16.out.below hb BT16.out.lt)
  replace T17 := hide (T17.out.below hb)
  replace E17 := hide (E17.out.down hb)
  replace BT17 := hide (BT17.out.below hb BT17.out.lt)
  replace T19 := hide (T19.out.below hb)
  replace E19 := hide (E19.out.down hb)
  replace BT19 := hide (BT19.out.below hb BT19.out.lt)
  replace T20 := hide (T20.out.below hb)
  replace E20 := hide (E20.out.down hb)
  replace BT20 := hide (BT20.out.below hb BT20.out.lt)
  replace TX16 := hide (TX16.out.below hb)
  replace BX16 := hide (BX16.out.below hb BX16.out.lt)
  replace G16 := hide (G16.out.below hb G16.out.lt)
  replace TX17 := hide (TX17.out.below hb)
  replace BX17 := hide (BX17.out.below hb BX17.out.lt)
  replace G17 := hide (G17.out.below hb G17.out.lt)
  replace TX19 := hide (TX19.out.below hb)
  replace BX19 := hide (BX19.out.below hb BX19.out.lt)
  replace G19 := hide (G19.out.below hb G19.out.lt)
  replace TX20 := hide (TX20.out.below hb)
  replace BX20 := hide (BX20.out.below hb BX20.out.lt)
  replace G20 := hide (G20.out.below hb G20.out.lt)
  clear hb
  clear E16 E17 E19 E20 G16 G17 G19 G20
  have c_BT160 := BT16.out.cell 0
  have c_BT161 := BT16.out.cell 1
  have c_BT162 := BT16.out.cell 2
  have c_BX160 := BX16.out.cell 0
  have c_BX161 := BX16.out.cell 1
  have c_BX162 := BX16.out.cell 2
  go_wp2_with fail
  clear c_BT160 c_BT161 c_BT162 c_BX160 c_BX161 c_BX162
  refine (rsame_good t16 x16 _ T16.out TX16.out (Z16.out.trans ZX16.out.symm) (U16.out.trans UX16.out.symm) (D16.out.trans DX16.out.symm)).mono ?_
  rintro e d26 ⟨rfl, hb⟩
  replace HB := hide (HB.out.trans (hb.mono HB.out.size))
  replace BA := hide (BA.out.below hb BA.out.lt)
  replace BB := hide (BB.out.below hb BB.out.lt)
  replace IN := hide (IN.out.below hb IN.out.lt)
  replace T16 := hide (T16.out.below hb)
  replace BT16 := hide (BT16.out.below hb BT16.out.lt)
  replace T17 := hide (T17.out.below hb)
  replace BT17 := hide (BT17.out.below hb BT17.out.lt)
  replace T19 := hide (T19.out.below hb)
  replace BT19 := hide (BT19.out.below hb BT19.out.lt)
  replace T20 := hide (T20.out.below hb)
  replace BT20 := hide (BT20.out.below hb BT20.out.lt)
  replace TX16 := hide (TX16.out.below hb)
  replace BX16 := hide (BX16.out.below hb BX16.out.lt)
  replace TX17 := hide (TX17.out.below hb)
  replace BX17 := hide (BX17.out.below hb BX17.out.lt)
  replace TX19 := hide (TX19.out.below hb)
  replace BX19 := hide (BX19.out.below hb BX19.out.lt)
  replace TX20 := hide (TX20.out.below hb)
  replace BX20 := hide (BX20.out.below hb BX20.out.lt)
  clear hb
  have c_BT170 := BT17.out.cell 0
  have c_BT171 := BT17.out.cell 1
  have c_BT172 := BT17.out.cell 2
  have c_BX170 := BX17.out.cell 0
  have c_BX171 := BX17.out.cell 1
  have c_BX172 := BX17.out.cell 2
  go_wp2_with fail
  clear c_BT170 c_BT171 c_BT172 c_BX170 c_BX171 c_BX172
  refine (rsame_good t17 x17 _ T17.out TX17.out (Z17.out.trans ZX17.out.symm) (U17.out.trans UX17.out.symm) (D17.out.trans DX17.out.symm)).mono ?_
  rintro e d27 ⟨rfl, hb⟩
  replace HB := hide (HB.out.trans (hb.mono HB.out.size))
  replace BA := hide (BA.out.below hb BA.out.lt)
  replace BB := hide (BB.out.below hb BB.out.lt)
  replace IN := hide (IN.out.below hb IN.out.lt)
  replace T16 := hide (T16.out.below hb)
  replace BT16 := hide (BT16.out.below hb BT16.out.lt)
  replace T17 := hide (T17.out.below hb)
  replace BT17 := hide (BT17.out.below hb BT17.out.lt)
  replace T19 := hide (T19.out.below hb)
  replace BT19 := hide (BT19.out.below hb BT19.out.lt)
  replace T20 := hide (T20.out.below hb)
  replace BT20 := hide (BT20.out.below hb BT20.out.lt)
  replace TX16 := hide (TX16.out.below hb)
  replace BX16 := hide (BX16.out.below hb BX16.out.lt)
  replace TX17 := hide (TX17.out.below hb)
  replace BX17 := hide (BX17.out.below hb BX17.out.lt)
  replace TX19 := hide (TX19.out.below hb)
  replace BX19 := hide (BX19.out.below hb BX19.out.lt)
  replace TX20 := hide (TX20.out.below hb)
  replace BX20 := hide (BX20.out.below hb BX20.out.lt)
  clear hb
  have c_BT190 := BT19.out.cell 0
  have c_BT191 := BT19.out.cell 1
  have c_BT192 := BT19.out.cell 2
  have c_BX190 := BX19.out.cell 0
  have c_BX191 := BX19.out.cell 1
  have c_BX192 := BX19.out.cell 2
  go_wp2_with fail
  clear c_BT190 c_BT191 c_BT192 c_BX190 c_BX191 c_BX192
  refine (rsame_good t19 x19 _ T19.out TX19.out (Z19.out.trans ZX19.out.symm) (U19.out.trans UX19.out.symm) (D19.out.trans DX19.out.symm)).mono ?_
  rintro e d28 ⟨rfl, hb⟩
  replace HB := hide (HB.out.trans (hb.mono HB.out.size))
  replace BA := hide (BA.out.below hb BA.out.lt)
  replace BB := hide (BB.out.below hb BB.out.lt)
  replace IN := hide (IN.out.below hb IN.out.lt)
  replace T16 := hide (T16.out.below hb)
  replace BT16 := hide (BT16.out.below hb BT16.out.lt)
  replace T17 := hide (T17.out.below hb)
  replace BT17 := hide (BT17.out.below hb BT17.out.lt)
  replace T19 := hide (T19.out.below hb)
  replace BT19 := hide (BT19.out.below hb BT19.out.lt)
  replace T20 := hide (T20.out.below hb)
  replace BT20 := hide (BT20.out.below hb BT20.out.lt)
  replace TX16 := hide (TX16.out.below hb)
  replace BX16 := hide (BX16.out.below hb BX16.out.lt)
  replace TX17 := hide (TX17.out.below hb)
  replace BX17 := hide (BX17.out.below hb BX17.out.lt)
  replace TX19 := hide (TX19.out.below hb)
  replace BX19 := hide (BX19.out.below hb BX19.out.lt)
  replace TX20 := hide (TX20.out.below hb)
  replace BX20 := hide (BX20.out.below hb BX20.out.lt)
  clear hb
  have c_BT200 := BT20.out.cell 0
  have c_BT201 := BT20.out.cell 1
  have c_BT202 := BT20.out.cell 2
  have c_BX200 := BX20.out.cell 0
  have c_BX201 := BX20.out.cell 1
  have c_BX202 := BX20.out.cell 2
  go_wp2_with fail
  clear c_BT200 c_BT201 c_BT202 c_BX200 c_BX201 c_BX202
  refine (rsame_good t20 x20 _ T20.out TX20.out (Z20.out.trans ZX20.out.symm) (U20.out.trans UX20.out.symm) (D20.out.trans DX20.out.symm)).mono ?_
  rintro e d29 ⟨rfl, hb⟩
  replace HB := hide (HB.out.trans (hb.mono HB.out.size))
  replace BA := hide (BA.out.below hb BA.out.lt)
  replace BB := hide (BB.out.below hb BB.out.lt)
  replace IN := hide (IN.out.below hb IN.out.lt)
  replace T16 := hide (T16.out.below hb)
  replace BT16 := hide (BT16.out.below hb BT16.out.lt)
  replace T17 := hide (T17.out.below hb)
  replace BT17 := hide (BT17.out.below hb BT17.out.lt)
  replace T19 := hide (T19.out.below hb)
  replace BT19 := hide (BT19.out.below hb BT19.out.lt)
  replace T20 := hide (T20.out.below hb)
  replace BT20 := hide (BT20.out.below hb BT20.out.lt)
  replace TX16 := hide (TX16.out.below hb)
  replace BX16 := hide (BX16.out.below hb BX16.out.lt)
  replace TX17 := hide (TX17.out.below hb)
  replace BX17 := hide (BX17.out.below hb BX17.out.lt)
  replace TX19 := hide (TX19.out.below hb)
  replace BX19 := hide (BX19.out.below hb BX19.out.lt)
  replace TX20 := hide (TX20.out.below hb)
  replace BX20 := hide (BX20.out.below hb BX20.out.lt)
  clear hb
  clear T16 TX16 BT16 BX16
  clear T17 TX17 BT17 BX17
  clear T19 TX19 BT19 BX19
  clear T20 TX20 BT20 BX20
  clear Z16 U16 D16 ZX16 UX16 DX16 S16 Z17 U17 D17 ZX17 UX17 DX17 S17 Z19 U19 D19 ZX19 UX19 DX19 S19 Z20 U20 D20 ZX20 UX20 DX20 S20
  have P2 := hide (fun W (B : Option Addr) (hb : Below w.heap.size w W) (hr : Row W B ([a.look, b.look].flatMap Dsc.vals)) => sresult_any op [a.look, b.look] B 2 ah am ar ak W hr (mem_dsc (IA.out W hb).look (IB.out W hb).look) (by simp) (HE.out W hb))
  have Q2 := hide (fun W (B : Option Addr) (hb : Below w.heap.size w W) (hr : Row W B ([a.look, b.look].flatMap Dsc.vals)) => rsoft_any op [a.look, b.look] B 2 W hr (mem_dsc (IA.out W hb).look (IB.out W hb).look) (mem_dsc (P := fun d => d.zs.length ≤ d.cap) CA.out.1 CB.out.1))
  have I2 := hide (fun W hb => ISE.out [a.look, b.look] W hb)
  obtain ⟨L2, hL2⟩ : ∃ n, Hid (Sf.res op [a.look, b.look] = n) := ⟨_, hide rfl⟩
  obtain ⟨K2, XX2, YY2⟩ := L2
  rw [hL2.out] at P2 Q2 I2
  unfold SfE at P2
  unfold RefD at Q2
  dsimp only at P2 Q2 I2
  obtain ⟨ev2, hev2⟩ : ∃ v, Hid (Elm.err ah am ar ak K2 = v) := ⟨_, hide rfl⟩
  rw [hev2.out] at P2 I2
  have P1 := hide (fun W (B : Option Addr) (hb : Below w.heap.size w W) (hr : Row W B ([a.look].flatMap Dsc.vals)) => sresult_any op [a.look] B 1 ah am ar ak W hr (mem_dsc1 (IA.out W hb).look) (by simp) (HE.out W hb))
  have Q1 := hide (fun W (B : Option Addr) (hb : Below w.heap.size w W) (hr : Row W B ([a.look].flatMap Dsc.vals)) => rsoft_any op [a.look] B 1 W hr (mem_dsc1 (IA.out W hb).look) (mem_dsc1 (P := fun d => d.zs.length ≤ d.cap) CA.out.1))
  have I1 := hide (fun W hb => ISE.out [a.look] W hb)
  obtain ⟨L1, hL1⟩ : ∃ n, Hid (Sf.res op [a.look] = n) := ⟨_, hide rfl⟩
  obtain ⟨K1, XX1, YY1⟩ := L1
  rw [hL1.out] at P1 Q1 I1
  unfold SfE at P1
  unfold RefD at Q1
  dsimp only at P1 Q1 I1
  obtain ⟨ev1, hev1⟩ : ∃ v, Hid (Elm.err ah am ar ak K1 = v) := ⟨_, hide rfl⟩
  rw [hev1.out] at P1 I1
  clear ISE
  have c_BA0 := BA.out.cell 0
  have c_BA1 := BA.out.cell 1
  have l_BA := BA.out.lt
  have c_BB0 := BB.out.cell 0
  have c_BB1 := BB.out.cell 1
  have l_BB := BB.out.lt
  obtain ⟨d30, hd30⟩ : ∃ W, W = d29.alloc (.cells #[.slice a.P a.zs.length a.cap, .bool a.u, .slice b.P b.zs.length b.cap, .bool b.u] 24) := ⟨_, rfl⟩
  have hbA : Below d29.heap.size d29 d30 := by rw [hd30]; exact (Below.refl _ _).alloc (Nat.le_refl _) _
  have R0 : Hid (Has d30 d29.heap.size 24 [.slice a.P a.zs.length a.cap, .bool a.u, .slice b.P b.zs.length b.cap, .bool b.u]) := hide (by rw [hd30]; exact Has.new _ _ _)
  replace HB := hide (HB.out.trans (hbA.mono HB.out.size))
  replace BA := hide (BA.out.below hbA BA.out.lt)
  replace BB := hide (BB.out.below hbA BB.out.lt)
  replace IN := hide (IN.out.below hbA IN.out.lt)
  have Hd30 := hide hd30
  clear hd30 hbA
  go_wp2_with fail
  rw [← Hd30.out]
  clear Hd30 c_BA0 c_BA1 l_BA c_BB0 c_BB1 l_BB
  refine (P2.out _ _ HB.out R0.out.row).mono ?_
  rintro e d31 ⟨⟨vd2, rfl, hd, hdz, hdu⟩, hb⟩
  replace HB := hide (HB.out.trans (hb.mono HB.out.size))
  replace BA := hide (BA.out.below hb BA.out.lt)
  replace BB := hide (BB.out.below hb BB.out.lt)
  replace IN := hide (IN.out.below hb IN.out.lt)
  replace R0 := hide (R0.out.below hb R0.out.lt)
  clear hb
  have Jd2 := hide hd
  have Jzd2 := hide hdz
  have Jud2 := hide hdu
  clear hd hdz hdu
  clear R0
  have c_BA0 := BA.out.cell 0
  have c_BA1 := BA.out.cell 1
  have l_BA := BA.out.lt
  have c_BB0 := BB.out.cell 0
  have c_BB1 := BB.out.cell 1
  have l_BB := BB.out.lt
  obtain ⟨d32, hd32⟩ : ∃ W, W = d31.alloc (.cells #[.slice vd2.P vd2.zs.length vd2.cap, .bool vd2.u] 24) := ⟨_, rfl⟩
  have hbA : Below d31.heap.size d31 d32 := by rw [hd32]; exact (Below.refl _ _).alloc (Nat.le_refl _) _
  have Bd2 : Hid (Has d32 d31.heap.size 24 [.slice vd2.P vd2.zs.length vd2.cap, .bool vd2.u]) := hide (by rw [hd32]; exact Has.new _ _ _)
  replace HB := hide (HB.out.trans (hbA.mono HB.out.size))
  replace BA := hide (BA.out.below hbA BA.out.lt)
  replace BB := hide (BB.out.below hbA BB.out.lt)
  replace IN := hide (IN.out.below hbA IN.out.lt)
  replace Jd2 := hide (Jd2.out.below hbA)
  have Hd32 := hide hd32
  clear hd32 hbA
  obtain ⟨d33, hd33⟩ : ∃ W, W = d32.alloc (.cells #[.slice a.P a.zs.length a.cap, .bool a.u, .slice b.P b.zs.length b.cap, .bool b.u] 24) := ⟨_, rfl⟩
  have hbA : Below d32.heap.size d32 d33 := by rw [hd33]; exact (Below.refl _ _).alloc (Nat.le_refl _) _
  have R1 : Hid (Has d33 (d31.heap.size + 1) 24 [.slice a.P a.zs.length a.cap, .bool a.u, .slice b.P b.zs.length b.cap, .bool b.u]) := hide (by rw [hd33]; exact box_at _ _ _ _ (by rw [Hd32.out]; simp))
  replace HB := hide (HB.out.trans (hbA.mono HB.out.size))
  replace BA := hide (BA.out.below hbA BA.out.lt)
  replace BB := hide (BB.out.below hbA BB.out.lt)
  replace IN := hide (IN.out.below hbA IN.out.lt)
  replace Jd2 := hide (Jd2.out.below hbA)
  replace Bd2 := hide (Bd2.out.below hbA Bd2.out.lt)
  have Hd33 := hide hd33
  clear hd33 hbA
  go_wp2_with fail
  rw [← Hd32.out]
  rw [← Hd33.out]
  clear Hd32 Hd33 c_BA0 c_BA1 l_BA c_BB0 c_BB1 l_BB
  refine (Q2.out _ _ HB.out R1.out.row).mono ?_
  rintro e d34 ⟨⟨vr2, rfl, hd, hdz, hdu⟩, hb⟩
  replace HB := hide (HB.out.trans (hb.mono HB.out.size))
  replace BA := hide (BA.out.below hb BA.out.lt)
  replace BB := hide (BB.out.below hb BB.out.lt)
  replace IN := hide (IN.out.below hb IN.out.lt)
  replace Jd2 := hide (Jd2.out.below hb)
  replace Bd2 := hide (Bd2.out.below hb Bd2.out.lt)
  replace R1 := hide (R1.out.below hb R1.out.lt)
  clear hb
  have Jr2 := hide hd
  have Jzr2 := hide hdz
  have Jur2 := hide hdu
  clear hd hdz hdu
  clear R1
  have c_BA0 := BA.out.cell 0
  have c_BA1 := BA.out.cell 1
  have l_BA := BA.out.lt
  obtain ⟨d35, hd35⟩ : ∃ W, W = d34.alloc (.cells #[.slice vr2.P vr2.zs.length vr2.cap, .bool vr2.u] 24) := ⟨_, rfl⟩
  have hbA : Below d34.heap.size d34 d35 := by rw [hd35]; exact (Below.refl _ _).alloc (Nat.le_refl _) _
  have Br2 : Hid (Has d35 d34.heap.size 24 [.slice vr2.P vr2.zs.length vr2.cap, .bool vr2.u]) := hide (by rw [hd35]; exact Has.new _ _ _)
  replace HB := hide (HB.out.trans (hbA.mono HB.out.size))
  replace BA := hide (BA.out.below hbA BA.out.lt)
  replace BB := hide (BB.out.below hbA BB.out.lt)
  replace IN := hide (IN.out.below hbA IN.out.lt)
  replace Jd2 := hide (Jd2.out.below hbA)
  replace Bd2 := hide (Bd2.out.below hbA Bd2.out.lt)
  replace Jr2 := hide (Jr2.out.below hbA)
  have Hd35 := hide hd35
  clear hd35 hbA
  obtain ⟨d36, hd36⟩ : ∃ W, W = d35.alloc (.cells #[.slice a.P a.zs.length a.cap, .bool a.u] 24) := ⟨_, rfl⟩
  have hbA : Below d35.heap.size d35 d36 := by rw [hd36]; exact (Below.refl _ _).alloc (Nat.le_refl _) _
  have R2 : Hid (Has d36 (d34.heap.size + 1) 24 [.slice a.P a.zs.length a.cap, .bool a.u]) := hide (by rw [hd36]; exact box_at _ _ _ _ (by rw [Hd35.out]; simp))
  replace HB := hide (HB.out.trans (hbA.mono HB.out.size))
  replace BA := hide (BA.out.below hbA BA.out.lt)
  replace BB := hide (BB.out.below hbA BB.out.lt)
  replace IN := hide (IN.out.below hbA IN.out.lt)
  replace Jd2 := hide (Jd2.out.below hbA)
  replace Bd2 := hide (Bd2.out.below hbA Bd2.out.lt)
  replace Jr2 := hide (Jr2.out.below hbA)
  replace Br2 := hide (Br2.out.below hbA Br2.out.lt)
  have Hd36 := hide hd36
  clear hd36 hbA
  go_wp2_with fail
  rw [← Hd35.out]
  rw [← Hd36.out]
  clear Hd35 Hd36 c_BA0 c_BA1 l_BA
  refine (P1.out _ _ HB.out R2.out.row).mono ?_
  rintro e d37 ⟨⟨vd1, rfl, hd, hdz, hdu⟩, hb⟩
  replace HB := hide (HB.out.trans (hb.mono HB.out.size))
  replace BA := hide (BA.out.below hb BA.out.lt)
  replace BB := hide (BB.out.below hb BB.out.lt)
  replace IN := hide (IN.out.below hb IN.out.lt)
  replace Jd2 := hide (Jd2.out.below hb)
  replace Bd2 := hide (Bd2.out.below hb Bd2.out.lt)
  replace Jr2 := hide (Jr2.out.below hb)
  replace Br2 := hide (Br2.out.below hb Br2.out.lt)
  replace R2 := hide (R2.out.below hb R2.out.lt)
  clear hb
  have Jd1 := hide hd
  have Jzd1 := hide hdz
  have Jud1 := hide hdu
  clear hd hdz hdu
  clear R2
  have c_BA0 := BA.out.cell 0
  have c_BA1 := BA.out.cell 1
  have l_BA := BA.out.lt
  obtain ⟨d38, hd38⟩ : ∃ W, W = d37.alloc (.cells #[.slice vd1.P vd1.zs.length vd1.cap, .bool vd1.u] 24) := ⟨_, rfl⟩
  have hbA : Below d37.heap.size d37 d38 := by rw [hd38]; exact (Below.refl _ _).alloc (Nat.le_refl _) _
  have Bd1 : Hid (Has d38 d37.heap.size 24 [.slice vd1.P vd1.zs.length vd1.cap, .bool vd1.u]) := hide (by rw [hd38]; exact Has.new _ _ _)
  replace HB := hide (HB.out.trans (hbA.mono HB.out.size))
  replace BA := hide (BA.out.below hbA BA.out.lt)
  replace BB := hide (BB.out.below hbA BB.out.lt)
  replace IN := hide (IN.out.below hbA IN.out.lt)
  replace Jd2 := hide (Jd2.out.below hbA)
  replace Bd2 := hide (Bd2.out.below hbA Bd2.out.lt)
  replace Jr2 := hide (Jr2.out.below hbA)
  replace Br2 := hide (Br2.out.below hbA Br2.out.lt)
  replace Jd1 := hide (Jd1.out.below hbA)
  have Hd38 := hide hd38
  clear hd38 hbA
  obtain ⟨d39, hd39⟩ : ∃ W, W = d38.alloc (.cells #[.slice a.P a.zs.length a.cap, .bool a.u] 24) := ⟨_, rfl⟩
  have hbA : Below d38.heap.size d38 d39 := by rw [hd39]; exact (Below.refl _ _).alloc (Nat.le_refl _) _
  have R3 : Hid (Has d39 (d37.heap.size + 1) 24 [.slice a.P a.zs.length a.cap, .bool a.u]) := hide (by rw [hd39]; exact box_at _ _ _ _ (by rw [Hd38.out]; simp))
  replace HB := hide (HB.out.trans (hbA.mono HB.out.size))
  replace BA := hide (BA.out.below hbA BA.out.lt)
  replace BB := hide (BB.out.below hbA BB.out.lt)
  replace IN := hide (IN.out.below hbA IN.out.lt)
  replace Jd2 := hide (Jd2.out.below hbA)
  replace Bd2 := hide (Bd2.out.below hbA Bd2.out.lt)
  replace Jr2 := hide (Jr2.out.below hbA)
  replace Br2 := hide (Br2.out.below hbA Br2.out.lt)
  replace Jd1 := hide (Jd1.out.below hbA)
  replace Bd1 := hide (Bd1.out.below hbA Bd1.out.lt)
  have Hd39 := hide hd39
  clear hd39 hbA
  go_wp2_with fail
  rw [← Hd38.out]
  rw [← Hd39.out]
  clear Hd38 Hd39 c_BA0 c_BA1 l_BA
  refine (Q1.out _ _ HB.out R3.out.row).mono ?_
  rintro e d40 ⟨⟨vr1, rfl, hd, hdz, hdu⟩, hb⟩
  replace HB := hide (HB.out.trans (hb.mono HB.out.size))
  replace BA := hide (BA.out.below hb BA.out.lt)
  replace BB := hide (BB.out.below hb BB.out.lt)
  replace IN := hide (IN.out.below hb IN.out.lt)
  replace Jd2 := hide (Jd2.out.below hb)
  replace Bd2 := hide (Bd2.out.below hb Bd2.out.lt)
  replace Jr2 := hide (Jr2.out.below hb)
  replace Br2 := hide (Br2.out.below hb Br2.out.lt)
  replace Jd1 := hide (Jd1.out.below hb)
  replace Bd1 := hide (Bd1.out.below hb Bd1.out.lt)
  replace R3 := hide (R3.out.below hb R3.out.lt)
  clear hb
  have Jr1 := hide hd
  have Jzr1 := hide hdz
  have Jur1 := hide hdu
  clear hd hdz hdu
  clear R3
  obtain ⟨d41, hd41⟩ : ∃ W, W = d40.alloc (.cells #[.slice vr1.P vr1.zs.length vr1.cap, .bool vr1.u] 24) := ⟨_, rfl⟩
  have hbA : Below d40.heap.size d40 d41 := by rw [hd41]; exact (Below.refl _ _).alloc (Nat.le_refl _) _
  have Br1 : Hid (Has d41 d40.heap.size 24 [.slice vr1.P vr1.zs.length vr1.cap, .bool vr1.u]) := hide (by rw [hd41]; exact Has.new _ _ _)
  replace HB := hide (HB.out.trans (hbA.mono HB.out.size))
  replace BA := hide (BA.out.below hbA BA.out.lt)
  replace BB := hide (BB.out.below hbA BB.out.lt)
  replace IN := hide (IN.out.below hbA IN.out.lt)
  replace Jd2 := hide (Jd2.out.below hbA)
  replace Bd2 := hide (Bd2.out.below hbA Bd2.out.lt)
  replace Jr2 := hide (Jr2.out.below hbA)
  replace Br2 := hide (Br2.out.below hbA Br2.out.lt)
  replace Jd1 := hide (Jd1.out.below hbA)
  replace Bd1 := hide (Bd1.out.below hbA Bd1.out.lt)
  replace Jr1 := hide (Jr1.out.below hbA)
  have Hd41 := hide hd41
  clear hd41 hbA
  go_wp2_with fail
  rw [← Hd41.out]
  clear Hd41
  refine (I2.out _ HB.out).mono ?_
  rintro e d42 ⟨rfl, hb⟩
  replace HB := hide (HB.out.trans (hb.mono HB.out.size))
  replace BA := hide (BA.out.below hb BA.out.lt)
  replace BB := hide (BB.out.below hb BB.out.lt)
  replace IN := hide (IN.out.below hb IN.out.lt)
  replace Jd2 := hide (Jd2.out.below hb)
  replace Bd2 := hide (Bd2.out.below hb Bd2.out.lt)
  replace Jr2 := hide (Jr2.out.below hb)
  replace Br2 := hide (Br2.out.below hb Br2.out.lt)
  replace Jd1 := hide (Jd1.out.below hb)
  replace Bd1 := hide (Bd1.out.below hb Bd1.out.lt)
  replace Jr1 := hide (Jr1.out.below hb)
  replace Br1 := hide (Br1.out.below hb Br1.out.lt)
  clear hb
  have c_Bd20 := Bd2.out.cell 0
  have c_Bd21 := Bd2.out.cell 1
  have c_Br20 := Br2.out.cell 0
  have c_Br21 := Br2.out.cell 1
  go_wp2_with fail
  clear c_Bd20 c_Bd21 c_Br20 c_Br21
  refine (rdesc_good vd2 vr2 _ Jd2.out Jr2.out (Jzd2.out.trans Jzr2.out.symm) (Jud2.out.trans Jur2.out.symm)).mono ?_
  rintro e d43 ⟨rfl, hb⟩
  replace HB := hide (HB.out.trans (hb.mono HB.out.size))
  replace BA := hide (BA.out.below hb BA.out.lt)
  replace BB := hide (BB.out.below hb BB.out.lt)
  replace IN := hide (IN.out.below hb IN.out.lt)
  replace Jd2 := hide (Jd2.out.below hb)
  replace Bd2 := hide (Bd2.out.below hb Bd2.out.lt)
  replace Jr2 := hide (Jr2.out.below hb)
  replace Br2 := hide (Br2.out.below hb Br2.out.lt)
  replace Jd1 := hide (Jd1.out.below hb)
  replace Bd1 := hide (Bd1.out.below hb Bd1.out.lt)
  replace Jr1 := hide (Jr1.out.below hb)
  replace Br1 := hide (Br1.out.below hb Br1.out.lt)
  clear hb
  go_wp2_with fail
  refine (I1.out _ HB.out).mono ?_
  rintro e d44 ⟨rfl, hb⟩
  replace HB := hide (HB.out.trans (hb.mono HB.out.size))
  replace BA := hide (BA.out.below hb BA.out.lt)
  replace BB := hide (BB.out.below hb BB.out.lt)
  replace IN := hide (IN.out.below hb IN.out.lt)
  replace Jd2 := hide (Jd2.out.below hb)
  replace Bd2 := hide (Bd2.out.below hb Bd2.out.lt)
  replace Jr2 := hide (Jr2.out.below hb)
  replace Br2 := hide (Br2.out.below hb Br2.out.lt)
  replace Jd1 := hide (Jd1.out.below hb)
  replace Bd1 := hide (Bd1.out.below hb Bd1.out.lt)
  replace Jr1 := hide (Jr1.out.below hb)
  replace Br1 := hide (Br1.out.below hb Br1.out.lt)
  clear hb
  have c_Bd10 := Bd1.out.cell 0
  have c_Bd11 := Bd1.out.cell 1
  have c_Br10 := Br1.out.cell 0
  have c_Br11 := Br1.out.cell 1
  go_wp2_with fail
  clear c_Bd10 c_Bd11 c_Br10 c_Br11
  refine (rdesc_good vd1 vr1 _ Jd1.out Jr1.out (Jzd1.out.trans Jzr1.out.symm) (Jud1.out.trans Jur1.out.symm)).mono ?_
  rintro e q0 ⟨rfl, hb⟩
  replace HB := hide (HB.out.trans (hb.mono HB.out.size))
  replace BA := hide (BA.out.below hb BA.out.lt)
  replace BB := hide (BB.out.below hb BB.out.lt)
  replace IN := hide (IN.out.below hb IN.out.lt)
  replace Jd2 := hide (Jd2.out.below hb)
  replace Bd2 := hide (Bd2.out.below hb Bd2.out.lt)
  replace Jr2 := hide (Jr2.out.below hb)
  replace Br2 := hide (Br2.out.below hb Br2.out.lt)
  replace Jd1 := hide (Jd1.out.below hb)
  replace Bd1 := hide (Bd1.out.below hb Bd1.out.lt)
  replace Jr1 := hide (Jr1.out.below hb)
  replace Br1 := hide (Br1.out.below hb Br1.out.lt)
  clear hb
  clear Jd2 Bd2
  clear Jr2 Br2
  clear Jd1 Bd1
  clear Jr1 Br1
  clear Jzd2 Jud2 Jzr2 Jur2 Jzd1 Jud1 Jzr1 Jur1 P1 P2 Q1 Q2 I1 I2 hL1 hL2 hev1 hev2
  by_cases hk : op = 16
  case pos =>
    subst hk
    have VC := hide (fun W (B : Option Addr) (hb : Below w.heap.size w W) (hr : Row W B ([a, b].flatMap Ten.vals)) => scell_c 16 (.inl rfl) [a, b] i B 2 ah am ar W hr (mem_two (IA.out W hb) (IB.out W hb)) (mem_two CA.out.2 CB.out.2) (by simp) hib (HE.out W hb).1)
    have VE := hide (fun W (B : Option Addr) (hb : Below w.heap.size w W) (hr : Row W B ([a, b].flatMap Ten.vals)) => relement_sf (op := 16) (.inl rfl) [a, b] rfl (mem_two CA.out.2 CB.out.2) i B 2 W hr (mem_two (IA.out W hb) (IB.out W hb)) (by simp) (mem_two CA.out.1 CB.out.1))
    obtain ⟨cv, hcv⟩ : ∃ v, Hid (Sf.cell 16 [a, b] i = v) := ⟨_, hide rfl⟩
    rw [hcv.out] at VC VE
    have hcc : (cv == cv) = true := by simp
    have c_BA0 := BA.out.cell 0
    have c_BA1 := BA.out.cell 1
    have c_BA2 := BA.out.cell 2
    have l_BA := BA.out.lt
    have c_BB0 := BB.out.cell 0
    have c_BB1 := BB.out.cell 1
    have c_BB2 := BB.out.cell 2
    have l_BB := BB.out.lt
    obtain ⟨q1, hq1⟩ : ∃ W, W = q0.alloc (.cells #[.slice a.P a.zs.length a.cap, .bool a.u, .slice a.D a.ds.length a.dcap, .slice b.P b.zs.length b.cap, .bool b.u, .slice b.D b.ds.length b.dcap] 26) := ⟨_, rfl⟩
    have hbA : Below q0.heap.size q0 q1 := by rw [hq1]; exact (Below.refl _ _).alloc (Nat.le_refl _) _
    have RC : Hid (Has q1 q0.heap.size 26 [.slice a.P a.zs.length a.cap, .bool a.u, .slice a.D a.ds.length a.dcap, .slice b.P b.zs.length b.cap, .bool b.u, .slice b.D b.ds.length b.dcap]) := hide (by rw [hq1]; exact Has.new _ _ _)
    replace HB := hide (HB.out.trans (hbA.mono HB.out.size))
    replace BA := hide (BA.out.below hbA BA.out.lt)
    replace BB := hide (BB.out.below hbA BB.out.lt)
    replace IN := hide (IN.out.below hbA IN.out.lt)
    have Hq1 := hide hq1
    clear hq1 hbA
    go_wp2_with fail
    rw [← Hq1.out]
    clear Hq1 c_BA0 c_BA1 c_BA2 l_BA c_BB0 c_BB1 c_BB2 l_BB
    refine (VC.out _ _ HB.out RC.out.row).mono ?_
    rintro e q2 ⟨rfl, hb⟩
    replace HB := hide (HB.out.trans (hb.mono HB.out.size))
    replace BA := hide (BA.out.below hb BA.out.lt)
    replace BB := hide (BB.out.below hb BB.out.lt)
    replace IN := hide (IN.out.below hb IN.out.lt)
    replace RC := hide (RC.out.below hb RC.out.lt)
    clear hb
    clear RC
    go_wp2_with fail
    refine (VE.out _ (some ⟨w3.heap.size, 0, none⟩) HB.out IN.out.row).mono ?_
    rintro e q3 ⟨rfl, hb⟩
    replace HB := hide (HB.out.trans (hb.mono HB.out.size))
    replace BA := hide (BA.out.below hb BA.out.lt)
    replace BB := hide (BB.out.below hb BB.out.lt)
    replace IN := hide (IN.out.below hb IN.out.lt)
    clear hb
    go_wp2_with fail
    go_ret
    exact ⟨rfl, HB.out⟩
  have h16 := hk
  clear hk
  by_cases hk : op = 17
  case pos =>
    subst hk
    have VC := hide (fun W (B : Option Addr) (hb : Below w.heap.size w W) (hr : Row W B ([a, b].flatMap Ten.vals)) => scell_c 17 (.inr (.inl rfl)) [a, b] i B 2 ah am ar W hr (mem_two (IA.out W hb) (IB.out W hb)) (mem_two CA.out.2 CB.out.2) (by simp) hib (HE.out W hb).1)
    have VE := hide (fun W (B : Option Addr) (hb : Below w.heap.size w W) (hr : Row W B ([a, b].flatMap Ten.vals)) => relement_sf (op := 17) (.inr (.inl rfl)) [a, b] rfl (mem_two CA.out.2 CB.out.2) i B 2 W hr (mem_two (IA.out W hb) (IB.out W hb)) (by simp) (mem_two CA.out.1 CB.out.1))
    obtain ⟨cv, hcv⟩ : ∃ v, Hid (Sf.cell 17 [a, b] i = v) := ⟨_, hide rfl⟩
    rw [hcv.out] at VC VE
    have hcc : (cv == cv) = true := by simp
    have c_BA0 := BA.out.cell 0
    have c_BA1 := BA.out.cell 1
    have c_BA2 := BA.out.cell 2
    have l_BA := BA.out.lt
    have c_BB0 := BB.out.cell 0
    have c_BB1 := BB.out.cell 1
    have c_BB2 := BB.out.cell 2
    have l_BB := BB.out.lt
    obtain ⟨q1, hq1⟩ : ∃ W, W = q0.alloc (.cells #[.slice a.P a.zs.length a.cap, .bool a.u, .slice a.D a.ds.length a.dcap, .slice b.P b.zs.length b.cap, .bool b.u, .slice b.D b.ds.length b.dcap] 26) := ⟨_, rfl⟩
    have hbA : Below q0.heap.size q0 q1 := by rw [hq1]; exact (Below.refl _ _).alloc (Nat.le_refl _) _
    have RC : Hid (Has q1 q0.heap.size 26 [.slice a.P a.zs.length a.cap, .bool a.u, .slice a.D a.ds.length a.dcap, .slice b.P b.zs.length b.cap, .bool b.u, .slice b.D b.ds.length b.dcap]) := hide (by rw [hq1]; exact Has.new _ _ _)
    replace HB := hide (HB.out.trans (hbA.mono HB.out.size))
    replace BA := hide (BA.out.below hbA BA.out.lt)
    replace BB := hide (BB.out.below hbA BB.out.lt)
    replace IN := hide (IN.out.below hbA IN.out.lt)
    have Hq1 := hide hq1
    clear hq1 hbA
    go_wp2_with fail
    rw [← Hq1.out]
    clear Hq1 c_BA0 c_BA1 c_BA2 l_BA c_BB0 c_BB1 c_BB2 l_BB
    refine (VC.out _ _ HB.out RC.out.row).mono ?_
    rintro e q2 ⟨rfl, hb⟩
    replace HB := hide (HB.out.trans (hb.mono HB.out.size))
    replace BA := hide (BA.out.below hb BA.out.lt)
    replace BB := hide (BB.out.below hb BB.out.lt)
    replace IN := hide (IN.out.below hb IN.out.lt)
    replace RC := hide (RC.out.below hb RC.out.lt)
    clear hb
    clear RC
    go_wp2_with fail
    refine (VE.out _ (some ⟨w3.heap.size, 0, none⟩) HB.out IN.out.row).mono ?_
    rintro e q3 ⟨rfl, hb⟩
    replace HB := hide (HB.out.trans (hb.mono HB.out.size))
    replace BA := hide (BA.out.below hb BA.out.lt)
    replace BB := hide (BB.out.below hb BB.out.lt)
    replace IN := hide (IN.out.below hb IN.out.lt)
    clear hb
    go_wp2_with fail
    go_ret
    exact ⟨rfl, HB.out⟩
  have h17 := hk
  clear hk
  by_cases hk : op = 19
  case pos =>
    subst hk
    have VC := hide (fun W (B : Option Addr) (hb : Below w.heap.size w W) (hr : Row W B ([a].flatMap Ten.vals)) => scell_c 19 (.inr (.inr (.inl rfl))) [a] i B 1 ah am ar W hr (mem_one (IA.out W hb)) (mem_one CA.out.2) (by simp) hib (HE.out W hb).1)
    have VE := hide (fun W (B : Option Addr) (hb : Below w.heap.size w W) (hr : Row W B ([a].flatMap Ten.vals)) => relement_sf (op := 19) (.inr (.inr (.inl rfl))) [a] rfl (mem_one CA.out.2) i B 2 W hr (mem_one (IA.out W hb)) (by simp) (mem_one CA.out.1))
    obtain ⟨cv, hcv⟩ : ∃ v, Hid (Sf.cell 19 [a] i = v) := ⟨_, hide rfl⟩
    rw [hcv.out] at VC VE
    have hcc : (cv == cv) = true := by simp
    have hsl : ∀ (g : Nat) (W : World), (Instr.slice 29 (.slice (some ⟨g, 0, none⟩) 2 2) none (some (.int .i64 1)) none).run Tryz.prog W = .ok (.slice (some ⟨g, 0, none⟩) 1 2) W := fun g W => by kernel_rfl
    go_wp2_with fail
    have c0 := BA.out.cell 0
    have c1 := BA.out.cell 1
    have c2 := BA.out.cell 2
    have hbA : Below q0.heap.size q0 ((q0.alloc (.cells #[.slice a.P a.zs.length a.cap, .bool a.u, .slice a.D a.ds.length a.dcap] 26)).drew) := ((Below.refl _ _).alloc (Nat.le_refl _) _).drew
    have HBA := hide (HB.out.trans (hbA.mono HB.out.size))
    have RRA : Hid (Row ((q0.alloc (.cells #[.slice a.P a.zs.length a.cap, .bool a.u, .slice a.D a.ds.length a.dcap] 26)).drew) (some ⟨q0.heap.size, 0, none⟩) ([a].flatMap Ten.vals)) := hide ((Has.new q0 26 [.slice a.P a.zs.length a.cap, .bool a.u, .slice a.D a.ds.length a.dcap]).drew1.row)
    have INA := hide (IN.out.below hbA IN.out.lt)
    clear hbA
    go_region_law (first
      | (go_simp; go_at_call 18; refine (VC.out _ _ HBA.out RRA.out).mono ?_; rintro e q2 ⟨rfl, hb⟩; have HB2 := hide (HBA.out.trans (hb.mono HBA.out.size)); have IN2 := hide (INA.out.below hb INA.out.lt); clear hb)
      | (go_simp; go_at_call 19; refine (VE.out _ (some ⟨w3.heap.size, 0, none⟩) HB2.out (IN2.out.row_app (xs := [.slice a.P a.zs.length a.cap, .bool a.u, .slice a.D a.ds.length a.dcap]) (ys := [.slice b.P b.zs.length b.cap, .bool b.u, .slice b.D b.ds.length b.dcap]))).mono ?_; rintro e q3 ⟨rfl, hb⟩; have HB3 := hide (HB2.out.trans (hb.mono HB2.out.size)); clear hb))
    all_goals go_ways
    all_goals
      go_wp2_with fail
      go_ret
      exact ⟨rfl, HB3.out⟩
  have h19 := hk
  clear hk
  by_cases hk : op = 20
  case pos =>
    subst hk
    have VC := hide (fun W (B : Option Addr) (hb : Below w.heap.size w W) (hr : Row W B ([a].flatMap Ten.vals)) => scell_c 20 (.inr (.inr (.inr rfl))) [a] i B 1 ah am ar W hr (mem_one (IA.out W hb)) (mem_one CA.out.2) (by simp) hib (HE.out W hb).1)
    have VE := hide (fun W (B : Option Addr) (hb : Below w.heap.size w W) (hr : Row W B ([a].flatMap Ten.vals)) => relement_sf (op := 20) (.inr (.inr (.inr rfl))) [a] rfl (mem_one CA.out.2) i B 2 W hr (mem_one (IA.out W hb)) (by simp) (mem_one CA.out.1))
    obtain ⟨cv, hcv⟩ : ∃ v, Hid (Sf.cell 20 [a] i = v) := ⟨_, hide rfl⟩
    rw [hcv.out] at VC VE
    have hcc : (cv == cv) = true := by simp
    have hsl : ∀ (g : Nat) (W : World), (Instr.slice 29 (.slice (some ⟨g, 0, none⟩) 2 2) none (some (.int .i64 1)) none).run Tryz.prog W = .ok (.slice (some ⟨g, 0, none⟩) 1 2) W := fun g W => by kernel_rfl
    go_wp2_with fail
    have c0 := BA.out.cell 0
    have c1 := BA.out.cell 1
    have c2 := BA.out.cell 2
    have hbA : Below q0.heap.size q0 ((q0.alloc (.cells #[.slice a.P a.zs.length a.cap, .bool a.u, .slice a.D a.ds.length a.dcap] 26)).drew) := ((Below.refl _ _).alloc (Nat.le_refl _) _).drew
    have HBA := hide (HB.out.trans (hbA.mono HB.out.size))
    have RRA : Hid (Row ((q0.alloc (.cells #[.slice a.P a.zs.length a.cap, .bool a.u, .slice a.D a.ds.length a.dcap] 26)).drew) (some ⟨q0.heap.size, 0, none⟩) ([a].flatMap Ten.vals)) := hide ((Has.new q0 26 [.slice a.P a.zs.length a.cap, .bool a.u, .slice a.D a.ds.length a.dcap]).drew1.row)
    have INA := hide (IN.out.below hbA IN.out.lt)
    clear hbA
    go_region_law (first
      | (go_simp; go_at_call 18; refine (VC.out _ _ HBA.out RRA.out).mono ?_; rintro e q2 ⟨rfl, hb⟩; have HB2 := hide (HBA.out.trans (hb.mono HBA.out.size)); have IN2 := hide (INA.out.below hb INA.out.lt); clear hb)
      | (go_simp; go_at_call 19; refine (VE.out _ (some ⟨w3.heap.size, 0, none⟩) HB2.out (IN2.out.row_app (xs := [.slice a.P a.zs.length a.cap, .bool a.u, .slice a.D a.ds.length a.dcap]) (ys := [.slice b.P b.zs.length b.cap, .bool b.u, .slice b.D b.ds.length b.dcap]))).mono ?_; rintro e q3 ⟨rfl, hb⟩; have HB3 := hide (HB2.out.trans (hb.mono HB2.out.size)); clear hb))
    all_goals go_ways
    all_goals
      go_wp2_with fail
      go_ret
      exact ⟨rfl, HB3.out⟩
  have h20 := hk
  clear hk
  have f1 : (op == (16 : Int)) = false := by simp; exact h16
  have f2 : (op == (17 : Int)) = false := by simp; exact h17
  have f3 : (op == (19 : Int)) = false := by simp; exact h19
  have f4 : (op == (20 : Int)) = false := by simp; exact h20
  have VC := hide (fun W (B : Option Addr) (hb : Below w.heap.size w W) (hr : Row W B ([a, b].flatMap Ten.vals)) => scell_none op (fun h => by rcases h with h | h | h | h; exact h16 h; exact h17 h; exact h19 h; exact h20 h) [a, b] i B 2 ah am ar ak W hr (mem_two (IA.out W hb) (IB.out W hb)) (by simp) (HE.out W hb))
  clear h16 h17 h19 h20
  have c_BA0 := BA.out.cell 0
  have c_BA1 := BA.out.cell 1
  have c_BA2 := BA.out.cell 2
  have l_BA := BA.out.lt
  have c_BB0 := BB.out.cell 0
  have c_BB1 := BB.out.cell 1
  have c_BB2 := BB.out.cell 2
  have l_BB := BB.out.lt
  obtain ⟨q1, hq1⟩ : ∃ W, W = q0.alloc (.cells #[.slice a.P a.zs.length a.cap, .bool a.u, .slice a.D a.ds.length a.dcap, .slice b.P b.zs.length b.cap, .bool b.u, .slice b.D b.ds.length b.dcap] 26) := ⟨_, rfl⟩
  have hbA : Below q0.heap.size q0 q1 := by rw [hq1]; exact (Below.refl _ _).alloc (Nat.le_refl _) _
  have RC : Hid (Has q1 q0.heap.size 26 [.slice a.P a.zs.length a.cap, .bool a.u, .slice a.D a.ds.length a.dcap, .slice b.P b.zs.length b.cap, .bool b.u, .slice b.D b.ds.length b.dcap]) := hide (by rw [hq1]; exact Has.new _ _ _)
  replace HB := hide (HB.out.trans (hbA.mono HB.out.size))
  replace BA := hide (BA.out.below hbA BA.out.lt)
  replace BB := hide (BB.out.below hbA BB.out.lt)
  replace IN := hide (IN.out.below hbA IN.out.lt)
  have Hq1 := hide hq1
  clear hq1 hbA
  go_wp2_with fail
  rw [← Hq1.out]
  clear Hq1 c_BA0 c_BA1 c_BA2 l_BA c_BB0 c_BB1 c_BB2 l_BB
  refine (VC.out _ _ HB.out RC.out.row).mono ?_
  rintro e q2 ⟨rfl, hb⟩
  replace HB := hide (HB.out.trans (hb.mono HB.out.size))
  replace BA := hide (BA.out.below hb BA.out.lt)
  replace BB := hide (BB.out.below hb BB.out.lt)
  replace IN := hide (IN.out.below hb IN.out.lt)
  replace RC := hide (RC.out.below hb RC.out.lt)
  clear hb
  go_wp2_with fail
  go_ret
  exact ⟨rfl, HB.out⟩
end Go.Proofs.YtgdcfjmpjhlndaaGreatDoor
