/-
  The operations of package soft that are lawful; cells.Of, cells.All, cells.One of them. By an AI agent. No person has read it.
-/
import Derived.Test.YtcgjnjchkachdaaDoorSftI
namespace Go.Proofs.YtcgjnjchkachdaaDoor
open Go.RowKit

theorem Sf.zero {op : Int} {ts : List Ten} (h : Cel.fault ts (Sf.code op (ts.map Ten.look)) = (0, none)) :
    (∀ t ∈ ts, t.fault = (0, none)) ∧ ts.length = Sf.nins op ∧ ∃ x, Sf.lk op (ts.map Ten.look) = some x ∧ Shp.code x.1 = 0 ∧ Sf.shape op (ts.map Ten.look) = x.1 ∧ Sf.kind op (ts.map Ten.look) = x.2 := by
  obtain ⟨h1, h2⟩ := Cel.fine h
  refine ⟨Tens.first_fine _ h1, ?_⟩
  have hc := h2
  unfold Sf.code at h2
  split at h2
  · cases h2
  rename_i h3
  split at h2
  · rename_i h4
    exact absurd h2 h4
  cases hx : Sf.lk op (ts.map Ten.look) with
  | none => rw [hx] at h2; cases h2
  | some x =>
    rw [hx] at h2
    refine ⟨by rw [List.length_map] at h3; omega, x, rfl, h2, ?_, ?_⟩
    · unfold Sf.shape
      rw [if_pos hc, hx]
      rfl
    · unfold Sf.kind
      rw [if_pos hc, hx]
      rfl
theorem Sf.fine_row (op : Int) (hop : op = 19 ∨ op = 20) (a : Ten) (hd : a.ds.length ≤ a.dcap) (h : Cel.fault [a] (Sf.code op ([a].map Ten.look)) = (0, none)) : Sf.Fine op [a] ∧ 0 < a.zs.length ∧ Sf.shape op ([a].map Ten.look) = a.zs.dropLast ∧ Sf.kind op ([a].map Ten.look) = true ∧ Sf.size op [a] = (Shp.prod a.zs.dropLast).toNat := by
  obtain ⟨hf, -, x, hlk, hcx, hs, hk⟩ := Sf.zero h
  have hfa := hf a (by simp)
  have hlk' : (if 0 < a.zs.length then some (a.zs.dropLast, true) else none) = some x := hlk
  split at hlk'
  · rename_i hz
    obtain rfl := Option.some.inj hlk'
    obtain ⟨hR, hp1, -⟩ := Sf.rows_of hfa hz hd
    have hsz : Sf.size op [a] = (Shp.prod a.zs.dropLast).toNat := by unfold Sf.size; rw [hs]
    have hm : (Shp.prod a.zs.dropLast).toNat ≤ 16384 := by
      have := Nat.le_mul_of_pos_right (Shp.prod a.zs.dropLast).toNat hR.n1
      have := hR.len
      have := hR.big
      omega
    have hwd : ∀ z ∈ a.ds, -2147483648 ≤ z ∧ z ≤ 2147483647 := fun z hz => Sf.fits_wide ((Tens.whole hfa).2.2 z hz)
    refine ⟨⟨by rw [hs]; exact hcx, fun i hi => ?_, ?_⟩, hz, hs, hk, hsz⟩
    · rcases hop with rfl | rfl
      · have := Sf.amax_le a.ds (Sf.last a) i ⟨hR.n1, hR.n2⟩
        show _ ≤ Sf.amax a.ds (Sf.last a) i ∧ Sf.amax a.ds (Sf.last a) i ≤ _
        omega
      · show _ ≤ Tens.wide _ ∧ Tens.wide _ ≤ _
        unfold Tens.wide
        omega
    · rw [hsz]
      intro os A B nq qcap bcap ocap f g w0 w hRw hI hB hg hG hf
      rcases hop with rfl | rfl
      · exact fill_amax (fun w' => Has w' g 3 (i64s (Sf.part (Sf.el 19 [a]) f os.length)) ∧ Below w0.heap.size w0 w') a A B nq qcap bcap ocap f os.length _ w hRw (sargmax_c os a a.zs.length _ (Sf.last a) ocap f g w0 w hR (hI a (by simp)) hB hg hG hf (by omega))
      · exact fill_sum (fun w' => Has w' g 3 (i64s (Sf.part (Sf.el 20 [a]) f os.length)) ∧ Below w0.heap.size w0 w') a A B nq qcap bcap ocap f os.length _ w hRw (ssum_c os a a.zs.length _ (Sf.last a) ocap f g w0 w hR (hI a (by simp)) hwd hB hg hG hf (by omega))
  · cases hlk'
theorem Sf.fine_soft (a b : Ten) (hd : a.ds.length ≤ a.dcap) (h : Cel.fault [a, b] (Sf.code 16 ([a, b].map Ten.look)) = (0, none)) : Sf.Fine 16 [a, b] ∧ 0 < a.zs.length ∧ a.u = false ∧ b.zs = [256] ∧ b.u = true ∧ Sf.shape 16 ([a, b].map Ten.look) = a.zs ∧ Sf.kind 16 ([a, b].map Ten.look) = false ∧ Sf.size 16 [a, b] = a.ds.length := by
  obtain ⟨hf, -, x, hlk, hcx, hs, hk⟩ := Sf.zero h
  have hfa := hf a (by simp)
  have hfb := hf b (by simp)
  have hlk' : (if a.u = false ∧ 0 < a.zs.length ∧ b.zs = [256] ∧ b.u = true then some (a.zs, false) else none) = some x := hlk
  split at hlk'
  · rename_i hz
    obtain ⟨hz1, hz2, hz3, hz4⟩ := hz
    obtain rfl := Option.some.inj hlk'
    obtain ⟨hR, hp1, -⟩ := Sf.rows_of hfa hz2 hd
    have hla := (Tens.whole hfa).2.1
    have hlb := (Tens.whole hfb).2.1
    rw [hz3] at hlb
    have hlb : b.ds.length = 256 := by have h2 : (b.ds.length : Int) = 256 := hlb; omega
    have hsz : Sf.size 16 [a, b] = a.ds.length := by unfold Sf.size; rw [hs]; show (Shp.prod a.zs).toNat = _; omega
    have hna : ∀ z ∈ a.ds, -128 ≤ z ∧ z ≤ 127 := fun z hz => by
      have h2 := (Tens.whole hfa).2.2 z hz
      rw [hz1] at h2
      unfold Tens.fit at h2
      simp at h2
      exact h2
    have hwb : ∀ z ∈ b.ds, -2147483648 ≤ z ∧ z ≤ 2147483647 := fun z hz => Sf.fits_wide ((Tens.whole hfb).2.2 z hz)
    have hbig := hR.big
    refine ⟨⟨by rw [hs]; exact hcx, fun i hi => ?_, ?_⟩, hz2, hz1, hz3, hz4, hs, hk, hsz⟩
    · have := Sf.of_le (Sf.all_le hwb (Sf.row a.ds (Sf.last a) (i / Sf.last a)) (Sf.last a) (Sf.last a) hR.n2) (Sf.wt_le hwb (Sf.by_ (Sf.row a.ds (Sf.last a) (i / Sf.last a)) (Sf.last a) (i % Sf.last a)))
      show _ ≤ Sf.soft a.ds b.ds (Sf.last a) i ∧ Sf.soft a.ds b.ds (Sf.last a) i ≤ _
      unfold Sf.soft
      omega
    · rw [hsz, hR.len]
      intro os A B nq qcap bcap ocap f g w0 w hRw hI hB hg hG hf
      exact fill_soft (fun w' => Has w' g 3 (i64s (Sf.part (Sf.el 16 [a, b]) f os.length)) ∧ Below w0.heap.size w0 w') a b A B nq qcap bcap ocap f os.length _ w hRw (ssoft_c os a b a.zs.length _ (Sf.last a) ocap f g w0 w.drew hR hna (hI a (by simp)) (hI b (by simp)) hlb hwb hB.drew hg (hG.drewN 1) hf (by have := hR.len; omega))
  · cases hlk'
theorem Sf.fine_gath (a b : Ten) (hd : a.ds.length ≤ a.dcap) (h : Cel.fault [a, b] (Sf.code 17 ([a, b].map Ten.look)) = (0, none)) : Sf.Fine 17 [a, b] ∧ a.zs = [(Sf.dim0 a : Int), (Sf.last a : Int)] ∧ b.zs = [(b.ds.length : Int)] ∧ b.u = true ∧ Sf.shape 17 ([a, b].map Ten.look) = [(b.ds.length : Int), (Sf.last a : Int)] ∧ Sf.kind 17 ([a, b].map Ten.look) = a.u ∧ Sf.size 17 [a, b] = b.ds.length * Sf.last a := by
  obtain ⟨hf, -, x, hlk, hcx, hs, hk⟩ := Sf.zero h
  have hfa := hf a (by simp)
  have hfb := hf b (by simp)
  have hlk' : (if a.zs.length = 2 ∧ b.u = true ∧ b.zs.length = 1 then some ([b.zs.getD 0 0, a.zs.getD 1 0], a.u) else none) = some x := hlk
  split at hlk'
  · rename_i hz
    obtain ⟨hz1, hz2, hz3⟩ := hz
    obtain rfl := Option.some.inj hlk'
    obtain ⟨hR, hp1, -⟩ := Sf.rows_of hfa (by omega) hd
    obtain ⟨N, d, hzs⟩ : ∃ N d, a.zs = [N, d] := by
      match h : a.zs, hz1 with
      | [x, y], _ => exact ⟨x, y, rfl⟩
    obtain ⟨T, hzt⟩ : ∃ T, b.zs = [T] := by
      match h : b.zs, hz3 with
      | [x], _ => exact ⟨x, rfl⟩
    have hwa := Shp.whole (Tens.whole hfa).1
    have hwb := Shp.whole (Tens.whole hfb).1
    have hlb := (Tens.whole hfb).2.1
    have hN := hwa.2.1 N (by rw [hzs]; simp)
    have hdd := hwa.2.1 d (by rw [hzs]; simp)
    have hTT := hwb.2.1 T (by rw [hzt]; simp)
    have hl : (Sf.last a : Int) = d := by unfold Sf.last; rw [hzs]; show ((d.toNat : Nat) : Int) = d; omega
    have h0 : (Sf.dim0 a : Int) = N := by unfold Sf.dim0; rw [hzs]; show ((N.toNat : Nat) : Int) = N; omega
    have hb : (b.ds.length : Int) = T := by rw [hlb, hzt]; simp [Shp.prod]
    have hm : (Shp.prod a.zs.dropLast).toNat = Sf.dim0 a := by rw [hzs]; show (N * 1).toNat = _; omega
    rw [hz1, hm] at hR
    have hsh : Sf.shape 17 ([a, b].map Ten.look) = [(b.ds.length : Int), (Sf.last a : Int)] := by
      rw [hs, hzs, hzt, hb, hl]
      rfl
    have hsz : Sf.size 17 [a, b] = b.ds.length * Sf.last a := by
      unfold Sf.size
      rw [hsh]
      show ((b.ds.length : Int) * ((Sf.last a : Int) * 1)).toNat = _
      rw [Int.mul_one, ← Int.natCast_mul]
      exact Int.toNat_natCast _
    have hcd : Shp.code (Sf.shape 17 ([a, b].map Ten.look)) = 0 := by rw [hs]; exact hcx
    have hbig : b.ds.length * Sf.last a ≤ 16384 := by
      have h1 := Shp.whole hcd
      rw [← hsz]
      unfold Sf.size
      omega
    have hwd : ∀ z ∈ a.ds, -2147483648 ≤ z ∧ z ≤ 2147483647 := fun z hz => Sf.fits_wide ((Tens.whole hfa).2.2 z hz)
    refine ⟨⟨hcd, fun i hi => ?_, ?_⟩, by rw [h0, hl, hzs], by rw [hb, hzt], hz2, hsh, hk, hsz⟩
    · have := Sf.row_le (n := Sf.last a) (i := Sf.cut (b.ds.getD (i / Sf.last a) 0) (Sf.dim0 a)) hwd ⟨by decide, by decide⟩ (i % Sf.last a)
      show _ ≤ Sf.gath a.ds b.ds (Sf.dim0 a) (Sf.last a) i ∧ Sf.gath a.ds b.ds (Sf.dim0 a) (Sf.last a) i ≤ _
      unfold Sf.gath
      omega
    · rw [hsz]
      intro os A B nq qcap bcap ocap f g w0 w hRw hI hB hg hG hf
      exact fill_gath (fun w' => Has w' g 3 (i64s (Sf.part (Sf.el 17 [a, b]) f os.length)) ∧ Below w0.heap.size w0 w') a b A B nq qcap bcap ocap f os.length _ w hRw (sgather_c os a b (Sf.dim0 a) (Sf.last a) b.ds.length ocap f g w0 w.drew hR (by rw [h0, hzs]; rfl) (by omega) (by omega) (hI a (by simp)) (hI b (by simp)) rfl hB.drew hg (hG.drewN 1) hf (by omega))
  · cases hlk'
theorem Sf.fine {op : Int} (hop : Sf.isOp op) {ts : List Ten} (hd : ∀ t ∈ ts, t.ds.length ≤ t.dcap) (h : Cel.fault ts (Sf.code op (ts.map Ten.look)) = (0, none)) : Sf.Fine op ts := by
  obtain ⟨-, hn, -⟩ := Sf.zero h
  rcases hop with rfl | rfl | rfl | rfl
  · match ts, hn with
    | [a, b], _ => exact (Sf.fine_soft a b (hd a (by simp)) h).1
  · match ts, hn with
    | [a, b], _ => exact (Sf.fine_gath a b (hd a (by simp)) h).1
  · match ts, hn with
    | [a], _ => exact (Sf.fine_row 19 (.inl rfl) a (hd a (by simp)) h).1
  · match ts, hn with
    | [a], _ => exact (Sf.fine_row 20 (.inr rfl) a (hd a (by simp)) h).1
/-- cells.Of, from a place on, so many. -/
theorem sfof_c (op : Int) (ts : List Ten) (hf : Sf.Fine op ts) (A B : Option Addr) (nq qcap bcap f n : Nat) (w : World) (hR : Row w B (ts.flatMap Ten.vals)) (hI : ∀ t ∈ ts, t.In w) (hn : f + n ≤ Sf.size op ts) :
    Calls Tryd.prog 99 #[.int .i64 op, .slice A nq qcap, .int .i64 f, .int .i64 ((f + n : Nat) : Int), .slice B ts.length bcap] w fun e w' => (∃ g, e = .returned (.slice (some ⟨g, 0, none⟩) n n) ∧ w.heap.size ≤ g ∧ Has w' g 3 (i64s (Sf.part (Sf.el op ts) f n))) ∧ Below w.heap.size w w' := by
  have hsz := Sf.size_le hf
  refine of_any (Sf.part (Sf.el op ts) f n) op A B nq qcap ts.length bcap f n w (by omega) fun W g hB hg hG => ?_
  have h := hf.fill (List.replicate n 0) A B nq qcap bcap n f g w W (hR.below hB) hI hB hg hG (by rw [List.length_replicate]; exact hn)
  rw [List.length_replicate] at h
  exact h
/-- cells.All. -/
theorem sfall_c (op : Int) (ts : List Ten) (hf : Sf.Fine op ts) (P : Option Addr) (zs : List Int) (hzs : Sf.shape op (ts.map Ten.look) = zs) (cap : Nat) (u : Bool) (A B : Option Addr) (nq qcap bcap : Nat) (am ar : Addr) (w : World) (hr : Ri w P zs) (hE : E2 w am ar) (hR : Row w B (ts.flatMap Ten.vals)) (hI : ∀ t ∈ ts, t.In w) :
    Calls Tryd.prog 78 #[.agg (dcells P zs.length cap u), .int .i64 op, .slice A nq qcap, .slice B ts.length bcap] w fun e w' => (∃ g, e = .returned (.agg (tcells P zs.length cap u (some ⟨g, 0, none⟩) (Sf.ds op ts).length (Sf.ds op ts).length)) ∧ w.heap.size < g ∧ Has w' g 3 (i64s (Sf.ds op ts))) ∧ Below w.heap.size w w' := by
  have hsz := Sf.size_le hf
  have hcd := hf.cd
  rw [hzs] at hcd hsz
  refine all_c zs (Sf.ds op ts) P cap u op A B nq qcap ts.length bcap am ar w hr (by have := (Shp.whole hcd).1; omega) hE (by rw [Sf.ds_length]; exact hsz.2) fun W hB => ?_
  have h := sfof_c op ts hf A B nq qcap bcap 0 (Sf.size op ts) W (hR.below hB) (fun t ht => (hI t ht).below hB) (by omega)
  rw [Nat.zero_add] at h
  rw [Sf.ds_length]
  exact h
/-- An element, if there is one. -/
def Sf.cell (op : Int) (ts : List Ten) (i : Int) : Int := if Cel.fault ts (Sf.code op (ts.map Ten.look)) = (0, none) then (if 0 ≤ i then (Sf.ds op ts).getD i.toNat 0 else 0) else 0
/-- cells.One. -/
theorem sfone_c (op : Int) (ts : List Ten) (hf : Sf.Fine op ts) (P : Option Addr) (zs : List Int) (hzs : Sf.shape op (ts.map Ten.look) = zs) (cap : Nat) (u : Bool) (i : Int) (A B : Option Addr) (nq qcap bcap : Nat) (am ar : Addr) (w : World) (hr : Ri w P zs) (hE : E2 w am ar) (hR : Row w B (ts.flatMap Ten.vals)) (hI : ∀ t ∈ ts, t.In w) (hi : -9223372036854775808 ≤ i ∧ i ≤ 9223372036854775807) :
    Calls Tryd.prog 69 #[.agg (dcells P zs.length cap u), .int .i64 i, .int .i64 op, .slice A nq qcap, .slice B ts.length bcap] w fun e w' => e = .returned (.int .i64 (if 0 ≤ i then (Sf.ds op ts).getD i.toNat 0 else 0)) ∧ Below w.heap.size w w' := by
  have hsz := Sf.size_le hf
  have hcd := hf.cd
  rw [hzs] at hcd hsz
  refine one_any zs P cap u op i _ A B nq qcap ts.length bcap am ar w hr (by have := (Shp.whole hcd).1; omega) hE hi.2 hi.1 (fun h => ?_) (fun k W hk hlt hB => ?_)
  · by_cases h0 : 0 ≤ i
    · rw [if_pos h0, List.getD_eq_getElem?_getD, List.getElem?_eq_none (by rw [Sf.ds_length]; omega)]
      rfl
    · rw [if_neg h0]
  · have h := sfof_c op ts hf A B nq qcap bcap k 1 W (hR.below hB) (fun t ht => (hI t ht).below hB) (by omega)
    rw [Sf.part_one _ (Sf.size op ts) k (by omega)] at h
    rw [if_pos (by omega), hk, Int.toNat_natCast]
    exact h
end Go.Proofs.YtcgjnjchkachdaaDoor
