/-
  What the law TensBytes asks for: each side's answer in one form. What the law TensBytes' walk holds in memory, and what each call says. By an AI agent. No person has read it.
-/
import Derived.Test.YtnbjcdmiehnceaaDoorTenRp
import Derived.Test.YtnbjcdmiehnceaaDoorTenBack0
import Derived.Test.YtnbjcdmiehnceaaDoorTenJ
namespace Go.Proofs.YtnbjcdmiehnceaaDoor
open Go.RowKit

/-- An error that is told by a number: 0 is none. -/
def ErrK (es : List Addr) (k : Nat) (ev : Value) : Prop := (k = 0 ∧ ev = .nilIface) ∨ ∃ (j : Nat) (a : Addr), es[j]? = some a ∧ ev = errv a ∧ k = 101 + j
theorem is_k (es : List Addr) (k : Nat) (ev : Value) (w : World) (h : ErrK es k ev) (hZ : Ez w es) :
    Calls Tryd.prog 17 #[ev, .int .i64 (k : Int)] w fun e w' => e = .returned (.bool true) ∧ Below w.heap.size w w' := by
  rcases h with ⟨rfl, rfl⟩ | ⟨j, a, hj, rfl, rfl⟩
  · exact (is_nil 0 w).mono fun e w' h => h
  · refine (is_c es j a hj ((101 + j : Nat) : Int) w hZ).mono fun e w' h => ?_
    rw [show decide (101 + (j : Int) = ((101 + j : Nat) : Int)) = true by rw [decide_eq_true_iff]; omega] at h
    exact h
theorem Tens.nums_wf (u : Bool) (bs : List Nat) (hb : ∀ b ∈ bs, b < 256) : ∀ z ∈ Tens.nums u bs, (Lit.int .i64 z).wf = true := by
  intro z hz
  unfold Tens.nums at hz
  split at hz
  · obtain ⟨i, _, rfl⟩ := List.mem_map.1 hz
    exact wf_i64 _ (by unfold Tens.wide; omega)
  · obtain ⟨b, h, rfl⟩ := List.mem_map.1 hz
    have := num1_bounds b (hb b h)
    exact wf_i64 _ (by omega)
theorem Tens.nums_le (u : Bool) (bs : List Nat) : (Tens.nums u bs).length ≤ bs.length := by
  rw [Tens.nums_length]
  split <;> omega
/-- A tensor that came back, and its row in memory. -/
structure TIs (W : World) (Q D : Option Addr) (a : List Int) (b : List Int) : Prop where
  shp : Ri W Q a
  dat : Ri W D b
  la : a.length ≤ 1000000
  lb : b.length ≤ 1000000
theorem TIs.below {w W : World} {Q D : Option Addr} {a b : List Int} (h : TIs w Q D a b) (hb : Below w.heap.size w W) : TIs W Q D a b := ⟨h.shp.below hb, h.dat.below hb, h.la, h.lb⟩
theorem TIs.none (W : World) : TIs W none none [] [] := ⟨Ri.nil _ _, Ri.nil _ _, by simp, by simp⟩
/-- What OfRaw says: the shape, the kind, the numbers. -/
def Tens.ofz (zs : List Int) (u : Bool) (bs : List Nat) : List Int := if Tens.ofcode zs u bs = 0 then zs else []
def Tens.ofu (zs : List Int) (u : Bool) (bs : List Nat) : Bool := if Tens.ofcode zs u bs = 0 then u else false
def Tens.ofd (zs : List Int) (u : Bool) (bs : List Nat) : List Int := if Tens.ofcode zs u bs = 0 then Tens.nums u bs else []
/-- What Read says. -/
def Tens.rez (bs : List Nat) : List Int := if Tens.rcode bs = 0 then Tens.rdims bs else []
def Tens.reu (bs : List Nat) : Bool := if Tens.rcode bs = 0 then Tens.ru bs else false
def Tens.red (bs : List Nat) : List Int := if Tens.rcode bs = 0 then Tens.nums (Tens.ru bs) ((bs.take (Tens.rn bs + Tens.rs bs)).drop (Tens.rn bs)) else []
def Tens.ren (bs : List Nat) : Nat := if Tens.rcode bs = 0 then Tens.rn bs + Tens.rs bs else 0
theorem tof_u (es : List Addr) (ah am ar ae ak : Addr) (hes : TErrs es ah am ar ae ak) (zs : List Int) (bs : List Nat) (P A : Option Addr) (cap bcap : Nat) (u : Bool) (w : World) (hr : Ri w P zs) (hb : Rb w A bs) (hl : zs.length ≤ 1000000) (hbl : bs.length ≤ 1000000) (hbc : bs.length ≤ bcap) (hZ : Ez w es) :
    Calls Tryd.prog 55 #[.agg (dcells P zs.length cap u), .slice A bs.length bcap] w fun e w' =>
      (∃ Q k D l ev, e = .returned (.tuple #[.agg (tcells Q (Tens.ofz zs u bs).length k (Tens.ofu zs u bs) D (Tens.ofd zs u bs).length l), ev]) ∧ TIs w' Q D (Tens.ofz zs u bs) (Tens.ofd zs u bs) ∧ ErrK es (Tens.ofcode zs u bs) ev) ∧ Below w.heap.size w w' := by
  have hk := Shp.code_is zs
  have hnw := Tens.nums_wf u bs hb.1
  have hnl := Tens.nums_le u bs
  refine (tof_c zs bs P A cap bcap u am ar ae w hr hb hl hbl hbc (hes.e3 hZ).2 (hes.end_ hZ)).mono ?_
  rintro e w' ⟨h1, h2, h3, h4, hB⟩
  refine ⟨?_, hB⟩
  by_cases hc : Shp.code zs = 0
  · rcases Int.lt_trichotomy (bs.length : Int) (Shp.size zs u) with hs | hs | hs
    · have hcode : Tens.ofcode zs u bs = 105 := by unfold Tens.ofcode; rw [if_neg (by omega), if_pos hs]
      unfold Tens.ofz Tens.ofu Tens.ofd
      rw [hcode]
      exact ⟨none, 0, none, 0, _, h2 hc hs, TIs.none _, .inr ⟨4, ae, hes.2.2.2.1, rfl, rfl⟩⟩
    · have hcode : Tens.ofcode zs u bs = 0 := by unfold Tens.ofcode; rw [if_neg (by omega), if_neg (by omega), if_neg (by omega)]
      obtain ⟨g, c, rest, gd, rfl, hg, hgd⟩ := h1 hc hs
      unfold Tens.ofz Tens.ofu Tens.ofd
      rw [hcode]
      exact ⟨_, _, _, _, _, rfl, ⟨hg.ri_app hr.1, hgd.ri hnw, hl, Nat.le_trans hnl hbl⟩, .inl ⟨rfl, rfl⟩⟩
    · have hcode : Tens.ofcode zs u bs = 104 := by unfold Tens.ofcode; rw [if_neg (by omega), if_neg (by omega), if_pos hs]
      unfold Tens.ofz Tens.ofu Tens.ofd
      rw [hcode]
      exact ⟨none, 0, none, 0, _, h3 hc hs, TIs.none _, .inr ⟨3, am, hes.2.1, rfl, rfl⟩⟩
  · have hcode : Tens.ofcode zs u bs = Shp.code zs := by unfold Tens.ofcode; rw [if_pos hc]
    have h5 := h4 hc
    unfold Tens.ofz Tens.ofu Tens.ofd
    rw [hcode]
    rcases hk with hk | hk | hk
    · rw [hk] at h5 ⊢
      exact ⟨none, 0, none, 0, _, h5, TIs.none _, .inr ⟨3, am, hes.2.1, rfl, rfl⟩⟩
    · rw [hk] at h5 ⊢
      exact ⟨none, 0, none, 0, _, h5, TIs.none _, .inr ⟨1, ar, hes.2.2.1, rfl, rfl⟩⟩
    · exact absurd hk hc
theorem rof_u (zs : List Int) (bs : List Nat) (P A : Option Addr) (cap bcap : Nat) (u : Bool) (w : World) (hr : Ri w P zs) (hb : Rb w A bs) (hl : zs.length ≤ 1000000) (hbl : bs.length ≤ 1000000) (hbc : bs.length ≤ bcap) :
    Calls Tryd.prog 56 #[.agg (dcells P zs.length cap u), .slice A bs.length bcap] w fun e w' =>
      (∃ Q k D l, e = .returned (.tuple #[.agg (tcells Q (Tens.ofz zs u bs).length k (Tens.ofu zs u bs) D (Tens.ofd zs u bs).length l), .int .i64 (Tens.ofcode zs u bs : Nat)]) ∧ TIs w' Q D (Tens.ofz zs u bs) (Tens.ofd zs u bs)) ∧ Below w.heap.size w w' := by
  have hnw := Tens.nums_wf u bs hb.1
  have hnl := Tens.nums_le u bs
  refine (rof_c zs bs P A cap bcap u w hr hb hl hbl hbc).mono ?_
  rintro e w' ⟨h1, h2, hB⟩
  refine ⟨?_, hB⟩
  unfold Tens.ofz Tens.ofu Tens.ofd
  by_cases hc : Tens.ofcode zs u bs = 0
  · obtain ⟨g, c, rest, gd, rfl, hg, hgd⟩ := h1 hc
    rw [hc]
    exact ⟨_, _, _, _, rfl, hg.ri_app hr.1, hgd.ri hnw, hl, Nat.le_trans hnl hbl⟩
  · rw [if_neg hc, if_neg hc, if_neg hc]
    exact ⟨none, 0, none, 0, h2 hc, TIs.none _⟩
theorem Tens.rdims_wf (bs : List Nat) (hb : ∀ b ∈ bs, b < 256) : (∀ z ∈ Tens.rdims bs, (Lit.int .i64 z).wf = true) ∧ (Tens.rdims bs).length ≤ 1000000 := by
  match bs, hb with
  | [], _ => exact ⟨fun z hz => by simp [Tens.rdims] at hz, by simp [Tens.rdims]⟩
  | h :: t, hb =>
    refine ⟨Pk.dims_wf (h % 8) (h :: t) hb, ?_⟩
    show (Pk.dims (h % 8) (h :: t)).length ≤ 1000000
    rw [Pk.dims_length]
    omega
theorem Tens.rcode_is (bs : List Nat) : Tens.rcode bs = 0 ∨ Tens.rcode bs = 102 ∨ Tens.rcode bs = 103 ∨ Tens.rcode bs = 104 ∨ Tens.rcode bs = 105 := by
  have hk := Shp.code_is (Tens.rdims bs)
  have hp : Pk.code bs = 0 ∨ Pk.code bs = 103 ∨ Pk.code bs = 105 := by
    match bs with
    | [] => exact .inr (.inr rfl)
    | h :: t =>
      have e : Pk.code (h :: t) = if 15 < h then 103 else if t.length < 2 * (h % 8) then 105 else 0 := rfl
      rw [e]
      by_cases a : 15 < h <;> by_cases b : t.length < 2 * (h % 8) <;> simp [a, b]
  unfold Tens.rcode
  split
  · omega
  · split
    · omega
    · split
      · exact .inr (.inr (.inr (.inr rfl)))
      · exact .inl rfl
theorem tread_u (es : List Addr) (ah am ar ae ak : Addr) (hes : TErrs es ah am ar ae ak) (bs : List Nat) (A : Option Addr) (cap : Nat) (w : World) (hB : Rb w A bs) (hc : bs.length ≤ cap) (hl : bs.length ≤ 1000000) (hZ : Ez w es) :
    Calls Tryd.prog 57 #[.slice A bs.length cap] w fun e w' =>
      (∃ Q k D l ev, e = .returned (.tuple #[.agg (tcells Q (Tens.rez bs).length k (Tens.reu bs) D (Tens.red bs).length l), .int .i64 (Tens.ren bs : Nat), ev]) ∧ TIs w' Q D (Tens.rez bs) (Tens.red bs) ∧ ErrK es (Tens.rcode bs) ev) ∧ Below w.heap.size w w' := by
  have hdw := Tens.rdims_wf bs hB.1
  have hcut : ∀ b ∈ (bs.take (Tens.rn bs + Tens.rs bs)).drop (Tens.rn bs), b < 256 := fun b hb => hB.1 b (List.mem_of_mem_take (List.mem_of_mem_drop hb))
  have hnw := Tens.nums_wf (Tens.ru bs) _ hcut
  have hnl : (Tens.nums (Tens.ru bs) ((bs.take (Tens.rn bs + Tens.rs bs)).drop (Tens.rn bs))).length ≤ 1000000 := by
    refine Nat.le_trans (Tens.nums_le _ _) ?_
    rw [List.length_drop, List.length_take]
    omega
  have hks := Tens.rcode_is bs
  refine (tread_c bs A cap am ar ae ak w hB hc hl (hes.e3 hZ).2 (hes.end_ hZ) (hes.kind hZ)).mono ?_
  rintro e w' ⟨h1, h2, hb⟩
  refine ⟨?_, hb⟩
  unfold Tens.rez Tens.reu Tens.red Tens.ren
  by_cases hk : Tens.rcode bs = 0
  · obtain ⟨g, c, rest, gd, ns, rfl, rfl, hg, hgd⟩ := h1 hk
    rw [hk]
    exact ⟨_, _, _, _, _, rfl, ⟨hg.ri_app hdw.1, hgd.ri hnw, hdw.2, hnl⟩, .inl ⟨rfl, rfl⟩⟩
  · have h3 := h2 hk
    rw [if_neg hk, if_neg hk, if_neg hk, if_neg hk]
    refine ⟨none, 0, none, 0, _, h3, TIs.none _, .inr ?_⟩
    rcases hks with h | h | h | h | h
    · exact absurd h hk
    · exact ⟨1, ar, hes.2.2.1, by rw [h]; rfl, h⟩
    · exact ⟨2, ak, hes.2.2.2.2, by rw [h]; rfl, h⟩
    · exact ⟨3, am, hes.2.1, by rw [h]; rfl, h⟩
    · exact ⟨4, ae, hes.2.2.2.1, by rw [h]; rfl, h⟩
theorem rread_u (bs : List Nat) (A : Option Addr) (cap : Nat) (w : World) (hB : Rb w A bs) (hc : bs.length ≤ cap) (hl : bs.length ≤ 1000000) :
    Calls Tryd.prog 58 #[.slice A bs.length cap] w fun e w' =>
      (∃ Q k D l, e = .returned (.tuple #[.agg (tcells Q (Tens.rez bs).length k (Tens.reu bs) D (Tens.red bs).length l), .int .i64 (Tens.ren bs : Nat), .int .i64 (Tens.rcode bs : Nat)]) ∧ TIs w' Q D (Tens.rez bs) (Tens.red bs)) ∧ Below w.heap.size w w' := by
  have hdw := Tens.rdims_wf bs hB.1
  have hcut : ∀ b ∈ (bs.take (Tens.rn bs + Tens.rs bs)).drop (Tens.rn bs), b < 256 := fun b hb => hB.1 b (List.mem_of_mem_take (List.mem_of_mem_drop hb))
  have hnw := Tens.nums_wf (Tens.ru bs) _ hcut
  have hnl : (Tens.nums (Tens.ru bs) ((bs.take (Tens.rn bs + Tens.rs bs)).drop (Tens.rn bs))).length ≤ 1000000 := by
    refine Nat.le_trans (Tens.nums_le _ _) ?_
    rw [List.length_drop, List.length_take]
    omega
  refine (rread_c bs A cap w hB hl hc).mono ?_
  rintro e w' ⟨h1, h2, hb⟩
  refine ⟨?_, hb⟩
  unfold Tens.rez Tens.reu Tens.red Tens.ren
  by_cases hk : Tens.rcode bs = 0
  · obtain ⟨g, c, rest, gd, ns, rfl, rfl, hg, hgd⟩ := h1 hk
    rw [hk]
    exact ⟨_, _, _, _, rfl, hg.ri_app hdw.1, hgd.ri hnw, hdw.2, hnl⟩
  · rw [if_neg hk, if_neg hk, if_neg hk, if_neg hk]
    exact ⟨none, 0, none, 0, h2 hk, TIs.none _⟩
/-- Blocks, rows of ints, rows of bytes that are known. -/
structure Mem (W : World) (bl : List (Nat × TypeId × List Value)) (ris : List (Option Addr × List Int)) (rbs : List (Option Addr × List Nat)) : Prop where
  has : ∀ (i : Nat) x, bl[i]? = some x → Has W x.1 x.2.1 x.2.2
  ri : ∀ (i : Nat) x, ris[i]? = some x → Ri W x.1 x.2
  rb : ∀ (i : Nat) x, rbs[i]? = some x → Rb W x.1 x.2
theorem Mem.below {W W' : World} {bl : List (Nat × TypeId × List Value)} {ris : List (Option Addr × List Int)} {rbs : List (Option Addr × List Nat)} (h : Mem W bl ris rbs) (hb : Below W.heap.size W W') : Mem W' bl ris rbs :=
  ⟨fun i x hx => (h.has i x hx).below hb (h.has i x hx).lt, fun i x hx => (h.ri i x hx).below hb, fun i x hx => (h.rb i x hx).below hb⟩
theorem Mem.alloc {W : World} {bl : List (Nat × TypeId × List Value)} {ris : List (Option Addr × List Int)} {rbs : List (Option Addr × List Nat)} (h : Mem W bl ris rbs) (c : Array Value) (t : TypeId) :
    Mem (W.alloc (Obj.cells c t)) ((W.heap.size, t, c.toList) :: bl) ris rbs := by
  have k := h.below ((Below.refl W.heap.size W).alloc (Nat.le_refl _) (Obj.cells c t))
  refine ⟨fun i x hx => ?_, k.ri, k.rb⟩
  cases i with
  | zero =>
    cases hx
    exact Has.new W t c.toList
  | succ i => exact k.has i x hx
theorem Mem.addi {W : World} {bl : List (Nat × TypeId × List Value)} {ris : List (Option Addr × List Int)} {rbs : List (Option Addr × List Nat)} {P : Option Addr} {zs : List Int} (h : Mem W bl ris rbs) (hr : Ri W P zs) : Mem W bl ((P, zs) :: ris) rbs := by
  refine ⟨h.has, fun i x hx => ?_, h.rb⟩
  cases i with
  | zero => cases hx; exact hr
  | succ i => exact h.ri i x hx
theorem Mem.addb {W : World} {bl : List (Nat × TypeId × List Value)} {ris : List (Option Addr × List Int)} {rbs : List (Option Addr × List Nat)} {P : Option Addr} {bs : List Nat} (h : Mem W bl ris rbs) (hr : Rb W P bs) : Mem W bl ris ((P, bs) :: rbs) := by
  refine ⟨h.has, h.ri, fun i x hx => ?_⟩
  cases i with
  | zero => cases hx; exact hr
  | succ i => exact h.rb i x hx
set_option maxRecDepth 100000 in
set_option maxHeartbeats 4000000 in
/-- lodgeref3.Good. -/
theorem good_c (zs ds : List Int) (P D : Option Addr) (cap dcap : Nat) (u : Bool) (w : World) (hr : Ri w P zs) (hd : Ri w D ds) (hm : zs.length ≤ 1000000) (hdm : ds.length ≤ 1000000) :
    Calls Tryd.prog 52 #[.agg (tcells P zs.length cap u D ds.length dcap)] w fun e w' => e = .returned (.bool (decide (Tens.fault zs u ds = (0, none)))) ∧ Below w.heap.size w w' := by
  have hb1 := (Below.refl _ w).alloc (Nat.le_refl _) (Obj.cells (tcells P zs.length cap u D ds.length dcap) 53)
  have hrow := tens_row w P zs.length cap u D ds.length dcap
  have HV := hide (rvalid_c zs ds P D cap dcap u _ (hr.below hb1) (hd.below hb1) hm hdm)
  have hcs := Tens.fault_cases zs u ds
  have hex : ∃ (k : Nat) (b : Bool) (i : Int), Tens.fval (Tens.fault zs u ds) = #[.int .i64 (k : Int), .bool b, .int .i64 i] ∧ decide (Tens.fault zs u ds = (0, none)) = decide (k = 0) := by
    rcases hcs with h | h | h | h | ⟨i, h⟩ <;> rw [h]
    · exact ⟨0, false, 0, rfl, by decide⟩
    · exact ⟨101, false, 0, rfl, by decide⟩
    · exact ⟨102, false, 0, rfl, by decide⟩
    · exact ⟨104, false, 0, rfl, by decide⟩
    · exact ⟨102, true, i, rfl, by simp⟩
  obtain ⟨k, b, i, h1, h2⟩ := hex
  rw [h1] at HV
  rw [h2]
  obtain ⟨n, hn⟩ : ∃ n, Hid (zs.length = n) := ⟨_, hide rfl⟩
  obtain ⟨m, hmm⟩ : ∃ m, Hid (ds.length = m) := ⟨_, hide rfl⟩
  rw [hn.out, hmm.out] at HV hb1 hrow ⊢
  have c0 : (w.alloc (Obj.cells (tcells P n cap u D m dcap) 53)).cell? ⟨w.heap.size, 0, none⟩ = some (.slice P n cap) := by rw [hrow.cell]; rfl
  have c1 : (w.alloc (Obj.cells (tcells P n cap u D m dcap) 53)).cell? ⟨w.heap.size, 1, none⟩ = some (.bool u) := by rw [hrow.cell]; rfl
  have c2 : (w.alloc (Obj.cells (tcells P n cap u D m dcap) 53)).cell? ⟨w.heap.size, 2, none⟩ = some (.slice D m dcap) := by rw [hrow.cell]; rfl
  have HB := hide hb1
  have hk : ((k : Int) == 0) = decide (k = 0) := by
    rw [show ((k : Int) == 0) = decide ((k : Int) = 0) from rfl]
    exact decide_eq_decide.2 (by omega)
  have hfd : ∀ W : World, (Instr.field 57 (.agg #[.int .i64 (k : Int), .bool b, .int .i64 i]) 0).run Tryd.prog W = .ok (.int .i64 (k : Int)) W := fun _ => by kernel_rfl
  clear hr hd hb1 hrow hcs h1 h2 hm hdm hn hmm
  go_enter Tryd.func52, Tryd.ntmps52
  go_wp2_with fail
  refine HV.out.mono ?_
  rintro e w1 ⟨rfl, hb⟩
  have HB2 := hide (HB.out.trans (hb.mono HB.out.size))
  clear hb HB
  go_wp2_with fail
  go_ret
  exact ⟨by first | rfl | (rw [← hk]; rfl) | simp, HB2.out⟩
end Go.Proofs.YtnbjcdmiehnceaaDoor
