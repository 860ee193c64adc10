/-
  lodgeref3.ReadDesc, walked. By an AI agent. No person has read it.
-/
import Derived.Test.YtnbjcdmiehnceaaDoorTenRn
import Derived.Test.YtnbjcdmiehnceaaDoorTenRh
namespace Go.Proofs.YtnbjcdmiehnceaaDoor
open Go.RowKit

theorem or64 (x b : Nat) (hx : x < 256) (hb : b < 256) : bits .or .i64 (x : Int) ((b * 256 : Nat) : Int) = ((x + b * 256 : Nat) : Int) := by
  have h1 : x ||| b * 256 = x + b * 256 := pk_or_add x b 8 (by omega)
  show IntKind.i64.wrap ((BitVec.ofInt 64 (x : Int) ||| BitVec.ofInt 64 ((b * 256 : Nat) : Int)).toNat : Int) = _
  rw [BitVec.toNat_or, ofInt_u64 x (by omega), ofInt_u64 (b * 256) (by omega), h1, IntKind.wrap_i64]
  omega
theorem results_desc3 {fn : Func} {p u x : Tmp} (h : fn.results = #[.cell p 24, .tmp u, .tmp x]) (tmps : Array Value) (w : World) (g : Nat) (a b : Value)
    (hp : tmps.getD p undef = .pointer (some ⟨g, 0, none⟩)) (hg : Has w g 24 [a, b]) : (results fn tmps).run Tryd.prog w = .ok (.tuple #[.agg #[a, b], tmps.getD u undef, tmps.getD x undef]) w := by
  simp only [results, h]
  have h1 := run_loadVar_row (P := Tryd.prog) w g 24 24 #[a, b] (0, 0) _ hg Tryd.underlying24 rfl (by kernel_rfl)
  rw [Array.getD_eq_getD_getElem?] at hp
  simp [Result.andThen, hp, asAddr, h1]
theorem take_two (bs : List Nat) (p x0 x1 : Nat) (h0 : bs[p]? = some x0) (h1 : bs[p + 1]? = some x1) : (bs.take (p + 2)).drop p = [x0, x1] := by
  obtain ⟨l0, rfl⟩ := List.getElem?_eq_some_iff.1 h0
  obtain ⟨l1, rfl⟩ := List.getElem?_eq_some_iff.1 h1
  rw [List.drop_take, show p + 2 - p = 2 by omega, List.drop_eq_getElem_cons l0, List.drop_eq_getElem_cons l1]
  rfl
theorem Pk.dims_next (bs : List Nat) (i x0 x1 : Nat) (h0 : bs[1 + 2 * i]? = some x0) (h1 : bs[2 + 2 * i]? = some x1) : Pk.dims (i + 1) bs = Pk.dims i bs ++ [((x0 + x1 * 256 : Nat) : Int)] := by
  rw [Pk.dims_succ, take_two bs (1 + 2 * i) x0 x1 h0 (by rw [show 1 + 2 * i + 1 = 2 + 2 * i by omega]; exact h1), Pk.val_two]
theorem Pk.dims_wf (n : Nat) (bs : List Nat) (hb : ∀ b ∈ bs, b < 256) : ∀ z ∈ Pk.dims n bs, (Lit.int .i64 z).wf = true := by
  intro z hz
  obtain ⟨i, _, rfl⟩ := List.mem_map.1 hz
  have h := Pk.val_lt ((bs.take (1 + 2 * i + 2)).drop (1 + 2 * i)) (fun b hb' => hb b (List.mem_of_mem_take (List.mem_of_mem_drop hb'))) (by rw [List.length_drop, List.length_take]; omega)
  exact wf_i64 _ (by omega)
theorem own_ris {w : World} {base n : Nat} {v : Value} {zs : List Int} (h : w.ownsRow base 3 1 v n (i64s zs)) (hb : ∀ z ∈ zs, (Lit.int .i64 z).wf = true) : ∃ A c, v = .slice A n c ∧ Ri w A zs ∧ ∀ ad, A = some ad → base ≤ ad.block := by
  by_cases hv : v = .slice none 0 0
  · subst hv
    have hl : zs.length = n := by simpa using h.1
    rcases h.2 with ⟨-, rfl⟩ | ⟨g, cap, cur, e, -⟩
    · obtain rfl : zs = [] := List.length_eq_zero_iff.1 hl
      exact ⟨none, 0, rfl, Ri.nil _ _, fun ad e => by cases e⟩
    · cases e
  · obtain ⟨g, cap, rest, rfl, -, hg, -, -, hH⟩ := own_has h hv
    exact ⟨_, cap, rfl, hH.ri_app hb, fun ad e => by cases e; exact hg⟩
/-- The shape, while it is read. -/
structure RdI (w : World) (u : Bool) (i : Nat) (bs : List Nat) (W : World) (sv : Value) : Prop where
  low : Below w.heap.size w W
  des : Has W (w.heap.size + 1) 24 [sv, .bool u]
  res : Has W w.heap.size 24 [.slice none 0 0, .bool false]
  own : W.ownsRow (w.heap.size + 2) 3 1 sv i (i64s (Pk.dims i bs))
theorem RdI.next {w wr w' : World} {u : Bool} {i : Nat} {bs : List Nat} {sv v' : Value} {z : Int} {o : Obj} (h : RdI w u i bs wr sv) (h1 : w'.ownsRow (w.heap.size + 2) 3 1 v' (i + 1) (i64s (Pk.dims i bs) ++ i64s [z])) (h2 : ((wr.alloc o).drew).grownBy w' sv.ownBlock)
    (hz : Pk.dims (i + 1) bs = Pk.dims i bs ++ [z]) : ∃ A c, v' = .slice A (i + 1) c ∧ w'.cell? ⟨w.heap.size + 1, 0, none⟩ = some sv ∧ w'.frozen? ⟨w.heap.size + 1, 0, none⟩ = false ∧ RdI w u (i + 1) bs (w'.setCell ⟨w.heap.size + 1, 0, none⟩ v') v' := by
  have hl := h.own.lt
  have hs : ∀ k, sv.ownBlock = some k → w.heap.size + 2 ≤ k := fun k hk => (hl k hk).1
  have hd : Has w' (w.heap.size + 1) 24 [sv, .bool u] := ((h.des.alloc o).drewN 1).grown h2 (fun e => by have := hs _ e.symm; omega)
  have hr : Has w' w.heap.size 24 [.slice none 0 0, .bool false] := ((h.res.alloc o).drewN 1).grown h2 (fun e => by have := hs _ e.symm; omega)
  have hB : Below w.heap.size w w' := ((h.low.alloc h.low.size o).drew).grown h2 ((h.low.alloc h.low.size o).drew).size (fun k hk => by have := hs k hk; omega)
  have hl2 := h1.lt
  have e : i64s (Pk.dims (i + 1) bs) = i64s (Pk.dims i bs) ++ i64s [z] := by rw [hz]; simp [i64s]
  have hv : ∃ A c, v' = .slice A (i + 1) c := by
    rcases h1.2 with ⟨rfl, h⟩ | ⟨g, cap, cur, rfl, -⟩
    · omega
    · exact ⟨_, _, rfl⟩
  obtain ⟨A, c, rfl⟩ := hv
  refine ⟨A, c, rfl, by rw [hd.cell]; rfl, hd.frozen 0, hB.setCell (p := ⟨w.heap.size + 1, 0, none⟩) (Nat.le_succ _) _, hd.set_ 0 _, hr.far (p := ⟨w.heap.size + 1, 0, none⟩) (by simp) _, ?_⟩
  rw [e]
  refine h1.kept (grown_one w' ⟨w.heap.size + 1, 0, none⟩ _) (.inr fun hk => ?_)
  have h := (hl2 _ hk).1
  have h : w.heap.size + 2 ≤ w.heap.size + 1 := h
  omega
theorem RdI.done {w wr : World} {u : Bool} {i n c : Nat} {bs : List Nat} {A : Option Addr} {zs : List Int} (h : RdI w u i bs wr (.slice A n c)) (hr : Ri wr A zs) (hA : ∀ ad, A = some ad → w.heap.size + 2 ≤ ad.block) :
    Has ((wr.setCell ⟨w.heap.size, 0, none⟩ (.slice A n c)).setCell ⟨w.heap.size, 1, none⟩ (.bool u)) w.heap.size 24 [.slice A n c, .bool u] ∧ Ri ((wr.setCell ⟨w.heap.size, 0, none⟩ (.slice A n c)).setCell ⟨w.heap.size, 1, none⟩ (.bool u)) A zs ∧
    Below w.heap.size w ((wr.setCell ⟨w.heap.size, 0, none⟩ (.slice A n c)).setCell ⟨w.heap.size, 1, none⟩ (.bool u)) := by
  refine ⟨(h.res.set_ 0 _).set_ 1 _, ?_, (h.low.setCell (p := ⟨w.heap.size, 0, none⟩) (Nat.le_refl _) _).setCell (p := ⟨w.heap.size, 1, none⟩) (Nat.le_refl _) _⟩
  refine (hr.grown (grown_one wr ⟨w.heap.size, 0, none⟩ (.slice A n c)) ?_).grown (grown_one _ ⟨w.heap.size, 1, none⟩ (.bool u)) ?_
  all_goals
    intro ad e _ e2
    have e2 : ad.block = w.heap.size := Option.some.inj e2
    have := hA ad e
    omega
set_option maxRecDepth 100000 in
set_option maxHeartbeats 4000000 in
theorem rreaddesc_nil (A : Option Addr) (cap : Nat) (w : World) :
    Calls Tryd.prog 89 #[.slice A 0 cap] w fun e w' => e = .returned (.tuple #[.agg (dcells none 0 0 false), .int .i64 0, .int .i64 105]) ∧ Below w.heap.size w w' := by
  have hz : Has (w.alloc (Obj.cells #[.slice none 0 0, .bool false] 24)) w.heap.size 24 [.slice none 0 0, .bool false] := Has.new w _ _
  have hB := (Below.refl _ w).alloc (Nat.le_refl _) (Obj.cells #[.slice none 0 0, .bool false] 24)
  have HZ := hide hz
  have HF := hide hB
  have d0 : (w.alloc (Obj.cells #[.slice none 0 0, .bool false] 24)).cell? ⟨w.heap.size, 0, none⟩ = some (.slice none 0 0) := by rw [hz.cell]; rfl
  have d1 : (w.alloc (Obj.cells #[.slice none 0 0, .bool false] 24)).cell? ⟨w.heap.size, 1, none⟩ = some (.bool false) := by rw [hz.cell]; rfl
  have f0 := hz.frozen 0
  have f1 := hz.frozen 1
  clear hz hB
  go_enter Tryd.func89, Tryd.ntmps89
  go_wp2_with fail
  refine bodyPost_ret (results_desc3 rfl _ _ w.heap.size _ _ rfl HZ.out) rfl ?_
  exact ⟨rfl, HF.out⟩
set_option maxRecDepth 100000 in
set_option maxHeartbeats 4000000 in
theorem rreaddesc_cons (h : Nat) (t : List Nat) (A : Option Addr) (cap : Nat) (w : World) (hr : Rb w A (h :: t)) (hl : (h :: t).length ≤ 1000000) :
    Calls Tryd.prog 89 #[.slice A (h :: t).length cap] w fun e w' =>
      (Pk.code (h :: t) = 0 → ∃ P c, e = .returned (.tuple #[.agg (dcells P (Tens.rdims (h :: t)).length c (Tens.ru (h :: t))), .int .i64 (Tens.rn (h :: t) : Nat), .int .i64 0]) ∧ Ri w' P (Tens.rdims (h :: t))) ∧
      (Pk.code (h :: t) ≠ 0 → e = .returned (.tuple #[.agg (dcells none 0 0 false), .int .i64 0, .int .i64 (Pk.code (h :: t) : Nat)])) ∧ Below w.heap.size w w' := by
  have hz : Has (w.alloc (Obj.cells #[.slice none 0 0, .bool false] 24)) w.heap.size 24 [.slice none 0 0, .bool false] := Has.new w _ _
  have hB := (Below.refl _ w).alloc (Nat.le_refl _) (Obj.cells #[.slice none 0 0, .bool false] 24)
  have hoc : Pk.code (h :: t) = if 15 < h then 103 else if t.length < 2 * (h % 8) then 105 else 0 := rfl
  have hlt : (h :: t).length = t.length + 1 := rfl
  have hrd : Tens.rdims (h :: t) = Pk.dims (h % 8) (h :: t) := rfl
  have hru : Tens.ru (h :: t) = decide (8 ≤ h) := rfl
  have hrn : Tens.rn (h :: t) = 1 + 2 * (h % 8) := rfl
  obtain ⟨ad, b0, rfl, e0, lb, cb⟩ := rb_at hr 0 (by simp)
  obtain rfl : h = b0 := Option.some.inj e0.out
  have cb1 : w.cell? ad = some (.int .u8 (h : Int)) := by
    have := cb
    simpa [Addr.add] using this
  have hadl : ad.block < w.heap.size := by
    obtain ⟨ad', e, h1, -⟩ := hr.2 (by simp)
    cases e
    exact h1
  have cb2 : (w.alloc (Obj.cells #[.slice none 0 0, .bool false] 24)).cell? ad = some (.int .u8 (h : Int)) := by
    rw [← cb1]
    exact hB.cell hadl
  have HZ := hide hz
  have HF := hide hB
  have d0 : (w.alloc (Obj.cells #[.slice none 0 0, .bool false] 24)).cell? ⟨w.heap.size, 0, none⟩ = some (.slice none 0 0) := by rw [hz.cell]; rfl
  have d1 : (w.alloc (Obj.cells #[.slice none 0 0, .bool false] 24)).cell? ⟨w.heap.size, 1, none⟩ = some (.bool false) := by rw [hz.cell]; rfl
  have f0 := hz.frozen 0
  have f1 := hz.frozen 1
  obtain ⟨m, hm⟩ : ∃ m, Hid ((h :: t).length = m) := ⟨_, hide rfl⟩
  obtain ⟨u, hu⟩ : ∃ u, Hid (decide (8 ≤ h) = u) := ⟨_, hide rfl⟩
  obtain ⟨n, hn⟩ : ∃ n, Hid (h % 8 = n) := ⟨_, hide rfl⟩
  obtain ⟨K, hK⟩ : ∃ K, Hid (Pk.code (h :: t) = K) := ⟨_, hide rfl⟩
  have hn8 : n < 8 := by rw [← hn.out]; omega
  have hg : decide ((8 : Int) ≤ (h : Int)) = u := by
    rw [← hu.out]
    exact decide_eq_decide.2 (by omega)
  have hrem : (h : Int) % 8 = (n : Int) := by rw [← hn.out]; omega
  rw [hm.out] at hl hlt ⊢
  rw [hK.out] at hoc ⊢
  rw [hn.out] at hrd hrn hoc
  rw [hu.out] at hru
  rw [hrd, hru, hrn]
  have hrl : (Pk.dims n (h :: t)).length = n := Pk.dims_length _ _
  obtain ⟨bs, hbs⟩ : ∃ bs, Hid (h :: t = bs) := ⟨_, hide rfl⟩
  have HR := hide hr
  rw [hbs.out] at HR hm ⊢
  rw [hbs.out] at hrl
  rw [hrl]
  have HLT := hide hlt
  have hm0 : ((m : Int) == 0) = false := by simp; omega
  have hmp : 0 < m := by omega
  clear hrd hru hrn hrl hu hn hK hz hB hr e0 cb cb1 hbs hlt
  go_enter Tryd.func89, Tryd.ntmps89
  by_cases h15 : 15 < h
  · rw [if_pos h15] at hoc
    subst hoc
    have h15' : (15 : Int) < (h : Int) := by omega
    go_wp2_with fail
    refine bodyPost_ret (results_desc3 rfl _ _ w.heap.size _ _ rfl HZ.out) rfl ?_
    first | exact ⟨fun h => absurd h (by decide), fun _ => rfl, HF.out⟩ | exact ⟨rfl, HF.out⟩
  · rw [if_neg h15] at hoc
    have h15' : ¬ (15 : Int) < (h : Int) := by omega
    have hz1 : Has ((w.alloc (Obj.cells #[.slice none 0 0, .bool false] 24)).alloc (Obj.cells #[.slice none 0 0, .bool u] 24)) w.heap.size 24 [.slice none 0 0, .bool false] := HZ.out.alloc _
    have hB1 := HF.out.alloc HF.out.size (Obj.cells #[.slice none 0 0, .bool u] 24)
    have hd1 : Has ((w.alloc (Obj.cells #[.slice none 0 0, .bool false] 24)).alloc (Obj.cells #[.slice none 0 0, .bool u] 24)) (w.heap.size + 1) 24 [.slice none 0 0, .bool u] := by
      have h := Has.new (w.alloc (Obj.cells #[.slice none 0 0, .bool false] 24)) 24 [.slice none 0 0, .bool u]
      simpa using h
    have cb3 : ((w.alloc (Obj.cells #[.slice none 0 0, .bool false] 24)).alloc (Obj.cells #[.slice none 0 0, .bool u] 24)).cell? ad = some (.int .u8 (h : Int)) := by
      rw [← cb2]
      refine (Below.cell ((Below.refl _ _).alloc (Nat.le_refl _) _) ?_)
      have := HF.out.size
      omega
    have hw1 : IntKind.i64.wrap (2 * (n : Int)) = 2 * (n : Int) := by rw [IntKind.wrap_i64]; omega
    have hw2 : IntKind.i64.wrap (1 + 2 * (n : Int)) = 1 + 2 * (n : Int) := by rw [IntKind.wrap_i64]; omega
    by_cases hsh : t.length < 2 * n
    · rw [if_pos hsh] at hoc
      subst hoc
      have hcmp : (m : Int) < 1 + 2 * (n : Int) := by have := HLT.out; omega
      have k0 : ((w.alloc (Obj.cells #[.slice none 0 0, .bool false] 24)).alloc (Obj.cells #[.slice none 0 0, .bool u] 24)).cell? ⟨w.heap.size, 0, none⟩ = some (.slice none 0 0) := by rw [hz1.cell]; rfl
      have k1 : ((w.alloc (Obj.cells #[.slice none 0 0, .bool false] 24)).alloc (Obj.cells #[.slice none 0 0, .bool u] 24)).cell? ⟨w.heap.size, 1, none⟩ = some (.bool false) := by rw [hz1.cell]; rfl
      have g0 := hz1.frozen 0
      have g1 := hz1.frozen 1
      have HZ2 := hide hz1
      have HF2 := hide hB1
      clear hz1 hB1 hd1
      go_wp2_with fail
      refine bodyPost_ret (results_desc3 rfl _ _ w.heap.size _ _ rfl HZ2.out) rfl ?_
      first | exact ⟨fun h => absurd h (by decide), fun _ => rfl, HF2.out⟩ | exact ⟨rfl, HF2.out⟩
    · rw [if_neg hsh] at hoc
      subst hoc
      have hcmp : 1 + 2 * (n : Int) ≤ (m : Int) := by have := HLT.out; omega
      have hcmp2 : ¬ (m : Int) < 1 + 2 * (n : Int) := by omega
      have HI : Hid (RdI w u 0 bs ((w.alloc (Obj.cells #[.slice none 0 0, .bool false] 24)).alloc (Obj.cells #[.slice none 0 0, .bool u] 24)) (.slice none 0 0)) := hide ⟨hB1, hd1, hz1, World.ownsRow_nil _ _ _ _⟩
      have HR1 : Hid (∀ W, Below w.heap.size w W → Rb W (some ad) bs) := hide (fun W hb => HR.out.below hb)
      clear hz1 hB1 hd1 HZ HF
      go_wp2_with fail
      generalize hW1 : (w.alloc (Obj.cells #[.slice none 0 0, .bool false] 24)).alloc (Obj.cells #[.slice none 0 0, .bool u] 24) = w1 at *
      clear hW1 cb2 cb3 d0 d1 f0 f1
      go_loopw [7] (fun k wr => ∃ i sv, i ≤ n ∧ k = .int .i64 ((i : Nat) : Int) ∧ Hid (RdI w u i bs wr sv)) (fun k _ => n - (intOf k).toNat)
      case atStart => exact ⟨0, _, Nat.zero_le _, rfl, HI⟩
      case round =>
        obtain ⟨i, sv, hi, rfl, hI⟩ := hrel
        by_cases hin : i < n
        · have him : (i : Int) < n := by omega
          have hRb := HR1.out wr hI.out.low
          obtain ⟨p, hp⟩ : ∃ p, Hid (1 + 2 * i = p) := ⟨_, hide rfl⟩
          obtain ⟨q, hq⟩ : ∃ q, Hid (2 + 2 * i = q) := ⟨_, hide rfl⟩
          have hpm : (p : Int) < (m : Int) := by have := hp.out; omega
          have hqm : (q : Int) < (m : Int) := by have := hq.out; omega
          obtain ⟨_, x0, e1, ex0, lx0, cx0⟩ := rb_at hRb p (by rw [hm.out]; omega)
          cases e1
          obtain ⟨_, x1, e1, ex1, lx1, cx1⟩ := rb_at hRb q (by rw [hm.out]; omega)
          cases e1
          have hs0 : IntKind.i64.wrap (2 * (i : Int)) = 2 * (i : Int) := by rw [IntKind.wrap_i64]; omega
          have hs1 : IntKind.i64.wrap (1 + 2 * (i : Int)) = (p : Int) := by rw [IntKind.wrap_i64, ← hp.out]; omega
          have hs2 : IntKind.i64.wrap (2 + 2 * (i : Int)) = (q : Int) := by rw [IntKind.wrap_i64, ← hq.out]; omega
          have hadd : IntKind.i64.wrap ((i : Int) + 1) = (i : Int) + 1 := by rw [IntKind.wrap_i64]; omega
          have c0 : wr.cell? ⟨w.heap.size + 1, 0, none⟩ = some sv := by rw [hI.out.des.cell]; rfl
          have hor := or64 x0 x1 lx0 lx1
          have hz := hide (Pk.dims_next bs i x0 x1 (by rw [hp.out]; exact ex0.out) (by rw [hq.out]; exact ex1.out))
          have s0 : IntKind.i64.wrap (x0 : Int) = (x0 : Int) := by rw [IntKind.wrap_i64]; omega
          have s1 : IntKind.i64.wrap (x1 : Int) = (x1 : Int) := by rw [IntKind.wrap_i64]; omega
          have s2 : IntKind.i64.wrap ((x1 : Int) * 256) = ((x1 * 256 : Nat) : Int) := by rw [IntKind.wrap_i64]; omega
          have hwf : (Lit.int .i64 ((x0 + x1 * 256 : Nat) : Int)).wf = true := wf_i64 _ (by omega)
          obtain ⟨T, hT⟩ : ∃ T, Hid (x1 * 256 = T) := ⟨_, hide rfl⟩
          obtain ⟨z, hzz⟩ : ∃ z, Hid (((x0 + x1 * 256 : Nat) : Int) = z) := ⟨_, hide rfl⟩
          rw [hzz.out] at hz hwf hor
          rw [hT.out] at hor s2
          have HOWN := hide ((hI.out.own.alloc (.cells #[.int .i64 z] 3)).drew)
          have HRI := hide (show Ri ((wr.alloc (.cells #[.int .i64 z] 3)).drew) (some ⟨wr.heap.size, 0, none⟩) [z] from (Has.new wr 3 (i64s [z])).ri (zs := [z]) (fun y hy => by simp at hy; rw [hy]; exact hwf))
          have HB0 := hide (show i + 1 ≤ 1000000000000 by omega)
          have HSZ := hide (show w.heap.size + 2 ≤ ((wr.alloc (.cells #[.int .i64 z] 3)).drew).heap.size by have := hI.out.des.lt; rw [drew_size]; show w.heap.size + 2 ≤ wr.heap.size + 1; omega)
          have c0a : (wr.alloc (.cells #[.int .i64 z] 3)).cell? ⟨w.heap.size + 1, 0, none⟩ = some sv := by rw [(hI.out.des.alloc _).cell]; rfl
          clear hRb hp hq ex0 ex1 lx0 lx1 hT hzz hwf
          go_wp2_with fail
          go_region_law (refine step_append_is rfl (.tmp 40) (.tmp 57) rfl (w.heap.size + 2) _ i (i64s (Pk.dims i bs)) (by first | rfl | simp [Act.eval]) HOWN.out (some ⟨wr.heap.size, 0, none⟩) 1 1 [z] (by first | rfl | simp [Act.eval]) (hide rfl) HRI.out HB0.out HSZ.out (fun v' w' h1 h2 h3 => ?_); obtain ⟨A9, c9, rfl, q0, g0, hN⟩ := hI.out.next h1 h2 hz.out; have HN := hide hN; clear h1 h2 h3 hN)
          all_goals go_wp2_with fail
          all_goals go_roundw
          all_goals first
            | exact ⟨i + 1, _, by omega, by go_num, HN⟩
            | (simp [intOf]; omega)
        · obtain rfl : i = n := by omega
          have c0 : wr.cell? ⟨w.heap.size + 1, 0, none⟩ = some sv := by rw [hI.out.des.cell]; rfl
          have c1 : wr.cell? ⟨w.heap.size + 1, 1, none⟩ = some (.bool u) := by rw [hI.out.des.cell]; rfl
          have k0 : wr.cell? ⟨w.heap.size, 0, none⟩ = some (.slice none 0 0) := by rw [hI.out.res.cell]; rfl
          have k1 : wr.cell? ⟨w.heap.size, 1, none⟩ = some (.bool false) := by rw [hI.out.res.cell]; rfl
          have f0 := hI.out.res.frozen 0
          have f1 := hI.out.res.frozen 1
          obtain ⟨A9, c9, rfl, hRi, hRl⟩ := own_ris hI.out.own (Pk.dims_wf i bs HR.out.1)
          have HO := hide (hI.out.done hRi hRl)
          clear hI hRi hRl
          go_wp2_with fail
          refine bodyPost_ret (results_desc3 rfl _ _ w.heap.size _ _ rfl HO.out.1) rfl ?_
          exact ⟨⟨A9, ⟨c9, rfl⟩, HO.out.2.1⟩, HO.out.2.2⟩
end Go.Proofs.YtnbjcdmiehnceaaDoor
