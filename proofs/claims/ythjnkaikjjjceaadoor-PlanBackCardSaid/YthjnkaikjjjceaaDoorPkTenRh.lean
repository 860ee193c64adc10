/-
  Package tens's Read, whole. By an AI agent. No person has read it.
-/
import Derived.Test.YthjnkaikjjjceaaDoorPkTenRg
namespace Go.Proofs.YthjnkaikjjjceaaDoor
open Go.RowKit
/-- What bytes say of a tensor at their beginning: its dimensions, its kind, how many bytes the desc has. -/
def Tens.rdims : List Nat → List Int
  | [] => []
  | h :: t => Pk.dims (h % 8) (h :: t)
def Tens.ru : List Nat → Bool
  | [] => false
  | h :: _ => decide (8 ≤ h)
def Tens.rn : List Nat → Nat
  | [] => 1
  | h :: _ => 1 + 2 * (h % 8)
/-- How many bytes the numbers have. -/
def Tens.rs (bs : List Nat) : Nat := (Shp.size (Tens.rdims bs) (Tens.ru bs)).toNat
/-- The error's number. -/
def Tens.rcode (bs : List Nat) : Nat := if Pk.code bs ≠ 0 then Pk.code bs else if Shp.code (Tens.rdims bs) ≠ 0 then Shp.code (Tens.rdims bs) else if bs.length < Tens.rn bs + Tens.rs bs then 105 else 0
def Tens.rerr (am ar ae ak : Addr) (k : Nat) : Addr := if k = 104 then am else if k = 102 then ar else if k = 105 then ae else ak
theorem Tens.rcode_pk (bs : List Nat) (k : Nat) (h : Pk.code bs = k) (hk : k ≠ 0) : Tens.rcode bs = k := by unfold Tens.rcode; rw [h, if_pos hk]
theorem Shp.size_le (zs : List Int) (u : Bool) : 0 ≤ Shp.size zs u ∧ Shp.size zs u ≤ 65536 := by
  have h := Shp.elems_le zs
  unfold Shp.size
  cases u <;> simp <;> omega
theorem Shp.size_zero (zs : List Int) (u : Bool) (h : Shp.code zs ≠ 0) : Shp.size zs u = 0 := by
  have h2 : Shp.elems zs = 0 := by
    unfold Shp.elems Shp.ok
    rw [decide_eq_false h]
    rfl
  unfold Shp.size
  rw [h2]
  cases u <;> simp
theorem Shp.size_pos (zs : List Int) (u : Bool) (h : Shp.code zs = 0) : 1 ≤ Shp.size zs u := by
  have h2 : Shp.ok zs = true := by unfold Shp.ok; exact decide_eq_true h
  have h3 : Shp.elems zs = Shp.prod zs := by unfold Shp.elems; rw [if_pos h2]
  have h4 := (Shp.prod_pos zs ((Shp.ok_iff zs).1 h2).2.1).1
  unfold Shp.size
  rw [h3]
  cases u <;> simp <;> omega
set_option maxRecDepth 100000 in
theorem tread_c (bs : List Nat) (A : Option Addr) (cap : Nat) (am ar ae ak : Addr) (w : World) (hB : Rb w A bs) (hc : bs.length ≤ cap) (hl : bs.length ≤ 1000000) (hE : E2 w am ar) (hEe : ErrIs w 3 ae) (hEk : ErrIs w 0 ak) :
    Calls Tryd.prog 38 #[.slice A bs.length cap] w fun e w' =>
      (Tens.rcode bs = 0 → ∃ g c rest gd ns, ns = Tens.nums (Tens.ru bs) ((bs.take (Tens.rn bs + Tens.rs bs)).drop (Tens.rn bs)) ∧ e = .returned (.tuple #[.agg (tcells (some ⟨g, 0, none⟩) (Tens.rdims bs).length c (Tens.ru bs) (some ⟨gd, 0, none⟩) ns.length ns.length), .int .i64 ((Tens.rn bs + Tens.rs bs : Nat) : Int), .nilIface]) ∧
        Has w' g 3 (i64s (Tens.rdims bs) ++ rest) ∧ Has w' gd 3 (i64s ns)) ∧
      (Tens.rcode bs ≠ 0 → e = .returned (.tuple #[.agg (tcells none 0 0 false none 0 0), .int .i64 0, errv (Tens.rerr am ar ae ak (Tens.rcode bs))])) ∧ Below w.heap.size w w' := by
  obtain ⟨hb1, -, hR⟩ := tread_two w (.slice A bs.length cap)
  have hEe1 := hEe.below hb1
  have hEk1 := hEk.below hb1
  have hB1 := hB.below hb1
  have hg1 : 3 < w.heap.size + 1 := by have := hEe.2.1; omega
  have hg2 : ae.block < w.heap.size + 1 := by have := hEe.2.2.1; omega
  have hsz : ((w.alloc (Obj.cells #[.slice none 0 0, .bool false, .slice none 0 0] 70)).alloc (Obj.cells #[.slice A bs.length cap, .int .i64 0, .nilIface] 118)).heap.size = w.heap.size + 2 := by simp
  have bad : ∀ (k : Nat) (a : Addr), Tens.rcode bs = k → k ≠ 0 → Tens.rerr am ar ae ak k = a → (Calls Tryd.prog 38 #[.slice A bs.length cap] w fun e w' => e = .returned (.tuple #[.agg (tcells none 0 0 false none 0 0), .int .i64 0, errv a]) ∧ Below w.heap.size w w') → Calls Tryd.prog 38 #[.slice A bs.length cap] w fun e w' =>
      (Tens.rcode bs = 0 → ∃ g c rest gd ns, ns = Tens.nums (Tens.ru bs) ((bs.take (Tens.rn bs + Tens.rs bs)).drop (Tens.rn bs)) ∧ e = .returned (.tuple #[.agg (tcells (some ⟨g, 0, none⟩) (Tens.rdims bs).length c (Tens.ru bs) (some ⟨gd, 0, none⟩) ns.length ns.length), .int .i64 ((Tens.rn bs + Tens.rs bs : Nat) : Int), .nilIface]) ∧
        Has w' g 3 (i64s (Tens.rdims bs) ++ rest) ∧ Has w' gd 3 (i64s ns)) ∧
      (Tens.rcode bs ≠ 0 → e = .returned (.tuple #[.agg (tcells none 0 0 false none 0 0), .int .i64 0, errv (Tens.rerr am ar ae ak (Tens.rcode bs))])) ∧ Below w.heap.size w w' := by
    rintro k a h1 h2 h3 h4
    refine h4.mono ?_
    rintro e w' ⟨rfl, hb⟩
    exact ⟨fun h => absurd (h1.symm.trans h) h2, fun _ => by rw [h1, h3], hb⟩
  match bs, hB, hc, hl, hR, hB1, hsz, bad with
  | [], hB, hc, hl, hR, hB1, hsz, bad =>
    refine bad 105 ae (by rfl) (by decide) rfl ?_
    refine tread_bad A 0 cap ae w (hide ((rdr_none (w.heap.size + 1) cap A ae ak _ hg1 hR hEe1 hEk1).mono ?_))
    rintro e w' ⟨rfl, ⟨at_, v, -, hq, hv⟩, hg⟩
    exact ⟨⟨_, _, _, _, rfl⟩, ⟨_, _, _, hq, hv⟩, hg⟩
  | h :: t, hB, hc, hl, hR, hB1, hsz, bad =>
    have hA : ∀ ad, A = some ad → ad.block < w.heap.size + 1 := by
      obtain ⟨ad2, e2, h2, -⟩ := hB.2 (by simp)
      intro ad e
      rw [e2] at e
      cases e
      omega
    by_cases hh : 15 < h
    · refine bad 103 ak (Tens.rcode_pk _ _ (by simp [Pk.code, hh]) (by decide)) (by decide) rfl ?_
      refine tread_bad A _ cap ak w (hide ((rdr_kind (w.heap.size + 1) cap h A t ae ak _ hh hg1 hA hc (by omega) hR hB1 hEk1).mono ?_))
      rintro e w' ⟨rfl, ⟨at_, v, -, hq, hv⟩, hg⟩
      exact ⟨⟨_, _, _, _, rfl⟩, ⟨_, _, _, hq, hv⟩, hg⟩
    · have hD := rdr_desc (w.heap.size + 1) cap h A t ae ak _ (by omega) hg1 hg2 hA hc (by omega) hR hB1 hEe1 hEk1
      have hlen : (h :: t).length = t.length + 1 := rfl
      by_cases ht : t.length < 2 * (h % 8)
      · refine bad 105 ae (Tens.rcode_pk _ _ (by simp [Pk.code, hh, ht]) (by decide)) (by decide) rfl ?_
        refine tread_bad A _ cap ae w (hide (hD.mono ?_))
        rintro e w' ⟨l, B, c, rfl, -, -, hll, ⟨-, -, -, hS⟩, hg⟩
        refine ⟨⟨_, _, _, _, rfl⟩, ?_, hg⟩
        rcases hS with ⟨h1, -⟩ | ⟨-, at_, -, hq⟩
        · omega
        · exact ⟨_, _, _, hq, .inl rfl⟩
      · have hpk : Pk.code (h :: t) = 0 := by simp [Pk.code, hh, ht]
        have hn : Tens.rn (h :: t) = 1 + 2 * (h % 8) := rfl
        obtain ⟨n, hn2⟩ : ∃ n, Tens.rn (h :: t) = n := ⟨_, rfl⟩
        obtain ⟨l, hld⟩ : ∃ l, Tens.rdims (h :: t) = l := ⟨_, rfl⟩
        obtain ⟨u, hu⟩ : ∃ u, Tens.ru (h :: t) = u := ⟨_, rfl⟩
        obtain ⟨S, hS2⟩ : ∃ S, Tens.rs (h :: t) = S := ⟨_, rfl⟩
        have hll : l.length = h % 8 := by rw [← hld]; exact Pk.dims_length _ _
        have hSz : Shp.size l u = (S : Int) := by
          rw [← hS2, Tens.rs, hld, hu]
          have := Shp.size_le l u
          omega
        have hS5 : S ≤ 65536 := by have := Shp.size_le l u; omega
        have HD : Hid (Calls Tryd.prog 37 #[.pointer (some ⟨w.heap.size + 1, 0, none⟩)] ((w.alloc (Obj.cells #[.slice none 0 0, .bool false, .slice none 0 0] 70)).alloc (Obj.cells #[.slice A (h :: t).length cap, .int .i64 0, .nilIface] 118)) fun e w' => (∃ B c, e = .returned (.agg (dcells B l.length c u)) ∧ Ri w' B l ∧ ∀ ad, B = some ad → w.heap.size + 2 ≤ ad.block) ∧ Has w' (w.heap.size + 1) 118 [.slice A (h :: t).length cap, .int .i64 ((n : Nat) : Int), .nilIface] ∧ ((w.alloc (Obj.cells #[.slice none 0 0, .bool false, .slice none 0 0] 70)).alloc (Obj.cells #[.slice A (h :: t).length cap, .int .i64 0, .nilIface] 118)).grownBy w' (some (w.heap.size + 1))) := hide (by
          refine hD.mono ?_
          rintro e w' ⟨l2, B, c, rfl, hri, hBl, hl2, ⟨-, -, -, hS⟩, hg⟩
          rcases hS with ⟨h1, hq, hd⟩ | ⟨h1, -⟩
          · have e1 : l2 = l := by rw [hd, hl2, ← hld]; rfl
            subst e1
            rw [hl2, ← hn, hn2] at hq
            have e2 : decide (8 ≤ h) = u := hu
            rw [e2]
            exact ⟨⟨B, c, rfl, hri, fun ad e => by have := hBl ad e; rw [hsz] at this; exact this⟩, hq, hg⟩
          · omega)
        have HBy : Hid (∀ W B c, Ri W B l → Below w.heap.size w W → Calls Tryd.prog 80 #[.agg (dcells B l.length c u)] W fun e w' => e = .returned (.int .i64 (S : Int)) ∧ Below W.heap.size W w') := hide fun W B c hri hb => by
          have := bytes_c l B c u am ar W hri (by omega) (hE.below hb)
          rw [hSz] at this
          exact this
        have hRk : ∀ W, Below w.heap.size w W → Rb W A (h :: t) := fun W hb => hB.below hb
        by_cases hcode : Shp.code l = 0
        · have hS1 := Shp.size_pos l u hcode
          by_cases hfit : n + S ≤ (h :: t).length
          · obtain ⟨cs, hcs⟩ : ∃ cs, (((h :: t).take (n + S)).drop n) = cs := ⟨_, rfl⟩
            have hcl : cs.length = S := by rw [← hcs, List.length_drop, List.length_take]; omega
            have hrc : Tens.rcode (h :: t) = 0 := by unfold Tens.rcode; rw [if_neg (by simp [hpk]), hld, if_neg (by simp [hcode]), hn2, hS2, if_neg (by omega)]
            have HP : Hid (∀ W, Below w.heap.size w W → Has W (w.heap.size + 1) 118 [.slice A (h :: t).length cap, .int .i64 ((n : Nat) : Int), .nilIface] → Calls Tryd.prog 32 #[.pointer (some ⟨w.heap.size + 1, 0, none⟩), .int .i64 (S : Int)] W fun e w' => (∃ A2 c2, e = .returned (.slice A2 S c2) ∧ Rb w' A2 cs ∧ S ≤ c2) ∧ (∃ v, Has w' (w.heap.size + 1) 118 [.slice A (h :: t).length cap, .int .i64 ((n + S : Nat) : Int), v]) ∧ W.grownBy w' (some (w.heap.size + 1))) := hide fun W hb hq => by
              refine (piece_c (w.heap.size + 1) n cap S A (h :: t) W hq (hRk W hb) (fun ad e _ => by have := hA ad e; omega) hfit hc (by omega)).mono ?_
              rintro e w' ⟨⟨A2, c2, rfl, h2, h3⟩, h4, h5⟩
              rw [hcs] at h3
              exact ⟨⟨A2, c2, rfl, h3, h2⟩, ⟨_, h4⟩, h5⟩
            have HO : Hid (∀ W B c A2 c2, Ri W B l → Rb W A2 cs → S ≤ c2 → Below w.heap.size w W → Calls Tryd.prog 79 #[.agg (dcells B l.length c u), .slice A2 S c2] W fun e w' => (∃ g c rest gd, e = .returned (.tuple #[.agg (tcells (some ⟨g, 0, none⟩) l.length c u (some ⟨gd, 0, none⟩) (Tens.nums u cs).length (Tens.nums u cs).length), .nilIface]) ∧ Has w' g 3 (i64s l ++ rest) ∧ Has w' gd 3 (i64s (Tens.nums u cs))) ∧ Below W.heap.size W w') := hide fun W B c A2 c2 hri hrb hc2 hb => by
              have hO := tof_c l cs B A2 c c2 u am ar ae W hri hrb (by omega) (by omega) (by omega) (hE.below hb) (hEe.below hb)
              rw [hcl] at hO
              refine hO.mono ?_
              rintro e w' ⟨q1, -, -, -, hb2⟩
              exact ⟨q1 hcode (by omega), hb2⟩
            refine (tread_ok A _ cap S l u _ _ _ cs (Tens.nums u cs) w HD HBy HP HO).mono ?_
            rintro e w' ⟨⟨g, c, rest, gd, rfl, h1, h2⟩, hb⟩
            rw [hrc, hn2, hS2, hu, hld, hcs]
            exact ⟨fun _ => ⟨g, c, rest, gd, _, rfl, rfl, h1, h2⟩, fun h => absurd rfl h, hb⟩
          · refine bad 105 ae (by unfold Tens.rcode; rw [if_neg (by simp [hpk]), hld, if_neg (by simp [hcode]), hn2, hS2, if_pos (by omega)]) (by decide) rfl ?_
            have HP : Hid (∀ W, Below w.heap.size w W → Has W (w.heap.size + 1) 118 [.slice A (h :: t).length cap, .int .i64 ((n : Nat) : Int), .nilIface] → Calls Tryd.prog 32 #[.pointer (some ⟨w.heap.size + 1, 0, none⟩), .int .i64 (S : Int)] W fun e w' => (∃ A2 c2, e = .returned (.slice A2 0 c2) ∧ Rb w' A2 [] ∧ 0 ≤ c2) ∧ (∃ v, Has w' (w.heap.size + 1) 118 [.slice A (h :: t).length cap, .int .i64 ((n : Nat) : Int), v]) ∧ W.grownBy w' (some (w.heap.size + 1))) := hide fun W hb hq => by
              refine (piece_end (w.heap.size + 1) n (h :: t).length cap S A ae W hq (hEe.below hb) (by omega) (by omega) (by omega) (by omega)).mono ?_
              rintro e w' ⟨rfl, h4, h5⟩
              exact ⟨⟨none, 0, rfl, ⟨fun b hb => by simp at hb, fun h => absurd rfl h⟩, Nat.le_refl _⟩, ⟨_, h4⟩, h5⟩
            have HO : Hid (∀ W B c A2 c2, Ri W B l → Rb W A2 [] → 0 ≤ c2 → Below w.heap.size w W → Calls Tryd.prog 79 #[.agg (dcells B l.length c u), .slice A2 0 c2] W fun e w' => e = .returned (.tuple #[.agg (tcells none 0 0 false none 0 0), errv ae]) ∧ Below W.heap.size W w') := hide fun W B c A2 c2 hri hrb hc2 hb => by
              refine (tof_c l [] B A2 c c2 u am ar ae W hri hrb (by omega) (by simp) (by simp) (hE.below hb) (hEe.below hb)).mono ?_
              rintro e w' ⟨-, q1, -, -, hb2⟩
              exact ⟨q1 hcode (by simp; omega), hb2⟩
            exact tread_err A _ cap 0 l u _ _ _ [] ae w HD HBy HP HO
        · have hS0 : S = 0 := by have := Shp.size_zero l u hcode; omega
          subst hS0
          have hrc : Tens.rcode (h :: t) = Shp.code l := by unfold Tens.rcode; rw [if_neg (by simp [hpk]), hld, if_pos hcode]
          have hcs := Shp.code_is l
          obtain ⟨a, ha, hea⟩ : ∃ a, Tens.rerr am ar ae ak (Shp.code l) = a ∧ Shp.err am ar (Shp.code l) = errv a := by
            rcases hcs with h1 | h1 | h1
            · exact ⟨am, by rw [h1]; rfl, by rw [h1]; rfl⟩
            · exact ⟨ar, by rw [h1]; rfl, by rw [h1]; rfl⟩
            · exact absurd h1 hcode
          refine bad _ a hrc hcode ha ?_
          have HP : Hid (∀ W, Below w.heap.size w W → Has W (w.heap.size + 1) 118 [.slice A (h :: t).length cap, .int .i64 ((n : Nat) : Int), .nilIface] → Calls Tryd.prog 32 #[.pointer (some ⟨w.heap.size + 1, 0, none⟩), .int .i64 ((0 : Nat) : Int)] W fun e w' => (∃ A2 c2, e = .returned (.slice A2 0 c2) ∧ Rb w' A2 [] ∧ 0 ≤ c2) ∧ (∃ v, Has w' (w.heap.size + 1) 118 [.slice A (h :: t).length cap, .int .i64 ((n + 0 : Nat) : Int), v]) ∧ W.grownBy w' (some (w.heap.size + 1))) := hide fun W hb hq => by
            refine (piece_c (w.heap.size + 1) n cap 0 A (h :: t) W hq (hRk W hb) (fun ad e _ => by have := hA ad e; omega) (by omega) hc (by omega)).mono ?_
            rintro e w' ⟨⟨A2, c2, rfl, h2, h3⟩, h4, h5⟩
            exact ⟨⟨A2, c2, rfl, ⟨fun b hb => by simp at hb, fun h => absurd rfl h⟩, h2⟩, ⟨_, h4⟩, h5⟩
          have HO : Hid (∀ W B c A2 c2, Ri W B l → Rb W A2 [] → 0 ≤ c2 → Below w.heap.size w W → Calls Tryd.prog 79 #[.agg (dcells B l.length c u), .slice A2 0 c2] W fun e w' => e = .returned (.tuple #[.agg (tcells none 0 0 false none 0 0), errv a]) ∧ Below W.heap.size W w') := hide fun W B c A2 c2 hri hrb hc2 hb => by
            refine (tof_c l [] B A2 c c2 u am ar ae W hri hrb (by omega) (by simp) (by simp) (hE.below hb) (hEe.below hb)).mono ?_
            rintro e w' ⟨-, -, -, q1, hb2⟩
            exact ⟨(q1 hcode).trans (by rw [hea]), hb2⟩
          exact tread_err A _ cap 0 l u _ _ _ [] a w HD HBy HP HO
end Go.Proofs.YthjnkaikjjjceaaDoor
