/-
  A plan that can be written is read back from its bytes. By an AI agent. No person has read it.
-/
import Derived.Test.YthjnkaikjjjceaaDoorPkPlnP
namespace Go.Proofs.YthjnkaikjjjceaaDoor
open Go.RowKit
theorem fw_next {bs : List Nat} {n : Nat} {ys rest : List Nat} (h : bs.drop n = ys ++ rest) (hn : n ≤ bs.length) : bs.drop (n + ys.length) = rest ∧ n + ys.length ≤ bs.length := by
  refine ⟨by rw [← List.drop_drop, h, List.drop_left], ?_⟩
  have h2 := congrArg List.length h
  rw [List.length_drop, List.length_append] at h2
  omega
theorem Pl.ins_ok {p : Pn} (hF : Pl.Fine p) : ∀ x ∈ p.is.map Ins.pl, x.Ok := by
  intro x hx
  obtain ⟨y, hy, rfl⟩ := List.mem_map.1 hx
  have hb := hF.nb
  unfold Pl.broad at hb
  simp only [Bool.or_eq_false_iff, List.any_eq_false, Bool.not_eq_true] at hb
  have hw := hb.2.2.2 y hy
  unfold Pl.wrong at hw
  simp only [Bool.or_eq_false_iff, decide_eq_false_iff_not, List.any_eq_false, Bool.not_eq_true, List.mem_cons, List.not_mem_nil, or_false] at hw
  obtain ⟨⟨w1, w2⟩, w3, w4, w5⟩ := hw
  have h8 := hF.n8 y hy
  exact ⟨⟨by show 0 ≤ y.op; omega, by show y.op ≤ 255; omega⟩, w3 _ (.inl rfl), w4, w5, w3 _ (.inr (.inl rfl)), w3 _ (.inr (.inr rfl)), h8.1, h8.2⟩
theorem Pl.descs_ok {p : Pn} (hF : Pl.Fine p) : ∀ d ∈ p.descs, d.zs.length ≤ 7 ∧ ∀ z ∈ d.zs, Pl.dim z = false := by
  intro d hd
  have hb := hF.nb
  unfold Pl.broad at hb
  simp only [Bool.or_eq_false_iff, List.any_eq_false, Bool.not_eq_true] at hb
  exact ⟨hF.d7 d hd, hb.2.2.1 d hd⟩
theorem Pl.back_core (p : Pn) (hF : Pl.Fine p) (bs : List Nat) (R : List Nat) (hbs : bs = Pl.bytes p.pl ++ R) : (Pl.p11 bs).2 = ⟨(Pl.bytes p.pl).length, none⟩ ∧ (Pl.p1 bs).1 = p.size ∧ (Pl.p3 bs).1 = p.vs.map Vw.pl ∧ (Pl.p5 bs).1 = p.cs.map Ten.pl ∧ (Pl.p7 bs).1 = p.ls.map Dsc.pl ∧ (Pl.p9 bs).1 = p.is.map Ins.pl ∧ (Pl.p10 bs).1 = p.inp ∧ (Pl.p11 bs).1 = p.out := by
  have hb := hF.nb
  unfold Pl.broad at hb
  simp only [Bool.or_eq_false_iff, List.any_eq_false, Bool.not_eq_true, List.mem_cons, List.not_mem_nil, or_false] at hb
  have f0 := hb.1 p.size (.inl rfl)
  have f5 := hb.1 p.inp (.inr (.inl rfl))
  have f6 := hb.1 p.out (.inr (.inr rfl))
  have gi := Pl.ins_ok hF
  have gd : ∀ x ∈ p.ls.map Dsc.pl, x.1.length ≤ 7 ∧ ∀ z ∈ x.1, Pl.dim z = false := by
    intro x hx
    obtain ⟨d, hd, rfl⟩ := List.mem_map.1 hx
    exact Pl.descs_ok hF d (List.mem_append.2 (.inr hd))
  have gv : ∀ x ∈ p.vs.map Vw.pl, Pl.far x.1 = false ∧ x.2.1.length ≤ 7 ∧ ∀ z ∈ x.2.1, Pl.dim z = false := by
    intro x hx
    obtain ⟨v, hv, rfl⟩ := List.mem_map.1 hx
    exact ⟨hb.2.1 v hv v.off rfl, Pl.descs_ok hF v.d (List.mem_append.2 (.inl (List.mem_map.2 ⟨v, hv, rfl⟩)))⟩
  have gt : ∀ x ∈ p.cs.map Ten.pl, Tens.fault x.1 x.2.1 x.2.2 = (0, none) := by
    intro x hx
    obtain ⟨t, ht, rfl⟩ := List.mem_map.1 hx
    exact hF.ok t ht
  have hv1 := hF.vs
  have hv2 := hF.cs
  have hv3 := hF.ls
  have hv4 := hF.is
  have hall : bs = [76, 80] ++ (Pk.le 4 (Pk.num p.size) ++ (Pk.le 2 p.vs.length ++ ((p.vs.map Vw.pl).flatMap Pl.vbytes ++ (Pk.le 2 p.cs.length ++ ((p.cs.map Ten.pl).flatMap Pl.tbytes ++ (Pk.le 2 p.ls.length ++ ((p.ls.map Dsc.pl).flatMap Pl.dbytes ++ (Pk.le 2 p.is.length ++ ((p.is.map Ins.pl).flatMap InP.bytes ++ (Pk.le 4 (Pk.num p.inp) ++ (Pk.le 4 (Pk.num p.out) ++ R))))))))))) := by
    rw [hbs]
    unfold Pl.bytes Pl.body Pn.pl Pl.code
    dsimp only
    rw [List.length_map, List.length_map, List.length_map, List.length_map, Pk.num_nat _ (by omega), Pk.num_nat _ (by omega), Pk.num_nat _ (by omega), Pk.num_nat _ (by omega)]
    simp only [List.append_assoc]
  have hlen : (Pl.bytes p.pl).length + R.length = bs.length := by rw [hbs, List.length_append]
  clear hbs hb
  have d0 : bs.drop 0 = [76, 80] ++ (Pk.le 4 (Pk.num p.size) ++ (Pk.le 2 p.vs.length ++ ((p.vs.map Vw.pl).flatMap Pl.vbytes ++ (Pk.le 2 p.cs.length ++ ((p.cs.map Ten.pl).flatMap Pl.tbytes ++ (Pk.le 2 p.ls.length ++ ((p.ls.map Dsc.pl).flatMap Pl.dbytes ++ (Pk.le 2 p.is.length ++ ((p.is.map Ins.pl).flatMap InP.bytes ++ (Pk.le 4 (Pk.num p.inp) ++ (Pk.le 4 (Pk.num p.out) ++ R))))))))))) := hall
  have e0 : Rs.piece bs 2 ⟨0, none⟩ = ([76, 80], ⟨0 + 2, none⟩) := Rs.piece_fw bs [76, 80] 0 _ d0 (Nat.zero_le _)
  have E0 : Pl.head bs = ⟨2, none⟩ := by
    unfold Pl.head
    rw [e0, if_pos rfl]
  obtain ⟨d1, b1⟩ := fw_next d0 (Nat.zero_le _)
  have d1 : bs.drop 2 = _ := d1
  have b1 : 2 ≤ bs.length := b1
  clear d0 e0 hall
  have e1 : Rs.signed bs ⟨2, none⟩ = (p.size, ⟨2 + (Pk.le 4 (Pk.num p.size)).length, none⟩) := (Rs.signed_fw bs p.size f0) 2 _ d1 b1
  obtain ⟨d2, b2⟩ := fw_next d1 b1
  obtain ⟨n2, hn2⟩ : ∃ n, 2 + (Pk.le 4 (Pk.num p.size)).length = n := ⟨_, rfl⟩
  rw [hn2] at e1 d2 b2
  have E1 : Pl.p1 bs = (p.size, ⟨n2, none⟩) := by
    unfold Pl.p1
    rw [E0]
    exact e1
  clear e1 d1
  have e2 : Rs.count bs 2 128 3 ⟨n2, none⟩ = (p.vs.length, ⟨n2 + (Pk.le 2 p.vs.length).length, none⟩) := (Rs.count_fw bs 2 128 3 p.vs.length (by have := hF.vs; omega) hF.vs) n2 _ d2 b2
  obtain ⟨d3, b3⟩ := fw_next d2 b2
  obtain ⟨n3, hn3⟩ : ∃ n, n2 + (Pk.le 2 p.vs.length).length = n := ⟨_, rfl⟩
  rw [hn3] at e2 d3 b3
  have E2 : Pl.p2 bs = (p.vs.length, ⟨n3, none⟩) := by
    unfold Pl.p2
    rw [E1]
    exact e2
  clear e2 d2
  have e3 : Rs.rep (Rs.view bs) p.vs.length ⟨n3, none⟩ = (p.vs.map Vw.pl, ⟨n3 + ((p.vs.map Vw.pl).flatMap Pl.vbytes).length, none⟩) := (Rs.rep_fw bs (Rs.view bs) Pl.vbytes p.vs.length (p.vs.map Vw.pl) (List.length_map _) (fun i x hx => Rs.view_fw bs x (gv x (List.mem_of_getElem? hx)).1 (gv x (List.mem_of_getElem? hx)).2.1 (gv x (List.mem_of_getElem? hx)).2.2 i)) n3 _ d3 b3
  obtain ⟨d4, b4⟩ := fw_next d3 b3
  obtain ⟨n4, hn4⟩ : ∃ n, n3 + ((p.vs.map Vw.pl).flatMap Pl.vbytes).length = n := ⟨_, rfl⟩
  rw [hn4] at e3 d4 b4
  have E3 : Pl.p3 bs = (p.vs.map Vw.pl, ⟨n4, none⟩) := by
    unfold Pl.p3
    rw [E2]
    exact e3
  clear e3 d3
  have e4 : Rs.count bs 2 64 3 ⟨n4, none⟩ = (p.cs.length, ⟨n4 + (Pk.le 2 p.cs.length).length, none⟩) := (Rs.count_fw bs 2 64 3 p.cs.length (by have := hF.cs; omega) hF.cs) n4 _ d4 b4
  obtain ⟨d5, b5⟩ := fw_next d4 b4
  obtain ⟨n5, hn5⟩ : ∃ n, n4 + (Pk.le 2 p.cs.length).length = n := ⟨_, rfl⟩
  rw [hn5] at e4 d5 b5
  have E4 : Pl.p4 bs = (p.cs.length, ⟨n5, none⟩) := by
    unfold Pl.p4
    rw [E3]
    exact e4
  clear e4 d4
  have e5 : Rs.rep (Rs.tens bs) p.cs.length ⟨n5, none⟩ = (p.cs.map Ten.pl, ⟨n5 + ((p.cs.map Ten.pl).flatMap Pl.tbytes).length, none⟩) := (Rs.rep_fw bs (Rs.tens bs) Pl.tbytes p.cs.length (p.cs.map Ten.pl) (List.length_map _) (fun i x hx => Rs.tens_fw bs x (gt x (List.mem_of_getElem? hx)) i)) n5 _ d5 b5
  obtain ⟨d6, b6⟩ := fw_next d5 b5
  obtain ⟨n6, hn6⟩ : ∃ n, n5 + ((p.cs.map Ten.pl).flatMap Pl.tbytes).length = n := ⟨_, rfl⟩
  rw [hn6] at e5 d6 b6
  have E5 : Pl.p5 bs = (p.cs.map Ten.pl, ⟨n6, none⟩) := by
    unfold Pl.p5
    rw [E4]
    exact e5
  clear e5 d5
  have e6 : Rs.count bs 2 8 3 ⟨n6, none⟩ = (p.ls.length, ⟨n6 + (Pk.le 2 p.ls.length).length, none⟩) := (Rs.count_fw bs 2 8 3 p.ls.length (by have := hF.ls; omega) hF.ls) n6 _ d6 b6
  obtain ⟨d7, b7⟩ := fw_next d6 b6
  obtain ⟨n7, hn7⟩ : ∃ n, n6 + (Pk.le 2 p.ls.length).length = n := ⟨_, rfl⟩
  rw [hn7] at e6 d7 b7
  have E6 : Pl.p6 bs = (p.ls.length, ⟨n7, none⟩) := by
    unfold Pl.p6
    rw [E5]
    exact e6
  clear e6 d6
  have e7 : Rs.rep (Rs.dsc bs) p.ls.length ⟨n7, none⟩ = (p.ls.map Dsc.pl, ⟨n7 + ((p.ls.map Dsc.pl).flatMap Pl.dbytes).length, none⟩) := (Rs.rep_fw bs (Rs.dsc bs) Pl.dbytes p.ls.length (p.ls.map Dsc.pl) (List.length_map _) (fun i x hx => Rs.desc_fw bs x.1 x.2 (gd x (List.mem_of_getElem? hx)).1 (gd x (List.mem_of_getElem? hx)).2)) n7 _ d7 b7
  obtain ⟨d8, b8⟩ := fw_next d7 b7
  obtain ⟨n8, hn8⟩ : ∃ n, n7 + ((p.ls.map Dsc.pl).flatMap Pl.dbytes).length = n := ⟨_, rfl⟩
  rw [hn8] at e7 d8 b8
  have E7 : Pl.p7 bs = (p.ls.map Dsc.pl, ⟨n8, none⟩) := by
    unfold Pl.p7
    rw [E6]
    exact e7
  clear e7 d7
  have e8 : Rs.count bs 2 2048 3 ⟨n8, none⟩ = (p.is.length, ⟨n8 + (Pk.le 2 p.is.length).length, none⟩) := (Rs.count_fw bs 2 2048 3 p.is.length (by have := hF.is; omega) hF.is) n8 _ d8 b8
  obtain ⟨d9, b9⟩ := fw_next d8 b8
  obtain ⟨n9, hn9⟩ : ∃ n, n8 + (Pk.le 2 p.is.length).length = n := ⟨_, rfl⟩
  rw [hn9] at e8 d9 b9
  have E8 : Pl.p8 bs = (p.is.length, ⟨n9, none⟩) := by
    unfold Pl.p8
    rw [E7]
    exact e8
  clear e8 d8
  have e9 : Rs.rep (Rs.ins bs) p.is.length ⟨n9, none⟩ = (p.is.map Ins.pl, ⟨n9 + ((p.is.map Ins.pl).flatMap InP.bytes).length, none⟩) := (Rs.rep_fw bs (Rs.ins bs) InP.bytes p.is.length (p.is.map Ins.pl) (List.length_map _) (fun i x hx => Rs.instr_fw bs x (gi x (List.mem_of_getElem? hx)) i)) n9 _ d9 b9
  obtain ⟨d10, b10⟩ := fw_next d9 b9
  obtain ⟨n10, hn10⟩ : ∃ n, n9 + ((p.is.map Ins.pl).flatMap InP.bytes).length = n := ⟨_, rfl⟩
  rw [hn10] at e9 d10 b10
  have E9 : Pl.p9 bs = (p.is.map Ins.pl, ⟨n10, none⟩) := by
    unfold Pl.p9
    rw [E8]
    exact e9
  clear e9 d9
  have e10 : Rs.signed bs ⟨n10, none⟩ = (p.inp, ⟨n10 + (Pk.le 4 (Pk.num p.inp)).length, none⟩) := (Rs.signed_fw bs p.inp f5) n10 _ d10 b10
  obtain ⟨d11, b11⟩ := fw_next d10 b10
  obtain ⟨n11, hn11⟩ : ∃ n, n10 + (Pk.le 4 (Pk.num p.inp)).length = n := ⟨_, rfl⟩
  rw [hn11] at e10 d11 b11
  have E10 : Pl.p10 bs = (p.inp, ⟨n11, none⟩) := by
    unfold Pl.p10
    rw [E9]
    exact e10
  clear e10 d10
  have e11 : Rs.signed bs ⟨n11, none⟩ = (p.out, ⟨n11 + (Pk.le 4 (Pk.num p.out)).length, none⟩) := (Rs.signed_fw bs p.out f6) n11 _ d11 b11
  obtain ⟨d12, b12⟩ := fw_next d11 b11
  obtain ⟨n12, hn12⟩ : ∃ n, n11 + (Pk.le 4 (Pk.num p.out)).length = n := ⟨_, rfl⟩
  rw [hn12] at e11 d12 b12
  have E11 : Pl.p11 bs = (p.out, ⟨n12, none⟩) := by
    unfold Pl.p11
    rw [E10]
    exact e11
  clear e11 d11
  have hend : n12 = (Pl.bytes p.pl).length := by
    have h := congrArg List.length d12
    rw [List.length_drop] at h
    omega
  rw [E11, hend]
  exact ⟨rfl, by rw [E1], by rw [E3], by rw [E5], by rw [E7], by rw [E9], by rw [E10], rfl⟩
/-- Its bytes read back are the plan. -/
theorem Pl.back (p : Pn) (hf : Pl.fault p = none) : (Pl.p12 (Pl.bytes p.pl)).e = none ∧ Pl.read (Pl.bytes p.pl) = p.pl := by
  obtain ⟨h1, h2, h3, h4, h5, h6, h7, h8⟩ := Pl.back_core p (Pl.fine_of hf) (Pl.bytes p.pl) [] (by rw [List.append_nil])
  have h12 : (Pl.p12 (Pl.bytes p.pl)).e = none := by
    unfold Pl.p12
    rw [h1]
    unfold Rs.end_ Rs.rest
    dsimp only
    rw [List.drop_length, if_pos rfl]
  refine ⟨h12, ?_⟩
  unfold Pl.read
  rw [if_pos h12, h2, h3, h4, h5, h6, h7, h8]
  rfl
/-- With a byte behind they are none. -/
theorem Pl.back_more (p : Pn) (hf : Pl.fault p = none) (x : Nat) (X : List Nat) : (Pl.p12 (Pl.bytes p.pl ++ x :: X)).e = some (some (Pl.bytes p.pl).length, 3) := by
  obtain ⟨h1, -⟩ := Pl.back_core p (Pl.fine_of hf) (Pl.bytes p.pl ++ x :: X) (x :: X) rfl
  unfold Pl.p12
  rw [h1]
  unfold Rs.end_ Rs.rest
  dsimp only
  rw [List.drop_left, if_neg (by simp)]
  rfl
end Go.Proofs.YthjnkaikjjjceaaDoor
namespace Go.Proofs.YthjnkaikjjjceaaDoor
open Go.RowKit
/-- An error stays. -/
def Rs.St {α : Type} (f : Rs → α × Rs) : Prop := ∀ (n : Nat) (x : Option Nat × Nat), (f ⟨n, some x⟩).2.e = some x
/-- What comes next is cut off: ErrEnd. -/
def Rs.Ct {α : Type} (bs : List Nat) (f : Rs → α × Rs) (ys : List Nat) : Prop := ∀ (n c : Nat), c < ys.length → bs.drop n = ys.take c → n ≤ bs.length → (f ⟨n, none⟩).2.e = some (none, 4)
theorem st_of {α : Type} {f : Rs → α × Rs} (h : Rs.St f) {s : Rs} {x : Option Nat × Nat} (hs : s.e = some x) : (f s).2.e = some x := by
  obtain ⟨n, e⟩ := s
  obtain rfl : e = some x := hs
  exact h n x
/-- One behind the other. -/
theorem Rs.Ct.then_ {α β : Type} {bs : List Nat} {f : Rs → α × Rs} {G : α → Rs → β × Rs} {x : α} {ys zs : List Nat} (hw : Rs.Fw bs f x ys) (hc : Rs.Ct bs f ys) (hs : ∀ a, Rs.St (G a)) (hg : Rs.Ct bs (G x) zs) : Rs.Ct bs (fun s => G (f s).1 (f s).2) (ys ++ zs) := by
  intro n c hl hd hn
  rcases Nat.lt_or_ge c ys.length with h | h
  · have h1 := hc n c h (by rw [hd, List.take_append_of_le_length (by omega)]) hn
    exact st_of (hs _) h1
  · have e : (ys ++ zs).take c = ys ++ zs.take (c - ys.length) := by rw [List.take_append, List.take_of_length_le h]
    rw [e] at hd
    have h1 := hw n _ hd hn
    have h2 := congrArg List.length hd
    rw [List.length_drop, List.length_append] at h2
    rw [List.length_append] at hl
    show (G (f ⟨n, none⟩).1 (f ⟨n, none⟩).2).2.e = _
    rw [h1]
    exact hg _ (c - ys.length) (by omega) (by rw [← List.drop_drop, hd, List.drop_left]) (by omega)
theorem Rs.piece_ct (bs ys : List Nat) : Rs.Ct bs (fun s => s.piece bs ys.length) ys := by
  intro n c hl hd hn
  have h2 := congrArg List.length hd
  rw [List.length_drop, List.length_take] at h2
  show (Rs.piece bs ys.length ⟨n, none⟩).2.e = _
  unfold Rs.piece
  dsimp only
  rw [if_neg (by omega)]
theorem Rs.number_st (bs : List Nat) (k : Nat) : Rs.St (fun s => s.number bs k) := fun _ _ => rfl
theorem Rs.number_ct (bs : List Nat) (k N : Nat) : Rs.Ct bs (fun s => s.number bs k) (Pk.le k N) := by
  intro n c hl hd hn
  have h := Rs.piece_ct bs (Pk.le k N) n c hl hd hn
  rw [Pk.le_length] at h
  exact h
theorem Rs.signed_st (bs : List Nat) : Rs.St (fun s => s.signed bs) := fun _ _ => rfl
theorem Rs.signed_ct (bs : List Nat) (N : Nat) : Rs.Ct bs (fun s => s.signed bs) (Pk.le 4 N) := by
  intro n c hl hd hn
  have h := Rs.number_ct bs 4 N n c hl hd hn
  unfold Rs.signed
  exact h
theorem Rs.fail_some (s : Rs) (x y : Option Nat × Nat) (h : s.e = some x) : (s.fail y).e = some x := by
  obtain ⟨n, e⟩ := s
  obtain rfl : e = some x := h
  rfl
theorem Rs.count_st (bs : List Nat) (k most j : Nat) : Rs.St (fun s => s.count bs k most j) := by
  intro n x
  show (Rs.count bs k most j ⟨n, some x⟩).2.e = _
  unfold Rs.count
  split
  · exact Rs.fail_some _ x _ rfl
  · rfl
theorem Rs.count_ct (bs : List Nat) (k most j N : Nat) : Rs.Ct bs (fun s => s.count bs k most j) (Pk.le k N) := by
  intro n c hl hd hn
  have h := Rs.number_ct bs k N n c hl hd hn
  show (Rs.count bs k most j ⟨n, none⟩).2.e = _
  unfold Rs.count
  split
  · exact Rs.fail_some _ _ _ h
  · exact h
theorem Rs.rep_st {α : Type} (f : Nat → Rs → α × Rs) (hf : ∀ i, Rs.St (f i)) (m : Nat) : Rs.St (Rs.rep f m) := by
  induction m with
  | zero => exact fun _ _ => rfl
  | succ m ih => exact fun n x => st_of (hf m) (ih n x)
theorem Rs.rep_ct {α : Type} (bs : List Nat) (f : Nat → Rs → α × Rs) (g : α → List Nat) (hst : ∀ i, Rs.St (f i)) (m : Nat) : ∀ (l : List α), l.length = m → (∀ (i : Nat) (x : α), l[i]? = some x → Rs.Fw bs (f i) x (g x)) → (∀ (i : Nat) (x : α), l[i]? = some x → Rs.Ct bs (f i) (g x)) → Rs.Ct bs (Rs.rep f m) (l.flatMap g) := by
  induction m with
  | zero =>
    intro l hl _ _ n c hc
    obtain rfl := List.eq_nil_of_length_eq_zero hl
    simp at hc
  | succ m ih =>
    intro l hl hf hct
    have hlt : m < l.length := by omega
    have hsp : l = l.take m ++ [l[m]] := by
      have h := List.take_add_one (l := l) (i := m)
      rw [List.getElem?_eq_getElem hlt, Option.toList_some, List.take_of_length_le (by omega)] at h
      exact h
    have e : l.flatMap g = (l.take m).flatMap g ++ g l[m] := by
      conv => lhs; rw [hsp]
      rw [List.flatMap_append, List.flatMap_cons, List.flatMap_nil, List.append_nil]
    have htk : ∀ (i : Nat) (x : α), (l.take m)[i]? = some x → l[i]? = some x := by
      intro i x hx
      rw [List.getElem?_take] at hx
      split at hx
      · exact hx
      · cases hx
    have hlm : (l.take m).length = m := by rw [List.length_take]; omega
    rw [e]
    exact Rs.Ct.then_ (f := Rs.rep f m) (G := fun a s => (a ++ [(f m s).1], (f m s).2)) (x := l.take m) (Rs.rep_fw bs f g m (l.take m) hlm fun i x hx => hf i x (htk i x hx)) (ih (l.take m) hlm (fun i x hx => hf i x (htk i x hx)) fun i x hx => hct i x (htk i x hx)) (fun _ => hst m) (hct m l[m] (List.getElem?_eq_getElem hlt))
theorem Rs.dim_st (bs : List Nat) (i : Nat) : Rs.St (Rs.dim bs i) := fun _ _ => rfl
theorem Rs.num_st (bs : List Nat) (i : Nat) : Rs.St (Rs.num bs i) := fun _ _ => rfl
theorem Rs.desc_st (bs : List Nat) : Rs.St (fun s => s.desc bs) := fun n x => st_of (Rs.rep_st (Rs.dim bs) (Rs.dim_st bs) _) (Rs.count_st bs 1 15 2 n x)
theorem Rs.desc_ct (bs : List Nat) (zs : List Int) (u : Bool) (hl : zs.length ≤ 7) (hz : ∀ z ∈ zs, Pl.dim z = false) : Rs.Ct bs (fun s => s.desc bs) (Pk.desc zs u) := by
  obtain ⟨h, hdc, h15, h8, hu⟩ := Pk.desc_cons zs u hl
  have hle : Pk.le 1 h = [h] := by rw [Pk.le_cons, show h % 256 = h by omega]; rfl
  have e : Pk.desc zs u = Pk.le 1 h ++ Pk.all 2 zs := by rw [hdc, hle]; rfl
  rw [e]
  have hall : Rs.Ct bs (Rs.rep (Rs.dim bs) zs.length) (Pk.all 2 zs) := by
    have h1 := Rs.rep_ct bs (Rs.dim bs) (fun z => Pk.le 2 (Pk.num z)) (Rs.dim_st bs) zs.length zs rfl (fun i z hx n rest hd hn => by
      have hd0 := hz z (List.mem_of_getElem? hx)
      unfold Pl.dim at hd0
      rw [decide_eq_false_iff_not] at hd0
      have hnum : Pk.num z = z.toNat := by unfold Pk.num; omega
      rw [hnum] at hd ⊢
      have h4 : Rs.number bs 2 ⟨n, none⟩ = (z.toNat, ⟨n + (Pk.le 2 z.toNat).length, none⟩) := Rs.number_fw bs 2 z.toNat (by omega) n rest hd hn
      show (((Rs.number bs 2 ⟨n, none⟩).1 : Int), (Rs.number bs 2 ⟨n, none⟩).2) = _
      rw [h4]
      show ((z.toNat : Int), _) = _
      rw [Int.toNat_of_nonneg (by omega)]) (fun i z _ => Rs.number_ct bs 2 (Pk.num z))
    rw [List.flatMap_def] at h1
    exact h1
  have h1 := Rs.Ct.then_ (f := fun s => s.count bs 1 15 2) (G := fun a s => Rs.rep (Rs.dim bs) (a % 8) s) (x := h) (Rs.count_fw bs 1 15 2 h (by omega) h15) (Rs.count_ct bs 1 15 2 h) (fun a => Rs.rep_st (Rs.dim bs) (Rs.dim_st bs) _) (by rw [h8]; exact hall)
  exact h1
theorem Rs.numbers_st (bs : List Nat) : Rs.St (fun s => s.numbers bs) := fun n x => st_of (Rs.rep_st (Rs.num bs) (Rs.num_st bs) _) (Rs.count_st bs 1 8 3 n x)
theorem Rs.numbers_ct (bs : List Nat) (l : List Int) (hl : l.length ≤ 8) (hf : ∀ z ∈ l, Pl.far z = false) : Rs.Ct bs (fun s => s.numbers bs) (Pl.nb l) := by
  unfold Pl.nb
  rw [Pk.num_nat _ (by omega)]
  have h1 := Rs.rep_ct bs (Rs.num bs) (fun z => Pk.le 4 (Pk.num z)) (Rs.num_st bs) l.length l rfl (fun i z hx => Rs.signed_fw bs z (hf z (List.mem_of_getElem? hx))) (fun i z _ => Rs.signed_ct bs (Pk.num z))
  rw [List.flatMap_def] at h1
  exact Rs.Ct.then_ (f := fun s => s.count bs 1 8 3) (G := fun a s => Rs.rep (Rs.num bs) a s) (x := l.length) (Rs.count_fw bs 1 8 3 l.length (by omega) hl) (Rs.count_ct bs 1 8 3 l.length) (fun a => Rs.rep_st (Rs.num bs) (Rs.num_st bs) _) h1
theorem Rs.view_st (bs : List Nat) (i : Nat) : Rs.St (Rs.view bs i) := by
  intro n x
  have h := st_of (Rs.desc_st bs) (Rs.signed_st bs n x)
  unfold Rs.view
  exact h
theorem Rs.view_ct (bs : List Nat) (v : VwP) (h1 : Pl.far v.1 = false) (h2 : v.2.1.length ≤ 7) (h3 : ∀ z ∈ v.2.1, Pl.dim z = false) (i : Nat) : Rs.Ct bs (Rs.view bs i) (Pl.vbytes v) :=
  Rs.Ct.then_ (f := fun s => s.signed bs) (G := fun a s => ((a, (s.desc bs).1), (s.desc bs).2)) (x := v.1) (Rs.signed_fw bs v.1 h1) (Rs.signed_ct bs _) (fun _ => Rs.desc_st bs) (Rs.desc_ct bs v.2.1 v.2.2 h2 h3)
theorem Rs.tens_st (bs : List Nat) (i : Nat) : Rs.St (Rs.tens bs i) := by
  intro n x
  show (Rs.took bs (Tens.ren (Rs.rest bs ⟨n, some x⟩)) (Tens.rcode (Rs.rest bs ⟨n, some x⟩)) i ⟨n, some x⟩).e = some x
  unfold Rs.took
  split
  · rfl
  · split <;> rfl
theorem Rs.tens_ct (bs : List Nat) (t : TnP) (h : Tens.fault t.1 t.2.1 t.2.2 = (0, none)) (i : Nat) : Rs.Ct bs (Rs.tens bs i) (Pl.tbytes t) := by
  intro n c hl hd hn
  have hr : Rs.rest bs ⟨n, none⟩ = (Tens.bytes t.1 t.2.1 t.2.2).take c := hd
  have hk := (Tens.back h []).2.2.2.2.2.2.2 c hl
  show (Rs.took bs (Tens.ren (Rs.rest bs ⟨n, none⟩)) (Tens.rcode (Rs.rest bs ⟨n, none⟩)) i ⟨n, none⟩).e = _
  rw [hr, hk]
  rfl
end Go.Proofs.YthjnkaikjjjceaaDoor
