/-
  A plan's bytes that are cut off anywhere: they end too early. By an AI agent. No person has read it.
-/
import Derived.Test.YthjnkaikjjjceaaDoorPkPlnU
namespace Go.Proofs.YthjnkaikjjjceaaDoor
open Go.RowKit
theorem Rs.ins_st (bs : List Nat) (i : Nat) : Rs.St (Rs.ins bs i) := by
  have s6 := Rs.signed_st bs
  have s5 : Rs.St (fun s => (s.signed bs).2.signed bs) := fun n y => st_of s6 (Rs.signed_st bs n y)
  have s4 : Rs.St (fun s => ((s.numbers bs).2.signed bs).2.signed bs) := fun n y => st_of s5 (Rs.numbers_st bs n y)
  have s3 : Rs.St (fun s => (((s.numbers bs).2.numbers bs).2.signed bs).2.signed bs) := fun n y => st_of s4 (Rs.numbers_st bs n y)
  have s2 : Rs.St (fun s => ((((s.signed bs).2.numbers bs).2.numbers bs).2.signed bs).2.signed bs) := fun n y => st_of s3 (Rs.signed_st bs n y)
  have s1 : Rs.St (fun s => (((((s.number bs 1).2.signed bs).2.numbers bs).2.numbers bs).2.signed bs).2.signed bs) := fun n y => st_of s2 (Rs.number_st bs 1 n y)
  intro n y
  exact s1 n y
theorem Rs.ins_ct (bs : List Nat) (x : InP) (hx : x.Ok) (i : Nat) : Rs.Ct bs (Rs.ins bs i) x.bytes := by
  have hop : Pk.num x.op = x.op.toNat := by have := hx.op; unfold Pk.num; omega
  have s6 := Rs.signed_st bs
  have s5 : Rs.St (fun s => (s.signed bs).2.signed bs) := fun n y => st_of s6 (Rs.signed_st bs n y)
  have s4 : Rs.St (fun s => ((s.numbers bs).2.signed bs).2.signed bs) := fun n y => st_of s5 (Rs.numbers_st bs n y)
  have s3 : Rs.St (fun s => (((s.numbers bs).2.numbers bs).2.signed bs).2.signed bs) := fun n y => st_of s4 (Rs.numbers_st bs n y)
  have s2 : Rs.St (fun s => ((((s.signed bs).2.numbers bs).2.numbers bs).2.signed bs).2.signed bs) := fun n y => st_of s3 (Rs.signed_st bs n y)
  have h5 := Rs.Ct.then_ (f := fun s => s.signed bs) (G := fun _ s => s.signed bs) (x := x.fr) (Rs.signed_fw bs x.fr hx.fr) (Rs.signed_ct bs _) (fun _ => s6) (Rs.signed_ct bs (Pk.num x.to))
  have h4 := Rs.Ct.then_ (f := fun s => s.numbers bs) (G := fun _ s => (s.signed bs).2.signed bs) (x := x.gs) (Rs.numbers_fw bs x.gs hx.lg hx.gs) (Rs.numbers_ct bs x.gs hx.lg hx.gs) (fun _ => s5) h5
  have h3 := Rs.Ct.then_ (f := fun s => s.numbers bs) (G := fun _ s => ((s.numbers bs).2.signed bs).2.signed bs) (x := x.is) (Rs.numbers_fw bs x.is hx.li hx.is) (Rs.numbers_ct bs x.is hx.li hx.is) (fun _ => s4) h4
  have h2 := Rs.Ct.then_ (f := fun s => s.signed bs) (G := fun _ s => (((s.numbers bs).2.numbers bs).2.signed bs).2.signed bs) (x := x.dst) (Rs.signed_fw bs x.dst hx.dst) (Rs.signed_ct bs _) (fun _ => s3) h3
  have h1 := Rs.Ct.then_ (f := fun s => s.number bs 1) (G := fun _ s => ((((s.signed bs).2.numbers bs).2.numbers bs).2.signed bs).2.signed bs) (x := x.op.toNat) (Rs.number_fw bs 1 x.op.toNat (by have := hx.op; omega)) (Rs.number_ct bs 1 _) (fun _ => s2) h2
  unfold InP.bytes
  rw [hop]
  simp only [List.append_assoc]
  intro n c h4 h5 h6
  exact h1 n c h4 h5 h6
theorem Pl.stay1 (bs : List Nat) (x : Option Nat × Nat) (h : (Pl.head bs).e = some x) : (Pl.p1 bs).2.e = some x := by
  unfold Pl.p1
  exact st_of (f := fun s => s.signed bs) (s := Pl.head bs) (Rs.signed_st bs) h
theorem Pl.stay2 (bs : List Nat) (x : Option Nat × Nat) (h : (Pl.p1 bs).2.e = some x) : (Pl.p2 bs).2.e = some x := by
  unfold Pl.p2
  exact st_of (f := fun s => s.count bs 2 128 3) (s := (Pl.p1 bs).2) (Rs.count_st bs 2 128 3) h
theorem Pl.stay3 (bs : List Nat) (x : Option Nat × Nat) (h : (Pl.p2 bs).2.e = some x) : (Pl.p3 bs).2.e = some x := by
  unfold Pl.p3
  exact st_of (f := Rs.rep (Rs.view bs) (Pl.p2 bs).1) (s := (Pl.p2 bs).2) (Rs.rep_st (Rs.view bs) (Rs.view_st bs) _) h
theorem Pl.stay4 (bs : List Nat) (x : Option Nat × Nat) (h : (Pl.p3 bs).2.e = some x) : (Pl.p4 bs).2.e = some x := by
  unfold Pl.p4
  exact st_of (f := fun s => s.count bs 2 64 3) (s := (Pl.p3 bs).2) (Rs.count_st bs 2 64 3) h
theorem Pl.stay5 (bs : List Nat) (x : Option Nat × Nat) (h : (Pl.p4 bs).2.e = some x) : (Pl.p5 bs).2.e = some x := by
  unfold Pl.p5
  exact st_of (f := Rs.rep (Rs.tens bs) (Pl.p4 bs).1) (s := (Pl.p4 bs).2) (Rs.rep_st (Rs.tens bs) (Rs.tens_st bs) _) h
theorem Pl.stay6 (bs : List Nat) (x : Option Nat × Nat) (h : (Pl.p5 bs).2.e = some x) : (Pl.p6 bs).2.e = some x := by
  unfold Pl.p6
  exact st_of (f := fun s => s.count bs 2 8 3) (s := (Pl.p5 bs).2) (Rs.count_st bs 2 8 3) h
theorem Pl.stay7 (bs : List Nat) (x : Option Nat × Nat) (h : (Pl.p6 bs).2.e = some x) : (Pl.p7 bs).2.e = some x := by
  unfold Pl.p7
  exact st_of (f := Rs.rep (Rs.dsc bs) (Pl.p6 bs).1) (s := (Pl.p6 bs).2) (Rs.rep_st (Rs.dsc bs) (fun _ => Rs.desc_st bs) _) h
theorem Pl.stay8 (bs : List Nat) (x : Option Nat × Nat) (h : (Pl.p7 bs).2.e = some x) : (Pl.p8 bs).2.e = some x := by
  unfold Pl.p8
  exact st_of (f := fun s => s.count bs 2 2048 3) (s := (Pl.p7 bs).2) (Rs.count_st bs 2 2048 3) h
theorem Pl.stay9 (bs : List Nat) (x : Option Nat × Nat) (h : (Pl.p8 bs).2.e = some x) : (Pl.p9 bs).2.e = some x := by
  unfold Pl.p9
  exact st_of (f := Rs.rep (Rs.ins bs) (Pl.p8 bs).1) (s := (Pl.p8 bs).2) (Rs.rep_st (Rs.ins bs) (Rs.ins_st bs) _) h
theorem Pl.stay10 (bs : List Nat) (x : Option Nat × Nat) (h : (Pl.p9 bs).2.e = some x) : (Pl.p10 bs).2.e = some x := by
  unfold Pl.p10
  exact st_of (f := fun s => s.signed bs) (s := (Pl.p9 bs).2) (Rs.signed_st bs) h
theorem Pl.stay11 (bs : List Nat) (x : Option Nat × Nat) (h : (Pl.p10 bs).2.e = some x) : (Pl.p11 bs).2.e = some x := by
  unfold Pl.p11
  exact st_of (f := fun s => s.signed bs) (s := (Pl.p10 bs).2) (Rs.signed_st bs) h
/-- One step of a row of bytes that is cut off. -/
theorem ct_step {α : Type} {bs : List Nat} {f : Rs → α × Rs} {x : α} {Y Z : List Nat} {n c : Nat} (hw : Rs.Fw bs f x Y) (hc : Rs.Ct bs f Y) (hl : c < (Y ++ Z).length) (hd : bs.drop n = (Y ++ Z).take c) (hn : n ≤ bs.length) :
    (f ⟨n, none⟩).2.e = some (none, 4) ∨ ∃ n' c', f ⟨n, none⟩ = (x, ⟨n', none⟩) ∧ bs.drop n' = Z.take c' ∧ c' < Z.length ∧ n' ≤ bs.length := by
  rcases Nat.lt_or_ge c Y.length with h | h
  · exact .inl (hc n c h (by rw [hd, List.take_append_of_le_length (by omega)]) hn)
  · have e : (Y ++ Z).take c = Y ++ Z.take (c - Y.length) := by rw [List.take_append, List.take_of_length_le h]
    rw [e] at hd
    have h2 := congrArg List.length hd
    rw [List.length_drop, List.length_append] at h2
    rw [List.length_append] at hl
    exact .inr ⟨n + Y.length, c - Y.length, hw n _ hd hn, by rw [← List.drop_drop, hd, List.drop_left], by omega, by omega⟩
theorem Rs.end_st (bs : List Nat) (s : Rs) (x : Option Nat × Nat) (h : s.e = some x) : (Rs.end_ bs s).e = some x := by
  unfold Rs.end_
  split
  · exact h
  · exact Rs.fail_some s x _ h
set_option maxHeartbeats 4000000 in
theorem Pl.cut_core (p : Pn) (hF : Pl.Fine p) (bs : List Nat) (k : Nat) (hk : k < (Pl.bytes p.pl).length) (hbs : bs = (Pl.bytes p.pl).take k) : (Pl.p12 bs).e = some (none, 4) := by
  have hb := hF.nb
  unfold Pl.broad at hb
  simp only [Bool.or_eq_false_iff, List.any_eq_false, Bool.not_eq_true, List.mem_cons, List.not_mem_nil, or_false] at hb
  have f0 := hb.1 p.size (.inl rfl)
  have f5 := hb.1 p.inp (.inr (.inl rfl))
  have f6 := hb.1 p.out (.inr (.inr rfl))
  have gi := Pl.ins_ok hF
  have gd : ∀ x ∈ p.ls.map Dsc.pl, x.1.length ≤ 7 ∧ ∀ z ∈ x.1, Pl.dim z = false := by
    intro x hx
    obtain ⟨d, hd, rfl⟩ := List.mem_map.1 hx
    exact Pl.descs_ok hF d (List.mem_append.2 (.inr hd))
  have gv : ∀ x ∈ p.vs.map Vw.pl, Pl.far x.1 = false ∧ x.2.1.length ≤ 7 ∧ ∀ z ∈ x.2.1, Pl.dim z = false := by
    intro x hx
    obtain ⟨v, hv, rfl⟩ := List.mem_map.1 hx
    exact ⟨hb.2.1 v hv v.off rfl, Pl.descs_ok hF v.d (List.mem_append.2 (.inl (List.mem_map.2 ⟨v, hv, rfl⟩)))⟩
  have gt : ∀ x ∈ p.cs.map Ten.pl, Tens.fault x.1 x.2.1 x.2.2 = (0, none) := by
    intro x hx
    obtain ⟨t, ht, rfl⟩ := List.mem_map.1 hx
    exact hF.ok t ht
  have hv1 := hF.vs
  have hv2 := hF.cs
  have hv3 := hF.ls
  have hv4 := hF.is
  have lv1 : p.vs.length < 256 ^ 2 := by clear hk hbs; omega
  have lv2 : p.cs.length < 256 ^ 2 := by clear hk hbs; omega
  have lv3 : p.ls.length < 256 ^ 2 := by clear hk hbs; omega
  have lv4 : p.is.length < 256 ^ 2 := by clear hk hbs; omega
  have nv1 := Pk.num_nat p.vs.length (by clear hk hbs; omega)
  have nv2 := Pk.num_nat p.cs.length (by clear hk hbs; omega)
  have nv3 := Pk.num_nat p.ls.length (by clear hk hbs; omega)
  have nv4 := Pk.num_nat p.is.length (by clear hk hbs; omega)
  have fv := fun x hx i => Rs.view_fw bs x (gv x hx).1 (gv x hx).2.1 (gv x hx).2.2 i
  have cv := fun x hx i => Rs.view_ct bs x (gv x hx).1 (gv x hx).2.1 (gv x hx).2.2 i
  have ft := fun x hx i => Rs.tens_fw bs x (gt x hx) i
  have ct := fun x hx i => Rs.tens_ct bs x (gt x hx) i
  have fd : ∀ x ∈ p.ls.map Dsc.pl, ∀ i, Rs.Fw bs (Rs.dsc bs i) x (Pl.dbytes x) := fun x hx _ => Rs.desc_fw bs x.1 x.2 (gd x hx).1 (gd x hx).2
  have cd : ∀ x ∈ p.ls.map Dsc.pl, ∀ i, Rs.Ct bs (Rs.dsc bs i) (Pl.dbytes x) := fun x hx _ => Rs.desc_ct bs x.1 x.2 (gd x hx).1 (gd x hx).2
  have hall : Pl.bytes p.pl = [76, 80] ++ (Pk.le 4 (Pk.num p.size) ++ (Pk.le 2 p.vs.length ++ ((p.vs.map Vw.pl).flatMap Pl.vbytes ++ (Pk.le 2 p.cs.length ++ ((p.cs.map Ten.pl).flatMap Pl.tbytes ++ (Pk.le 2 p.ls.length ++ ((p.ls.map Dsc.pl).flatMap Pl.dbytes ++ (Pk.le 2 p.is.length ++ ((p.is.map Ins.pl).flatMap InP.bytes ++ (Pk.le 4 (Pk.num p.inp) ++ (Pk.le 4 (Pk.num p.out) ++ []))))))))))) := by
    unfold Pl.bytes Pl.body Pn.pl Pl.code
    dsimp only
    rw [List.length_map, List.length_map, List.length_map, List.length_map, nv1, nv2, nv3, nv4]
    simp only [List.append_assoc, List.append_nil]
  rw [hall] at hbs hk
  clear hall gv gt gd hb hF
  have z11 : (Pl.p11 bs).2.e = some (none, 4) → (Pl.p12 bs).e = some (none, 4) := fun h => Rs.end_st bs _ _ h
  have z10 : (Pl.p10 bs).2.e = some (none, 4) → (Pl.p12 bs).e = some (none, 4) := fun h => z11 (Pl.stay11 bs _ h)
  have z9 : (Pl.p9 bs).2.e = some (none, 4) → (Pl.p12 bs).e = some (none, 4) := fun h => z10 (Pl.stay10 bs _ h)
  have z8 : (Pl.p8 bs).2.e = some (none, 4) → (Pl.p12 bs).e = some (none, 4) := fun h => z9 (Pl.stay9 bs _ h)
  have z7 : (Pl.p7 bs).2.e = some (none, 4) → (Pl.p12 bs).e = some (none, 4) := fun h => z8 (Pl.stay8 bs _ h)
  have z6 : (Pl.p6 bs).2.e = some (none, 4) → (Pl.p12 bs).e = some (none, 4) := fun h => z7 (Pl.stay7 bs _ h)
  have z5 : (Pl.p5 bs).2.e = some (none, 4) → (Pl.p12 bs).e = some (none, 4) := fun h => z6 (Pl.stay6 bs _ h)
  have z4 : (Pl.p4 bs).2.e = some (none, 4) → (Pl.p12 bs).e = some (none, 4) := fun h => z5 (Pl.stay5 bs _ h)
  have z3 : (Pl.p3 bs).2.e = some (none, 4) → (Pl.p12 bs).e = some (none, 4) := fun h => z4 (Pl.stay4 bs _ h)
  have z2 : (Pl.p2 bs).2.e = some (none, 4) → (Pl.p12 bs).e = some (none, 4) := fun h => z3 (Pl.stay3 bs _ h)
  have z1 : (Pl.p1 bs).2.e = some (none, 4) → (Pl.p12 bs).e = some (none, 4) := fun h => z2 (Pl.stay2 bs _ h)
  have z0 : (Pl.head bs).e = some (none, 4) → (Pl.p12 bs).e = some (none, 4) := fun h => z1 (Pl.stay1 bs _ h)
  have b0 : 0 ≤ bs.length := Nat.zero_le _
  have d0 : bs.drop 0 = ([76, 80] ++ (Pk.le 4 (Pk.num p.size) ++ (Pk.le 2 p.vs.length ++ ((p.vs.map Vw.pl).flatMap Pl.vbytes ++ (Pk.le 2 p.cs.length ++ ((p.cs.map Ten.pl).flatMap Pl.tbytes ++ (Pk.le 2 p.ls.length ++ ((p.ls.map Dsc.pl).flatMap Pl.dbytes ++ (Pk.le 2 p.is.length ++ ((p.is.map Ins.pl).flatMap InP.bytes ++ (Pk.le 4 (Pk.num p.inp) ++ (Pk.le 4 (Pk.num p.out) ++ [])))))))))))).take k := hbs
  rcases ct_step (f := fun s => s.piece bs 2) (x := [76, 80]) (Rs.piece_fw bs [76, 80]) (Rs.piece_ct bs [76, 80]) hk d0 b0 with h | ⟨n1, c1, e0, d1, hk1, b1⟩
  · refine z0 ?_
    unfold Pl.head
    split
    · exact h
    · exact Rs.fail_some _ _ _ h
  have e0 : Rs.piece bs 2 ⟨0, none⟩ = ([76, 80], ⟨n1, none⟩) := e0
  have E0 : Pl.head bs = ⟨n1, none⟩ := by
    unfold Pl.head
    rw [e0, if_pos rfl]
  clear z0 d0 e0 hbs hk
  rcases ct_step (f := fun s => s.signed bs) (x := p.size) (Rs.signed_fw bs p.size f0) (Rs.signed_ct bs _) hk1 d1 b1 with h | ⟨n2, c2, e1, d2, hk2, b2⟩
  · refine z1 ?_
    unfold Pl.p1
    rw [E0]
    exact h
  have E1 : Pl.p1 bs = (p.size, ⟨n2, none⟩) := by
    unfold Pl.p1
    rw [E0]
    exact e1
  clear z1 e1 d1 hk1 b1 E0
  rcases ct_step (f := fun s => s.count bs 2 128 3) (x := p.vs.length) (Rs.count_fw bs 2 128 3 p.vs.length lv1 hv1) (Rs.count_ct bs 2 128 3 _) hk2 d2 b2 with h | ⟨n3, c3, e2, d3, hk3, b3⟩
  · refine z2 ?_
    unfold Pl.p2
    rw [E1]
    exact h
  have E2 : Pl.p2 bs = (p.vs.length, ⟨n3, none⟩) := by
    unfold Pl.p2
    rw [E1]
    exact e2
  clear z2 e2 d2 hk2 b2 E1
  rcases ct_step (f := Rs.rep (Rs.view bs) p.vs.length) (x := p.vs.map Vw.pl) (Rs.rep_fw bs (Rs.view bs) Pl.vbytes p.vs.length (p.vs.map Vw.pl) (List.length_map _) (fun i x hx => fv x (List.mem_of_getElem? hx) i)) (Rs.rep_ct bs (Rs.view bs) Pl.vbytes (Rs.view_st bs) p.vs.length (p.vs.map Vw.pl) (List.length_map _) (fun i x hx => fv x (List.mem_of_getElem? hx) i) (fun i x hx => cv x (List.mem_of_getElem? hx) i)) hk3 d3 b3 with h | ⟨n4, c4, e3, d4, hk4, b4⟩
  · refine z3 ?_
    unfold Pl.p3
    rw [E2]
    exact h
  have E3 : Pl.p3 bs = (p.vs.map Vw.pl, ⟨n4, none⟩) := by
    unfold Pl.p3
    rw [E2]
    exact e3
  clear z3 e3 d3 hk3 b3 E2
  rcases ct_step (f := fun s => s.count bs 2 64 3) (x := p.cs.length) (Rs.count_fw bs 2 64 3 p.cs.length lv2 hv2) (Rs.count_ct bs 2 64 3 _) hk4 d4 b4 with h | ⟨n5, c5, e4, d5, hk5, b5⟩
  · refine z4 ?_
    unfold Pl.p4
    rw [E3]
    exact h
  have E4 : Pl.p4 bs = (p.cs.length, ⟨n5, none⟩) := by
    unfold Pl.p4
    rw [E3]
    exact e4
  clear z4 e4 d4 hk4 b4 E3
  rcases ct_step (f := Rs.rep (Rs.tens bs) p.cs.length) (x := p.cs.map Ten.pl) (Rs.rep_fw bs (Rs.tens bs) Pl.tbytes p.cs.length (p.cs.map Ten.pl) (List.length_map _) (fun i x hx => ft x (List.mem_of_getElem? hx) i)) (Rs.rep_ct bs (Rs.tens bs) Pl.tbytes (Rs.tens_st bs) p.cs.length (p.cs.map Ten.pl) (List.length_map _) (fun i x hx => ft x (List.mem_of_getElem? hx) i) (fun i x hx => ct x (List.mem_of_getElem? hx) i)) hk5 d5 b5 with h | ⟨n6, c6, e5, d6, hk6, b6⟩
  · refine z5 ?_
    unfold Pl.p5
    rw [E4]
    exact h
  have E5 : Pl.p5 bs = (p.cs.map Ten.pl, ⟨n6, none⟩) := by
    unfold Pl.p5
    rw [E4]
    exact e5
  clear z5 e5 d5 hk5 b5 E4
  rcases ct_step (f := fun s => s.count bs 2 8 3) (x := p.ls.length) (Rs.count_fw bs 2 8 3 p.ls.length lv3 hv3) (Rs.count_ct bs 2 8 3 _) hk6 d6 b6 with h | ⟨n7, c7, e6, d7, hk7, b7⟩
  · refine z6 ?_
    unfold Pl.p6
    rw [E5]
    exact h
  have E6 : Pl.p6 bs = (p.ls.length, ⟨n7, none⟩) := by
    unfold Pl.p6
    rw [E5]
    exact e6
  clear z6 e6 d6 hk6 b6 E5
  rcases ct_step (f := Rs.rep (Rs.dsc bs) p.ls.length) (x := p.ls.map Dsc.pl) (Rs.rep_fw bs (Rs.dsc bs) Pl.dbytes p.ls.length (p.ls.map Dsc.pl) (List.length_map _) (fun i x hx => fd x (List.mem_of_getElem? hx) i)) (Rs.rep_ct bs (Rs.dsc bs) Pl.dbytes (fun _ => Rs.desc_st bs) p.ls.length (p.ls.map Dsc.pl) (List.length_map _) (fun i x hx => fd x (List.mem_of_getElem? hx) i) (fun i x hx => cd x (List.mem_of_getElem? hx) i)) hk7 d7 b7 with h | ⟨n8, c8, e7, d8, hk8, b8⟩
  · refine z7 ?_
    unfold Pl.p7
    rw [E6]
    exact h
  have E7 : Pl.p7 bs = (p.ls.map Dsc.pl, ⟨n8, none⟩) := by
    unfold Pl.p7
    rw [E6]
    exact e7
  clear z7 e7 d7 hk7 b7 E6
  rcases ct_step (f := fun s => s.count bs 2 2048 3) (x := p.is.length) (Rs.count_fw bs 2 2048 3 p.is.length lv4 hv4) (Rs.count_ct bs 2 2048 3 _) hk8 d8 b8 with h | ⟨n9, c9, e8, d9, hk9, b9⟩
  · refine z8 ?_
    unfold Pl.p8
    rw [E7]
    exact h
  have E8 : Pl.p8 bs = (p.is.length, ⟨n9, none⟩) := by
    unfold Pl.p8
    rw [E7]
    exact e8
  clear z8 e8 d8 hk8 b8 E7
  rcases ct_step (f := Rs.rep (Rs.ins bs) p.is.length) (x := p.is.map Ins.pl) (Rs.rep_fw bs (Rs.ins bs) InP.bytes p.is.length (p.is.map Ins.pl) (List.length_map _) (fun i x hx => Rs.instr_fw bs x (gi x (List.mem_of_getElem? hx)) i)) (Rs.rep_ct bs (Rs.ins bs) InP.bytes (Rs.ins_st bs) p.is.length (p.is.map Ins.pl) (List.length_map _) (fun i x hx => Rs.instr_fw bs x (gi x (List.mem_of_getElem? hx)) i) (fun i x hx => Rs.ins_ct bs x (gi x (List.mem_of_getElem? hx)) i)) hk9 d9 b9 with h | ⟨n10, c10, e9, d10, hk10, b10⟩
  · refine z9 ?_
    unfold Pl.p9
    rw [E8]
    exact h
  have E9 : Pl.p9 bs = (p.is.map Ins.pl, ⟨n10, none⟩) := by
    unfold Pl.p9
    rw [E8]
    exact e9
  clear z9 e9 d9 hk9 b9 E8
  rcases ct_step (f := fun s => s.signed bs) (x := p.inp) (Rs.signed_fw bs p.inp f5) (Rs.signed_ct bs _) hk10 d10 b10 with h | ⟨n11, c11, e10, d11, hk11, b11⟩
  · refine z10 ?_
    unfold Pl.p10
    rw [E9]
    exact h
  have E10 : Pl.p10 bs = (p.inp, ⟨n11, none⟩) := by
    unfold Pl.p10
    rw [E9]
    exact e10
  clear z10 e10 d10 hk10 b10 E9
  rcases ct_step (f := fun s => s.signed bs) (x := p.out) (Rs.signed_fw bs p.out f6) (Rs.signed_ct bs _) hk11 d11 b11 with h | ⟨n12, c12, e11, d12, hk12, b12⟩
  · refine z11 ?_
    unfold Pl.p11
    rw [E10]
    exact h
  exact absurd hk12 (Nat.not_lt_zero _)
/-- Cut off anywhere they end too early. -/
theorem Pl.cut (p : Pn) (hf : Pl.fault p = none) (k : Nat) (hk : k < (Pl.bytes p.pl).length) : (Pl.p12 ((Pl.bytes p.pl).take k)).e = some (none, 4) :=
  Pl.cut_core p (Pl.fine_of hf) _ k hk rfl
end Go.Proofs.YthjnkaikjjjceaaDoor
