/-
  A plan in the making: what each method leaves of it, one more behind its parts. By an AI agent. No person has read it.
-/
import Derived.Test.YthjnkaikjjjceaaDoorPkPlnG
namespace Go.Proofs.YthjnkaikjjjceaaDoor
open Go.RowKit
/-- The answer. -/
def ReadIs (W w' : World) (es : List Addr) (bs : List Nat) (e : Ending) : Prop :=
  ∃ (p : Pn) (ev : Value), e = .returned (.tuple #[.agg p.vals.toArray, ev]) ∧ p.pl = Pl.read bs ∧ Pw W.heap.size 0 w' p ∧ EV w'.heap.size w' es (Pl.p12 bs).e ev
theorem bytes_loop (bs : ByteArray) : ∀ (n i : Nat) (r : List UInt8), bs.data.size - i = n → ByteArray.toList.loop bs i r = r.reverse ++ bs.data.toList.drop i := by
  intro n
  induction n with
  | zero =>
    intro i r h
    unfold ByteArray.toList.loop
    have hs : bs.size = bs.data.size := rfl
    rw [if_neg (by omega), List.drop_eq_nil_of_le (by rw [Array.length_toList]; omega), List.append_nil]
  | succ n ih =>
    intro i r h
    unfold ByteArray.toList.loop
    have hs : bs.size = bs.data.size := rfl
    have hlt : i < bs.data.size := by omega
    rw [if_pos (by omega), ih (i + 1) _ (by omega), List.reverse_cons, List.append_assoc]
    congr 1
    rw [List.drop_eq_getElem_cons (i := i) (by rw [Array.length_toList]; exact hlt)]
    simp [ByteArray.get!]
    exact getElem!_pos bs.data i hlt
theorem bytes_list (bs : ByteArray) : bs.toList = bs.data.toList := by
  unfold ByteArray.toList
  rw [bytes_loop bs _ 0 [] rfl]
  simp
theorem bytes_ext (a b : ByteArray) (h : a.toList = b.toList) : a = b := by
  rw [bytes_list, bytes_list] at h
  have h := Array.toList_inj.1 h
  cases a
  cases b
  exact congrArg ByteArray.mk h
theorem string_ne (a b : ByteArray) (h : ¬ a = b) (w : World) : (binOp .neq 9 (.string a) (.string b)).run Tryd.prog w = .ok (.bool true) w := by
  have h1 : (a.toList == b.toList) = false := by
    rw [beq_eq_false_iff_ne]
    exact fun e => h (bytes_ext a b e)
  rw [binOp_string_neq, h1]
  rfl
theorem string_guard (a b : ByteArray) (j : Tmp) (w : World) : (eqGuard .neq 9 (Operand.tmp j) (Operand.const (.string b)) (.string a) (.string b)).run Tryd.prog w = .ok () w := by kernel_rfl
section
variable {W : World} {A : Option Addr} {bs : List Nat} {cap : Nat} {es : List Addr} {ae am ak : Addr}
/-- What the methods leave of a plan in the making. -/
theorem PS.count (hX : Rx W A bs cap es ae am ak) {X : World} {b : Nat} {p : Pn} {s : Rs} (h : PS W X b A bs cap es p s) (most : Nat) :
    X.cell? ⟨1, 0, none⟩ = some (errv am) ∧ Calls Tryd.prog 36 #[.pointer (some ⟨W.heap.size + 1, 0, none⟩), .int .i64 2, .int .i64 (most : Int), errv am] X fun e w' => e = .returned (.int .i64 (((s.count bs 2 most 3).1 : Nat) : Int)) ∧ PS W w' b A bs cap es p (s.count bs 2 most 3).2 := by
  refine ⟨((hX.at_ h.bl).2.2.2 3 _ am rfl hX.im).1, (count_m hX (W.heap.size + 1) 2 most 3 s am hX.im X (by omega) (by omega) (Nat.le_succ _) h.bl h.rd).mono ?_⟩
  rintro e w' ⟨h1, h2, h3⟩
  exact ⟨h1, h.call h2 h3⟩
theorem PS.signed (hX : Rx W A bs cap es ae am ak) {X : World} {b : Nat} {p : Pn} {s : Rs} (h : PS W X b A bs cap es p s) :
    Calls Tryd.prog 35 #[.pointer (some ⟨W.heap.size + 1, 0, none⟩)] X fun e w' => e = .returned (.int .i64 (s.signed bs).1) ∧ PS W w' b A bs cap es p (s.signed bs).2 := by
  refine (signed_m hX _ (W.heap.size + 1) s X (Nat.le_succ _) h.bl h.rd).mono ?_
  rintro e w' ⟨h1, h2, h3⟩
  exact ⟨h1, h.call h2.tight h3⟩
theorem PS.desc (hX : Rx W A bs cap es ae am ak) {X : World} {b : Nat} {p : Pn} {s : Rs} (h : PS W X b A bs cap es p s) :
    Calls Tryd.prog 37 #[.pointer (some ⟨W.heap.size + 1, 0, none⟩)] X fun e w' => (∃ d : Dsc, e = .returned (.agg d.vals.toArray) ∧ d.pl = (s.desc bs).1 ∧ d.Io 0 w') ∧ PS W w' b A bs cap es p (s.desc bs).2 := by
  refine (desc_m hX (W.heap.size + 1) s X (Nat.le_succ _) h.bl h.rd).mono ?_
  rintro e w' ⟨⟨d, h1, h2, h3⟩, h4, h5⟩
  refine ⟨⟨d, h1, h2, h3.less (Nat.zero_le _), ?_⟩, h.call h4 h5⟩
  have e1 : d.zs = (s.desc bs).1.1 := congrArg Prod.fst h2
  rw [e1]
  unfold Rs.desc
  dsimp only
  rw [Rs.rep_len]
  omega
theorem PS.instr (hX : Rx W A bs cap es ae am ak) {X : World} {b : Nat} {p : Pn} {s : Rs} (h : PS W X b A bs cap es p s) :
    Calls Tryd.prog 41 #[.pointer (some ⟨W.heap.size + 1, 0, none⟩)] X fun e w' => (∃ n : Ins, e = .returned (.agg n.vals.toArray) ∧ n.pl = (s.instr bs).1 ∧ n.Io 0 w') ∧ PS W w' b A bs cap es p (s.instr bs).2 := by
  refine (instr_m hX (W.heap.size + 1) s X (Nat.le_succ _) h.bl h.rd).mono ?_
  rintro e w' ⟨⟨n, h1, h2, h3⟩, h4, h5⟩
  exact ⟨⟨n, h1, h2, h3.less (Nat.zero_le _)⟩, h.call h4 h5⟩
/-- The plan while its views, .. come. -/
def Pn.p1 (z : Int) (V : Option Addr) (vs : List Vw) (vc : Nat) : Pn := ⟨z, V, vs, vc, none, [], 0, none, [], 0, none, [], 0, 0, 0⟩
def Pn.p2 (z : Int) (V : Option Addr) (vs : List Vw) (vc : Nat) (C : Option Addr) (cs : List Ten) (cc : Nat) : Pn := ⟨z, V, vs, vc, C, cs, cc, none, [], 0, none, [], 0, 0, 0⟩
def Pn.p3 (z : Int) (V : Option Addr) (vs : List Vw) (vc : Nat) (C : Option Addr) (cs : List Ten) (cc : Nat) (L : Option Addr) (ls : List Dsc) (lc : Nat) : Pn := ⟨z, V, vs, vc, C, cs, cc, L, ls, lc, none, [], 0, 0, 0⟩
def Pn.p4 (z : Int) (V : Option Addr) (vs : List Vw) (vc : Nat) (C : Option Addr) (cs : List Ten) (cc : Nat) (L : Option Addr) (ls : List Dsc) (lc : Nat) (K : Option Addr) (is : List Ins) (kc : Nat) : Pn := ⟨z, V, vs, vc, C, cs, cc, L, ls, lc, K, is, kc, 0, 0⟩
/-- One behind the others. -/
theorem PS.addV {X Y : World} {b i : Nat} {s : Rs} {z : Int} {V P2 : Option Addr} {vs : List Vw} {vc c2 : Nat} (x : Vw) (h : PS W X b A bs cap es (Pn.p1 z V vs vc) s) (hx : x.Io 0 X) (hi : vs.length = i)
    (h1 : Y.ownsRow W.heap.size 61 3 (.slice P2 (i + 1) c2) (i + 1) (vs.flatMap Vw.vals ++ x.vals)) (h2 : X.grownBy Y (Value.slice V i vc).ownBlock) :
    Y.cell? ⟨b, 1, none⟩ = some (.slice V i vc) ∧ Y.frozen? ⟨b, 1, none⟩ = false ∧ b < Y.heap.size ∧ Hid (PS W (Y.setCell ⟨b, 1, none⟩ (.slice P2 (i + 1) c2)) b A bs cap es (Pn.p1 z P2 (vs ++ [x]) c2) s) := by
  subst hi
  have ho : X.ownsRow W.heap.size 61 3 (.slice V vs.length vc) vs.length (vs.flatMap Vw.vals) := h.pw.V
  obtain ⟨a1, a2, a3, a4⟩ := h.row ho (.inr (Nat.le_refl _)) h2 (by decide) (by decide) (by decide)
  have hni : NotT X (Value.slice V vs.length vc).ownBlock 3 := NotT.own ho (by decide)
  refine ⟨a2.cell 1, a2.frozen 1, a2.lt, hide ?_⟩
  have hl : (vs ++ [x]).length = vs.length + 1 := by simp
  have hpw : Pw W.heap.size 0 Y (Pn.p1 z P2 (vs ++ [x]) c2) := by
    refine ⟨?_, ?_, World.ownsRow_nil _ _ _ _, fun v hv => by simp [Pn.p1] at hv, World.ownsRow_nil _ _ _ _, fun v hv => by simp [Pn.p1] at hv, World.ownsRow_nil _ _ _ _, fun v hv => by simp [Pn.p1] at hv⟩
    · show Y.ownsRow W.heap.size 61 3 (.slice P2 (vs ++ [x]).length c2) (vs ++ [x]).length ((vs ++ [x]).flatMap Vw.vals)
      rw [hl, List.flatMap_append, List.flatMap_cons, List.flatMap_nil, List.append_nil]
      exact h1
    · intro v hv
      rcases List.mem_append.1 hv with hv | hv
      · exact (h.pw.vs v hv).grown h2 hni
      · rw [List.mem_singleton.1 hv]
        exact hx.grown h2 hni
  have hv : (Pn.p1 z V vs vc).vals.set 1 (.slice P2 (vs.length + 1) c2) = (Pn.p1 z P2 (vs ++ [x]) c2).vals := by
    unfold Pn.vals Pn.p1
    dsimp only
    rw [hl]
    rfl
  exact PS.store2 a1 a2 a3 a4 h.hb 1 _ hv hpw
/-- One behind the others. -/
theorem PS.addC {X Y : World} {b i : Nat} {s : Rs} {z : Int} {V C P2 : Option Addr} {vs : List Vw} {cs : List Ten} {vc cc c2 : Nat} (x : Ten) (h : PS W X b A bs cap es (Pn.p2 z V vs vc C cs cc) s) (hx : x.Io 0 X) (hi : cs.length = i)
    (h1 : Y.ownsRow W.heap.size 70 3 (.slice P2 (i + 1) c2) (i + 1) (cs.flatMap Ten.vals ++ x.vals)) (h2 : X.grownBy Y (Value.slice C i cc).ownBlock) :
    Y.cell? ⟨b, 2, none⟩ = some (.slice C i cc) ∧ Y.frozen? ⟨b, 2, none⟩ = false ∧ b < Y.heap.size ∧ Hid (PS W (Y.setCell ⟨b, 2, none⟩ (.slice P2 (i + 1) c2)) b A bs cap es (Pn.p2 z V vs vc P2 (cs ++ [x]) c2) s) := by
  subst hi
  have ho : X.ownsRow W.heap.size 70 3 (.slice C cs.length cc) cs.length (cs.flatMap Ten.vals) := h.pw.C
  obtain ⟨a1, a2, a3, a4⟩ := h.row ho (.inr (Nat.le_refl _)) h2 (by decide) (by decide) (by decide)
  have hni : NotT X (Value.slice C cs.length cc).ownBlock 3 := NotT.own ho (by decide)
  refine ⟨a2.cell 2, a2.frozen 2, a2.lt, hide ?_⟩
  have hl : (cs ++ [x]).length = cs.length + 1 := by simp
  have hpw : Pw W.heap.size 0 Y (Pn.p2 z V vs vc P2 (cs ++ [x]) c2) := by
    refine ⟨own_not h.pw.V h2 (NotT.own ho (by decide)), fun v hv => (h.pw.vs v hv).grown h2 hni, ?_, ?_, World.ownsRow_nil _ _ _ _, fun v hv => by simp [Pn.p2] at hv, World.ownsRow_nil _ _ _ _, fun v hv => by simp [Pn.p2] at hv⟩
    · show Y.ownsRow W.heap.size 70 3 (.slice P2 (cs ++ [x]).length c2) (cs ++ [x]).length ((cs ++ [x]).flatMap Ten.vals)
      rw [hl, List.flatMap_append, List.flatMap_cons, List.flatMap_nil, List.append_nil]
      exact h1
    · intro v hv
      rcases List.mem_append.1 hv with hv | hv
      · exact (h.pw.cs v hv).grown h2 hni
      · rw [List.mem_singleton.1 hv]
        exact hx.grown h2 hni
  have hv : (Pn.p2 z V vs vc C cs cc).vals.set 2 (.slice P2 (cs.length + 1) c2) = (Pn.p2 z V vs vc P2 (cs ++ [x]) c2).vals := by
    unfold Pn.vals Pn.p2
    dsimp only
    rw [hl]
    rfl
  exact PS.store2 a1 a2 a3 a4 h.hb 2 _ hv hpw
/-- One behind the others. -/
theorem PS.addL {X Y : World} {b i : Nat} {s : Rs} {z : Int} {V C L P2 : Option Addr} {vs : List Vw} {cs : List Ten} {ls : List Dsc} {vc cc lc c2 : Nat} (x : Dsc) (h : PS W X b A bs cap es (Pn.p3 z V vs vc C cs cc L ls lc) s) (hx : x.Io 0 X) (hi : ls.length = i)
    (h1 : Y.ownsRow W.heap.size 59 2 (.slice P2 (i + 1) c2) (i + 1) (ls.flatMap Dsc.vals ++ x.vals)) (h2 : X.grownBy Y (Value.slice L i lc).ownBlock) :
    Y.cell? ⟨b, 3, none⟩ = some (.slice L i lc) ∧ Y.frozen? ⟨b, 3, none⟩ = false ∧ b < Y.heap.size ∧ Hid (PS W (Y.setCell ⟨b, 3, none⟩ (.slice P2 (i + 1) c2)) b A bs cap es (Pn.p3 z V vs vc C cs cc P2 (ls ++ [x]) c2) s) := by
  subst hi
  have ho : X.ownsRow W.heap.size 59 2 (.slice L ls.length lc) ls.length (ls.flatMap Dsc.vals) := h.pw.L
  obtain ⟨a1, a2, a3, a4⟩ := h.row ho (.inr (Nat.le_refl _)) h2 (by decide) (by decide) (by decide)
  have hni : NotT X (Value.slice L ls.length lc).ownBlock 3 := NotT.own ho (by decide)
  refine ⟨a2.cell 3, a2.frozen 3, a2.lt, hide ?_⟩
  have hl : (ls ++ [x]).length = ls.length + 1 := by simp
  have hpw : Pw W.heap.size 0 Y (Pn.p3 z V vs vc C cs cc P2 (ls ++ [x]) c2) := by
    refine ⟨own_not h.pw.V h2 (NotT.own ho (by decide)), fun v hv => (h.pw.vs v hv).grown h2 hni, own_not h.pw.C h2 (NotT.own ho (by decide)), fun v hv => (h.pw.cs v hv).grown h2 hni, ?_, ?_, World.ownsRow_nil _ _ _ _, fun v hv => by simp [Pn.p3] at hv⟩
    · show Y.ownsRow W.heap.size 59 2 (.slice P2 (ls ++ [x]).length c2) (ls ++ [x]).length ((ls ++ [x]).flatMap Dsc.vals)
      rw [hl, List.flatMap_append, List.flatMap_cons, List.flatMap_nil, List.append_nil]
      exact h1
    · intro v hv
      rcases List.mem_append.1 hv with hv | hv
      · exact (h.pw.ls v hv).grown h2 hni
      · rw [List.mem_singleton.1 hv]
        exact hx.grown h2 hni
  have hv : (Pn.p3 z V vs vc C cs cc L ls lc).vals.set 3 (.slice P2 (ls.length + 1) c2) = (Pn.p3 z V vs vc C cs cc P2 (ls ++ [x]) c2).vals := by
    unfold Pn.vals Pn.p3
    dsimp only
    rw [hl]
    rfl
  exact PS.store2 a1 a2 a3 a4 h.hb 3 _ hv hpw
/-- One behind the others. -/
theorem PS.addK {X Y : World} {b i : Nat} {s : Rs} {z : Int} {V C L K P2 : Option Addr} {vs : List Vw} {cs : List Ten} {ls : List Dsc} {is : List Ins} {vc cc lc kc c2 : Nat} (x : Ins) (h : PS W X b A bs cap es (Pn.p4 z V vs vc C cs cc L ls lc K is kc) s) (hx : x.Io 0 X) (hi : is.length = i)
    (h1 : Y.ownsRow W.heap.size 48 6 (.slice P2 (i + 1) c2) (i + 1) (is.flatMap Ins.vals ++ x.vals)) (h2 : X.grownBy Y (Value.slice K i kc).ownBlock) :
    Y.cell? ⟨b, 4, none⟩ = some (.slice K i kc) ∧ Y.frozen? ⟨b, 4, none⟩ = false ∧ b < Y.heap.size ∧ Hid (PS W (Y.setCell ⟨b, 4, none⟩ (.slice P2 (i + 1) c2)) b A bs cap es (Pn.p4 z V vs vc C cs cc L ls lc P2 (is ++ [x]) c2) s) := by
  subst hi
  have ho : X.ownsRow W.heap.size 48 6 (.slice K is.length kc) is.length (is.flatMap Ins.vals) := h.pw.K
  obtain ⟨a1, a2, a3, a4⟩ := h.row ho (.inr (Nat.le_refl _)) h2 (by decide) (by decide) (by decide)
  have hni : NotT X (Value.slice K is.length kc).ownBlock 3 := NotT.own ho (by decide)
  refine ⟨a2.cell 4, a2.frozen 4, a2.lt, hide ?_⟩
  have hl : (is ++ [x]).length = is.length + 1 := by simp
  have hpw : Pw W.heap.size 0 Y (Pn.p4 z V vs vc C cs cc L ls lc P2 (is ++ [x]) c2) := by
    refine ⟨own_not h.pw.V h2 (NotT.own ho (by decide)), fun v hv => (h.pw.vs v hv).grown h2 hni, own_not h.pw.C h2 (NotT.own ho (by decide)), fun v hv => (h.pw.cs v hv).grown h2 hni, own_not h.pw.L h2 (NotT.own ho (by decide)), fun v hv => (h.pw.ls v hv).grown h2 hni, ?_, ?_⟩
    · show Y.ownsRow W.heap.size 48 6 (.slice P2 (is ++ [x]).length c2) (is ++ [x]).length ((is ++ [x]).flatMap Ins.vals)
      rw [hl, List.flatMap_append, List.flatMap_cons, List.flatMap_nil, List.append_nil]
      exact h1
    · intro v hv
      rcases List.mem_append.1 hv with hv | hv
      · exact (h.pw.is v hv).grown h2 hni
      · rw [List.mem_singleton.1 hv]
        exact hx.grown h2 hni
  have hv : (Pn.p4 z V vs vc C cs cc L ls lc K is kc).vals.set 4 (.slice P2 (is.length + 1) c2) = (Pn.p4 z V vs vc C cs cc L ls lc P2 (is ++ [x]) c2).vals := by
    unfold Pn.vals Pn.p4
    dsimp only
    rw [hl]
    rfl
  exact PS.store2 a1 a2 a3 a4 h.hb 4 _ hv hpw
theorem PS.below {X Y : World} {b : Nat} {p : Pn} {s : Rs} (h : PS W X b A bs cap es p s) (hb : Below X.heap.size X Y) : PS W Y b A bs cap es p s := h.same ⟨hb.os, hb.tape, hb.output, hb.size, fun k hk _ => hb.block k hk⟩
theorem PS.rest (hX : Rx W A bs cap es ae am ak) {X : World} {b : Nat} {p : Pn} {s : Rs} (h : PS W X b A bs cap es p s) :
    Calls Tryd.prog 39 #[.pointer (some ⟨W.heap.size + 1, 0, none⟩)] X fun e w' => RbOut w' e (s.rest bs) ∧ PS W w' b A bs cap es p s := by
  refine (rest_m hX _ (W.heap.size + 1) s X h.bl h.rd).mono ?_
  rintro e w' ⟨h1, h2, h3⟩
  exact ⟨h1, h.same h3⟩
theorem Rs.rest_len (bs : List Nat) (s : Rs) : (s.rest bs).length ≤ bs.length := by
  unfold Rs.rest
  split
  · rw [List.length_drop]; omega
  · simp
theorem has_io {w : World} {g : Nat} {zs : List Int} {rest : List Value} (h : Has w g 3 (i64s zs ++ rest)) (hw : ∀ z ∈ zs, (Lit.int .i64 z).wf = true) : Io 0 w (some ⟨g, 0, none⟩) zs := ⟨hw, fun _ => ⟨g, rest, rfl, Nat.zero_le _, h⟩⟩
theorem tread_o (es : List Addr) (ah am ar ae ak : Addr) (hes : TErrs es ah am ar ae ak) (bs : List Nat) (A : Option Addr) (cap : Nat) (w : World) (hB : Rb w A bs) (hc : bs.length ≤ cap) (hl : bs.length ≤ 1000000) (hZ : Ey w es) :
    Calls Tryd.prog 38 #[.slice A bs.length cap] w fun e w' =>
      (∃ (t : Ten) (ev : Value), e = .returned (.tuple #[.agg #[.slice t.P t.zs.length t.cap, .bool t.u, .slice t.D t.ds.length t.dcap], .int .i64 ((Tens.ren bs : Nat) : Int), ev]) ∧ t.pl = (Tens.rez bs, Tens.reu bs, Tens.red bs) ∧ t.Io 0 w' ∧ ErrK es (Tens.rcode bs) ev) ∧ Below w.heap.size w w' := by
  have hdw := Tens.rdims_wf bs hB.1
  have hcut : ∀ b ∈ (bs.take (Tens.rn bs + Tens.rs bs)).drop (Tens.rn bs), b < 256 := fun b hb => hB.1 b (List.mem_of_mem_take (List.mem_of_mem_drop hb))
  have hnw := Tens.nums_wf (Tens.ru bs) _ hcut
  have hnl : (Tens.nums (Tens.ru bs) ((bs.take (Tens.rn bs + Tens.rs bs)).drop (Tens.rn bs))).length ≤ 1000000 := by
    refine Nat.le_trans (Tens.nums_le _ _) ?_
    rw [List.length_drop, List.length_take]
    omega
  have hks := Tens.rcode_is bs
  refine (tread_c bs A cap am ar ae ak w hB hc hl (hes.e3y hZ).2 (hes.endy hZ) (hes.kindy hZ)).mono ?_
  rintro e w' ⟨h1, h2, hb⟩
  refine ⟨?_, hb⟩
  unfold Tens.rez Tens.reu Tens.red Tens.ren
  by_cases hk : Tens.rcode bs = 0
  · obtain ⟨g, c, rest, gd, ns, rfl, rfl, hg, hgd⟩ := h1 hk
    rw [hk]
    refine ⟨⟨some ⟨g, 0, none⟩, Tens.rdims bs, c, Tens.ru bs, some ⟨gd, 0, none⟩, _, _⟩, _, rfl, rfl, ⟨has_io hg hdw.1, has_io (rest := []) (by rw [List.append_nil]; exact hgd) hnw, hdw.2, hnl⟩, .inl ⟨rfl, rfl⟩⟩
  · have h3 := h2 hk
    rw [if_neg hk, if_neg hk, if_neg hk, if_neg hk]
    refine ⟨⟨none, [], 0, false, none, [], 0⟩, _, h3, rfl, ⟨Io.nil _ _ _, Io.nil _ _ _, by simp, by simp⟩, .inr ?_⟩
    rcases hks with h | h | h | h | h
    · exact absurd h hk
    · exact ⟨1, ar, hes.2.2.1, by rw [h]; rfl, h⟩
    · exact ⟨2, ak, hes.2.2.2.2, by rw [h]; rfl, h⟩
    · exact ⟨3, am, hes.2.1, by rw [h]; rfl, h⟩
    · exact ⟨4, ae, hes.2.2.2.1, by rw [h]; rfl, h⟩
theorem PS.tread (hX : Rx W A bs cap es ae am ak) {ah ar : Addr} (hes : TErrs es ah am ar ae ak) {X : World} {b : Nat} {p : Pn} {s : Rs} (h : PS W X b A bs cap es p s) (A2 : Option Addr) (c2 : Nat) (hr : Rb X A2 (s.rest bs)) (hc : (s.rest bs).length ≤ c2) :
    Calls Tryd.prog 38 #[.slice A2 (s.rest bs).length c2] X fun e w' =>
      (∃ (t : Ten) (ev : Value), e = .returned (.tuple #[.agg #[.slice t.P t.zs.length t.cap, .bool t.u, .slice t.D t.ds.length t.dcap], .int .i64 ((Tens.ren (s.rest bs) : Nat) : Int), ev]) ∧ t.pl = (Tens.rez (s.rest bs), Tens.reu (s.rest bs), Tens.red (s.rest bs)) ∧ t.Io 0 w' ∧ ErrK es (Tens.rcode (s.rest bs)) ev) ∧ PS W w' b A bs cap es p s := by
  refine (tread_o es ah am ar ae ak hes (s.rest bs) A2 c2 X hr hc (Nat.le_trans (Rs.rest_len bs s) hX.hl) (hX.at_ h.bl).2).mono ?_
  rintro e w' ⟨h1, h2⟩
  exact ⟨h1, h.below h2⟩
theorem Tens.ren_le (bs : List Nat) : (Tens.rcode bs = 0 → 1 ≤ Tens.ren bs) ∧ Tens.ren bs ≤ 1000000000 := by
  have h1 : 1 ≤ Tens.rn bs ∧ Tens.rn bs ≤ 15 := by
    match bs with
    | [] => exact ⟨Nat.le_refl _, by show 1 ≤ 15; omega⟩
    | h :: t => show 1 ≤ 1 + 2 * (h % 8) ∧ 1 + 2 * (h % 8) ≤ 15; omega
  have h2 := Shp.size_le (Tens.rdims bs) (Tens.ru bs)
  unfold Tens.ren Tens.rs
  split <;> omega
theorem PS.took (hX : Rx W A bs cap es ae am ak) {X : World} {b : Nat} {p : Pn} {s : Rs} (h : PS W X b A bs cap es p s) (r : List Nat) (i : Nat) (ev : Value) (hk : ErrK es (Tens.rcode r) ev) :
    Calls Tryd.prog 40 #[.pointer (some ⟨W.heap.size + 1, 0, none⟩), .int .i64 ((Tens.ren r : Nat) : Int), ev, .int .i64 (i : Int)] X fun e w' => (∃ x, e = .returned x) ∧ PS W w' b A bs cap es p (s.took bs (Tens.ren r) (Tens.rcode r) i) ∧ X.grownBy w' (some (W.heap.size + 1)) := by
  refine (took_m hX (W.heap.size + 1) (Tens.ren r) (Tens.rcode r) i ev s X (Tens.ren_le r).1 (Tens.ren_le r).2 hk (Nat.le_succ _) h.bl h.rd).mono ?_
  rintro e w' ⟨h1, h2, h3⟩
  exact ⟨h1, h.call h2 h3, h3⟩
theorem PS.ended (hX : Rx W A bs cap es ae am ak) {X : World} {b : Nat} {p : Pn} {s : Rs} (h : PS W X b A bs cap es p s) :
    Calls Tryd.prog 42 #[.pointer (some ⟨W.heap.size + 1, 0, none⟩)] X fun e w' => (∃ x, e = .returned x) ∧ PS W w' b A bs cap es p (s.end_ bs) := by
  refine (end_m hX (W.heap.size + 1) s X (Nat.le_succ _) h.bl h.rd).mono ?_
  rintro e w' ⟨h1, h2, h3⟩
  exact ⟨h1, h.call h2 h3⟩
theorem PS.err {X : World} {b : Nat} {p : Pn} {s : Rs} (h : PS W X b A bs cap es p s) :
    ∃ v, EV X.heap.size X es s.e v ∧ Calls Tryd.prog 43 #[.pointer (some ⟨W.heap.size + 1, 0, none⟩)] X fun e w' => e = .returned v ∧ w' = X := by
  obtain ⟨_, v, h1, h2⟩ := h.rd
  exact ⟨v, h2, rerr_c _ _ _ v X h1⟩
theorem results_plan2 {fn : Func} {p u : Tmp} (h : fn.results = #[.cell p 27, .tmp u]) (tmps : Array Value) (w : World) (g : Nat) (a0 a1 a2 a3 a4 a5 a6 : Value)
    (hp : tmps.getD p undef = .pointer (some ⟨g, 0, none⟩)) (hg : Has w g 27 [a0, a1, a2, a3, a4, a5, a6]) : (results fn tmps).run Tryd.prog w = .ok (.tuple #[.agg #[a0, a1, a2, a3, a4, a5, a6], tmps.getD u undef]) w := by
  simp only [results, h]
  have h1 := run_loadVar_row (P := Tryd.prog) w g 27 27 #[a0, a1, a2, a3, a4, a5, a6] (0, 0) _ hg Tryd.underlying27 rfl (by kernel_rfl)
  rw [Array.getD_eq_getD_getElem?] at hp
  simp [Result.andThen, hp, asAddr, h1]
/-- The empty plan with a size. -/
def Pn.of (z : Int) : Pn := ⟨z, none, [], 0, none, [], 0, none, [], 0, none, [], 0, 0, 0⟩
theorem Pw.of (base eb : Nat) (w : World) (z : Int) : Pw base eb w (Pn.of z) :=
  ⟨World.ownsRow_nil _ _ _ _, fun v hv => by simp [Pn.of] at hv, World.ownsRow_nil _ _ _ _, fun v hv => by simp [Pn.of] at hv, World.ownsRow_nil _ _ _ _, fun v hv => by simp [Pn.of] at hv, World.ownsRow_nil _ _ _ _, fun v hv => by simp [Pn.of] at hv⟩
/-- The plan at its end. -/
def Pn.p5 (z : Int) (V : Option Addr) (vs : List Vw) (vc : Nat) (C : Option Addr) (cs : List Ten) (cc : Nat) (L : Option Addr) (ls : List Dsc) (lc : Nat) (K : Option Addr) (is : List Ins) (kc : Nat) (x y : Int) : Pn := ⟨z, V, vs, vc, C, cs, cc, L, ls, lc, K, is, kc, x, y⟩
theorem Pw.with_ {base eb : Nat} {w : World} {p q : Pn} (h : Pw base eb w p) (e : q = { p with size := q.size, inp := q.inp, out := q.out }) : Pw base eb w q := by
  rw [e]
  exact ⟨h.V, h.vs, h.C, h.cs, h.L, h.ls, h.K, h.is⟩
/-- A store into the plan's own number. -/
theorem PS.num {X : World} {b : Nat} {p q : Pn} {s : Rs} (h : PS W X b A bs cap es p s) (j : Nat) (v : Value) (hq : p.vals.set j v = q.vals) (e : q = { p with size := q.size, inp := q.inp, out := q.out }) : PS W (X.setCell ⟨b, j, none⟩ v) b A bs cap es q s := h.store j v hq (h.pw.with_ e)
def set7 (X : World) (g : Nat) (a0 a1 a2 a3 a4 a5 a6 : Value) : World := ((((((X.setCell ⟨g, 0, none⟩ a0).setCell ⟨g, 1, none⟩ a1).setCell ⟨g, 2, none⟩ a2).setCell ⟨g, 3, none⟩ a3).setCell ⟨g, 4, none⟩ a4).setCell ⟨g, 5, none⟩ a5).setCell ⟨g, 6, none⟩ a6
/-- The answer is stored. -/
theorem PS.done {X : World} {b : Nat} {p q : Pn} {s : Rs} {v a0 a1 a2 a3 a4 a5 a6 : Value} (h : PS W X b A bs cap es p s) (hv : EV X.heap.size X es s.e v) (hq : Pw W.heap.size 0 X q) (_hqv : q.vals = [a0, a1, a2, a3, a4, a5, a6]) :
    Has (set7 X W.heap.size a0 a1 a2 a3 a4 a5 a6) W.heap.size 27 [a0, a1, a2, a3, a4, a5, a6] ∧ Pw W.heap.size 0 (set7 X W.heap.size a0 a1 a2 a3 a4 a5 a6) q ∧ EV (set7 X W.heap.size a0 a1 a2 a3 a4 a5 a6).heap.size (set7 X W.heap.size a0 a1 a2 a3 a4 a5 a6) es s.e v ∧ Below W.heap.size W (set7 X W.heap.size a0 a1 a2 a3 a4 a5 a6) := by
  have hG : X.grownBy (set7 X W.heap.size a0 a1 a2 a3 a4 a5 a6) (some W.heap.size) := grown_set (grown_set (grown_set (grown_set (grown_set (grown_set (grown_one X ⟨W.heap.size, 0, none⟩ a0) ⟨W.heap.size, 1, none⟩ rfl a1) ⟨W.heap.size, 2, none⟩ rfl a2) ⟨W.heap.size, 3, none⟩ rfl a3) ⟨W.heap.size, 4, none⟩ rfl a4) ⟨W.heap.size, 5, none⟩ rfl a5) ⟨W.heap.size, 6, none⟩ rfl a6
  refine ⟨((((((h.r.set_ 0 a0).set_ 1 a1).set_ 2 a2).set_ 3 a3).set_ 4 a4).set_ 5 a5).set_ 6 a6, hq.grown hG (NotP.plan h.r), (hv.grown hG fun k e => .inr (by cases e; exact has_not h.r (by decide))).tight, h.bl.grown hG h.bl.size (fun k e => by cases e; exact Nat.le_refl _)⟩
end
end Go.Proofs.YthjnkaikjjjceaaDoor
