/-
  An arena behind a change of its bytes, and behind a part's going. By an AI agent. No person has read it.
-/
import Derived.Test.YtemaaipgjghlaaaDoorAreM
namespace Go.Proofs.YtemaaipgjghlaaaDoor
open Go.RowKit

/-- Other bytes, as many. -/
theorem ArIn.wrote {base : Nat} {w : World} {a m : Nat} {v : Value} {mem mem' : List Nat} {l : List Hd} (hA : ArIn base w a m v mem l) (hl : mem'.length = mem.length) :
    ArIn base (w.setRow m (u8s mem').toArray) a m v mem' l ∧ Off [m] w (w.setRow m (u8s mem').toArray) := by
  have ho : Off [m] w (w.setRow m (u8s mem').toArray) := ⟨rfl, rfl, rfl, by simp, fun k _ hn => setRow_other w m k _ (by simpa using hn)⟩
  have hd := hA.dis
  unfold Ar.bl at hd
  rw [List.nodup_cons, List.nodup_cons] at hd
  obtain ⟨hd1, hd2, -⟩ := hd
  refine ⟨⟨?_, setRow_heap w m _ _ 5 _ hA.bytes, own_off hA.row ho fun k hk hm => ?_, fun x hx => own_off (hA.bks x hx) ho fun k hk hm => ?_, hA.dis, hA.low⟩, ho⟩
  · rw [hl]
    exact hA.box.off ho fun hm => hd1 (by rw [List.mem_singleton.1 hm]; exact List.mem_cons_self ..)
  · rw [List.mem_singleton] at hm
    subst hm
    exact hd2 (List.mem_append_left _ (by rw [hk]; simp))
  · rw [List.mem_singleton] at hm
    subst hm
    exact hd2 (List.mem_append_right _ (Ar.bl_part hx k hk))
/-- Behind the deletion of a part out of the row, and the store of the new row. -/
theorem ArIn.removed {base i : Nat} {w w' : World} {a m : Nat} {v v' : Value} {mem : List Nat} {l : List Hd} (hA : ArIn base w a m v mem l) (hi : i < l.length)
    (hrow : w'.ownsRow base 62 4 v' (l.length - 1) ((l.flatMap Hd.vals).take (i * 4) ++ (l.flatMap Hd.vals).drop ((i + 1) * 4))) (hg : w.grownBy w' v.ownBlock) (hat : v'.ownBlock = v.ownBlock) :
    ArIn base (w'.setCell ⟨a, 1, none⟩ v') a m v' mem (l.take i ++ l.drop (i + 1)) ∧ Off (Ar.bl a m v l) w (w'.setCell ⟨a, 1, none⟩ v') ∧ ∀ k ∈ Ar.bl a m v' (l.take i ++ l.drop (i + 1)), k ∈ Ar.bl a m v l := by
  have hd := hA.dis
  unfold Ar.bl at hd
  rw [List.nodup_cons, List.nodup_cons] at hd
  obtain ⟨hd1, hd2, hd3⟩ := hd
  have ham : a ≠ m := fun e => hd1 (by rw [e]; exact List.mem_cons_self ..)
  have hav : ∀ k, v.ownBlock = some k → a ≠ k := fun k hk e => hd1 (List.mem_cons_of_mem _ (List.mem_append_left _ (by rw [e, hk]; simp)))
  have hmv : ∀ k, v.ownBlock = some k → m ≠ k := fun k hk e => hd2 (List.mem_append_left _ (by rw [e, hk]; simp))
  have hap : ∀ k, (k ∈ l.filterMap fun h => h.A.map (·.block)) → a ≠ k := fun k hk e => hd1 (List.mem_cons_of_mem _ (List.mem_append_right _ (by rw [e]; exact hk)))
  have hvp : ∀ k, (k ∈ l.filterMap fun h => h.A.map (·.block)) → v.ownBlock ≠ some k := fun k hk e => by
    rw [List.nodup_append] at hd3
    exact hd3.2.2 k (by rw [e]; simp) k hk rfl
  have hsub : (l.take i ++ l.drop (i + 1)).Sublist l := by
    have h : (l.take i ++ l.drop (i + 1)).Sublist (l.take i ++ l.drop i) := (List.Sublist.refl _).append (List.drop_sublist_drop_left l (Nat.le_succ i))
    rwa [List.take_append_drop] at h
  have hfs : ((l.take i ++ l.drop (i + 1)).filterMap fun h => h.A.map (·.block)).Sublist (l.filterMap fun h => h.A.map (·.block)) := hsub.filterMap _
  have hbs : (Ar.bl a m v' (l.take i ++ l.drop (i + 1))).Sublist (Ar.bl a m v l) := by
    unfold Ar.bl
    rw [hat]
    exact (((List.Sublist.refl _).append hfs).cons_cons m).cons_cons a
  have hb' : Has (w'.setCell ⟨a, 1, none⟩ v') a 59 [.slice (some ⟨m, 0, none⟩) mem.length mem.length, v'] :=
    (hA.box.grown hg fun e => hav a e.symm rfl).set_ 1 v'
  have hm' : Has (w'.setCell ⟨a, 1, none⟩ v') m 5 (u8s mem) := (hA.bytes.grown hg fun e => hmv m e.symm rfl).far (p := ⟨a, 1, none⟩) (fun e => ham e.symm) v'
  refine ⟨⟨hb', hm', ?_, fun x hx => ?_, hA.dis.sublist hbs, hA.low⟩, (Off.grown hg fun k hk => ?_).set_ (by simp [Ar.bl]) v', fun k hk => hbs.subset hk⟩
  · rw [(flat_take Hd.vals 4 l (fun _ _ => rfl) i (by omega)).1, (flat_take Hd.vals 4 l (fun _ _ => rfl) (i + 1) (by omega)).2, ← List.flatMap_append] at hrow
    have el : (l.take i ++ l.drop (i + 1)).length = l.length - 1 := by
      rw [List.length_append, List.length_take, List.length_drop]; omega
    rw [el]
    exact own_set hrow (fun k hk e => hav k (hat.symm.trans hk) e.symm) v'
  · have hxl := hsub.subset hx
    exact own_set (own_grown (hA.bks x hxl) hg fun k hk => hvp k (Ar.bl_part hxl k hk)) (fun k hk => (hap k (Ar.bl_part hxl k hk)).symm) v'
  · simp [Ar.bl, hk]
end Go.Proofs.YtemaaipgjghlaaaDoor
