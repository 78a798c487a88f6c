/- Texts that the statements of this seat lean on, put together: StkRNew, StkThing, SpnIn, StkIt, StkFst, StkPt, StkPlain, SpnNum, SpnGuess, SpnPt, StkRGet. -/
import Derived.Test.YtbifihhfoanmgaaGreatMd
import Derived.Test.YtbifihhfoanmgaaGreatMe
import Derived.Test.YtbifihhfoanmgaaGreatMf
import Derived.Test.YtbifihhfoanmgaaGreatMg
import Derived.Test.YtbifihhfoanmgaaGreatMk
import Derived.Deep.LoopGhost
import Derived.Deep.RegionHeld3
import Derived.Deep.DeepCutAuto
import Derived.Deep.QuietTactic
import Derived.BigQuiet
import Derived.Shelf.Abstract
import Derived.Shelf.RegionOpen
import Derived.WalkKit
import Derived.OwnWalkIn
import Derived.TacticsInMore
import Derived.LoopNIn
import Derived.LoopIn
import Derived.RangeFuncBox
/- The document's New of a stack. Printed by wip/gen/stk16.py. -/
namespace Go.Proofs.YtbifihhfoanmgaaGreat.Stk
open Go Go.RowKit Lw Grd Lin Con Shp Sk Exa Lev
set_option linter.unusedVariables false
set_option linter.unusedSimpArgs false
set_option maxRecDepth 100000 in
set_option maxHeartbeats 4000000 in
theorem dk_new (c : Cfg) (w : World) (h : c.Ok) (hr : IsRight c) :
    Calls Tryz.prog 11 #[.agg #[.int .i64 c.bt, .int .i64 c.rw, .int .i64 c.wd, .int .i64 c.md, .int .u64 c.sd]] w fun e w' => ∃ (p : Addr) (F : Nat → Prop), e = .returned (.pointer (some p)) ∧ DK w' p F c (stsOf c []) ∧ (∀ k, F k → w.heap.size ≤ k) ∧ Below w.heap.size w w' := by
  have HO := Lib.hid h
  have HR := Lib.hid hr
  have hb1 := hr.1
  have hb2 := hr.2.1
  obtain ⟨j0, hj, hy0, hy1, hy2⟩ := info_parts dls_info
  have HJ := Lib.hid hj
  have HB1 := Lib.hid ((Hold.start0 (Below.refl _ w)).push (cfD w.heap.size c) (Lw.below_alloc (Below.refl _ _) _) (heap_alloc_new w _) (fun k hk => Nat.le_of_eq hk.symm))
  have N2 : ((w.alloc (.cells #[.int .i64 c.bt, .int .i64 c.rw, .int .i64 c.wd, .int .i64 c.md, .int .u64 c.sd] 24)).alloc (.cells #[.int .i64 c.bt, .int .i64 c.rw, .int .i64 c.wd, .int .i64 c.md, .int .u64 c.sd, .slice none 0 0] 75)).heap[w.heap.size + 1]? = some (.cells #[.int .i64 c.bt, .int .i64 c.rw, .int .i64 c.wd, .int .i64 c.md, .int .u64 c.sd, .slice none 0 0] 75 (0, 0)) := by
    have := heap_alloc_new (w.alloc (.cells #[.int .i64 c.bt, .int .i64 c.rw, .int .i64 c.wd, .int .i64 c.md, .int .u64 c.sd] 24)) (.cells #[.int .i64 c.bt, .int .i64 c.rw, .int .i64 c.wd, .int .i64 c.md, .int .u64 c.sd, .slice none 0 0] 75)
    rw [World.size_alloc] at this
    exact this
  have HS := Lib.hid ((HB1.out.push (ownT w.heap.size 76 (.slice none 0 0) []) (Below.refl _ _) (ownD_nil _ _ _) (fun k hk => ownD_nilF _ _ hk)).push (dkB (w.heap.size + 1) c (.slice none 0 0)) (Lw.below_alloc (Below.refl _ _) _) N2 (fun k hk => Nat.le_of_eq (by simp; exact hk.symm)))
  clear h hr hj N2
  go_enter Tryz.func11, Tryz.ntmps11
  go_wp2
  go_loopw [4] (fun i wr => ∃ (n : Nat) (hdr : Value) (vals : List Value) (ts : List Thing) (sts : List LS), (n : Int) ≤ c.bt + 1 ∧ i = .int .i64 n ∧ LRow dlT c vals ts sts ∧ sts.length = n ∧ (∀ j, j < n → sts[j]? = some (lsZero c j)) ∧ Hold (fun _ => False) w wr (dkB (w.heap.size + 1) c hdr :: ownT w.heap.size 76 hdr vals :: cfD w.heap.size c :: ts)) (fun i _ => (c.bt + 1).toNat - (intOf i).toNat)
  case atStart => exact ⟨0, .slice none 0 0, [], [], [], by omega, rfl, LRow.nil _ _, rfl, fun j hj => by omega, HS.out⟩
  case round =>
    obtain ⟨n, hdr, vals, ts, sts, hn, rfl, hrow, hsl, hsj, hv⟩ := hrel
    have HROW := Lib.hid hrow
    have HSL := Lib.hid hsl
    have HSJ := Lib.hid hsj
    have HV := Lib.hid hv
    have LV := Lib.hid (hrow.lv.trans hsl)
    have g0 := box_cell (hv.i (t := cfD w.heap.size c) (by simp)) (i := 0) rfl
    have g1 := box_cell (hv.i (t := cfD w.heap.size c) (by simp)) (i := 1) rfl
    have g2 := box_cell (hv.i (t := cfD w.heap.size c) (by simp)) (i := 2) rfl
    have g3 := box_cell (hv.i (t := cfD w.heap.size c) (by simp)) (i := 3) rfl
    have g4 := box_cell (hv.i (t := cfD w.heap.size c) (by simp)) (i := 4) rfl
    have x1 := box_cell (hv.i (t := dkB (w.heap.size + 1) c hdr) (by simp)) (i := 5) rfl
    clear hrow hsl hsj hv
    by_cases hlt : (n : Int) ≤ c.bt
    · go_wp2
      refine wp_region_held_drew (S := (fun w' => w'.cell? ⟨w.heap.size, 0, none⟩ = some (.int .i64 c.bt) ∧ w'.cell? ⟨w.heap.size, 1, none⟩ = some (.int .i64 c.rw) ∧ w'.cell? ⟨w.heap.size, 2, none⟩ = some (.int .i64 c.wd) ∧ w'.cell? ⟨w.heap.size, 3, none⟩ = some (.int .i64 c.md) ∧ w'.cell? ⟨w.heap.size, 4, none⟩ = some (.int .u64 c.sd))) (by kernel_rfl) (cfd_all ((HV.out.up (Below.drew (Below.refl _ wr))).i (t := cfD w.heap.size c) (by simp))) (fun hHeld => ?_)
      refine wpAnyH_take (i := 0) (v := ?_) rfl (by kernel_rfl) (by kernel_rfl) (by kernel_rfl) (fun _ _ _ h => h) (Or.inl ⟨by rfl, ?_⟩) hHeld ?_
      rotate_left
      · intro w hSw
        (try dsimp only at hSw)
        go_simp
        (try with_reducible rfl)
      (try simp only [List.getElem_toArray, List.getElem_cons_zero, List.getElem_cons_succ, Act.put, List.setIfInBounds_toArray, List.set_cons_zero, List.set_cons_succ])
      refine wpAnyH_take (i := 1) (v := ?_) rfl (by kernel_rfl) (by kernel_rfl) (by kernel_rfl) (fun _ _ _ h => h) (Or.inl ⟨by rfl, ?_⟩) hHeld ?_
      rotate_left
      · intro w hSw
        (try dsimp only at hSw)
        go_simp
        (try with_reducible rfl)
      (try simp only [List.getElem_toArray, List.getElem_cons_zero, List.getElem_cons_succ, Act.put, List.setIfInBounds_toArray, List.set_cons_zero, List.set_cons_succ])
      refine wpAnyH_take (i := 2) (v := ?_) rfl (by kernel_rfl) (by kernel_rfl) (by kernel_rfl) (fun _ _ _ h => h) (Or.inl ⟨by rfl, ?_⟩) hHeld ?_
      rotate_left
      · intro w hSw
        (try dsimp only at hSw)
        go_simp
        (try with_reducible rfl)
      (try simp only [List.getElem_toArray, List.getElem_cons_zero, List.getElem_cons_succ, Act.put, List.setIfInBounds_toArray, List.set_cons_zero, List.set_cons_succ])
      refine wpAnyH_take (i := 3) (v := ?_) rfl (by kernel_rfl) (by kernel_rfl) (by kernel_rfl) (fun _ _ _ h => h) (Or.inl ⟨by rfl, ?_⟩) hHeld ?_
      rotate_left
      · intro w hSw
        (try dsimp only at hSw)
        go_simp
        (try with_reducible rfl)
      (try simp only [List.getElem_toArray, List.getElem_cons_zero, List.getElem_cons_succ, Act.put, List.setIfInBounds_toArray, List.set_cons_zero, List.set_cons_succ])
      refine wpAnyH_take (i := 5) (v := ?_) rfl (by kernel_rfl) (by kernel_rfl) (by kernel_rfl) (fun _ _ _ h => h) (Or.inl ⟨by rfl, ?_⟩) hHeld ?_
      rotate_left
      · intro w hSw
        (try dsimp only at hSw)
        go_simp
        (try with_reducible rfl)
      (try simp only [List.getElem_toArray, List.getElem_cons_zero, List.getElem_cons_succ, Act.put, List.setIfInBounds_toArray, List.set_cons_zero, List.set_cons_succ])
      refine wpAnyH_take (i := 6) (v := ?_) rfl (by kernel_rfl) (by kernel_rfl) (by kernel_rfl) (fun _ _ _ h => h) (Or.inl ⟨by rfl, ?_⟩) hHeld ?_
      rotate_left
      · intro w hSw
        (try dsimp only at hSw)
        go_simp
        (try with_reducible rfl)
      (try simp only [List.getElem_toArray, List.getElem_cons_zero, List.getElem_cons_succ, Act.put, List.setIfInBounds_toArray, List.set_cons_zero, List.set_cons_succ])
      refine wpAnyH_ready (rs := [4, 7]) (by kernel_rfl) (by simp) ?_
      refine AllReadyH.cons rfl (fun K hK => ?_) (AllReadyH.cons rfl (fun K hK => ?_) AllReadyH.nil)
      · go_simp
        refine hK.out _ _ hHeld (fun hHeld => ?_)
        clear hK K
        (try simp only [List.getElem_toArray, List.getElem_cons_zero, List.getElem_cons_succ, Act.put, List.setIfInBounds_toArray, List.set_cons_zero, List.set_cons_succ])
        refine wpAnyH_ready (rs := [7]) (by kernel_rfl) (by simp) ?_
        refine AllReadyH.cons rfl (fun K hK => ?_) AllReadyH.nil
        go_simp
        (go_at_call 31; (with_reducible refine (dv_new c n _ HO.out HR.out (by omega) hlt).mono ?_); rintro e w5 ⟨pv, Q5, rfl, hE5, hQ5, hb5⟩; have HV5 := Lib.hid (Hold.snoc (HV.out.up (Below.drew (Below.refl _ wr))) (dlT (.pointer (some pv)) Q5 c n (lsZero c n)) hb5 ⟨pv, rfl, hE5⟩ hQ5); have BW5 : Below wr.heap.size wr w5 := (Below.drew (Below.refl _ wr)).trans hb5; clear hE5 hQ5 hb5; have x5 := box_cell (HV5.out.i (t := dkB (w.heap.size + 1) c hdr) (by simp)) (i := 5) rfl; have HV6 := Lib.hid (HV5.out.up (Lw.below_alloc (Below.refl _ w5) (.cells #[.pointer (some pv)] 76))); have x6 := box_cell (HV6.out.i (t := dkB (w.heap.size + 1) c hdr) (by simp)) (i := 5) rfl)
        refine hK.out _ _ (cfd_all ((HV5.out).i (t := cfD w.heap.size c) (by simp))) (fun hHeld => ?_)
        clear hK K
        (try simp only [List.getElem_toArray, List.getElem_cons_zero, List.getElem_cons_succ, Act.put, List.setIfInBounds_toArray, List.set_cons_zero, List.set_cons_succ])
        refine wpAnyH_ready (rs := [8]) (by kernel_rfl) (by simp) ?_
        refine AllReadyH.cons rfl (fun K hK => ?_) AllReadyH.nil
        go_simp
        refine hK.out _ _ (cfd_all ((HV6.out).i (t := cfD w.heap.size c) (by simp))) (fun hHeld => ?_)
        clear hK K
        (try simp only [List.getElem_toArray, List.getElem_cons_zero, List.getElem_cons_succ, Act.put, List.setIfInBounds_toArray, List.set_cons_zero, List.set_cons_succ])
        refine wpAnyH_ready (rs := [9]) (by kernel_rfl) (by simp) ?_
        refine AllReadyH.cons rfl (fun K hK => ?_) AllReadyH.nil
        (refine appd_step rfl _ _ 73 rfl w.heap.size 76 j0 (.pointer none) 8 dls_u HJ.out hy0 hy1 hy2 rfl hdr n vals rfl (by have h7 := HV6.out.i (t := ownT w.heap.size 76 hdr vals) (by simp); have h8 : World.ownsRow _ _ _ _ hdr vals.length vals := h7; rw [LV.out] at h8; exact h8) (.pointer (some pv)) w5.heap.size rfl (cell_one_new _ _ _) rfl (by unfold maxLen; omega) (by omega) (by have h9 := HV6.out.1.size; exact h9) ?_; intro g7 cap7 w7 own7 grow7 hat7; have HV7 := Lib.hid (Hold.app (fs := [dkB (w.heap.size + 1) c hdr]) HV6.out (by rw [LV.out]; exact own7) grow7 hat7); have x7 := box_cell (HV7.out.i (t := dkB (w.heap.size + 1) c hdr) (by simp)) (i := 5) rfl; have z7 : w7.frozen? ⟨w.heap.size + 1, 5, none⟩ = false := frozen_of_row w7 (w.heap.size + 1) 5 _ _ (HV7.out.i (t := dkB (w.heap.size + 1) c hdr) (by simp)))
        refine hK.out _ _ (cfd_all ((HV7.out).i (t := cfD w.heap.size c) (by simp))) (fun hHeld => ?_)
        clear hK K
        (try simp only [List.getElem_toArray, List.getElem_cons_zero, List.getElem_cons_succ, Act.put, List.setIfInBounds_toArray, List.set_cons_zero, List.set_cons_succ])
        refine wpAnyH_take (i := 10) (v := ?_) rfl (by kernel_rfl) (by kernel_rfl) (by kernel_rfl) (fun _ _ _ h => h) (Or.inl ⟨by rfl, ?_⟩) hHeld ?_
        rotate_left
        · intro w hSw
          (try dsimp only at hSw)
          go_simp
          (try with_reducible rfl)
        (try simp only [List.getElem_toArray, List.getElem_cons_zero, List.getElem_cons_succ, Act.put, List.setIfInBounds_toArray, List.set_cons_zero, List.set_cons_succ])
        refine wpAnyH_take (i := 11) (v := ?_) rfl (by kernel_rfl) (by kernel_rfl) (by kernel_rfl) (fun _ _ _ h => h) (Or.inl ⟨by rfl, ?_⟩) hHeld ?_
        rotate_left
        · intro w hSw
          (try dsimp only at hSw)
          go_simp
          (try with_reducible rfl)
        (try simp only [List.getElem_toArray, List.getElem_cons_zero, List.getElem_cons_succ, Act.put, List.setIfInBounds_toArray, List.set_cons_zero, List.set_cons_succ])
        refine wpAnyH_ready (rs := [12]) (by kernel_rfl) (by simp) ?_
        refine AllReadyH.cons rfl (fun K hK => ?_) AllReadyH.nil
        go_simp
        refine hK.out _ _ (cfd_all ((Hold.store (fs := []) HV7.out _).i (t := cfD w.heap.size c) (by simp))) (fun hHeld => ?_)
        clear hK K
        (try simp only [List.getElem_toArray, List.getElem_cons_zero, List.getElem_cons_succ, Act.put, List.setIfInBounds_toArray, List.set_cons_zero, List.set_cons_succ])
        refine wpAnyH_done (by kernel_rfl) ?_ _
        go_wp2
        go_roundw
        all_goals first
          | (simp [intOf]; omega)
          | (refine ⟨n + 1, .slice (some ⟨g7, 0, none⟩) (n + 1) cap7, vals ++ [.pointer (some pv)], ts ++ [dlT (.pointer (some pv)) Q5 c n (lsZero c n)], sts ++ [lsZero c n], by omega, by go_num, HROW.out.snoc HSL.out _ Q5 _, by simp [HSL.out], fun j hj => new_row HSL.out HSJ.out hj, ?_⟩
             have h9 := Hold.store (fs := []) HV7.out (.slice (some ⟨g7, 0, none⟩) (vals.length + 1) cap7)
             rw [LV.out] at h9
             exact h9)
      · go_simp
        (go_at_call 31; (with_reducible refine (dv_new c n _ HO.out HR.out (by omega) hlt).mono ?_); rintro e w5 ⟨pv, Q5, rfl, hE5, hQ5, hb5⟩; have HV5 := Lib.hid (Hold.snoc (HV.out.up (Below.drew (Below.refl _ wr))) (dlT (.pointer (some pv)) Q5 c n (lsZero c n)) hb5 ⟨pv, rfl, hE5⟩ hQ5); have BW5 : Below wr.heap.size wr w5 := (Below.drew (Below.refl _ wr)).trans hb5; clear hE5 hQ5 hb5; have x5 := box_cell (HV5.out.i (t := dkB (w.heap.size + 1) c hdr) (by simp)) (i := 5) rfl; have HV6 := Lib.hid (HV5.out.up (Lw.below_alloc (Below.refl _ w5) (.cells #[.pointer (some pv)] 76))); have x6 := box_cell (HV6.out.i (t := dkB (w.heap.size + 1) c hdr) (by simp)) (i := 5) rfl)
        refine hK.out _ _ (cfd_all ((HV5.out).i (t := cfD w.heap.size c) (by simp))) (fun hHeld => ?_)
        clear hK K
        (try simp only [List.getElem_toArray, List.getElem_cons_zero, List.getElem_cons_succ, Act.put, List.setIfInBounds_toArray, List.set_cons_zero, List.set_cons_succ])
        refine wpAnyH_ready (rs := [4, 8]) (by kernel_rfl) (by simp) ?_
        refine AllReadyH.cons rfl (fun K hK => ?_) (AllReadyH.cons rfl (fun K hK => ?_) AllReadyH.nil)
        · go_simp
          refine hK.out _ _ hHeld (fun hHeld => ?_)
          clear hK K
          (try simp only [List.getElem_toArray, List.getElem_cons_zero, List.getElem_cons_succ, Act.put, List.setIfInBounds_toArray, List.set_cons_zero, List.set_cons_succ])
          refine wpAnyH_ready (rs := [8]) (by kernel_rfl) (by simp) ?_
          refine AllReadyH.cons rfl (fun K hK => ?_) AllReadyH.nil
          go_simp
          refine hK.out _ _ (cfd_all ((HV6.out).i (t := cfD w.heap.size c) (by simp))) (fun hHeld => ?_)
          clear hK K
          (try simp only [List.getElem_toArray, List.getElem_cons_zero, List.getElem_cons_succ, Act.put, List.setIfInBounds_toArray, List.set_cons_zero, List.set_cons_succ])
          refine wpAnyH_ready (rs := [9]) (by kernel_rfl) (by simp) ?_
          refine AllReadyH.cons rfl (fun K hK => ?_) AllReadyH.nil
          (refine appd_step rfl _ _ 73 rfl w.heap.size 76 j0 (.pointer none) 8 dls_u HJ.out hy0 hy1 hy2 rfl hdr n vals rfl (by have h7 := HV6.out.i (t := ownT w.heap.size 76 hdr vals) (by simp); have h8 : World.ownsRow _ _ _ _ hdr vals.length vals := h7; rw [LV.out] at h8; exact h8) (.pointer (some pv)) w5.heap.size rfl (cell_one_new _ _ _) rfl (by unfold maxLen; omega) (by omega) (by have h9 := HV6.out.1.size; exact h9) ?_; intro g7 cap7 w7 own7 grow7 hat7; have HV7 := Lib.hid (Hold.app (fs := [dkB (w.heap.size + 1) c hdr]) HV6.out (by rw [LV.out]; exact own7) grow7 hat7); have x7 := box_cell (HV7.out.i (t := dkB (w.heap.size + 1) c hdr) (by simp)) (i := 5) rfl; have z7 : w7.frozen? ⟨w.heap.size + 1, 5, none⟩ = false := frozen_of_row w7 (w.heap.size + 1) 5 _ _ (HV7.out.i (t := dkB (w.heap.size + 1) c hdr) (by simp)))
          refine hK.out _ _ (cfd_all ((HV7.out).i (t := cfD w.heap.size c) (by simp))) (fun hHeld => ?_)
          clear hK K
          (try simp only [List.getElem_toArray, List.getElem_cons_zero, List.getElem_cons_succ, Act.put, List.setIfInBounds_toArray, List.set_cons_zero, List.set_cons_succ])
          refine wpAnyH_take (i := 10) (v := ?_) rfl (by kernel_rfl) (by kernel_rfl) (by kernel_rfl) (fun _ _ _ h => h) (Or.inl ⟨by rfl, ?_⟩) hHeld ?_
          rotate_left
          · intro w hSw
            (try dsimp only at hSw)
            go_simp
            (try with_reducible rfl)
          (try simp only [List.getElem_toArray, List.getElem_cons_zero, List.getElem_cons_succ, Act.put, List.setIfInBounds_toArray, List.set_cons_zero, List.set_cons_succ])
          refine wpAnyH_take (i := 11) (v := ?_) rfl (by kernel_rfl) (by kernel_rfl) (by kernel_rfl) (fun _ _ _ h => h) (Or.inl ⟨by rfl, ?_⟩) hHeld ?_
          rotate_left
          · intro w hSw
            (try dsimp only at hSw)
            go_simp
            (try with_reducible rfl)
          (try simp only [List.getElem_toArray, List.getElem_cons_zero, List.getElem_cons_succ, Act.put, List.setIfInBounds_toArray, List.set_cons_zero, List.set_cons_succ])
          refine wpAnyH_ready (rs := [12]) (by kernel_rfl) (by simp) ?_
          refine AllReadyH.cons rfl (fun K hK => ?_) AllReadyH.nil
          go_simp
          refine hK.out _ _ (cfd_all ((Hold.store (fs := []) HV7.out _).i (t := cfD w.heap.size c) (by simp))) (fun hHeld => ?_)
          clear hK K
          (try simp only [List.getElem_toArray, List.getElem_cons_zero, List.getElem_cons_succ, Act.put, List.setIfInBounds_toArray, List.set_cons_zero, List.set_cons_succ])
          refine wpAnyH_done (by kernel_rfl) ?_ _
          go_wp2
          go_roundw
          all_goals first
            | (simp [intOf]; omega)
            | (refine ⟨n + 1, .slice (some ⟨g7, 0, none⟩) (n + 1) cap7, vals ++ [.pointer (some pv)], ts ++ [dlT (.pointer (some pv)) Q5 c n (lsZero c n)], sts ++ [lsZero c n], by omega, by go_num, HROW.out.snoc HSL.out _ Q5 _, by simp [HSL.out], fun j hj => new_row HSL.out HSJ.out hj, ?_⟩
               have h9 := Hold.store (fs := []) HV7.out (.slice (some ⟨g7, 0, none⟩) (vals.length + 1) cap7)
               rw [LV.out] at h9
               exact h9)
        · go_simp
          refine hK.out _ _ (cfd_all ((HV6.out).i (t := cfD w.heap.size c) (by simp))) (fun hHeld => ?_)
          clear hK K
          (try simp only [List.getElem_toArray, List.getElem_cons_zero, List.getElem_cons_succ, Act.put, List.setIfInBounds_toArray, List.set_cons_zero, List.set_cons_succ])
          refine wpAnyH_ready (rs := [4]) (by kernel_rfl) (by simp) ?_
          refine AllReadyH.cons rfl (fun K hK => ?_) AllReadyH.nil
          go_simp
          refine hK.out _ _ hHeld (fun hHeld => ?_)
          clear hK K
          (try simp only [List.getElem_toArray, List.getElem_cons_zero, List.getElem_cons_succ, Act.put, List.setIfInBounds_toArray, List.set_cons_zero, List.set_cons_succ])
          refine wpAnyH_ready (rs := [9]) (by kernel_rfl) (by simp) ?_
          refine AllReadyH.cons rfl (fun K hK => ?_) AllReadyH.nil
          (refine appd_step rfl _ _ 73 rfl w.heap.size 76 j0 (.pointer none) 8 dls_u HJ.out hy0 hy1 hy2 rfl hdr n vals rfl (by have h7 := HV6.out.i (t := ownT w.heap.size 76 hdr vals) (by simp); have h8 : World.ownsRow _ _ _ _ hdr vals.length vals := h7; rw [LV.out] at h8; exact h8) (.pointer (some pv)) w5.heap.size rfl (cell_one_new _ _ _) rfl (by unfold maxLen; omega) (by omega) (by have h9 := HV6.out.1.size; exact h9) ?_; intro g7 cap7 w7 own7 grow7 hat7; have HV7 := Lib.hid (Hold.app (fs := [dkB (w.heap.size + 1) c hdr]) HV6.out (by rw [LV.out]; exact own7) grow7 hat7); have x7 := box_cell (HV7.out.i (t := dkB (w.heap.size + 1) c hdr) (by simp)) (i := 5) rfl; have z7 : w7.frozen? ⟨w.heap.size + 1, 5, none⟩ = false := frozen_of_row w7 (w.heap.size + 1) 5 _ _ (HV7.out.i (t := dkB (w.heap.size + 1) c hdr) (by simp)))
          refine hK.out _ _ (cfd_all ((HV7.out).i (t := cfD w.heap.size c) (by simp))) (fun hHeld => ?_)
          clear hK K
          (try simp only [List.getElem_toArray, List.getElem_cons_zero, List.getElem_cons_succ, Act.put, List.setIfInBounds_toArray, List.set_cons_zero, List.set_cons_succ])
          refine wpAnyH_take (i := 10) (v := ?_) rfl (by kernel_rfl) (by kernel_rfl) (by kernel_rfl) (fun _ _ _ h => h) (Or.inl ⟨by rfl, ?_⟩) hHeld ?_
          rotate_left
          · intro w hSw
            (try dsimp only at hSw)
            go_simp
            (try with_reducible rfl)
          (try simp only [List.getElem_toArray, List.getElem_cons_zero, List.getElem_cons_succ, Act.put, List.setIfInBounds_toArray, List.set_cons_zero, List.set_cons_succ])
          refine wpAnyH_take (i := 11) (v := ?_) rfl (by kernel_rfl) (by kernel_rfl) (by kernel_rfl) (fun _ _ _ h => h) (Or.inl ⟨by rfl, ?_⟩) hHeld ?_
          rotate_left
          · intro w hSw
            (try dsimp only at hSw)
            go_simp
            (try with_reducible rfl)
          (try simp only [List.getElem_toArray, List.getElem_cons_zero, List.getElem_cons_succ, Act.put, List.setIfInBounds_toArray, List.set_cons_zero, List.set_cons_succ])
          refine wpAnyH_ready (rs := [12]) (by kernel_rfl) (by simp) ?_
          refine AllReadyH.cons rfl (fun K hK => ?_) AllReadyH.nil
          go_simp
          refine hK.out _ _ (cfd_all ((Hold.store (fs := []) HV7.out _).i (t := cfD w.heap.size c) (by simp))) (fun hHeld => ?_)
          clear hK K
          (try simp only [List.getElem_toArray, List.getElem_cons_zero, List.getElem_cons_succ, Act.put, List.setIfInBounds_toArray, List.set_cons_zero, List.set_cons_succ])
          refine wpAnyH_done (by kernel_rfl) ?_ _
          go_wp2
          go_roundw
          all_goals first
            | (simp [intOf]; omega)
            | (refine ⟨n + 1, .slice (some ⟨g7, 0, none⟩) (n + 1) cap7, vals ++ [.pointer (some pv)], ts ++ [dlT (.pointer (some pv)) Q5 c n (lsZero c n)], sts ++ [lsZero c n], by omega, by go_num, HROW.out.snoc HSL.out _ Q5 _, by simp [HSL.out], fun j hj => new_row HSL.out HSJ.out hj, ?_⟩
               have h9 := Hold.store (fs := []) HV7.out (.slice (some ⟨g7, 0, none⟩) (vals.length + 1) cap7)
               rw [LV.out] at h9
               exact h9)
    · go_wp2
      go_ret
      have he : n = c.bt.toNat + 1 := by omega
      subst he
      obtain ⟨s1, s2, s3⟩ := dk_of HR.out HO.out HSL.out HROW.out (Hold.sub HV.out (.cons_cons _ (.cons_cons _ (.cons _ (List.Sublist.refl _)))))
      have e9 : sts = stsOf c [] := List.ext_getElem? (fun j => by
        by_cases hj : j < c.bt.toNat + 1
        · rw [HSJ.out j hj, stsOf_get hj, stOf_nil]
        · rw [List.getElem?_eq_none (by rw [HSL.out]; omega), List.getElem?_eq_none (by rw [stsOf_len]; omega)])
      rw [e9] at s1
      exact ⟨_, rfl, _, s1, fun k hk => (s3 k hk).elim (fun h => h.elim) id, s2.below⟩
end Go.Proofs.YtbifihhfoanmgaaGreat.Stk
/- The code's stack as a thing. Printed by wip/gen/stk.py. -/
namespace Go.Proofs.YtbifihhfoanmgaaGreat.Stk
open Go Go.RowKit Lw Grd Lin Con Shp Sk Exa Lev
set_option linter.unusedVariables false
set_option linter.unusedSimpArgs false
/-- A stack of the code at p, in the blocks F. -/
def ST (w : World) (p : Addr) (F : Nat → Prop) (c : Cfg) (sts : List LS) : Prop :=
  IsRight c ∧ c.Ok ∧ sts.length = c.bt.toNat + 1 ∧ ∃ (b B0 : Nat) (hdr : Value) (vals : List Value) (ts : List Thing), p = ⟨b, 0, none⟩ ∧ LRow elvT c vals ts sts ∧ (manyT (boxT b 68 #[.int .i64 c.bt, .int .i64 c.rw, .int .i64 c.wd, .int .i64 c.md, .int .u64 c.sd, hdr] :: ownT B0 70 hdr vals :: ts)).I w ∧ F = (manyT (boxT b 68 #[.int .i64 c.bt, .int .i64 c.rw, .int .i64 c.wd, .int .i64 c.md, .int .u64 c.sd, hdr] :: ownT B0 70 hdr vals :: ts)).F
def stT (p : Addr) (F : Nat → Prop) (c : Cfg) (sts : List LS) : Thing where
  I := fun w => ST w p F c sts
  F := F
  keep := fun w w' H h hk hf => by
    obtain ⟨h1, h2, h3, b, B0, hdr, vals, ts, e, hr, hm, rfl⟩ := h
    exact ⟨h1, h2, h3, b, B0, hdr, vals, ts, e, hr, (manyT _).keep w w' H hm hk hf, rfl⟩
  lt := fun w h k hk => by
    obtain ⟨h1, h2, h3, b, B0, hdr, vals, ts, e, hr, hm, rfl⟩ := h
    exact (manyT _).lt w hm k hk
theorem stI {w : World} {p : Addr} {F : Nat → Prop} {c : Cfg} {sts : List LS} (h : (stT p F c sts).I w) : ST w p F c sts := h
theorem ST.right {w : World} {p : Addr} {F : Nat → Prop} {c : Cfg} {sts : List LS} (h : ST w p F c sts) : IsRight c ∧ c.Ok ∧ sts.length = c.bt.toNat + 1 := ⟨h.1, h.2.1, h.2.2.1⟩
theorem ST.up {w w' : World} {p : Addr} {F : Nat → Prop} {c : Cfg} {sts : List LS} (h : ST w p F c sts) (hb : Below w.heap.size w w') : ST w' p F c sts :=
  (stT p F c sts).keep w w' (fun _ => False) h (Kept.of_below hb) (fun _ _ h => h)
/-- A level's cells, if there is such a level. -/
def lvFl (sts : List LS) (n : Int) : List Int := if 0 ≤ n then ((sts[n.toNat]?).map LS.fl).getD [] else []
def spV (c : Cfg) (sts : List LS) (n i : Int) : Int := if 0 ≤ n then ((sts[n.toNat]?).map (fun st => lsPtV c n st i)).getD 0 else 0
def spC (c : Cfg) (sts : List LS) (n i : Int) : Int := if 0 ≤ n then ((sts[n.toNat]?).map (fun st => lsPtC c n st i)).getD 2 else 2
end Go.Proofs.YtbifihhfoanmgaaGreat.Stk
/- What Point tells of a stack of the code is a number of 64 bits. For stages from 16 on. -/
namespace Go.Proofs.YtbifihhfoanmgaaGreat.Spn
open Go Go.RowKit Lw Grd Lin Con Shp Sk Exa Lev Stk Pcs
set_option linter.unusedVariables false
theorem flat_in16 {m n : Nat} {L : List (List Int)} (h : Dims m n L) : In64 L.flatten := fun v hv => by
  obtain ⟨r, hr, h2⟩ := List.mem_flatten.1 hv
  exact (h.rows r hr).2 v h2
theorem named_in16 : ∀ {L : List (List Int)} {cs : List Int}, In64 L.flatten → ∀ v ∈ named L cs, -9223372036854775808 ≤ v ∧ v ≤ 9223372036854775807
  | [], _, _ => fun v hv => by simp [named] at hv
  | _ :: _, [], _ => fun v hv => by simp [named] at hv
  | r :: L, k :: cs, h => fun v hv => by
    rcases List.mem_cons.1 (show v ∈ (r[k.toNat]?.getD 0) :: named L cs from hv) with e | e
    · subst e
      cases h1 : r[k.toNat]? with
      | none => simp
      | some y => exact h y (by rw [List.flatten_cons]; exact List.mem_append_left _ (List.mem_of_getElem? h1))
    · exact named_in16 (fun x hx => h x (by rw [List.flatten_cons]; exact List.mem_append_right _ hx)) v e
theorem pt_in16 (c : Cfg) (l i : Int) {st : LS} (h : In64 st.fl) : -9223372036854775808 ≤ lsPtV c l st i ∧ lsPtV c l st i ≤ 9223372036854775807 := by
  cases st with
  | A L =>
    show _ ≤ Exa.ptV L i ∧ Exa.ptV L i ≤ _
    unfold Exa.ptV
    split
    · omega
    · unfold num
      cases h1 : L[i.toNat]? with
      | none => simp
      | some y => exact h y (List.mem_of_getElem? h1)
  | S L =>
    show _ ≤ ptVal c l L i ∧ ptVal c l L i ≤ _
    unfold ptVal
    split
    · omega
    · split
      · exact Ord.kv_in _ _ _ _ (by omega) (by omega) (named_in16 h)
      · exact Ord.kv_in _ _ _ _ (by omega) (by omega) (named_in16 h)
theorem st_in16 {w : World} {p : Addr} {F : Nat → Prop} {c : Cfg} {sts : List LS} (h : ST w p F c sts) {n : Nat} {st : LS} (hs : sts[n]? = some st) : In64 st.fl := by
  obtain ⟨hr, hc, hlen, b, B0, hdr, vals, ts, rfl, hrow, hI, rfl⟩ := h
  obtain ⟨st2, v, Q, e1, e2, e3⟩ := hrow.at (j := n) ((List.getElem?_eq_some_iff.1 hs).1)
  rw [hs] at e1
  injection e1 with e1
  subst e1
  have h1 : ELV w v Q c (n : Int) st := hI.1 (elvT v Q c (n : Int) st) (List.mem_cons_of_mem _ (List.mem_cons_of_mem _ (List.mem_of_getElem? e3)))
  cases st with
  | A L =>
    obtain ⟨p, rfl, h2⟩ := h1.2
    exact h2.in64
  | S L =>
    obtain ⟨p, rfl, h2⟩ := h1.2
    exact flat_in16 h2.dims
theorem sp_in16 {w : World} {p : Addr} {F : Nat → Prop} {c : Cfg} {sts : List LS} (h : ST w p F c sts) (n i : Int) : -9223372036854775808 ≤ spV c sts n i ∧ spV c sts n i ≤ 9223372036854775807 := by
  unfold spV
  split
  · cases hs : sts[n.toNat]? with
    | none => simp
    | some st => exact pt_in16 c n i (st_in16 h hs)
  · omega
theorem parts_in16 {w : World} {p : Addr} {F : Nat → Prop} {c : Cfg} {sts : List LS} (h : ST w p F c sts) (lo hi : Int) : In64 (ptL c (fun L i => spV c sts (L : Int) i) lo hi) := by
  unfold ptL
  split
  · unfold parts
    intro v hv
    obtain ⟨q, hq, rfl⟩ := List.mem_map.1 hv
    exact sp_in16 h _ _
  · intro v hv
    simp at hv
theorem parts_len16 {c : Cfg} (hr : IsRight c) (pt : Nat → Int → Int) (lo hi : Int) (lo0 : 0 ≤ lo) : (ptL c pt lo hi).length ≤ 1000 := by
  unfold ptL
  split
  next h =>
    have hb := hr.1
    have hb2 := hr.2.1
    have h1 : ¬ hi < lo := fun h1 => by unfold ptC2 at h; rw [if_pos h1] at h; exact absurd h (by decide)
    have h2 : ¬ keys c 0 ≤ hi := fun h2 => by unfold ptC2 at h; rw [if_neg h1, if_pos h2] at h; exact absurd h (by decide)
    have e0 : keys c 0 = 2 ^ (c.bt - 0).toNat := keys_yes hr (by omega) (by omega)
    have e9 : (c.bt - 0).toNat = c.bt.toNat := by omega
    rw [e9] at e0
    have h5 : ((2 ^ c.bt.toNat : Nat) : Int) = 2 ^ c.bt.toNat := by simp
    unfold parts
    rw [List.length_map]
    unfold covL
    split
    next hx =>
      have h3 := (Classical.choose_spec hx).len (by omega) (by omega)
      omega
    next => simp
  next => simp
end Go.Proofs.YtbifihhfoanmgaaGreat.Spn
/- The code's iterator over levels: what it hands to a round, and what it asks of it. By hand. -/
namespace Go.Proofs.YtbifihhfoanmgaaGreat.Stk
open Go Go.RowKit Lw Grd Lin Con Shp Sk Exa Lev
set_option linter.unusedVariables false
set_option linter.unusedSimpArgs false
attribute [local go_sem] Oper.semAt_some
/-- One of N levels. -/
abbrev Lof (N : Nat) := {j : Nat // j < N}
/-- What a round is handed. -/
def encL (vals : List Value) (c : Cfg) (k : Int) (x : Lof vals.length) : Array Value := #[vals[x.1]'x.2, .int .u64 (aboveV c x.1 k)]
/-- The first levels, one behind another. -/
def UpTo {N : Nat} (pre : List (Lof N)) : Prop := pre.map (fun x => x.1) = List.range pre.length
theorem UpTo.nil (N : Nat) : UpTo ([] : List (Lof N)) := rfl
theorem UpTo.snoc {N : Nat} {pre : List (Lof N)} {x : Lof N} : UpTo (pre ++ [x]) ↔ UpTo pre ∧ x.1 = pre.length := by
  unfold UpTo
  rw [List.map_append, List.length_append, List.length_singleton, List.range_succ]
  constructor
  · intro h
    obtain ⟨h1, h2⟩ := List.append_inj h (by simp)
    exact ⟨h1, by simpa using h2⟩
  · rintro ⟨h1, h2⟩
    rw [h1, ← h2]
    rfl
theorem grown_of {w w' : World} (h : Below w.heap.size w w') : w.grownBy w' none := ⟨h.1, h.2, h.3, h.4, fun k hk _ => h.5 k hk⟩
set_option maxRecDepth 100000 in
set_option maxHeartbeats 2000000 in
theorem above_iter (m : Nat) (hm : 1 ≤ m) (c : Cfg) (hc : c.Ok) (k : Int) (k0 : 0 ≤ k) (k1 : k ≤ 18446744073709551615) (l bs bk b g cap : Nat) (G : Nat → Prop) (vals : List Value) (hN : vals.length ≤ 60) (hbs : G bs) (hbk : G bk) (hb : G b) (hg : G g) (J Jx : List (Lof vals.length) → World → Prop)
    (W : World) (hG : ∀ k, G k → k < W.heap.size) (hJ : AbidesFrom W.heap.size J)
    (hY : ∀ pre x W, J pre W → pre.length < vals.length → YieldAt Fence.wide (m - 1) Tryz.prog l (encL vals c k x) W fun e W' => (e = .returned (.bool true) ∧ J (pre ++ [x]) W' ∧ KeptG G W W') ∨ (e = .returned (.bool false) ∧ Jx (pre ++ [x]) W'))
    (h1 : W.cell? ⟨bs, 0, none⟩ = some (.pointer (some ⟨b, 0, none⟩))) (h2 : W.cell? ⟨bk, 0, none⟩ = some (.int .u64 k)) (h3 : W.heap[b]? = some (.cells #[.int .i64 c.bt, .int .i64 c.rw, .int .i64 c.wd, .int .i64 c.md, .int .u64 c.sd, .slice (some ⟨g, 0, none⟩) vals.length cap] 68 (0, 0))) (h4 : ∀ (j : Nat) (v : Value), vals[j]? = some v → W.cell? ⟨g, j, none⟩ = some v) (h0 : J [] W) :
    CallsIn Fence.wide m Tryz.prog 60 #[.func (.yield l) #[] #[], .pointer (some ⟨bs, 0, none⟩), .pointer (some ⟨bk, 0, none⟩)] W fun e W' => (∃ v, e = .returned v) ∧ ((∃ xs, (UpTo xs ∧ xs.length = vals.length) ∧ J xs W') ∨ (∃ pre, UpTo pre ∧ Jx pre W')) := by
  have hbx : (boxT b 68 #[.int .i64 c.bt, .int .i64 c.rw, .int .i64 c.wd, .int .i64 c.md, .int .u64 c.sd, .slice (some ⟨g, 0, none⟩) vals.length cap]).I W := h3
  refine callsIn_of_wp Tryz.func60 rfl trivial ?_ rfl
  simp only [Tryz.ntmps60, List.size_toArray, List.length_cons, List.length_nil, Nat.reduceAdd, Nat.reduceSub, Array.replicate_succ, Array.replicate_zero, List.push_toArray, List.append_toArray, List.nil_append, List.cons_append]
  have c0 : W.cell? ⟨b, 0, none⟩ = some (.int .i64 c.bt) := box_cell hbx rfl
  have c1 : W.cell? ⟨b, 1, none⟩ = some (.int .i64 c.rw) := box_cell hbx rfl
  have c2 : W.cell? ⟨b, 2, none⟩ = some (.int .i64 c.wd) := box_cell hbx rfl
  have c3 : W.cell? ⟨b, 3, none⟩ = some (.int .i64 c.md) := box_cell hbx rfl
  have c4 : W.cell? ⟨b, 4, none⟩ = some (.int .u64 c.sd) := box_cell hbx rfl
  have c5 : W.cell? ⟨b, 5, none⟩ = some (.slice (some ⟨g, 0, none⟩) vals.length cap) := box_cell hbx rfl
  gi_wp2
  gi_loopw [13] (fun i wr => ∃ (j : Nat) (pre : List (Lof vals.length)), j ≤ vals.length ∧ i = .int .i64 j ∧ UpTo pre ∧ pre.length = j ∧ J pre wr ∧ KeptG G W wr)
    (fun i _ => vals.length - (intOf i).toNat)
  case atStart => exact ⟨0, [], Nat.zero_le _, rfl, UpTo.nil _, rfl, h0, KeptG.refl _ _⟩
  case round =>
    obtain ⟨j, pre, hj, rfl, hup, hlen, hJs, hkp⟩ := hrel
    by_cases hlt : j < vals.length
    · obtain ⟨v, hv⟩ : ∃ v, vals[j]? = some v := ⟨_, List.getElem?_eq_getElem hlt⟩
      have hv2 : vals[j]'hlt = v := by
        have h9 := List.getElem?_eq_getElem hlt
        rw [hv] at h9
        exact (Option.some.inj h9).symm
      have hcv := hkp.cell (h4 j v hv) hg
      have d1 := hkp.cell h1 hbs
      have d2 := hkp.cell h2 hbk
      have e0 := hkp.cell c0 hb
      have e1 := hkp.cell c1 hb
      have e2 := hkp.cell c2 hb
      have e3 := hkp.cell c3 hb
      have e4 := hkp.cell c4 hb
      gi_wp2
      refine wpIn_wide.2 ?_
      go_region_with (go_at_call 61; (with_reducible refine (above_any c j k _ hc (by omega) (by omega) k0 k1).mono ?_); rintro e w' ⟨rfl, hbw⟩; have hb2 : Below wr.heap.size wr w' := (Below.drew (Below.refl _ wr)).trans hbw; have hJ2 := hJ pre wr w' none hJs (grown_of hb2) (fun r e => by cases e); obtain ⟨fn, tmps, assign, body, hy, hR⟩ := hY pre ⟨j, hlt⟩ w' hJ2 (by omega); have hk2 := hkp.trans (KeptG.of_below (fun k hk => Nat.lt_of_lt_of_le (hG k hk) hkp.size) hb2); simp only [encL, hv2] at hy)
      all_goals
        gi_wp2
        refine hR.mono ?_
        rintro e W3 (⟨rfl, hJ3, hk3⟩ | ⟨rfl, hJx3⟩)
        · gi_wp2
          go_roundw
          case rel => exact ⟨j + 1, pre ++ [⟨j, hlt⟩], by omega, by simp, UpTo.snoc.2 ⟨hup, hlen.symm⟩, by simp [hlen], hJ3, hk2.trans hk3⟩
          case measure => simp [intOf]; omega
        · gi_wp2
          refine bodyPost_ret (results_none rfl _ _ _) rfl ?_
          exact ⟨⟨_, rfl⟩, .inr ⟨pre ++ [⟨j, hlt⟩], UpTo.snoc.2 ⟨hup, hlen.symm⟩, hJx3⟩⟩
    · obtain rfl : j = vals.length := by omega
      gi_wp2
      go_end0
      exact ⟨⟨_, rfl⟩, .inl ⟨pre, ⟨hup, hlen⟩, hJs⟩⟩
end Go.Proofs.YtbifihhfoanmgaaGreat.Stk
/- The code's first error over all levels: a range over a function. Printed by wip/gen/stk10.py. -/
namespace Go.Proofs.YtbifihhfoanmgaaGreat.Stk
open Go Go.RowKit Lw Grd Lin Con Shp Sk Exa Lev Go.Shelf
set_option linter.unusedVariables false
set_option linter.unusedSimpArgs false
attribute [local go_sem] Oper.semAt_some
theorem sabove_any (p : Addr) (k : Int) (w : World) :
    Calls Tryz.prog 34 #[.pointer (some p), .int .u64 k] w fun e w' => e = .returned (.func (.func 60) #[] #[.pointer (some ⟨w.heap.size, 0, none⟩), .pointer (some ⟨w.heap.size + 1, 0, none⟩)]) ∧ w' = (w.alloc (.cells #[.pointer (some p)] 30)).alloc (.cells #[.int .u64 k] 22) := by
  go_enter Tryz.func34, Tryz.ntmps34
  go_wp2
  go_ret
  exact ⟨rfl, rfl⟩
theorem HoldC.drop {F0 : Nat → Prop} {w0 w : World} {t : Thing} {ts : List Thing} (h : HoldC F0 w0 w (t :: ts)) : HoldC F0 w0 w ts :=
  ⟨⟨h.1.1, fun u hu => h.1.2.1 u (List.mem_cons_of_mem _ hu), h.1.2.2.2⟩, fun u hu => h.2 u (List.mem_cons_of_mem _ hu)⟩
theorem holdc_store {F0 : Nat → Prop} {w0 w : World} {fs ts : List Thing} {b : Nat} {e : TypeId} {v v' : Value} (h : HoldC F0 w0 w (fs ++ boxT b e #[v] :: ts)) : HoldC F0 w0 (w.setCell ⟨b, 0, none⟩ v') (fs ++ boxT b e #[v'] :: ts) := by
  have hb : Boxed w b e v := h.i (t := boxT b e #[v]) (by simp)
  have hb2 := hb.set v'
  refine h.turn (boxT b e #[v']) hb2 (Kept.set (F := (boxT b e #[v]).F) (Kept.refl _ _) (.inl rfl) 0 v') (fun k hk => .inl hk) (cel_box hb2)
set_option maxRecDepth 100000 in
set_option maxHeartbeats 2000000 in
theorem first_1 (c : Cfg) (k : Int) (vals : List Value) (lb : Array Value) (bd : Nat) (F0 : Nat → Prop) (w0 w : World) (gs ls0 : List Thing)
    (P : List (Lof vals.length) → List Thing → Prop) (Px : List (Lof vals.length) → Int → List Thing → Prop)
    (h0 : HoldC F0 w0 w (gs ++ ls0)) (hP : P [] ls0)
    (hseq : ∀ (w1 : World) (m : Nat), 1 ≤ m → Below w.heap.size w w1 → SeqStopsK Fence.wide m Tryz.prog 60 lb (encL vals c k) (KeptG (manyT gs).F) (fun xs => UpTo xs ∧ xs.length = vals.length) UpTo vals.length w1)
    (hcall : ∀ (us : List Thing) (pre : List (Lof vals.length)) (ls : List Thing) (x : Lof vals.length) (W : World), HoldC F0 w0 W (us ++ (gs ++ ls)) → P pre ls → pre.length < vals.length →
      Calls Tryz.prog 35 #[vals[x.1]'x.2, .int .u64 (aboveV c x.1 k), .pointer (some ⟨bd, 0, none⟩)] W fun e W' => ∃ (code : Int) (ls' : List Thing), e = .returned (.int .i64 code) ∧ KeepsOthers W W' ∧ KeptG (manyT gs).F W W' ∧ HoldC F0 w0 W' (us ++ (gs ++ ls')) ∧ (code = 0 → P (pre ++ [x]) ls') ∧ (¬ code = 0 → Px (pre ++ [x]) code ls')) :
    Calls Tryz.prog 33 #[.func (.func 60) #[] lb, .func (.func 35) #[] #[.pointer (some ⟨bd, 0, none⟩)]] w fun e W' =>
      ∃ ls, HoldC F0 w0 W' (gs ++ ls) ∧ ((e = .returned (.int .i64 0) ∧ ∃ xs, (UpTo xs ∧ xs.length = vals.length) ∧ P xs ls) ∨ (∃ pre code, UpTo pre ∧ ¬ code = 0 ∧ e = .returned (.int .i64 code) ∧ Px pre code ls)) := by
  refine (callsIn_wide (n := 9)).1 ?_
  refine callsIn_of_wp_marks Tryz.func33 rfl trivial ?_ rfl
  simp only [Tryz.ntmps33, List.size_toArray, List.length_cons, List.length_nil, Nat.reduceAdd, Nat.reduceSub, Array.replicate_succ, Array.replicate_zero, List.push_toArray, List.append_toArray, List.nil_append, List.cons_append]
  gi_wp2
  have B1 : Below w.heap.size w (w.alloc (.cells #[.func (.func 35) #[] #[.pointer (some ⟨bd, 0, none⟩)]] 82)) := Lw.below_alloc (Below.refl _ _) _
  have B2 := Lw.below_alloc (Below.refl _ (w.alloc (.cells #[.func (.func 35) #[] #[.pointer (some ⟨bd, 0, none⟩)]] 82))) (.cells #[.int .i64 0] 31)
  have h1 := h0.push (boxT w.heap.size 82 #[.func (.func 35) #[] #[.pointer (some ⟨bd, 0, none⟩)]]) B1 (heap_alloc_new w _) (fun k hk => Nat.le_of_eq hk.symm) (cel_box (heap_alloc_new w _))
  have h2 := h1.push (boxT (w.heap.size + 1) 31 #[.int .i64 0]) B2 (by have := heap_alloc_new (w.alloc (.cells #[.func (.func 35) #[] #[.pointer (some ⟨bd, 0, none⟩)]] 82)) (.cells #[.int .i64 0] 31); rw [World.size_alloc] at this; exact this) (fun k hk => Nat.le_of_eq (by simp; exact hk.symm)) (cel_box (by have := heap_alloc_new (w.alloc (.cells #[.func (.func 35) #[] #[.pointer (some ⟨bd, 0, none⟩)]] 82)) (.cells #[.int .i64 0] 31); rw [World.size_alloc] at this; exact this))
  have hG : ∀ k, (manyT gs).F k → k < w.heap.size := fun k hk => by
    obtain ⟨t, ht, hk2⟩ := hk
    exact t.lt w (h0.i (List.mem_append_left _ ht)) k hk2
  have hw0 : w0.heap.size ≤ w.heap.size := h0.1.1.size
  have hI : ∀ (r : Int) (us : List Thing), OwnFrom w.heap.size (fun (_ : Unit) W => HoldC F0 w0 W us) := fun r us => HoldC.own hw0 (fun _ => us)
  refine wpIn_rangeFunc_ownG rfl (by omega) (gf := 60) (lb := lb) rfl trivial (enters_of Tryz.func60 (by kernel_rfl) rfl)
    (hseq _ (9 - 1) (by omega) (B1.trans (B2.mono (by simp)))) (fun h k => KeptG.trans h k) (KeptG.put (fun k hk => by have := hG k hk; simp; omega)) (Below.refl _ _) (fun _ => rfl)
    (fun pre W => ∃ ls, HoldC F0 w0 W (boxT (w.heap.size + 1) 31 #[.int .i64 0] :: boxT w.heap.size 82 #[.func (.func 35) #[] #[.pointer (some ⟨bd, 0, none⟩)]] :: (gs ++ ls)) ∧ P pre ls)
    (fun j pre W => j = .ret ∧ ∃ ls code, HoldC F0 w0 W (boxT (w.heap.size + 1) 31 #[.int .i64 code] :: boxT w.heap.size 82 #[.func (.func 35) #[] #[.pointer (some ⟨bd, 0, none⟩)]] :: (gs ++ ls)) ∧ ¬ code = 0 ∧ Px pre code ls)
    (by
      rintro s A B row ⟨ls, h, hp⟩ hg hr
      exact ⟨ls, HoldC.own (Nat.le_trans hw0 (by simp; omega)) (fun (_ : Unit) => _) () A B row h hg hr, hp⟩)
    (by
      rintro j s A B row ⟨hj, ls, code, h, hne, hp⟩ hg hr
      exact ⟨hj, ls, code, HoldC.own (Nat.le_trans hw0 (by simp; omega)) (fun (_ : Unit) => _) () A B row h hg hr, hne, hp⟩)
    ⟨ls0, h2, hP⟩
    (fun x => { tmps := #[.func (.func 60) #[] lb, .func (.func 35) #[] #[.pointer (some ⟨bd, 0, none⟩)], undef, .pointer (some ⟨w.heap.size, 0, none⟩), .pointer (some ⟨w.heap.size + 1, 0, none⟩), vals[x.1]'x.2, .int .u64 (aboveV c x.1 k), undef, .func (.func 60) #[] lb, vals[x.1]'x.2, .int .u64 (aboveV c x.1 k), undef, undef, undef, undef, undef, undef, undef], defers := [] }) ?assign ?body ?done ?stop
  case assign =>
    intro l x W K hK
    simp only [encL]
    gi_wp2
    exact hK
  case body =>
    rintro l pre x W ⟨ls, hh, hp⟩ hlen
    have b1 := box_cell (hh.i (t := boxT w.heap.size 82 #[.func (.func 35) #[] #[.pointer (some ⟨bd, 0, none⟩)]]) (by simp)) (i := 0) rfl
    gi_wp2_with (refine ⟨trivial, ?_⟩; gi_at_call 35; refine (CallsIn.inRound l (callsIn_wide.2 (hcall [boxT (w.heap.size + 1) 31 #[.int .i64 0], boxT w.heap.size 82 #[.func (.func 35) #[] #[.pointer (some ⟨bd, 0, none⟩)]]] pre ls x W hh hp hlen))).mono ?_; rintro e W' ⟨code, ls', rfl, hko, hkg, hh', hz, hnz⟩; have r1 : Boxed W' (w.heap.size + 1) 31 (.int .i64 0) := hh'.i (t := boxT (w.heap.size + 1) 31 #[.int .i64 0]) (by simp); have r2 := r1.cell; have r3 := r1.frozen)
    · rename_i hcc
      have hc0 : ¬ code = 0 := by simpa using hcc
      have hs := holdc_store (v' := .int .i64 code) (fs := []) hh'
      exact ⟨(hko.trans (KeepsOthers.setCell _ _ _)).from _, rfl, ls', code, hs, hc0, hnz hc0⟩
    · rename_i hcc
      have hc0 : code = 0 := by simpa using hcc
      exact ⟨hko.from _, hkg, ls', hh', hz hc0⟩
  case done =>
    rintro D ys W hD hys ⟨ls, hh, hp⟩ hK
    have r1 : Boxed W (w.heap.size + 1) 31 (.int .i64 0) := hh.i (t := boxT (w.heap.size + 1) 31 #[.int .i64 0]) (by simp)
    have r2 := r1.cell
    have r3 := r1.frozen
    gi_wp2
    have hs := holdc_store (v' := .int .i64 0) (fs := []) hh
    have hK' := (KeepsOthers.setCell W ⟨w.heap.size + 1, 0, none⟩ (.int .i64 0)).same D _ hK rfl
    refine ⟨by simp, .inl ⟨_, _, rfl, run_takeDeferred hK', ?_⟩⟩
    have hs2 := HoldC.own (B := w.heap.size) hw0 (fun (_ : Unit) => boxT (w.heap.size + 1) 31 #[.int .i64 0] :: boxT w.heap.size 82 #[.func (.func 35) #[] #[.pointer (some ⟨bd, 0, none⟩)]] :: (gs ++ ls)) () _ _ _ hs (grownBy_putObj' _ D (.deferred none)) (fun r e => by cases e; exact ⟨by simp at hD; omega, _, hK', rfl⟩)
    have hc5 : (((W.setCell ⟨w.heap.size + 1, 0, none⟩ (.int .i64 0)).putObj D (.deferred none))).cell? ⟨w.heap.size + 1, 0, none⟩ = some (.int .i64 0) := box_cell (hs2.i (t := boxT (w.heap.size + 1) 31 #[.int .i64 0]) (by simp)) (i := 0) rfl
    refine ⟨.int .i64 0, ?_, ls, hs2.drop.drop, .inl ⟨rfl, ys, hys, hp⟩⟩
    simp [results, Tryz.f33, go_sem, hc5]
  case stop =>
    rintro D j pre W hD hpre ⟨rfl, ls, code, hh, hne, hp⟩ hK
    gi_wp2
    refine ⟨by simp, .inl ⟨_, _, rfl, run_takeDeferred hK, ?_⟩⟩
    have hs2 := HoldC.own (B := w.heap.size) hw0 (fun (_ : Unit) => boxT (w.heap.size + 1) 31 #[.int .i64 code] :: boxT w.heap.size 82 #[.func (.func 35) #[] #[.pointer (some ⟨bd, 0, none⟩)]] :: (gs ++ ls)) () _ _ _ hh (grownBy_putObj' _ D (.deferred none)) (fun r e => by cases e; exact ⟨by simp at hD; omega, _, hK, rfl⟩)
    have hc5 : (W.putObj D (.deferred none)).cell? ⟨w.heap.size + 1, 0, none⟩ = some (.int .i64 code) := box_cell (hs2.i (t := boxT (w.heap.size + 1) 31 #[.int .i64 code]) (by simp)) (i := 0) rfl
    refine ⟨.int .i64 code, ?_, ls, hs2.drop.drop, .inr ⟨pre, code, hpre, hne, rfl, hp⟩⟩
    simp [results, Tryz.f33, go_sem, hc5]
set_option maxRecDepth 100000 in
set_option maxHeartbeats 2000000 in
theorem first_2 (c : Cfg) (k : Int) (vals : List Value) (lb : Array Value) (bd : Nat) (F0 : Nat → Prop) (w0 w : World) (gs ls0 : List Thing)
    (P : List (Lof vals.length) → List Thing → Prop) (Px : List (Lof vals.length) → Int → List Thing → Prop)
    (h0 : HoldC F0 w0 w (gs ++ ls0)) (hP : P [] ls0)
    (hseq : ∀ (w1 : World) (m : Nat), 1 ≤ m → Below w.heap.size w w1 → SeqStopsK Fence.wide m Tryz.prog 60 lb (encL vals c k) (KeptG (manyT gs).F) (fun xs => UpTo xs ∧ xs.length = vals.length) UpTo vals.length w1)
    (hcall : ∀ (us : List Thing) (pre : List (Lof vals.length)) (ls : List Thing) (x : Lof vals.length) (W : World), HoldC F0 w0 W (us ++ (gs ++ ls)) → P pre ls → pre.length < vals.length →
      Calls Tryz.prog 36 #[vals[x.1]'x.2, .int .u64 (aboveV c x.1 k), .pointer (some ⟨bd, 0, none⟩)] W fun e W' => ∃ (code : Int) (ls' : List Thing), e = .returned (.int .i64 code) ∧ KeepsOthers W W' ∧ KeptG (manyT gs).F W W' ∧ HoldC F0 w0 W' (us ++ (gs ++ ls')) ∧ (code = 0 → P (pre ++ [x]) ls') ∧ (¬ code = 0 → Px (pre ++ [x]) code ls')) :
    Calls Tryz.prog 33 #[.func (.func 60) #[] lb, .func (.func 36) #[] #[.pointer (some ⟨bd, 0, none⟩)]] w fun e W' =>
      ∃ ls, HoldC F0 w0 W' (gs ++ ls) ∧ ((e = .returned (.int .i64 0) ∧ ∃ xs, (UpTo xs ∧ xs.length = vals.length) ∧ P xs ls) ∨ (∃ pre code, UpTo pre ∧ ¬ code = 0 ∧ e = .returned (.int .i64 code) ∧ Px pre code ls)) := by
  refine (callsIn_wide (n := 9)).1 ?_
  refine callsIn_of_wp_marks Tryz.func33 rfl trivial ?_ rfl
  simp only [Tryz.ntmps33, List.size_toArray, List.length_cons, List.length_nil, Nat.reduceAdd, Nat.reduceSub, Array.replicate_succ, Array.replicate_zero, List.push_toArray, List.append_toArray, List.nil_append, List.cons_append]
  gi_wp2
  have B1 : Below w.heap.size w (w.alloc (.cells #[.func (.func 36) #[] #[.pointer (some ⟨bd, 0, none⟩)]] 82)) := Lw.below_alloc (Below.refl _ _) _
  have B2 := Lw.below_alloc (Below.refl _ (w.alloc (.cells #[.func (.func 36) #[] #[.pointer (some ⟨bd, 0, none⟩)]] 82))) (.cells #[.int .i64 0] 31)
  have h1 := h0.push (boxT w.heap.size 82 #[.func (.func 36) #[] #[.pointer (some ⟨bd, 0, none⟩)]]) B1 (heap_alloc_new w _) (fun k hk => Nat.le_of_eq hk.symm) (cel_box (heap_alloc_new w _))
  have h2 := h1.push (boxT (w.heap.size + 1) 31 #[.int .i64 0]) B2 (by have := heap_alloc_new (w.alloc (.cells #[.func (.func 36) #[] #[.pointer (some ⟨bd, 0, none⟩)]] 82)) (.cells #[.int .i64 0] 31); rw [World.size_alloc] at this; exact this) (fun k hk => Nat.le_of_eq (by simp; exact hk.symm)) (cel_box (by have := heap_alloc_new (w.alloc (.cells #[.func (.func 36) #[] #[.pointer (some ⟨bd, 0, none⟩)]] 82)) (.cells #[.int .i64 0] 31); rw [World.size_alloc] at this; exact this))
  have hG : ∀ k, (manyT gs).F k → k < w.heap.size := fun k hk => by
    obtain ⟨t, ht, hk2⟩ := hk
    exact t.lt w (h0.i (List.mem_append_left _ ht)) k hk2
  have hw0 : w0.heap.size ≤ w.heap.size := h0.1.1.size
  have hI : ∀ (r : Int) (us : List Thing), OwnFrom w.heap.size (fun (_ : Unit) W => HoldC F0 w0 W us) := fun r us => HoldC.own hw0 (fun _ => us)
  refine wpIn_rangeFunc_ownG rfl (by omega) (gf := 60) (lb := lb) rfl trivial (enters_of Tryz.func60 (by kernel_rfl) rfl)
    (hseq _ (9 - 1) (by omega) (B1.trans (B2.mono (by simp)))) (fun h k => KeptG.trans h k) (KeptG.put (fun k hk => by have := hG k hk; simp; omega)) (Below.refl _ _) (fun _ => rfl)
    (fun pre W => ∃ ls, HoldC F0 w0 W (boxT (w.heap.size + 1) 31 #[.int .i64 0] :: boxT w.heap.size 82 #[.func (.func 36) #[] #[.pointer (some ⟨bd, 0, none⟩)]] :: (gs ++ ls)) ∧ P pre ls)
    (fun j pre W => j = .ret ∧ ∃ ls code, HoldC F0 w0 W (boxT (w.heap.size + 1) 31 #[.int .i64 code] :: boxT w.heap.size 82 #[.func (.func 36) #[] #[.pointer (some ⟨bd, 0, none⟩)]] :: (gs ++ ls)) ∧ ¬ code = 0 ∧ Px pre code ls)
    (by
      rintro s A B row ⟨ls, h, hp⟩ hg hr
      exact ⟨ls, HoldC.own (Nat.le_trans hw0 (by simp; omega)) (fun (_ : Unit) => _) () A B row h hg hr, hp⟩)
    (by
      rintro j s A B row ⟨hj, ls, code, h, hne, hp⟩ hg hr
      exact ⟨hj, ls, code, HoldC.own (Nat.le_trans hw0 (by simp; omega)) (fun (_ : Unit) => _) () A B row h hg hr, hne, hp⟩)
    ⟨ls0, h2, hP⟩
    (fun x => { tmps := #[.func (.func 60) #[] lb, .func (.func 36) #[] #[.pointer (some ⟨bd, 0, none⟩)], undef, .pointer (some ⟨w.heap.size, 0, none⟩), .pointer (some ⟨w.heap.size + 1, 0, none⟩), vals[x.1]'x.2, .int .u64 (aboveV c x.1 k), undef, .func (.func 60) #[] lb, vals[x.1]'x.2, .int .u64 (aboveV c x.1 k), undef, undef, undef, undef, undef, undef, undef], defers := [] }) ?assign ?body ?done ?stop
  case assign =>
    intro l x W K hK
    simp only [encL]
    gi_wp2
    exact hK
  case body =>
    rintro l pre x W ⟨ls, hh, hp⟩ hlen
    have b1 := box_cell (hh.i (t := boxT w.heap.size 82 #[.func (.func 36) #[] #[.pointer (some ⟨bd, 0, none⟩)]]) (by simp)) (i := 0) rfl
    gi_wp2_with (refine ⟨trivial, ?_⟩; gi_at_call 36; refine (CallsIn.inRound l (callsIn_wide.2 (hcall [boxT (w.heap.size + 1) 31 #[.int .i64 0], boxT w.heap.size 82 #[.func (.func 36) #[] #[.pointer (some ⟨bd, 0, none⟩)]]] pre ls x W hh hp hlen))).mono ?_; rintro e W' ⟨code, ls', rfl, hko, hkg, hh', hz, hnz⟩; have r1 : Boxed W' (w.heap.size + 1) 31 (.int .i64 0) := hh'.i (t := boxT (w.heap.size + 1) 31 #[.int .i64 0]) (by simp); have r2 := r1.cell; have r3 := r1.frozen)
    · rename_i hcc
      have hc0 : ¬ code = 0 := by simpa using hcc
      have hs := holdc_store (v' := .int .i64 code) (fs := []) hh'
      exact ⟨(hko.trans (KeepsOthers.setCell _ _ _)).from _, rfl, ls', code, hs, hc0, hnz hc0⟩
    · rename_i hcc
      have hc0 : code = 0 := by simpa using hcc
      exact ⟨hko.from _, hkg, ls', hh', hz hc0⟩
  case done =>
    rintro D ys W hD hys ⟨ls, hh, hp⟩ hK
    have r1 : Boxed W (w.heap.size + 1) 31 (.int .i64 0) := hh.i (t := boxT (w.heap.size + 1) 31 #[.int .i64 0]) (by simp)
    have r2 := r1.cell
    have r3 := r1.frozen
    gi_wp2
    have hs := holdc_store (v' := .int .i64 0) (fs := []) hh
    have hK' := (KeepsOthers.setCell W ⟨w.heap.size + 1, 0, none⟩ (.int .i64 0)).same D _ hK rfl
    refine ⟨by simp, .inl ⟨_, _, rfl, run_takeDeferred hK', ?_⟩⟩
    have hs2 := HoldC.own (B := w.heap.size) hw0 (fun (_ : Unit) => boxT (w.heap.size + 1) 31 #[.int .i64 0] :: boxT w.heap.size 82 #[.func (.func 36) #[] #[.pointer (some ⟨bd, 0, none⟩)]] :: (gs ++ ls)) () _ _ _ hs (grownBy_putObj' _ D (.deferred none)) (fun r e => by cases e; exact ⟨by simp at hD; omega, _, hK', rfl⟩)
    have hc5 : (((W.setCell ⟨w.heap.size + 1, 0, none⟩ (.int .i64 0)).putObj D (.deferred none))).cell? ⟨w.heap.size + 1, 0, none⟩ = some (.int .i64 0) := box_cell (hs2.i (t := boxT (w.heap.size + 1) 31 #[.int .i64 0]) (by simp)) (i := 0) rfl
    refine ⟨.int .i64 0, ?_, ls, hs2.drop.drop, .inl ⟨rfl, ys, hys, hp⟩⟩
    simp [results, Tryz.f33, go_sem, hc5]
  case stop =>
    rintro D j pre W hD hpre ⟨rfl, ls, code, hh, hne, hp⟩ hK
    gi_wp2
    refine ⟨by simp, .inl ⟨_, _, rfl, run_takeDeferred hK, ?_⟩⟩
    have hs2 := HoldC.own (B := w.heap.size) hw0 (fun (_ : Unit) => boxT (w.heap.size + 1) 31 #[.int .i64 code] :: boxT w.heap.size 82 #[.func (.func 36) #[] #[.pointer (some ⟨bd, 0, none⟩)]] :: (gs ++ ls)) () _ _ _ hh (grownBy_putObj' _ D (.deferred none)) (fun r e => by cases e; exact ⟨by simp at hD; omega, _, hK, rfl⟩)
    have hc5 : (W.putObj D (.deferred none)).cell? ⟨w.heap.size + 1, 0, none⟩ = some (.int .i64 code) := box_cell (hs2.i (t := boxT (w.heap.size + 1) 31 #[.int .i64 code]) (by simp)) (i := 0) rfl
    refine ⟨.int .i64 code, ?_, ls, hs2.drop.drop, .inr ⟨pre, code, hpre, hne, rfl, hp⟩⟩
    simp [results, Tryz.f33, go_sem, hc5]
end Go.Proofs.YtbifihhfoanmgaaGreat.Stk
/- What Point and Total tell of a stack that was fed. Printed by wip/gen/stk5.py. -/
namespace Go.Proofs.YtbifihhfoanmgaaGreat.Stk
open Go Go.RowKit Lw Grd Lin Con Shp Sk Exa Lev
set_option linter.unusedVariables false
set_option linter.unusedSimpArgs false
theorem st_ex {c : Cfg} {us : Ups} {n : Nat} {i : Int} (hx : exactB c n = true) (i0 : 0 ≤ i) (hi : i < keys c n) : lsPtV c n (stOf c us n) i = hasK i (upN us n) := by
  have hk : ((keys c n).toNat : Int) = keys c n := Int.toNat_of_nonneg (by omega)
  unfold stOf
  rw [if_pos hx]
  show Exa.ptV (sums (keys c n).toNat (upN us n)) i = _
  unfold Exa.ptV
  rw [if_neg (by rw [sums_len, hk]; omega)]
  unfold num
  rw [sums_get (show i.toNat < (keys c n).toNat by omega)]
  show hasK ((i.toNat : Nat) : Int) (upN us n) = _
  rw [Int.toNat_of_nonneg i0]
theorem st_pc {c : Cfg} {us : Ups} {n : Nat} {i : Int} (i0 : 0 ≤ i) (hi : i < keys c n) : lsPtC c n (stOf c us n) i = 0 := by
  have hk : ((keys c n).toNat : Int) = keys c n := Int.toNat_of_nonneg (by omega)
  unfold stOf
  split
  · show Exa.ptC (sums (keys c n).toNat (upN us n)) i = 0
    unfold Exa.ptC
    rw [if_neg (by rw [sums_len, hk]; omega)]
  · show ptCode c n i = 0
    exact if_neg (by omega)
theorem sp_at {c : Cfg} (hr : IsRight c) (us : Ups) {n : Nat} (hn : (n : Int) ≤ c.bt) (i : Int) : spV c (stsOf c us) n i = lsPtV c n (stOf c us n) i ∧ spC c (stsOf c us) n i = lsPtC c n (stOf c us n) i := by
  have hb := hr.1
  have h1 := stsOf_get (c := c) (us := us) (n := n) (by omega)
  unfold spV spC
  rw [if_pos (by omega), if_pos (by omega), Int.toNat_natCast, h1]
  exact ⟨rfl, rfl⟩
theorem tot_at {c : Cfg} (hr : IsRight c) (us : Ups) : spV c (stsOf c us) c.bt 0 = hasK 0 (upN us c.bt.toNat) := by
  have hb := hr.1
  have e : ((c.bt.toNat : Nat) : Int) = c.bt := by omega
  have h1 := (sp_at hr us (n := c.bt.toNat) (by omega) 0).1
  rw [e] at h1
  rw [h1]
  have h2 := st_ex (c := c) (us := us) (n := c.bt.toNat) (i := 0) (by rw [e]; exact Exa.exact_top hr) (by omega) (by rw [e, keys_top hr]; omega)
  rw [e] at h2
  exact h2
end Go.Proofs.YtbifihhfoanmgaaGreat.Stk
/- The document's Plain: has no key less than 0? What no prefix is told less than. Printed by wip/gen/stk7.py. -/
namespace Go.Proofs.YtbifihhfoanmgaaGreat.Stk
open Go Go.RowKit Lw Grd Lin Con Shp Sk Exa Lev
set_option linter.unusedVariables false
set_option linter.unusedSimpArgs false
theorem upN_zero (us : Ups) : upN us 0 = us := by
  unfold upN
  have h : ∀ u : Int × Int, (upK u.1 0, u.2) = u := fun u => by
    unfold upK
    rw [Nat.pow_zero]
    show (u.1 / (1 : Int), u.2) = u
    rw [Int.ediv_one]
  rw [List.map_congr_left (g := id) (fun u _ => h u), List.map_id]
/-- Has no key less than 0? -/
def plainB (us : Ups) : Bool := us.all (fun u => decide (0 ≤ hasK u.1 us))
theorem plain_of {us : Ups} (h : plainB us = true) : ∀ u ∈ us, 0 ≤ hasK u.1 us := fun u hu => of_decide_eq_true (List.all_eq_true.1 h u hu)
theorem has_up_filter (q i : Int) (n : Nat) : ∀ us : Ups, hasK i (upN us n) = (if upK q n = i then hasK q us else 0) + hasK i (upN (us.filter (fun u => u.1 ≠ q)) n)
  | [] => by simp [hasK, upN]
  | u :: us => by
    have ih := has_up_filter q i n us
    have e : hasK i (upN (u :: us) n) = (if upK u.1 n = i then u.2 else 0) + hasK i (upN us n) := rfl
    by_cases h : u.1 = q
    · rw [List.filter_cons_of_neg (by simp [h]), e, ih, h]
      simp only [hasK]
      rw [if_pos h]
      split <;> omega
    · rw [List.filter_cons_of_pos (by simp [h]), e, ih]
      have e2 : hasK i (upN (u :: us.filter (fun u => u.1 ≠ q)) n) = (if upK u.1 n = i then u.2 else 0) + hasK i (upN (us.filter (fun u => u.1 ≠ q)) n) := rfl
      rw [e2]
      simp only [hasK]
      rw [if_neg h]
      split <;> split <;> omega
theorem has_up_nn (n : Nat) (i : Int) : ∀ (m : Nat) (us : Ups), us.length ≤ m → (∀ u ∈ us, 0 ≤ hasK u.1 us) → 0 ≤ hasK i (upN us n)
  | _, [], _, _ => by simp [hasK, upN]
  | 0, u :: us, h, _ => by simp at h
  | m + 1, u :: us, h, hn => by
    have hlen : ((u :: us).filter (fun v => v.1 ≠ u.1)).length ≤ m := by
      rw [List.filter_cons_of_neg (by simp)]
      have := List.length_filter_le (fun v : Int × Int => decide (v.1 ≠ u.1)) us
      simp at h
      omega
    have hf : ∀ v ∈ (u :: us).filter (fun v => v.1 ≠ u.1), 0 ≤ hasK v.1 ((u :: us).filter (fun v => v.1 ≠ u.1)) := by
      intro v hv
      obtain ⟨h1, h2⟩ := List.mem_filter.1 hv
      rw [hasK_filter v.1 u.1 (by simpa using h2)]
      exact hn v h1
    have ih := has_up_nn n i m _ hlen hf
    have h3 := hn u (by simp)
    rw [has_up_filter u.1 i n (u :: us)]
    split <;> omega
/-- No prefix is told less than it has. -/
theorem over_le {c : Cfg} (hr : IsRight c) (hm : c.md ≠ 3) {us : Ups} (h : UpsIn c 0 us) (hp : plainB us = true) {n : Nat} (hn : (n : Int) ≤ c.bt) {i : Int} (i0 : 0 ≤ i) (hi : i < keys c n) : hasK i (upN us n) ≤ lsPtV c n (stOf c us n) i := by
  have hu := upN_in hr h hn
  by_cases hx : exactB c n = true
  · rw [st_ex hx i0 hi]
    exact Int.le_refl _
  · unfold stOf
    rw [if_neg hx]
    show hasK i (upN us n) ≤ ptVal c n (cells c n (upN us n)) i
    rw [pt_least hi hm]
    have hme := cols_meet i0 hi
    by_cases h2 : c.md = 2
    · rw [cells_con h2]
      have r1 := rose_all (rose_zero (rws c) (wds c)) (opsU_ok hu.1) (plus_of hu h2)
      have h3 := r1.lea_own hme
      rw [List.nil_append] at h3
      exact Int.le_trans (hasK_own hu.1 (hu.2 h2)) h3.1
    · rw [cells_lin h2]
      have hsz := chAll_sz (sz_zeros (rws c) (wds c)) (opsU_ok hu.1)
      obtain ⟨j, hj⟩ := List.getElem?_of_mem (lea_mem hsz hme).1
      have hjl := (List.getElem?_eq_some_iff.1 hj).1
      have hjr : j < rws c := by
        unfold named at hjl
        rw [List.length_zipWith, hsz.1] at hjl
        omega
      rw [named_key hu.1 i0 hi hjr] at hj
      injection hj with hj
      rw [← hj]
      have h5 := othK_nn c n i j _ (upN us n) (Nat.le_refl _) (fun u hu2 => has_up_nn n u.1 _ us (Nat.le_refl _) (plain_of hp))
      omega
theorem fld_key (U D : Int) (w : World) : (Instr.field 38 (.agg #[.int .u64 U, .int .i64 D]) 0).run Tryz.prog w = .ok (.int .u64 U) w := by kernel_rfl
theorem rhas_0 (c : Cfg) (A : Option Addr) (n0 k0 : Nat) (qs : Ups) (i : Int) (w : World) (hco : c.Ok) (hkeys : 1 ≤ keys c 0) (hq : UpdV w A n0 k0 qs) (i0 : 0 ≤ i) (i1 : i ≤ 18446744073709551615) :
    Calls Tryz.prog 47 #[.agg #[.int .i64 c.bt, .int .i64 c.rw, .int .i64 c.wd, .int .i64 c.md, .int .u64 c.sd], .slice A n0 k0, .agg #[.int .i64 0, .int .u64 i]] w fun e w' => e = .returned (.int .i64 (hasK i (upsR c 0 qs 0 60))) ∧ Below w.heap.size w w' := by
  have h := rhas_any c A n0 k0 qs 0 i w hco hkeys hq (by omega) i0 i1
  rw [upN_zero] at h
  exact h
set_option maxRecDepth 100000 in
set_option maxHeartbeats 4000000 in
theorem rplain_any (c : Cfg) (A : Option Addr) (n0 k0 : Nat) (qs : Ups) (w : World) (hco : c.Ok) (hkeys : 1 ≤ keys c 0) (hq : UpdV w A n0 k0 qs) :
    Calls Tryz.prog 23 #[.agg #[.int .i64 c.bt, .int .i64 c.rw, .int .i64 c.wd, .int .i64 c.md, .int .u64 c.sd], .slice A n0 k0] w fun e w' => e = .returned (.bool (plainB (upsR c 0 qs 0 60))) ∧ Below w.heap.size w w' := by
  have HQ := Lib.hid hq
  have HL := Lib.hid hq.len
  have hnc := hq.nc
  have hcm := hq.cm
  unfold maxLen at hcm
  have HKY := Lib.hid hkeys
  have hkk := keys_bd c 0
  have CC0 := Lib.hid (fun w k d h0 h1 h2 h3 => rcut15_any c k d w hco h0 h1 h2 h3 hkeys)
  have CH0 := Lib.hid (fun i w hq i0 i1 => rhas_0 c A n0 k0 qs i w hco hkeys hq i0 i1)
  obtain ⟨us, hus⟩ : ∃ us, upsR c 0 qs 0 60 = us := ⟨_, rfl⟩
  rw [hus] at CH0
  have HUS := Lib.hid hus
  rw [hus]
  have HBX : Hid (Have w (w.alloc (.cells #[.int .i64 c.bt, .int .i64 c.rw, .int .i64 c.wd, .int .i64 c.md, .int .u64 c.sd] 24)) [boxT w.heap.size 24 #[.int .i64 c.bt, .int .i64 c.rw, .int .i64 c.wd, .int .i64 c.md, .int .u64 c.sd]]) := Lib.hid (box_new w _ _)
  clear hq hkeys hco hus
  go_enter Tryz.func23, Tryz.ntmps23
  go_wp2
  go_loopw [5] (fun iv wr => ∃ (j : Nat), j ≤ n0 ∧ j ≤ 60 ∧ iv = .int .i64 j ∧ (∀ u ∈ upsR c 0 qs 0 j, 0 ≤ hasK u.1 us) ∧ Have w wr [boxT w.heap.size 24 #[.int .i64 c.bt, .int .i64 c.rw, .int .i64 c.wd, .int .i64 c.md, .int .u64 c.sd]]) (fun iv _ => n0 - (intOf iv).toNat)
  case atStart => exact ⟨0, Nat.zero_le _, Nat.zero_le _, rfl, by rw [upsR_zero]; simp, HBX.out⟩
  case round =>
    obtain ⟨j, hj, hj6, rfl, hall, hv⟩ := hrel
    have HVr := Lib.hid hv
    have HALL := Lib.hid hall
    have hwb := hv.below
    clear hv hall
    by_cases hlt : j < n0 ∧ j < 60
    · obtain ⟨hj1, hj2⟩ := hlt
      obtain ⟨q, hq1⟩ : ∃ q, qs[j]? = some q := ⟨_, List.getElem?_eq_getElem (by rw [HL.out]; omega)⟩
      have hnx := upsR_next (c := c) (l := 0) hq1 (Nat.zero_le j)
      have hcu := cutU_ok HKY.out q
      have hmem : cutU c 0 q ∈ us := by
        rw [← HUS.out]
        unfold upsR
        refine List.mem_map.2 ⟨q, ?_, rfl⟩
        rw [List.drop_zero]
        exact List.mem_of_getElem? (i := j) (by rw [List.getElem?_take, if_pos (by omega)]; exact hq1)
      obtain ⟨a, g, o, rfl, hadd, d1w, d2w, kb, db⟩ := HQ.out.at hq1
      obtain ⟨qk, qd⟩ := q
      simp only at d1w d2w kb db
      have d1 := cell_up d1w hwb
      have d2 := cell_up d2w hwb
      obtain ⟨e1, e2, e3, e4, e5⟩ := box5 HVr.out.i0
      have CC := Lib.hid (fun w => CC0.out w qk qd kb.1 kb.2 db.1 db.2)
      have HCU := Lib.hid hcu
      have HMEM := Lib.hid hmem
      have HNX := Lib.hid hnx
      obtain ⟨U, hU⟩ : ∃ U, (cutU c 0 (qk, qd)).1 = U := ⟨_, rfl⟩
      obtain ⟨D, hD⟩ : ∃ D, (cutU c 0 (qk, qd)).2 = D := ⟨_, rfl⟩
      have hT : cutU c 0 (qk, qd) = (U, D) := by rw [← hU, ← hD]
      rw [hU, hD] at CC
      rw [hT] at HCU HMEM HNX
      have CH := Lib.hid (fun w hq => CH0.out U w hq HCU.out.1 (by have := HCU.out.2.1; simp only at this; omega))
      obtain ⟨Y, hY⟩ : ∃ Y, hasK U us = Y := ⟨_, rfl⟩
      rw [hY] at CH
      have HY := Lib.hid hY
      clear hq1 hnx hcu hmem hT hU hD hY d1w d2w hkk
      have hfd := fld_key U D
      by_cases hneg : Y < 0
      · have dn : decide (Y < 0) = true := decide_eq_true hneg
        have HF : Hid (plainB us = false) := Lib.hid (by
          unfold plainB
          refine List.all_eq_false.2 ⟨(U, D), HMEM.out, ?_⟩
          show ¬ decide (0 ≤ hasK U us) = true
          rw [HY.out]
          exact fun h => by have := of_decide_eq_true h; omega)
        go_upto_region 4 with fail
        go_region_held3 (fun w' => w'.cell? ⟨w.heap.size, 0, none⟩ = some (.int .i64 c.bt) ∧ w'.cell? ⟨w.heap.size, 1, none⟩ = some (.int .i64 c.rw) ∧ w'.cell? ⟨w.heap.size, 2, none⟩ = some (.int .i64 c.wd) ∧ w'.cell? ⟨w.heap.size, 3, none⟩ = some (.int .i64 c.md) ∧ w'.cell? ⟨w.heap.size, 4, none⟩ = some (.int .u64 c.sd) ∧ w'.cell? ⟨g, o, none⟩ = some (.int .u64 qk) ∧ w'.cell? ⟨g, o + 1, none⟩ = some (.int .i64 qd)) (first | (refine ⟨?_, ?_, ?_, ?_, ?_, ?_, ?_⟩ <;> (first | (with_reducible assumption) | (with_reducible refine cell_up e1 ?_) | (with_reducible refine cell_up e2 ?_) | (with_reducible refine cell_up e3 ?_) | (with_reducible refine cell_up e4 ?_) | (with_reducible refine cell_up e5 ?_) | (with_reducible refine cell_up d1 ?_) | (with_reducible refine cell_up d2 ?_)) <;> (repeat' (first | (with_reducible exact Below.refl _ _) | (with_reducible assumption) | (with_reducible refine below_over ?_ _ _) | (with_reducible refine Lw.below_alloc ?_ _) | (with_reducible refine Below.drew ?_) | (with_reducible refine below_drewN ?_ _) | (with_reducible refine Below.setCell ?_ ?_ _) | go_size)))) (first
          | (go_at_call 47; (with_reducible refine (CH.out _ (HQ.out.up (HVr.out.up (by repeat' (first | (with_reducible exact Below.refl _ _) | (with_reducible assumption) | (with_reducible refine below_over ?_ _ _) | (with_reducible refine Lw.below_alloc ?_ _) | (with_reducible refine Below.drew ?_) | (with_reducible refine below_drewN ?_ _) | (with_reducible refine Below.setCell ?_ ?_ _) | go_size))).below)).mono ?_); rintro e w'' ⟨rfl, hb⟩; obtain ⟨bs2, dd2, rfl⟩ := below_grow hb; clear hb)
          | (go_at_call 25; (with_reducible refine (CC.out _).mono ?_); rintro e w' ⟨rfl, hb⟩; obtain ⟨bs, dd, rfl⟩ := below_grow hb; clear hb))
        all_goals go_wp2
        all_goals go_ret
        all_goals exact ⟨ret_bs HF.out.symm, (HVr.out.up (by repeat' (first | (with_reducible exact Below.refl _ _) | (with_reducible assumption) | (with_reducible refine below_over ?_ _ _) | (with_reducible refine Lw.below_alloc ?_ _) | (with_reducible refine Below.drew ?_) | (with_reducible refine below_drewN ?_ _) | (with_reducible refine Below.setCell ?_ ?_ _) | go_size))).below⟩
      · have dn : decide (Y < 0) = false := decide_eq_false hneg
        have HN : Hid (∀ u ∈ upsR c 0 qs 0 (j + 1), 0 ≤ hasK u.1 us) := Lib.hid (fun u hu => by
          rw [HNX.out] at hu
          rcases List.mem_append.1 hu with h | h
          · exact HALL.out u h
          · rw [List.mem_singleton.1 h]
            show 0 ≤ hasK U us
            rw [HY.out]
            omega)
        go_upto_region 4 with fail
        go_region_held3 (fun w' => w'.cell? ⟨w.heap.size, 0, none⟩ = some (.int .i64 c.bt) ∧ w'.cell? ⟨w.heap.size, 1, none⟩ = some (.int .i64 c.rw) ∧ w'.cell? ⟨w.heap.size, 2, none⟩ = some (.int .i64 c.wd) ∧ w'.cell? ⟨w.heap.size, 3, none⟩ = some (.int .i64 c.md) ∧ w'.cell? ⟨w.heap.size, 4, none⟩ = some (.int .u64 c.sd) ∧ w'.cell? ⟨g, o, none⟩ = some (.int .u64 qk) ∧ w'.cell? ⟨g, o + 1, none⟩ = some (.int .i64 qd)) (first | (refine ⟨?_, ?_, ?_, ?_, ?_, ?_, ?_⟩ <;> (first | (with_reducible assumption) | (with_reducible refine cell_up e1 ?_) | (with_reducible refine cell_up e2 ?_) | (with_reducible refine cell_up e3 ?_) | (with_reducible refine cell_up e4 ?_) | (with_reducible refine cell_up e5 ?_) | (with_reducible refine cell_up d1 ?_) | (with_reducible refine cell_up d2 ?_)) <;> (repeat' (first | (with_reducible exact Below.refl _ _) | (with_reducible assumption) | (with_reducible refine below_over ?_ _ _) | (with_reducible refine Lw.below_alloc ?_ _) | (with_reducible refine Below.drew ?_) | (with_reducible refine below_drewN ?_ _) | (with_reducible refine Below.setCell ?_ ?_ _) | go_size)))) (first
          | (go_at_call 47; (with_reducible refine (CH.out _ (HQ.out.up (HVr.out.up (by repeat' (first | (with_reducible exact Below.refl _ _) | (with_reducible assumption) | (with_reducible refine below_over ?_ _ _) | (with_reducible refine Lw.below_alloc ?_ _) | (with_reducible refine Below.drew ?_) | (with_reducible refine below_drewN ?_ _) | (with_reducible refine Below.setCell ?_ ?_ _) | go_size))).below)).mono ?_); rintro e w'' ⟨rfl, hb⟩; obtain ⟨bs2, dd2, rfl⟩ := below_grow hb; clear hb)
          | (go_at_call 25; (with_reducible refine (CC.out _).mono ?_); rintro e w' ⟨rfl, hb⟩; obtain ⟨bs, dd, rfl⟩ := below_grow hb; clear hb))
        all_goals go_wp2
        all_goals go_roundw
        all_goals first
          | exact ⟨j + 1, by omega, by omega, by go_num, HN.out, HVr.out.up (by repeat' (first | (with_reducible exact Below.refl _ _) | (with_reducible assumption) | (with_reducible refine below_over ?_ _ _) | (with_reducible refine Lw.below_alloc ?_ _) | (with_reducible refine Below.drew ?_) | (with_reducible refine below_drewN ?_ _) | (with_reducible refine Below.setCell ?_ ?_ _) | go_size))⟩
          | (simp [intOf]; omega)
    · have hend : upsR c 0 qs 0 j = us := by rw [← HUS.out]; exact upsR_end hj6 (by rw [HL.out]; omega)
      have hall := HALL.out
      rw [hend] at hall
      have HT : Hid (plainB us = true) := Lib.hid (List.all_eq_true.2 (fun u hu => decide_eq_true (hall u hu)))
      have hcases : ((j : Int) < n0 ∧ ¬ (j : Int) < 60) ∨ ¬ (j : Int) < n0 := by omega
      clear hend hall hlt
      rcases hcases with ⟨hc1, hc2⟩ | hc1
      all_goals go_wp2
      all_goals go_ret
      all_goals exact ⟨ret_bs HT.out.symm, (HVr.out.up (by repeat' (first | (with_reducible exact Below.refl _ _) | (with_reducible assumption) | (with_reducible refine below_over ?_ _ _) | (with_reducible refine Lw.below_alloc ?_ _) | (with_reducible refine Below.drew ?_) | (with_reducible refine below_drewN ?_ _) | (with_reducible refine Below.setCell ?_ ?_ _) | go_size))).below⟩
end Go.Proofs.YtbifihhfoanmgaaGreat.Stk
/- What spans of stacks that were fed have, in numbers. For stages from 16 on. -/
namespace Go.Proofs.YtbifihhfoanmgaaGreat.Spn
open Go Go.RowKit Lw Grd Lin Con Shp Sk Exa Lev Stk Pcs
set_option linter.unusedVariables false
theorem cel_within {b : Int} {L : List (List Int)} (hb : 0 ≤ b) (h : Within b L) (r v : Nat) : -b ≤ cel L r v ∧ cel L r v ≤ b := by
  unfold cel
  cases h1 : L[r]? with
  | none => simp; omega
  | some x =>
    simp only [Option.getD_some]
    cases h2 : x[v]? with
    | none => simp; omega
    | some y => exact h x (List.mem_of_getElem? h1) y (List.mem_of_getElem? h2)
theorem cells_within {c : Cfg} {n : Int} {us : Ups} (h : UpsIn c n us) (hl : us.length ≤ 60) : Within 65970697666560 (cells c n us) := by
  by_cases h2 : c.md = 2
  · rw [cells_con h2]
    exact (rose_dims (opsU_ok h.1) (plus_of h h2) (by rw [opsU_len]; exact hl)).2
  · rw [cells_lin h2]
    exact within_mono (chAll_within (c := 1099511627776) (by omega) (b := 0) (Int.le_refl _) (within_zeros (rws c) (wds c)) (opsU_ok h.1)) (c := 65970697666560) (by rw [opsU_len]; omega)
theorem named_within {b : Int} (hb : 0 ≤ b) : ∀ {L : List (List Int)} {cs : List Int}, Within b L → ∀ v ∈ named L cs, -b ≤ v ∧ v ≤ b
  | [], _, _ => fun v hv => by simp [named] at hv
  | _ :: _, [], _ => fun v hv => by simp [named] at hv
  | r :: L, k :: cs, h => fun v hv => by
    rcases List.mem_cons.1 (show v ∈ (r[k.toNat]?.getD 0) :: named L cs from hv) with e | e
    · subst e
      cases h1 : r[k.toNat]? with
      | none => simp; omega
      | some y => exact h r (by simp) y (List.mem_of_getElem? h1)
    · exact named_within hb (fun x hx => h x (List.mem_cons_of_mem _ hx)) v e
theorem pt_bd {c : Cfg} (hr : IsRight c) {us : Ups} (h : UpsIn c 0 us) (hl : us.length ≤ 60) {n : Nat} (hn : (n : Int) ≤ c.bt) {i : Int} (i0 : 0 ≤ i) (hi : i < keys c n) : -65970697666560 ≤ lsPtV c n (stOf c us n) i ∧ lsPtV c n (stOf c us n) i ≤ 65970697666560 := by
  have hu := upN_in hr h hn
  by_cases hx : exactB c n = true
  · rw [st_ex hx i0 hi]
    have h2 := hasK_bd (k := i) (b := 1099511627776) (by omega) (us := upN us n) (fun v hv => ⟨(hu.1 v hv).2.2.1, (hu.1 v hv).2.2.2⟩)
    rw [upN_len] at h2
    omega
  · unfold stOf
    rw [if_neg hx]
    show _ ≤ ptVal c n (cells c n (upN us n)) i ∧ ptVal c n (cells c n (upN us n)) i ≤ _
    have hw := cells_within hu (by rw [upN_len]; exact hl)
    by_cases hm : c.md = 3
    · rw [pt_middle hi hm]
      exact Ord.kv_in _ _ _ _ (by omega) (by omega) (named_within (by omega) hw)
    rw [pt_least hi hm]
    obtain ⟨r, v, -, -, -, e⟩ := lea_is (cells_sz hu) (cols_meet i0 hi)
    rw [e]
    exact cel_within (by omega) hw r v
/-- A piece of a span of keys is one of the level's. -/
theorem cov_in {c : Cfg} (hr : IsRight c) {lo hi : Int} (h0 : 0 ≤ lo) (h1 : lo ≤ hi) (h2 : hi < keys c 0) {l : List (Nat × Nat)} (h : Cov c.bt.toNat (hi.toNat + 1) lo.toNat l) {p : Nat × Nat} (hp : p ∈ l) : (p.1 : Int) ≤ c.bt ∧ ((p.2 : Nat) : Int) < keys c p.1 := by
  have hb := hr.1
  obtain ⟨i, hi2⟩ := List.getElem?_of_mem hp
  obtain ⟨a1, a2, a3⟩ := h.at i p hi2
  have e0 : keys c 0 = 2 ^ (c.bt - 0).toNat := keys_yes hr (by omega) (by omega)
  have e1 : keys c p.1 = 2 ^ (c.bt - p.1).toNat := keys_yes hr (by omega) (by omega)
  refine ⟨by omega, ?_⟩
  rw [e1]
  have e2 : (c.bt - 0).toNat = c.bt.toNat := by omega
  have e3 : (c.bt - p.1).toNat = c.bt.toNat - p.1 := by omega
  rw [e2] at e0
  rw [e3]
  have h5 : ((2 ^ c.bt.toNat : Nat) : Int) = 2 ^ c.bt.toNat := by simp
  have h6 : ((2 ^ (c.bt.toNat - p.1) : Nat) : Int) = 2 ^ (c.bt.toNat - p.1) := by simp
  have h7 : hi.toNat + 1 ≤ 2 ^ c.bt.toNat := by omega
  have h8 : 2 ^ c.bt.toNat = 2 ^ (c.bt.toNat - p.1) * 2 ^ p.1 := by rw [← Nat.pow_add]; congr 1; omega
  have h9 : (p.2 + 1) * 2 ^ p.1 ≤ 2 ^ (c.bt.toNat - p.1) * 2 ^ p.1 := by rw [Nat.succ_mul]; omega
  have h10 := Nat.le_of_mul_le_mul_right h9 (Nat.two_pow_pos p.1)
  omega
/-- What a span of a stack that was fed is told to have. -/
theorem rg_fed {c : Cfg} (hr : IsRight c) {us : Ups} (h : UpsIn c 0 us) (hl : us.length ≤ 60) {lo hi : Int} (h0 : 0 ≤ lo) (h1 : lo ≤ hi) (h2 : hi < keys c 0) {l : List (Nat × Nat)} (hc : Cov c.bt.toNat (hi.toNat + 1) lo.toNat l) :
    ptC2 c lo hi = 0 ∧ parts c (fun L i => spV c (stsOf c us) (L : Int) i) lo hi = l.map (fun p => lsPtV c p.1 (stOf c us p.1) ((p.2 : Nat) : Int)) ∧ rgC c (fun L i => spV c (stsOf c us) (L : Int) i) lo hi = 0 ∧ rgV c (fun L i => spV c (stsOf c us) (L : Int) i) lo hi = (l.map (fun p => lsPtV c p.1 (stOf c us p.1) ((p.2 : Nat) : Int))).sum := by
  have e1 : ptC2 c lo hi = 0 := by unfold ptC2; rw [if_neg (by omega), if_neg (by omega)]
  have e2 : parts c (fun L i => spV c (stsOf c us) (L : Int) i) lo hi = l.map (fun p => lsPtV c p.1 (stOf c us p.1) ((p.2 : Nat) : Int)) := by
    unfold parts
    rw [covL_eq hc]
    exact List.map_congr_left (fun p hp => (sp_at hr us (cov_in hr h0 h1 h2 hc hp).1 _).1)
  have hB := hr.1
  have hB2 := hr.2.1
  have e0 : keys c 0 = 2 ^ (c.bt - 0).toNat := keys_yes hr (by omega) (by omega)
  have e9 : (c.bt - 0).toNat = c.bt.toNat := by omega
  rw [e9] at e0
  have h5 : ((2 ^ c.bt.toNat : Nat) : Int) = 2 ^ c.bt.toNat := by simp
  have hlen := hc.len (by omega) (by omega)
  have hbd := sum_bd (f := fun p : Nat × Nat => lsPtV c p.1 (stOf c us p.1) ((p.2 : Nat) : Int)) (b := 65970697666560) (l := l) (fun p hp => by
    have h3 := cov_in hr h0 h1 h2 hc hp
    exact pt_bd hr h hl h3.1 (by omega) h3.2)
  have hfit : Wid.fit64 (l.map (fun p => lsPtV c p.1 (stOf c us p.1) ((p.2 : Nat) : Int))).sum = true := by
    exact (Wid.fit64_yes (by omega) (by omega)).1
  have e3 : rgC c (fun L i => spV c (stsOf c us) (L : Int) i) lo hi = 0 := by unfold rgC; rw [if_pos e1, e2, if_pos hfit]
  exact ⟨e1, e2, e3, by unfold rgV; rw [if_pos e3, e2]⟩
theorem cov_all (B : Nat) : Cov B (2 ^ B) 0 [(B, 0)] := by
  have h : GL B 0 (2 ^ B) B := ⟨Nat.le_refl _, Nat.dvd_zero _, by omega, .inl rfl⟩
  have h2 := Cov.cons h (by rw [Nat.zero_add]; exact Cov.nil)
  rw [Nat.zero_div] at h2
  exact h2
theorem cov_one (B k : Nat) : Cov B (k + 1) k [(0, k)] := by
  have h : GL B k (k + 1) 0 := ⟨Nat.zero_le _, by simp, by simp, .inr (.inr (by simp))⟩
  have h2 := Cov.cons h (by rw [Nat.pow_zero]; exact Cov.nil)
  rw [Nat.pow_zero, Nat.div_one] at h2
  exact h2
end Go.Proofs.YtbifihhfoanmgaaGreat.Spn
/- The document's Guess of layer 16. Printed by wip/gen/spn10.py. -/
namespace Go.Proofs.YtbifihhfoanmgaaGreat.Spn
open Go Go.RowKit Lw Grd Lin Con Shp Sk Exa Lev Stk Pcs
set_option linter.unusedVariables false
set_option linter.unusedSimpArgs false
theorem gcols_any (c : Cfg) (l k : Int) (m : Nat) (w : World) (h : c.Ok) (l0 : -9223372036854775808 ≤ l) (l1 : l ≤ 9223372036854775807) (k0 : 0 ≤ k) (k1 : k ≤ 18446744073709551615) (hk : k < keys c l) (hm : rws c = m) :
    Calls Tryz.prog 49 #[.agg #[.int .i64 c.bt, .int .i64 c.rw, .int .i64 c.wd, .int .i64 c.md, .int .u64 c.sd], .int .i64 l, .int .u64 k] w fun e w' => ∃ (A : Addr) (cap : Nat), e = .returned (.slice (some A) m cap) ∧ Rd .i64 w' (some A) (cols c l k) ∧ Below w.heap.size w w' := by
  subst hm
  have hl : (cols c l k).length = rws c := by rw [cols_len, if_pos hk]; rfl
  refine (rcols_any c l k w h l0 l1 k0 k1).mono fun e w' ⟨A, cap, he, hr, _, _, hb⟩ => ?_
  rw [hl] at he
  exact ⟨A, cap, he, hr, hb⟩
theorem othN_snoc (c : Cfg) (n : Nat) (i : Int) (r : Nat) (us : Ups) (u : Int × Int) : othK c n i r (upN (us ++ [u]) n) = othK c n i r (upN us n) + (if upK u.1 n ≠ i ∧ col c n (upK u.1 n) r = col c n i r then u.2 else 0) := by
  rw [upN_app, othK_app]
  congr 1
  have e : upN [u] n = [(upK u.1 n, u.2)] := rfl
  rw [e]
  simp only [othK]
  rw [Int.add_zero]
theorem othN_bd {c : Cfg} (hk : 1 ≤ keys c 0) (qs : Ups) (j n : Nat) (i : Int) (r : Nat) (hj : j ≤ 60) : -65970697666560 ≤ othK c n i r (upN (upsR c 0 qs 0 j) n) ∧ othK c n i r (upN (upsR c 0 qs 0 j) n) ≤ 65970697666560 := by
  have h := upsR_in hk qs 0 j
  have hl := upsR_len c 0 qs 0 j
  have h2 := othK_bd (c := c) (l := n) (k := i) (r := r) (b := 1099511627776) (by omega) (us := upN (upsR c 0 qs 0 j) n) (fun v hv => by
    obtain ⟨u, hu, rfl⟩ := List.mem_map.1 hv
    exact ⟨(h.1 u hu).2.2.1, (h.1 u hu).2.2.2⟩)
  rw [upN_len] at h2
  omega
/-- What Point tells in the mode Linear. -/
theorem guess_val {c : Cfg} (hr : IsRight c) (hm : c.md = 1) {us : Ups} (h : UpsIn c 0 us) {n : Nat} (hn : (n : Int) ≤ c.bt) {i x : Int} (i0 : 0 ≤ i) (hi : i < keys c n) (hx : exactB c n = false) {r0 : Nat} (hr0 : r0 < rws c) (he : othK c n i r0 (upN us n) = x) (hl : ∀ r, r < rws c → x ≤ othK c n i r (upN us n)) : lsPtV c n (stOf c us n) i = hasK i (upN us n) + x := by
  have hu := upN_in hr h hn
  unfold stOf
  rw [if_neg (by rw [hx]; decide)]
  show ptVal c n (cells c n (upN us n)) i = _
  rw [pt_least hi (by omega), cells_lin (by omega)]
  exact lea_key hu.1 i0 hi hr0 he hl
set_option maxRecDepth 100000 in
set_option maxHeartbeats 4000000 in
theorem guess_e (c : Cfg) (A : Option Addr) (n0 k0 : Nat) (qs : Ups) (n : Nat) (i : Int) (w : World) (hr : IsRight c) (hco : c.Ok) (hkeys : 1 ≤ keys c 0) (hq : UpdV w A n0 k0 qs) (hn : (n : Int) ≤ c.bt) (i0 : 0 ≤ i) (hi : i < keys c n) (hx : exactB c n = true) :
    Calls Tryz.prog 22 #[.agg #[.int .i64 c.bt, .int .i64 c.rw, .int .i64 c.wd, .int .i64 c.md, .int .u64 c.sd], .slice A n0 k0, .agg #[.int .i64 (n : Int), .int .u64 i]] w fun e w' => e = .returned (.int .i64 (lsPtV c n (stOf c (upsR c 0 qs 0 60) n) i)) ∧ Below w.heap.size w w' := by
  have hb := hr.2.1
  have hkn := keys_bd c n
  rw [st_ex hx i0 hi]
  have CH := Lib.hid (fun w hq => rhas_any c A n0 k0 qs n i w hco hkeys hq (by omega) i0 (by omega))
  have CX := Lib.hid (fun w => rexact_any c n w hco (by omega) (by omega))
  rw [hx] at CX
  obtain ⟨V, hV⟩ : ∃ V, hasK i (upN (upsR c 0 qs 0 60) n) = V := ⟨_, rfl⟩
  rw [hV] at CH ⊢
  have HQ := Lib.hid hq
  have HBX : Hid (Have w ((w.alloc (.cells #[.int .i64 c.bt, .int .i64 c.rw, .int .i64 c.wd, .int .i64 c.md, .int .u64 c.sd] 24)).alloc (.cells #[.int .i64 (n : Int), .int .u64 i] 56)) [boxT (w.heap.size + 1) 56 #[.int .i64 (n : Int), .int .u64 i], boxT w.heap.size 24 #[.int .i64 c.bt, .int .i64 c.rw, .int .i64 c.wd, .int .i64 c.md, .int .u64 c.sd]]) := Lib.hid (two_boxs w _ _ _ _)
  clear hr hco hkeys hq hx hV
  go_enter Tryz.func22, Tryz.ntmps22
  go_wp2_with (first
    | (go_at_call 48; (with_reducible refine (CX.out _).mono ?_); rintro e w2 ⟨rfl, hb2⟩; have HV2 := Lib.hid (HV1.out.up hb2); clear hb2)
    | (go_at_call 47; (with_reducible refine (CH.out _ (HQ.out.up HBX.out.below)).mono ?_); rintro e w1 ⟨rfl, hb2⟩; have HV1 := Lib.hid (HBX.out.up hb2); clear hb2; obtain ⟨e1, e2, e3, e4, e5⟩ := box5 HV1.out.i1; have p1 := box_cell (i := 0) HV1.out.i0 rfl; have p2 := box_cell (i := 1) HV1.out.i0 rfl))
  go_ret
  exact ⟨rfl, HV2.out.below⟩
set_option maxRecDepth 100000 in
set_option maxHeartbeats 40000000 in
theorem guess_n (c : Cfg) (A : Option Addr) (n0 k0 : Nat) (qs : Ups) (n : Nat) (i : Int) (w : World) (hr : IsRight c) (hco : c.Ok) (hmd : c.md = 1) (hkeys : 1 ≤ keys c 0) (hq : UpdV w A n0 k0 qs) (hn : (n : Int) ≤ c.bt) (i0 : 0 ≤ i) (hi : i < keys c n) (hx : exactB c n = false) :
    Calls Tryz.prog 22 #[.agg #[.int .i64 c.bt, .int .i64 c.rw, .int .i64 c.wd, .int .i64 c.md, .int .u64 c.sd], .slice A n0 k0, .agg #[.int .i64 (n : Int), .int .u64 i]] w fun e w' => e = .returned (.int .i64 (lsPtV c n (stOf c (upsR c 0 qs 0 60) n) i)) ∧ Below w.heap.size w w' := by
  have hb := hr.2.1
  have hkn := keys_bd c n
  have hk00 := keys_bd c 0
  have HVAL := Lib.hid (fun x r0 (h0 : r0 < rws c) (he : othK c n i r0 (upN (upsR c 0 qs 0 60) n) = x) (hl : ∀ r, r < rws c → x ≤ othK c n i r (upN (upsR c 0 qs 0 60) n)) => guess_val hr hmd (upsR_in hkeys qs 0 60) hn i0 hi hx h0 he hl)
  have CH := Lib.hid (fun w hq => rhas_any c A n0 k0 qs n i w hco hkeys hq (by omega) i0 (by omega))
  have HHB := Lib.hid (hasN_bd (c := c) hkeys qs 60 n i (by omega))
  have CX := Lib.hid (fun w => rexact_any c n w hco (by omega) (by omega))
  rw [hx] at CX
  have hm8 : 1 ≤ rws c ∧ rws c ≤ 8 := ⟨(rws_bd hr).1, (rws_bd hr).2.1⟩
  obtain ⟨m, hm⟩ : ∃ m, rws c = m := ⟨_, rfl⟩
  have CO := Lib.hid (fun w => gcols_any c n i m w hco (by omega) (by omega) i0 (by omega) hi hm)
  have CB := Lib.hid (fun k w h0 h1 h2 => gcols_any c n k m w hco (by omega) (by omega) h0 h1 h2 hm)
  have HCA := Lib.hid (fun k row (h2 : k < keys c n) (h3 : row < m) => cols_at (c := c) (l := n) (k := k) h2 (r := row) (by rw [hm]; exact h3))
  have CC0 := Lib.hid (fun w k d h0 h1 h2 h3 => rcut15_any c k d w hco h0 h1 h2 h3 hkeys)
  have HBD := Lib.hid (fun r j (hj : j ≤ 60) => othN_bd (c := c) hkeys qs j n i r hj)
  have HUK := Lib.hid (fun U (h0 : 0 ≤ U) (h1 : U < keys c 0) => upK_keys hr (k := U) (n := n) h0 h1 (by omega))
  have HSR := Lib.hid (fun U => shr_at (U := U) (n := n) (by omega))
  have HKY := Lib.hid hkeys
  have HKN := Lib.hid hkn
  have HK0 := Lib.hid hk00
  have HI := Lib.hid (And.intro i0 hi)
  rw [hm] at hm8 HVAL
  have HQ := Lib.hid hq
  have HL := Lib.hid hq.len
  have hnc := hq.nc
  have hcm := hq.cm
  unfold maxLen at hcm
  have hu : IntKind.u64.wrap (n : Int) = n := by rw [IntKind.wrap_u64]; omega
  obtain ⟨HV0, hHV0⟩ : ∃ V, hasK i (upN (upsR c 0 qs 0 60) n) = V := ⟨_, rfl⟩
  rw [hHV0] at CH HVAL HHB
  obtain ⟨RES, hRES⟩ : ∃ V, lsPtV c n (stOf c (upsR c 0 qs 0 60) n) i = V := ⟨_, rfl⟩
  rw [hRES] at HVAL ⊢
  have HBX : Hid (Have w ((w.alloc (.cells #[.int .i64 c.bt, .int .i64 c.rw, .int .i64 c.wd, .int .i64 c.md, .int .u64 c.sd] 24)).alloc (.cells #[.int .i64 (n : Int), .int .u64 i] 56)) [boxT (w.heap.size + 1) 56 #[.int .i64 (n : Int), .int .u64 i], boxT w.heap.size 24 #[.int .i64 c.bt, .int .i64 c.rw, .int .i64 c.wd, .int .i64 c.md, .int .u64 c.sd]]) := Lib.hid (two_boxs w _ _ _ _)
  clear hr hco hkeys hq hx hmd hn i0 hi hkn hk00 hm hHV0 hRES hb
  go_enter Tryz.func22, Tryz.ntmps22
  go_wp2_with (first
    | (go_at_call 49; (with_reducible refine (CO.out _).mono ?_); rintro e w3 ⟨Ao, capo, rfl, rdo, hb2⟩; have RDO := Lib.hid rdo; have HV3 := Lib.hid (HV2.out.up hb2); clear hb2 rdo)
    | (go_at_call 48; (with_reducible refine (CX.out _).mono ?_); rintro e w2 ⟨rfl, hb2⟩; have HV2 := Lib.hid (HV1.out.up hb2); clear hb2; clear e1 e2 e3 e4 e5 p1 p2; obtain ⟨e1, e2, e3, e4, e5⟩ := box5 HV2.out.i1; have p1 := box_cell (i := 0) HV2.out.i0 rfl; have p2 := box_cell (i := 1) HV2.out.i0 rfl)
    | (go_at_call 47; (with_reducible refine (CH.out _ (HQ.out.up HBX.out.below)).mono ?_); rintro e w1 ⟨rfl, hb2⟩; have HV1 := Lib.hid (HBX.out.up hb2); clear hb2; obtain ⟨e1, e2, e3, e4, e5⟩ := box5 HV1.out.i1; have p1 := box_cell (i := 0) HV1.out.i0 rfl; have p2 := box_cell (i := 1) HV1.out.i0 rfl))
  clear e1 e2 e3 e4 e5 p1 p2
  go_loopw [9, 10] (fun bv rv wr => ∃ (row : Nat) (x : Int), row ≤ m ∧ rv = .int .i64 row ∧ bv = .int .i64 x ∧ (row = 0 ∨ ∃ r0, r0 < row ∧ othK c n i r0 (upN (upsR c 0 qs 0 60) n) = x) ∧ (∀ r, r < row → x ≤ othK c n i r (upN (upsR c 0 qs 0 60) n)) ∧ Have w wr [boxT (w.heap.size + 1) 56 #[.int .i64 (n : Int), .int .u64 i], boxT w.heap.size 24 #[.int .i64 c.bt, .int .i64 c.rw, .int .i64 c.wd, .int .i64 c.md, .int .u64 c.sd]] ∧ Below w3.heap.size w3 wr) (fun _ rv _ => m - (intOf rv).toNat)
  case atStart => exact ⟨0, 0, Nat.zero_le _, rfl, rfl, .inl rfl, fun r h => absurd h (Nat.not_lt_zero _), HV3.out, Below.refl _ _⟩
  case round =>
    obtain ⟨row, x, hrow, rfl, rfl, hex, hle, hvo, hbo⟩ := hrel
    obtain ⟨wo, hwo⟩ : ∃ wo, wo = wr := ⟨_, rfl⟩
    subst hwo
    have HEX := Lib.hid hex
    have HLE := Lib.hid hle
    have HVO := Lib.hid hvo
    have HBO := Lib.hid hbo
    clear hex hle hvo hbo
    by_cases hrm : row < m
    · have hr1 : (row : Int) < (m : Int) := by omega
      have hr0 : (0 : Int) ≤ (row : Int) := by omega
      go_wp2
      go_loopw [11, 12] (fun sv iv wr => ∃ (j : Nat), j ≤ n0 ∧ j ≤ 60 ∧ iv = .int .i64 j ∧ sv = .int .i64 (othK c n i row (upN (upsR c 0 qs 0 j) n)) ∧ Have w wr [boxT (w.heap.size + 1) 56 #[.int .i64 (n : Int), .int .u64 i], boxT w.heap.size 24 #[.int .i64 c.bt, .int .i64 c.rw, .int .i64 c.wd, .int .i64 c.md, .int .u64 c.sd]] ∧ Below wo.heap.size wo wr) (fun _ iv _ => n0 - (intOf iv).toNat)
      case atStart => exact ⟨0, Nat.zero_le _, Nat.zero_le _, rfl, by rw [upsR_zero]; rfl, HVO.out, Below.refl _ _⟩
      case round =>
        obtain ⟨j, hj, hj6, rfl, rfl, hv, hbw⟩ := hrel
        have HVr := Lib.hid hv
        have HBL := Lib.hid hbw
        have hwb := hv.below
        have hbd := HBD.out row j hj6
        obtain ⟨X, hX⟩ : ∃ X, othK c n i row (upN (upsR c 0 qs 0 j) n) = X := ⟨_, rfl⟩
        have HX := Lib.hid hX
        rw [hX] at hbd ⊢
        clear hv hX
        by_cases hlt : j < n0 ∧ j < 60
        · obtain ⟨hj1, hj2⟩ := hlt
          obtain ⟨q, hq1⟩ : ∃ q, qs[j]? = some q := ⟨_, List.getElem?_eq_getElem (by rw [HL.out]; omega)⟩
          have hnx := upsR_next (c := c) (l := 0) hq1 (Nat.zero_le j)
          have hon := othN_snoc c n i row (upsR c 0 qs 0 j) (cutU c 0 q)
          rw [← hnx, HX.out] at hon
          have hcu := cutU_ok HKY.out q
          obtain ⟨a, g, o, rfl, hadd, d1w, d2w, kb, db⟩ := HQ.out.at hq1
          obtain ⟨qk, qd⟩ := q
          simp only at d1w d2w kb db
          have d1 := cell_up d1w hwb
          have d2 := cell_up d2w hwb
          obtain ⟨e1, e2, e3, e4, e5⟩ := box5 HVr.out.i1
          have p1 := box_cell (i := 0) HVr.out.i0 rfl
          have p2 := box_cell (i := 1) HVr.out.i0 rfl
          have CC := Lib.hid (fun w => CC0.out w qk qd kb.1 kb.2 db.1 db.2)
          obtain ⟨U, hU⟩ : ∃ U, (cutU c 0 (qk, qd)).1 = U := ⟨_, rfl⟩
          obtain ⟨D, hD⟩ : ∃ D, (cutU c 0 (qk, qd)).2 = D := ⟨_, rfl⟩
          rw [hU, hD] at CC hcu hon
          have hdb : -1099511627776 ≤ D ∧ D ≤ 1099511627776 := ⟨hcu.2.2.1, hcu.2.2.2.1⟩
          have hsr := HSR.out U
          have hvk := HUK.out U hcu.1 hcu.2.1
          obtain ⟨V, hV⟩ : ∃ V, upK U n = V := ⟨_, rfl⟩
          rw [hV] at hsr hon hvk
          have hsr2 : U / 2 ^ n = V := by rw [← hV]; rfl
          have CU := Lib.hid (fun w => CB.out V w hvk.1 (by have := hvk.2; have := HKN.out; omega) hvk.2)
          have hP := HCA.out V row hvk.2 hrm
          have hQo := HCA.out i row HI.out.2 hrm
          obtain ⟨P, hPP⟩ : ∃ P, col c n V row = P := ⟨_, rfl⟩
          obtain ⟨Q, hQQ⟩ : ∃ Q, col c n i row = Q := ⟨_, rfl⟩
          rw [hPP] at hP hon
          rw [hQQ] at hQo hon
          have cO := cell_up (RDO.out.at hQo) (below_call HBO.out hbw (Nat.le_refl _))
          have HPG := Lib.hid hP
          have wx : wrap64 (X + D) = X + D := IntWalk.wrap64_in _ ⟨by omega, by omega⟩
          have wx2 : IntKind.i64.wrap (X + D) = X + D := IntWalk.i64_in _ ⟨by omega, by omega⟩
          have hsz := box_lt HVr.out.i0
          have lz := lt_sz hsz
          clear hq1 hnx hU hD hV hcu d1w d2w hwb hbw hPP hQQ hQo hP hvk hbd hdb
          by_cases hke : V = i
          · rw [if_neg (by simp [hke]), Int.add_zero] at hon
            have HON := Lib.hid hon
            clear hon wx wx2
            subst hke
            go_upto_region 13 with fail
            go_region_held3 (fun w' => w'.cell? ⟨w.heap.size, 0, none⟩ = some (.int .i64 c.bt) ∧ w'.cell? ⟨w.heap.size, 1, none⟩ = some (.int .i64 c.rw) ∧ w'.cell? ⟨w.heap.size, 2, none⟩ = some (.int .i64 c.wd) ∧ w'.cell? ⟨w.heap.size, 3, none⟩ = some (.int .i64 c.md) ∧ w'.cell? ⟨w.heap.size, 4, none⟩ = some (.int .u64 c.sd) ∧ w'.cell? ⟨g, o, none⟩ = some (.int .u64 qk) ∧ w'.cell? ⟨g, o + 1, none⟩ = some (.int .i64 qd)) (first | (refine ⟨?_, ?_, ?_, ?_, ?_, ?_, ?_⟩ <;> (first | (with_reducible assumption) | (with_reducible refine cell_up e1 ?_) | (with_reducible refine cell_up e2 ?_) | (with_reducible refine cell_up e3 ?_) | (with_reducible refine cell_up e4 ?_) | (with_reducible refine cell_up e5 ?_) | (with_reducible refine cell_up d1 ?_) | (with_reducible refine cell_up d2 ?_)) <;> (repeat' (first | (with_reducible exact Below.refl _ _) | (with_reducible assumption) | (with_reducible refine below_over ?_ _ _) | (with_reducible refine Lw.below_alloc ?_ _) | (with_reducible refine Below.drew ?_) | (with_reducible refine below_drewN ?_ _) | (with_reducible refine Below.setCell ?_ ?_ _) | go_size)))) (first | (go_at_call 25; (with_reducible refine (CC.out _).mono ?_); rintro e w' ⟨rfl, hb⟩; obtain ⟨bs, dd, rfl⟩ := below_grow hb; clear hb))
            all_goals go_wp2_with (go_at_call 49; (with_reducible refine (CU.out _).mono ?_); rintro e w7 ⟨A7, cap7, rfl, rd7, hb⟩; have RD7 := Lib.hid rd7; have UP := (fun (b : Addr) (v : Value) h => cell_up (a := b) (v := v) h hb); have cO7 := UP _ _ (cell_up cO (by repeat' (first | (with_reducible exact Below.refl _ _) | (with_reducible assumption) | (with_reducible refine below_over ?_ _ _) | (with_reducible refine Lw.below_alloc ?_ _) | (with_reducible refine Below.drew ?_) | (with_reducible refine below_drewN ?_ _) | (with_reducible refine Below.setCell ?_ ?_ _) | go_size))); have p17 := UP _ _ (cell_up p1 (by repeat' (first | (with_reducible exact Below.refl _ _) | (with_reducible assumption) | (with_reducible refine below_over ?_ _ _) | (with_reducible refine Lw.below_alloc ?_ _) | (with_reducible refine Below.drew ?_) | (with_reducible refine below_drewN ?_ _) | (with_reducible refine Below.setCell ?_ ?_ _) | go_size))); have p27 := UP _ _ (cell_up p2 (by repeat' (first | (with_reducible exact Below.refl _ _) | (with_reducible assumption) | (with_reducible refine below_over ?_ _ _) | (with_reducible refine Lw.below_alloc ?_ _) | (with_reducible refine Below.drew ?_) | (with_reducible refine below_drewN ?_ _) | (with_reducible refine Below.setCell ?_ ?_ _) | go_size))); (first | (have u0 := UP ⟨wr.heap.size + bs.size, 0, none⟩ (.int .u64 U) (by simp [go_sem]; done); have u1 := UP ⟨wr.heap.size + bs.size, 1, none⟩ (.int .i64 D) (by simp [go_sem]; done)) | (have u0 := UP ⟨wr.heap.size, 0, none⟩ (.int .u64 U) (by simp [go_sem]; done); have u1 := UP ⟨wr.heap.size, 1, none⟩ (.int .i64 D) (by simp [go_sem]; done))); clear UP; have HV7 := Lib.hid ((HVr.out.up (by repeat' (first | (with_reducible exact Below.refl _ _) | (with_reducible assumption) | (with_reducible refine below_over ?_ _ _) | (with_reducible refine Lw.below_alloc ?_ _) | (with_reducible refine Below.drew ?_) | (with_reducible refine below_drewN ?_ _) | (with_reducible refine Below.setCell ?_ ?_ _) | go_size))).up hb); have HB7 := Lib.hid (below_call (w1 := w7) (show Below wr.heap.size wr _ by repeat' (first | (with_reducible exact Below.refl _ _) | (with_reducible assumption) | (with_reducible refine below_over ?_ _ _) | (with_reducible refine Lw.below_alloc ?_ _) | (with_reducible refine Below.drew ?_) | (with_reducible refine below_drewN ?_ _) | (with_reducible refine Below.setCell ?_ ?_ _) | go_size)) hb (Nat.le_refl _)); clear hb rd7)
            all_goals go_quiet (fail)
            all_goals go_wp2
            all_goals go_roundw
            all_goals first
              | exact ⟨j + 1, by omega, by omega, by go_num, by rw [HON.out], HV7.out.up (by repeat' (first | (with_reducible exact Below.refl _ _) | (with_reducible assumption) | (with_reducible refine below_over ?_ _ _) | (with_reducible refine Lw.below_alloc ?_ _) | (with_reducible refine Below.drew ?_) | (with_reducible refine below_drewN ?_ _) | (with_reducible refine Below.setCell ?_ ?_ _) | go_size)), below_call HBL.out (below_call HB7.out (by repeat' (first | (with_reducible exact Below.refl _ _) | (with_reducible assumption) | (with_reducible refine below_over ?_ _ _) | (with_reducible refine Lw.below_alloc ?_ _) | (with_reducible refine Below.drew ?_) | (with_reducible refine below_drewN ?_ _) | (with_reducible refine Below.setCell ?_ ?_ _) | go_size)) (Nat.le_refl _)) (Nat.le_refl _)⟩
              | (simp [intOf]; omega)
          · have hkeb : (V != i) = true := by simp [hke]
            have hkeb2 : (V == i) = false := by simp [hke]
            by_cases hpq : P = Q
            · rw [if_pos ⟨hke, hpq⟩] at hon
              have HON := Lib.hid hon
              subst hpq
              clear hon hke
              go_upto_region 13 with fail
              go_region_held3 (fun w' => w'.cell? ⟨w.heap.size, 0, none⟩ = some (.int .i64 c.bt) ∧ w'.cell? ⟨w.heap.size, 1, none⟩ = some (.int .i64 c.rw) ∧ w'.cell? ⟨w.heap.size, 2, none⟩ = some (.int .i64 c.wd) ∧ w'.cell? ⟨w.heap.size, 3, none⟩ = some (.int .i64 c.md) ∧ w'.cell? ⟨w.heap.size, 4, none⟩ = some (.int .u64 c.sd) ∧ w'.cell? ⟨g, o, none⟩ = some (.int .u64 qk) ∧ w'.cell? ⟨g, o + 1, none⟩ = some (.int .i64 qd)) (first | (refine ⟨?_, ?_, ?_, ?_, ?_, ?_, ?_⟩ <;> (first | (with_reducible assumption) | (with_reducible refine cell_up e1 ?_) | (with_reducible refine cell_up e2 ?_) | (with_reducible refine cell_up e3 ?_) | (with_reducible refine cell_up e4 ?_) | (with_reducible refine cell_up e5 ?_) | (with_reducible refine cell_up d1 ?_) | (with_reducible refine cell_up d2 ?_)) <;> (repeat' (first | (with_reducible exact Below.refl _ _) | (with_reducible assumption) | (with_reducible refine below_over ?_ _ _) | (with_reducible refine Lw.below_alloc ?_ _) | (with_reducible refine Below.drew ?_) | (with_reducible refine below_drewN ?_ _) | (with_reducible refine Below.setCell ?_ ?_ _) | go_size)))) (first | (go_at_call 25; (with_reducible refine (CC.out _).mono ?_); rintro e w' ⟨rfl, hb⟩; obtain ⟨bs, dd, rfl⟩ := below_grow hb; clear hb))
              all_goals go_wp2_with (go_at_call 49; (with_reducible refine (CU.out _).mono ?_); rintro e w7 ⟨A7, cap7, rfl, rd7, hb⟩; have RD7 := Lib.hid rd7; have UP := (fun (b : Addr) (v : Value) h => cell_up (a := b) (v := v) h hb); have cO7 := UP _ _ (cell_up cO (by repeat' (first | (with_reducible exact Below.refl _ _) | (with_reducible assumption) | (with_reducible refine below_over ?_ _ _) | (with_reducible refine Lw.below_alloc ?_ _) | (with_reducible refine Below.drew ?_) | (with_reducible refine below_drewN ?_ _) | (with_reducible refine Below.setCell ?_ ?_ _) | go_size))); have p17 := UP _ _ (cell_up p1 (by repeat' (first | (with_reducible exact Below.refl _ _) | (with_reducible assumption) | (with_reducible refine below_over ?_ _ _) | (with_reducible refine Lw.below_alloc ?_ _) | (with_reducible refine Below.drew ?_) | (with_reducible refine below_drewN ?_ _) | (with_reducible refine Below.setCell ?_ ?_ _) | go_size))); have p27 := UP _ _ (cell_up p2 (by repeat' (first | (with_reducible exact Below.refl _ _) | (with_reducible assumption) | (with_reducible refine below_over ?_ _ _) | (with_reducible refine Lw.below_alloc ?_ _) | (with_reducible refine Below.drew ?_) | (with_reducible refine below_drewN ?_ _) | (with_reducible refine Below.setCell ?_ ?_ _) | go_size))); (first | (have u0 := UP ⟨wr.heap.size + bs.size, 0, none⟩ (.int .u64 U) (by simp [go_sem]; done); have u1 := UP ⟨wr.heap.size + bs.size, 1, none⟩ (.int .i64 D) (by simp [go_sem]; done)) | (have u0 := UP ⟨wr.heap.size, 0, none⟩ (.int .u64 U) (by simp [go_sem]; done); have u1 := UP ⟨wr.heap.size, 1, none⟩ (.int .i64 D) (by simp [go_sem]; done))); clear UP; have HV7 := Lib.hid ((HVr.out.up (by repeat' (first | (with_reducible exact Below.refl _ _) | (with_reducible assumption) | (with_reducible refine below_over ?_ _ _) | (with_reducible refine Lw.below_alloc ?_ _) | (with_reducible refine Below.drew ?_) | (with_reducible refine below_drewN ?_ _) | (with_reducible refine Below.setCell ?_ ?_ _) | go_size))).up hb); have HB7 := Lib.hid (below_call (w1 := w7) (show Below wr.heap.size wr _ by repeat' (first | (with_reducible exact Below.refl _ _) | (with_reducible assumption) | (with_reducible refine below_over ?_ _ _) | (with_reducible refine Lw.below_alloc ?_ _) | (with_reducible refine Below.drew ?_) | (with_reducible refine below_drewN ?_ _) | (with_reducible refine Below.setCell ?_ ?_ _) | go_size)) hb (Nat.le_refl _)); clear hb rd7)
              all_goals have cU := RD7.out.at HPG.out
              all_goals go_quiet (fail)
              all_goals go_wp2
              all_goals go_roundw
              all_goals first
                | exact ⟨j + 1, by omega, by omega, by go_num, by rw [HON.out], HV7.out.up (by repeat' (first | (with_reducible exact Below.refl _ _) | (with_reducible assumption) | (with_reducible refine below_over ?_ _ _) | (with_reducible refine Lw.below_alloc ?_ _) | (with_reducible refine Below.drew ?_) | (with_reducible refine below_drewN ?_ _) | (with_reducible refine Below.setCell ?_ ?_ _) | go_size)), below_call HBL.out (below_call HB7.out (by repeat' (first | (with_reducible exact Below.refl _ _) | (with_reducible assumption) | (with_reducible refine below_over ?_ _ _) | (with_reducible refine Lw.below_alloc ?_ _) | (with_reducible refine Below.drew ?_) | (with_reducible refine below_drewN ?_ _) | (with_reducible refine Below.setCell ?_ ?_ _) | go_size)) (Nat.le_refl _)) (Nat.le_refl _)⟩
                | (simp [intOf]; omega)
            · rw [if_neg (fun h => hpq h.2), Int.add_zero] at hon
              have HON := Lib.hid hon
              have hpqb : (P == Q) = false := by simp [hpq]
              have hpqd : decide (P = Q) = false := by simp [hpq]
              clear hon hke hpq wx wx2
              go_upto_region 13 with fail
              go_region_held3 (fun w' => w'.cell? ⟨w.heap.size, 0, none⟩ = some (.int .i64 c.bt) ∧ w'.cell? ⟨w.heap.size, 1, none⟩ = some (.int .i64 c.rw) ∧ w'.cell? ⟨w.heap.size, 2, none⟩ = some (.int .i64 c.wd) ∧ w'.cell? ⟨w.heap.size, 3, none⟩ = some (.int .i64 c.md) ∧ w'.cell? ⟨w.heap.size, 4, none⟩ = some (.int .u64 c.sd) ∧ w'.cell? ⟨g, o, none⟩ = some (.int .u64 qk) ∧ w'.cell? ⟨g, o + 1, none⟩ = some (.int .i64 qd)) (first | (refine ⟨?_, ?_, ?_, ?_, ?_, ?_, ?_⟩ <;> (first | (with_reducible assumption) | (with_reducible refine cell_up e1 ?_) | (with_reducible refine cell_up e2 ?_) | (with_reducible refine cell_up e3 ?_) | (with_reducible refine cell_up e4 ?_) | (with_reducible refine cell_up e5 ?_) | (with_reducible refine cell_up d1 ?_) | (with_reducible refine cell_up d2 ?_)) <;> (repeat' (first | (with_reducible exact Below.refl _ _) | (with_reducible assumption) | (with_reducible refine below_over ?_ _ _) | (with_reducible refine Lw.below_alloc ?_ _) | (with_reducible refine Below.drew ?_) | (with_reducible refine below_drewN ?_ _) | (with_reducible refine Below.setCell ?_ ?_ _) | go_size)))) (first | (go_at_call 25; (with_reducible refine (CC.out _).mono ?_); rintro e w' ⟨rfl, hb⟩; obtain ⟨bs, dd, rfl⟩ := below_grow hb; clear hb))
              all_goals go_wp2_with (go_at_call 49; (with_reducible refine (CU.out _).mono ?_); rintro e w7 ⟨A7, cap7, rfl, rd7, hb⟩; have RD7 := Lib.hid rd7; have UP := (fun (b : Addr) (v : Value) h => cell_up (a := b) (v := v) h hb); have cO7 := UP _ _ (cell_up cO (by repeat' (first | (with_reducible exact Below.refl _ _) | (with_reducible assumption) | (with_reducible refine below_over ?_ _ _) | (with_reducible refine Lw.below_alloc ?_ _) | (with_reducible refine Below.drew ?_) | (with_reducible refine below_drewN ?_ _) | (with_reducible refine Below.setCell ?_ ?_ _) | go_size))); have p17 := UP _ _ (cell_up p1 (by repeat' (first | (with_reducible exact Below.refl _ _) | (with_reducible assumption) | (with_reducible refine below_over ?_ _ _) | (with_reducible refine Lw.below_alloc ?_ _) | (with_reducible refine Below.drew ?_) | (with_reducible refine below_drewN ?_ _) | (with_reducible refine Below.setCell ?_ ?_ _) | go_size))); have p27 := UP _ _ (cell_up p2 (by repeat' (first | (with_reducible exact Below.refl _ _) | (with_reducible assumption) | (with_reducible refine below_over ?_ _ _) | (with_reducible refine Lw.below_alloc ?_ _) | (with_reducible refine Below.drew ?_) | (with_reducible refine below_drewN ?_ _) | (with_reducible refine Below.setCell ?_ ?_ _) | go_size))); (first | (have u0 := UP ⟨wr.heap.size + bs.size, 0, none⟩ (.int .u64 U) (by simp [go_sem]; done); have u1 := UP ⟨wr.heap.size + bs.size, 1, none⟩ (.int .i64 D) (by simp [go_sem]; done)) | (have u0 := UP ⟨wr.heap.size, 0, none⟩ (.int .u64 U) (by simp [go_sem]; done); have u1 := UP ⟨wr.heap.size, 1, none⟩ (.int .i64 D) (by simp [go_sem]; done))); clear UP; have HV7 := Lib.hid ((HVr.out.up (by repeat' (first | (with_reducible exact Below.refl _ _) | (with_reducible assumption) | (with_reducible refine below_over ?_ _ _) | (with_reducible refine Lw.below_alloc ?_ _) | (with_reducible refine Below.drew ?_) | (with_reducible refine below_drewN ?_ _) | (with_reducible refine Below.setCell ?_ ?_ _) | go_size))).up hb); have HB7 := Lib.hid (below_call (w1 := w7) (show Below wr.heap.size wr _ by repeat' (first | (with_reducible exact Below.refl _ _) | (with_reducible assumption) | (with_reducible refine below_over ?_ _ _) | (with_reducible refine Lw.below_alloc ?_ _) | (with_reducible refine Below.drew ?_) | (with_reducible refine below_drewN ?_ _) | (with_reducible refine Below.setCell ?_ ?_ _) | go_size)) hb (Nat.le_refl _)); clear hb rd7)
              all_goals have cU := RD7.out.at HPG.out
              all_goals go_quiet (fail)
              all_goals go_wp2
              all_goals go_roundw
              all_goals first
                | exact ⟨j + 1, by omega, by omega, by go_num, by rw [HON.out], HV7.out.up (by repeat' (first | (with_reducible exact Below.refl _ _) | (with_reducible assumption) | (with_reducible refine below_over ?_ _ _) | (with_reducible refine Lw.below_alloc ?_ _) | (with_reducible refine Below.drew ?_) | (with_reducible refine below_drewN ?_ _) | (with_reducible refine Below.setCell ?_ ?_ _) | go_size)), below_call HBL.out (below_call HB7.out (by repeat' (first | (with_reducible exact Below.refl _ _) | (with_reducible assumption) | (with_reducible refine below_over ?_ _ _) | (with_reducible refine Lw.below_alloc ?_ _) | (with_reducible refine Below.drew ?_) | (with_reducible refine below_drewN ?_ _) | (with_reducible refine Below.setCell ?_ ?_ _) | go_size)) (Nat.le_refl _)) (Nat.le_refl _)⟩
                | (simp [intOf]; omega)
        · have hend : (upsR c 0 qs 0 j) = (upsR c 0 qs 0 60) := upsR_end hj6 (by rw [HL.out]; omega)
          have hXe := HX.out
          rw [hend] at hXe
          have HXE := Lib.hid hXe
          have hcases : ((j : Int) < n0 ∧ ¬ (j : Int) < 60) ∨ ¬ (j : Int) < n0 := by omega
          have hbo2 := below_call HBO.out HBL.out (Nat.le_refl _)
          have HBO2 := Lib.hid hbo2
          clear hend hXe hlt hbd hwb hbw hbo2
          by_cases hz : row = 0
          · have HR : Hid (∃ r0, r0 < row + 1 ∧ othK c n i r0 (upN (upsR c 0 qs 0 60) n) = X) := Lib.hid ⟨row, by omega, HXE.out⟩
            have HM : Hid (∀ r, r < row + 1 → X ≤ othK c n i r (upN (upsR c 0 qs 0 60) n)) := Lib.hid (fun r h => by
              obtain rfl : r = row := by omega
              rw [HXE.out]
              exact Int.le_refl _)
            subst hz
            rcases hcases with ⟨hc1, hc2⟩ | hc1
            all_goals go_wp2
            all_goals go_roundw
            all_goals first
              | exact ⟨0 + 1, X, by omega, by go_num, rfl, .inr HR.out, HM.out, HVr.out, HBO2.out⟩
              | (simp [intOf]; omega)
          · have hz1 : ((row : Int) == 0) = false := by simp; omega
            have hz2 : ¬ (row : Int) = 0 := by omega
            by_cases hls : X < x
            · have HR : Hid (∃ r0, r0 < row + 1 ∧ othK c n i r0 (upN (upsR c 0 qs 0 60) n) = X) := Lib.hid ⟨row, by omega, HXE.out⟩
              have HM : Hid (∀ r, r < row + 1 → X ≤ othK c n i r (upN (upsR c 0 qs 0 60) n)) := Lib.hid (fun r h => by
                by_cases h2 : r < row
                · have := HLE.out r h2
                  omega
                · obtain rfl : r = row := by omega
                  rw [HXE.out]
                  exact Int.le_refl _)
              rcases hcases with ⟨hc1, hc2⟩ | hc1
              all_goals go_wp2
              all_goals go_roundw
              all_goals first
                | exact ⟨row + 1, X, by omega, by go_num, rfl, .inr HR.out, HM.out, HVr.out, HBO2.out⟩
                | (simp [intOf]; omega)
            · have HR : Hid (∃ r0, r0 < row + 1 ∧ othK c n i r0 (upN (upsR c 0 qs 0 60) n) = x) := Lib.hid (by
                rcases HEX.out with h | ⟨r0, h1, h2⟩
                · exact absurd h hz
                · exact ⟨r0, by omega, h2⟩)
              have HM : Hid (∀ r, r < row + 1 → x ≤ othK c n i r (upN (upsR c 0 qs 0 60) n)) := Lib.hid (fun r h => by
                by_cases h2 : r < row
                · exact HLE.out r h2
                · obtain rfl : r = row := by omega
                  rw [HXE.out]
                  omega)
              rcases hcases with ⟨hc1, hc2⟩ | hc1
              all_goals go_wp2
              all_goals go_roundw
              all_goals first
                | exact ⟨row + 1, x, by omega, by go_num, rfl, .inr HR.out, HM.out, HVr.out, HBO2.out⟩
                | (simp [intOf]; omega)
    · obtain rfl : row = m := by omega
      obtain ⟨r0, h1, h2⟩ : ∃ r0, r0 < row ∧ othK c n i r0 (upN (upsR c 0 qs 0 60) n) = x := by
        rcases HEX.out with h | h
        · omega
        · exact h
      have hfin := HVAL.out x r0 h1 h2 HLE.out
      have hb1 := HBD.out r0 60 (by omega)
      rw [h2] at hb1
      have hb2 := HHB.out
      have wx : wrap64 (HV0 + x) = RES := by rw [IntWalk.wrap64_in _ ⟨by omega, by omega⟩]; exact hfin.symm
      have wx2 : IntKind.i64.wrap (HV0 + x) = RES := by rw [IntWalk.i64_in _ ⟨by omega, by omega⟩]; exact hfin.symm
      clear hfin hb1 hb2 h1 h2 hrm
      go_wp2
      go_ret
      exact ⟨by first | rfl | simp [*], HVO.out.below⟩
theorem rguess_any (c : Cfg) (A : Option Addr) (n0 k0 : Nat) (qs : Ups) (n : Nat) (i : Int) (w : World) (hr : IsRight c) (hco : c.Ok) (hmd : c.md = 1) (hkeys : 1 ≤ keys c 0) (hq : UpdV w A n0 k0 qs) (hn : (n : Int) ≤ c.bt) (i0 : 0 ≤ i) (hi : i < keys c n) :
    Calls Tryz.prog 22 #[.agg #[.int .i64 c.bt, .int .i64 c.rw, .int .i64 c.wd, .int .i64 c.md, .int .u64 c.sd], .slice A n0 k0, .agg #[.int .i64 (n : Int), .int .u64 i]] w fun e w' => e = .returned (.int .i64 (lsPtV c n (stOf c (upsR c 0 qs 0 60) n) i)) ∧ Below w.heap.size w w' := by
  cases hx : exactB c n with
  | true => exact guess_e c A n0 k0 qs n i w hr hco hkeys hq hn i0 hi hx
  | false => exact guess_n c A n0 k0 qs n i w hr hco hmd hkeys hq hn i0 hi hx
end Go.Proofs.YtbifihhfoanmgaaGreat.Spn
/- What Range tells of all keys, of one key, and of what is not there, of a stack that was fed. Printed by wip/gen/spn4.py. -/
namespace Go.Proofs.YtbifihhfoanmgaaGreat.Spn
open Go Go.RowKit Lw Grd Lin Con Shp Sk Exa Lev Stk Pcs
set_option linter.unusedVariables false
set_option linter.unusedSimpArgs false
theorem two_keys {c : Cfg} (hr : IsRight c) : ((2 ^ c.bt.toNat : Nat) : Int) = keys c 0 := by
  have e0 : keys c 0 = 2 ^ (c.bt - 0).toNat := keys_yes hr (by omega) (by have := hr.1; omega)
  have e9 : (c.bt - 0).toNat = c.bt.toNat := by omega
  rw [e9] at e0
  rw [e0]
  simp
/-- All keys have Total. -/
theorem rg_whole {c : Cfg} (hr : IsRight c) {us : Ups} (h : UpsIn c 0 us) (hl : us.length ≤ 60) :
    rgC c (fun L i => spV c (stsOf c us) (L : Int) i) 0 (keys c 0 - 1) = 0 ∧ rgV c (fun L i => spV c (stsOf c us) (L : Int) i) 0 (keys c 0 - 1) = spV c (stsOf c us) c.bt 0 := by
  have hb := hr.1
  have hk := two_keys hr
  have hp := Nat.two_pow_pos c.bt.toNat
  have hc := cov_all c.bt.toNat
  have e2 : (keys c 0 - 1).toNat + 1 = 2 ^ c.bt.toNat := by omega
  rw [← e2] at hc
  obtain ⟨-, -, h3, h4⟩ := rg_fed hr h hl (lo := 0) (hi := keys c 0 - 1) (by omega) (by omega) (by omega) hc
  refine ⟨h3, h4.trans ?_⟩
  have h5 := (sp_at hr us (n := c.bt.toNat) (by omega) 0).1
  rw [show ((c.bt.toNat : Nat) : Int) = c.bt by omega] at h5
  rw [h5]
  simp [show ((c.bt.toNat : Nat) : Int) = c.bt by omega]
theorem rg_one {c : Cfg} (hr : IsRight c) {us : Ups} (h : UpsIn c 0 us) (hl : us.length ≤ 60) {k : Int} (k0 : 0 ≤ k) (k1 : k < keys c 0) :
    rgC c (fun L i => spV c (stsOf c us) (L : Int) i) k k = 0 ∧ rgV c (fun L i => spV c (stsOf c us) (L : Int) i) k k = spV c (stsOf c us) 0 k := by
  have hb := hr.1
  have hc := cov_one c.bt.toNat k.toNat
  obtain ⟨-, -, h3, h4⟩ := rg_fed hr h hl k0 (Int.le_refl k) k1 hc
  refine ⟨h3, h4.trans ?_⟩
  have h5 := (sp_at hr us (n := 0) (by omega) k).1
  rw [show spV c (stsOf c us) 0 k = lsPtV c 0 (stOf c us 0) k from h5]
  simp [show ((k.toNat : Nat) : Int) = k by omega]
theorem rg_none (c : Cfg) (pt : Nat → Int → Int) {lo hi : Int} (h : lo ≤ hi) (h2 : keys c 0 ≤ hi) : rgC c pt lo hi = 2 ∧ rgV c pt lo hi = 0 := by
  have e1 : ptC2 c lo hi = 2 := by unfold ptC2; rw [if_neg (by omega), if_pos h2]
  have e2 : rgC c pt lo hi = 2 := by unfold rgC; rw [if_neg (by rw [e1]; decide), e1]
  exact ⟨e2, by unfold rgV; rw [if_neg (by rw [e2]; decide)]⟩
end Go.Proofs.YtbifihhfoanmgaaGreat.Spn
/- The document's Total and Point of a stack. Printed by wip/gen/stk18.py. -/
namespace Go.Proofs.YtbifihhfoanmgaaGreat.Stk
open Go Go.RowKit Lw Grd Lin Con Shp Sk Exa Lev
set_option linter.unusedVariables false
set_option linter.unusedSimpArgs false
theorem spd_no {c : Cfg} {sts : List LS} {n : Int} (hl : sts.length = c.bt.toNat + 1) (hb : 1 ≤ c.bt) (hn : ¬ (0 ≤ n ∧ n ≤ c.bt)) (i : Int) : spV c sts n i = 0 ∧ spC c sts n i = 2 := by
  unfold spV spC
  by_cases h0 : 0 ≤ n
  · rw [if_pos h0, if_pos h0, List.getElem?_eq_none (by omega)]
    exact ⟨rfl, rfl⟩
  · rw [if_neg h0, if_neg h0]
    exact ⟨rfl, rfl⟩
theorem spd_yes {c : Cfg} {sts : List LS} {n : Nat} {st : LS} (hn : sts[n]? = some st) (i : Int) : spV c sts (n : Int) i = lsPtV c n st i ∧ spC c sts (n : Int) i = lsPtC c n st i := by
  unfold spV spC
  rw [if_pos (by omega), if_pos (by omega), Int.toNat_natCast, hn]
  exact ⟨rfl, rfl⟩
set_option maxHeartbeats 8000000 in
theorem dk_point (p : Addr) (F : Nat → Prop) (c : Cfg) (sts : List LS) (n i : Int) (w : World) (h : DK w p F c sts) (n0 : -9223372036854775808 ≤ n) (n1 : n ≤ 9223372036854775807) (i0 : 0 ≤ i) (i1 : i ≤ 18446744073709551615) :
    Calls Tryz.prog 43 #[.pointer (some p), .agg #[.int .i64 n, .int .u64 i]] w fun e w' => e = .returned (.tuple #[.int .i64 (spV c sts n i), .int .i64 (spC c sts n i)]) ∧ Below w.heap.size w w' := by
  obtain ⟨hr, hc, hl, b0, B0, hdr0, vals0, ts0, rfl, hrow0, hI, rfl⟩ := h
  have HH := Lib.hid (Hold.start hI)
  have HO := Lib.hid hc
  have HR := Lib.hid hr
  have HL := Lib.hid hl
  have HROW0 := Lib.hid hrow0
  have hb1 := hr.1
  have hb2 := hr.2.1
  obtain ⟨g0, cap0, rfl, hcs⟩ := ownD_cell (HH.out.i (t := ownT B0 76 hdr0 vals0) (by simp)) (by have := hrow0.lv; omega)
  obtain ⟨N, hN⟩ : ∃ N, vals0.length = N := ⟨_, rfl⟩
  have HNB : Hid (N = c.bt.toNat + 1) := Lib.hid (by have := hrow0.lv; omega)
  have hN60 : N ≤ 60 := by have := HNB.out; omega
  have HCS := Lib.hid hcs
  have d5 : w.cell? ⟨b0, 5, none⟩ = some (.slice (some ⟨g0, 0, none⟩) N cap0) := by rw [← hN]; exact box_cell (HH.out.i (t := dkB b0 c (.slice (some ⟨g0, 0, none⟩) vals0.length cap0)) (by simp)) (i := 5) rfl
  have HD5 := Lib.hid d5
  have HLS : Hid (sts.length = N) := Lib.hid (by have := hrow0.lv; omega)
  have I0 := Lib.hid i0
  have I1 := Lib.hid i1
  have B0w : Below w.heap.size w (w.alloc (.cells #[.int .i64 n, .int .u64 i] 56)) := Lw.below_alloc (Below.refl _ _) _
  have k5 := cell_up d5 B0w
  by_cases hlo : n < 0
  · obtain ⟨e1, e2⟩ := spd_no (sts := sts) HL.out hb1 (fun h => by omega : ¬ (0 ≤ n ∧ n ≤ c.bt)) i
    rw [e1, e2]
    have hd : decide (n < 0) = true := decide_eq_true hlo
    clear hr hc hl hrow0 hI hcs hN hb1 hb2 hN60 n0 n1 i0 i1 e1 e2
    go_enter Tryz.func43, Tryz.ntmps43
    go_wp2
    go_quiet (fail)
    go_wp2
    go_ret2
    exact ⟨rfl, (by (repeat' (first | (with_reducible exact Below.refl _ _) | (with_reducible assumption) | (with_reducible refine below_over ?_ _ _) | (with_reducible refine Lw.below_alloc ?_ _) | (with_reducible refine Below.drew ?_) | (with_reducible refine below_drewN ?_ _) | (with_reducible refine Below.setCell ?_ ?_ _) | go_size)))⟩
  · obtain ⟨m, rfl⟩ : ∃ m : Nat, n = m := ⟨n.toNat, by omega⟩
    by_cases hhi : (N : Int) ≤ (m : Int)
    · obtain ⟨e1, e2⟩ := spd_no (sts := sts) HL.out hb1 (fun h => by have := HNB.out; omega : ¬ (0 ≤ (m : Int) ∧ (m : Int) ≤ c.bt)) i
      rw [e1, e2]
      have hd : decide ((m : Int) < 0) = false := decide_eq_false hlo
      have hd2 : decide ((N : Int) ≤ (m : Int)) = true := decide_eq_true hhi
      have hm0 : (0 : Int) ≤ (m : Int) := by omega
      clear hr hc hl hrow0 hI hcs hN hb1 hb2 hN60 n0 n1 i0 i1 e1 e2
      go_enter Tryz.func43, Tryz.ntmps43
      go_wp2
      go_quiet (fail)
      go_wp2
      go_ret2
      exact ⟨rfl, (by (repeat' (first | (with_reducible exact Below.refl _ _) | (with_reducible assumption) | (with_reducible refine below_over ?_ _ _) | (with_reducible refine Lw.below_alloc ?_ _) | (with_reducible refine Below.drew ?_) | (with_reducible refine below_drewN ?_ _) | (with_reducible refine Below.setCell ?_ ?_ _) | go_size)))⟩
    · obtain ⟨st, hst⟩ : ∃ st, sts[m]? = some st := ⟨_, List.getElem?_eq_getElem (by have := HLS.out; omega)⟩
      obtain ⟨p0, Q0, e1, e2, e3⟩ := dk_at HROW0.out HH.out hst
      have d6 := HCS.out m _ e1
      have k6 := cell_up d6 B0w
      have HE := Lib.hid e2
      obtain ⟨e4, e5⟩ := spd_yes (c := c) hst i
      rw [e4, e5]
      have hd : decide ((m : Int) < 0) = false := decide_eq_false hlo
      have hd2 : decide ((N : Int) ≤ (m : Int)) = false := decide_eq_false hhi
      have hmN : (m : Int) < (N : Int) := by omega
      have hm0 : (0 : Int) ≤ (m : Int) := by omega
      clear hr hc hl hrow0 hI hcs hN hb1 hb2 hN60 n0 n1 i0 i1 e1 e2 e3 e4 e5 hst
      go_enter Tryz.func43, Tryz.ntmps43
      go_wp2
      go_quiet (fail)
      go_wp2
      have q0 : (w.alloc (.cells #[.int .i64 m, .int .u64 i] 56)).cell? ⟨w.heap.size, 0, none⟩ = some (.int .i64 m) := box_cell (heap_alloc_new w _) rfl
      have q1 : (w.alloc (.cells #[.int .i64 m, .int .u64 i] 56)).cell? ⟨w.heap.size, 1, none⟩ = some (.int .u64 i) := box_cell (heap_alloc_new w _) rfl
      go_region_held3 (fun w' => Below w.heap.size w w' ∧ w'.cell? ⟨b0, 5, none⟩ = some (.slice (some ⟨g0, 0, none⟩) N cap0) ∧ w'.cell? ⟨w.heap.size, 0, none⟩ = some (.int .i64 m) ∧ w'.cell? ⟨w.heap.size, 1, none⟩ = some (.int .u64 i) ∧ w'.cell? ⟨g0, m, none⟩ = some (.pointer (some p0))) (first | (refine ⟨?_, ?_, ?_, ?_, ?_⟩ <;> (first | (with_reducible assumption) | (with_reducible refine cell_up k5 ?_) | (with_reducible refine cell_up k6 ?_) | (with_reducible refine cell_up q0 ?_) | (with_reducible refine cell_up q1 ?_) | skip) <;> ((repeat' (first | (with_reducible exact Below.refl _ _) | (with_reducible assumption) | (with_reducible refine below_over ?_ _ _) | (with_reducible refine Lw.below_alloc ?_ _) | (with_reducible refine Below.drew ?_) | (with_reducible refine below_drewN ?_ _) | (with_reducible refine Below.setCell ?_ ?_ _) | go_size))))) (first
        | (go_at_call 68; (with_reducible refine (dv_point p0 Q0 c m st i _ (dlv_up HE.out (by (repeat' (first | (with_reducible exact Below.refl _ _) | (with_reducible assumption) | (with_reducible refine below_over ?_ _ _) | (with_reducible refine Lw.below_alloc ?_ _) | (with_reducible refine Below.drew ?_) | (with_reducible refine below_drewN ?_ _) | (with_reducible refine Below.setCell ?_ ?_ _) | go_size)))) I0.out I1.out).mono ?_); rintro e w5 ⟨rfl, hb⟩; obtain ⟨bs, d, rfl⟩ := below_grow hb; clear hb))
      all_goals go_wp2
      all_goals go_ret2
      all_goals exact ⟨rfl, (by (repeat' (first | (with_reducible exact Below.refl _ _) | (with_reducible assumption) | (with_reducible refine below_over ?_ _ _) | (with_reducible refine Lw.below_alloc ?_ _) | (with_reducible refine Below.drew ?_) | (with_reducible refine below_drewN ?_ _) | (with_reducible refine Below.setCell ?_ ?_ _) | go_size)))⟩
end Go.Proofs.YtbifihhfoanmgaaGreat.Stk
