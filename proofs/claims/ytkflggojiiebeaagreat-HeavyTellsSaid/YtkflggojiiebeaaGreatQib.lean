/- Texts that statements lean on, put together: StkRCpy, StkRUpd. -/
import Derived.Test.YtkflggojiiebeaaGreatQaa
import Derived.Test.YtkflggojiiebeaaGreatQab
import Derived.Test.YtkflggojiiebeaaGreatQac
import Derived.Test.YtkflggojiiebeaaGreatQad
import Derived.Test.YtkflggojiiebeaaGreatQae
import Derived.Test.YtkflggojiiebeaaGreatQaf
import Derived.Test.YtkflggojiiebeaaGreatQca
import Derived.Test.YtkflggojiiebeaaGreatQcb
import Derived.Test.YtkflggojiiebeaaGreatQcc
import Derived.Test.YtkflggojiiebeaaGreatQea
import Derived.Test.YtkflggojiiebeaaGreatQia
import Derived.Test.YtkflggojiiebeaaGreatRows
import Derived.WalkKit
import Derived.ProofKit
import Derived.OpenShut
import Derived.DataShut
import Derived.Lib.SmallJoins
import Derived.Handy
import Derived.WalkSmall
import Derived.Deep.Draws
import Derived.WalkSpells
import Derived.Laws.AppendOwnNone
import Derived.Deep.AppendLies
import Derived.Lib.Hide
import Derived.Deep.MidRow
import Derived.Laws.BitsAllLaws
import Derived.WalkMore
import Derived.Deep.LoopGhost
import Derived.Deep.RegionHeld3
import Derived.Deep.QuietTactic
import Derived.BigQuiet
import Derived.Laws.Cover3
import Derived.Shelf.Spec.BitsCarry
import Derived.Laws.OwnMore
import Derived.Deep.DeepCutAuto
import Derived.Laws.EntriesVeiled
import Derived.Deep.CutRange
import Derived.Maps.AppendAt
namespace Go.Proofs.YtkflggojiiebeaaGreat.Con
end Go.Proofs.YtkflggojiiebeaaGreat.Con
namespace Go.Proofs.YtkflggojiiebeaaGreat.Exa
end Go.Proofs.YtkflggojiiebeaaGreat.Exa
namespace Go.Proofs.YtkflggojiiebeaaGreat.Fld
end Go.Proofs.YtkflggojiiebeaaGreat.Fld
namespace Go.Proofs.YtkflggojiiebeaaGreat.Grd
end Go.Proofs.YtkflggojiiebeaaGreat.Grd
namespace Go.Proofs.YtkflggojiiebeaaGreat.Hsh
end Go.Proofs.YtkflggojiiebeaaGreat.Hsh
namespace Go.Proofs.YtkflggojiiebeaaGreat.Hvy
end Go.Proofs.YtkflggojiiebeaaGreat.Hvy
namespace Go.Proofs.YtkflggojiiebeaaGreat.Inn
end Go.Proofs.YtkflggojiiebeaaGreat.Inn
namespace Go.Proofs.YtkflggojiiebeaaGreat.Lev
end Go.Proofs.YtkflggojiiebeaaGreat.Lev
namespace Go.Proofs.YtkflggojiiebeaaGreat.Lin
end Go.Proofs.YtkflggojiiebeaaGreat.Lin
namespace Go.Proofs.YtkflggojiiebeaaGreat.Lw
end Go.Proofs.YtkflggojiiebeaaGreat.Lw
namespace Go.Proofs.YtkflggojiiebeaaGreat.Ord
end Go.Proofs.YtkflggojiiebeaaGreat.Ord
namespace Go.Proofs.YtkflggojiiebeaaGreat.Pcs
end Go.Proofs.YtkflggojiiebeaaGreat.Pcs
namespace Go.Proofs.YtkflggojiiebeaaGreat.Qnt
end Go.Proofs.YtkflggojiiebeaaGreat.Qnt
namespace Go.Proofs.YtkflggojiiebeaaGreat.Sed
end Go.Proofs.YtkflggojiiebeaaGreat.Sed
namespace Go.Proofs.YtkflggojiiebeaaGreat.Shp
end Go.Proofs.YtkflggojiiebeaaGreat.Shp
namespace Go.Proofs.YtkflggojiiebeaaGreat.Sk
end Go.Proofs.YtkflggojiiebeaaGreat.Sk
namespace Go.Proofs.YtkflggojiiebeaaGreat.Smr
end Go.Proofs.YtkflggojiiebeaaGreat.Smr
namespace Go.Proofs.YtkflggojiiebeaaGreat.Spn
end Go.Proofs.YtkflggojiiebeaaGreat.Spn
namespace Go.Proofs.YtkflggojiiebeaaGreat.Stk
end Go.Proofs.YtkflggojiiebeaaGreat.Stk
namespace Go.Proofs.YtkflggojiiebeaaGreat.Wid
end Go.Proofs.YtkflggojiiebeaaGreat.Wid
namespace Go.Proofs.YtkflggojiiebeaaGreat.Stk
open Go Go.RowKit Lw Grd Lin Con Shp Sk Exa Lev
set_option linter.unusedVariables false
set_option linter.unusedSimpArgs false
set_option maxRecDepth 100000 in
set_option maxHeartbeats 4000000 in
theorem dk_copy (p : Addr) (F : Nat → Prop) (c : Cfg) (sts : List LS) (w : World) (h : DK w p F c sts) :
    Calls Tryz.prog 51 #[.pointer (some p)] w fun e w' => ∃ (q : Addr) (Q : Nat → Prop), e = .returned (.pointer (some q)) ∧ DK w' q Q c sts ∧ (∀ k, Q k → w.heap.size ≤ k) ∧ Below w.heap.size w w' := by
  obtain ⟨hr, hc, hl, b0, B0, hdr0, vals0, ts0, rfl, hrow0, hI, rfl⟩ := h
  have HH := Lib.hid (Hold.start hI)
  have HO := Lib.hid hc
  have HR := Lib.hid hr
  have HL := Lib.hid hl
  have HROW0 := Lib.hid hrow0
  have hb1 := hr.1
  have hb2 := hr.2.1
  obtain ⟨g0, cap0, rfl, hcs⟩ := ownD_cell (HH.out.i (t := ownT B0 55 hdr0 vals0) (by simp)) (by have := hrow0.lv; omega)
  obtain ⟨N, hN⟩ : ∃ N, vals0.length = N := ⟨_, rfl⟩
  have HNB : Hid (N = c.bt.toNat + 1) := Lib.hid (by have := hrow0.lv; omega)
  have hN60 : N ≤ 60 := by have := HNB.out; omega
  have HCS := Lib.hid hcs
  have d0 := box_cell (HH.out.i (t := dkB b0 c (.slice (some ⟨g0, 0, none⟩) vals0.length cap0)) (by simp)) (i := 0) rfl
  have d1 := box_cell (HH.out.i (t := dkB b0 c (.slice (some ⟨g0, 0, none⟩) vals0.length cap0)) (by simp)) (i := 1) rfl
  have d2 := box_cell (HH.out.i (t := dkB b0 c (.slice (some ⟨g0, 0, none⟩) vals0.length cap0)) (by simp)) (i := 2) rfl
  have d3 := box_cell (HH.out.i (t := dkB b0 c (.slice (some ⟨g0, 0, none⟩) vals0.length cap0)) (by simp)) (i := 3) rfl
  have d4 := box_cell (HH.out.i (t := dkB b0 c (.slice (some ⟨g0, 0, none⟩) vals0.length cap0)) (by simp)) (i := 4) rfl
  have d5 : w.cell? ⟨b0, 5, none⟩ = some (.slice (some ⟨g0, 0, none⟩) N cap0) := by rw [← hN]; exact box_cell (HH.out.i (t := dkB b0 c (.slice (some ⟨g0, 0, none⟩) vals0.length cap0)) (by simp)) (i := 5) rfl
  have HD5 := Lib.hid d5
  have HLS : Hid (sts.length = N) := Lib.hid (by have := hrow0.lv; omega)
  obtain ⟨j0, hj, hy0, hy1, hy2⟩ := info_parts dls_info
  have HJ := Lib.hid hj
  have HS := Lib.hid (((Hold.start0 (Below.refl _ w)).push (ownT w.heap.size 55 (.slice none 0 0) []) (Below.refl _ _) (ownD_nil _ _ _) (fun k hk => ownD_nilF _ _ hk)).push (dkB w.heap.size c (.slice none 0 0)) (Lw.below_alloc (Below.refl _ _) _) (heap_alloc_new w _) (fun k hk => Nat.le_of_eq hk.symm))
  clear hr hc hl hrow0 hI hcs hj d5 hN
  go_enter Tryz.func51, Tryz.ntmps51
  go_wp2
  clear d0 d1 d2 d3 d4
  go_loopw [4] (fun i wr => ∃ (n : Nat) (hdr : Value) (vals : List Value) (ts : List Thing), n ≤ N ∧ i = .int .i64 n ∧ LRow dlT c vals ts (sts.take n) ∧ Hold (fun _ => False) w wr (dkB w.heap.size c hdr :: ownT w.heap.size 55 hdr vals :: ts)) (fun i _ => N - (intOf i).toNat)
  case atStart => exact ⟨0, .slice none 0 0, [], [], Nat.zero_le _, rfl, LRow.nil _ _, HS.out⟩
  case round =>
    obtain ⟨n, hdr, vals, ts, hn, rfl, hrow, hv⟩ := hrel
    have HROW := Lib.hid hrow
    have HV := Lib.hid hv
    have hBW : Below w.heap.size w wr := hv.1.below
    have HBW := Lib.hid hBW
    have hTL : (sts.take n).length = n := by rw [List.length_take, HLS.out]; omega
    have HTL := Lib.hid hTL
    have LV := Lib.hid (hrow.lv.trans hTL)
    have d5 := cell_up HD5.out hBW
    have x1 := box_cell (hv.i (t := dkB w.heap.size c hdr) (by simp)) (i := 5) rfl
    clear hrow hv hBW hTL
    by_cases hlt : n < N
    · obtain ⟨st, hst⟩ : ∃ st, sts[n]? = some st := ⟨_, List.getElem?_eq_getElem (by rw [HLS.out]; exact hlt)⟩
      obtain ⟨p0, Q0, e1, e2, e3⟩ := dk_at HROW0.out HH.out hst
      have d6 := cell_up (HCS.out n _ e1) HBW.out
      have HE := Lib.hid (show DLV wr.drew p0 Q0 c (n : Int) st from e2.keep (Kept.of_below (F := fun _ => False) (Below.drew HBW.out)) (fun _ _ h => h))
      have HST := Lib.hid hst
      have hlt2 : (n : Int) < (N : Int) := by omega
      have hn0 : (0 : Int) ≤ (n : Int) := by omega
      have HE1 := Lib.hid e1
      clear e1 e2 e3 hst
      go_wp2
      refine wp_region_held_drew (S := (fun w' => w'.cell? ⟨b0, 5, none⟩ = some (.slice (some ⟨g0, 0, none⟩) N cap0) ∧ w'.cell? ⟨g0, n, none⟩ = some (.pointer (some p0)))) (by kernel_rfl) ⟨cell_up HD5.out (HV.out.up (Below.drew (Below.refl _ wr))).1.below, cell_up (HCS.out n _ HE1.out) (HV.out.up (Below.drew (Below.refl _ wr))).1.below⟩ (fun hHeld => ?_)
      refine wpAnyH_take (i := 0) (v := ?_) rfl (by kernel_rfl) (by kernel_rfl) (by kernel_rfl) (fun _ _ _ h => h) (Or.inl ⟨by rfl, ?_⟩) hHeld ?_
      rotate_left
      · intro w hSw
        (try dsimp only at hSw)
        go_simp
        (try with_reducible rfl)
      (try simp only [List.getElem_toArray, List.getElem_cons_zero, List.getElem_cons_succ, Act.put, List.setIfInBounds_toArray, List.set_cons_zero, List.set_cons_succ])
      refine wpAnyH_take (i := 1) (v := ?_) rfl (by kernel_rfl) (by kernel_rfl) (by kernel_rfl) (fun _ _ _ h => h) (Or.inl ⟨by rfl, ?_⟩) hHeld ?_
      rotate_left
      · intro w hSw
        (try dsimp only at hSw)
        go_simp
        (try with_reducible rfl)
      (try simp only [List.getElem_toArray, List.getElem_cons_zero, List.getElem_cons_succ, Act.put, List.setIfInBounds_toArray, List.set_cons_zero, List.set_cons_succ])
      refine wpAnyH_take (i := 2) (v := ?_) rfl (by kernel_rfl) (by kernel_rfl) (by kernel_rfl) (fun _ _ _ h => h) (Or.inl ⟨by rfl, ?_⟩) hHeld ?_
      rotate_left
      · intro w hSw
        (try dsimp only at hSw)
        go_simp
        (try with_reducible rfl)
      (try simp only [List.getElem_toArray, List.getElem_cons_zero, List.getElem_cons_succ, Act.put, List.setIfInBounds_toArray, List.set_cons_zero, List.set_cons_succ])
      refine wpAnyH_take (i := 3) (v := ?_) rfl (by kernel_rfl) (by kernel_rfl) (by kernel_rfl) (fun _ _ _ h => h) (Or.inl ⟨by rfl, ?_⟩) hHeld ?_
      rotate_left
      · intro w hSw
        (try dsimp only at hSw)
        go_simp
        (try with_reducible rfl)
      (try simp only [List.getElem_toArray, List.getElem_cons_zero, List.getElem_cons_succ, Act.put, List.setIfInBounds_toArray, List.set_cons_zero, List.set_cons_succ])
      refine wpAnyH_take (i := 5) (v := ?_) rfl (by kernel_rfl) (by kernel_rfl) (by kernel_rfl) (fun _ _ _ h => h) (Or.inl ⟨by rfl, ?_⟩) hHeld ?_
      rotate_left
      · intro w hSw
        (try dsimp only at hSw)
        go_simp
        (try with_reducible rfl)
      (try simp only [List.getElem_toArray, List.getElem_cons_zero, List.getElem_cons_succ, Act.put, List.setIfInBounds_toArray, List.set_cons_zero, List.set_cons_succ])
      refine wpAnyH_take (i := 6) (v := ?_) rfl (by kernel_rfl) (by kernel_rfl) (by kernel_rfl) (fun _ _ _ h => h) (Or.inl ⟨by rfl, ?_⟩) hHeld ?_
      rotate_left
      · intro w hSw
        (try dsimp only at hSw)
        go_simp
        (try with_reducible rfl)
      (try simp only [List.getElem_toArray, List.getElem_cons_zero, List.getElem_cons_succ, Act.put, List.setIfInBounds_toArray, List.set_cons_zero, List.set_cons_succ])
      refine wpAnyH_take (i := 7) (v := ?_) rfl (by kernel_rfl) (by kernel_rfl) (by kernel_rfl) (fun _ _ _ h => h) (Or.inl ⟨by rfl, ?_⟩) hHeld ?_
      rotate_left
      · intro w hSw
        (try dsimp only at hSw)
        go_simp
        (try with_reducible rfl)
      (try simp only [List.getElem_toArray, List.getElem_cons_zero, List.getElem_cons_succ, Act.put, List.setIfInBounds_toArray, List.set_cons_zero, List.set_cons_succ])
      refine wpAnyH_take (i := 8) (v := ?_) rfl (by kernel_rfl) (by kernel_rfl) (by kernel_rfl) (fun _ _ _ h => h) (Or.inl ⟨by rfl, ?_⟩) hHeld ?_
      rotate_left
      · intro w hSw
        (try dsimp only at hSw)
        go_simp
        (try with_reducible rfl)
      (try simp only [List.getElem_toArray, List.getElem_cons_zero, List.getElem_cons_succ, Act.put, List.setIfInBounds_toArray, List.set_cons_zero, List.set_cons_succ])
      refine wpAnyH_take (i := 9) (v := ?_) rfl (by kernel_rfl) (by kernel_rfl) (by kernel_rfl) (fun _ _ _ h => h) (Or.inl ⟨by rfl, ?_⟩) hHeld ?_
      rotate_left
      · intro w hSw
        (try dsimp only at hSw)
        go_simp
        (try with_reducible rfl)
      (try simp only [List.getElem_toArray, List.getElem_cons_zero, List.getElem_cons_succ, Act.put, List.setIfInBounds_toArray, List.set_cons_zero, List.set_cons_succ])
      refine wpAnyH_take (i := 10) (v := ?_) rfl (by kernel_rfl) (by kernel_rfl) (by kernel_rfl) (fun _ _ _ h => h) (Or.inl ⟨by rfl, ?_⟩) hHeld ?_
      rotate_left
      · intro w hSw
        (try dsimp only at hSw)
        go_simp
        (try with_reducible rfl)
      (try simp only [List.getElem_toArray, List.getElem_cons_zero, List.getElem_cons_succ, Act.put, List.setIfInBounds_toArray, List.set_cons_zero, List.set_cons_succ])
      refine wpAnyH_take (i := 11) (v := ?_) rfl (by kernel_rfl) (by kernel_rfl) (by kernel_rfl) (fun _ _ _ h => h) (Or.inl ⟨by rfl, ?_⟩) hHeld ?_
      rotate_left
      · intro w hSw
        (try dsimp only at hSw)
        go_simp
        (try with_reducible rfl)
      (try simp only [List.getElem_toArray, List.getElem_cons_zero, List.getElem_cons_succ, Act.put, List.setIfInBounds_toArray, List.set_cons_zero, List.set_cons_succ])
      refine wpAnyH_ready (rs := [4, 12]) (by kernel_rfl) (by simp) ?_
      refine AllReadyH.cons rfl (fun K hK => ?_) (AllReadyH.cons rfl (fun K hK => ?_) AllReadyH.nil)
      · go_simp
        refine hK.out _ _ hHeld (fun hHeld => ?_)
        clear hK K
        (try simp only [List.getElem_toArray, List.getElem_cons_zero, List.getElem_cons_succ, Act.put, List.setIfInBounds_toArray, List.set_cons_zero, List.set_cons_succ])
        refine wpAnyH_ready (rs := [12]) (by kernel_rfl) (by simp) ?_
        refine AllReadyH.cons rfl (fun K hK => ?_) AllReadyH.nil
        go_simp
        (go_at_call 92; (with_reducible refine (dv_copy p0 Q0 c n st _ HE.out).mono ?_); rintro e w5 ⟨pv, Q5, rfl, hE5, hQ5, hb5⟩; have HV5 := Lib.hid (Hold.snoc (HV.out.up (Below.drew (Below.refl _ wr))) (dlT (.pointer (some pv)) Q5 c n st) hb5 ⟨pv, rfl, hE5⟩ hQ5); have BW5 : Below wr.heap.size wr w5 := (Below.drew (Below.refl _ wr)).trans hb5; clear hE5 hQ5 hb5; have x5 := box_cell (HV5.out.i (t := dkB w.heap.size c hdr) (by simp)) (i := 5) rfl; have HV6 := Lib.hid (HV5.out.up (Lw.below_alloc (Below.refl _ w5) (.cells #[.pointer (some pv)] 55))); have x6 := box_cell (HV6.out.i (t := dkB w.heap.size c hdr) (by simp)) (i := 5) rfl)
        refine hK.out _ _ ⟨cell_up HD5.out (HV5.out).1.below, cell_up (HCS.out n _ HE1.out) (HV5.out).1.below⟩ (fun hHeld => ?_)
        clear hK K
        (try simp only [List.getElem_toArray, List.getElem_cons_zero, List.getElem_cons_succ, Act.put, List.setIfInBounds_toArray, List.set_cons_zero, List.set_cons_succ])
        refine wpAnyH_ready (rs := [13]) (by kernel_rfl) (by simp) ?_
        refine AllReadyH.cons rfl (fun K hK => ?_) AllReadyH.nil
        go_simp
        refine hK.out _ _ ⟨cell_up HD5.out (HV6.out).1.below, cell_up (HCS.out n _ HE1.out) (HV6.out).1.below⟩ (fun hHeld => ?_)
        clear hK K
        (try simp only [List.getElem_toArray, List.getElem_cons_zero, List.getElem_cons_succ, Act.put, List.setIfInBounds_toArray, List.set_cons_zero, List.set_cons_succ])
        refine wpAnyH_ready (rs := [14]) (by kernel_rfl) (by simp) ?_
        refine AllReadyH.cons rfl (fun K hK => ?_) AllReadyH.nil
        (refine appd_step rfl _ _ 56 rfl w.heap.size 55 j0 (.pointer none) 8 dls_u HJ.out hy0 hy1 hy2 rfl hdr n vals rfl (by have h7 := HV6.out.i (t := ownT w.heap.size 55 hdr vals) (by simp); have h8 : World.ownsRow _ _ _ _ hdr vals.length vals := h7; rw [LV.out] at h8; exact h8) (.pointer (some pv)) w5.heap.size rfl (cell_one_new _ _ _) rfl (by unfold maxLen; omega) (by omega) (by have h9 := HV6.out.1.size; exact h9) ?_; intro g7 cap7 w7 own7 grow7 hat7; have HV7 := Lib.hid (Hold.app (fs := [dkB w.heap.size c hdr]) HV6.out (by rw [LV.out]; exact own7) grow7 hat7); have x7 := box_cell (HV7.out.i (t := dkB w.heap.size c hdr) (by simp)) (i := 5) rfl; have z7 : w7.frozen? ⟨w.heap.size, 5, none⟩ = false := frozen_of_row w7 w.heap.size 5 _ _ (HV7.out.i (t := dkB w.heap.size c hdr) (by simp)))
        refine hK.out _ _ ⟨cell_up HD5.out (HV7.out).1.below, cell_up (HCS.out n _ HE1.out) (HV7.out).1.below⟩ (fun hHeld => ?_)
        clear hK K
        (try simp only [List.getElem_toArray, List.getElem_cons_zero, List.getElem_cons_succ, Act.put, List.setIfInBounds_toArray, List.set_cons_zero, List.set_cons_succ])
        refine wpAnyH_take (i := 15) (v := ?_) rfl (by kernel_rfl) (by kernel_rfl) (by kernel_rfl) (fun _ _ _ h => h) (Or.inl ⟨by rfl, ?_⟩) hHeld ?_
        rotate_left
        · intro w hSw
          (try dsimp only at hSw)
          go_simp
          (try with_reducible rfl)
        (try simp only [List.getElem_toArray, List.getElem_cons_zero, List.getElem_cons_succ, Act.put, List.setIfInBounds_toArray, List.set_cons_zero, List.set_cons_succ])
        refine wpAnyH_take (i := 16) (v := ?_) rfl (by kernel_rfl) (by kernel_rfl) (by kernel_rfl) (fun _ _ _ h => h) (Or.inl ⟨by rfl, ?_⟩) hHeld ?_
        rotate_left
        · intro w hSw
          (try dsimp only at hSw)
          go_simp
          (try with_reducible rfl)
        (try simp only [List.getElem_toArray, List.getElem_cons_zero, List.getElem_cons_succ, Act.put, List.setIfInBounds_toArray, List.set_cons_zero, List.set_cons_succ])
        refine wpAnyH_ready (rs := [17]) (by kernel_rfl) (by simp) ?_
        refine AllReadyH.cons rfl (fun K hK => ?_) AllReadyH.nil
        go_simp
        refine hK.out _ _ ⟨cell_up HD5.out (Hold.store (fs := []) HV7.out _).1.below, cell_up (HCS.out n _ HE1.out) (Hold.store (fs := []) HV7.out _).1.below⟩ (fun hHeld => ?_)
        clear hK K
        (try simp only [List.getElem_toArray, List.getElem_cons_zero, List.getElem_cons_succ, Act.put, List.setIfInBounds_toArray, List.set_cons_zero, List.set_cons_succ])
        refine wpAnyH_done (by kernel_rfl) ?_ _
        go_wp2
        go_roundw
        all_goals first
          | (simp [intOf]; omega)
          | (refine ⟨n + 1, .slice (some ⟨g7, 0, none⟩) (n + 1) cap7, vals ++ [.pointer (some pv)], ts ++ [dlT (.pointer (some pv)) Q5 c n st], by omega, by go_num, ?_, ?_⟩
             · have h9 := HROW.out.snoc HTL.out (.pointer (some pv)) Q5 st
               rw [← take_next HST.out] at h9
               exact h9
             · have h9 := Hold.store (fs := []) HV7.out (.slice (some ⟨g7, 0, none⟩) (vals.length + 1) cap7)
               rw [LV.out] at h9
               exact h9)
      · go_simp
        (go_at_call 92; (with_reducible refine (dv_copy p0 Q0 c n st _ HE.out).mono ?_); rintro e w5 ⟨pv, Q5, rfl, hE5, hQ5, hb5⟩; have HV5 := Lib.hid (Hold.snoc (HV.out.up (Below.drew (Below.refl _ wr))) (dlT (.pointer (some pv)) Q5 c n st) hb5 ⟨pv, rfl, hE5⟩ hQ5); have BW5 : Below wr.heap.size wr w5 := (Below.drew (Below.refl _ wr)).trans hb5; clear hE5 hQ5 hb5; have x5 := box_cell (HV5.out.i (t := dkB w.heap.size c hdr) (by simp)) (i := 5) rfl; have HV6 := Lib.hid (HV5.out.up (Lw.below_alloc (Below.refl _ w5) (.cells #[.pointer (some pv)] 55))); have x6 := box_cell (HV6.out.i (t := dkB w.heap.size c hdr) (by simp)) (i := 5) rfl)
        refine hK.out _ _ ⟨cell_up HD5.out (HV5.out).1.below, cell_up (HCS.out n _ HE1.out) (HV5.out).1.below⟩ (fun hHeld => ?_)
        clear hK K
        (try simp only [List.getElem_toArray, List.getElem_cons_zero, List.getElem_cons_succ, Act.put, List.setIfInBounds_toArray, List.set_cons_zero, List.set_cons_succ])
        refine wpAnyH_ready (rs := [4, 13]) (by kernel_rfl) (by simp) ?_
        refine AllReadyH.cons rfl (fun K hK => ?_) (AllReadyH.cons rfl (fun K hK => ?_) AllReadyH.nil)
        · go_simp
          refine hK.out _ _ hHeld (fun hHeld => ?_)
          clear hK K
          (try simp only [List.getElem_toArray, List.getElem_cons_zero, List.getElem_cons_succ, Act.put, List.setIfInBounds_toArray, List.set_cons_zero, List.set_cons_succ])
          refine wpAnyH_ready (rs := [13]) (by kernel_rfl) (by simp) ?_
          refine AllReadyH.cons rfl (fun K hK => ?_) AllReadyH.nil
          go_simp
          refine hK.out _ _ ⟨cell_up HD5.out (HV6.out).1.below, cell_up (HCS.out n _ HE1.out) (HV6.out).1.below⟩ (fun hHeld => ?_)
          clear hK K
          (try simp only [List.getElem_toArray, List.getElem_cons_zero, List.getElem_cons_succ, Act.put, List.setIfInBounds_toArray, List.set_cons_zero, List.set_cons_succ])
          refine wpAnyH_ready (rs := [14]) (by kernel_rfl) (by simp) ?_
          refine AllReadyH.cons rfl (fun K hK => ?_) AllReadyH.nil
          (refine appd_step rfl _ _ 56 rfl w.heap.size 55 j0 (.pointer none) 8 dls_u HJ.out hy0 hy1 hy2 rfl hdr n vals rfl (by have h7 := HV6.out.i (t := ownT w.heap.size 55 hdr vals) (by simp); have h8 : World.ownsRow _ _ _ _ hdr vals.length vals := h7; rw [LV.out] at h8; exact h8) (.pointer (some pv)) w5.heap.size rfl (cell_one_new _ _ _) rfl (by unfold maxLen; omega) (by omega) (by have h9 := HV6.out.1.size; exact h9) ?_; intro g7 cap7 w7 own7 grow7 hat7; have HV7 := Lib.hid (Hold.app (fs := [dkB w.heap.size c hdr]) HV6.out (by rw [LV.out]; exact own7) grow7 hat7); have x7 := box_cell (HV7.out.i (t := dkB w.heap.size c hdr) (by simp)) (i := 5) rfl; have z7 : w7.frozen? ⟨w.heap.size, 5, none⟩ = false := frozen_of_row w7 w.heap.size 5 _ _ (HV7.out.i (t := dkB w.heap.size c hdr) (by simp)))
          refine hK.out _ _ ⟨cell_up HD5.out (HV7.out).1.below, cell_up (HCS.out n _ HE1.out) (HV7.out).1.below⟩ (fun hHeld => ?_)
          clear hK K
          (try simp only [List.getElem_toArray, List.getElem_cons_zero, List.getElem_cons_succ, Act.put, List.setIfInBounds_toArray, List.set_cons_zero, List.set_cons_succ])
          refine wpAnyH_take (i := 15) (v := ?_) rfl (by kernel_rfl) (by kernel_rfl) (by kernel_rfl) (fun _ _ _ h => h) (Or.inl ⟨by rfl, ?_⟩) hHeld ?_
          rotate_left
          · intro w hSw
            (try dsimp only at hSw)
            go_simp
            (try with_reducible rfl)
          (try simp only [List.getElem_toArray, List.getElem_cons_zero, List.getElem_cons_succ, Act.put, List.setIfInBounds_toArray, List.set_cons_zero, List.set_cons_succ])
          refine wpAnyH_take (i := 16) (v := ?_) rfl (by kernel_rfl) (by kernel_rfl) (by kernel_rfl) (fun _ _ _ h => h) (Or.inl ⟨by rfl, ?_⟩) hHeld ?_
          rotate_left
          · intro w hSw
            (try dsimp only at hSw)
            go_simp
            (try with_reducible rfl)
          (try simp only [List.getElem_toArray, List.getElem_cons_zero, List.getElem_cons_succ, Act.put, List.setIfInBounds_toArray, List.set_cons_zero, List.set_cons_succ])
          refine wpAnyH_ready (rs := [17]) (by kernel_rfl) (by simp) ?_
          refine AllReadyH.cons rfl (fun K hK => ?_) AllReadyH.nil
          go_simp
          refine hK.out _ _ ⟨cell_up HD5.out (Hold.store (fs := []) HV7.out _).1.below, cell_up (HCS.out n _ HE1.out) (Hold.store (fs := []) HV7.out _).1.below⟩ (fun hHeld => ?_)
          clear hK K
          (try simp only [List.getElem_toArray, List.getElem_cons_zero, List.getElem_cons_succ, Act.put, List.setIfInBounds_toArray, List.set_cons_zero, List.set_cons_succ])
          refine wpAnyH_done (by kernel_rfl) ?_ _
          go_wp2
          go_roundw
          all_goals first
            | (simp [intOf]; omega)
            | (refine ⟨n + 1, .slice (some ⟨g7, 0, none⟩) (n + 1) cap7, vals ++ [.pointer (some pv)], ts ++ [dlT (.pointer (some pv)) Q5 c n st], by omega, by go_num, ?_, ?_⟩
               · have h9 := HROW.out.snoc HTL.out (.pointer (some pv)) Q5 st
                 rw [← take_next HST.out] at h9
                 exact h9
               · have h9 := Hold.store (fs := []) HV7.out (.slice (some ⟨g7, 0, none⟩) (vals.length + 1) cap7)
                 rw [LV.out] at h9
                 exact h9)
        · go_simp
          refine hK.out _ _ ⟨cell_up HD5.out (HV6.out).1.below, cell_up (HCS.out n _ HE1.out) (HV6.out).1.below⟩ (fun hHeld => ?_)
          clear hK K
          (try simp only [List.getElem_toArray, List.getElem_cons_zero, List.getElem_cons_succ, Act.put, List.setIfInBounds_toArray, List.set_cons_zero, List.set_cons_succ])
          refine wpAnyH_ready (rs := [4]) (by kernel_rfl) (by simp) ?_
          refine AllReadyH.cons rfl (fun K hK => ?_) AllReadyH.nil
          go_simp
          refine hK.out _ _ hHeld (fun hHeld => ?_)
          clear hK K
          (try simp only [List.getElem_toArray, List.getElem_cons_zero, List.getElem_cons_succ, Act.put, List.setIfInBounds_toArray, List.set_cons_zero, List.set_cons_succ])
          refine wpAnyH_ready (rs := [14]) (by kernel_rfl) (by simp) ?_
          refine AllReadyH.cons rfl (fun K hK => ?_) AllReadyH.nil
          (refine appd_step rfl _ _ 56 rfl w.heap.size 55 j0 (.pointer none) 8 dls_u HJ.out hy0 hy1 hy2 rfl hdr n vals rfl (by have h7 := HV6.out.i (t := ownT w.heap.size 55 hdr vals) (by simp); have h8 : World.ownsRow _ _ _ _ hdr vals.length vals := h7; rw [LV.out] at h8; exact h8) (.pointer (some pv)) w5.heap.size rfl (cell_one_new _ _ _) rfl (by unfold maxLen; omega) (by omega) (by have h9 := HV6.out.1.size; exact h9) ?_; intro g7 cap7 w7 own7 grow7 hat7; have HV7 := Lib.hid (Hold.app (fs := [dkB w.heap.size c hdr]) HV6.out (by rw [LV.out]; exact own7) grow7 hat7); have x7 := box_cell (HV7.out.i (t := dkB w.heap.size c hdr) (by simp)) (i := 5) rfl; have z7 : w7.frozen? ⟨w.heap.size, 5, none⟩ = false := frozen_of_row w7 w.heap.size 5 _ _ (HV7.out.i (t := dkB w.heap.size c hdr) (by simp)))
          refine hK.out _ _ ⟨cell_up HD5.out (HV7.out).1.below, cell_up (HCS.out n _ HE1.out) (HV7.out).1.below⟩ (fun hHeld => ?_)
          clear hK K
          (try simp only [List.getElem_toArray, List.getElem_cons_zero, List.getElem_cons_succ, Act.put, List.setIfInBounds_toArray, List.set_cons_zero, List.set_cons_succ])
          refine wpAnyH_take (i := 15) (v := ?_) rfl (by kernel_rfl) (by kernel_rfl) (by kernel_rfl) (fun _ _ _ h => h) (Or.inl ⟨by rfl, ?_⟩) hHeld ?_
          rotate_left
          · intro w hSw
            (try dsimp only at hSw)
            go_simp
            (try with_reducible rfl)
          (try simp only [List.getElem_toArray, List.getElem_cons_zero, List.getElem_cons_succ, Act.put, List.setIfInBounds_toArray, List.set_cons_zero, List.set_cons_succ])
          refine wpAnyH_take (i := 16) (v := ?_) rfl (by kernel_rfl) (by kernel_rfl) (by kernel_rfl) (fun _ _ _ h => h) (Or.inl ⟨by rfl, ?_⟩) hHeld ?_
          rotate_left
          · intro w hSw
            (try dsimp only at hSw)
            go_simp
            (try with_reducible rfl)
          (try simp only [List.getElem_toArray, List.getElem_cons_zero, List.getElem_cons_succ, Act.put, List.setIfInBounds_toArray, List.set_cons_zero, List.set_cons_succ])
          refine wpAnyH_ready (rs := [17]) (by kernel_rfl) (by simp) ?_
          refine AllReadyH.cons rfl (fun K hK => ?_) AllReadyH.nil
          go_simp
          refine hK.out _ _ ⟨cell_up HD5.out (Hold.store (fs := []) HV7.out _).1.below, cell_up (HCS.out n _ HE1.out) (Hold.store (fs := []) HV7.out _).1.below⟩ (fun hHeld => ?_)
          clear hK K
          (try simp only [List.getElem_toArray, List.getElem_cons_zero, List.getElem_cons_succ, Act.put, List.setIfInBounds_toArray, List.set_cons_zero, List.set_cons_succ])
          refine wpAnyH_done (by kernel_rfl) ?_ _
          go_wp2
          go_roundw
          all_goals first
            | (simp [intOf]; omega)
            | (refine ⟨n + 1, .slice (some ⟨g7, 0, none⟩) (n + 1) cap7, vals ++ [.pointer (some pv)], ts ++ [dlT (.pointer (some pv)) Q5 c n st], by omega, by go_num, ?_, ?_⟩
               · have h9 := HROW.out.snoc HTL.out (.pointer (some pv)) Q5 st
                 rw [← take_next HST.out] at h9
                 exact h9
               · have h9 := Hold.store (fs := []) HV7.out (.slice (some ⟨g7, 0, none⟩) (vals.length + 1) cap7)
                 rw [LV.out] at h9
                 exact h9)
    · obtain rfl : n = N := by omega
      go_wp2
      go_ret
      have e9 : sts.take n = sts := List.take_of_length_le (by rw [HLS.out]; exact Nat.le_refl _)
      have h9 := HROW.out
      rw [e9] at h9
      obtain ⟨s1, s2, s3⟩ := dk_of HR.out HO.out HL.out h9 HV.out
      exact ⟨_, _, rfl, s1, fun k hk => (s3 k hk).elim (fun h => h.elim) id, s2.below⟩
end Go.Proofs.YtkflggojiiebeaaGreat.Stk

namespace Go.Proofs.YtkflggojiiebeaaGreat.Stk
open Go Go.RowKit Lw Grd Lin Con Shp Sk Exa Lev
set_option linter.unusedVariables false
set_option linter.unusedSimpArgs false
theorem URow.start (c : Cfg) (k d : Int) (sts : List LS) : URow c k d sts 0 sts := ⟨rfl, fun i => (if_neg (by omega)).symm⟩
theorem upk_bd {k : Int} (k0 : 0 ≤ k) (n : Nat) : 0 ≤ upK k n ∧ upK k n ≤ k := by
  have hp : (0 : Int) < ((2 ^ n : Nat) : Int) := by have := Nat.one_le_two_pow (n := n); omega
  exact ⟨Int.ediv_nonneg k0 (Int.le_of_lt hp), Int.ediv_le_self _ k0⟩
theorem upk_pow (k : Int) (n : Nat) : k / 2 ^ n = upK k n := by
  unfold upK
  simp
set_option maxRecDepth 100000 in
set_option maxHeartbeats 8000000 in
theorem dk_upd (p : Addr) (F : Nat → Prop) (c : Cfg) (sts : List LS) (k d : Int) (w : World) (h : DK w p F c sts) (k0 : 0 ≤ k) (k1 : k ≤ 18446744073709551615) (d0 : -9223372036854775808 ≤ d) (d1 : d ≤ 9223372036854775807) :
    Calls Tryz.prog 16 #[.pointer (some p), .int .u64 k, .int .i64 d] w fun e w' => e = .returned (.int .i64 (sucode c sts k d)) ∧ ∃ F', DK w' p F' c (sures c sts k d) ∧ Kept F w w' ∧ (∀ q, F' q → F q ∨ w.heap.size ≤ q) := by
  have HS := Lib.hid h
  obtain ⟨hr, hc, hl, b0, B0, hdr0, vals0, ts0, rfl, hrow0, hI, rfl⟩ := h
  have HH := Lib.hid (Hold.start hI)
  have HO := Lib.hid hc
  have HR := Lib.hid hr
  have HL := Lib.hid hl
  have HROW0 := Lib.hid hrow0
  have hb1 := hr.1
  have hb2 := hr.2.1
  obtain ⟨g0, cap0, rfl, hcs⟩ := ownD_cell (HH.out.i (t := ownT B0 55 hdr0 vals0) (by simp)) (by have := hrow0.lv; omega)
  obtain ⟨N, hN⟩ : ∃ N, vals0.length = N := ⟨_, rfl⟩
  have HNB : Hid (N = c.bt.toNat + 1) := Lib.hid (by have := hrow0.lv; omega)
  have hN60 : N ≤ 60 := by have := HNB.out; omega
  have HCS := Lib.hid hcs
  have d5 : w.cell? ⟨b0, 5, none⟩ = some (.slice (some ⟨g0, 0, none⟩) N cap0) := by rw [← hN]; exact box_cell (HH.out.i (t := dkB b0 c (.slice (some ⟨g0, 0, none⟩) vals0.length cap0)) (by simp)) (i := 5) rfl
  have HD5 := Lib.hid d5
  have HLS : Hid (sts.length = N) := Lib.hid (by have := hrow0.lv; omega)
  have K0 := Lib.hid k0
  have K1 := Lib.hid k1
  have D0 := Lib.hid d0
  have D1 := Lib.hid d1
  have x0 := box_cell (HH.out.i (t := dkB b0 c (.slice (some ⟨g0, 0, none⟩) vals0.length cap0)) (by simp)) (i := 0) rfl
  have x1 := box_cell (HH.out.i (t := dkB b0 c (.slice (some ⟨g0, 0, none⟩) vals0.length cap0)) (by simp)) (i := 1) rfl
  have x2 := box_cell (HH.out.i (t := dkB b0 c (.slice (some ⟨g0, 0, none⟩) vals0.length cap0)) (by simp)) (i := 2) rfl
  have x3 := box_cell (HH.out.i (t := dkB b0 c (.slice (some ⟨g0, 0, none⟩) vals0.length cap0)) (by simp)) (i := 3) rfl
  have x4 := box_cell (HH.out.i (t := dkB b0 c (.slice (some ⟨g0, 0, none⟩) vals0.length cap0)) (by simp)) (i := 4) rfl
  by_cases hk : keys c 0 ≤ k
  · have e1 : sucode c sts k d = 2 := if_pos hk
    have e2 : sures c sts k d = sts := by unfold sures; rw [e1]; exact if_neg (by decide)
    rw [e1, e2]
    clear e1 e2 hI hrow0 hl hr hc k0 k1 d0 d1 hcs hN hN60 hb1 hb2
    go_enter Tryz.func16, Tryz.ntmps16
    go_wp2_with (go_at_call 37; (with_reducible refine (rkeys_any c 0 _ HO.out (by omega) (by omega)).mono ?_); rintro e w1 ⟨rfl, hb⟩)
    go_ret
    exact ⟨rfl, _, HS.out.up hb, Kept.of_below hb, fun q hq => .inl hq⟩
  · have hk2 : k < keys c 0 := by omega
    by_cases hm : c.md = 2 ∧ d < 0
    · have e1 : sucode c sts k d = 3 := by unfold sucode; rw [if_neg hk, if_pos hm]
      have e2 : sures c sts k d = sts := by unfold sures; rw [e1]; exact if_neg (by decide)
      rw [e1, e2]
      have hm1 : (c.md == 2) = true := by simp [hm.1]
      have hm2 : d < 0 := hm.2
      clear e1 e2 hI hrow0 hl hr hc k0 k1 d0 d1 hcs hN hN60 hb1 hb2 hm hk
      go_enter Tryz.func16, Tryz.ntmps16
      go_wp2_with (go_at_call 37; (with_reducible refine (rkeys_any c 0 _ HO.out (by omega) (by omega)).mono ?_); rintro e w1 ⟨rfl, hb⟩; have y3 := cell_up x3 hb)
      go_ret
      exact ⟨rfl, _, HS.out.up hb, Kept.of_below hb, fun q hq => .inl hq⟩
    · have e1 : sucode c sts k d = ers c k d 0 sts := by unfold sucode; rw [if_neg hk, if_neg hm]
      have HE1 := Lib.hid e1
      have hm1 : ((c.md == 2) = false) ∨ ((c.md == 2) = true ∧ ¬ d < 0) := by
        by_cases h9 : c.md = 2
        · exact .inr ⟨by simp [h9], fun h => hm ⟨h9, h⟩⟩
        · exact .inl (by simp [h9])
      clear e1 hI hrow0 hl hr hc k0 k1 d0 d1 hcs hN hm hk
      have hend : ∀ (wr : World) (b1 B1 : Nat) (hdr1 : Value) (vals1 : List Value) (ts : List Thing), ers c k d 0 sts = 0 → LRow dlT c vals1 ts (rss c k d 0 sts) → Hold (fun _ => False) w wr (dkB b1 c hdr1 :: ownT B1 55 hdr1 vals1 :: ts) →
          ∃ F', DK (wr.setCell ⟨b0, 5, none⟩ hdr1) ⟨b0, 0, none⟩ F' c (rss c k d 0 sts) ∧ Kept (manyT (dkB b0 c (.slice (some ⟨g0, 0, none⟩) vals0.length cap0) :: ownT B0 55 (.slice (some ⟨g0, 0, none⟩) vals0.length cap0) vals0 :: ts0)).F w (wr.setCell ⟨b0, 5, none⟩ hdr1) ∧ (∀ q, F' q → (manyT (dkB b0 c (.slice (some ⟨g0, 0, none⟩) vals0.length cap0) :: ownT B0 55 (.slice (some ⟨g0, 0, none⟩) vals0.length cap0) vals0 :: ts0)).F q ∨ w.heap.size ≤ q) := by
        intro wr b1 B1 hdr1 vals1 ts hz hrow hh
        have hbw : Below w.heap.size w wr := hh.1.below
        have hb0 := box_lt (HH.out.i (t := dkB b0 c (.slice (some ⟨g0, 0, none⟩) vals0.length cap0)) (by simp))
        have h2 : Hold (manyT (dkB b0 c (.slice (some ⟨g0, 0, none⟩) vals0.length cap0) :: ownT B0 55 (.slice (some ⟨g0, 0, none⟩) vals0.length cap0) vals0 :: ts0)).F w wr (dkB b0 c (.slice (some ⟨g0, 0, none⟩) vals0.length cap0) :: ownT B1 55 hdr1 vals1 :: ts) := by
          have h3 := Hold.sub hh (.cons _ (List.Sublist.refl _))
          refine ⟨Kept.of_below hbw, fun t ht => ?_, fun u hu k' hk' hu2 => ?_, h3.2.2⟩
          · rcases List.mem_cons.1 ht with rfl | ht
            · exact ⟨(dkB b0 c _).keep w wr (fun _ => False) (HH.out.i (by simp)) (Kept.of_below hbw) (fun _ _ h => h), fun k' hk' => .inl ⟨_, by simp, hk'⟩⟩
            · exact ⟨(h3.2.1 t ht).1, fun k' hk' => .inr (((h3.2.1 t ht).2 k' hk').elim (fun h => h.elim) id)⟩
          · have h4 := ((h3.2.1 u hu).2 k' hu2).elim (fun h => h.elim) id
            have h5 : k' = b0 := hk'
            omega
        have h6 := Hold.store (fs := []) h2 hdr1
        have h7 := dk_of HR.out HO.out (by rw [rss_len]; exact HL.out) hrow h6
        exact ⟨_, h7.1, h7.2.1, h7.2.2⟩
      have HEND := Lib.hid hend
      clear hend
      have hkk := fun n => (upk_bd K0.out n)
      have HKK := Lib.hid hkk
      clear hkk
      rcases hm1 with hm1 | ⟨hm1, hm2⟩
      all_goals
        go_enter Tryz.func16, Tryz.ntmps16
        go_wp2_with (first
          | (go_at_call 37; (with_reducible refine (rkeys_any c 0 _ HO.out (by omega) (by omega)).mono ?_); rintro e w1 ⟨rfl, hb⟩; have y3 := cell_up x3 hb; have HB1 := Lib.hid hb; clear hb)
          | (go_at_call 51; (with_reducible refine (dk_copy _ _ c sts _ (HS.out.up HB1.out)).mono ?_); rintro e w2 ⟨q, Q, rfl, hq, hQ, hb⟩; obtain ⟨hr1, hc1, hl1, b1, B1, hdr1, vals1, ts1, rfl, hrow1, hI1, rfl⟩ := hq; have HB2 := Lib.hid (HB1.out.trans (hb.mono HB1.out.size)); have HW1 := Lib.hid HB1.out.size; clear hb))
        have hI2 : Hold (fun _ => False) w w2 (dkB b1 c hdr1 :: ownT B1 55 hdr1 vals1 :: ts1) := ⟨Kept.of_below HB2.out, fun t ht => ⟨hI1.1 t ht, fun k' hk' => .inr (Nat.le_trans HW1.out (hQ k' ⟨t, ht, hk'⟩))⟩, hI1.2⟩
        obtain ⟨g1, cap1, rfl, -⟩ := ownD_cell (hI1.1 (ownT B1 55 hdr1 vals1) (by simp)) (by have := hrow1.lv; have := HL.out; omega)
        have hN1 : vals1.length = N := by have := hrow1.lv; have := HLS.out; omega
        have HN1 := Lib.hid hN1
        have HI2 := Lib.hid hI2
        have HROW1 := Lib.hid hrow1
        rw [hN1] at HI2
        clear hr1 hc1 hl1 hrow1 hI1 hI2 hQ hN1 x0 x1 x2 x3 x4 y3
        go_loopw [8] (fun iv wr => ∃ (n : Nat) (ts : List Thing) (sts' : List LS), n ≤ N ∧ iv = .int .i64 n ∧ LRow dlT c vals1 ts sts' ∧ URow c k d sts n sts' ∧ (∀ (i : Nat) (s : LS), i < n → sts[i]? = some s → lsCode c ((0 + i : Nat) : Int) s (upK k (0 + i)) d = 0) ∧ Hold (fun _ => False) w wr (dkB b1 c (.slice (some ⟨g1, 0, none⟩) N cap1) :: ownT B1 55 (.slice (some ⟨g1, 0, none⟩) N cap1) vals1 :: ts)) (fun iv _ => N - (intOf iv).toNat)
        case atStart => exact ⟨0, ts1, sts, Nat.zero_le _, rfl, HROW1.out, URow.start _ _ _ _, fun i s hi => by omega, HI2.out⟩
        case round =>
          obtain ⟨n, ts, sts', hn, rfl, hrow, hur, hcz, hv⟩ := hrel
          have HROW := Lib.hid hrow
          have HUR := Lib.hid hur
          have HCZ := Lib.hid hcz
          have HV := Lib.hid hv
          have hbw : Below w.heap.size w wr := hv.1.below
          have HBW := Lib.hid hbw
          have z5 := cell_up HD5.out hbw
          have x5 := box_cell (hv.i (t := dkB b1 c (.slice (some ⟨g1, 0, none⟩) N cap1)) (by simp)) (i := 5) rfl
          clear hrow hur hcz hbw
          by_cases hlt : n < N
          · obtain ⟨st, hst⟩ : ∃ st, sts[n]? = some st := ⟨_, List.getElem?_eq_getElem (by rw [HLS.out]; exact hlt)⟩
            have hst' : sts'[n]? = some st := by rw [HUR.out.each n, if_neg (Nat.lt_irrefl n)]; exact hst
            obtain ⟨p1, Q1, e1, e2, e3⟩ := dk_at HROW.out hv hst'
            obtain ⟨gg, cc, ee, hcs1⟩ := ownD_cell (hv.i (t := ownT B1 55 (.slice (some ⟨g1, 0, none⟩) N cap1) vals1) (by simp)) (by have := HN1.out; omega)
            injection ee with ee1 ee2 ee3
            injection ee1 with ee1
            injection ee1 with ee1
            subst ee1
            have x6 := hcs1 n _ e1
            have HEV := Lib.hid e1
            have HE := Lib.hid e2
            have HE3 := Lib.hid e3
            have HST := Lib.hid hst
            have hlt2 : (n : Int) < (N : Int) := by omega
            have hn0 : (0 : Int) ≤ (n : Int) := by omega
            have hu := HKK.out n
            have hn64 : n < 64 := by omega
            have CU := Lib.hid (fun hb => dv_upd p1 Q1 c (n : Int) st (upK k n) d wr e2 hu.1 hb D0.out D1.out)
            have hub : upK k n ≤ 18446744073709551615 := by have := K1.out; omega
            obtain ⟨E, hE⟩ : ∃ E, lsCode c (n : Int) st (upK k n) d = E := ⟨_, rfl⟩
            have HEE := Lib.hid hE
            have CU2 : Hid (Calls Tryz.prog 52 #[.pointer (some p1), .int .u64 (k / 2 ^ n), .int .i64 d] wr fun e w' => e = .returned (.int .i64 E) ∧ ∃ F', DLV w' p1 F' c (n : Int) (lsRes c (n : Int) st (upK k n) d) ∧ Kept Q1 wr w' ∧ (∀ q, F' q → Q1 q ∨ wr.heap.size ≤ q)) := Lib.hid (by
              rw [upk_pow, ← hE]
              exact CU.out hub)
            clear hv e1 e2 e3 hst hst' hcs1 ee2 ee3 hu CU hub hE
            by_cases hz : E = 0
            · subst hz
              go_wp2_with (go_at_call 52; (with_reducible refine CU2.out.mono ?_); rintro e w5 ⟨rfl, Q5, hE5, hK5, hQ5⟩; have HV5 := Lib.hid (Hold.set (pre := [dkB b1 c (.slice (some ⟨g1, 0, none⟩) N cap1), ownT B1 55 (.slice (some ⟨g1, 0, none⟩) N cap1) vals1]) (post := []) (by simpa using HV.out) HE3.out (dlT (.pointer (some p1)) Q5 c (n : Int) (lsRes c (n : Int) st (upK k n) d)) ⟨p1, rfl, hE5⟩ hK5 hQ5); clear hE5 hK5 hQ5)
              go_roundw
              case rel =>
                refine ⟨n + 1, ts.set n (dlT (.pointer (some p1)) Q5 c (n : Int) (lsRes c (n : Int) st (upK k n) d)), _, by omega, by go_num, HROW.out.put HEV.out Q5 _, HUR.out.next HST.out, fun i s hi hs => ?_, by simpa using HV5.out⟩
                by_cases hi2 : i < n
                · exact HCZ.out i s hi2 hs
                · obtain rfl : i = n := by omega
                  rw [HST.out] at hs
                  injection hs with hs
                  subst hs
                  rw [Nat.zero_add]
                  exact HEE.out
              case measure => simp [intOf]; omega
            · go_wp2_with (go_at_call 52; (with_reducible refine CU2.out.mono ?_); rintro e w5 ⟨rfl, Q5, hE5, hK5, hQ5⟩; have HV5 := Lib.hid (Hold.set (pre := [dkB b1 c (.slice (some ⟨g1, 0, none⟩) N cap1), ownT B1 55 (.slice (some ⟨g1, 0, none⟩) N cap1) vals1]) (post := []) (by simpa using HV.out) HE3.out (dlT (.pointer (some p1)) Q5 c (n : Int) (lsRes c (n : Int) st (upK k n) d)) ⟨p1, rfl, hE5⟩ hK5 hQ5); clear hE5 hK5 hQ5)
              go_ret
              have hE9 : ers c k d 0 sts = E := by
                rw [ers_first c k d 0 sts n st HCZ.out HST.out (by rw [Nat.zero_add, HEE.out]; exact hz), Nat.zero_add]
                exact HEE.out
              have hs1 : sucode c sts k d = E := HE1.out.trans hE9
              have hs2 : sures c sts k d = sts := by unfold sures; rw [hs1]; exact if_neg hz
              rw [hs1, hs2]
              have hb5 : Below w.heap.size w w5 := HV5.out.1.below
              exact ⟨rfl, _, HS.out.up hb5, Kept.of_below hb5, fun q hq => .inl hq⟩
          · obtain rfl : n = N := by omega
            have hfz : wr.frozen? ⟨b0, 5, none⟩ = false := frozen_of_row wr b0 5 _ _ ((dkB b0 c _).keep w wr (fun _ => False) (HH.out.i (t := dkB b0 c (.slice (some ⟨g0, 0, none⟩) vals0.length cap0)) (by simp)) (Kept.of_below HBW.out) (fun _ _ h => h))
            have hz9 : ers c k d 0 sts = 0 := ers_none c k d 0 sts (fun i s hs => HCZ.out i s (by have := (List.getElem?_eq_some_iff.1 hs).1; have := HLS.out; omega) hs)
            have HZ9 := Lib.hid hz9
            have hrr := HUR.out.done HLS.out.symm
            have HRR := Lib.hid hrr
            clear hv hz9 hrr
            go_wp2
            go_ret
            have hs1 : sucode c sts k d = 0 := HE1.out.trans HZ9.out
            have hs2 : sures c sts k d = rss c k d 0 sts := by unfold sures; rw [if_pos hs1]
            rw [hs1, hs2]
            obtain ⟨F', f1, f2, f3⟩ := HEND.out wr b1 B1 (.slice (some ⟨g1, 0, none⟩) n cap1) vals1 ts HZ9.out (by have h9 := HROW.out; rw [HRR.out] at h9; exact h9) HV.out
            exact ⟨rfl, F', f1, f2, f3⟩
end Go.Proofs.YtkflggojiiebeaaGreat.Stk

