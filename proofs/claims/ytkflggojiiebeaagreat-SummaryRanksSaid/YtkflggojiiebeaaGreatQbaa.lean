/- Texts that statements lean on, put together: StkRGet, QntRef, SmrRef, SmrSame. -/
import Derived.Test.YtkflggojiiebeaaGreatQaa
import Derived.Test.YtkflggojiiebeaaGreatQab
import Derived.Test.YtkflggojiiebeaaGreatQac
import Derived.Test.YtkflggojiiebeaaGreatQad
import Derived.Test.YtkflggojiiebeaaGreatQae
import Derived.Test.YtkflggojiiebeaaGreatQaf
import Derived.Test.YtkflggojiiebeaaGreatQag
import Derived.Test.YtkflggojiiebeaaGreatQba
import Derived.Test.YtkflggojiiebeaaGreatQca
import Derived.Test.YtkflggojiiebeaaGreatQcb
import Derived.Test.YtkflggojiiebeaaGreatQda
import Derived.Test.YtkflggojiiebeaaGreatQea
import Derived.Test.YtkflggojiiebeaaGreatQha
import Derived.Test.YtkflggojiiebeaaGreatQia
import Derived.Test.YtkflggojiiebeaaGreatQja
import Derived.Test.YtkflggojiiebeaaGreatQjb
import Derived.Test.YtkflggojiiebeaaGreatQjc
import Derived.Test.YtkflggojiiebeaaGreatQma
import Derived.Test.YtkflggojiiebeaaGreatQpa
import Derived.Test.YtkflggojiiebeaaGreatQta
import Derived.Test.YtkflggojiiebeaaGreatQva
import Derived.Test.YtkflggojiiebeaaGreatRows
import Derived.WalkKit
import Derived.ProofKit
import Derived.OpenShut
import Derived.DataShut
import Derived.Lib.SmallJoins
import Derived.Handy
import Derived.WalkSmall
import Derived.Deep.Draws
import Derived.WalkSpells
import Derived.Laws.AppendOwnNone
import Derived.Deep.AppendLies
import Derived.Lib.Hide
import Derived.Deep.MidRow
import Derived.Laws.BitsAllLaws
import Derived.WalkMore
import Derived.Deep.LoopGhost
import Derived.Deep.RegionHeld3
import Derived.Deep.QuietTactic
import Derived.BigQuiet
import Derived.Laws.Cover3
import Derived.Shelf.Spec.BitsCarry
import Derived.Deep.RegionWith
import Derived.Laws.OwnMore
import Derived.Deep.DeepCutAuto
import Derived.Laws.EntriesVeiled
import Derived.Deep.CutRange
import Derived.Defers
import Derived.RangeFuncNested
import Derived.RangeFuncBound
import Derived.RangeFuncCalls
import Derived.RangeFuncLeaves
import Derived.Deep.WholeRow
import Derived.Maps.AppendAt
import Derived.Shelf.Abstract
import Derived.Shelf.RegionOpen
import Derived.OwnWalkIn
import Derived.TacticsInMore
import Derived.LoopNIn
import Derived.LoopIn
import Derived.RangeFuncBox
import Derived.Laws.ResultCell
import Derived.Laws.CopyOwn
namespace Go.Proofs.YtkflggojiiebeaaGreat.Con
end Go.Proofs.YtkflggojiiebeaaGreat.Con
namespace Go.Proofs.YtkflggojiiebeaaGreat.Exa
end Go.Proofs.YtkflggojiiebeaaGreat.Exa
namespace Go.Proofs.YtkflggojiiebeaaGreat.Fld
end Go.Proofs.YtkflggojiiebeaaGreat.Fld
namespace Go.Proofs.YtkflggojiiebeaaGreat.Grd
end Go.Proofs.YtkflggojiiebeaaGreat.Grd
namespace Go.Proofs.YtkflggojiiebeaaGreat.Hsh
end Go.Proofs.YtkflggojiiebeaaGreat.Hsh
namespace Go.Proofs.YtkflggojiiebeaaGreat.Hvy
end Go.Proofs.YtkflggojiiebeaaGreat.Hvy
namespace Go.Proofs.YtkflggojiiebeaaGreat.Inn
end Go.Proofs.YtkflggojiiebeaaGreat.Inn
namespace Go.Proofs.YtkflggojiiebeaaGreat.Lev
end Go.Proofs.YtkflggojiiebeaaGreat.Lev
namespace Go.Proofs.YtkflggojiiebeaaGreat.Lin
end Go.Proofs.YtkflggojiiebeaaGreat.Lin
namespace Go.Proofs.YtkflggojiiebeaaGreat.Lw
end Go.Proofs.YtkflggojiiebeaaGreat.Lw
namespace Go.Proofs.YtkflggojiiebeaaGreat.Ord
end Go.Proofs.YtkflggojiiebeaaGreat.Ord
namespace Go.Proofs.YtkflggojiiebeaaGreat.Pcs
end Go.Proofs.YtkflggojiiebeaaGreat.Pcs
namespace Go.Proofs.YtkflggojiiebeaaGreat.Qnt
end Go.Proofs.YtkflggojiiebeaaGreat.Qnt
namespace Go.Proofs.YtkflggojiiebeaaGreat.Sed
end Go.Proofs.YtkflggojiiebeaaGreat.Sed
namespace Go.Proofs.YtkflggojiiebeaaGreat.Shp
end Go.Proofs.YtkflggojiiebeaaGreat.Shp
namespace Go.Proofs.YtkflggojiiebeaaGreat.Sk
end Go.Proofs.YtkflggojiiebeaaGreat.Sk
namespace Go.Proofs.YtkflggojiiebeaaGreat.Smr
end Go.Proofs.YtkflggojiiebeaaGreat.Smr
namespace Go.Proofs.YtkflggojiiebeaaGreat.Spn
end Go.Proofs.YtkflggojiiebeaaGreat.Spn
namespace Go.Proofs.YtkflggojiiebeaaGreat.Stk
end Go.Proofs.YtkflggojiiebeaaGreat.Stk
namespace Go.Proofs.YtkflggojiiebeaaGreat.Wid
end Go.Proofs.YtkflggojiiebeaaGreat.Wid
namespace Go.Proofs.YtkflggojiiebeaaGreat.Stk
open Go Go.RowKit Lw Grd Lin Con Shp Sk Exa Lev
set_option linter.unusedVariables false
set_option linter.unusedSimpArgs false
set_option maxHeartbeats 4000000 in
theorem dk_total (p : Addr) (F : Nat → Prop) (c : Cfg) (sts : List LS) (w : World) (h : DK w p F c sts) :
    Calls Tryz.prog 131 #[.pointer (some p)] w fun e w' => e = .returned (.int .i64 (spV c sts c.bt 0)) ∧ Below w.heap.size w w' := by
  obtain ⟨hr, hc, hl, b0, B0, hdr0, vals0, ts0, rfl, hrow0, hI, rfl⟩ := h
  have HH := Lib.hid (Hold.start hI)
  have HO := Lib.hid hc
  have HR := Lib.hid hr
  have HL := Lib.hid hl
  have HROW0 := Lib.hid hrow0
  have hb1 := hr.1
  have hb2 := hr.2.1
  obtain ⟨g0, cap0, rfl, hcs⟩ := ownD_cell (HH.out.i (t := ownT B0 55 hdr0 vals0) (by simp)) (by have := hrow0.lv; omega)
  obtain ⟨N, hN⟩ : ∃ N, vals0.length = N := ⟨_, rfl⟩
  have HNB : Hid (N = c.bt.toNat + 1) := Lib.hid (by have := hrow0.lv; omega)
  have hN60 : N ≤ 60 := by have := HNB.out; omega
  have HCS := Lib.hid hcs
  have d5 : w.cell? ⟨b0, 5, none⟩ = some (.slice (some ⟨g0, 0, none⟩) N cap0) := by rw [← hN]; exact box_cell (HH.out.i (t := dkB b0 c (.slice (some ⟨g0, 0, none⟩) vals0.length cap0)) (by simp)) (i := 5) rfl
  have HD5 := Lib.hid d5
  have HLS : Hid (sts.length = N) := Lib.hid (by have := hrow0.lv; omega)
  obtain ⟨m, hm⟩ : ∃ m : Nat, c.bt = m := ⟨c.bt.toNat, by omega⟩
  obtain ⟨st, hst⟩ : ∃ st, sts[m]? = some st := ⟨_, List.getElem?_eq_getElem (by have := HL.out; omega)⟩
  obtain ⟨p0, Q0, e1, e2, e3⟩ := dk_at HROW0.out HH.out hst
  have d6 := HCS.out m _ e1
  have HE := Lib.hid e2
  have hw1 : IntKind.i64.wrap ((N : Int) - 1) = (m : Int) := by
    have h9 := HNB.out
    have h8 : (N : Int) - 1 = m := by omega
    rw [h8]
    exact IntWalk.i64_in _ ⟨by omega, by omega⟩
  have hw2 : wrap64 ((N : Int) - 1) = (m : Int) := by
    have h9 := HNB.out
    have h8 : (N : Int) - 1 = m := by omega
    rw [h8]
    exact IntWalk.wrap64_in _ ⟨by omega, by omega⟩
  have hmN : (m : Int) < (N : Int) := by have := HNB.out; omega
  have hm0 : (0 : Int) ≤ (m : Int) := by omega
  have e4 : spV c sts c.bt 0 = lsPtV c m st 0 := by rw [hm]; exact (spd_yes hst 0).1
  rw [e4]
  clear hr hc hl hrow0 hI hcs hN hm e1 e2 e3 e4 hst hb1 hb2 hN60
  go_enter Tryz.func131, Tryz.ntmps131
  go_wp2
  go_region_held3 (fun w' => Below w.heap.size w w' ∧ w'.cell? ⟨b0, 5, none⟩ = some (.slice (some ⟨g0, 0, none⟩) N cap0) ∧ w'.cell? ⟨g0, m, none⟩ = some (.pointer (some p0))) (first | (refine ⟨?_, ?_, ?_⟩ <;> (first | (with_reducible assumption) | (with_reducible refine cell_up d5 ?_) | (with_reducible refine cell_up d6 ?_) | skip) <;> ((repeat' (first | (with_reducible first | exact Below.refl _ _ | assumption | refine below_over ?_ _ _ | refine Lw.below_alloc ?_ _ | refine Below.drew ?_ | refine below_drewN ?_ _ | refine Below.setCell ?_ ?_ _) | go_size))))) (first
    | (go_at_call 96; (with_reducible refine (dv_point p0 Q0 c m st 0 _ (dlv_up HE.out (by (repeat' (first | (with_reducible first | exact Below.refl _ _ | assumption | refine below_over ?_ _ _ | refine Lw.below_alloc ?_ _ | refine Below.drew ?_ | refine below_drewN ?_ _ | refine Below.setCell ?_ ?_ _) | go_size)))) (by omega) (by omega)).mono ?_); rintro e w5 ⟨rfl, hb⟩; obtain ⟨bs, d, rfl⟩ := below_grow hb; clear hb))
  all_goals go_wp2
  all_goals go_ret
  all_goals exact ⟨rfl, (by (repeat' (first | (with_reducible first | exact Below.refl _ _ | assumption | refine below_over ?_ _ _ | refine Lw.below_alloc ?_ _ | refine Below.drew ?_ | refine below_drewN ?_ _ | refine Below.setCell ?_ ?_ _) | go_size)))⟩
end Go.Proofs.YtkflggojiiebeaaGreat.Stk

namespace Go.Proofs.YtkflggojiiebeaaGreat.Qnt
open Go Go.RowKit Lw Grd Lin Con Shp Sk Exa Lev Stk Pcs Spn
set_option linter.unusedVariables false
set_option linter.unusedSimpArgs false
theorem own_pc1 (X : World) (U D : Int) (base : Nat) (hb : base ≤ X.heap.size) : (X.alloc (.cells #[.int .i64 U, .int .u64 D] 82)).ownsRow base 82 2 (.slice (some ⟨X.heap.size, 0, none⟩) 1 1) 1 [.int .i64 U, .int .u64 D] :=
  ⟨rfl, .inr ⟨X.heap.size, 1, _, rfl, hb, heap_alloc_new X _, Nat.le_refl _, by decide, rfl, rfl⟩⟩
set_option maxRecDepth 100000 in
set_option maxHeartbeats 8000000 in
theorem rway_s (r : Addr) (F : Nat → Prop) (c : Cfg) (sts : List LS) (k : Int) (w : World) (h : DK w r F c sts) (hin : ∀ n i : Int, -9223372036854775808 ≤ spV c sts n i ∧ spV c sts n i ≤ 9223372036854775807) (k0 : -9223372036854775808 ≤ k) (k1 : k ≤ 9223372036854775807) (h1 : 1 ≤ k) (h2 : k ≤ spV c sts c.bt 0) (lw : List (Nat × Nat)) (hw : wayQ (fun L i => spV c sts (L : Int) i) c.bt.toNat 0 k = some lw) :
    Calls Tryz.prog 102 #[.pointer (some r), .int .i64 k] w fun e w' => ∃ (A : Option Addr) (n cap : Nat), e = .returned (.tuple #[.slice A n cap, .int .i64 (qnC c (fun L i => spV c sts (L : Int) i) k)]) ∧ (pcT A n cap (ints (qnL c (fun L i => spV c sts (L : Int) i) k))).I w' ∧ Below w.heap.size w w' := by
  have hr := h.right.1
  have hbt := hr.1
  have hbt2 := hr.2.1
  have etop : spV c sts ((c.bt.toNat : Nat) : Int) 0 = spV c sts c.bt 0 := by
    rw [show ((c.bt.toNat : Nat) : Int) = c.bt by omega]
  have hq := qn_yes (c := c) (pt := (fun L i => spV c sts (L : Int) i)) h1 (by rw [etop]; exact h2) hw
  rw [hq.1, hq.2.1]
  obtain ⟨b, rfl, d0, dlt⟩ := dk_bt h
  have CTT := Lib.hid (fun w hs => dk_total ⟨b, 0, none⟩ F c sts w hs)
  have CPT := Lib.hid (fun n i w hs n0 n1 i0 i1 => dk_point ⟨b, 0, none⟩ F c sts n i w hs n0 n1 i0 i1)
  have HD := Lib.hid h
  have HIN := Lib.hid hin
  have HW := Lib.hid hw
  obtain ⟨TT, hTT⟩ : ∃ T, spV c sts c.bt 0 = T := ⟨_, rfl⟩
  rw [hTT] at CTT h2
  obtain ⟨BB, hBB⟩ : ∃ B, c.bt.toNat = B := ⟨_, rfl⟩
  rw [hBB] at HW
  have hcb : c.bt = (BB : Int) := by omega
  have hb59 : BB ≤ 59 := by omega
  rw [hcb] at d0
  have HB59 := Lib.hid hb59
  have f1 : decide (k < 1) = false := decide_eq_false (by omega)
  have f2 : decide (TT < k) = false := decide_eq_false (by omega)
  have f3 : ¬ k < 1 := by omega
  have f4 : ¬ TT < k := by omega
  have H1 := Lib.hid h1
  have K1 := Lib.hid k1
  have hwr : IntKind.i64.wrap ((BB : Int) - 1) = (BB : Int) - 1 := IntWalk.i64_in _ ⟨by omega, by omega⟩
  have hwr2 : wrap64 ((BB : Int) - 1) = (BB : Int) - 1 := IntWalk.wrap64_in _ ⟨by omega, by omega⟩
  obtain ⟨i0, hi_, hz0, hz1, hz2⟩ := info_parts pc_info
  have dd := Lib.hid (fun (w1 : World) (hb : Below w.heap.size w w1) => cell_up d0 hb)
  clear h hin hw hq etop hr hbt hbt2 hTT hBB hcb h1 h2 k0 k1
  go_enter Tryz.func102, Tryz.ntmps102
  go_wp2_with (go_at_call 131; (with_reducible refine (CTT.out _ HD.out).mono ?_); rintro e w4 ⟨rfl, hb⟩; have HB4 := Lib.hid hb; have d4 := dd.out _ hb; have dl4 := cell_lt d4; clear hb)
  have HB5 : Hid (Below w.heap.size w (w4.alloc (.cells #[.int .i64 (BB : Int), .int .u64 0] 82))) := Lib.hid (Lw.below_alloc HB4.out _)
  have HO5 : Hid ((w4.alloc (.cells #[.int .i64 (BB : Int), .int .u64 0] 82)).ownsRow w.heap.size 82 2 (.slice (some ⟨w4.heap.size, 0, none⟩) 1 1) 1 [.int .i64 (BB : Int), .int .u64 0]) := Lib.hid (own_pc1 w4 (BB : Int) 0 w.heap.size HB4.out.size)
  clear f1 f2 f3 f4 d0 d4 dlt dd dl4
  go_loopw [1, 6, 7, 8] (fun kv ov yv lv wr => ∃ (L i : Nat) (kk : Int) (xs : List (Nat × Nat)), L ≤ BB ∧ kv = .int .i64 kk ∧ yv = .int .u64 (i : Int) ∧ lv = .int .i64 ((L : Int) - 1) ∧ wr.ownsRow w.heap.size 82 2 ov (xs.length + 1) (flatP (ints (xs ++ [(L, i)]))) ∧ xs.length + L = BB ∧ wayQ (fun L i => spV c sts (L : Int) i) BB 0 k = (wayQ (fun L i => spV c sts (L : Int) i) L i kk).map (fun l => xs ++ l) ∧ i < 2 ^ (BB - L) ∧ 1 ≤ kk ∧ kk ≤ 9223372036854775807 ∧ Below w.heap.size w wr) (fun _ _ _ lv _ => (intOf lv + 1).toNat)
  case atStart => exact ⟨BB, 0, k, [], Nat.le_refl _, rfl, rfl, rfl, HO5.out, by simp, by simp, Nat.two_pow_pos _, H1.out, K1.out, HB5.out⟩
  case round =>
    obtain ⟨L, i, kk, xs, hL, rfl, rfl, rfl, hown, hxl, hwy, hi, hk1, hk2, hbw⟩ := hrel
    have HOWN := Lib.hid hown
    have HBWR := Lib.hid hbw
    have HWY := Lib.hid hwy
    have HDR := Lib.hid (HD.out.up hbw)
    clear hown hbw hwy hwr hwr2
    cases L with
    | zero =>
      have hlw : lw = xs ++ [(0, i)] := by
        have h := HWY.out
        rw [HW.out] at h
        injection h
      have hxs : xs.length + 1 ≤ 60 := by omega
      have HBI := Lib.hid (fun u (hu : u ∈ ints lw) => (show (-9223372036854775808 ≤ u.1 ∧ u.1 ≤ 9223372036854775807) ∧ (0 ≤ u.2 ∧ u.2 ≤ 18446744073709551615) from by
        obtain ⟨p, hp, rfl⟩ := List.mem_map.1 hu
        obtain ⟨j, hj⟩ := List.getElem?_of_mem hp
        obtain ⟨g1, g2, g3⟩ := (wayQ_path HW.out).at j p hj
        have g4 := Nat.pow_le_pow_right (show 0 < 2 by omega) (show j ≤ 59 by omega)
        have g5 : (2 : Nat) ^ 59 = 576460752303423488 := rfl
        refine ⟨⟨?_, ?_⟩, ?_, ?_⟩
        · show -9223372036854775808 ≤ (p.1 : Int); omega
        · show (p.1 : Int) ≤ 9223372036854775807; omega
        · show 0 ≤ (p.2 : Int); omega
        · show (p.2 : Int) ≤ 18446744073709551615; omega))
      have hown2 := HOWN.out
      rw [← hlw] at hown2
      obtain ⟨A2, cap2, rfl, hI, -⟩ := pc_own hown2 (by rw [ints_len, hlw]; simp) HBI.out
      have HI := Lib.hid hI
      clear hI hown2 hlw hxs hi hk1 hk2
      go_wp2
      refine bodyPost_ret (v := .tuple #[.slice A2 (xs.length + 1) cap2, .int .i64 0]) (by simp [results, Tryz.results102, go_sem]) rfl ?_
      exact ⟨A2, _, cap2, rfl, HI.out, HBWR.out⟩
    | succ L =>
      have e1 : ((L + 1 : Nat) : Int) - 1 = (L : Int) := by omega
      rw [e1]
      have hpw : BB - L = (BB - (L + 1)) + 1 := by omega
      have hp59 : 2 ^ (BB - L) ≤ 2 ^ 59 := Nat.pow_le_pow_right (by omega) (by omega)
      have e59 : (2 : Nat) ^ 59 = 576460752303423488 := rfl
      have hi2 : 2 * i + 1 < 2 ^ (BB - L) := by rw [hpw, Nat.pow_succ]; omega
      have HI2 := Lib.hid hi2
      obtain ⟨I2, hI2⟩ : ∃ I2, 2 * i = I2 := ⟨_, rfl⟩
      have HEI := Lib.hid hI2
      have hvb := HIN.out (L : Int) (I2 : Int)
      have CPJ := Lib.hid (fun w hs => CPT.out (L : Int) (I2 : Int) w hs (by omega) (by omega) (by omega) (by omega))
      have HSTEP := Lib.hid (show ∀ VV, spV c sts (L : Int) (I2 : Int) = VV → (kk ≤ VV → wayQ (fun L i => spV c sts (L : Int) i) (L + 1) i kk = (wayQ (fun L i => spV c sts (L : Int) i) L I2 kk).map (fun l => (L + 1, i) :: l)) ∧ (¬ kk ≤ VV → Wid.fit64 (kk - VV) = true → wayQ (fun L i => spV c sts (L : Int) i) (L + 1) i kk = (wayQ (fun L i => spV c sts (L : Int) i) L (I2 + 1) (kk - VV)).map (fun l => (L + 1, i) :: l)) ∧ (¬ kk ≤ VV → Wid.fit64 (kk - VV) = false → wayQ (fun L i => spV c sts (L : Int) i) (L + 1) i kk = none) from by
        intro VV hV
        subst hI2
        subst hV
        exact ⟨fun h => wayQ_left h, fun h h2 => wayQ_right h h2, fun h h2 => wayQ_none h h2⟩)
      obtain ⟨VV, hVV⟩ : ∃ v, spV c sts (L : Int) (I2 : Int) = v := ⟨_, rfl⟩
      obtain ⟨VC, hVC⟩ : ∃ v, spC c sts (L : Int) (I2 : Int) = v := ⟨_, rfl⟩
      rw [hVV, hVC] at CPJ
      rw [hVV] at hvb
      have HST := Lib.hid (HSTEP.out VV hVV)
      have f1 : 0 ≤ (L : Int) := by omega
      have f2 : IntKind.u64.wrap ((i : Int) * 2) = (I2 : Int) := by rw [IntKind.wrap_u64]; omega
      have f3 : wrap64 ((L : Int) - 1) = (L : Int) - 1 := IntWalk.wrap64_in _ ⟨by omega, by omega⟩
      have HXL : Hid (xs.length + 1 + L = BB) := Lib.hid (by omega)
      have HK := Lib.hid (And.intro hk1 hk2)
      have HLB : Hid (L ≤ BB) := Lib.hid (by omega)
      have HFL : Hid (∀ J : Nat, flatP (ints ((xs ++ [(L + 1, i)]) ++ [(L, J)])) = flatP (ints (xs ++ [(L + 1, i)])) ++ [.int .i64 (L : Int), .int .u64 (J : Int)]) := Lib.hid (fun J => by rw [ints_app]; exact flatP_snoc _ _)
      have hxl2 : xs.length + 1 ≤ 60 := by omega
      clear HSTEP hVV hVC e1 hpw hp59 e59 hi2 hI2 hi hxl hL
      by_cases hle : kk ≤ VV
      · have g1 : decide (VV < kk) = false := decide_eq_false (by omega)
        have g2 : ¬ VV < kk := by omega
        have HLE := Lib.hid hle
        clear hle hk1 hk2 hvb
        go_wp2_with (first
          | (at_builtin; go_must (refine wpList_append_lies _ rfl _ _ 118 rfl w.heap.size 82 i0 (.agg #[.int .i64 0, .int .u64 0]) 2 16 pcs_u hi_ hz0 hz1 hz2 rfl (by decide) _ _ _ rfl ((own2_up' HOWN.out HBX.out).alloc _) ⟨_, 0, none⟩ 1 1 [.int .i64 (L : Int), .int .u64 (I2 : Int)] rfl rfl (pc_news (pc_alloc (by simp))) (pc_one _ _) (by decide) (by unfold maxLen; omega) (by omega) (by simp; have := HBW.out.size; omega) _ rfl ?_); intro g7 cap7 w7 hown7 hgrow7 hat7 hlt7)
          | (go_at_call 56; (with_reducible refine (CPJ.out _ HDR.out).mono ?_); rintro e wp ⟨rfl, hb⟩; have HBX := Lib.hid hb; have HBW := Lib.hid (HBWR.out.trans (hb.mono HBWR.out.size)); clear hb))
        go_roundw
        case rel => exact ⟨L, I2, kk, xs ++ [(L + 1, i)], HLB.out, rfl, rfl, by go_num, by rw [HFL.out, List.length_append]; exact hown7, by rw [List.length_append]; exact HXL.out, way_push HWY.out (HST.out.1 HLE.out), by have := HI2.out; have := HEI.out; omega, HK.out.1, HK.out.2, (HBW.out.alloc HBW.out.size _).grown hgrow7 (by simp; have := HBW.out.size; omega) (fun x hx => own_ge HOWN.out x hx)⟩
        case measure => simp [intOf]; omega
      · have g1 : decide (VV < kk) = true := decide_eq_true (by omega)
        have g2 : VV < kk := by omega
        have HNE := Lib.hid hle
        have em : kk + -VV = kk - VV := by omega
        have HEM := Lib.hid em
        have CM1 := Lib.hid (fun w => Wid.rofint_any kk w (by omega) hk2)
        have CM2 := Lib.hid (fun w => Wid.rofint_any VV w hvb.1 hvb.2)
        have CM3 := Lib.hid (fun w => Wid.rminus_any VV _ _ _ _ _ _ _ _ _ _ w rfl)
        have CM4 := Lib.hid (fun w => Wid.rplus_any kk (-VV) _ _ _ _ _ _ _ _ _ _ _ _ _ _ _ _ _ _ _ _ w rfl rfl)
        have CM5 := Lib.hid (fun w => Wid.rint_any (kk + -VV) _ _ _ _ _ _ _ _ _ _ w rfl (by omega) (by omega))
        rw [show Wid.f64 (kk + -VV) = Wid.f64 (kk - VV) by rw [em], show Wid.fit64 (kk + -VV) = Wid.fit64 (kk - VV) by rw [em]] at CM5
        cases hfit : Wid.fit64 (kk - VV) with
        | false =>
          exfalso
          have h := HWY.out
          rw [HW.out, HST.out.2.2 hle hfit] at h
          cases h
        | true =>
          have e6 : Wid.f64 (kk - VV) = kk - VV := by unfold Wid.f64; rw [hfit]; rfl
          rw [hfit, e6] at CM5
          have hfb := of_decide_eq_true hfit
          have HRT := Lib.hid (HST.out.2.1 hle hfit)
          have HKB : Hid (1 ≤ kk - VV ∧ kk - VV ≤ 9223372036854775807) := Lib.hid ⟨by omega, by omega⟩
          obtain ⟨KN, hKN⟩ : ∃ v, kk - VV = v := ⟨_, rfl⟩
          rw [hKN] at CM5 HRT HKB
          have f4 : IntKind.u64.wrap ((I2 : Int) + 1) = (I2 : Int) + 1 := by rw [IntKind.wrap_u64]; have := HI2.out; have := HEI.out; have := Nat.pow_le_pow_right (show 0 < 2 by omega) (show BB - L ≤ 59 by omega); have e59 : (2 : Nat) ^ 59 = 576460752303423488 := rfl; omega
          have f5 : ((I2 + 1 : Nat) : Int) = (I2 : Int) + 1 := by omega
          clear hle hk1 hk2 hvb em hfit e6 hfb hKN
          go_wp2_with (first
            | (at_builtin; go_must (refine wpList_append_lies _ rfl _ _ 118 rfl w.heap.size 82 i0 (.agg #[.int .i64 0, .int .u64 0]) 2 16 pcs_u hi_ hz0 hz1 hz2 rfl (by decide) _ _ _ rfl ((own2_up' HOWN.out HRe.out).alloc _) ⟨_, 0, none⟩ 1 1 [.int .i64 (L : Int), .int .u64 ((I2 : Int) + 1)] rfl rfl (pc_news (pc_alloc (by simp))) (pc_one _ _) (by decide) (by unfold maxLen; omega) (by omega) (by simp; have := HBe.out.size; omega) _ rfl ?_); intro g7 cap7 w7 hown7 hgrow7 hat7 hlt7)
            | (go_at_call 58; (with_reducible refine (CM1.out _).mono ?_); rintro e wa ⟨rfl, hb⟩; have HBa := Lib.hid (HBW.out.trans (hb.mono HBW.out.size)); have HRa := Lib.hid (HBX.out.trans (hb.mono HBX.out.size)); clear hb)
            | (go_at_call 58; (with_reducible refine (CM2.out _).mono ?_); rintro e wb ⟨rfl, hb⟩; have HBb := Lib.hid (HBa.out.trans (hb.mono HBa.out.size)); have HRb := Lib.hid (HRa.out.trans (hb.mono HRa.out.size)); clear hb)
            | (go_at_call 61; (with_reducible refine (CM3.out _).mono ?_); rintro e wc ⟨rfl, hb⟩; have HBc := Lib.hid (HBb.out.trans (hb.mono HBb.out.size)); have HRc := Lib.hid (HRb.out.trans (hb.mono HRb.out.size)); clear hb)
            | (go_at_call 60; (with_reducible refine (CM4.out _).mono ?_); rintro e wd ⟨rfl, hb⟩; have HBd := Lib.hid (HBc.out.trans (hb.mono HBc.out.size)); have HRd := Lib.hid (HRc.out.trans (hb.mono HRc.out.size)); clear hb)
            | (go_at_call 62; (with_reducible refine (CM5.out _).mono ?_); rintro e we ⟨rfl, hb⟩; have HBe := Lib.hid (HBd.out.trans (hb.mono HBd.out.size)); have HRe := Lib.hid (HRd.out.trans (hb.mono HRd.out.size)); clear hb)
            | (go_at_call 56; (with_reducible refine (CPJ.out _ HDR.out).mono ?_); rintro e wp ⟨rfl, hb⟩; have HBX := Lib.hid hb; have HBW := Lib.hid (HBWR.out.trans (hb.mono HBWR.out.size)); clear hb))
          go_roundw
          case rel => exact ⟨L, I2 + 1, KN, xs ++ [(L + 1, i)], HLB.out, rfl, rfl, by go_num, by rw [HFL.out, List.length_append]; exact hown7, by rw [List.length_append]; exact HXL.out, way_push HWY.out HRT.out, by have := HI2.out; have := HEI.out; omega, HKB.out.1, HKB.out.2, (HBe.out.alloc HBe.out.size _).grown hgrow7 (by simp; have := HBe.out.size; omega) (fun x hx => own_ge HOWN.out x hx)⟩
          case measure => simp [intOf]; omega
set_option maxRecDepth 100000 in
set_option maxHeartbeats 8000000 in
theorem rway_o (r : Addr) (F : Nat → Prop) (c : Cfg) (sts : List LS) (k : Int) (w : World) (h : DK w r F c sts) (hin : ∀ n i : Int, -9223372036854775808 ≤ spV c sts n i ∧ spV c sts n i ≤ 9223372036854775807) (k0 : -9223372036854775808 ≤ k) (k1 : k ≤ 9223372036854775807) (h1 : 1 ≤ k) (h2 : k ≤ spV c sts c.bt 0) (hw : wayQ (fun L i => spV c sts (L : Int) i) c.bt.toNat 0 k = none) :
    Calls Tryz.prog 102 #[.pointer (some r), .int .i64 k] w fun e w' => ∃ (A : Option Addr) (n cap : Nat), e = .returned (.tuple #[.slice A n cap, .int .i64 (qnC c (fun L i => spV c sts (L : Int) i) k)]) ∧ (pcT A n cap (ints (qnL c (fun L i => spV c sts (L : Int) i) k))).I w' ∧ Below w.heap.size w w' := by
  have hr := h.right.1
  have hbt := hr.1
  have hbt2 := hr.2.1
  have etop : spV c sts ((c.bt.toNat : Nat) : Int) 0 = spV c sts c.bt 0 := by
    rw [show ((c.bt.toNat : Nat) : Int) = c.bt by omega]
  have hq := qn_over (c := c) (pt := (fun L i => spV c sts (L : Int) i)) h1 (by rw [etop]; exact h2) hw
  rw [hq.1, hq.2.1]
  obtain ⟨b, rfl, d0, dlt⟩ := dk_bt h
  have CTT := Lib.hid (fun w hs => dk_total ⟨b, 0, none⟩ F c sts w hs)
  have CPT := Lib.hid (fun n i w hs n0 n1 i0 i1 => dk_point ⟨b, 0, none⟩ F c sts n i w hs n0 n1 i0 i1)
  have HD := Lib.hid h
  have HIN := Lib.hid hin
  have HW := Lib.hid hw
  obtain ⟨TT, hTT⟩ : ∃ T, spV c sts c.bt 0 = T := ⟨_, rfl⟩
  rw [hTT] at CTT h2
  obtain ⟨BB, hBB⟩ : ∃ B, c.bt.toNat = B := ⟨_, rfl⟩
  rw [hBB] at HW
  have hcb : c.bt = (BB : Int) := by omega
  have hb59 : BB ≤ 59 := by omega
  rw [hcb] at d0
  have HB59 := Lib.hid hb59
  have f1 : decide (k < 1) = false := decide_eq_false (by omega)
  have f2 : decide (TT < k) = false := decide_eq_false (by omega)
  have f3 : ¬ k < 1 := by omega
  have f4 : ¬ TT < k := by omega
  have H1 := Lib.hid h1
  have K1 := Lib.hid k1
  have hwr : IntKind.i64.wrap ((BB : Int) - 1) = (BB : Int) - 1 := IntWalk.i64_in _ ⟨by omega, by omega⟩
  have hwr2 : wrap64 ((BB : Int) - 1) = (BB : Int) - 1 := IntWalk.wrap64_in _ ⟨by omega, by omega⟩
  obtain ⟨i0, hi_, hz0, hz1, hz2⟩ := info_parts pc_info
  have dd := Lib.hid (fun (w1 : World) (hb : Below w.heap.size w w1) => cell_up d0 hb)
  clear h hin hw hq etop hr hbt hbt2 hTT hBB hcb h1 h2 k0 k1
  go_enter Tryz.func102, Tryz.ntmps102
  go_wp2_with (go_at_call 131; (with_reducible refine (CTT.out _ HD.out).mono ?_); rintro e w4 ⟨rfl, hb⟩; have HB4 := Lib.hid hb; have d4 := dd.out _ hb; have dl4 := cell_lt d4; clear hb)
  have HB5 : Hid (Below w.heap.size w (w4.alloc (.cells #[.int .i64 (BB : Int), .int .u64 0] 82))) := Lib.hid (Lw.below_alloc HB4.out _)
  have HO5 : Hid ((w4.alloc (.cells #[.int .i64 (BB : Int), .int .u64 0] 82)).ownsRow w.heap.size 82 2 (.slice (some ⟨w4.heap.size, 0, none⟩) 1 1) 1 [.int .i64 (BB : Int), .int .u64 0]) := Lib.hid (own_pc1 w4 (BB : Int) 0 w.heap.size HB4.out.size)
  clear f1 f2 f3 f4 d0 d4 dlt dd dl4
  go_loopw [1, 6, 7, 8] (fun kv ov yv lv wr => ∃ (L i : Nat) (kk : Int) (xs : List (Nat × Nat)), L ≤ BB ∧ kv = .int .i64 kk ∧ yv = .int .u64 (i : Int) ∧ lv = .int .i64 ((L : Int) - 1) ∧ wr.ownsRow w.heap.size 82 2 ov (xs.length + 1) (flatP (ints (xs ++ [(L, i)]))) ∧ xs.length + L = BB ∧ wayQ (fun L i => spV c sts (L : Int) i) BB 0 k = (wayQ (fun L i => spV c sts (L : Int) i) L i kk).map (fun l => xs ++ l) ∧ i < 2 ^ (BB - L) ∧ 1 ≤ kk ∧ kk ≤ 9223372036854775807 ∧ Below w.heap.size w wr) (fun _ _ _ lv _ => (intOf lv + 1).toNat)
  case atStart => exact ⟨BB, 0, k, [], Nat.le_refl _, rfl, rfl, rfl, HO5.out, by simp, by simp, Nat.two_pow_pos _, H1.out, K1.out, HB5.out⟩
  case round =>
    obtain ⟨L, i, kk, xs, hL, rfl, rfl, rfl, hown, hxl, hwy, hi, hk1, hk2, hbw⟩ := hrel
    have HOWN := Lib.hid hown
    have HBWR := Lib.hid hbw
    have HWY := Lib.hid hwy
    have HDR := Lib.hid (HD.out.up hbw)
    clear hown hbw hwy hwr hwr2
    cases L with
    | zero =>
      exfalso
      have h := HWY.out
      rw [HW.out] at h
      cases h
    | succ L =>
      have e1 : ((L + 1 : Nat) : Int) - 1 = (L : Int) := by omega
      rw [e1]
      have hpw : BB - L = (BB - (L + 1)) + 1 := by omega
      have hp59 : 2 ^ (BB - L) ≤ 2 ^ 59 := Nat.pow_le_pow_right (by omega) (by omega)
      have e59 : (2 : Nat) ^ 59 = 576460752303423488 := rfl
      have hi2 : 2 * i + 1 < 2 ^ (BB - L) := by rw [hpw, Nat.pow_succ]; omega
      have HI2 := Lib.hid hi2
      obtain ⟨I2, hI2⟩ : ∃ I2, 2 * i = I2 := ⟨_, rfl⟩
      have HEI := Lib.hid hI2
      have hvb := HIN.out (L : Int) (I2 : Int)
      have CPJ := Lib.hid (fun w hs => CPT.out (L : Int) (I2 : Int) w hs (by omega) (by omega) (by omega) (by omega))
      have HSTEP := Lib.hid (show ∀ VV, spV c sts (L : Int) (I2 : Int) = VV → (kk ≤ VV → wayQ (fun L i => spV c sts (L : Int) i) (L + 1) i kk = (wayQ (fun L i => spV c sts (L : Int) i) L I2 kk).map (fun l => (L + 1, i) :: l)) ∧ (¬ kk ≤ VV → Wid.fit64 (kk - VV) = true → wayQ (fun L i => spV c sts (L : Int) i) (L + 1) i kk = (wayQ (fun L i => spV c sts (L : Int) i) L (I2 + 1) (kk - VV)).map (fun l => (L + 1, i) :: l)) ∧ (¬ kk ≤ VV → Wid.fit64 (kk - VV) = false → wayQ (fun L i => spV c sts (L : Int) i) (L + 1) i kk = none) from by
        intro VV hV
        subst hI2
        subst hV
        exact ⟨fun h => wayQ_left h, fun h h2 => wayQ_right h h2, fun h h2 => wayQ_none h h2⟩)
      obtain ⟨VV, hVV⟩ : ∃ v, spV c sts (L : Int) (I2 : Int) = v := ⟨_, rfl⟩
      obtain ⟨VC, hVC⟩ : ∃ v, spC c sts (L : Int) (I2 : Int) = v := ⟨_, rfl⟩
      rw [hVV, hVC] at CPJ
      rw [hVV] at hvb
      have HST := Lib.hid (HSTEP.out VV hVV)
      have f1 : 0 ≤ (L : Int) := by omega
      have f2 : IntKind.u64.wrap ((i : Int) * 2) = (I2 : Int) := by rw [IntKind.wrap_u64]; omega
      have f3 : wrap64 ((L : Int) - 1) = (L : Int) - 1 := IntWalk.wrap64_in _ ⟨by omega, by omega⟩
      have HXL : Hid (xs.length + 1 + L = BB) := Lib.hid (by omega)
      have HK := Lib.hid (And.intro hk1 hk2)
      have HLB : Hid (L ≤ BB) := Lib.hid (by omega)
      have HFL : Hid (∀ J : Nat, flatP (ints ((xs ++ [(L + 1, i)]) ++ [(L, J)])) = flatP (ints (xs ++ [(L + 1, i)])) ++ [.int .i64 (L : Int), .int .u64 (J : Int)]) := Lib.hid (fun J => by rw [ints_app]; exact flatP_snoc _ _)
      have hxl2 : xs.length + 1 ≤ 60 := by omega
      clear HSTEP hVV hVC e1 hpw hp59 e59 hi2 hI2 hi hxl hL
      by_cases hle : kk ≤ VV
      · have g1 : decide (VV < kk) = false := decide_eq_false (by omega)
        have g2 : ¬ VV < kk := by omega
        have HLE := Lib.hid hle
        clear hle hk1 hk2 hvb
        go_wp2_with (first
          | (at_builtin; go_must (refine wpList_append_lies _ rfl _ _ 118 rfl w.heap.size 82 i0 (.agg #[.int .i64 0, .int .u64 0]) 2 16 pcs_u hi_ hz0 hz1 hz2 rfl (by decide) _ _ _ rfl ((own2_up' HOWN.out HBX.out).alloc _) ⟨_, 0, none⟩ 1 1 [.int .i64 (L : Int), .int .u64 (I2 : Int)] rfl rfl (pc_news (pc_alloc (by simp))) (pc_one _ _) (by decide) (by unfold maxLen; omega) (by omega) (by simp; have := HBW.out.size; omega) _ rfl ?_); intro g7 cap7 w7 hown7 hgrow7 hat7 hlt7)
          | (go_at_call 56; (with_reducible refine (CPJ.out _ HDR.out).mono ?_); rintro e wp ⟨rfl, hb⟩; have HBX := Lib.hid hb; have HBW := Lib.hid (HBWR.out.trans (hb.mono HBWR.out.size)); clear hb))
        go_roundw
        case rel => exact ⟨L, I2, kk, xs ++ [(L + 1, i)], HLB.out, rfl, rfl, by go_num, by rw [HFL.out, List.length_append]; exact hown7, by rw [List.length_append]; exact HXL.out, way_push HWY.out (HST.out.1 HLE.out), by have := HI2.out; have := HEI.out; omega, HK.out.1, HK.out.2, (HBW.out.alloc HBW.out.size _).grown hgrow7 (by simp; have := HBW.out.size; omega) (fun x hx => own_ge HOWN.out x hx)⟩
        case measure => simp [intOf]; omega
      · have g1 : decide (VV < kk) = true := decide_eq_true (by omega)
        have g2 : VV < kk := by omega
        have HNE := Lib.hid hle
        have em : kk + -VV = kk - VV := by omega
        have HEM := Lib.hid em
        have CM1 := Lib.hid (fun w => Wid.rofint_any kk w (by omega) hk2)
        have CM2 := Lib.hid (fun w => Wid.rofint_any VV w hvb.1 hvb.2)
        have CM3 := Lib.hid (fun w => Wid.rminus_any VV _ _ _ _ _ _ _ _ _ _ w rfl)
        have CM4 := Lib.hid (fun w => Wid.rplus_any kk (-VV) _ _ _ _ _ _ _ _ _ _ _ _ _ _ _ _ _ _ _ _ w rfl rfl)
        have CM5 := Lib.hid (fun w => Wid.rint_any (kk + -VV) _ _ _ _ _ _ _ _ _ _ w rfl (by omega) (by omega))
        rw [show Wid.f64 (kk + -VV) = Wid.f64 (kk - VV) by rw [em], show Wid.fit64 (kk + -VV) = Wid.fit64 (kk - VV) by rw [em]] at CM5
        cases hfit : Wid.fit64 (kk - VV) with
        | false =>
          have e6 : Wid.f64 (kk - VV) = 0 := by unfold Wid.f64; rw [hfit]; rfl
          rw [hfit, e6] at CM5
          clear hle hk1 hk2 hvb em hfit e6
          go_wp2_with (first
            | (go_at_call 58; (with_reducible refine (CM1.out _).mono ?_); rintro e wa ⟨rfl, hb⟩; have HBa := Lib.hid (HBW.out.trans (hb.mono HBW.out.size)); clear hb)
            | (go_at_call 58; (with_reducible refine (CM2.out _).mono ?_); rintro e wb ⟨rfl, hb⟩; have HBb := Lib.hid (HBa.out.trans (hb.mono HBa.out.size)); clear hb)
            | (go_at_call 61; (with_reducible refine (CM3.out _).mono ?_); rintro e wc ⟨rfl, hb⟩; have HBc := Lib.hid (HBb.out.trans (hb.mono HBb.out.size)); clear hb)
            | (go_at_call 60; (with_reducible refine (CM4.out _).mono ?_); rintro e wd ⟨rfl, hb⟩; have HBd := Lib.hid (HBc.out.trans (hb.mono HBc.out.size)); clear hb)
            | (go_at_call 62; (with_reducible refine (CM5.out _).mono ?_); rintro e we ⟨rfl, hb⟩; have HBe := Lib.hid (HBd.out.trans (hb.mono HBd.out.size)); clear hb)
            | (go_at_call 56; (with_reducible refine (CPJ.out _ HDR.out).mono ?_); rintro e wp ⟨rfl, hb⟩; have HBX := Lib.hid hb; have HBW := Lib.hid (HBWR.out.trans (hb.mono HBWR.out.size)); clear hb)
          )
          refine bodyPost_ret (v := .tuple #[.slice none 0 0, .int .i64 4]) (by simp [results, Tryz.results102, go_sem]) rfl ?_
          exact ⟨none, 0, 0, rfl, pcT_nil _ _ (fun a e => by cases e), HBe.out⟩
        | true =>
          have e6 : Wid.f64 (kk - VV) = kk - VV := by unfold Wid.f64; rw [hfit]; rfl
          rw [hfit, e6] at CM5
          have hfb := of_decide_eq_true hfit
          have HRT := Lib.hid (HST.out.2.1 hle hfit)
          have HKB : Hid (1 ≤ kk - VV ∧ kk - VV ≤ 9223372036854775807) := Lib.hid ⟨by omega, by omega⟩
          obtain ⟨KN, hKN⟩ : ∃ v, kk - VV = v := ⟨_, rfl⟩
          rw [hKN] at CM5 HRT HKB
          have f4 : IntKind.u64.wrap ((I2 : Int) + 1) = (I2 : Int) + 1 := by rw [IntKind.wrap_u64]; have := HI2.out; have := HEI.out; have := Nat.pow_le_pow_right (show 0 < 2 by omega) (show BB - L ≤ 59 by omega); have e59 : (2 : Nat) ^ 59 = 576460752303423488 := rfl; omega
          have f5 : ((I2 + 1 : Nat) : Int) = (I2 : Int) + 1 := by omega
          clear hle hk1 hk2 hvb em hfit e6 hfb hKN
          go_wp2_with (first
            | (at_builtin; go_must (refine wpList_append_lies _ rfl _ _ 118 rfl w.heap.size 82 i0 (.agg #[.int .i64 0, .int .u64 0]) 2 16 pcs_u hi_ hz0 hz1 hz2 rfl (by decide) _ _ _ rfl ((own2_up' HOWN.out HRe.out).alloc _) ⟨_, 0, none⟩ 1 1 [.int .i64 (L : Int), .int .u64 ((I2 : Int) + 1)] rfl rfl (pc_news (pc_alloc (by simp))) (pc_one _ _) (by decide) (by unfold maxLen; omega) (by omega) (by simp; have := HBe.out.size; omega) _ rfl ?_); intro g7 cap7 w7 hown7 hgrow7 hat7 hlt7)
            | (go_at_call 58; (with_reducible refine (CM1.out _).mono ?_); rintro e wa ⟨rfl, hb⟩; have HBa := Lib.hid (HBW.out.trans (hb.mono HBW.out.size)); have HRa := Lib.hid (HBX.out.trans (hb.mono HBX.out.size)); clear hb)
            | (go_at_call 58; (with_reducible refine (CM2.out _).mono ?_); rintro e wb ⟨rfl, hb⟩; have HBb := Lib.hid (HBa.out.trans (hb.mono HBa.out.size)); have HRb := Lib.hid (HRa.out.trans (hb.mono HRa.out.size)); clear hb)
            | (go_at_call 61; (with_reducible refine (CM3.out _).mono ?_); rintro e wc ⟨rfl, hb⟩; have HBc := Lib.hid (HBb.out.trans (hb.mono HBb.out.size)); have HRc := Lib.hid (HRb.out.trans (hb.mono HRb.out.size)); clear hb)
            | (go_at_call 60; (with_reducible refine (CM4.out _).mono ?_); rintro e wd ⟨rfl, hb⟩; have HBd := Lib.hid (HBc.out.trans (hb.mono HBc.out.size)); have HRd := Lib.hid (HRc.out.trans (hb.mono HRc.out.size)); clear hb)
            | (go_at_call 62; (with_reducible refine (CM5.out _).mono ?_); rintro e we ⟨rfl, hb⟩; have HBe := Lib.hid (HBd.out.trans (hb.mono HBd.out.size)); have HRe := Lib.hid (HRd.out.trans (hb.mono HRd.out.size)); clear hb)
            | (go_at_call 56; (with_reducible refine (CPJ.out _ HDR.out).mono ?_); rintro e wp ⟨rfl, hb⟩; have HBX := Lib.hid hb; have HBW := Lib.hid (HBWR.out.trans (hb.mono HBWR.out.size)); clear hb))
          go_roundw
          case rel => exact ⟨L, I2 + 1, KN, xs ++ [(L + 1, i)], HLB.out, rfl, rfl, by go_num, by rw [HFL.out, List.length_append]; exact hown7, by rw [List.length_append]; exact HXL.out, way_push HWY.out HRT.out, by have := HI2.out; have := HEI.out; omega, HKB.out.1, HKB.out.2, (HBe.out.alloc HBe.out.size _).grown hgrow7 (by simp; have := HBe.out.size; omega) (fun x hx => own_ge HOWN.out x hx)⟩
          case measure => simp [intOf]; omega
theorem qtop {c : Cfg} (hr : IsRight c) (sts : List LS) : spV c sts ((c.bt.toNat : Nat) : Int) 0 = spV c sts c.bt 0 := by
  have hbt := hr.1
  rw [show ((c.bt.toNat : Nat) : Int) = c.bt by omega]
set_option maxRecDepth 100000 in
set_option maxHeartbeats 4000000 in
theorem rway_r (r : Addr) (F : Nat → Prop) (c : Cfg) (sts : List LS) (k : Int) (w : World) (h : DK w r F c sts) (hin : ∀ n i : Int, -9223372036854775808 ≤ spV c sts n i ∧ spV c sts n i ≤ 9223372036854775807) (k0 : -9223372036854775808 ≤ k) (k1 : k ≤ 9223372036854775807) (h1 : k < 1 ∨ spV c sts c.bt 0 < k) :
    Calls Tryz.prog 102 #[.pointer (some r), .int .i64 k] w fun e w' => ∃ (A : Option Addr) (n cap : Nat), e = .returned (.tuple #[.slice A n cap, .int .i64 (qnC c (fun L i => spV c sts (L : Int) i) k)]) ∧ (pcT A n cap (ints (qnL c (fun L i => spV c sts (L : Int) i) k))).I w' ∧ Below w.heap.size w w' := by
  have hq := qn_rank (c := c) (pt := (fun L i => spV c sts (L : Int) i)) (k := k) (by rw [qtop h.right.1 sts]; exact h1)
  rw [hq.1, hq.2.1]
  have CTT := Lib.hid (fun w hs => dk_total r F c sts w hs)
  have HD := Lib.hid h
  obtain ⟨TT, hTT⟩ : ∃ T, spV c sts c.bt 0 = T := ⟨_, rfl⟩
  rw [hTT] at CTT h1
  by_cases h2 : k < 1
  · have f1 : decide (k < 1) = true := decide_eq_true h2
    clear h hin k0 k1 h1 hq hTT
    go_enter Tryz.func102, Tryz.ntmps102
    go_wp2
    refine bodyPost_ret (v := .tuple #[.slice none 0 0, .int .i64 6]) (by simp [results, Tryz.results102, go_sem]) rfl ?_
    exact ⟨none, 0, 0, rfl, pcT_nil _ _ (fun a e => by cases e), Below.refl _ _⟩
  · have h3 : TT < k := by omega
    have f1 : decide (k < 1) = false := decide_eq_false h2
    have f2 : decide (TT < k) = true := decide_eq_true h3
    clear h hin k0 k1 h1 hq hTT
    go_enter Tryz.func102, Tryz.ntmps102
    go_wp2_with (go_at_call 131; (with_reducible refine (CTT.out _ HD.out).mono ?_); rintro e w4 ⟨rfl, hb⟩; have HB4 := Lib.hid hb; clear hb)
    refine bodyPost_ret (v := .tuple #[.slice none 0 0, .int .i64 6]) (by simp [results, Tryz.results102, go_sem]) rfl ?_
    exact ⟨none, 0, 0, rfl, pcT_nil _ _ (fun a e => by cases e), HB4.out⟩
theorem rway_any (r : Addr) (F : Nat → Prop) (c : Cfg) (sts : List LS) (k : Int) (w : World) (h : DK w r F c sts) (hin : ∀ n i : Int, -9223372036854775808 ≤ spV c sts n i ∧ spV c sts n i ≤ 9223372036854775807) (k0 : -9223372036854775808 ≤ k) (k1 : k ≤ 9223372036854775807) :
    Calls Tryz.prog 102 #[.pointer (some r), .int .i64 k] w fun e w' => ∃ (A : Option Addr) (n cap : Nat), e = .returned (.tuple #[.slice A n cap, .int .i64 (qnC c (fun L i => spV c sts (L : Int) i) k)]) ∧ (pcT A n cap (ints (qnL c (fun L i => spV c sts (L : Int) i) k))).I w' ∧ Below w.heap.size w w' := by
  by_cases h1 : k < 1 ∨ spV c sts c.bt 0 < k
  · exact rway_r r F c sts k w h hin k0 k1 h1
  · cases hw : wayQ (fun L i => spV c sts (L : Int) i) c.bt.toNat 0 k with
    | none => exact rway_o r F c sts k w h hin k0 k1 (by omega) (by omega) hw
    | some lw => exact rway_s r F c sts k w h hin k0 k1 (by omega) (by omega) lw hw
set_option maxRecDepth 100000 in
set_option maxHeartbeats 4000000 in
theorem rquant_no (r : Addr) (F : Nat → Prop) (c : Cfg) (sts : List LS) (k : Int) (w : World) (h : DK w r F c sts) (hin : ∀ n i : Int, -9223372036854775808 ≤ spV c sts n i ∧ spV c sts n i ≤ 9223372036854775807) (k0 : -9223372036854775808 ≤ k) (k1 : k ≤ 9223372036854775807) (hne : qnC c (fun L i => spV c sts (L : Int) i) k ≠ 0) :
    Calls Tryz.prog 67 #[.pointer (some r), .int .i64 k] w fun e w' => e = .returned (.tuple #[.int .u64 (qnV c (fun L i => spV c sts (L : Int) i) k), .int .i64 (qnC c (fun L i => spV c sts (L : Int) i) k)]) ∧ Below w.heap.size w w' := by
  have hv : qnV c (fun L i => spV c sts (L : Int) i) k = 0 := by unfold qnV qnL; rw [if_neg hne]; rfl
  rw [hv]
  have CW := Lib.hid (fun w hs => rway_any r F c sts k w hs hin k0 k1)
  have HD := Lib.hid h
  obtain ⟨E, hE⟩ : ∃ E, qnC c (fun L i => spV c sts (L : Int) i) k = E := ⟨_, rfl⟩
  rw [hE] at CW hne ⊢
  have h0b : (E == 0) = false := by simpa using hne
  have h0c : (E != 0) = true := by simpa using hne
  clear h hin k0 k1 hv hE
  go_enter Tryz.func67, Tryz.ntmps67
  go_wp2_with (go_at_call 102; (with_reducible refine (CW.out _ HD.out).mono ?_); rintro e w1 ⟨A1, n1, cap1, rfl, hI, hb⟩; have HB1 := Lib.hid hb; clear hb hI)
  refine bodyPost_ret (v := .tuple #[.int .u64 0, .int .i64 E]) (by simp [results, Tryz.results67, go_sem]) rfl ?_
  exact ⟨rfl, HB1.out⟩
set_option maxRecDepth 100000 in
set_option maxHeartbeats 4000000 in
theorem rquant_yes (r : Addr) (F : Nat → Prop) (c : Cfg) (sts : List LS) (k : Int) (w : World) (h : DK w r F c sts) (hin : ∀ n i : Int, -9223372036854775808 ≤ spV c sts n i ∧ spV c sts n i ≤ 9223372036854775807) (k0 : -9223372036854775808 ≤ k) (k1 : k ≤ 9223372036854775807) (lw : List (Nat × Nat)) (hc : qnC c (fun L i => spV c sts (L : Int) i) k = 0) (hl : qnL c (fun L i => spV c sts (L : Int) i) k = lw) (hp : Path c.bt.toNat 0 lw) :
    Calls Tryz.prog 67 #[.pointer (some r), .int .i64 k] w fun e w' => e = .returned (.tuple #[.int .u64 (qnV c (fun L i => spV c sts (L : Int) i) k), .int .i64 (qnC c (fun L i => spV c sts (L : Int) i) k)]) ∧ Below w.heap.size w w' := by
  have hv : qnV c (fun L i => spV c sts (L : Int) i) k = ((keyQ lw : Nat) : Int) := by unfold qnV; rw [hl]
  rw [hv, hc]
  have hr := h.right.1
  have hbt := hr.1
  have hbt2 := hr.2.1
  have CW := Lib.hid (fun w hs => rway_any r F c sts k w hs hin k0 k1)
  rw [hc, hl] at CW
  have HD := Lib.hid h
  have HP := Lib.hid hp
  obtain ⟨BB, hBB⟩ : ∃ B, c.bt.toNat = B := ⟨_, rfl⟩
  rw [hBB] at HP
  have hb59 : BB ≤ 59 := by omega
  clear h hin k0 k1 hv hc hl hp hr hbt hbt2 hBB
  go_enter Tryz.func67, Tryz.ntmps67
  go_upto_region 4 with (go_at_call 102; (with_reducible refine (CW.out _ HD.out).mono ?_); rintro e w1 ⟨A1, n1, cap1, rfl, hI, hb⟩; have HB1 := Lib.hid hb; have HI := Lib.hid hI; clear hb hI)
  have hln := (pcI HI.out).len
  rw [ints_len, HP.out.len] at hln
  subst hln
  obtain ⟨ab, g1, o1, rfl, hadd1, d1, d2, kb, db⟩ := (pcI HI.out).at (ints_get HP.out.last)
  simp only at d1 d2 kb db
  have f2 : IntKind.i64.wrap (BB : Int) = (BB : Int) := IntWalk.i64_in _ ⟨by omega, by omega⟩
  have f3 : wrap64 (BB : Int) = (BB : Int) := IntWalk.wrap64_in _ ⟨by omega, by omega⟩
  have f6 : (BB : Int) < (BB : Int) + 1 := by omega
  have f8 : ¬ (BB : Int) < 0 := by omega
  clear kb db
  go_wp2
  refine bodyPost_ret (v := .tuple #[.int .u64 ((keyQ lw : Nat) : Int), .int .i64 0]) (by simp [results, Tryz.results67, go_sem]) rfl ?_
  exact ⟨rfl, HB1.out⟩
theorem rquant_any (r : Addr) (F : Nat → Prop) (c : Cfg) (sts : List LS) (k : Int) (w : World) (h : DK w r F c sts) (hin : ∀ n i : Int, -9223372036854775808 ≤ spV c sts n i ∧ spV c sts n i ≤ 9223372036854775807) (k0 : -9223372036854775808 ≤ k) (k1 : k ≤ 9223372036854775807) :
    Calls Tryz.prog 67 #[.pointer (some r), .int .i64 k] w fun e w' => e = .returned (.tuple #[.int .u64 (qnV c (fun L i => spV c sts (L : Int) i) k), .int .i64 (qnC c (fun L i => spV c sts (L : Int) i) k)]) ∧ Below w.heap.size w w' := by
  by_cases hne : qnC c (fun L i => spV c sts (L : Int) i) k = 0
  · have hw : ∃ lw, wayQ (fun L i => spV c sts (L : Int) i) c.bt.toNat 0 k = some lw ∧ 1 ≤ k ∧ k ≤ spV c sts ((c.bt.toNat : Nat) : Int) 0 := by
      unfold qnC at hne
      split at hne
      · cases hne
      · rename_i hn
        split at hne
        · rename_i hs
          obtain ⟨lw, hlw⟩ := Option.isSome_iff_exists.1 hs
          have hn2 : ¬ (k < 1 ∨ spV c sts ((c.bt.toNat : Nat) : Int) 0 < k) := hn
          exact ⟨lw, hlw, by omega, by omega⟩
        · cases hne
    obtain ⟨lw, h1, h2, h3⟩ := hw
    exact rquant_yes r F c sts k w h hin k0 k1 lw hne (qn_yes h2 h3 h1).2.1 (wayQ_path h1)
  · exact rquant_no r F c sts k w h hin k0 k1 hne
end Go.Proofs.YtkflggojiiebeaaGreat.Qnt

namespace Go.Proofs.YtkflggojiiebeaaGreat.Smr
open Go Go.RowKit Lw Grd Lin Con Shp Sk Exa Lev Stk Pcs Spn Qnt Hvy
set_option linter.unusedVariables false
set_option linter.unusedSimpArgs false
set_option maxRecDepth 100000 in
set_option maxHeartbeats 4000000 in
theorem rquants (r : Addr) (G : Nat → Prop) (c : Cfg) (sts : List LS) (A : Option Addr) (n cap : Nat) (ks : List Int) (w : World) (h : DK w r G c sts) (hin : ∀ n i : Int, -9223372036854775808 ≤ spV c sts n i ∧ spV c sts n i ≤ 9223372036854775807) (hrd : Rd .i64 w A ks) (hl : ks.length = n) (hz : In64 ks) (hn : n ≤ 4096) :
    Calls Tryz.prog 29 #[.pointer (some r), .slice A n cap] w fun e w' => ∃ (A2 : Option Addr) (n2 cap2 : Nat), e = .returned (.tuple #[.slice A2 n2 cap2, .int .i64 (manyC (qnF c (fun L i => spV c sts (L : Int) i)) ks)]) ∧ w'.ownsRow w.heap.size 22 1 (.slice A2 n2 cap2) n2 ((manyL (qnF c (fun L i => spV c sts (L : Int) i)) ks).map (Value.int .u64)) ∧ (manyL (qnF c (fun L i => spV c sts (L : Int) i)) ks).length = n2 ∧ Below w.heap.size w w' := by
  have HD := Lib.hid h
  have HIN := Lib.hid hin
  have HZ := Lib.hid hz
  have HRD := Lib.hid hrd
  have HL := Lib.hid hl
  have HN := Lib.hid hn
  obtain ⟨i0, hi_, hz0, hz1, hz2⟩ := info_parts u64_info
  have HV0 : Hid (Have w (w.alloc (.cells #[] 22)) [ownK w.heap.size 22 1 (.slice (some ⟨w.heap.size, 0, none⟩) 0 0) 0 []]) := Lib.hid ((Have.nil w).push (ownK w.heap.size 22 1 (.slice (some ⟨w.heap.size, 0, none⟩) 0 0) 0 []) (Lw.below_alloc (Below.refl _ _) _) (own_empty w 22 1 w.heap.size (Nat.le_refl _)) (fun k hk => by have : some w.heap.size = some k := hk; injection this with this; omega))
  clear h hin hz hn hrd hl
  go_enter Tryz.func29, Tryz.ntmps29
  go_wp2
  go_loopw [6, 7] (fun av iv wr => ∃ (t : Nat), t ≤ n ∧ iv = .int .i64 (t : Int) ∧ (∀ q ∈ ks.take t, ((qnF c (fun L i => spV c sts (L : Int) i)) q).2 = 0) ∧ Have w wr [ownK w.heap.size 22 1 av t (((ks.take t).map (fun q => ((qnF c (fun L i => spV c sts (L : Int) i)) q).1)).map (Value.int .u64))]) (fun _ iv _ => n - (intOf iv).toNat)
  case atStart => exact ⟨0, Nat.zero_le _, rfl, fun q hq => by simp at hq, HV0.out⟩
  case round =>
    obtain ⟨t, ht, rfl, hok, hv⟩ := hrel
    have HVr := Lib.hid hv
    have HOK := Lib.hid hok
    clear hv hok
    by_cases hlt : t < n
    · have lt0 : (0 : Int) ≤ (t : Int) := by omega
      have lt1 : (t : Int) < (n : Int) := by omega
      obtain ⟨q, hq⟩ : ∃ q, ks[t]? = some q := ⟨_, List.getElem?_eq_getElem (by rw [HL.out]; exact hlt)⟩
      have HQ := Lib.hid hq
      have hzq := HZ.out q (List.mem_of_getElem? hq)
      obtain ⟨V, hV⟩ : ∃ v, ((qnF c (fun L i => spV c sts (L : Int) i)) q).1 = v := ⟨_, rfl⟩
      obtain ⟨E, hE⟩ : ∃ v, ((qnF c (fun L i => spV c sts (L : Int) i)) q).2 = v := ⟨_, rfl⟩
      have HVE := Lib.hid (And.intro hV hE)
      obtain ⟨ad, rfl, hcz⟩ := HRD.out _ _ hq
      have d1 := cell_up hcz HVr.out.below
      have CC : Hid (∀ w9, DK w9 r G c sts → Calls Tryz.prog 67 #[.pointer (some r), .int .i64 q] w9 fun e w' => e = .returned (.tuple #[.int .u64 V, .int .i64 E]) ∧ Below w9.heap.size w9 w') := Lib.hid (fun w9 h1 => by rw [← hV, ← hE]; exact rquant_any r G c sts q w9 h1 HIN.out hzq.1 hzq.2)
      clear hq hcz hV hE hzq
      by_cases hE0 : E = 0
      · subst hE0
        have HNX := Lib.hid (all_next (p := fun q => ((qnF c (fun L i => spV c sts (L : Int) i)) q).2 = 0) HQ.out HOK.out HVE.out.2)
        have HTK : Hid ((((ks.take (t + 1)).map (fun q => ((qnF c (fun L i => spV c sts (L : Int) i)) q).1)).map (Value.int .u64)) = (((ks.take t).map (fun q => ((qnF c (fun L i => spV c sts (L : Int) i)) q).1)).map (Value.int .u64)) ++ [.int .u64 V]) := Lib.hid (by rw [take_next HQ.out, List.map_append, List.map_append]; show _ ++ [Value.int .u64 ((qnF c (fun L i => spV c sts (L : Int) i)) _).1] = _; rw [HVE.out.1])
        go_upto_region 8 with (go_at_call 67; (with_reducible refine (CC.out _ (HD.out.up HVr.out.below)).mono ?_); rintro e w5 ⟨rfl, hb⟩; have HV5 := Lib.hid (HVr.out.up hb); clear hb)
        have n4 := HN.out
        go_wp2_with (at_builtin; go_must (refine wpList_append_lies _ rfl _ _ 66 rfl w.heap.size 22 i0 (.int .u64 0) 1 8 u64s_u hi_ hz0 hz1 hz2 rfl (by decide) _ _ _ rfl ((okI HV5.out.i0).alloc _) ⟨_, 0, none⟩ 1 1 [.int .u64 V] rfl rfl (World.news_of_block (heap_alloc_new w5 _)) (one_u64 _) (by decide) (by unfold maxLen; omega) (by omega) (by simp; have := HV5.out.below.size; omega) _ rfl ?_); intro g7 cap7 w7 hown7 hgrow7 hat7 hlt7)
        have HVa := Lib.hid (HV5.out.up (Lw.below_alloc (Below.refl _ w5) (.cells #[.int .u64 V] 22)))
        have HV7 := Lib.hid (turn0K HVa.out hown7 hgrow7 hat7)
        go_roundw
        case rel => exact ⟨t + 1, by omega, by go_num, HNX.out, by rw [HTK.out]; exact HV7.out.up (by repeat' (first | (with_reducible first | exact Below.refl _ _ | assumption | refine below_over ?_ _ _ | refine Lw.below_alloc ?_ _ | refine Below.drew ?_ | refine below_drewN ?_ _ | refine Below.setCell ?_ ?_ _) | go_size))⟩
        case measure => simp [intOf]; omega
      · have hE1 : ((E : Int) == 0) = false := beq_eq_false_iff_ne.2 hE0
        have hE2 : ((E : Int) != 0) = true := by simp [hE0]
        have HMA := Lib.hid (many_at HQ.out HOK.out (by rw [HVE.out.2]; exact hE0))
        have HEE := Lib.hid HVE.out.2
        go_wp2_with (go_at_call 67; (with_reducible refine (CC.out _ (HD.out.up HVr.out.below)).mono ?_); rintro e w5 ⟨rfl, hb⟩; have HV5 := Lib.hid (HVr.out.up hb); clear hb)
        refine bodyPost_ret (v := .tuple #[.slice none 0 0, .int .i64 E]) (by simp [results, Tryz.results29, go_sem]) rfl ?_
        rw [HMA.out.1, HMA.out.2, HEE.out]
        exact ⟨none, 0, 0, rfl, World.ownsRow_nil _ _ _ _, rfl, HV5.out.below⟩
    · obtain rfl : t = n := by omega
      have lt1 : ¬ (t : Int) < (t : Int) := by omega
      have et : ks.take t = ks := List.take_of_length_le (by rw [HL.out]; omega)
      rw [et] at HVr HOK
      have HMK := Lib.hid (many_ok HOK.out)
      obtain ⟨-, A2, cap2, rfl⟩ := own_formK (okI HVr.out.i0)
      go_wp2
      refine bodyPost_ret (v := .tuple #[.slice A2 t cap2, .int .i64 0]) (by simp [results, Tryz.results29, go_sem]) rfl ?_
      rw [HMK.out.1, HMK.out.2]
      exact ⟨A2, t, cap2, rfl, okI HVr.out.i0, by rw [List.length_map]; exact HL.out, HVr.out.below⟩
end Go.Proofs.YtkflggojiiebeaaGreat.Smr

namespace Go.Proofs.YtkflggojiiebeaaGreat.Smr
open Go Go.RowKit Lw Grd Lin Con Shp Sk Exa Lev Stk Pcs Spn Qnt Hvy
set_option linter.unusedVariables false
set_option linter.unusedSimpArgs false
set_option maxRecDepth 100000 in
set_option maxHeartbeats 4000000 in
theorem same_any (A B : Option Addr) (n ca cb : Nat) (xs : List Int) (w : World) (ha : Rd .u64 w A xs) (hb : Rd .u64 w B xs) (hl : xs.length = n) (hn : n ≤ 5000) :
    Calls Tryz.prog 30 #[.slice A n ca, .slice B n cb] w fun e w' => e = .returned (.bool true) ∧ Below w.heap.size w w' := by
  have HA := Lib.hid ha
  have HB := Lib.hid hb
  have HL := Lib.hid hl
  clear ha hb hl
  go_enter Tryz.func30, Tryz.ntmps30
  go_wp2
  go_loopw [5] (fun iv wr => ∃ k d : Nat, k ≤ n ∧ iv = .int .i64 k ∧ wr = w.drewN d) (fun iv _ => n - (intOf iv).toNat)
  case atStart => exact ⟨0, 0, Nat.zero_le _, rfl, rfl⟩
  case round =>
    obtain ⟨k, d, hk, rfl, rfl⟩ := hrel
    by_cases hlt : k < n
    · have lt0 : (0 : Int) ≤ (k : Int) := by omega
      have lt1 : (k : Int) < (n : Int) := by omega
      obtain ⟨x, hx⟩ : ∃ x, xs[k]? = some x := ⟨_, List.getElem?_eq_getElem (by rw [HL.out]; exact hlt)⟩
      obtain ⟨a1, rfl, x0⟩ := HA.out _ _ hx
      obtain ⟨b1, rfl, y0⟩ := HB.out _ _ hx
      clear hx
      go_wp2
      go_quiet (fail)
      go_wp2
      go_roundw
      case rel => exact ⟨k + 1, _, by omega, by go_num, rfl⟩
      case measure => simp [intOf]; omega
    · obtain rfl : k = n := by omega
      have lt1 : ¬ (k : Int) < (k : Int) := by omega
      go_wp2
      go_ret
      exact ⟨rfl, by first | exact below_drewN (Below.refl _ _) _ | exact below_drewN (below_drewN (Below.refl _ _) _) _⟩
end Go.Proofs.YtkflggojiiebeaaGreat.Smr

