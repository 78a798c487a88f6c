/- What the statements of layer 14 lean on: right and shown. Printed by wip/gen/pcslaws.py. -/
import Derived.Test.YtdhljlhecoclfaaPcsCode
import Derived.Test.YtdhljlhecoclfaaShpRef
import Derived.Test.YtdhljlhecoclfaaOrdMid
import Derived.Deep.LoopGhost
import Derived.Deep.RegionHeld3
import Derived.Deep.DeepCutAuto
import Derived.Deep.QuietTactic
import Derived.BigQuiet
namespace Go.Proofs.Ytdhljlhecoclfaa.Pcs
open Go Go.RowKit Lw
set_option linter.unusedVariables false
set_option linter.unusedSimpArgs false
theorem shl_at {b : Int} (h0 : 0 ≤ b) (h1 : b ≤ 63) : IntKind.u64.wrap (2 ^ min b.toNat 64) = p2 b.toNat := by
  have e : min b.toNat 64 = b.toNat := by omega
  rw [e]
  have h2 : ((2 : Int) ^ b.toNat) = p2 b.toNat := by unfold p2; simp
  rw [h2]
  have h3 := p2_mono (show b.toNat ≤ 63 by omega)
  have h4 : p2 63 = 9223372036854775808 := rfl
  have h5 := p2_pos b.toNat
  exact u64_in (by omega) (by omega)
set_option maxRecDepth 100000 in
theorem right_le (b x y : Int) (w : World) (X Y : Int) (N : Int) (hX : bits .and .i64 b 65535 = X) (hY : Int.tmod X 59 = Y) (hY0 : 0 ≤ Y) (hY1 : Y < 59) (hN : p2 (1 + Y).toNat = N) (hN0 : 1 ≤ N) (hN1 : N ≤ 1152921504606846976) (x0 : 0 ≤ x) (x1 : x ≤ 18446744073709551615) (y0 : 0 ≤ y) (y1 : y ≤ 18446744073709551615) (hr : Int.tmod x N ≤ Int.tmod y N) :
    Calls Try.prog 16 #[.int .i64 b, .int .u64 x, .int .u64 y] w fun e w' => e = .returned (.tuple #[.int .i64 (1 + Y), .int .u64 (Int.tmod x N), .int .u64 (Int.tmod y N)]) ∧ Below w.heap.size w w' := by
  obtain ⟨BB, hB⟩ : ∃ BB, 1 + Y = BB := ⟨_, rfl⟩
  have hw : wrap64 (1 + Y) = BB := by rw [hB]; exact IntWalk.wrap64_in _ ⟨by omega, by omega⟩
  have hw2 : IntKind.i64.wrap (1 + Y) = BB := by rw [hB]; exact IntWalk.i64_in _ ⟨by omega, by omega⟩
  have hu : IntKind.u64.wrap BB = BB := u64_in (by omega) (by omega)
  have hs : IntKind.u64.wrap (2 ^ min BB.toNat 64) = N := by rw [shl_at (by omega) (by omega), ← hB]; exact hN
  have hbn : ¬ BB < 0 := by omega
  have hnn : ¬ N = 0 := by omega
  have q0 := Int.tmod_lt_of_pos x (show 0 < N by omega)
  have q1 := Int.tmod_lt_of_pos y (show 0 < N by omega)
  have q2 := Int.tmod_nonneg N x0
  have q3 := Int.tmod_nonneg N y0
  have r1 : IntKind.u64.wrap (Int.tmod x N) = Int.tmod x N := u64_in (by omega) (by omega)
  have r2 : IntKind.u64.wrap (Int.tmod y N) = Int.tmod y N := u64_in (by omega) (by omega)
  obtain ⟨P, hP⟩ : ∃ P, Int.tmod x N = P := ⟨_, rfl⟩
  obtain ⟨Q, hQ⟩ : ∃ Q, Int.tmod y N = Q := ⟨_, rfl⟩
  rw [hP, hQ] at hr
  rw [hP] at r1
  rw [hQ] at r2
  rw [hB, hP, hQ]
  have n1 : ¬ Q < P := by omega
  clear hB hN hN0 hN1 x0 x1 y0 y1 hY0 hY1 q0 q1 q2 q3
  go_enter Try.func16, Try.ntmps16
  go_upto_region 3 with fail
  go_quiet (fail)
  all_goals go_wp2
  all_goals go_returns
  all_goals refine ⟨?_, (by repeat' (first | (with_reducible exact Below.refl _ _) | (with_reducible assumption) | (with_reducible refine below_over ?_ _ _) | (with_reducible refine Lw.below_alloc ?_ _) | (with_reducible refine Below.drew ?_) | (with_reducible refine below_drewN ?_ _) | (with_reducible refine Below.setCell ?_ ?_ _) | go_size))⟩
  all_goals first
    | rfl
    | (obtain rfl : P = Q := by omega
       rfl)
set_option maxRecDepth 100000 in
theorem right_gt (b x y : Int) (w : World) (X Y : Int) (N : Int) (hX : bits .and .i64 b 65535 = X) (hY : Int.tmod X 59 = Y) (hY0 : 0 ≤ Y) (hY1 : Y < 59) (hN : p2 (1 + Y).toNat = N) (hN0 : 1 ≤ N) (hN1 : N ≤ 1152921504606846976) (x0 : 0 ≤ x) (x1 : x ≤ 18446744073709551615) (y0 : 0 ≤ y) (y1 : y ≤ 18446744073709551615) (hr : Int.tmod y N < Int.tmod x N) :
    Calls Try.prog 16 #[.int .i64 b, .int .u64 x, .int .u64 y] w fun e w' => e = .returned (.tuple #[.int .i64 (1 + Y), .int .u64 (Int.tmod y N), .int .u64 (Int.tmod x N)]) ∧ Below w.heap.size w w' := by
  obtain ⟨BB, hB⟩ : ∃ BB, 1 + Y = BB := ⟨_, rfl⟩
  have hw : wrap64 (1 + Y) = BB := by rw [hB]; exact IntWalk.wrap64_in _ ⟨by omega, by omega⟩
  have hw2 : IntKind.i64.wrap (1 + Y) = BB := by rw [hB]; exact IntWalk.i64_in _ ⟨by omega, by omega⟩
  have hu : IntKind.u64.wrap BB = BB := u64_in (by omega) (by omega)
  have hs : IntKind.u64.wrap (2 ^ min BB.toNat 64) = N := by rw [shl_at (by omega) (by omega), ← hB]; exact hN
  have hbn : ¬ BB < 0 := by omega
  have hnn : ¬ N = 0 := by omega
  have q0 := Int.tmod_lt_of_pos x (show 0 < N by omega)
  have q1 := Int.tmod_lt_of_pos y (show 0 < N by omega)
  have q2 := Int.tmod_nonneg N x0
  have q3 := Int.tmod_nonneg N y0
  have r1 : IntKind.u64.wrap (Int.tmod x N) = Int.tmod x N := u64_in (by omega) (by omega)
  have r2 : IntKind.u64.wrap (Int.tmod y N) = Int.tmod y N := u64_in (by omega) (by omega)
  obtain ⟨P, hP⟩ : ∃ P, Int.tmod x N = P := ⟨_, rfl⟩
  obtain ⟨Q, hQ⟩ : ∃ Q, Int.tmod y N = Q := ⟨_, rfl⟩
  rw [hP, hQ] at hr
  rw [hP] at r1
  rw [hQ] at r2
  rw [hB, hP, hQ]
  have n1 : ¬ P ≤ Q := by omega
  clear hB hN hN0 hN1 x0 x1 y0 y1 hY0 hY1 q0 q1 q2 q3
  go_enter Try.func16, Try.ntmps16
  go_upto_region 3 with fail
  go_quiet (fail)
  all_goals go_wp2
  all_goals go_returns
  all_goals refine ⟨?_, (by repeat' (first | (with_reducible exact Below.refl _ _) | (with_reducible assumption) | (with_reducible refine below_over ?_ _ _) | (with_reducible refine Lw.below_alloc ?_ _) | (with_reducible refine Below.drew ?_) | (with_reducible refine below_drewN ?_ _) | (with_reducible refine Below.setCell ?_ ?_ _) | go_size))⟩
  all_goals first
    | rfl
    | (obtain rfl : P = Q := by omega
       rfl)
theorem right_any (b x y : Int) (w : World) (b0 : -9223372036854775808 ≤ b ∧ b ≤ 9223372036854775807) (x0 : 0 ≤ x) (x1 : x ≤ 18446744073709551615) (y0 : 0 ≤ y) (y1 : y ≤ 18446744073709551615) :
    Calls Try.prog 16 #[.int .i64 b, .int .u64 x, .int .u64 y] w fun e w' => ∃ (n lo hi : Nat), e = .returned (.tuple #[.int .i64 n, .int .u64 lo, .int .u64 hi]) ∧ (1 ≤ n ∧ n ≤ 59 ∧ lo ≤ hi ∧ hi < 2 ^ n) ∧ Below w.heap.size w w' := by
  obtain ⟨X, Y, a1, b1, c1, d1, e1, f1⟩ := Shp.level_of b 59 (by omega) (by omega)
  obtain ⟨N, hN⟩ : ∃ N, p2 (1 + Y).toNat = N := ⟨_, rfl⟩
  have hb := p2_bd (show (1 + Y).toNat ≤ 60 by omega)
  rw [hN] at hb
  have q0 := Int.tmod_lt_of_pos x (show 0 < N by omega)
  have q1 := Int.tmod_lt_of_pos y (show 0 < N by omega)
  have q2 := Int.tmod_nonneg N x0
  have q3 := Int.tmod_nonneg N y0
  have e2 : (((1 + Y).toNat : Nat) : Int) = 1 + Y := by omega
  have e3 : ((Int.tmod x N).toNat : Int) = Int.tmod x N := Int.toNat_of_nonneg q2
  have e4 : ((Int.tmod y N).toNat : Int) = Int.tmod y N := Int.toNat_of_nonneg q3
  have hp : N = ((2 ^ (1 + Y).toNat : Nat) : Int) := hN.symm
  by_cases hr : Int.tmod x N ≤ Int.tmod y N
  · refine (right_le b x y w X Y N a1 d1 e1 f1 hN hb.1 hb.2 x0 x1 y0 y1 hr).mono ?_
    rintro e w' ⟨rfl, hbl⟩
    exact ⟨(1 + Y).toNat, (Int.tmod x N).toNat, (Int.tmod y N).toNat, by rw [e2, e3, e4], ⟨by omega, by omega, by omega, by omega⟩, hbl⟩
  · refine (right_gt b x y w X Y N a1 d1 e1 f1 hN hb.1 hb.2 x0 x1 y0 y1 (by omega)).mono ?_
    rintro e w' ⟨rfl, hbl⟩
    exact ⟨(1 + Y).toNat, (Int.tmod y N).toNat, (Int.tmod x N).toNat, by rw [e2, e3, e4], ⟨by omega, by omega, by omega, by omega⟩, hbl⟩
instance (B lo e L : Nat) : Decidable (GL B lo e L) := by unfold GL; infer_instance
theorem cov136 : Cov 3 7 1 [(0, 1), (1, 1), (1, 2), (0, 6)] :=
  Cov.cons (by decide) (Cov.cons (by decide) (Cov.cons (by decide) (Cov.cons (by decide) Cov.nil)))
theorem c136 (w : World) : Calls Try.prog 10 #[.int .i64 3, .int .u64 1, .int .u64 6] w fun e w' => ∃ (A : Option Addr) (cap : Nat), e = .returned (.tuple #[.slice A 4 cap, .bool true]) ∧ (pcT A 4 cap [((0 : Int), (1 : Int)), (1, 1), (1, 2), (0, 6)]).I w' ∧ (∀ k, (pcT A 4 cap [((0 : Int), (1 : Int)), (1, 1), (1, 2), (0, 6)]).F k → w.heap.size ≤ k) ∧ Below w.heap.size w w' := by
  refine (ccover_any 3 1 6 w (by omega) (by omega) (by omega) (by omega) (by omega) (by omega)).mono ?_
  rintro e w' ⟨A, n, cap, l, rfl, h1, h2, h3, h4, -⟩
  obtain rfl := (h4 (by decide)).uniq cov136
  obtain rfl : n = 4 := (pcI h1).len.symm
  exact ⟨A, cap, rfl, h1, h2, h3⟩
theorem c138 (w : World) : Calls Try.prog 10 #[.int .i64 3, .int .u64 1, .int .u64 8] w fun e w' => ∃ (v : Value), e = .returned (.tuple #[v, .bool false]) ∧ Below w.heap.size w w' := by
  refine (ccover_any 3 1 8 w (by omega) (by omega) (by omega) (by omega) (by omega) (by omega)).mono ?_
  rintro e w' ⟨A, n, cap, l, rfl, h1, h2, h3, -, -⟩
  exact ⟨_, rfl, h3⟩
theorem s312 (w : World) : Calls Try.prog 13 #[.int .i64 3, .agg #[.int .i64 1, .int .u64 2]] w fun e w' => e = .returned (.tuple #[.int .u64 4, .int .u64 5, .bool true]) ∧ Below w.heap.size w w' :=
  cspan_any 3 1 2 w (by omega) (by omega) (by omega) (by omega) (by omega) (by omega)
theorem h312 (w : World) : Calls Try.prog 15 #[.int .i64 3, .agg #[.int .i64 1, .int .u64 2]] w fun e w' => e = .returned (.tuple #[.agg #[.int .i64 0, .int .u64 4], .agg #[.int .i64 0, .int .u64 5], .bool true]) ∧ Below w.heap.size w w' :=
  chalves_any 3 1 2 w (by omega) (by omega) (by omega) (by omega) (by omega) (by omega)
theorem lit4 (X : World) : PcV (X.alloc (.cells #[.int .i64 0, .int .u64 1, .int .i64 1, .int .u64 1, .int .i64 1, .int .u64 2, .int .i64 0, .int .u64 6] 30)) (some ⟨X.heap.size, 0, none⟩) 4 4 [((0 : Int), (1 : Int)), (1, 1), (1, 2), (0, 6)] := by
  have hb := heap_alloc_new X (.cells #[.int .i64 0, .int .u64 1, .int .i64 1, .int .u64 1, .int .i64 1, .int .u64 2, .int .i64 0, .int .u64 6] 30)
  have c : ∀ (i : Nat) (v : Value), (#[.int .i64 0, .int .u64 1, .int .i64 1, .int .u64 1, .int .i64 1, .int .u64 2, .int .i64 0, .int .u64 6] : Array Value)[i]? = some v → (X.alloc (.cells #[.int .i64 0, .int .u64 1, .int .i64 1, .int .u64 1, .int .i64 1, .int .u64 2, .int .i64 0, .int .u64 6] 30)).cell? ((⟨X.heap.size, 0, none⟩ : Addr).add i) = some v := fun i v hv => by
    rw [Ord.add_at, Nat.zero_add]
    exact box_cell hb hv
  refine ⟨fun h => by (cases h), Nat.le_refl _, by decide, rfl, fun i q hq => ?_⟩
  match i, hq with
  | 0, hq => cases hq; exact ⟨_, rfl, c 0 _ rfl, c 1 _ rfl, by decide, by decide⟩
  | 1, hq => cases hq; exact ⟨_, rfl, c 2 _ rfl, c 3 _ rfl, by decide, by decide⟩
  | 2, hq => cases hq; exact ⟨_, rfl, c 4 _ rfl, c 5 _ rfl, by decide, by decide⟩
  | 3, hq => cases hq; exact ⟨_, rfl, c 6 _ rfl, c 7 _ rfl, by decide, by decide⟩
theorem box2p {w : World} {b : Nat} {e : TypeId} {v0 v1 : Value} (h : (boxT b e #[v0, v1]).I w) : w.cell? ⟨b, 0, none⟩ = some v0 ∧ w.cell? ⟨b, 1, none⟩ = some v1 := ⟨box_cell h rfl, box_cell h rfl⟩
set_option maxRecDepth 100000 in
set_option maxHeartbeats 4000000 in
theorem shown_any (w : World) : Calls Try.prog 9 #[] w fun e w' => e = .returned (.bool true) ∧ Below w.heap.size w w' := by
  have HV0 : Hid (Have w w []) := Lib.hid (Below.refl _ _)
  have eq4 : decide ([((0 : Int), (1 : Int)), (1, 1), (1, 2), (0, 6)] = [((0 : Int), (1 : Int)), (1, 1), (1, 2), (0, 6)]) = true := decide_eq_true rfl
  go_enter Try.func9, Try.ntmps9
  go_wp2_with (first
    | (go_at_call 12; (with_reducible refine (psame_any _ _ _ _ _ _ _ _ _ ((pcI HV4.out.i2).up (by repeat' (first | (with_reducible exact Below.refl _ _) | (with_reducible assumption) | (with_reducible refine below_over ?_ _ _) | (with_reducible refine Lw.below_alloc ?_ _) | (with_reducible refine Below.drew ?_) | (with_reducible refine below_drewN ?_ _) | (with_reducible refine Below.setCell ?_ ?_ _) | go_size))) (lit4 _)).mono ?_); rintro e w5 ⟨rfl, hb⟩; have HV5 := Lib.hid ((HV4.out.up (by repeat' (first | (with_reducible exact Below.refl _ _) | (with_reducible assumption) | (with_reducible refine below_over ?_ _ _) | (with_reducible refine Lw.below_alloc ?_ _) | (with_reducible refine Below.drew ?_) | (with_reducible refine below_drewN ?_ _) | (with_reducible refine Below.setCell ?_ ?_ _) | go_size))).up hb); obtain ⟨a0, a1⟩ := box2p HV5.out.i0; obtain ⟨b0, b1⟩ := box2p HV5.out.i1; clear hb)
    | (go_at_call 10; (with_reducible refine (c138 _).mono ?_); rintro e w4 ⟨v, rfl, hb⟩; have HV4 := Lib.hid (HV3.out.up hb); clear hb)
    | (go_at_call 15; (with_reducible refine (h312 _).mono ?_); rintro e w3 ⟨rfl, hb⟩; have HV3 := Lib.hid (((HV2.out.up hb).push (boxT w3.heap.size 30 #[.int .i64 0, .int .u64 4]) (Lw.below_alloc (Below.refl _ _) _) (heap_alloc_new w3 _) (fun k hk => Nat.le_of_eq hk.symm)).push (boxT (w3.heap.size + 1) 30 #[.int .i64 0, .int .u64 5]) (Lw.below_alloc (Below.refl _ _) _) (by have h := heap_alloc_new (w3.alloc (.cells #[.int .i64 0, .int .u64 4] 30)) (.cells #[.int .i64 0, .int .u64 5] 30); rw [World.size_alloc] at h; exact h) (fun k hk => by rw [World.size_alloc]; exact Nat.le_of_eq hk.symm)); clear hb)
    | (go_at_call 13; (with_reducible refine (s312 _).mono ?_); rintro e w2 ⟨rfl, hb⟩; have HV2 := Lib.hid (HV1.out.up hb); clear hb)
    | (go_at_call 10; (with_reducible refine (c136 _).mono ?_); rintro e w1 ⟨A, cap, rfl, h1, h2, hb⟩; have HV1 := Lib.hid (HV0.out.push (pcT A 4 cap [((0 : Int), (1 : Int)), (1, 1), (1, 2), (0, 6)]) hb h1 h2); clear h1 h2 hb))
  go_ret
  exact ⟨ret_b (by first | rfl | (simp [*]; done)), HV5.out.below⟩
end Go.Proofs.Ytdhljlhecoclfaa.Pcs
