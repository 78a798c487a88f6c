/- Texts that statements lean on, put together: Row, SpnMath, StkHas, SpnBtw, SpnNum, SpnPt, SpanExact, SmrBt. -/
import Derived.Test.YtkflggojiiebeaaGreatVaj
namespace Go.Proofs.YtkflggojiiebeaaGreat.Lw
open Go Go.RowKit
set_option linter.unusedVariables false
theorem Apart.ne {a b : Value} (h : Apart a b) : a.ownBlock = none ∨ a.ownBlock ≠ b.ownBlock := by
  cases ha : a.ownBlock with
  | none => exact .inl rfl
  | some g => exact .inr fun e => h g ha e.symm
end Go.Proofs.YtkflggojiiebeaaGreat.Lw

namespace Go.Proofs.YtkflggojiiebeaaGreat.Spn
open Go Go.RowKit Lw Grd Lin Con Shp Sk Exa Lev Stk Pcs
set_option linter.unusedVariables false
/-- What the keys from lo on, below e, have. -/
def btw (lo e : Nat) : Ups → Int
  | [] => 0
  | u :: us => (if (lo : Int) ≤ u.1 ∧ u.1 < (e : Int) then u.2 else 0) + btw lo e us
theorem btw_add {lo m e : Nat} (h1 : lo ≤ m) (h2 : m ≤ e) : ∀ us : Ups, btw lo m us + btw m e us = btw lo e us
  | [] => rfl
  | u :: us => by
    have ih := btw_add h1 h2 us
    simp only [btw]
    by_cases a1 : (lo : Int) ≤ u.1 ∧ u.1 < (m : Int)
    · rw [if_pos a1, if_neg (by omega), if_pos (by omega)]
      omega
    · rw [if_neg a1]
      by_cases a2 : (m : Int) ≤ u.1 ∧ u.1 < (e : Int)
      · rw [if_pos a2, if_pos (by omega)]
        omega
      · rw [if_neg a2, if_neg (by omega)]
        omega
theorem btw_none (lo : Nat) : ∀ us : Ups, btw lo lo us = 0
  | [] => rfl
  | u :: us => by
    simp only [btw]
    rw [if_neg (by omega), btw_none lo us]
    rfl
theorem piece_iff {lo L : Nat} (hd : 2 ^ L ∣ lo) {k : Int} (k0 : 0 ≤ k) : upK k L = ((lo / 2 ^ L : Nat) : Int) ↔ ((lo : Int) ≤ k ∧ k < ((lo + 2 ^ L : Nat) : Int)) := by
  obtain ⟨q, rfl⟩ := hd
  obtain ⟨m, rfl⟩ : ∃ m : Nat, k = m := ⟨k.toNat, by omega⟩
  have hp : 0 < 2 ^ L := Nat.two_pow_pos L
  have e1 : upK (m : Int) L = ((m / 2 ^ L : Nat) : Int) := by
    unfold upK
    exact (Int.natCast_ediv m (2 ^ L)).symm
  rw [e1, Nat.mul_div_cancel_left q hp]
  constructor
  · intro h
    have h1 : m / 2 ^ L = q := by omega
    have h2 := Nat.div_add_mod m (2 ^ L)
    have h3 := Nat.mod_lt m hp
    rw [h1] at h2
    constructor <;> omega
  · rintro ⟨h1, h2⟩
    have h3 : m / 2 ^ L = q := by
      refine Nat.div_eq_of_lt_le ?_ ?_
      · rw [Nat.mul_comm]; omega
      · rw [Nat.mul_comm, Nat.mul_succ]; omega
    rw [h3]
theorem btw_piece {lo L : Nat} (hd : 2 ^ L ∣ lo) : ∀ us : Ups, (∀ u ∈ us, 0 ≤ u.1) → hasK ((lo / 2 ^ L : Nat) : Int) (upN us L) = btw lo (lo + 2 ^ L) us
  | [], _ => rfl
  | u :: us, h => by
    have ih := btw_piece hd us (fun v hv => h v (List.mem_cons_of_mem _ hv))
    show (if upK u.1 L = ((lo / 2 ^ L : Nat) : Int) then u.2 else 0) + hasK ((lo / 2 ^ L : Nat) : Int) (upN us L) = _
    rw [ih]
    simp only [btw]
    by_cases a : upK u.1 L = ((lo / 2 ^ L : Nat) : Int)
    · rw [if_pos a, if_pos ((piece_iff hd (h u (by simp))).1 a)]
    · rw [if_neg a, if_neg (fun g => a ((piece_iff hd (h u (by simp))).2 g))]
/-- What the pieces of a span have is what the span has. -/
theorem cov_sum {B e lo : Nat} {l : List (Nat × Nat)} (h : Cov B e lo l) {us : Ups} (hu : ∀ u ∈ us, 0 ≤ u.1) : (l.map (fun p => hasK ((p.2 : Nat) : Int) (upN us p.1))).sum = btw lo e us := by
  induction h with
  | nil => exact (btw_none e us).symm
  | @cons lo L l g hc ih =>
    rw [List.map_cons, List.sum_cons, ih, btw_piece g.2.1 us hu, btw_add (Nat.le_add_right _ _) hc.le]
end Go.Proofs.YtkflggojiiebeaaGreat.Spn

namespace Go.Proofs.YtkflggojiiebeaaGreat.Stk
open Go Go.RowKit Lw Grd Lin Con Shp Sk Exa Lev
set_option linter.unusedVariables false
set_option linter.unusedSimpArgs false
theorem lt_sz {a b : Nat} (h : a < b) (x : Nat) : a < b + x := by omega
end Go.Proofs.YtkflggojiiebeaaGreat.Stk

namespace Go.Proofs.YtkflggojiiebeaaGreat.Spn
open Go Go.RowKit Lw Grd Lin Con Shp Sk Exa Lev Stk Pcs
set_option linter.unusedVariables false
set_option linter.unusedSimpArgs false
theorem bt_btw {lo hi : Int} (h0 : 0 ≤ lo) (h1 : 0 ≤ hi) : ∀ us : Ups, bt lo hi us = btw lo.toNat (hi.toNat + 1) us
  | [] => rfl
  | u :: us => by
    simp only [bt, btw]
    rw [bt_btw h0 h1 us]
    congr 1
    by_cases h : lo ≤ u.1 ∧ u.1 ≤ hi
    · rw [if_pos h, if_pos (by omega)]
    · rw [if_neg h, if_neg (by omega)]
theorem bt_snoc (lo hi : Int) (u : Int × Int) : ∀ us : Ups, bt lo hi (us ++ [u]) = bt lo hi us + (if lo ≤ u.1 ∧ u.1 ≤ hi then u.2 else 0)
  | [] => by simp [bt]
  | v :: us => by
    have ih := bt_snoc lo hi u us
    simp only [List.cons_append, bt]
    rw [ih]
    omega
theorem bt_bd {lo hi b : Int} (hb : 0 ≤ b) : ∀ {us : Ups}, (∀ u ∈ us, -b ≤ u.2 ∧ u.2 ≤ b) → -(b * us.length) ≤ bt lo hi us ∧ bt lo hi us ≤ b * us.length
  | [], _ => by simp [bt]
  | u :: us, h => by
    have ih := bt_bd (lo := lo) (hi := hi) hb (us := us) (fun v hv => h v (List.mem_cons_of_mem _ hv))
    have h1 := h u (by simp)
    have e : b * ((us.length + 1 : Nat) : Int) = b * (us.length : Int) + b := by
      rw [Int.natCast_add, Int.mul_add]
      simp
    rw [List.length_cons, e]
    simp only [bt]
    split <;> omega
theorem btR_bd {c : Cfg} (hk : 1 ≤ keys c 0) (qs : Ups) (j : Nat) (lo hi : Int) (hj : j ≤ 60) : -65970697666560 ≤ bt lo hi (upsR c 0 qs 0 j) ∧ bt lo hi (upsR c 0 qs 0 j) ≤ 65970697666560 := by
  have h := upsR_in hk qs 0 j
  have hl := upsR_len c 0 qs 0 j
  have h2 := bt_bd (lo := lo) (hi := hi) (b := 1099511627776) (by omega) (us := upsR c 0 qs 0 j) (fun u hu => ⟨(h.1 u hu).2.2.1, (h.1 u hu).2.2.2⟩)
  omega
set_option maxRecDepth 100000 in
set_option maxHeartbeats 4000000 in
theorem rbtw_any (c : Cfg) (A : Option Addr) (n0 k0 : Nat) (qs : Ups) (lo hi : Int) (w : World) (hco : c.Ok) (hkeys : 1 ≤ keys c 0) (hq : UpdV w A n0 k0 qs) (l0 : 0 ≤ lo) (l1 : lo ≤ 18446744073709551615) (i0 : 0 ≤ hi) (i1 : hi ≤ 18446744073709551615) :
    Calls Tryz.prog 42 #[.agg #[.int .i64 c.bt, .int .i64 c.rw, .int .i64 c.wd, .int .i64 c.md, .int .u64 c.sd], .slice A n0 k0, .int .u64 lo, .int .u64 hi] w fun e w' => e = .returned (.int .i64 (bt lo hi (upsR c 0 qs 0 60))) ∧ Below w.heap.size w w' := by
  have HQ := Lib.hid hq
  have HL := Lib.hid hq.len
  have hnc := hq.nc
  have hcm := hq.cm
  unfold maxLen at hcm
  have HKY := Lib.hid hkeys
  have HBD := Lib.hid (fun j (hj : j ≤ 60) => btR_bd (c := c) hkeys qs j lo hi hj)
  have CC0 := Lib.hid (fun w k d h0 h1 h2 h3 => rcut15_any c k d w hco h0 h1 h2 h3 hkeys)
  have HBX : Hid (Have w (w.alloc (.cells #[.int .i64 c.bt, .int .i64 c.rw, .int .i64 c.wd, .int .i64 c.md, .int .u64 c.sd] 24)) [boxT w.heap.size 24 #[.int .i64 c.bt, .int .i64 c.rw, .int .i64 c.wd, .int .i64 c.md, .int .u64 c.sd]]) := Lib.hid (box_new w _ _)
  clear hq hkeys hco
  go_enter Tryz.func42, Tryz.ntmps42
  go_wp2
  go_loopw [9, 10] (fun sv iv wr => ∃ (j : Nat), j ≤ n0 ∧ j ≤ 60 ∧ iv = .int .i64 j ∧ sv = .int .i64 (bt lo hi (upsR c 0 qs 0 j)) ∧ Have w wr [boxT w.heap.size 24 #[.int .i64 c.bt, .int .i64 c.rw, .int .i64 c.wd, .int .i64 c.md, .int .u64 c.sd]]) (fun _ iv _ => n0 - (intOf iv).toNat)
  case atStart => exact ⟨0, Nat.zero_le _, Nat.zero_le _, rfl, by rw [upsR_zero]; rfl, HBX.out⟩
  case round =>
    obtain ⟨j, hj, hj6, rfl, rfl, hv⟩ := hrel
    have HVr := Lib.hid hv
    have hwb := hv.below
    have hbd := HBD.out j hj6
    obtain ⟨X, hX⟩ : ∃ X, bt lo hi (upsR c 0 qs 0 j) = X := ⟨_, rfl⟩
    have HX := Lib.hid hX
    rw [hX] at hbd ⊢
    clear hv hX
    by_cases hlt : j < n0 ∧ j < 60
    · obtain ⟨hj1, hj2⟩ := hlt
      obtain ⟨q, hq1⟩ : ∃ q, qs[j]? = some q := ⟨_, List.getElem?_eq_getElem (by rw [HL.out]; omega)⟩
      have hnx := upsR_next (c := c) (l := 0) hq1 (Nat.zero_le j)
      have hsn := bt_snoc lo hi (cutU c 0 q) (upsR c 0 qs 0 j)
      rw [← hnx, HX.out] at hsn
      have hcu := cutU_ok HKY.out q
      obtain ⟨a, g, o, rfl, hadd, d1w, d2w, kb, db⟩ := HQ.out.at hq1
      obtain ⟨qk, qd⟩ := q
      simp only at d1w d2w kb db
      have d1 := cell_up d1w hwb
      have d2 := cell_up d2w hwb
      obtain ⟨e1, e2, e3, e4, e5⟩ := box5 HVr.out.i0
      have CC := Lib.hid (fun w => CC0.out w qk qd kb.1 kb.2 db.1 db.2)
      obtain ⟨U, hU⟩ : ∃ U, (cutU c 0 (qk, qd)).1 = U := ⟨_, rfl⟩
      obtain ⟨D, hD⟩ : ∃ D, (cutU c 0 (qk, qd)).2 = D := ⟨_, rfl⟩
      rw [hU, hD] at CC hcu hsn
      have hdb : -1099511627776 ≤ D ∧ D ≤ 1099511627776 := ⟨hcu.2.2.1, hcu.2.2.2.1⟩
      have wx : wrap64 (X + D) = X + D := IntWalk.wrap64_in _ ⟨by omega, by omega⟩
      have wx2 : IntKind.i64.wrap (X + D) = X + D := IntWalk.i64_in _ ⟨by omega, by omega⟩
      obtain ⟨Y, hY⟩ : ∃ Y, X + D = Y := ⟨_, rfl⟩
      have wy : wrap64 (X + D) = Y := by rw [wx, hY]
      have wy2 : IntKind.i64.wrap (X + D) = Y := by rw [wx2, hY]
      have hsz := box_lt HVr.out.i0
      have lz := lt_sz hsz
      clear hq1 hnx hU hD hcu d1w d2w hwb wx wx2
      by_cases hlo : lo ≤ U
      · by_cases hhi : U ≤ hi
        · rw [if_pos ⟨hlo, hhi⟩, hY] at hsn
          have HSN := Lib.hid hsn
          clear hsn hY hdb hbd
          go_upto_region 5 with fail
          go_region_held3 (fun w' => w'.cell? ⟨w.heap.size, 0, none⟩ = some (.int .i64 c.bt) ∧ w'.cell? ⟨w.heap.size, 1, none⟩ = some (.int .i64 c.rw) ∧ w'.cell? ⟨w.heap.size, 2, none⟩ = some (.int .i64 c.wd) ∧ w'.cell? ⟨w.heap.size, 3, none⟩ = some (.int .i64 c.md) ∧ w'.cell? ⟨w.heap.size, 4, none⟩ = some (.int .u64 c.sd) ∧ w'.cell? ⟨g, o, none⟩ = some (.int .u64 qk) ∧ w'.cell? ⟨g, o + 1, none⟩ = some (.int .i64 qd)) (first | (refine ⟨?_, ?_, ?_, ?_, ?_, ?_, ?_⟩ <;> (first | (with_reducible assumption) | (with_reducible refine cell_up e1 ?_) | (with_reducible refine cell_up e2 ?_) | (with_reducible refine cell_up e3 ?_) | (with_reducible refine cell_up e4 ?_) | (with_reducible refine cell_up e5 ?_) | (with_reducible refine cell_up d1 ?_) | (with_reducible refine cell_up d2 ?_)) <;> (repeat' (first | (with_reducible first | exact Below.refl _ _ | assumption | refine below_over ?_ _ _ | refine Lw.below_alloc ?_ _ | refine Below.drew ?_ | refine below_drewN ?_ _ | refine Below.setCell ?_ ?_ _) | go_size)))) (first | (go_at_call 41; (with_reducible refine (CC.out _).mono ?_); rintro e w' ⟨rfl, hb⟩; obtain ⟨bs, dd, rfl⟩ := below_grow hb; clear hb))
          all_goals go_wp2
          all_goals go_roundw
          all_goals first
            | exact ⟨j + 1, by omega, by omega, by go_num, by rw [HSN.out], HVr.out.up (by repeat' (first | (with_reducible first | exact Below.refl _ _ | assumption | refine below_over ?_ _ _ | refine Lw.below_alloc ?_ _ | refine Below.drew ?_ | refine below_drewN ?_ _ | refine Below.setCell ?_ ?_ _) | go_size))⟩
            | (simp [intOf]; omega)
        · rw [if_neg (fun h => hhi h.2), Int.add_zero] at hsn
          have HSN := Lib.hid hsn
          clear hsn hY hdb hbd wy wy2
          go_upto_region 5 with fail
          go_region_held3 (fun w' => w'.cell? ⟨w.heap.size, 0, none⟩ = some (.int .i64 c.bt) ∧ w'.cell? ⟨w.heap.size, 1, none⟩ = some (.int .i64 c.rw) ∧ w'.cell? ⟨w.heap.size, 2, none⟩ = some (.int .i64 c.wd) ∧ w'.cell? ⟨w.heap.size, 3, none⟩ = some (.int .i64 c.md) ∧ w'.cell? ⟨w.heap.size, 4, none⟩ = some (.int .u64 c.sd) ∧ w'.cell? ⟨g, o, none⟩ = some (.int .u64 qk) ∧ w'.cell? ⟨g, o + 1, none⟩ = some (.int .i64 qd)) (first | (refine ⟨?_, ?_, ?_, ?_, ?_, ?_, ?_⟩ <;> (first | (with_reducible assumption) | (with_reducible refine cell_up e1 ?_) | (with_reducible refine cell_up e2 ?_) | (with_reducible refine cell_up e3 ?_) | (with_reducible refine cell_up e4 ?_) | (with_reducible refine cell_up e5 ?_) | (with_reducible refine cell_up d1 ?_) | (with_reducible refine cell_up d2 ?_)) <;> (repeat' (first | (with_reducible first | exact Below.refl _ _ | assumption | refine below_over ?_ _ _ | refine Lw.below_alloc ?_ _ | refine Below.drew ?_ | refine below_drewN ?_ _ | refine Below.setCell ?_ ?_ _) | go_size)))) (first | (go_at_call 41; (with_reducible refine (CC.out _).mono ?_); rintro e w' ⟨rfl, hb⟩; obtain ⟨bs, dd, rfl⟩ := below_grow hb; clear hb))
          all_goals go_wp2
          all_goals go_roundw
          all_goals first
            | exact ⟨j + 1, by omega, by omega, by go_num, by rw [HSN.out], HVr.out.up (by repeat' (first | (with_reducible first | exact Below.refl _ _ | assumption | refine below_over ?_ _ _ | refine Lw.below_alloc ?_ _ | refine Below.drew ?_ | refine below_drewN ?_ _ | refine Below.setCell ?_ ?_ _) | go_size))⟩
            | (simp [intOf]; omega)
      · rw [if_neg (fun h => hlo h.1), Int.add_zero] at hsn
        have HSN := Lib.hid hsn
        clear hsn hY hdb hbd wy wy2
        go_upto_region 5 with fail
        go_region_held3 (fun w' => w'.cell? ⟨w.heap.size, 0, none⟩ = some (.int .i64 c.bt) ∧ w'.cell? ⟨w.heap.size, 1, none⟩ = some (.int .i64 c.rw) ∧ w'.cell? ⟨w.heap.size, 2, none⟩ = some (.int .i64 c.wd) ∧ w'.cell? ⟨w.heap.size, 3, none⟩ = some (.int .i64 c.md) ∧ w'.cell? ⟨w.heap.size, 4, none⟩ = some (.int .u64 c.sd) ∧ w'.cell? ⟨g, o, none⟩ = some (.int .u64 qk) ∧ w'.cell? ⟨g, o + 1, none⟩ = some (.int .i64 qd)) (first | (refine ⟨?_, ?_, ?_, ?_, ?_, ?_, ?_⟩ <;> (first | (with_reducible assumption) | (with_reducible refine cell_up e1 ?_) | (with_reducible refine cell_up e2 ?_) | (with_reducible refine cell_up e3 ?_) | (with_reducible refine cell_up e4 ?_) | (with_reducible refine cell_up e5 ?_) | (with_reducible refine cell_up d1 ?_) | (with_reducible refine cell_up d2 ?_)) <;> (repeat' (first | (with_reducible first | exact Below.refl _ _ | assumption | refine below_over ?_ _ _ | refine Lw.below_alloc ?_ _ | refine Below.drew ?_ | refine below_drewN ?_ _ | refine Below.setCell ?_ ?_ _) | go_size)))) (first | (go_at_call 41; (with_reducible refine (CC.out _).mono ?_); rintro e w' ⟨rfl, hb⟩; obtain ⟨bs, dd, rfl⟩ := below_grow hb; clear hb))
        all_goals go_wp2
        all_goals go_roundw
        all_goals first
          | exact ⟨j + 1, by omega, by omega, by go_num, by rw [HSN.out], HVr.out.up (by repeat' (first | (with_reducible first | exact Below.refl _ _ | assumption | refine below_over ?_ _ _ | refine Lw.below_alloc ?_ _ | refine Below.drew ?_ | refine below_drewN ?_ _ | refine Below.setCell ?_ ?_ _) | go_size))⟩
          | (simp [intOf]; omega)
    · have hend : upsR c 0 qs 0 j = upsR c 0 qs 0 60 := upsR_end hj6 (by rw [HL.out]; omega)
      have hXe := HX.out
      rw [hend] at hXe
      have HXE := Lib.hid hXe
      have hcases : ((j : Int) < n0 ∧ ¬ (j : Int) < 60) ∨ ¬ (j : Int) < n0 := by omega
      clear hend hXe hlt hbd
      rcases hcases with ⟨hc1, hc2⟩ | hc1
      all_goals go_wp2
      all_goals go_ret
      all_goals exact ⟨by first | (rw [HXE.out]; rfl) | rfl, HVr.out.below⟩
end Go.Proofs.YtkflggojiiebeaaGreat.Spn

namespace Go.Proofs.YtkflggojiiebeaaGreat.Spn
open Go Go.RowKit Lw Grd Lin Con Shp Sk Exa Lev Stk Pcs
set_option linter.unusedVariables false
theorem cov_all (B : Nat) : Cov B (2 ^ B) 0 [(B, 0)] := by
  have h : GL B 0 (2 ^ B) B := ⟨Nat.le_refl _, Nat.dvd_zero _, by omega, .inl rfl⟩
  have h2 := Cov.cons h (by rw [Nat.zero_add]; exact Cov.nil)
  rw [Nat.zero_div] at h2
  exact h2
end Go.Proofs.YtkflggojiiebeaaGreat.Spn

namespace Go.Proofs.YtkflggojiiebeaaGreat.Spn
open Go Go.RowKit Lw Grd Lin Con Shp Sk Exa Lev Stk Pcs
set_option linter.unusedVariables false
set_option linter.unusedSimpArgs false
theorem two_keys {c : Cfg} (hr : IsRight c) : ((2 ^ c.bt.toNat : Nat) : Int) = keys c 0 := by
  have e0 : keys c 0 = 2 ^ (c.bt - 0).toNat := keys_yes hr (by omega) (by have := hr.1; omega)
  have e9 : (c.bt - 0).toNat = c.bt.toNat := by omega
  rw [e9] at e0
  rw [e0]
  simp
/-- All keys have Total. -/
theorem rg_whole {c : Cfg} (hr : IsRight c) {us : Ups} (h : UpsIn c 0 us) (hl : us.length ≤ 60) :
    rgC c (fun L i => spV c (stsOf c us) (L : Int) i) 0 (keys c 0 - 1) = 0 ∧ rgV c (fun L i => spV c (stsOf c us) (L : Int) i) 0 (keys c 0 - 1) = spV c (stsOf c us) c.bt 0 := by
  have hb := hr.1
  have hk := two_keys hr
  have hp := Nat.two_pow_pos c.bt.toNat
  have hc := cov_all c.bt.toNat
  have e2 : (keys c 0 - 1).toNat + 1 = 2 ^ c.bt.toNat := by omega
  rw [← e2] at hc
  obtain ⟨-, -, h3, h4⟩ := rg_fed hr h hl (lo := 0) (hi := keys c 0 - 1) (by omega) (by omega) (by omega) hc
  refine ⟨h3, h4.trans ?_⟩
  have h5 := (sp_at hr us (n := c.bt.toNat) (by omega) 0).1
  rw [show ((c.bt.toNat : Nat) : Int) = c.bt by omega] at h5
  rw [h5]
  simp [show ((c.bt.toNat : Nat) : Int) = c.bt by omega]
end Go.Proofs.YtkflggojiiebeaaGreat.Spn

namespace Go.Proofs.YtkflggojiiebeaaGreat.Spn
open Go Go.RowKit Lw Grd Lin Con Shp Sk Exa Lev Stk Pcs
set_option linter.unusedVariables false
set_option linter.unusedSimpArgs false
theorem sum_exact {c : Cfg} (hr : IsRight c) (hx : ∀ n : Nat, (n : Int) ≤ c.bt → exactB c n = true) {us : Ups} (h : UpsIn c 0 us) (hl : us.length ≤ 60) {lo hi : Int} (h0 : 0 ≤ lo) (h1 : lo ≤ hi) (h2 : hi < keys c 0) :
    rgC c (fun L i => spV c (stsOf c us) (L : Int) i) lo hi = 0 ∧ rgV c (fun L i => spV c (stsOf c us) (L : Int) i) lo hi = bt lo hi us := by
  obtain ⟨l, hc⟩ := Cov.ex (B := c.bt.toNat) (e := hi.toNat + 1) (hi.toNat + 1 - lo.toNat) lo.toNat rfl (by omega)
  obtain ⟨-, -, h3, h4⟩ := rg_fed hr h hl h0 h1 h2 hc
  refine ⟨h3, h4.trans ?_⟩
  rw [bt_btw h0 (by omega), ← cov_sum hc (fun u hu => (h.1 u hu).1)]
  congr 1
  refine List.map_congr_left (fun p hp => ?_)
  have hp2 := cov_in hr h0 h1 h2 hc hp
  exact st_ex (hx p.1 hp2.1) (by omega) hp2.2
theorem wide_exact {c : Cfg} (hr : IsRight c) (hw : c.wd = 2 ^ c.bt.toNat) {n : Nat} (hn : (n : Int) ≤ c.bt) : exactB c n = true := by
  have e : keys c n = 2 ^ (c.bt - n).toNat := keys_yes hr (by omega) hn
  have h1 : 2 ^ (c.bt - n).toNat ≤ 2 ^ c.bt.toNat := Nat.pow_le_pow_right (by omega) (by omega)
  have h2 := Nat.two_pow_pos (c.bt - n).toNat
  have e1 : ((2 ^ (c.bt - n).toNat : Nat) : Int) = 2 ^ (c.bt - n).toNat := by simp
  have e2 : ((2 ^ c.bt.toNat : Nat) : Int) = 2 ^ c.bt.toNat := by simp
  refine decide_eq_true ?_
  rw [e, hw]
  omega
theorem pow7 {n : Nat} (h : n ≤ 7) : 1 ≤ (2 : Int) ^ n ∧ (2 : Int) ^ n ≤ 128 := by
  have h1 : 2 ^ n ≤ 2 ^ 7 := Nat.pow_le_pow_right (by omega) h
  have h2 := Nat.two_pow_pos n
  have e : ((2 ^ n : Nat) : Int) = 2 ^ n := by simp
  omega
namespace spanExact
open Go.ChangeShapes Go.WideShapes Go.ChangeAt Go.Joins
end spanExact
end Go.Proofs.YtkflggojiiebeaaGreat.Spn

namespace Go.Proofs.YtkflggojiiebeaaGreat.Smr
open Go Go.RowKit Lw Grd Lin Con Shp Sk Exa Lev Stk Pcs Spn Qnt Hvy
set_option linter.unusedVariables false
set_option linter.unusedSimpArgs false
theorem bt_add {lo m hi : Int} (h1 : lo ≤ m + 1) (h2 : m ≤ hi) : ∀ us : Ups, bt lo m us + bt (m + 1) hi us = bt lo hi us
  | [] => rfl
  | u :: us => by
    have ih := bt_add h1 h2 us
    show ((if lo ≤ u.1 ∧ u.1 ≤ m then u.2 else 0) + bt lo m us) + ((if m + 1 ≤ u.1 ∧ u.1 ≤ hi then u.2 else 0) + bt (m + 1) hi us) = (if lo ≤ u.1 ∧ u.1 ≤ hi then u.2 else 0) + bt lo hi us
    rw [← ih]
    split <;> split <;> split <;> omega
theorem bt_none {lo hi : Int} (h : hi < lo) : ∀ us : Ups, bt lo hi us = 0
  | [] => rfl
  | u :: us => by
    show (if lo ≤ u.1 ∧ u.1 ≤ hi then u.2 else 0) + bt lo hi us = 0
    rw [bt_none h us, if_neg (by omega)]
    rfl
theorem bt_bd (lo hi : Int) {b : Int} (hb : 0 ≤ b) : ∀ {us : Ups}, (∀ u ∈ us, -b ≤ u.2 ∧ u.2 ≤ b) → -(us.length * b) ≤ bt lo hi us ∧ bt lo hi us ≤ us.length * b
  | [], _ => by simp [bt]
  | u :: us, h => by
    have ih := bt_bd lo hi hb (us := us) (fun p hp => h p (by simp [hp]))
    have h1 := h u (by simp)
    have e : (((u :: us).length : Nat) : Int) * b = us.length * b + b := by rw [List.length_cons]; push_cast; rw [Int.add_mul, Int.one_mul]
    rw [e]
    show _ ≤ (if lo ≤ u.1 ∧ u.1 ≤ hi then u.2 else 0) + bt lo hi us ∧ (if lo ≤ u.1 ∧ u.1 ≤ hi then u.2 else 0) + bt lo hi us ≤ _
    split <;> omega
theorem bt_fed {c : Cfg} {us : Ups} (h : UpsIn c 0 us) (hl : us.length ≤ 60) (lo hi : Int) : -65970697666560 ≤ bt lo hi us ∧ bt lo hi us ≤ 65970697666560 := by
  have h1 := bt_bd lo hi (b := 1099511627776) (by omega) (us := us) (fun u hu => (h.1 u hu).2.2)
  omega
/-- Where all levels are exact all keys have Total. -/
theorem bt_total {c : Cfg} (hr : IsRight c) (hx : ∀ n : Nat, (n : Int) ≤ c.bt → exactB c n = true) {us : Ups} (h : UpsIn c 0 us) (hl : us.length ≤ 60) : spV c (stsOf c us) c.bt 0 = bt 0 (keys c 0 - 1) us := by
  have hk : 1 ≤ keys c 0 := keys_pos.2 ⟨hr, by omega, by have := hr.1; omega⟩
  have h1 := (sum_exact hr hx h hl (lo := 0) (hi := keys c 0 - 1) (Int.le_refl _) (by omega) (by omega)).2
  rw [(rg_whole hr h hl).2] at h1
  exact h1
theorem spans_exact {c : Cfg} (hr : IsRight c) (hx : ∀ n : Nat, (n : Int) ≤ c.bt → exactB c n = true) {us : Ups} (h : UpsIn c 0 us) (hl : us.length ≤ 60) (hk : 1 ≤ keys c 0) {LT : Int} {l : List Int} (hc : Cuts (keys c 0) LT l) : hgC c (fun L i => spV c (stsOf c us) (L : Int) i) l = 0 ∧ hgL c (fun L i => spV c (stsOf c us) (L : Int) i) l = (spansQ (keys c 0) l).map (fun s => bt s.1 s.2 us) := by
  have h1 := spans_ok hr h hl hk hc
  refine ⟨h1.1, h1.2.trans (List.map_congr_left (fun s hs => ?_))⟩
  obtain ⟨i, hi⟩ := List.getElem?_of_mem hs
  have hil := (List.getElem?_eq_some_iff.1 hi).1
  rw [spansQ_len] at hil
  rw [spansQ_at (by omega)] at hi
  have e := Option.some.inj hi
  subst e
  have h3 := span_in hk hc.2.1 hc.1 (i := i) (by omega)
  exact (sum_exact hr hx h hl h3.1 h3.2.1 h3.2.2).2
end Go.Proofs.YtkflggojiiebeaaGreat.Smr

