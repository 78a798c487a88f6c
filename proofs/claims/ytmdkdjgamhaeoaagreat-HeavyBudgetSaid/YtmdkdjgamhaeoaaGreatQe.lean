/- Texts that statements lean on, put together: ShpRef, LinDef, LinCodM, LinCode, LinRef, LinChg, LinLawA. -/
import Derived.Test.YtmdkdjgamhaeoaaGreatQa
import Derived.Test.YtmdkdjgamhaeoaaGreatQb
import Derived.Test.YtmdkdjgamhaeoaaGreatQc
import Derived.Test.YtmdkdjgamhaeoaaGreatQd
import Derived.Deep.LoopGhost
import Derived.Deep.RegionHeld3
import Derived.Deep.QuietTactic
import Derived.BigQuiet
import Derived.WalkSpells
import Derived.Laws.Cover3
import Derived.WalkMore
import Derived.Laws.OwnMore
import Derived.Deep.DeepCutAuto
/- The walks of the document's own answers for layer 7. Printed by wip/gen/shp.py. -/
namespace Go.Proofs.YtmdkdjgamhaeoaaGreat.Shp
open Go Go.RowKit Lw
set_option linter.unusedVariables false
set_option linter.unusedSimpArgs false
theorem ret_b {a b : Bool} (h : a = b) : Ending.returned (.bool a) = .returned (.bool b) := by rw [h]
theorem ret_i {k : IntKind} {a b : Int} (h : a = b) : Ending.returned (.int k a) = .returned (.int k b) := by rw [h]
theorem right_mode (c : Cfg) (h1 : 1 ≤ c.bt) (h2 : c.bt ≤ 59) (h3 : 1 ≤ c.rw) (h4 : c.rw ≤ 8) (h5 : 1 ≤ c.wd) (h6 : c.wd ≤ 128) : right c = (c.md == 1 || c.md == 2 || c.md == 3) := by
  by_cases h : 1 ≤ c.md ∧ c.md ≤ 3
  · have e : right c = true := decide_eq_true ⟨h1, h2, h3, h4, h5, h6, h.1, h.2⟩
    have : c.md = 1 ∨ c.md = 2 ∨ c.md = 3 := by omega
    rw [e]
    rcases this with h | h | h <;> simp [h]
  · have e : right c = false := decide_eq_false (fun hr => h ⟨hr.2.2.2.2.2.2.1, hr.2.2.2.2.2.2.2⟩)
    have n1 : ¬ c.md = 1 := by omega
    have n2 : ¬ c.md = 2 := by omega
    have n3 : ¬ c.md = 3 := by omega
    rw [e]
    simp [n1, n2, n3]
set_option maxRecDepth 100000 in
theorem rright_any (c : Cfg) (w : World) (h : c.Ok) :
    Calls Tryz.prog 65 #[.agg #[.int .i64 c.bt, .int .i64 c.rw, .int .i64 c.wd, .int .i64 c.md, .int .u64 c.sd]] w fun e w' => e = .returned (.bool (right c)) ∧ Below w.heap.size w w' := by
  obtain ⟨b0, b1, r0, r1, w0, w1, m0, m1, s0, s1⟩ := h
  go_enter Tryz.func65, Tryz.ntmps65
  go_wp2
  all_goals go_ret
  all_goals refine ⟨ret_b (by first | exact (decide_eq_false (fun h => by unfold IsRight at h; omega)).symm | exact (decide_eq_true (by unfold IsRight; omega)).symm | exact (right_mode c (by omega) (by omega) (by omega) (by omega) (by omega) (by omega)).symm), ?_⟩
  all_goals (repeat' (first | (with_reducible exact Below.refl _ _) | (with_reducible assumption) | (with_reducible refine below_over ?_ _ _) | (with_reducible refine Lw.below_alloc ?_ _) | (with_reducible refine Below.drew ?_) | (with_reducible refine below_drewN ?_ _) | (with_reducible refine Below.setCell ?_ ?_ _) | go_size))
theorem pow_next (a : Nat) : (2 : Int) ^ (a + 1) = 2 ^ a * 2 := by rw [Int.pow_succ]
set_option maxRecDepth 100000 in
theorem rkeys_any (c : Cfg) (l : Int) (w : World) (h : c.Ok) (l0 : -9223372036854775808 ≤ l) (l1 : l ≤ 9223372036854775807) :
    Calls Tryz.prog 39 #[.agg #[.int .i64 c.bt, .int .i64 c.rw, .int .i64 c.wd, .int .i64 c.md, .int .u64 c.sd], .int .i64 l] w fun e w' => e = .returned (.int .u64 (keys c l)) ∧ Below w.heap.size w w' := by
  have HO := Lib.hid h
  obtain ⟨b0, b1, r0, r1, w0, w1, m0, m1, s0, s1⟩ := h
  by_cases hr : IsRight c
  · have hr2 : right c = true := decide_eq_true hr
    have HR := Lib.hid hr
    have hb1 := hr.1
    have hb2 := hr.2.1
    clear hr
    by_cases h0 : l < 0
    · have hk : keys c l = 0 := keys_no (by omega)
      go_enter Tryz.func39, Tryz.ntmps39
      go_wp2_with (go_at_call 65; (with_reducible refine (rright_any c _ HO.out).mono ?_); rintro e w' ⟨rfl, hb⟩; obtain ⟨bs, d, rfl⟩ := below_grow hb; clear hb)
      all_goals go_ret
      all_goals refine ⟨ret_i hk.symm, ?_⟩
      all_goals (repeat' (first | (with_reducible exact Below.refl _ _) | (with_reducible assumption) | (with_reducible refine below_over ?_ _ _) | (with_reducible refine Lw.below_alloc ?_ _) | (with_reducible refine Below.drew ?_) | (with_reducible refine below_drewN ?_ _) | (with_reducible refine Below.setCell ?_ ?_ _) | go_size))
    · by_cases h2 : c.bt < l
      · have hk : keys c l = 0 := keys_no (by omega)
        go_enter Tryz.func39, Tryz.ntmps39
        go_wp2_with (go_at_call 65; (with_reducible refine (rright_any c _ HO.out).mono ?_); rintro e w' ⟨rfl, hb⟩; obtain ⟨bs, d, rfl⟩ := below_grow hb; clear hb)
        all_goals go_ret
        all_goals refine ⟨ret_i hk.symm, ?_⟩
        all_goals (repeat' (first | (with_reducible exact Below.refl _ _) | (with_reducible assumption) | (with_reducible refine below_over ?_ _ _) | (with_reducible refine Lw.below_alloc ?_ _) | (with_reducible refine Below.drew ?_) | (with_reducible refine below_drewN ?_ _) | (with_reducible refine Below.setCell ?_ ?_ _) | go_size))
      · have hk : keys c l = 2 ^ (c.bt - l).toNat := keys_yes HR.out (by omega) (by omega)
        have HK := Lib.hid hk
        clear hk
        go_enter Tryz.func39, Tryz.ntmps39
        go_wp2_with (go_at_call 65; (with_reducible refine (rright_any c _ HO.out).mono ?_); rintro e w' ⟨rfl, hb⟩; obtain ⟨bs, d, rfl⟩ := below_grow hb; clear hb)
        go_loop [5, 6] (fun n i => ∃ k : Nat, i = .int .i64 (l + k) ∧ l + k ≤ c.bt ∧ n = .int .u64 (2 ^ k)) (fun _ i => (c.bt - intOf i).toNat)
        case atStart => exact ⟨0, by simp, by omega, rfl⟩
        case round =>
          obtain ⟨k, rfl, hkb, rfl⟩ := hrel
          have hp0 := pow_pos2 k
          by_cases hlt : l + k < c.bt
          · have hp1 := pow_le2 (a := k) (b := 58) (by omega)
            have e58 : (2 : Int) ^ 58 = 288230376151711744 := by decide
            rw [e58] at hp1
            have HN := Lib.hid (pow_next k)
            clear e58
            obtain ⟨P, hP⟩ : ∃ P, (2 : Int) ^ k = P := ⟨_, rfl⟩
            rw [hP] at hp0 hp1 HN
            rw [hP]
            clear hP
            go_wp2
            go_round
            case rel => exact ⟨k + 1, by go_num, by omega, by rw [HN.out]⟩
            case measure => simp [intOf]; omega
          · have e : (c.bt - l).toNat = k := by omega
            rw [e] at HK
            go_wp2
            go_ret
            refine ⟨ret_i HK.out.symm, ?_⟩
            repeat' (first | (with_reducible exact Below.refl _ _) | (with_reducible assumption) | (with_reducible refine below_over ?_ _ _) | (with_reducible refine Lw.below_alloc ?_ _) | (with_reducible refine Below.drew ?_) | (with_reducible refine below_drewN ?_ _) | (with_reducible refine Below.setCell ?_ ?_ _) | go_size)
  · have hr2 : right c = false := decide_eq_false hr
    have hk : keys c l = 0 := keys_no (fun h => hr h.1)
    clear hr
    go_enter Tryz.func39, Tryz.ntmps39
    go_wp2_with (go_at_call 65; (with_reducible refine (rright_any c _ HO.out).mono ?_); rintro e w' ⟨rfl, hb⟩; obtain ⟨bs, d, rfl⟩ := below_grow hb; clear hb)
    all_goals go_ret
    all_goals refine ⟨ret_i hk.symm, ?_⟩
    all_goals (repeat' (first | (with_reducible exact Below.refl _ _) | (with_reducible assumption) | (with_reducible refine below_over ?_ _ _) | (with_reducible refine Lw.below_alloc ?_ _) | (with_reducible refine Below.drew ?_) | (with_reducible refine below_drewN ?_ _) | (with_reducible refine Below.setCell ?_ ?_ _) | go_size))
theorem cols_yes {c : Cfg} {l k : Int} (h : k < keys c l) : cols c l k = (List.range c.rw.toNat).map (col c l k) := if_pos h
def anyC (c : Cfg) (b v : Int) : Cfg := ⟨1 + c.bt % 65536 % b, 1 + c.rw % 65536 % 4, 1 + c.wd % 65536 % v, 1 + c.md % 65536 % 3, c.sd⟩
theorem any_right (c : Cfg) (b v : Int) (hb0 : 1 ≤ b) (hb1 : b ≤ 59) (hv0 : 1 ≤ v) (hv1 : v ≤ 128) : IsRight (anyC c b v) := by
  have h1 := Int.emod_nonneg (c.bt % 65536) (show b ≠ 0 by omega)
  have h2 := Int.emod_lt_of_pos (c.bt % 65536) (show 0 < b by omega)
  have h3 := Int.emod_nonneg (c.wd % 65536) (show v ≠ 0 by omega)
  have h4 := Int.emod_lt_of_pos (c.wd % 65536) (show 0 < v by omega)
  unfold IsRight anyC
  dsimp only
  refine ⟨by omega, by omega, by omega, by omega, by omega, by omega, by omega, by omega⟩
theorem any_ok (c : Cfg) (h : c.Ok) (b v : Int) (hb0 : 1 ≤ b) (hb1 : b ≤ 59) (hv0 : 1 ≤ v) (hv1 : v ≤ 128) : (anyC c b v).Ok := by
  obtain ⟨g1, g2, g3, g4, g5, g6, g7, g8⟩ := any_right c b v hb0 hb1 hv0 hv1
  exact ⟨by omega, by omega, by omega, by omega, by omega, by omega, by omega, by omega, h.s0, h.s1⟩
theorem any_part (x m : Int) (hm0 : 1 ≤ m) (hm1 : m ≤ 65536) : ∃ X, bits .and .i64 x 65535 = X ∧ 0 ≤ X ∧ X ≤ 65535 ∧ Int.tmod X m = x % 65536 % m ∧ 0 ≤ x % 65536 % m ∧ x % 65536 % m ≤ 65535 := by
  refine ⟨x % 65536, and16i x, by omega, by omega, ?_, Int.emod_nonneg _ (by omega), ?_⟩
  · rw [Int.tmod_eq_emod_of_nonneg (by omega)]
  · have := Int.emod_lt_of_pos (x % 65536) (show 0 < m by omega)
    omega
set_option maxRecDepth 100000 in
theorem rany_any (c : Cfg) (b v : Int) (w : World) (h : c.Ok) (hb0 : 1 ≤ b) (hb1 : b ≤ 59) (hv0 : 1 ≤ v) (hv1 : v ≤ 128) :
    Calls Tryz.prog 10 #[.agg #[.int .i64 c.bt, .int .i64 c.rw, .int .i64 c.wd, .int .i64 c.md, .int .u64 c.sd], .int .i64 b, .int .i64 v] w fun e w' => e = .returned (.agg #[.int .i64 (anyC c b v).bt, .int .i64 (anyC c b v).rw, .int .i64 (anyC c b v).wd, .int .i64 (anyC c b v).md, .int .u64 (anyC c b v).sd]) ∧ Below w.heap.size w w' := by
  obtain ⟨X1, a1, b1, c1, d1, e1, f1⟩ := any_part c.bt b hb0 (by omega)
  obtain ⟨X2, a2, b2, c2, d2, e2, f2⟩ := any_part c.rw 4 (by omega) (by omega)
  obtain ⟨X3, a3, b3, c3, d3, e3, f3⟩ := any_part c.wd v hv0 (by omega)
  obtain ⟨X4, a4, b4, c4, d4, e4, f4⟩ := any_part c.md 3 (by omega) (by omega)
  unfold anyC
  obtain ⟨Y1, h1⟩ : ∃ Y, c.bt % 65536 % b = Y := ⟨_, rfl⟩
  obtain ⟨Y2, h2⟩ : ∃ Y, c.rw % 65536 % 4 = Y := ⟨_, rfl⟩
  obtain ⟨Y3, h3⟩ : ∃ Y, c.wd % 65536 % v = Y := ⟨_, rfl⟩
  obtain ⟨Y4, h4⟩ : ∃ Y, c.md % 65536 % 3 = Y := ⟨_, rfl⟩
  rw [h1] at d1 e1 f1
  rw [h2] at d2 e2 f2
  rw [h3] at d3 e3 f3
  rw [h4] at d4 e4 f4
  rw [h1, h2, h3, h4]
  clear h1 h2 h3 h4
  obtain ⟨k0, k1, k2, k3, k4, k5, k6, k7, k8, k9⟩ := h
  have nb : ¬ b = 0 := by omega
  have nv : ¬ v = 0 := by omega
  go_enter Tryz.func10, Tryz.ntmps10
  go_wp2
  go_region
  go_wp2
  go_returns
  refine ⟨rfl, ?_⟩
  repeat' (first | (with_reducible exact Below.refl _ _) | (with_reducible assumption) | (with_reducible refine below_over ?_ _ _) | (with_reducible refine Lw.below_alloc ?_ _) | (with_reducible refine Below.drew ?_) | (with_reducible refine below_drewN ?_ _) | (with_reducible refine Below.setCell ?_ ?_ _) | go_size)
theorem rany_at (c : Cfg) (b v : Int) (C : Cfg) (w : World) (h : c.Ok) (hb0 : 1 ≤ b) (hb1 : b ≤ 59) (hv0 : 1 ≤ v) (hv1 : v ≤ 128) (hC : anyC c b v = C) :
    Calls Tryz.prog 10 #[.agg #[.int .i64 c.bt, .int .i64 c.rw, .int .i64 c.wd, .int .i64 c.md, .int .u64 c.sd], .int .i64 b, .int .i64 v] w fun e w' => e = .returned (.agg #[.int .i64 C.bt, .int .i64 C.rw, .int .i64 C.wd, .int .i64 C.md, .int .u64 C.sd]) ∧ Below w.heap.size w w' := by
  subst hC
  exact rany_any c b v w h hb0 hb1 hv0 hv1
end Go.Proofs.YtmdkdjgamhaeoaaGreat.Shp
/- Columns that meet a grid, the cells that they name, what a change makes of them: in numbers. For stages from 8 on. -/
namespace Go.Proofs.YtmdkdjgamhaeoaaGreat.Lin
open Go Go.RowKit Lw Grd
set_option linter.unusedVariables false
def Meets (m n : Nat) (cols : List Int) : Prop := 1 ≤ m ∧ cols.length = m ∧ ∀ v ∈ cols, 0 ≤ v ∧ v < n
instance (m n : Nat) (cols : List Int) : Decidable (Meets m n cols) := by unfold Meets; infer_instance
def meetB (m n : Nat) (cols : List Int) : Bool := decide (Meets m n cols)
def named (L : List (List Int)) (cols : List Int) : List Int := List.zipWith (fun r c => r[c.toNat]?.getD 0) L cols
def changed (L : List (List Int)) (cols : List Int) (d : Int) : List (List Int) := List.zipWith (fun r c => r.set c.toNat (r[c.toNat]?.getD 0 + d)) L cols
def chFits (L : List (List Int)) (cols : List Int) (d : Int) : Bool := (named L cols).all (fun x => Wid.fit64 (x + d))
def chCode (m n : Nat) (L : List (List Int)) (cols : List Int) (d : Int) : Int := if Meets m n cols then (if chFits L cols d = true then 0 else 4) else 1
def chRes (m n : Nat) (L : List (List Int)) (cols : List Int) (d : Int) : List (List Int) := if Meets m n cols ∧ chFits L cols d = true then changed L cols d else L
def readOf (m n : Nat) (L : List (List Int)) (cols : List Int) : List Int := if Meets m n cols then named L cols else []
def rdCode (m n : Nat) (cols : List Int) : Int := if Meets m n cols then 0 else 1
theorem named_len {L : List (List Int)} {cols : List Int} (h : cols.length = L.length) : (named L cols).length = L.length := by unfold named; rw [List.length_zipWith]; omega
end Go.Proofs.YtmdkdjgamhaeoaaGreat.Lin
/- Rows that are filled from the first on; the cells that columns name, one by one. -/
namespace Go.Proofs.YtmdkdjgamhaeoaaGreat.Lin
open Go Go.RowKit Lw Grd
set_option linter.unusedVariables false
set_option linter.unusedSimpArgs false
/-! ### The first k of Y, and the rest of X -/
def upto2 {α : Type} (X Y : List α) (k : Nat) : List α := Y.take k ++ X.drop k
theorem upto2_start {α : Type} (X Y : List α) : upto2 X Y 0 = X := by simp [upto2]
theorem upto2_end {α : Type} {X Y : List α} {n : Nat} (hX : X.length = n) (hY : Y.length = n) : upto2 X Y n = Y := by
  unfold upto2
  rw [List.drop_of_length_le (by omega), List.append_nil, List.take_of_length_le (by omega)]
theorem upto2_get {α : Type} {X Y : List α} {n k : Nat} (hX : X.length = n) (hY : Y.length = n) (hk : k < n) : (upto2 X Y k)[k]? = X[k]? := by
  unfold upto2
  rw [List.getElem?_append_right (by rw [List.length_take]; omega), List.getElem?_drop, List.length_take]
  congr 1
  omega
theorem upto2_set {α : Type} {X Y : List α} {n k : Nat} {y : α} (hX : X.length = n) (hY : Y.length = n) (hy : Y[k]? = some y) : (upto2 X Y k).set k y = upto2 X Y (k + 1) := by
  obtain ⟨hk, he⟩ := List.getElem?_eq_some_iff.1 hy
  have hl : (Y.take k).length = k := by rw [List.length_take]; omega
  unfold upto2
  rw [List.set_append_right _ _ (by omega), hl, Nat.sub_self, List.take_succ_eq_append_getElem hk, he, List.append_assoc]
  congr 1
  rw [List.drop_eq_getElem_cons (by omega)]
  rfl
theorem upto2_len {α : Type} {X Y : List α} {n k : Nat} (hX : X.length = n) (hY : Y.length = n) (hk : k ≤ n) : (upto2 X Y k).length = n := by
  unfold upto2
  rw [List.length_append, List.length_take, List.length_drop]
  omega
/-! ### Columns that meet -/
theorem meets_at {m n : Nat} {cols : List Int} (h : Meets m n cols) {k : Nat} {v : Int} (hv : cols[k]? = some v) : 0 ≤ v ∧ v < n := h.2.2 v (List.mem_of_getElem? hv)
theorem named_at {m n : Nat} {L : List (List Int)} {cols : List Int} (hd : Dims m n L) (h : Meets m n cols) {k : Nat} {v : Int} (hv : cols[k]? = some v) : (named L cols)[k]? = some (at2 L k v) := by
  have hk : k < cols.length := (List.getElem?_eq_some_iff.1 hv).1
  have hl : k < L.length := by rw [hd.len, ← h.2.1]; exact hk
  have hb := meets_at h hv
  unfold named at2
  rw [List.getElem?_zipWith, hv, List.getElem?_eq_getElem hl, if_neg (by omega)]
  simp [List.getElem?_eq_getElem hl]
theorem changed_at {m n : Nat} {L : List (List Int)} {cols : List Int} (hd : Dims m n L) (h : Meets m n cols) (d : Int) {k : Nat} {v : Int} (hv : cols[k]? = some v) : (changed L cols d)[k]? = (L[k]?.map (fun r => r.set v.toNat (at2 L k v + d))) := by
  have hk : k < cols.length := (List.getElem?_eq_some_iff.1 hv).1
  have hl : k < L.length := by rw [hd.len, ← h.2.1]; exact hk
  have hb := meets_at h hv
  unfold changed at2
  rw [List.getElem?_zipWith, hv, List.getElem?_eq_getElem hl, if_neg (by omega)]
  simp [List.getElem?_eq_getElem hl]
theorem changed_len {L : List (List Int)} {cols : List Int} (d : Int) (h : cols.length = L.length) : (changed L cols d).length = L.length := by unfold changed; rw [List.length_zipWith]; omega
theorem named_in {m n : Nat} {L : List (List Int)} {cols : List Int} (hd : Dims m n L) : In64 (named L cols) := by
  intro v hv
  unfold named at hv
  obtain ⟨i, hi, e⟩ := List.mem_iff_getElem.1 hv
  rw [List.getElem_zipWith] at e
  rw [List.length_zipWith] at hi
  have h2 := hd.rows _ (List.getElem_mem (show i < L.length by omega))
  subst e
  cases e3 : (L[i]'(by omega))[(cols[i]'(by omega)).toNat]? with
  | none => simp
  | some x => exact h2.2 _ (List.mem_of_getElem? e3)
theorem put_at {m n : Nat} {L : List (List Int)} {cols : List Int} (hd : Dims m n L) (h : Meets m n cols) (d : Int) {k : Nat} {v : Int} (hv : cols[k]? = some v) (hD : Dims m n (upto2 L (changed L cols d) k)) :
    setL (upto2 L (changed L cols d) k) k v (at2 L k v + d) = upto2 L (changed L cols d) (k + 1) := by
  have hk : k < cols.length := (List.getElem?_eq_some_iff.1 hv).1
  have hl : cols.length = L.length := by rw [hd.len]; exact h.2.1
  have hb := meets_at h hv
  have hL : L[k]? = some (L[k]'(by omega)) := List.getElem?_eq_getElem (by omega)
  have hY := changed_at hd h d hv
  rw [hL] at hY
  have hX := upto2_get (X := L) (Y := changed L cols d) (n := L.length) rfl (changed_len d hl) (k := k) (by omega)
  rw [hL] at hX
  have hin : in2 (upto2 L (changed L cols d) k) k v = true := by
    rw [in2_dims hD]
    have := hd.len
    exact decide_eq_true ⟨by omega, by omega, hb.1, hb.2⟩
  rw [← upto2_set (n := L.length) rfl (changed_len d hl) hY]
  unfold setL
  rw [if_pos hin]
  apply List.ext_getElem?
  intro i
  rw [List.getElem?_modify, List.getElem?_set, Int.toNat_natCast]
  have hln := upto2_len (X := L) (Y := changed L cols d) (n := L.length) rfl (changed_len d hl) (k := k) (by omega)
  by_cases e : k = i
  · subst e
    rw [hX, if_pos rfl, hln, if_pos (by omega)]
    simp
  · rw [if_neg e]
    simp [e]
end Go.Proofs.YtmdkdjgamhaeoaaGreat.Lin
/- The walks of package linear (the code's): columns that meet a grid, the numbers that they name, a change, the least and the middle one. -/
namespace Go.Proofs.YtmdkdjgamhaeoaaGreat.Lin
open Go Go.RowKit Lw Grd
set_option linter.unusedVariables false
set_option linter.unusedSimpArgs false
theorem ret_b {a b : Bool} (h : a = b) : Ending.returned (.bool a) = Ending.returned (.bool b) := by rw [h]
theorem meetB_no1 {m n : Nat} {cols : List Int} (h : m = 0) : meetB m n cols = false := decide_eq_false (fun g => by have := g.1; omega)
theorem meetB_no2 {m n : Nat} {cols : List Int} (h : cols.length ≠ m) : meetB m n cols = false := decide_eq_false (fun g => h g.2.1)
theorem meetB_no3 {m n : Nat} {cols : List Int} {k : Nat} {v : Int} (hv : cols[k]? = some v) (h : v < 0 ∨ n ≤ v) : meetB m n cols = false := decide_eq_false (fun g => by have := meets_at g hv; omega)
theorem in_next {n : Nat} {cols : List Int} {k : Nat} {v : Int} (h : ∀ x ∈ cols.take k, 0 ≤ x ∧ x < n) (hv : cols[k]? = some v) (h0 : 0 ≤ v) (h1 : v < n) : ∀ x ∈ cols.take (k + 1), 0 ≤ x ∧ x < (n : Int) := by
  obtain ⟨hk, e⟩ := List.getElem?_eq_some_iff.1 hv
  rw [List.take_succ_eq_append_getElem hk, e]
  intro x hx
  rcases List.mem_append.1 hx with hx | hx
  · exact h x hx
  · simp at hx; subst hx; exact ⟨h0, h1⟩
set_option maxRecDepth 100000 in
theorem meets_eq (p : Addr) (F : Nat → Prop) (m n : Nat) (L : List (List Int)) (A : Option Addr) (N cap : Nat) (cols : List Int) (w : World) (h : PG w p F m n L) (hc : Rd .i64 w A cols) (hl : cols.length = N) (hN : N ≤ 1000) (hz : In64 cols) :
    Calls Tryz.prog 169 #[.pointer (some p), .slice A N cap] w fun e w' => e = .returned (.bool (meetB m n cols)) ∧ w' = w := by
  have HP := Lib.hid h
  have m8 := h.1.m8
  have n128 := h.1.n128
  clear h
  by_cases hm : m = 0
  · have HE := Lib.hid (meetB_no1 (n := n) (cols := cols) hm)
    have t1 : ((m : Int) == 0) = true := by simp; omega
    clear hm hc hl hz
    go_enter Tryz.func169, Tryz.ntmps169
    go_wp2_with (first
        | (go_at_call 150; (with_reducible refine (rows_eq p F m n L _ HP.out).mono ?_); rintro e wx ⟨rfl, hw⟩; subst wx)
        | (go_at_call 136; (with_reducible refine (width_eq p F m n L _ HP.out).mono ?_); rintro e wx ⟨rfl, hw⟩; subst wx))
    go_ret
    exact ⟨ret_b HE.out.symm, rfl⟩
  have t0 : ((m : Int) == 0) = false := by simp; omega
  by_cases hmn : N = m
  · have t1 : ((N : Int) != (m : Int)) = false := by simp; omega
    have HL := Lib.hid hl
    have HC := Lib.hid hc
    have HZ := Lib.hid hz
    have HM : Hid (1 ≤ m ∧ cols.length = m) := Lib.hid ⟨by omega, by omega⟩
    clear hl hc hz
    go_enter Tryz.func169, Tryz.ntmps169
    go_wp2_with (first
        | (go_at_call 150; (with_reducible refine (rows_eq p F m n L _ HP.out).mono ?_); rintro e wx ⟨rfl, hw⟩; subst wx)
        | (go_at_call 136; (with_reducible refine (width_eq p F m n L _ HP.out).mono ?_); rintro e wx ⟨rfl, hw⟩; subst wx))
    go_loopw [23] (fun i wr => ∃ (k : Nat), k ≤ N ∧ i = .int .i64 k ∧ wr = w ∧ ∀ x ∈ cols.take k, 0 ≤ x ∧ x < (n : Int)) (fun i _ => N - (intOf i).toNat)
    case atStart => exact ⟨0, Nat.zero_le _, rfl, rfl, fun x hx => by simp at hx⟩
    case round =>
      obtain ⟨k, hk, rfl, hwr, hA⟩ := hrel
      subst wr
      have HA := Lib.hid hA
      clear hA
      by_cases hlt : k < N
      · obtain ⟨v, hv⟩ : ∃ v, cols[k]? = some v := ⟨_, List.getElem?_eq_getElem (by rw [HL.out]; exact hlt)⟩
        obtain ⟨a, rfl⟩ := HC.out.some_of (by rw [HL.out]; omega)
        have hcell := HC.out.at hv
        have hvb := HZ.out.at hv
        have HV := Lib.hid hv
        clear hv
        by_cases s1 : v < 0
        · have HE := Lib.hid (meetB_no3 (m := m) (n := n) HV.out (.inl s1))
          go_wp2_with (first
        | (go_at_call 150; (with_reducible refine (rows_eq p F m n L _ HP.out).mono ?_); rintro e wx ⟨rfl, hw⟩; subst wx)
        | (go_at_call 136; (with_reducible refine (width_eq p F m n L _ HP.out).mono ?_); rintro e wx ⟨rfl, hw⟩; subst wx))
          go_ret
          exact ⟨ret_b HE.out.symm, rfl⟩
        by_cases s2 : (n : Int) ≤ v
        · have HE := Lib.hid (meetB_no3 (m := m) (n := n) HV.out (.inr s2))
          go_wp2_with (first
        | (go_at_call 150; (with_reducible refine (rows_eq p F m n L _ HP.out).mono ?_); rintro e wx ⟨rfl, hw⟩; subst wx)
        | (go_at_call 136; (with_reducible refine (width_eq p F m n L _ HP.out).mono ?_); rintro e wx ⟨rfl, hw⟩; subst wx))
          go_ret
          exact ⟨ret_b HE.out.symm, rfl⟩
        have HI := Lib.hid (in_next HA.out HV.out (by omega) (by omega))
        go_wp2_with (first
        | (go_at_call 150; (with_reducible refine (rows_eq p F m n L _ HP.out).mono ?_); rintro e wx ⟨rfl, hw⟩; subst wx)
        | (go_at_call 136; (with_reducible refine (width_eq p F m n L _ HP.out).mono ?_); rintro e wx ⟨rfl, hw⟩; subst wx))
        go_roundw
        case rel => exact ⟨k + 1, by omega, by go_num, trivial, HI.out⟩
        case measure => simp [intOf]; omega
      · have HE : Hid (meetB m n cols = true) := Lib.hid (decide_eq_true ⟨HM.out.1, HM.out.2, by have h := HA.out; rwa [List.take_of_length_le (by rw [HL.out]; omega)] at h⟩)
        go_wp2
        go_ret
        exact ⟨ret_b HE.out.symm, rfl⟩
  · have HE := Lib.hid (meetB_no2 (n := n) (cols := cols) (m := m) (by rw [hl]; exact hmn))
    have t1 : ((N : Int) != (m : Int)) = true := by simp; omega
    clear hc hl hz
    go_enter Tryz.func169, Tryz.ntmps169
    go_wp2_with (first
        | (go_at_call 150; (with_reducible refine (rows_eq p F m n L _ HP.out).mono ?_); rintro e wx ⟨rfl, hw⟩; subst wx)
        | (go_at_call 136; (with_reducible refine (width_eq p F m n L _ HP.out).mono ?_); rintro e wx ⟨rfl, hw⟩; subst wx))
    go_ret
    exact ⟨ret_b HE.out.symm, rfl⟩
theorem meets_any (p : Addr) (F : Nat → Prop) (m n : Nat) (L : List (List Int)) (A : Option Addr) (N cap : Nat) (cols : List Int) (w : World) (h : PG w p F m n L) (hc : Rd .i64 w A cols) (hl : cols.length = N) (hN : N ≤ 1000) (hz : In64 cols) (b : Bool) (hb : meetB m n cols = b) :
    Calls Tryz.prog 169 #[.pointer (some p), .slice A N cap] w fun e w' => e = .returned (.bool b) ∧ w' = w := hb ▸ meets_eq p F m n L A N cap cols w h hc hl hN hz
theorem li64_info : (Tryz.prog.info? 2).map (fun i => (i.zero, i.size, i.bytes)) = some (some (.int .i64 0), 1, 8) := by kernel_rfl
theorem li64s_u : Tryz.prog.underlying 54 = some (.slice 2) := by kernel_rfl
theorem read_no (p : Addr) (F : Nat → Prop) (m n : Nat) (L : List (List Int)) (A : Option Addr) (N cap : Nat) (cols : List Int) (w : World) (h : PG w p F m n L) (hc : Rd .i64 w A cols) (hl : cols.length = N) (hN : N ≤ 1000) (hz : In64 cols) (hm : ¬ Meets m n cols) :
    Calls Tryz.prog 162 #[.pointer (some p), .slice A N cap] w fun e w' => e = .returned (.tuple #[.slice none 0 0, .int .i64 1]) ∧ w' = w := by
  have C := Lib.hid (meets_any p F m n L A N cap cols w h hc hl hN hz false (decide_eq_false hm))
  clear h hc hl hz hm
  go_enter Tryz.func162, Tryz.ntmps162
  go_wp2_with (go_at_call 169; (with_reducible refine C.out.mono ?_); rintro e wx ⟨rfl, hw⟩; subst wx)
  go_ret2
  exact ⟨rfl, rfl⟩
theorem rd_far {w : World} {a : Addr} {zs : List Int} {g : Nat} (h : Rd .i64 w (some a) zs) (hl : 0 < zs.length) (hg : w.heap.size ≤ g) : ∀ b, some a = some b → ¬ b.block = g := by
  intro b hb e
  injection hb with hb
  subst hb
  have hc := h.at (List.getElem?_eq_getElem hl)
  have e2 : (a.add 0).block = a.block := by unfold Addr.add; split <;> rfl
  have h2 := cell_lt hc
  rw [e2] at h2
  omega
set_option maxRecDepth 100000 in
set_option maxHeartbeats 4000000 in
theorem read_yes (p : Addr) (F : Nat → Prop) (m n : Nat) (L : List (List Int)) (A : Option Addr) (N cap : Nat) (cols : List Int) (w : World) (h : PG w p F m n L) (hc : Rd .i64 w A cols) (hl : cols.length = N) (hN : N ≤ 1000) (hz : In64 cols) (hm : Meets m n cols) :
    Calls Tryz.prog 162 #[.pointer (some p), .slice A N cap] w fun e w' => ∃ g, e = .returned (.tuple #[.slice (some ⟨g, 0, none⟩) N N, .int .i64 0]) ∧ Ord.Mid w' g 0 (named L cols) ∧ w.heap.size ≤ g ∧ Below w.heap.size w w' := by
  have C := Lib.hid (meets_any p F m n L A N cap cols w h hc hl hN hz true (decide_eq_true hm))
  obtain ⟨i0, hi, hz0, hz1, hz2⟩ := info_parts li64_info
  have hmk : ∀ w, (Instr.makeSlice 54 (.int .i64 (N : Int)) (.int .i64 (N : Int))).run Tryz.prog w = .ok (.slice (some ⟨w.heap.size, 0, none⟩) N N) (w.alloc (.cells (madeCells #[.int .i64 0] N) 2)) := by
    intro w
    have h := run_make (P := Tryz.prog) w 54 2 i0 (.int .i64 0) li64s_u hi hz0 .i64 .i64 N N (by omega) (Int.le_refl _) (by rw [hz2]; omega) (by omega)
    rw [hz1] at h
    simpa [Value.cells] using h
  obtain ⟨a, rfl⟩ := hc.some_of (by have := hm.1; have := hm.2.1; omega)
  have HP := Lib.hid h
  have HL := Lib.hid hl
  have HC := Lib.hid hc
  have HZ := Lib.hid hz
  have HM := Lib.hid hm
  clear hi hz0 hz1 hz2 h hl hc hz hm
  go_enter Tryz.func162, Tryz.ntmps162
  go_wp2_with (go_at_call 169; (with_reducible refine C.out.mono ?_); rintro e wx ⟨rfl, hw⟩; subst wx)
  have HM2 := Lib.hid (mid_made w N 2)
  obtain ⟨w2, hw2⟩ : ∃ w2, w2 = w.alloc (.cells (madeCells #[.int .i64 0] N) 2) := ⟨_, rfl⟩
  rw [← hw2] at HM2 ⊢
  have HB2 : Hid (Below w.heap.size w w2) := Lib.hid (by rw [hw2]; exact Lw.below_alloc (Below.refl _ _) _)
  obtain ⟨g, hg⟩ : ∃ g, w.heap.size = g := ⟨_, rfl⟩
  have HP2 := Lib.hid (pg_up HP.out HB2.out)
  have HC2 := Lib.hid (HC.out.up HB2.out)
  have HFg : Hid (∀ k, F k → ¬ k = g) := Lib.hid (fun k hk => by have := (pgT p F m n L).lt w HP.out k hk; omega)
  have HAg := Lib.hid (rd_far HC.out (by have := HM.out.1; have := HM.out.2.1; omega) (Nat.le_of_eq hg))
  have HD := Lib.hid HP.out.dims
  have hgw : w.heap.size ≤ g := by omega
  rw [hg] at HM2 ⊢
  clear hw2 hg
  obtain ⟨gad, hgad⟩ : ∃ gad : Addr, (⟨g, 0, none⟩ : Addr) = gad := ⟨_, rfl⟩
  have HG := Lib.hid hgad
  rw [hgad]
  go_loopw [18] (fun i wr => ∃ (j : Nat), j ≤ N ∧ i = .int .i64 j ∧ Ord.Mid wr g 0 (upto2 (List.replicate N 0) (named L cols) j) ∧ Kept (fun q => q = g) w2 wr) (fun i _ => N - (intOf i).toNat)
  case atStart => exact ⟨0, Nat.zero_le _, rfl, by rw [upto2_start]; exact HM2.out, Kept.refl _ _⟩
  case round =>
    obtain ⟨j, hj, rfl, hmid, hkept⟩ := hrel
    have HMI := Lib.hid hmid
    have HK := Lib.hid hkept
    clear hmid hkept
    have hnl : (named L cols).length = N := by rw [named_len (by rw [HD.out.len]; exact HM.out.2.1), HD.out.len, ← HM.out.2.1, HL.out]
    have HNL := Lib.hid hnl
    clear hnl
    by_cases hlt : j < N
    · obtain ⟨v, hv⟩ : ∃ v, cols[j]? = some v := ⟨_, List.getElem?_eq_getElem (by rw [HL.out]; exact hlt)⟩
      have hcell := (HC2.out.keep HK.out HAg.out).at hv
      have hvb := HZ.out.at hv
      have HPr : Hid (PG wr p F m n L) := Lib.hid ((pgT p F m n L).keep w2 wr _ HP2.out HK.out HFg.out)
      have HS := Lib.hid (upto2_set (X := List.replicate N 0) (by simp) HNL.out (named_at HD.out HM.out hv))
      have c1 := HMI.out.rd.at (upto2_get (X := List.replicate N 0) (by simp) HNL.out hlt ▸ (by simp [hlt] : (List.replicate N (0 : Int))[j]? = some 0))
      rw [hgad] at c1
      have fz1 := HMI.out.frozen (0 + j)
      rw [← Ord.add_at, hgad] at fz1
      clear hv
      go_wp2_with (go_at_call 138; (with_reducible refine (at_any p F m n L j v _ HPr.out (by omega) (by omega) hvb.1 hvb.2).mono ?_); rintro e5 w5 ⟨rfl, hb5⟩; have fz5 := (HMI.out.up hb5).frozen (0 + j); rw [← Ord.add_at, hgad] at fz5; have e1 := cell_up c1 hb5; have HB5 := Lib.hid hb5; clear hb5)
      go_roundw
      case rel =>
        have hm6 := (HMI.out.up HB5.out).set j (at2 L j v)
        have hk6 : Kept (fun q => q = g) w2 (w5.setCell ⟨g, 0 + j, none⟩ (.int .i64 (at2 L j v))) := (HK.out.then HB5.out).set (.inl rfl) _ _
        rw [HS.out, ← Ord.add_at, hgad] at hm6
        rw [← Ord.add_at, hgad] at hk6
        exact ⟨j + 1, by omega, by go_num, hm6, hk6⟩
      case measure => simp [intOf]; omega
    · have e : j = N := by omega
      subst e
      have hm := HMI.out
      rw [upto2_end (X := List.replicate _ 0) (by simp) HNL.out] at hm
      have HM3 := Lib.hid hm
      clear hm
      go_wp2
      go_ret2
      exact ⟨g, by rw [hgad]; rfl, HM3.out, hgw, HK.out.low HB2.out HB2.out.size (fun q hq => by omega)⟩
theorem readOf_no {m n : Nat} {L : List (List Int)} {cols : List Int} (h : ¬ Meets m n cols) : readOf m n L cols = [] ∧ rdCode m n cols = 1 := ⟨if_neg h, if_neg h⟩
theorem readOf_yes {m n : Nat} {L : List (List Int)} {cols : List Int} (h : Meets m n cols) : readOf m n L cols = named L cols ∧ rdCode m n cols = 0 := ⟨if_pos h, if_pos h⟩
theorem tellings_any (w : World) :
    Calls Tryz.prog 168 #[] w fun e w' => ∃ g, e = .returned (.slice (some ⟨g, 0, none⟩) 2 2) ∧ w'.cell? ⟨g, 0, none⟩ = some (.func (.func 173) #[] #[]) ∧ w'.cell? ⟨g, 1, none⟩ = some (.func (.func 174) #[] #[]) ∧ Below w.heap.size w w' := by
  go_enter Tryz.func168, Tryz.ntmps168
  go_wp2
  go_ret
  exact ⟨w.heap.size, rfl, by simp [go_sem], by simp [go_sem], Lw.below_alloc (Below.refl _ _) _⟩
theorem told_no (p : Addr) (F : Nat → Prop) (m n : Nat) (L : List (List Int)) (A : Option Addr) (N cap : Nat) (cols : List Int) (at' : Int) (w : World) (h : PG w p F m n L) (hc : Rd .i64 w A cols) (hl : cols.length = N) (hN : N ≤ 1000) (hz : In64 cols) (hm : ¬ Meets m n cols) :
    Calls Tryz.prog 161 #[.pointer (some p), .slice A N cap, .int .i64 at'] w fun e w' => e = .returned (.tuple #[.int .i64 0, .int .i64 1]) ∧ w' = w := by
  have C := Lib.hid (read_no p F m n L A N cap cols w h hc hl hN hz hm)
  clear h hc hl hz hm
  go_enter Tryz.func161, Tryz.ntmps161
  go_wp2_with (go_at_call 162; (with_reducible refine C.out.mono ?_); rintro e wx ⟨rfl, hw⟩; subst wx)
  go_ret2
  exact ⟨rfl, rfl⟩
set_option maxRecDepth 100000 in
set_option maxHeartbeats 4000000 in
theorem told_least (p : Addr) (F : Nat → Prop) (m n : Nat) (L : List (List Int)) (A : Option Addr) (N cap : Nat) (cols : List Int) (w : World) (h : PG w p F m n L) (hc : Rd .i64 w A cols) (hl : cols.length = N) (hN : N ≤ 1000) (hz : In64 cols) (hm : Meets m n cols) :
    Calls Tryz.prog 161 #[.pointer (some p), .slice A N cap, .int .i64 0] w fun e w' => e = .returned (.tuple #[.int .i64 (Ord.kv (named L cols) (0)), .int .i64 0]) ∧ Below w.heap.size w w' := by
  have C := Lib.hid (read_yes p F m n L A N cap cols w h hc hl hN hz hm)
  have HL : Hid ((named L cols).length = N) := Lib.hid (by rw [named_len (by rw [h.1.len]; exact hm.2.1), h.1.len, ← hm.2.1, hl])
  have HI : Hid (In64 (named L cols)) := Lib.hid (named_in h.1)
  clear h hc hl hz hm
  go_enter Tryz.func161, Tryz.ntmps161
  go_wp2_with (first
    | (go_at_call 162; (with_reducible refine C.out.mono ?_); rintro e w1 ⟨g1, rfl, hm1, hg1, hb1⟩; have HM1 := Lib.hid hm1; have HB1 := Lib.hid hb1; clear hm1 hb1)
    | (go_at_call 168; (with_reducible refine (tellings_any _).mono ?_); rintro e w2 ⟨g2, rfl, hf0, hf1, hb2⟩; have HB2 := Lib.hid hb2; clear hb2)
    | (go_at_call 173; (with_reducible refine (Ord.min_any (some ⟨g1, 0, none⟩) N N (named L cols) _ (fun e => by cases e) (Nat.le_refl _) (by unfold maxLen; omega) (HM1.out.rd.up HB2.out) HL.out hN HI.out).mono ?_); rintro e w3 ⟨rfl, hb3⟩; have HB3 := Lib.hid hb3; clear hb3))
  go_ret2
  exact ⟨rfl, below_call (below_call HB1.out HB2.out (Nat.le_refl _)) HB3.out (Nat.le_refl _)⟩
set_option maxRecDepth 100000 in
set_option maxHeartbeats 4000000 in
theorem told_middle (p : Addr) (F : Nat → Prop) (m n : Nat) (L : List (List Int)) (A : Option Addr) (N cap : Nat) (cols : List Int) (w : World) (h : PG w p F m n L) (hc : Rd .i64 w A cols) (hl : cols.length = N) (hN : N ≤ 1000) (hz : In64 cols) (hm : Meets m n cols) :
    Calls Tryz.prog 161 #[.pointer (some p), .slice A N cap, .int .i64 1] w fun e w' => e = .returned (.tuple #[.int .i64 (Ord.kv (named L cols) ((((named L cols).length : Int) - 1) / 2)), .int .i64 0]) ∧ Below w.heap.size w w' := by
  have C := Lib.hid (read_yes p F m n L A N cap cols w h hc hl hN hz hm)
  have HL : Hid ((named L cols).length = N) := Lib.hid (by rw [named_len (by rw [h.1.len]; exact hm.2.1), h.1.len, ← hm.2.1, hl])
  have HI : Hid (In64 (named L cols)) := Lib.hid (named_in h.1)
  clear h hc hl hz hm
  go_enter Tryz.func161, Tryz.ntmps161
  go_wp2_with (first
    | (go_at_call 162; (with_reducible refine C.out.mono ?_); rintro e w1 ⟨g1, rfl, hm1, hg1, hb1⟩; have HM1 := Lib.hid hm1; have HB1 := Lib.hid hb1; clear hm1 hb1)
    | (go_at_call 168; (with_reducible refine (tellings_any _).mono ?_); rintro e w2 ⟨g2, rfl, hf0, hf1, hb2⟩; have HB2 := Lib.hid hb2; clear hb2)
    | (go_at_call 174; (with_reducible refine (Ord.median_any (some ⟨g1, 0, none⟩) N N (named L cols) _ (fun e => by cases e) (Nat.le_refl _) (by unfold maxLen; omega) (HM1.out.rd.up HB2.out) HL.out hN HI.out).mono ?_); rintro e w3 ⟨rfl, hb3⟩; have HB3 := Lib.hid hb3; clear hb3))
  go_ret2
  exact ⟨rfl, below_call (below_call HB1.out HB2.out (Nat.le_refl _)) HB3.out (Nat.le_refl _)⟩
theorem least_any (p : Addr) (F : Nat → Prop) (m n : Nat) (L : List (List Int)) (A : Option Addr) (N cap : Nat) (cols : List Int) (w : World) (h : PG w p F m n L) (hc : Rd .i64 w A cols) (hl : cols.length = N) (hN : N ≤ 1000) (hz : In64 cols) :
    Calls Tryz.prog 154 #[.pointer (some p), .slice A N cap] w fun e w' => e = .returned (.tuple #[.int .i64 (Ord.kv (readOf m n L cols) 0), .int .i64 (rdCode m n cols)]) ∧ Below w.heap.size w w' := by
  by_cases hm : Meets m n cols
  · have C := Lib.hid (told_least p F m n L A N cap cols w h hc hl hN hz hm)
    rw [(readOf_yes (L := L) hm).1, (readOf_yes (L := L) hm).2]
    clear h hc hl hz hm
    go_enter Tryz.func154, Tryz.ntmps154
    go_wp2_with (go_at_call 161; (with_reducible refine C.out.mono ?_); rintro e w1 ⟨rfl, hb1⟩; have HB1 := Lib.hid hb1; clear hb1)
    go_ret2
    exact ⟨rfl, HB1.out⟩
  · have C := Lib.hid (told_no p F m n L A N cap cols 0 w h hc hl hN hz hm)
    rw [(readOf_no (L := L) hm).1, (readOf_no (L := L) hm).2]
    rw [(Ord.kv_no (l := []) (k := _) (by simp)).1]
    clear h hc hl hz hm
    go_enter Tryz.func154, Tryz.ntmps154
    go_wp2_with (go_at_call 161; (with_reducible refine C.out.mono ?_); rintro e wx ⟨rfl, hw⟩; subst wx)
    go_ret2
    exact ⟨rfl, Below.refl _ _⟩
theorem middle_any (p : Addr) (F : Nat → Prop) (m n : Nat) (L : List (List Int)) (A : Option Addr) (N cap : Nat) (cols : List Int) (w : World) (h : PG w p F m n L) (hc : Rd .i64 w A cols) (hl : cols.length = N) (hN : N ≤ 1000) (hz : In64 cols) :
    Calls Tryz.prog 155 #[.pointer (some p), .slice A N cap] w fun e w' => e = .returned (.tuple #[.int .i64 (Ord.kv (readOf m n L cols) ((((readOf m n L cols).length : Int) - 1) / 2)), .int .i64 (rdCode m n cols)]) ∧ Below w.heap.size w w' := by
  by_cases hm : Meets m n cols
  · have C := Lib.hid (told_middle p F m n L A N cap cols w h hc hl hN hz hm)
    rw [(readOf_yes (L := L) hm).1, (readOf_yes (L := L) hm).2]
    clear h hc hl hz hm
    go_enter Tryz.func155, Tryz.ntmps155
    go_wp2_with (go_at_call 161; (with_reducible refine C.out.mono ?_); rintro e w1 ⟨rfl, hb1⟩; have HB1 := Lib.hid hb1; clear hb1)
    go_ret2
    exact ⟨rfl, HB1.out⟩
  · have C := Lib.hid (told_no p F m n L A N cap cols 1 w h hc hl hN hz hm)
    rw [(readOf_no (L := L) hm).1, (readOf_no (L := L) hm).2]
    rw [(Ord.kv_no (l := []) (k := _) (by simp)).1]
    clear h hc hl hz hm
    go_enter Tryz.func155, Tryz.ntmps155
    go_wp2_with (go_at_call 161; (with_reducible refine C.out.mono ?_); rintro e wx ⟨rfl, hw⟩; subst wx)
    go_ret2
    exact ⟨rfl, Below.refl _ _⟩
theorem change_no (p : Addr) (F : Nat → Prop) (m n : Nat) (L : List (List Int)) (A : Option Addr) (N cap : Nat) (cols : List Int) (d : Int) (w : World) (h : PG w p F m n L) (hc : Rd .i64 w A cols) (hl : cols.length = N) (hN : N ≤ 1000) (hz : In64 cols) (hm : ¬ Meets m n cols) :
    Calls Tryz.prog 156 #[.pointer (some p), .slice A N cap, .int .i64 d] w fun e w' => e = .returned (.int .i64 1) ∧ w' = w := by
  have C := Lib.hid (read_no p F m n L A N cap cols w h hc hl hN hz hm)
  clear h hc hl hz hm
  go_enter Tryz.func156, Tryz.ntmps156
  go_wp2_with (go_at_call 162; (with_reducible refine C.out.mono ?_); rintro e wx ⟨rfl, hw⟩; subst wx)
  go_ret
  exact ⟨rfl, rfl⟩
/-- The first k sums fit. -/
def sumsFit (Z : List Int) (d : Int) (k : Nat) : Prop := ∀ x ∈ Z.take k, Wid.fit64 (x + d) = true
theorem sums_next {Z : List Int} {d : Int} {k : Nat} {x : Int} (h : sumsFit Z d k) (hx : Z[k]? = some x) (hf : Wid.fit64 (x + d) = true) : sumsFit Z d (k + 1) := by
  obtain ⟨hk, e⟩ := List.getElem?_eq_some_iff.1 hx
  unfold sumsFit
  rw [List.take_succ_eq_append_getElem hk, e]
  intro y hy
  rcases List.mem_append.1 hy with hy | hy
  · exact h y hy
  · simp at hy; subst hy; exact hf
theorem sums_no {L : List (List Int)} {cols : List Int} {d : Int} {k : Nat} {x : Int} (hx : (named L cols)[k]? = some x) (hf : Wid.fit64 (x + d) = false) : chFits L cols d = false := by
  cases h : chFits L cols d with
  | false => rfl
  | true =>
    have h2 := List.all_eq_true.1 h x (List.mem_of_getElem? hx)
    rw [hf] at h2; cases h2
theorem sums_all {L : List (List Int)} {cols : List Int} {d : Int} {k : Nat} (h : sumsFit (named L cols) d k) (hk : (named L cols).length ≤ k) : chFits L cols d = true := by
  unfold sumsFit at h
  rw [List.take_of_length_le hk] at h
  exact List.all_eq_true.2 h
theorem ch_no {m n : Nat} {L : List (List Int)} {cols : List Int} {d : Int} (h : ¬ Meets m n cols) : chCode m n L cols d = 1 ∧ chRes m n L cols d = L := ⟨if_neg h, if_neg (fun g => h g.1)⟩
theorem ch_over {m n : Nat} {L : List (List Int)} {cols : List Int} {d : Int} (h : Meets m n cols) (hf : chFits L cols d = false) : chCode m n L cols d = 4 ∧ chRes m n L cols d = L := by
  unfold chCode chRes
  rw [if_pos h, hf, if_neg (by simp), if_neg (by simp)]
  exact ⟨rfl, rfl⟩
theorem ch_yes {m n : Nat} {L : List (List Int)} {cols : List Int} {d : Int} (h : Meets m n cols) (hf : chFits L cols d = true) : chCode m n L cols d = 0 ∧ chRes m n L cols d = changed L cols d := by
  unfold chCode chRes
  rw [if_pos h, if_pos hf, if_pos ⟨h, hf⟩]
  exact ⟨rfl, rfl⟩
set_option maxRecDepth 100000 in
set_option maxHeartbeats 4000000 in
theorem change_yes (p : Addr) (F : Nat → Prop) (m n : Nat) (L : List (List Int)) (A : Option Addr) (N cap : Nat) (cols : List Int) (d : Int) (w : World) (h : PG w p F m n L) (hc : Rd .i64 w A cols) (hap : ∀ a, A = some a → ¬ F a.block) (hl : cols.length = N) (hN : N ≤ 1000) (hz : In64 cols) (d0 : -9223372036854775808 ≤ d) (d1 : d ≤ 9223372036854775807) (hm : Meets m n cols) :
    Calls Tryz.prog 156 #[.pointer (some p), .slice A N cap, .int .i64 d] w fun e w' => e = .returned (.int .i64 (chCode m n L cols d)) ∧ ∃ F', PG w' p F' m n (chRes m n L cols d) ∧ Kept F w w' ∧ (∀ k, F' k → F k ∨ w.heap.size ≤ k) := by
  have C := Lib.hid (read_yes p F m n L A N cap cols w h hc hl hN hz hm)
  obtain ⟨a, rfl⟩ := hc.some_of (by have := hm.1; have := hm.2.1; omega)
  have HP := Lib.hid h
  have HL := Lib.hid hl
  have HC := Lib.hid hc
  have HZ := Lib.hid hz
  have HM := Lib.hid hm
  have HAP := Lib.hid hap
  have HD := Lib.hid h.dims
  have HNL : Hid ((named L cols).length = N) := Lib.hid (by rw [named_len (by rw [h.1.len]; exact hm.2.1), h.1.len, ← hm.2.1, hl])
  have HNI : Hid (In64 (named L cols)) := Lib.hid (named_in h.1)
  have HSL : Hid (((named L cols).map (fun x => x + d)).length = N) := Lib.hid (by rw [List.length_map]; exact HNL.out)
  clear h hl hc hz hm hap
  go_enter Tryz.func156, Tryz.ntmps156
  go_wp2_with (go_at_call 162; (with_reducible refine C.out.mono ?_); rintro e w1 ⟨g, rfl, hm1, hg1, hb1⟩; have HM1 := Lib.hid hm1; have HB1 := Lib.hid hb1; have HG1 := Lib.hid hg1; clear hm1 hb1 hg1)
  obtain ⟨gad, hgad⟩ : ∃ gad : Addr, (⟨g, 0, none⟩ : Addr) = gad := ⟨_, rfl⟩
  rw [hgad]
  go_loopw [26] (fun i wr => ∃ (j : Nat), j ≤ N ∧ i = .int .i64 j ∧ Ord.Mid wr g 0 (upto2 (named L cols) ((named L cols).map (fun x => x + d)) j) ∧ Kept (fun q => q = g) w1 wr ∧ sumsFit (named L cols) d j) (fun i _ => N - (intOf i).toNat)
  case atStart => exact ⟨0, Nat.zero_le _, rfl, by rw [upto2_start]; exact HM1.out, Kept.refl _ _, fun x hx => by simp at hx⟩
  case round =>
    obtain ⟨j, hj, rfl, hmid, hkept, hfit⟩ := hrel
    have HMI := Lib.hid hmid
    have HK := Lib.hid hkept
    have HF := Lib.hid hfit
    clear hmid hkept hfit
    by_cases hlt : j < N
    · obtain ⟨x, hx⟩ : ∃ x, (named L cols)[j]? = some x := ⟨_, List.getElem?_eq_getElem (by rw [HNL.out]; exact hlt)⟩
      have hxb := HNI.out.at hx
      have c1 := HMI.out.rd.at ((upto2_get HNL.out HSL.out hlt).trans hx)
      rw [hgad] at c1
      have HX := Lib.hid hx
      clear hx
      cases hf : Wid.fit64 (x + d) with
      | false =>
        have HO := Lib.hid (ch_over HM.out (sums_no HX.out hf))
        go_wp2_with (go_at_call 140; (with_reducible refine (Wid.plus_any x d _ hxb.1 hxb.2 d0 d1).mono ?_); rintro e5 w5 ⟨rfl, hb5⟩; rw [hf]; have HB5 := Lib.hid hb5; clear hb5)
        go_ret
        have hbb := ((HK.out.low HB1.out HB1.out.size (fun q hq => by have := HG1.out; omega)))
        have hb6 := below_call hbb HB5.out (Nat.le_refl _)
        exact ⟨ret_i HO.out.1.symm, F, HO.out.2.symm ▸ pg_up HP.out hb6, Kept.of_below hb6, fun k hk => .inl hk⟩
      | true =>
        have HV : Hid (Wid.f64 (x + d) = x + d) := Lib.hid (if_pos hf)
        have HS := Lib.hid (upto2_set HNL.out HSL.out (k := j) (y := x + d) (by rw [List.getElem?_map, HX.out]; rfl))
        have HN := Lib.hid (sums_next HF.out HX.out hf)
        go_wp2_with (go_at_call 140; (with_reducible refine (Wid.plus_any x d _ hxb.1 hxb.2 d0 d1).mono ?_); rintro e5 w5 ⟨rfl, hb5⟩; rw [hf, HV.out]; have fz5 := (HMI.out.up hb5).frozen (0 + j); rw [← Ord.add_at, hgad] at fz5; have e1 := cell_up c1 hb5; have HB5 := Lib.hid hb5; clear hb5)
        go_roundw
        case rel =>
          have hm6 := (HMI.out.up HB5.out).set j (x + d)
          have hk6 : Kept (fun q => q = g) w1 (w5.setCell ⟨g, 0 + j, none⟩ (.int .i64 (x + d))) := (HK.out.then HB5.out).set (.inl rfl) _ _
          rw [HS.out, ← Ord.add_at, hgad] at hm6
          rw [← Ord.add_at, hgad] at hk6
          exact ⟨j + 1, by omega, by go_num, hm6, hk6, HN.out⟩
        case measure => simp [intOf]; omega
    · have e : j = N := by omega
      subst e
      have hf : chFits L cols d = true := sums_all HF.out (by rw [HNL.out]; exact Nat.le_refl _)
      have HO := Lib.hid (ch_yes HM.out hf)
      have HCF := Lib.hid hf
      have hmE := HMI.out
      rw [upto2_end HNL.out HSL.out] at hmE
      have HME := Lib.hid hmE
      clear hmE hf
      obtain ⟨wo, hwo⟩ : ∃ wo, wo = wr := ⟨_, rfl⟩
      subst wr
      have hbb := ((HK.out.low HB1.out HB1.out.size (fun q hq => by have := HG1.out; omega)))
      have HBB := Lib.hid hbb
      have HPo := Lib.hid (pg_up HP.out hbb)
      have HCo := Lib.hid (HC.out.up hbb)
      have HFg : Hid (∀ k, F k → ¬ k = g) := Lib.hid (fun k hk => by have := (pgT p F m n L).lt w HP.out k hk; have := HG1.out; omega)
      have HFl : Hid (∀ k, F k → k < wo.heap.size) := Lib.hid (fun k hk => by have := (pgT p F m n L).lt w HP.out k hk; have := hbb.size; omega)
      have HAl : Hid (∀ b, some a = some b → b.block < wo.heap.size) := Lib.hid (fun b hb => by
        have h2 := HAP.out b hb
        injection hb with hb
        subst hb
        have h1 := cell_lt (HCo.out.at (List.getElem?_eq_getElem (by have := HM.out.1; have := HM.out.2.1; omega : 0 < cols.length)))
        have e2 : (a.add 0).block = a.block := by unfold Addr.add; split <;> rfl
        rwa [e2] at h1)
      have HGl := Lib.hid HME.out.lt
      clear hbb
      go_wp2
      go_loopw [46] (fun i wr => ∃ (k : Nat) (F' : Nat → Prop), k ≤ j ∧ i = .int .i64 k ∧ PG wr p F' m n (upto2 L (changed L cols d) k) ∧ Kept F wo wr ∧ (∀ q, F' q → F q ∨ wo.heap.size ≤ q)) (fun i _ => j - (intOf i).toNat)
      case atStart => exact ⟨0, F, Nat.zero_le _, rfl, by rw [upto2_start]; exact HPo.out, Kept.refl _ _, fun q hq => .inl hq⟩
      case round =>
        obtain ⟨k, F', hk, rfl, hp, hkept, hF⟩ := hrel
        have HPk := Lib.hid hp
        have HKk := Lib.hid hkept
        have HFk := Lib.hid hF
        clear hp hkept hF
        by_cases hlt2 : k < j
        · obtain ⟨v, hv⟩ : ∃ v, cols[k]? = some v := ⟨_, List.getElem?_eq_getElem (by rw [HL.out]; exact hlt2)⟩
          have hvb := HZ.out.at hv
          have hx := named_at HD.out HM.out hv
          have c1 := (HCo.out.keep HKk.out HAP.out).at hv
          have c2 := (HME.out.keep HKk.out (fun h => HFg.out g h rfl)).rd.at (k := .i64) (j := k) (v := at2 L k v + d) (by rw [List.getElem?_map, hx]; rfl)
          rw [hgad] at c2
          have hfx : Wid.fit64 (at2 L k v + d) = true := (List.all_eq_true.1 HCF.out) _ (List.mem_of_getElem? hx)
          have hfb := of_decide_eq_true hfx
          have HPA := Lib.hid (put_at HD.out HM.out d hv HPk.out.dims)
          obtain ⟨s, hs⟩ : ∃ s, s = at2 L k v + d := ⟨_, rfl⟩
          rw [← hs] at c2 hfb HPA
          clear hv hx hfx hs
          go_wp2_with (go_at_call 137; (with_reducible refine (put_any p F' m n _ k v s _ HPk.out (by omega) (by omega) hvb.1 hvb.2 hfb.1 (by omega)).mono ?_); rintro e5 w5 ⟨rfl, F5, hp5, hk5, hf5⟩; have HP5 := Lib.hid hp5; have HK5 := Lib.hid hk5; have HF5 := Lib.hid hf5; clear hp5 hk5 hf5)
          go_roundw
          case rel => exact ⟨k + 1, F5, by omega, by go_num, HPA.out ▸ HP5.out, HKk.out.trans HK5.out (fun q hq h => (HFk.out q h).elim id (fun h2 => by omega)), fun q hq => (HF5.out q hq).elim (fun h => HFk.out q h) (fun h => .inr (by have := HKk.out.size; omega))⟩
          case measure => simp [intOf]; omega
        · have e : k = j := by omega
          subst e
          have hpe := HPk.out
          rw [upto2_end (n := k) (by rw [HD.out.len, ← HM.out.2.1]; exact HL.out) (by rw [changed_len d (by rw [HD.out.len]; exact HM.out.2.1), HD.out.len, ← HM.out.2.1]; exact HL.out)] at hpe
          have HPE := Lib.hid hpe
          clear hpe
          go_wp2
          go_ret
          exact ⟨ret_i HO.out.1.symm, F', HO.out.2.symm ▸ HPE.out, (Kept.of_below HBB.out).trans HKk.out (fun q hq h => h), fun q hq => (HFk.out q hq).elim .inl (fun h => .inr (by have := HBB.out.size; omega))⟩
theorem change_any (p : Addr) (F : Nat → Prop) (m n : Nat) (L : List (List Int)) (A : Option Addr) (N cap : Nat) (cols : List Int) (d : Int) (w : World) (h : PG w p F m n L) (hc : Rd .i64 w A cols) (hap : ∀ a, A = some a → ¬ F a.block) (hl : cols.length = N) (hN : N ≤ 1000) (hz : In64 cols) (d0 : -9223372036854775808 ≤ d) (d1 : d ≤ 9223372036854775807) :
    Calls Tryz.prog 156 #[.pointer (some p), .slice A N cap, .int .i64 d] w fun e w' => e = .returned (.int .i64 (chCode m n L cols d)) ∧ ∃ F', PG w' p F' m n (chRes m n L cols d) ∧ Kept F w w' ∧ (∀ k, F' k → F k ∨ w.heap.size ≤ k) := by
  by_cases hm : Meets m n cols
  · exact change_yes p F m n L A N cap cols d w h hc hap hl hN hz d0 d1 hm
  · rw [(ch_no hm).1, (ch_no hm).2]
    refine (change_no p F m n L A N cap cols d w h hc hl hN hz hm).mono ?_
    rintro e w' ⟨rfl, rfl⟩
    exact ⟨rfl, F, h, Kept.refl _ _, fun k hk => .inl hk⟩
end Go.Proofs.YtmdkdjgamhaeoaaGreat.Lin
/- The walks of the document's own answers for layer 8. Printed by wip/gen/lin.py. -/
namespace Go.Proofs.YtmdkdjgamhaeoaaGreat.Lin
open Go Go.RowKit Lw Grd
set_option linter.unusedVariables false
set_option linter.unusedSimpArgs false
theorem int_info : (Tryz.prog.info? 3).map (fun i => (i.zero, i.size, i.bytes)) = some (some (.int .i64 0), 1, 8) := by kernel_rfl
theorem ints_u : Tryz.prog.underlying 168 = some (.slice 3) := by kernel_rfl
def cutAt (cols : List Int) (v : Nat) (r : Nat) : Int := match cols[r]? with
  | some x => x % 65536 % v
  | none => 0
def cutOf (cols : List Int) (rows v : Nat) : List Int := (List.range rows).map (cutAt cols v)
end Go.Proofs.YtmdkdjgamhaeoaaGreat.Lin
/- The walk of the document's Change. Printed by wip/gen/lin.py. -/
namespace Go.Proofs.YtmdkdjgamhaeoaaGreat.Lin
open Go Go.RowKit Lw Grd
set_option linter.unusedVariables false
set_option linter.unusedSimpArgs false
/-- The first k rows changed. -/
def half (L : List (List Int)) (cols : List Int) (d : Int) (k : Nat) : List (List Int) := changed (L.take k) (cols.take k) d ++ L.drop k
end Go.Proofs.YtmdkdjgamhaeoaaGreat.Lin
/- What the statements of layer 8 lean on. Printed by wip/gen/linlaws.py. -/
namespace Go.Proofs.YtmdkdjgamhaeoaaGreat.Lin
open Go Go.RowKit Lw Grd
set_option linter.unusedVariables false
set_option linter.unusedSimpArgs false
def sZ : List (List Int) := zerosL 2 3
def sA : List (List Int) := chRes 2 3 sZ [0, 1] 5
def sB : List (List Int) := chRes 2 3 sA [0, 2] 7
def sC : List (List Int) := chRes 2 3 sB [0, 3] 7
theorem q1 : chCode 2 3 sZ [0, 1] 5 = 0 := by decide
theorem q2 : chCode 2 3 sA [0, 2] 7 = 0 := by decide
theorem q3 : chCode 2 3 sB [0, 3] 7 = 1 := by decide
theorem q4 : rdCode 2 3 [0, 1] = 0 := by decide
theorem q5 : rdCode 2 3 [0, 2] = 0 := by decide
/-- A step: its columns and what is added. -/
structure StepV where
  A : Option Addr
  n : Nat
  c : Nat
  zs : List Int
  d : Int
structure StepV.In (s : StepV) (w : World) : Prop where
  nil : s.A = none → s.n = 0 ∧ s.c = 0
  nc : s.n ≤ s.c
  cm : s.c ≤ maxLen
  rd : Rd .i64 w s.A s.zs
  len : s.zs.length = s.n
  zb : In64 s.zs
  db : -9223372036854775808 ≤ s.d ∧ s.d ≤ 9223372036854775807
def rowsOf (x : Int) : Nat := (1 + x % 65536 % 5).toNat
def widthOf (x : Int) : Nat := (1 + x % 65536 % 9).toNat
end Go.Proofs.YtmdkdjgamhaeoaaGreat.Lin
