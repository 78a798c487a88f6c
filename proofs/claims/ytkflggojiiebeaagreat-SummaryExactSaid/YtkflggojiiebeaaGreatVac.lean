/- Texts that statements lean on, put together: ShpCode, ShpRef, LinDef, LinCodM, LinCode, LinChg, LinLawA, LinMath, LinDone, LinLstM, ConDef. -/
import Derived.Test.YtkflggojiiebeaaGreatVab
namespace Go.Proofs.YtkflggojiiebeaaGreat.Shp
open Go Go.RowKit Lw
set_option linter.unusedVariables false
set_option linter.unusedSimpArgs false
theorem ret_bl {a b : Bool} (h : a = b) : Ending.returned (.bool a) = Ending.returned (.bool b) := by rw [h]
theorem ret_u {k : IntKind} {a b : Int} (h : a = b) : Ending.returned (.int k a) = Ending.returned (.int k b) := by rw [h]
/-- A number, the least and the greatest that it may be. -/
abbrev Lim3 := Int × Int × Int
def inside (q : Lim3) : Bool := decide (q.2.1 ≤ q.1 ∧ q.1 ≤ q.2.2)
def Lims (w : World) (a : Addr) (qs : List Lim3) : Prop := ∀ (i : Nat) (q : Lim3), qs[i]? = some q → ∃ g o : Nat, a.add (i * 3) = ⟨g, o, none⟩ ∧ w.cell? ⟨g, o, none⟩ = some (.int .i64 q.1) ∧ w.cell? ⟨g, o + 1, none⟩ = some (.int .i64 q.2.1) ∧ w.cell? ⟨g, o + 2, none⟩ = some (.int .i64 q.2.2)
theorem Lims.up {w w' : World} {a : Addr} {qs : List Lim3} (h : Lims w a qs) (hb : Below w.heap.size w w') : Lims w' a qs := fun i q hq => by
  obtain ⟨g, o, e, h1, h2, h3⟩ := h i q hq
  exact ⟨g, o, e, cell_up h1 hb, cell_up h2 hb, cell_up h3 hb⟩
theorem all_next {qs : List Lim3} {k : Nat} {q : Lim3} (hq : qs[k]? = some q) (h : (qs.take k).all inside = true) (hi : inside q = true) : (qs.take (k + 1)).all inside = true := by
  obtain ⟨h1, h2⟩ := List.getElem?_eq_some_iff.1 hq
  rw [List.take_succ_eq_append_getElem h1, List.all_append, h, h2]
  simp [hi]
theorem all_no {qs : List Lim3} {k : Nat} {q : Lim3} (hq : qs[k]? = some q) (hi : inside q = false) : qs.all inside = false := by
  rw [List.all_eq_false]
  exact ⟨q, List.mem_of_getElem? hq, by simp [hi]⟩
theorem within_any (a : Addr) (n c : Nat) (qs : List Lim3) (w : World) (hl : qs.length = n) (hnc : n ≤ c) (hcm : c ≤ maxLen) (h : Lims w a qs) :
    Calls Tryz.prog 82 #[.slice (some a) n c] w fun e w' => e = .returned (.bool (qs.all inside)) ∧ Below w.heap.size w w' := by
  have H := Lib.hid h
  have HL := Lib.hid hl
  unfold maxLen at hcm
  clear h hl
  go_enter Tryz.func82, Tryz.ntmps82
  go_wp2
  go_loopw [7] (fun i wr => ∃ (k : Nat), k ≤ n ∧ i = .int .i64 k ∧ Below w.heap.size w wr ∧ (qs.take k).all inside = true) (fun i _ => n - (intOf i).toNat)
  case atStart => exact ⟨0, Nat.zero_le _, rfl, Below.refl _ _, rfl⟩
  case round =>
    obtain ⟨k, hk, rfl, hb, hA⟩ := hrel
    have HB := Lib.hid hb
    have HA := Lib.hid hA
    clear hb hA
    by_cases hlt : k < n
    · obtain ⟨q1, hq1⟩ : ∃ q1, qs[k]? = some q1 := ⟨_, List.getElem?_eq_getElem (by rw [HL.out]; omega)⟩
      have HQ := Lib.hid hq1
      obtain ⟨g, o, hadd, c1, c2, c3⟩ := (H.out.up HB.out) k q1 hq1
      clear hq1
      obtain ⟨x, lo, hi⟩ := q1
      by_cases t1 : x < lo
      · have HN : Hid (inside (x, lo, hi) = false) := Lib.hid (decide_eq_false (by simp only; omega))
        go_wp2
        go_ret
        exact ⟨ret_bl (all_no HQ.out HN.out).symm, below_call HB.out (by (repeat' (first | (with_reducible first | exact Below.refl _ _ | assumption | refine below_over ?_ _ _ | refine Lw.below_alloc ?_ _ | refine Below.drew ?_ | refine below_drewN ?_ _ | refine Below.setCell ?_ ?_ _) | go_size))) (Nat.le_refl _)⟩
      · by_cases t2 : hi < x
        · have HN : Hid (inside (x, lo, hi) = false) := Lib.hid (decide_eq_false (by simp only; omega))
          go_wp2
          go_ret
          exact ⟨ret_bl (all_no HQ.out HN.out).symm, below_call HB.out (by (repeat' (first | (with_reducible first | exact Below.refl _ _ | assumption | refine below_over ?_ _ _ | refine Lw.below_alloc ?_ _ | refine Below.drew ?_ | refine below_drewN ?_ _ | refine Below.setCell ?_ ?_ _) | go_size))) (Nat.le_refl _)⟩
        · have HN : Hid (inside (x, lo, hi) = true) := Lib.hid (decide_eq_true (by simp only; omega))
          go_wp2
          go_roundw
          case rel => exact ⟨k + 1, by omega, by go_num, below_call HB.out (by (repeat' (first | (with_reducible first | exact Below.refl _ _ | assumption | refine below_over ?_ _ _ | refine Lw.below_alloc ?_ _ | refine Below.drew ?_ | refine below_drewN ?_ _ | refine Below.setCell ?_ ?_ _) | go_size))) (Nat.le_refl _), all_next HQ.out HA.out HN.out⟩
          case measure => simp [intOf]; omega
    · have e1 : qs.take k = qs := List.take_of_length_le (by rw [HL.out]; omega)
      have HA2 := Lib.hid (e1 ▸ HA.out)
      clear e1
      go_wp2
      go_ret
      exact ⟨ret_bl HA2.out.symm, HB.out⟩
def isM (m : Int) : Bool := decide (1 ≤ m ∧ m ≤ 3)
theorem mode_eq (m : Int) (w : World) :
    Calls Tryz.prog 81 #[.int .i64 m] w fun e w' => e = .returned (.bool (isM m)) ∧ w' = w := by
  by_cases h1 : m = 1
  · subst h1
    go_enter Tryz.func81, Tryz.ntmps81
    go_wp2
    go_ret
    exact ⟨rfl, rfl⟩
  by_cases h2 : m = 2
  · subst h2
    go_enter Tryz.func81, Tryz.ntmps81
    go_wp2
    go_ret
    exact ⟨rfl, rfl⟩
  by_cases h3 : m = 3
  · subst h3
    go_enter Tryz.func81, Tryz.ntmps81
    go_wp2
    go_ret
    exact ⟨rfl, rfl⟩
  have HE : Hid (isM m = false) := Lib.hid (decide_eq_false (by omega))
  go_enter Tryz.func81, Tryz.ntmps81
  go_wp2
  go_ret
  exact ⟨ret_bl HE.out.symm, rfl⟩
theorem lims1 {w : World} {B : Nat} {x lo hi : Int} (h0 : w.cell? ⟨B, 0, none⟩ = some (.int .i64 x)) (h1 : w.cell? ⟨B, 1, none⟩ = some (.int .i64 lo)) (h2 : w.cell? ⟨B, 2, none⟩ = some (.int .i64 hi)) : Lims w ⟨B, 0, none⟩ [(x, lo, hi)] := by
  intro i q hq
  match i, hq with
  | 0, hq =>
    simp at hq
    subst hq
    exact ⟨B, 0, rfl, h0, h1, h2⟩
theorem lims3 {w : World} {B : Nat} {x lo hi x2 lo2 hi2 x3 lo3 hi3 : Int} (h0 : w.cell? ⟨B, 0, none⟩ = some (.int .i64 x)) (h1 : w.cell? ⟨B, 1, none⟩ = some (.int .i64 lo)) (h2 : w.cell? ⟨B, 2, none⟩ = some (.int .i64 hi))
    (h3 : w.cell? ⟨B, 3, none⟩ = some (.int .i64 x2)) (h4 : w.cell? ⟨B, 4, none⟩ = some (.int .i64 lo2)) (h5 : w.cell? ⟨B, 5, none⟩ = some (.int .i64 hi2))
    (h6 : w.cell? ⟨B, 6, none⟩ = some (.int .i64 x3)) (h7 : w.cell? ⟨B, 7, none⟩ = some (.int .i64 lo3)) (h8 : w.cell? ⟨B, 8, none⟩ = some (.int .i64 hi3)) : Lims w ⟨B, 0, none⟩ [(x, lo, hi), (x2, lo2, hi2), (x3, lo3, hi3)] := by
  intro i q hq
  match i, hq with
  | 0, hq =>
    simp at hq
    subst hq
    exact ⟨B, 0, rfl, h0, h1, h2⟩
  | 1, hq =>
    simp at hq
    subst hq
    exact ⟨B, 3, rfl, h3, h4, h5⟩
  | 2, hq =>
    simp at hq
    subst hq
    exact ⟨B, 6, rfl, h6, h7, h8⟩
theorem right_any (c : Cfg) (w : World) (h : c.Ok) :
    Calls Tryz.prog 43 #[.agg #[.int .i64 c.bt, .int .i64 c.rw, .int .i64 c.wd, .int .i64 c.md, .int .u64 c.sd]] w fun e w' => e = .returned (.bool (right c)) ∧ Below w.heap.size w w' := by
  cases hm : isM c.md with
  | false =>
    have HR : Hid (right c = false) := Lib.hid (decide_eq_false (fun hr => by
      have h2 := of_decide_eq_false hm
      exact h2 ⟨hr.2.2.2.2.2.2.1, hr.2.2.2.2.2.2.2⟩))
    clear h
    go_enter Tryz.func43, Tryz.ntmps43
    go_wp2_with (go_at_call 81; (with_reducible refine (mode_eq c.md _).mono ?_); rintro e w' ⟨rfl, rfl⟩; rw [hm])
    go_ret
    exact ⟨ret_bl HR.out.symm, by (repeat' (first | (with_reducible first | exact Below.refl _ _ | assumption | refine below_over ?_ _ _ | refine Lw.below_alloc ?_ _ | refine Below.drew ?_ | refine below_drewN ?_ _ | refine Below.setCell ?_ ?_ _) | go_size))⟩
  | true =>
    have HR : Hid ((inside (c.bt, 1, 59) && (inside (c.rw, 1, 8) && inside (c.wd, 1, 128))) = right c) := Lib.hid (by
      obtain ⟨h2, h3⟩ := of_decide_eq_true hm
      rw [Bool.eq_iff_iff, Bool.and_eq_true, Bool.and_eq_true]
      unfold inside right
      rw [decide_eq_true_iff, decide_eq_true_iff, decide_eq_true_iff, decide_eq_true_iff]
      exact ⟨fun ⟨⟨a, b⟩, ⟨c, d⟩, e, f⟩ => ⟨a, b, c, d, e, f, h2, h3⟩, fun ⟨a, b, c, d, e, f, _, _⟩ => ⟨⟨a, b⟩, ⟨c, d⟩, e, f⟩⟩)
    clear h
    go_enter Tryz.func43, Tryz.ntmps43
    go_wp2_with (first
      | (go_at_call 81; (with_reducible refine (mode_eq c.md _).mono ?_); rintro e w' ⟨rfl, rfl⟩; rw [hm])
      | (go_at_call 82; (with_reducible refine (within_any _ 3 3 [(c.bt, 1, 59), (c.rw, 1, 8), (c.wd, 1, 128)] _ rfl (Nat.le_refl _) (by decide) (lims3 (by simp [go_sem]) (by simp [go_sem]) (by simp [go_sem]) (by simp [go_sem]) (by simp [go_sem]) (by simp [go_sem]) (by simp [go_sem]) (by simp [go_sem]) (by simp [go_sem]))).mono ?_); rintro e w' ⟨rfl, hb⟩; obtain ⟨bs, d, rfl⟩ := below_grow hb; clear hb))
    go_ret
    exact ⟨ret_bl HR.out, by (repeat' (first | (with_reducible first | exact Below.refl _ _ | assumption | refine below_over ?_ _ _ | refine Lw.below_alloc ?_ _ | refine Below.drew ?_ | refine below_drewN ?_ _ | refine Below.setCell ?_ ?_ _) | go_size))⟩
def hasL (c : Cfg) (l : Int) : Bool := decide (IsRight c ∧ 0 ≤ l ∧ l ≤ c.bt)
theorem has_any (c : Cfg) (l : Int) (w : World) (h : c.Ok) :
    Calls Tryz.prog 89 #[.agg #[.int .i64 c.bt, .int .i64 c.rw, .int .i64 c.wd, .int .i64 c.md, .int .u64 c.sd], .int .i64 l] w fun e w' => e = .returned (.bool (hasL c l)) ∧ Below w.heap.size w w' := by
  have HO := Lib.hid h
  clear h
  cases hm : right c with
  | false =>
    have HR : Hid (hasL c l = false) := Lib.hid (decide_eq_false (fun hr => (of_decide_eq_false hm) hr.1))
    go_enter Tryz.func89, Tryz.ntmps89
    go_wp2_with (go_at_call 43; (with_reducible refine (right_any c _ HO.out).mono ?_); rintro e w' ⟨rfl, hb⟩; obtain ⟨bs, d, rfl⟩ := below_grow hb; clear hb; rw [hm])
    go_ret
    exact ⟨ret_bl HR.out.symm, by (repeat' (first | (with_reducible first | exact Below.refl _ _ | assumption | refine below_over ?_ _ _ | refine Lw.below_alloc ?_ _ | refine Below.drew ?_ | refine below_drewN ?_ _ | refine Below.setCell ?_ ?_ _) | go_size))⟩
  | true =>
    have HR : Hid (inside (l, 0, c.bt) = hasL c l) := Lib.hid (by
      have h2 := of_decide_eq_true hm
      rw [Bool.eq_iff_iff]
      simp only [inside, hasL, decide_eq_true_eq]
      exact ⟨fun h => ⟨h2, h⟩, fun h => h.2⟩)
    go_enter Tryz.func89, Tryz.ntmps89
    go_wp2_with (first
      | (go_at_call 43; (with_reducible refine (right_any c _ HO.out).mono ?_); rintro e w' ⟨rfl, hb⟩; obtain ⟨bs, d, rfl⟩ := below_grow hb; clear hb; rw [hm])
      | (go_at_call 82; (with_reducible refine (within_any _ 1 1 [(l, 0, c.bt)] _ rfl (Nat.le_refl _) (by decide) (lims1 (by simp [go_sem]) (by simp [go_sem]) (by simp [go_sem]))).mono ?_); rintro e w' ⟨rfl, hb⟩; obtain ⟨bs, d, rfl⟩ := below_grow hb; clear hb))
    go_ret
    exact ⟨ret_bl HR.out, by (repeat' (first | (with_reducible first | exact Below.refl _ _ | assumption | refine below_over ?_ _ _ | refine Lw.below_alloc ?_ _ | refine Below.drew ?_ | refine below_drewN ?_ _ | refine Below.setCell ?_ ?_ _) | go_size))⟩
theorem keys_any (c : Cfg) (l : Int) (w : World) (h : c.Ok) (l0 : -9223372036854775808 ≤ l) (l1 : l ≤ 9223372036854775807) :
    Calls Tryz.prog 46 #[.agg #[.int .i64 c.bt, .int .i64 c.rw, .int .i64 c.wd, .int .i64 c.md, .int .u64 c.sd], .int .i64 l] w fun e w' => e = .returned (.int .u64 (keys c l)) ∧ Below w.heap.size w w' := by
  have HO := Lib.hid h
  clear h
  cases hm : hasL c l with
  | false =>
    have HR : Hid (keys c l = 0) := Lib.hid (keys_no (of_decide_eq_false hm))
    go_enter Tryz.func46, Tryz.ntmps46
    go_wp2_with (go_at_call 89; (with_reducible refine (has_any c l _ HO.out).mono ?_); rintro e w' ⟨rfl, hb⟩; obtain ⟨bs, d, rfl⟩ := below_grow hb; clear hb; rw [hm])
    go_ret
    exact ⟨ret_u HR.out.symm, by (repeat' (first | (with_reducible first | exact Below.refl _ _ | assumption | refine below_over ?_ _ _ | refine Lw.below_alloc ?_ _ | refine Below.drew ?_ | refine below_drewN ?_ _ | refine Below.setCell ?_ ?_ _) | go_size))⟩
  | true =>
    obtain ⟨h2, h3, h4⟩ := of_decide_eq_true hm
    have HR := Lib.hid (keys_yes h2 h3 h4)
    have kb := keys_bd c l
    have b59 := h2.2.1
    have w1 : IntKind.i64.wrap (c.bt - l) = c.bt - l := IntWalk.i64_in _ ⟨by omega, by omega⟩
    have w2 : IntKind.u64.wrap (2 ^ (c.bt - l).toNat) = keys c l := by rw [← HR.out]; exact IntWalk.u64_in _ ⟨by omega, by omega⟩
    clear h2
    go_enter Tryz.func46, Tryz.ntmps46
    go_wp2_with (go_at_call 89; (with_reducible refine (has_any c l _ HO.out).mono ?_); rintro e w' ⟨rfl, hb⟩; obtain ⟨bs, d, rfl⟩ := below_grow hb; clear hb; rw [hm])
    go_ret
    refine ⟨rfl, by (repeat' (first | (with_reducible first | exact Below.refl _ _ | assumption | refine below_over ?_ _ _ | refine Lw.below_alloc ?_ _ | refine Below.drew ?_ | refine below_drewN ?_ _ | refine Below.setCell ?_ ?_ _) | go_size))⟩
set_option maxRecDepth 100000 in
theorem exact_any (c : Cfg) (l : Int) (w : World) (h : c.Ok) (l0 : -9223372036854775808 ≤ l) (l1 : l ≤ 9223372036854775807) :
    Calls Tryz.prog 83 #[.agg #[.int .i64 c.bt, .int .i64 c.rw, .int .i64 c.wd, .int .i64 c.md, .int .u64 c.sd], .int .i64 l] w fun e w' => e = .returned (.bool (exactB c l)) ∧ Below w.heap.size w w' := by
  have HO := Lib.hid h
  clear h
  cases hm : hasL c l with
  | true =>
    obtain ⟨h2, h3, h4⟩ := of_decide_eq_true hm
    have HR := Lib.hid (keys_pos.2 ⟨h2, h3, h4⟩)
    have w1 : IntKind.u64.wrap c.wd = c.wd := IntWalk.u64_in _ ⟨by have := h2.2.2.2.2.1; omega, by have := h2.2.2.2.2.2.1; omega⟩
    clear h2 h3 h4
    go_enter Tryz.func83, Tryz.ntmps83
    go_wp2
    go_region_held3 (fun w' => w'.cell? ⟨w.heap.size, 0, none⟩ = some (.int .i64 c.bt) ∧ w'.cell? ⟨w.heap.size, 1, none⟩ = some (.int .i64 c.rw) ∧ w'.cell? ⟨w.heap.size, 2, none⟩ = some (.int .i64 c.wd) ∧ w'.cell? ⟨w.heap.size, 3, none⟩ = some (.int .i64 c.md) ∧ w'.cell? ⟨w.heap.size, 4, none⟩ = some (.int .u64 c.sd)) (simp [go_sem]) (first
      | (go_at_call 89; (with_reducible refine (has_any c l _ HO.out).mono ?_); rintro e w' ⟨rfl, hb⟩; obtain ⟨bs, d, rfl⟩ := below_grow hb; clear hb; rw [hm])
      | (go_at_call 46; (with_reducible refine (keys_any c l _ HO.out l0 l1).mono ?_); rintro e w' ⟨rfl, hb⟩; obtain ⟨bs, d, rfl⟩ := below_grow hb; clear hb))
    all_goals go_wp2
    all_goals go_ret
    all_goals (refine ⟨ret_bl ?_, by (repeat' (first | (with_reducible first | exact Below.refl _ _ | assumption | refine below_over ?_ _ _ | refine Lw.below_alloc ?_ _ | refine Below.drew ?_ | refine below_drewN ?_ _ | refine Below.setCell ?_ ?_ _) | go_size))⟩)
    all_goals (unfold exactB; have := HR.out; simp [this])
  | false =>
    have HR : Hid (exactB c l = false) := Lib.hid (decide_eq_false (by rw [keys_no (of_decide_eq_false hm)]; omega))
    go_enter Tryz.func83, Tryz.ntmps83
    go_wp2
    refine wp_region_held_drew (S := (fun w' => w'.cell? ⟨w.heap.size, 0, none⟩ = some (.int .i64 c.bt) ∧ w'.cell? ⟨w.heap.size, 1, none⟩ = some (.int .i64 c.rw) ∧ w'.cell? ⟨w.heap.size, 2, none⟩ = some (.int .i64 c.wd) ∧ w'.cell? ⟨w.heap.size, 3, none⟩ = some (.int .i64 c.md) ∧ w'.cell? ⟨w.heap.size, 4, none⟩ = some (.int .u64 c.sd))) (by kernel_rfl) (by simp [go_sem]) (fun hHeld => ?_)
    refine wpAnyH_take (i := 0) (v := ?_) rfl (by kernel_rfl) (by kernel_rfl) (by kernel_rfl) (fun _ _ _ h => h) (Or.inl ⟨by rfl, ?_⟩) hHeld ?_
    rotate_left
    · intro w hSw
      (try dsimp only at hSw)
      go_simp
      (try with_reducible rfl)
    (try simp only [List.getElem_toArray, List.getElem_cons_zero, List.getElem_cons_succ, Act.put, List.setIfInBounds_toArray, List.set_cons_zero, List.set_cons_succ])
    refine wpAnyH_take (i := 1) (v := ?_) rfl (by kernel_rfl) (by kernel_rfl) (by kernel_rfl) (fun _ _ _ h => h) (Or.inl ⟨by rfl, ?_⟩) hHeld ?_
    rotate_left
    · intro w hSw
      (try dsimp only at hSw)
      go_simp
      (try with_reducible rfl)
    (try simp only [List.getElem_toArray, List.getElem_cons_zero, List.getElem_cons_succ, Act.put, List.setIfInBounds_toArray, List.set_cons_zero, List.set_cons_succ])
    refine wpAnyH_ready (rs := [2]) (by kernel_rfl) (by simp) ?_
    refine AllReadyH.cons rfl (fun K hK => ?_) AllReadyH.nil
    go_simp
    (go_at_call 89; (with_reducible refine (has_any c l _ HO.out).mono ?_); rintro e w' ⟨rfl, hb⟩; obtain ⟨bs, d, rfl⟩ := below_grow hb; clear hb; rw [hm])
    refine hK.out _ _ (by simp [go_sem]) (fun hHeld => ?_)
    clear hK K
    (try simp only [List.getElem_toArray, List.getElem_cons_zero, List.getElem_cons_succ, Act.put, List.setIfInBounds_toArray, List.set_cons_zero, List.set_cons_succ])
    refine wpAnyH_take (i := 3) (v := ?_) rfl (by kernel_rfl) (by kernel_rfl) (by kernel_rfl) (fun _ _ _ h => h) (Or.inl ⟨by rfl, ?_⟩) hHeld ?_
    rotate_left
    · intro w hSw
      (try dsimp only at hSw)
      go_simp
      (try with_reducible rfl)
    (try simp only [List.getElem_toArray, List.getElem_cons_zero, List.getElem_cons_succ, Act.put, List.setIfInBounds_toArray, List.set_cons_zero, List.set_cons_succ])
    refine wpAnyH_take (i := 4) (v := undef) rfl (by kernel_rfl) (by kernel_rfl) (by kernel_rfl) (fun _ _ _ h => h) (Or.inr ⟨by rfl, rfl⟩) hHeld ?_
    (try simp only [List.getElem_toArray, List.getElem_cons_zero, List.getElem_cons_succ, Act.put, List.setIfInBounds_toArray, List.set_cons_zero, List.set_cons_succ])
    refine wpAnyH_take (i := 5) (v := undef) rfl (by kernel_rfl) (by kernel_rfl) (by kernel_rfl) (fun _ _ _ h => h) (Or.inr ⟨by rfl, rfl⟩) hHeld ?_
    (try simp only [List.getElem_toArray, List.getElem_cons_zero, List.getElem_cons_succ, Act.put, List.setIfInBounds_toArray, List.set_cons_zero, List.set_cons_succ])
    refine wpAnyH_take (i := 7) (v := undef) rfl (by kernel_rfl) (by kernel_rfl) (by kernel_rfl) (fun _ _ _ h => h) (Or.inr ⟨by rfl, rfl⟩) hHeld ?_
    (try simp only [List.getElem_toArray, List.getElem_cons_zero, List.getElem_cons_succ, Act.put, List.setIfInBounds_toArray, List.set_cons_zero, List.set_cons_succ])
    refine wpAnyH_take (i := 8) (v := undef) rfl (by kernel_rfl) (by kernel_rfl) (by kernel_rfl) (fun _ _ _ h => h) (Or.inr ⟨by rfl, rfl⟩) hHeld ?_
    (try simp only [List.getElem_toArray, List.getElem_cons_zero, List.getElem_cons_succ, Act.put, List.setIfInBounds_toArray, List.set_cons_zero, List.set_cons_succ])
    refine wpAnyH_take (i := 9) (v := undef) rfl (by kernel_rfl) (by kernel_rfl) (by kernel_rfl) (fun _ _ _ h => h) (Or.inr ⟨by rfl, rfl⟩) hHeld ?_
    (try simp only [List.getElem_toArray, List.getElem_cons_zero, List.getElem_cons_succ, Act.put, List.setIfInBounds_toArray, List.set_cons_zero, List.set_cons_succ])
    refine wpAnyH_ready (rs := [6]) (by kernel_rfl) (by simp) ?_
    refine AllReadyH.cons rfl (fun K hK => ?_) AllReadyH.nil
    go_simp
    refine hK.out _ _ (by simp [go_sem]) (fun hHeld => ?_)
    clear hK K
    (try simp only [List.getElem_toArray, List.getElem_cons_zero, List.getElem_cons_succ, Act.put, List.setIfInBounds_toArray, List.set_cons_zero, List.set_cons_succ])
    refine wpAnyH_take (i := 10) (v := undef) rfl (by kernel_rfl) (by kernel_rfl) (by kernel_rfl) (fun _ _ _ h => h) (Or.inr ⟨by rfl, rfl⟩) hHeld ?_
    (try simp only [List.getElem_toArray, List.getElem_cons_zero, List.getElem_cons_succ, Act.put, List.setIfInBounds_toArray, List.set_cons_zero, List.set_cons_succ])
    refine wpAnyH_take (i := 11) (v := ?_) rfl (by kernel_rfl) (by kernel_rfl) (by kernel_rfl) (fun _ _ _ h => h) (Or.inl ⟨by rfl, ?_⟩) hHeld ?_
    rotate_left
    · intro w hSw
      (try dsimp only at hSw)
      go_simp
      (try with_reducible rfl)
    (try simp only [List.getElem_toArray, List.getElem_cons_zero, List.getElem_cons_succ, Act.put, List.setIfInBounds_toArray, List.set_cons_zero, List.set_cons_succ])
    refine wpAnyH_take (i := 12) (v := ?_) rfl (by kernel_rfl) (by kernel_rfl) (by kernel_rfl) (fun _ _ _ h => h) (Or.inl ⟨by rfl, ?_⟩) hHeld ?_
    rotate_left
    · intro w hSw
      (try dsimp only at hSw)
      go_simp
      (try with_reducible rfl)
    (try simp only [List.getElem_toArray, List.getElem_cons_zero, List.getElem_cons_succ, Act.put, List.setIfInBounds_toArray, List.set_cons_zero, List.set_cons_succ])
    refine wpAnyH_done (by kernel_rfl) ?_ _
    go_wp2
    go_ret
    exact ⟨ret_bl HR.out.symm, by (repeat' (first | (with_reducible first | exact Below.refl _ _ | assumption | refine below_over ?_ _ _ | refine Lw.below_alloc ?_ _ | refine Below.drew ?_ | refine below_drewN ?_ _ | refine Below.setCell ?_ ?_ _) | go_size))⟩
theorem above_any (c : Cfg) (l k : Int) (w : World) (h : c.Ok) (l0 : -9223372036854775808 ≤ l) (l1 : l ≤ 9223372036854775807) (k0 : 0 ≤ k) (k1 : k ≤ 18446744073709551615) :
    Calls Tryz.prog 91 #[.agg #[.int .i64 c.bt, .int .i64 c.rw, .int .i64 c.wd, .int .i64 c.md, .int .u64 c.sd], .int .i64 l, .int .u64 k] w fun e w' => e = .returned (.tuple #[.int .u64 (aboveV c l k), .bool (aboveOk c l k)]) ∧ Below w.heap.size w w' := by
  have HO := Lib.hid h
  clear h
  cases hm : hasL c l with
  | false =>
    have e1 : aboveOk c l k = false := decide_eq_false (fun h => h.1 (keys_no (of_decide_eq_false hm)))
    have e2 : aboveV c l k = 0 := by unfold aboveV; rw [e1]; rfl
    rw [e1, e2]
    clear e1 e2
    go_enter Tryz.func91, Tryz.ntmps91
    go_wp2_with (go_at_call 89; (with_reducible refine (has_any c l _ HO.out).mono ?_); rintro e w' ⟨rfl, hb⟩; obtain ⟨bs, d, rfl⟩ := below_grow hb; clear hb; rw [hm])
    go_ret2
    exact ⟨rfl, by (repeat' (first | (with_reducible first | exact Below.refl _ _ | assumption | refine below_over ?_ _ _ | refine Lw.below_alloc ?_ _ | refine Below.drew ?_ | refine below_drewN ?_ _ | refine Below.setCell ?_ ?_ _) | go_size))⟩
  | true =>
    obtain ⟨h2, h3, h4⟩ := of_decide_eq_true hm
    have b59 := h2.2.1
    have hk0 := keys_pos.2 ⟨h2, h3, h4⟩
    by_cases hk : keys c 0 ≤ k
    · have e1 : aboveOk c l k = false := decide_eq_false (by omega)
      have e2 : aboveV c l k = 0 := by unfold aboveV; rw [e1]; rfl
      rw [e1, e2]
      clear e1 e2 h2 hk0
      go_enter Tryz.func91, Tryz.ntmps91
      go_wp2_with (first
        | (go_at_call 89; (with_reducible refine (has_any c l _ HO.out).mono ?_); rintro e w' ⟨rfl, hb⟩; obtain ⟨bs, d, rfl⟩ := below_grow hb; clear hb; rw [hm])
        | (go_at_call 46; (with_reducible refine (keys_any c 0 _ HO.out (by omega) (by omega)).mono ?_); rintro e w' ⟨rfl, hb⟩; obtain ⟨bs, d, rfl⟩ := below_grow hb; clear hb))
      go_ret2
      exact ⟨rfl, by (repeat' (first | (with_reducible first | exact Below.refl _ _ | assumption | refine below_over ?_ _ _ | refine Lw.below_alloc ?_ _ | refine Below.drew ?_ | refine below_drewN ?_ _ | refine Below.setCell ?_ ?_ _) | go_size))⟩
    · have e1 : aboveOk c l k = true := decide_eq_true (by omega)
      have e2 : aboveV c l k = k / 2 ^ l.toNat := if_pos e1
      have e3 : IntKind.u64.wrap (k / 2 ^ l.toNat) = k / 2 ^ l.toNat := IntWalk.u64_in _ ⟨Int.ediv_nonneg k0 (Int.le_of_lt (Int.pow_pos (by omega))), Int.le_trans (Int.ediv_le_self _ k0) (by omega)⟩
      rw [e1, e2]
      clear e1 e2 h2 hk0
      go_enter Tryz.func91, Tryz.ntmps91
      go_wp2_with (first
        | (go_at_call 89; (with_reducible refine (has_any c l _ HO.out).mono ?_); rintro e w' ⟨rfl, hb⟩; obtain ⟨bs, d, rfl⟩ := below_grow hb; clear hb; rw [hm])
        | (go_at_call 46; (with_reducible refine (keys_any c 0 _ HO.out (by omega) (by omega)).mono ?_); rintro e w' ⟨rfl, hb⟩; obtain ⟨bs, d, rfl⟩ := below_grow hb; clear hb))
      go_ret2
      exact ⟨rfl, by (repeat' (first | (with_reducible first | exact Below.refl _ _ | assumption | refine below_over ?_ _ _ | refine Lw.below_alloc ?_ _ | refine Below.drew ?_ | refine below_drewN ?_ _ | refine Below.setCell ?_ ?_ _) | go_size))⟩
theorem pair_bd (s l : Int) (r : Nat) : (0 ≤ Sed.pairA s l r ∧ Sed.pairA s l r ≤ 18446744073709551615) ∧ (0 ≤ Sed.pairB s l r ∧ Sed.pairB s l r ≤ 18446744073709551615) := by
  by_cases h : Sed.okRow l r
  · have h1 := Sed.pairA_bd s l r h
    have h2 := Sed.pairB_bd s l r h
    omega
  · have h1 : Sed.pairA s l r = 0 := if_neg h
    have h2 : Sed.pairB s l r = 0 := if_neg h
    omega
theorem column_any (c : Cfg) (l k : Int) (r : Nat) (b0 b1 b2 : Nat) (w : World) (h : c.Ok) (l0 : -9223372036854775808 ≤ l) (l1 : l ≤ 9223372036854775807) (k0 : 0 ≤ k) (k1 : k ≤ 18446744073709551615) (hr : r ≤ 8)
    (c2 : w.cell? ⟨b0, 2, none⟩ = some (.int .i64 c.wd)) (c4 : w.cell? ⟨b0, 4, none⟩ = some (.int .u64 c.sd)) (cl : w.cell? ⟨b1, 0, none⟩ = some (.int .i64 l)) (ck : w.cell? ⟨b2, 0, none⟩ = some (.int .u64 k)) :
    Calls Tryz.prog 220 #[.int .i64 (r : Int), .pointer (some ⟨b0, 0, none⟩), .pointer (some ⟨b1, 0, none⟩), .pointer (some ⟨b2, 0, none⟩)] w fun e w' => e = .returned (.int .i64 (col c l k r)) ∧ Below w.heap.size w w' := by
  have hp := pair_bd c.sd l r
  have HO := Lib.hid h
  clear h
  go_enter Tryz.func220, Tryz.ntmps220
  go_wp2_with (first
    | (go_at_call 221; (with_reducible refine (Sed.pair_any c.sd l r _ l0 l1 (by omega) (by omega)).mono ?_); rintro e w5 ⟨rfl, hb⟩; have d2 := cell_up c2 hb; have dk := cell_up ck hb; have HB5 := Lib.hid hb; clear hb c2 c4 cl ck)
    | (go_at_call 222; (with_reducible refine (Hsh.bucket_any (Sed.pairA c.sd l r) (Sed.pairB c.sd l r) k c.wd _ hp.1.1 hp.1.2 hp.2.1 hp.2.2 k0 k1 HO.out.w0 HO.out.w1).mono ?_); rintro e w6 ⟨rfl, hb⟩; have HB6 := Lib.hid hb; clear hb))
  go_ret
  exact ⟨rfl, below_call HB5.out HB6.out (Nat.le_refl _)⟩
def mixC (c : Cfg) (l k : Int) (n j : Nat) : List Int := (List.range n).map (fun r => if r < j then col c l k r else 0)
theorem mixC_start (c : Cfg) (l k : Int) (n : Nat) : mixC c l k n 0 = List.replicate n 0 := by
  apply List.ext_getElem
  · simp [mixC]
  · intro i h1 h2
    simp [mixC]
theorem mixC_get (c : Cfg) (l k : Int) {n j : Nat} (hj : j < n) : (mixC c l k n j)[j]? = some 0 := by
  simp [mixC, hj]
theorem mixC_set (c : Cfg) (l k : Int) {n j : Nat} (hj : j < n) : (mixC c l k n j).set j (col c l k j) = mixC c l k n (j + 1) := by
  apply List.ext_getElem
  · simp [mixC]
  · intro i h1 h2
    rw [List.getElem_set]
    simp only [mixC, List.getElem_map, List.getElem_range]
    by_cases e : j = i
    · subst e
      rw [if_pos rfl, if_pos (by omega)]
    · rw [if_neg e]
      by_cases h3 : i < j
      · rw [if_pos h3, if_pos (by omega)]
      · rw [if_neg h3, if_neg (by omega)]
theorem mixC_end (c : Cfg) (l k : Int) (n : Nat) : mixC c l k n n = (List.range n).map (col c l k) := by
  apply List.ext_getElem
  · simp [mixC]
  · intro i h1 h2
    simp only [mixC, List.length_map, List.length_range] at h1
    simp only [mixC, List.getElem_map, List.getElem_range]
    rw [if_pos h1]
theorem int_info : (Tryz.prog.info? 3).map (fun i => (i.zero, i.size, i.bytes)) = some (some (.int .i64 0), 1, 8) := by kernel_rfl
theorem ints_u : Tryz.prog.underlying 228 = some (.slice 3) := by kernel_rfl
theorem mid_made (w : World) (q : Nat) (e : TypeId) : Ord.Mid (w.alloc (.cells (madeCells #[.int .i64 0] q) e)) w.heap.size 0 (List.replicate q 0) := by
  refine ⟨_, _, heap_alloc_new w _, fun j v hv => ?_⟩
  have h2 := toList_madeCells_one (.int .i64 0) q
  rw [List.getElem?_replicate] at hv
  split at hv
  · rename_i hj
    injection hv with hv
    subst hv
    rw [← Array.getElem?_toList, h2, Nat.zero_add, List.getElem?_replicate, if_pos hj]
  · cases hv
theorem kept_low {B : Nat} {w w2 w3 : World} {g : Nat} (h : Kept (fun q => q = g) w2 w3) (hb : Below B w w2) (hB : B ≤ w2.heap.size) (hg : B ≤ g) : Below B w w3 := h.low hb hB (fun q hq => by omega)
set_option maxRecDepth 100000 in
set_option maxHeartbeats 4000000 in
theorem columns_no (c : Cfg) (l k : Int) (w : World) (h : c.Ok) (l0 : -9223372036854775808 ≤ l) (l1 : l ≤ 9223372036854775807) (hk : keys c l ≤ k) :
    Calls Tryz.prog 215 #[.agg #[.int .i64 c.bt, .int .i64 c.rw, .int .i64 c.wd, .int .i64 c.md, .int .u64 c.sd], .int .i64 l, .int .u64 k] w fun e w' => e = .returned (.slice none 0 0) ∧ Below w.heap.size w w' := by
  have HO := Lib.hid h
  clear h
  go_enter Tryz.func215, Tryz.ntmps215
  go_wp2
  go_region_held3 (fun w' => w'.cell? ⟨w.heap.size, 0, none⟩ = some (.int .i64 c.bt) ∧ w'.cell? ⟨w.heap.size, 1, none⟩ = some (.int .i64 c.rw) ∧ w'.cell? ⟨w.heap.size, 2, none⟩ = some (.int .i64 c.wd) ∧ w'.cell? ⟨w.heap.size, 3, none⟩ = some (.int .i64 c.md) ∧ w'.cell? ⟨w.heap.size, 4, none⟩ = some (.int .u64 c.sd) ∧ w'.cell? ⟨w.heap.size + 1, 0, none⟩ = some (.int .i64 l) ∧ w'.cell? ⟨w.heap.size + 1 + 1, 0, none⟩ = some (.int .u64 k)) (simp [go_sem]) (first | (go_at_call 46; (with_reducible refine (keys_any c l _ HO.out l0 l1).mono ?_); rintro e w' ⟨rfl, hb⟩; obtain ⟨bs, d, rfl⟩ := below_grow hb; clear hb))
  all_goals go_wp2
  all_goals go_ret
  all_goals exact ⟨rfl, by (repeat' (first | (with_reducible first | exact Below.refl _ _ | assumption | refine below_over ?_ _ _ | refine Lw.below_alloc ?_ _ | refine Below.drew ?_ | refine below_drewN ?_ _ | refine Below.setCell ?_ ?_ _) | go_size))⟩
set_option maxRecDepth 100000 in
set_option maxHeartbeats 4000000 in
theorem columns_new (c : Cfg) (l k : Int) (n : Nat) (w : World) (h : c.Ok) (l0 : -9223372036854775808 ≤ l) (l1 : l ≤ 9223372036854775807) (k0 : 0 ≤ k) (k1 : k ≤ 18446744073709551615) (hk : k < keys c l) (hn : c.rw = n) (hn8 : n ≤ 8) :
    Calls Tryz.prog 215 #[.agg #[.int .i64 c.bt, .int .i64 c.rw, .int .i64 c.wd, .int .i64 c.md, .int .u64 c.sd], .int .i64 l, .int .u64 k] w fun e w' => ∃ g, e = .returned (.slice (some ⟨g, 0, none⟩) n n) ∧ Ord.Mid w' g 0 ((List.range n).map (col c l k)) ∧ w.heap.size ≤ g ∧ Below w.heap.size w w' := by
  have HO := Lib.hid h
  obtain ⟨i0, hi, hz0, hz1, hz2⟩ := info_parts int_info
  have hmk : ∀ w, (Instr.makeSlice 228 (.int .i64 (n : Int)) (.int .i64 (n : Int))).run Tryz.prog w = .ok (.slice (some ⟨w.heap.size, 0, none⟩) n n) (w.alloc (.cells (madeCells #[.int .i64 0] n) 3)) := by
    intro w
    have h := run_make (P := Tryz.prog) w 228 3 i0 (.int .i64 0) ints_u hi hz0 .i64 .i64 n n (by omega) (Int.le_refl _) (by rw [hz2]; omega) (by omega)
    rw [hz1] at h
    simpa [Value.cells] using h
  have HN := Lib.hid hn
  clear hi hz0 hz1 hz2 h hn
  have hmf : ∀ (fn : Fn) (first cap : Array Value) (w : World), (Instr.makeFunc fn first cap).run Tryz.prog w = .ok (.func fn first cap) w := fun _ _ _ _ => rfl
  go_enter Tryz.func215, Tryz.ntmps215
  go_wp2
  go_region_held3 (fun w' => w'.cell? ⟨w.heap.size, 0, none⟩ = some (.int .i64 c.bt) ∧ w'.cell? ⟨w.heap.size, 1, none⟩ = some (.int .i64 c.rw) ∧ w'.cell? ⟨w.heap.size, 2, none⟩ = some (.int .i64 c.wd) ∧ w'.cell? ⟨w.heap.size, 3, none⟩ = some (.int .i64 c.md) ∧ w'.cell? ⟨w.heap.size, 4, none⟩ = some (.int .u64 c.sd) ∧ w'.cell? ⟨w.heap.size + 1, 0, none⟩ = some (.int .i64 l) ∧ w'.cell? ⟨w.heap.size + 1 + 1, 0, none⟩ = some (.int .u64 k)) (simp [go_sem]) (first | (go_at_call 46; (with_reducible refine (keys_any c l _ HO.out l0 l1).mono ?_); rintro e w' ⟨rfl, hb⟩; obtain ⟨bs, d, rfl⟩ := below_grow hb; clear hb))
  rw [HN.out]
  go_wp2
  obtain ⟨X, hX⟩ : ∃ X, X = grow (((w.alloc (.cells #[.int .i64 c.bt, .int .i64 (n : Int), .int .i64 c.wd, .int .i64 c.md, .int .u64 c.sd] 24)).alloc (.cells #[.int .i64 l] 3)).alloc (.cells #[.int .u64 k] 22)) bs d := ⟨_, rfl⟩
  have x2 : X.cell? ⟨w.heap.size, 2, none⟩ = some (.int .i64 c.wd) := by rw [hX]; simp [go_sem]
  have x4 : X.cell? ⟨w.heap.size, 4, none⟩ = some (.int .u64 c.sd) := by rw [hX]; simp [go_sem]
  have xl : X.cell? ⟨w.heap.size + 1, 0, none⟩ = some (.int .i64 l) := by rw [hX]; simp [go_sem]
  have xk : X.cell? ⟨w.heap.size + 1 + 1, 0, none⟩ = some (.int .u64 k) := by rw [hX]; simp [go_sem]
  have HBX : Hid (Below w.heap.size w X) := Lib.hid (by rw [hX]; (repeat' (first | (with_reducible first | exact Below.refl _ _ | assumption | refine below_over ?_ _ _ | refine Lw.below_alloc ?_ _ | refine Below.drew ?_ | refine below_drewN ?_ _ | refine Below.setCell ?_ ?_ _) | go_size)))
  have hsz : X.heap.size = w.heap.size + 1 + 1 + 1 + bs.size := by rw [hX]; simp
  rw [← hX, ← hsz]
  have HM2 := Lib.hid (mid_made X n 3)
  obtain ⟨w2, hw2⟩ : ∃ w2, w2 = X.alloc (.cells (madeCells #[.int .i64 0] n) 3) := ⟨_, rfl⟩
  rw [← hw2] at HM2 ⊢
  have HB2 : Hid (Below X.heap.size X w2) := Lib.hid (by rw [hw2]; exact Lw.below_alloc (Below.refl _ _) _)
  obtain ⟨g, hg⟩ : ∃ g, X.heap.size = g := ⟨_, rfl⟩
  have c2 := cell_up x2 HB2.out
  have c4 := cell_up x4 HB2.out
  have cl := cell_up xl HB2.out
  have ck := cell_up xk HB2.out
  have HBW : Hid (Below w.heap.size w w2) := Lib.hid (below_call HBX.out HB2.out (Nat.le_refl _))
  rw [hg] at HM2 hsz ⊢
  have hg0 : ¬ w.heap.size = g := by omega
  have hg1 : ¬ w.heap.size + 1 = g := by omega
  have hg2 : ¬ w.heap.size + 1 + 1 = g := by omega
  have hgw : w.heap.size ≤ g := by omega
  clear x2 x4 xl xk hX hw2 hg HB2 HBX hsz
  obtain ⟨gad, hgad⟩ : ∃ gad : Addr, (⟨g, 0, none⟩ : Addr) = gad := ⟨_, rfl⟩
  have HG := Lib.hid hgad
  rw [hgad]
  go_loopw [21] (fun i wr => ∃ (j : Nat), j ≤ n ∧ i = .int .i64 j ∧ Ord.Mid wr g 0 (mixC c l k n j) ∧ Kept (fun q => q = g) w2 wr) (fun i _ => n - (intOf i).toNat)
  case atStart => exact ⟨0, Nat.zero_le _, rfl, by rw [mixC_start]; exact HM2.out, Kept.refl _ _⟩
  case round =>
    obtain ⟨j, hj, rfl, hmid, hkept⟩ := hrel
    have HMI := Lib.hid hmid
    have HK := Lib.hid hkept
    clear hmid hkept
    by_cases hlt : j < n
    · have d2 := HK.out.cell c2 hg0
      have d4 := HK.out.cell c4 hg0
      have dl := HK.out.cell cl hg1
      have dk := HK.out.cell ck hg2
      have HS := Lib.hid (mixC_set c l k hlt)
      have c1 := HMI.out.rd.at (mixC_get c l k hlt)
      rw [hgad] at c1
      go_wp2_with (go_at_call 220; (with_reducible refine (column_any c l k j w.heap.size (w.heap.size + 1) (w.heap.size + 1 + 1) _ HO.out l0 l1 k0 k1 (by omega) d2 d4 dl dk).mono ?_); rintro e5 w5 ⟨rfl, hb5⟩; have fz5 := (HMI.out.up hb5).frozen (0 + j); rw [← Ord.add_at, hgad] at fz5; have e1 := cell_up c1 hb5; have HB5 := Lib.hid hb5; clear hb5)
      go_roundw
      case rel =>
        have hm6 := (HMI.out.up HB5.out).set j (col c l k j)
        have hk6 : Kept (fun q => q = g) w2 (w5.setCell ⟨g, 0 + j, none⟩ (.int .i64 (col c l k j))) := (HK.out.then HB5.out).set (.inl rfl) _ _
        rw [HS.out, ← Ord.add_at, hgad] at hm6
        rw [← Ord.add_at, hgad] at hk6
        exact ⟨j + 1, by omega, by go_num, hm6, hk6⟩
      case measure => simp [intOf]; omega
    · have e : j = n := by omega
      subst e
      have hm := HMI.out
      rw [mixC_end] at hm
      have HM3 := Lib.hid hm
      clear hm
      go_wp2
      go_ret
      exact ⟨g, by rw [hgad]; rfl, HM3.out, hgw, kept_low HK.out HBW.out HBW.out.size hgw⟩
end Go.Proofs.YtkflggojiiebeaaGreat.Shp

namespace Go.Proofs.YtkflggojiiebeaaGreat.Shp
open Go Go.RowKit Lw
set_option linter.unusedVariables false
set_option linter.unusedSimpArgs false
theorem ret_b {a b : Bool} (h : a = b) : Ending.returned (.bool a) = .returned (.bool b) := by rw [h]
theorem ret_i {k : IntKind} {a b : Int} (h : a = b) : Ending.returned (.int k a) = .returned (.int k b) := by rw [h]
theorem right_mode (c : Cfg) (h1 : 1 ≤ c.bt) (h2 : c.bt ≤ 59) (h3 : 1 ≤ c.rw) (h4 : c.rw ≤ 8) (h5 : 1 ≤ c.wd) (h6 : c.wd ≤ 128) : right c = (c.md == 1 || c.md == 2 || c.md == 3) := by
  by_cases h : 1 ≤ c.md ∧ c.md ≤ 3
  · have e : right c = true := decide_eq_true ⟨h1, h2, h3, h4, h5, h6, h.1, h.2⟩
    have : c.md = 1 ∨ c.md = 2 ∨ c.md = 3 := by omega
    rw [e]
    rcases this with h | h | h <;> simp [h]
  · have e : right c = false := decide_eq_false (fun hr => h ⟨hr.2.2.2.2.2.2.1, hr.2.2.2.2.2.2.2⟩)
    have n1 : ¬ c.md = 1 := by omega
    have n2 : ¬ c.md = 2 := by omega
    have n3 : ¬ c.md = 3 := by omega
    rw [e]
    simp [n1, n2, n3]
set_option maxRecDepth 100000 in
theorem rright_any (c : Cfg) (w : World) (h : c.Ok) :
    Calls Tryz.prog 76 #[.agg #[.int .i64 c.bt, .int .i64 c.rw, .int .i64 c.wd, .int .i64 c.md, .int .u64 c.sd]] w fun e w' => e = .returned (.bool (right c)) ∧ Below w.heap.size w w' := by
  obtain ⟨b0, b1, r0, r1, w0, w1, m0, m1, s0, s1⟩ := h
  go_enter Tryz.func76, Tryz.ntmps76
  go_wp2
  all_goals go_ret
  all_goals refine ⟨ret_b (by first | exact (decide_eq_false (fun h => by unfold IsRight at h; omega)).symm | exact (decide_eq_true (by unfold IsRight; omega)).symm | exact (right_mode c (by omega) (by omega) (by omega) (by omega) (by omega) (by omega)).symm), ?_⟩
  all_goals (repeat' (first | (with_reducible first | exact Below.refl _ _ | assumption | refine below_over ?_ _ _ | refine Lw.below_alloc ?_ _ | refine Below.drew ?_ | refine below_drewN ?_ _ | refine Below.setCell ?_ ?_ _) | go_size))
theorem pow_next (a : Nat) : (2 : Int) ^ (a + 1) = 2 ^ a * 2 := by rw [Int.pow_succ]
set_option maxRecDepth 100000 in
theorem rkeys_any (c : Cfg) (l : Int) (w : World) (h : c.Ok) (l0 : -9223372036854775808 ≤ l) (l1 : l ≤ 9223372036854775807) :
    Calls Tryz.prog 37 #[.agg #[.int .i64 c.bt, .int .i64 c.rw, .int .i64 c.wd, .int .i64 c.md, .int .u64 c.sd], .int .i64 l] w fun e w' => e = .returned (.int .u64 (keys c l)) ∧ Below w.heap.size w w' := by
  have HO := Lib.hid h
  obtain ⟨b0, b1, r0, r1, w0, w1, m0, m1, s0, s1⟩ := h
  by_cases hr : IsRight c
  · have hr2 : right c = true := decide_eq_true hr
    have HR := Lib.hid hr
    have hb1 := hr.1
    have hb2 := hr.2.1
    clear hr
    by_cases h0 : l < 0
    · have hk : keys c l = 0 := keys_no (by omega)
      go_enter Tryz.func37, Tryz.ntmps37
      go_wp2_with (go_at_call 76; (with_reducible refine (rright_any c _ HO.out).mono ?_); rintro e w' ⟨rfl, hb⟩; obtain ⟨bs, d, rfl⟩ := below_grow hb; clear hb)
      all_goals go_ret
      all_goals refine ⟨ret_i hk.symm, ?_⟩
      all_goals (repeat' (first | (with_reducible first | exact Below.refl _ _ | assumption | refine below_over ?_ _ _ | refine Lw.below_alloc ?_ _ | refine Below.drew ?_ | refine below_drewN ?_ _ | refine Below.setCell ?_ ?_ _) | go_size))
    · by_cases h2 : c.bt < l
      · have hk : keys c l = 0 := keys_no (by omega)
        go_enter Tryz.func37, Tryz.ntmps37
        go_wp2_with (go_at_call 76; (with_reducible refine (rright_any c _ HO.out).mono ?_); rintro e w' ⟨rfl, hb⟩; obtain ⟨bs, d, rfl⟩ := below_grow hb; clear hb)
        all_goals go_ret
        all_goals refine ⟨ret_i hk.symm, ?_⟩
        all_goals (repeat' (first | (with_reducible first | exact Below.refl _ _ | assumption | refine below_over ?_ _ _ | refine Lw.below_alloc ?_ _ | refine Below.drew ?_ | refine below_drewN ?_ _ | refine Below.setCell ?_ ?_ _) | go_size))
      · have hk : keys c l = 2 ^ (c.bt - l).toNat := keys_yes HR.out (by omega) (by omega)
        have HK := Lib.hid hk
        clear hk
        go_enter Tryz.func37, Tryz.ntmps37
        go_wp2_with (go_at_call 76; (with_reducible refine (rright_any c _ HO.out).mono ?_); rintro e w' ⟨rfl, hb⟩; obtain ⟨bs, d, rfl⟩ := below_grow hb; clear hb)
        go_loop [5, 6] (fun n i => ∃ k : Nat, i = .int .i64 (l + k) ∧ l + k ≤ c.bt ∧ n = .int .u64 (2 ^ k)) (fun _ i => (c.bt - intOf i).toNat)
        case atStart => exact ⟨0, by simp, by omega, rfl⟩
        case round =>
          obtain ⟨k, rfl, hkb, rfl⟩ := hrel
          have hp0 := pow_pos2 k
          by_cases hlt : l + k < c.bt
          · have hp1 := pow_le2 (a := k) (b := 58) (by omega)
            have e58 : (2 : Int) ^ 58 = 288230376151711744 := by decide
            rw [e58] at hp1
            have HN := Lib.hid (pow_next k)
            clear e58
            obtain ⟨P, hP⟩ : ∃ P, (2 : Int) ^ k = P := ⟨_, rfl⟩
            rw [hP] at hp0 hp1 HN
            rw [hP]
            clear hP
            go_wp2
            go_round
            case rel => exact ⟨k + 1, by go_num, by omega, by rw [HN.out]⟩
            case measure => simp [intOf]; omega
          · have e : (c.bt - l).toNat = k := by omega
            rw [e] at HK
            go_wp2
            go_ret
            refine ⟨ret_i HK.out.symm, ?_⟩
            repeat' (first | (with_reducible first | exact Below.refl _ _ | assumption | refine below_over ?_ _ _ | refine Lw.below_alloc ?_ _ | refine Below.drew ?_ | refine below_drewN ?_ _ | refine Below.setCell ?_ ?_ _) | go_size)
  · have hr2 : right c = false := decide_eq_false hr
    have hk : keys c l = 0 := keys_no (fun h => hr h.1)
    clear hr
    go_enter Tryz.func37, Tryz.ntmps37
    go_wp2_with (go_at_call 76; (with_reducible refine (rright_any c _ HO.out).mono ?_); rintro e w' ⟨rfl, hb⟩; obtain ⟨bs, d, rfl⟩ := below_grow hb; clear hb)
    all_goals go_ret
    all_goals refine ⟨ret_i hk.symm, ?_⟩
    all_goals (repeat' (first | (with_reducible first | exact Below.refl _ _ | assumption | refine below_over ?_ _ _ | refine Lw.below_alloc ?_ _ | refine Below.drew ?_ | refine below_drewN ?_ _ | refine Below.setCell ?_ ?_ _) | go_size))
theorem cols_yes {c : Cfg} {l k : Int} (h : k < keys c l) : cols c l k = (List.range c.rw.toNat).map (col c l k) := if_pos h
def anyC (c : Cfg) (b v : Int) : Cfg := ⟨1 + c.bt % 65536 % b, 1 + c.rw % 65536 % 4, 1 + c.wd % 65536 % v, 1 + c.md % 65536 % 3, c.sd⟩
theorem any_right (c : Cfg) (b v : Int) (hb0 : 1 ≤ b) (hb1 : b ≤ 59) (hv0 : 1 ≤ v) (hv1 : v ≤ 128) : IsRight (anyC c b v) := by
  have h1 := Int.emod_nonneg (c.bt % 65536) (show b ≠ 0 by omega)
  have h2 := Int.emod_lt_of_pos (c.bt % 65536) (show 0 < b by omega)
  have h3 := Int.emod_nonneg (c.wd % 65536) (show v ≠ 0 by omega)
  have h4 := Int.emod_lt_of_pos (c.wd % 65536) (show 0 < v by omega)
  unfold IsRight anyC
  dsimp only
  refine ⟨by omega, by omega, by omega, by omega, by omega, by omega, by omega, by omega⟩
theorem any_ok (c : Cfg) (h : c.Ok) (b v : Int) (hb0 : 1 ≤ b) (hb1 : b ≤ 59) (hv0 : 1 ≤ v) (hv1 : v ≤ 128) : (anyC c b v).Ok := by
  obtain ⟨g1, g2, g3, g4, g5, g6, g7, g8⟩ := any_right c b v hb0 hb1 hv0 hv1
  exact ⟨by omega, by omega, by omega, by omega, by omega, by omega, by omega, by omega, h.s0, h.s1⟩
theorem any_part (x m : Int) (hm0 : 1 ≤ m) (hm1 : m ≤ 65536) : ∃ X, bits .and .i64 x 65535 = X ∧ 0 ≤ X ∧ X ≤ 65535 ∧ Int.tmod X m = x % 65536 % m ∧ 0 ≤ x % 65536 % m ∧ x % 65536 % m ≤ 65535 := by
  refine ⟨x % 65536, and16i x, by omega, by omega, ?_, Int.emod_nonneg _ (by omega), ?_⟩
  · rw [Int.tmod_eq_emod_of_nonneg (by omega)]
  · have := Int.emod_lt_of_pos (x % 65536) (show 0 < m by omega)
    omega
set_option maxRecDepth 100000 in
theorem rany_any (c : Cfg) (b v : Int) (w : World) (h : c.Ok) (hb0 : 1 ≤ b) (hb1 : b ≤ 59) (hv0 : 1 ≤ v) (hv1 : v ≤ 128) :
    Calls Tryz.prog 12 #[.agg #[.int .i64 c.bt, .int .i64 c.rw, .int .i64 c.wd, .int .i64 c.md, .int .u64 c.sd], .int .i64 b, .int .i64 v] w fun e w' => e = .returned (.agg #[.int .i64 (anyC c b v).bt, .int .i64 (anyC c b v).rw, .int .i64 (anyC c b v).wd, .int .i64 (anyC c b v).md, .int .u64 (anyC c b v).sd]) ∧ Below w.heap.size w w' := by
  obtain ⟨X1, a1, b1, c1, d1, e1, f1⟩ := any_part c.bt b hb0 (by omega)
  obtain ⟨X2, a2, b2, c2, d2, e2, f2⟩ := any_part c.rw 4 (by omega) (by omega)
  obtain ⟨X3, a3, b3, c3, d3, e3, f3⟩ := any_part c.wd v hv0 (by omega)
  obtain ⟨X4, a4, b4, c4, d4, e4, f4⟩ := any_part c.md 3 (by omega) (by omega)
  unfold anyC
  obtain ⟨Y1, h1⟩ : ∃ Y, c.bt % 65536 % b = Y := ⟨_, rfl⟩
  obtain ⟨Y2, h2⟩ : ∃ Y, c.rw % 65536 % 4 = Y := ⟨_, rfl⟩
  obtain ⟨Y3, h3⟩ : ∃ Y, c.wd % 65536 % v = Y := ⟨_, rfl⟩
  obtain ⟨Y4, h4⟩ : ∃ Y, c.md % 65536 % 3 = Y := ⟨_, rfl⟩
  rw [h1] at d1 e1 f1
  rw [h2] at d2 e2 f2
  rw [h3] at d3 e3 f3
  rw [h4] at d4 e4 f4
  rw [h1, h2, h3, h4]
  clear h1 h2 h3 h4
  obtain ⟨k0, k1, k2, k3, k4, k5, k6, k7, k8, k9⟩ := h
  have nb : ¬ b = 0 := by omega
  have nv : ¬ v = 0 := by omega
  go_enter Tryz.func12, Tryz.ntmps12
  go_wp2
  go_region
  go_wp2
  go_returns
  refine ⟨rfl, ?_⟩
  repeat' (first | (with_reducible first | exact Below.refl _ _ | assumption | refine below_over ?_ _ _ | refine Lw.below_alloc ?_ _ | refine Below.drew ?_ | refine below_drewN ?_ _ | refine Below.setCell ?_ ?_ _) | go_size)
theorem rany_at (c : Cfg) (b v : Int) (C : Cfg) (w : World) (h : c.Ok) (hb0 : 1 ≤ b) (hb1 : b ≤ 59) (hv0 : 1 ≤ v) (hv1 : v ≤ 128) (hC : anyC c b v = C) :
    Calls Tryz.prog 12 #[.agg #[.int .i64 c.bt, .int .i64 c.rw, .int .i64 c.wd, .int .i64 c.md, .int .u64 c.sd], .int .i64 b, .int .i64 v] w fun e w' => e = .returned (.agg #[.int .i64 C.bt, .int .i64 C.rw, .int .i64 C.wd, .int .i64 C.md, .int .u64 C.sd]) ∧ Below w.heap.size w w' := by
  subst hC
  exact rany_any c b v w h hb0 hb1 hv0 hv1
end Go.Proofs.YtkflggojiiebeaaGreat.Shp

namespace Go.Proofs.YtkflggojiiebeaaGreat.Lin
open Go Go.RowKit Lw Grd
set_option linter.unusedVariables false
def Meets (m n : Nat) (cols : List Int) : Prop := 1 ≤ m ∧ cols.length = m ∧ ∀ v ∈ cols, 0 ≤ v ∧ v < n
instance (m n : Nat) (cols : List Int) : Decidable (Meets m n cols) := by unfold Meets; infer_instance
def meetB (m n : Nat) (cols : List Int) : Bool := decide (Meets m n cols)
def named (L : List (List Int)) (cols : List Int) : List Int := List.zipWith (fun r c => r[c.toNat]?.getD 0) L cols
def changed (L : List (List Int)) (cols : List Int) (d : Int) : List (List Int) := List.zipWith (fun r c => r.set c.toNat (r[c.toNat]?.getD 0 + d)) L cols
def chFits (L : List (List Int)) (cols : List Int) (d : Int) : Bool := (named L cols).all (fun x => Wid.fit64 (x + d))
def chCode (m n : Nat) (L : List (List Int)) (cols : List Int) (d : Int) : Int := if Meets m n cols then (if chFits L cols d = true then 0 else 4) else 1
def chRes (m n : Nat) (L : List (List Int)) (cols : List Int) (d : Int) : List (List Int) := if Meets m n cols ∧ chFits L cols d = true then changed L cols d else L
def readOf (m n : Nat) (L : List (List Int)) (cols : List Int) : List Int := if Meets m n cols then named L cols else []
def rdCode (m n : Nat) (cols : List Int) : Int := if Meets m n cols then 0 else 1
theorem named_len {L : List (List Int)} {cols : List Int} (h : cols.length = L.length) : (named L cols).length = L.length := by unfold named; rw [List.length_zipWith]; omega
end Go.Proofs.YtkflggojiiebeaaGreat.Lin

namespace Go.Proofs.YtkflggojiiebeaaGreat.Lin
open Go Go.RowKit Lw Grd
set_option linter.unusedVariables false
set_option linter.unusedSimpArgs false
def upto2 {α : Type} (X Y : List α) (k : Nat) : List α := Y.take k ++ X.drop k
theorem upto2_start {α : Type} (X Y : List α) : upto2 X Y 0 = X := by simp [upto2]
theorem upto2_end {α : Type} {X Y : List α} {n : Nat} (hX : X.length = n) (hY : Y.length = n) : upto2 X Y n = Y := by
  unfold upto2
  rw [List.drop_of_length_le (by omega), List.append_nil, List.take_of_length_le (by omega)]
theorem upto2_get {α : Type} {X Y : List α} {n k : Nat} (hX : X.length = n) (hY : Y.length = n) (hk : k < n) : (upto2 X Y k)[k]? = X[k]? := by
  unfold upto2
  rw [List.getElem?_append_right (by rw [List.length_take]; omega), List.getElem?_drop, List.length_take]
  congr 1
  omega
theorem upto2_set {α : Type} {X Y : List α} {n k : Nat} {y : α} (hX : X.length = n) (hY : Y.length = n) (hy : Y[k]? = some y) : (upto2 X Y k).set k y = upto2 X Y (k + 1) := by
  obtain ⟨hk, he⟩ := List.getElem?_eq_some_iff.1 hy
  have hl : (Y.take k).length = k := by rw [List.length_take]; omega
  unfold upto2
  rw [List.set_append_right _ _ (by omega), hl, Nat.sub_self, List.take_succ_eq_append_getElem hk, he, List.append_assoc]
  congr 1
  rw [List.drop_eq_getElem_cons (by omega)]
  rfl
theorem upto2_len {α : Type} {X Y : List α} {n k : Nat} (hX : X.length = n) (hY : Y.length = n) (hk : k ≤ n) : (upto2 X Y k).length = n := by
  unfold upto2
  rw [List.length_append, List.length_take, List.length_drop]
  omega
theorem meets_at {m n : Nat} {cols : List Int} (h : Meets m n cols) {k : Nat} {v : Int} (hv : cols[k]? = some v) : 0 ≤ v ∧ v < n := h.2.2 v (List.mem_of_getElem? hv)
theorem named_at {m n : Nat} {L : List (List Int)} {cols : List Int} (hd : Dims m n L) (h : Meets m n cols) {k : Nat} {v : Int} (hv : cols[k]? = some v) : (named L cols)[k]? = some (at2 L k v) := by
  have hk : k < cols.length := (List.getElem?_eq_some_iff.1 hv).1
  have hl : k < L.length := by rw [hd.len, ← h.2.1]; exact hk
  have hb := meets_at h hv
  unfold named at2
  rw [List.getElem?_zipWith, hv, List.getElem?_eq_getElem hl, if_neg (by omega)]
  simp [List.getElem?_eq_getElem hl]
theorem changed_at {m n : Nat} {L : List (List Int)} {cols : List Int} (hd : Dims m n L) (h : Meets m n cols) (d : Int) {k : Nat} {v : Int} (hv : cols[k]? = some v) : (changed L cols d)[k]? = (L[k]?.map (fun r => r.set v.toNat (at2 L k v + d))) := by
  have hk : k < cols.length := (List.getElem?_eq_some_iff.1 hv).1
  have hl : k < L.length := by rw [hd.len, ← h.2.1]; exact hk
  have hb := meets_at h hv
  unfold changed at2
  rw [List.getElem?_zipWith, hv, List.getElem?_eq_getElem hl, if_neg (by omega)]
  simp [List.getElem?_eq_getElem hl]
theorem changed_len {L : List (List Int)} {cols : List Int} (d : Int) (h : cols.length = L.length) : (changed L cols d).length = L.length := by unfold changed; rw [List.length_zipWith]; omega
theorem named_in {m n : Nat} {L : List (List Int)} {cols : List Int} (hd : Dims m n L) : In64 (named L cols) := by
  intro v hv
  unfold named at hv
  obtain ⟨i, hi, e⟩ := List.mem_iff_getElem.1 hv
  rw [List.getElem_zipWith] at e
  rw [List.length_zipWith] at hi
  have h2 := hd.rows _ (List.getElem_mem (show i < L.length by omega))
  subst e
  cases e3 : (L[i]'(by omega))[(cols[i]'(by omega)).toNat]? with
  | none => simp
  | some x => exact h2.2 _ (List.mem_of_getElem? e3)
theorem put_at {m n : Nat} {L : List (List Int)} {cols : List Int} (hd : Dims m n L) (h : Meets m n cols) (d : Int) {k : Nat} {v : Int} (hv : cols[k]? = some v) (hD : Dims m n (upto2 L (changed L cols d) k)) :
    setL (upto2 L (changed L cols d) k) k v (at2 L k v + d) = upto2 L (changed L cols d) (k + 1) := by
  have hk : k < cols.length := (List.getElem?_eq_some_iff.1 hv).1
  have hl : cols.length = L.length := by rw [hd.len]; exact h.2.1
  have hb := meets_at h hv
  have hL : L[k]? = some (L[k]'(by omega)) := List.getElem?_eq_getElem (by omega)
  have hY := changed_at hd h d hv
  rw [hL] at hY
  have hX := upto2_get (X := L) (Y := changed L cols d) (n := L.length) rfl (changed_len d hl) (k := k) (by omega)
  rw [hL] at hX
  have hin : in2 (upto2 L (changed L cols d) k) k v = true := by
    rw [in2_dims hD]
    have := hd.len
    exact decide_eq_true ⟨by omega, by omega, hb.1, hb.2⟩
  rw [← upto2_set (n := L.length) rfl (changed_len d hl) hY]
  unfold setL
  rw [if_pos hin]
  apply List.ext_getElem?
  intro i
  rw [List.getElem?_modify, List.getElem?_set, Int.toNat_natCast]
  have hln := upto2_len (X := L) (Y := changed L cols d) (n := L.length) rfl (changed_len d hl) (k := k) (by omega)
  by_cases e : k = i
  · subst e
    rw [hX, if_pos rfl, hln, if_pos (by omega)]
    simp
  · rw [if_neg e]
    simp [e]
end Go.Proofs.YtkflggojiiebeaaGreat.Lin

namespace Go.Proofs.YtkflggojiiebeaaGreat.Lin
open Go Go.RowKit Lw Grd
set_option linter.unusedVariables false
set_option linter.unusedSimpArgs false
theorem ret_b {a b : Bool} (h : a = b) : Ending.returned (.bool a) = Ending.returned (.bool b) := by rw [h]
theorem meetB_no1 {m n : Nat} {cols : List Int} (h : m = 0) : meetB m n cols = false := decide_eq_false (fun g => by have := g.1; omega)
theorem meetB_no2 {m n : Nat} {cols : List Int} (h : cols.length ≠ m) : meetB m n cols = false := decide_eq_false (fun g => h g.2.1)
theorem meetB_no3 {m n : Nat} {cols : List Int} {k : Nat} {v : Int} (hv : cols[k]? = some v) (h : v < 0 ∨ n ≤ v) : meetB m n cols = false := decide_eq_false (fun g => by have := meets_at g hv; omega)
theorem in_next {n : Nat} {cols : List Int} {k : Nat} {v : Int} (h : ∀ x ∈ cols.take k, 0 ≤ x ∧ x < n) (hv : cols[k]? = some v) (h0 : 0 ≤ v) (h1 : v < n) : ∀ x ∈ cols.take (k + 1), 0 ≤ x ∧ x < (n : Int) := by
  obtain ⟨hk, e⟩ := List.getElem?_eq_some_iff.1 hv
  rw [List.take_succ_eq_append_getElem hk, e]
  intro x hx
  rcases List.mem_append.1 hx with hx | hx
  · exact h x hx
  · simp at hx; subst hx; exact ⟨h0, h1⟩
set_option maxRecDepth 100000 in
theorem meets_eq (p : Addr) (F : Nat → Prop) (m n : Nat) (L : List (List Int)) (A : Option Addr) (N cap : Nat) (cols : List Int) (w : World) (h : PG w p F m n L) (hc : Rd .i64 w A cols) (hl : cols.length = N) (hN : N ≤ 1000) (hz : In64 cols) :
    Calls Tryz.prog 232 #[.pointer (some p), .slice A N cap] w fun e w' => e = .returned (.bool (meetB m n cols)) ∧ w' = w := by
  have HP := Lib.hid h
  have m8 := h.1.m8
  have n128 := h.1.n128
  clear h
  by_cases hm : m = 0
  · have HE := Lib.hid (meetB_no1 (n := n) (cols := cols) hm)
    have t1 : ((m : Int) == 0) = true := by simp; omega
    clear hm hc hl hz
    go_enter Tryz.func232, Tryz.ntmps232
    go_wp2_with (first
        | (go_at_call 213; (with_reducible refine (rows_eq p F m n L _ HP.out).mono ?_); rintro e wx ⟨rfl, hw⟩; subst wx)
        | (go_at_call 199; (with_reducible refine (width_eq p F m n L _ HP.out).mono ?_); rintro e wx ⟨rfl, hw⟩; subst wx))
    go_ret
    exact ⟨ret_b HE.out.symm, rfl⟩
  have t0 : ((m : Int) == 0) = false := by simp; omega
  by_cases hmn : N = m
  · have t1 : ((N : Int) != (m : Int)) = false := by simp; omega
    have HL := Lib.hid hl
    have HC := Lib.hid hc
    have HZ := Lib.hid hz
    have HM : Hid (1 ≤ m ∧ cols.length = m) := Lib.hid ⟨by omega, by omega⟩
    clear hl hc hz
    go_enter Tryz.func232, Tryz.ntmps232
    go_wp2_with (first
        | (go_at_call 213; (with_reducible refine (rows_eq p F m n L _ HP.out).mono ?_); rintro e wx ⟨rfl, hw⟩; subst wx)
        | (go_at_call 199; (with_reducible refine (width_eq p F m n L _ HP.out).mono ?_); rintro e wx ⟨rfl, hw⟩; subst wx))
    go_loopw [23] (fun i wr => ∃ (k : Nat), k ≤ N ∧ i = .int .i64 k ∧ wr = w ∧ ∀ x ∈ cols.take k, 0 ≤ x ∧ x < (n : Int)) (fun i _ => N - (intOf i).toNat)
    case atStart => exact ⟨0, Nat.zero_le _, rfl, rfl, fun x hx => by simp at hx⟩
    case round =>
      obtain ⟨k, hk, rfl, hwr, hA⟩ := hrel
      subst wr
      have HA := Lib.hid hA
      clear hA
      by_cases hlt : k < N
      · obtain ⟨v, hv⟩ : ∃ v, cols[k]? = some v := ⟨_, List.getElem?_eq_getElem (by rw [HL.out]; exact hlt)⟩
        obtain ⟨a, rfl⟩ := HC.out.some_of (by rw [HL.out]; omega)
        have hcell := HC.out.at hv
        have hvb := HZ.out.at hv
        have HV := Lib.hid hv
        clear hv
        by_cases s1 : v < 0
        · have HE := Lib.hid (meetB_no3 (m := m) (n := n) HV.out (.inl s1))
          go_wp2_with (first
        | (go_at_call 213; (with_reducible refine (rows_eq p F m n L _ HP.out).mono ?_); rintro e wx ⟨rfl, hw⟩; subst wx)
        | (go_at_call 199; (with_reducible refine (width_eq p F m n L _ HP.out).mono ?_); rintro e wx ⟨rfl, hw⟩; subst wx))
          go_ret
          exact ⟨ret_b HE.out.symm, rfl⟩
        by_cases s2 : (n : Int) ≤ v
        · have HE := Lib.hid (meetB_no3 (m := m) (n := n) HV.out (.inr s2))
          go_wp2_with (first
        | (go_at_call 213; (with_reducible refine (rows_eq p F m n L _ HP.out).mono ?_); rintro e wx ⟨rfl, hw⟩; subst wx)
        | (go_at_call 199; (with_reducible refine (width_eq p F m n L _ HP.out).mono ?_); rintro e wx ⟨rfl, hw⟩; subst wx))
          go_ret
          exact ⟨ret_b HE.out.symm, rfl⟩
        have HI := Lib.hid (in_next HA.out HV.out (by omega) (by omega))
        go_wp2_with (first
        | (go_at_call 213; (with_reducible refine (rows_eq p F m n L _ HP.out).mono ?_); rintro e wx ⟨rfl, hw⟩; subst wx)
        | (go_at_call 199; (with_reducible refine (width_eq p F m n L _ HP.out).mono ?_); rintro e wx ⟨rfl, hw⟩; subst wx))
        go_roundw
        case rel => exact ⟨k + 1, by omega, by go_num, trivial, HI.out⟩
        case measure => simp [intOf]; omega
      · have HE : Hid (meetB m n cols = true) := Lib.hid (decide_eq_true ⟨HM.out.1, HM.out.2, by have h := HA.out; rwa [List.take_of_length_le (by rw [HL.out]; omega)] at h⟩)
        go_wp2
        go_ret
        exact ⟨ret_b HE.out.symm, rfl⟩
  · have HE := Lib.hid (meetB_no2 (n := n) (cols := cols) (m := m) (by rw [hl]; exact hmn))
    have t1 : ((N : Int) != (m : Int)) = true := by simp; omega
    clear hc hl hz
    go_enter Tryz.func232, Tryz.ntmps232
    go_wp2_with (first
        | (go_at_call 213; (with_reducible refine (rows_eq p F m n L _ HP.out).mono ?_); rintro e wx ⟨rfl, hw⟩; subst wx)
        | (go_at_call 199; (with_reducible refine (width_eq p F m n L _ HP.out).mono ?_); rintro e wx ⟨rfl, hw⟩; subst wx))
    go_ret
    exact ⟨ret_b HE.out.symm, rfl⟩
theorem meets_any (p : Addr) (F : Nat → Prop) (m n : Nat) (L : List (List Int)) (A : Option Addr) (N cap : Nat) (cols : List Int) (w : World) (h : PG w p F m n L) (hc : Rd .i64 w A cols) (hl : cols.length = N) (hN : N ≤ 1000) (hz : In64 cols) (b : Bool) (hb : meetB m n cols = b) :
    Calls Tryz.prog 232 #[.pointer (some p), .slice A N cap] w fun e w' => e = .returned (.bool b) ∧ w' = w := hb ▸ meets_eq p F m n L A N cap cols w h hc hl hN hz
theorem li64_info : (Tryz.prog.info? 2).map (fun i => (i.zero, i.size, i.bytes)) = some (some (.int .i64 0), 1, 8) := by kernel_rfl
theorem li64s_u : Tryz.prog.underlying 54 = some (.slice 2) := by kernel_rfl
theorem read_no (p : Addr) (F : Nat → Prop) (m n : Nat) (L : List (List Int)) (A : Option Addr) (N cap : Nat) (cols : List Int) (w : World) (h : PG w p F m n L) (hc : Rd .i64 w A cols) (hl : cols.length = N) (hN : N ≤ 1000) (hz : In64 cols) (hm : ¬ Meets m n cols) :
    Calls Tryz.prog 225 #[.pointer (some p), .slice A N cap] w fun e w' => e = .returned (.tuple #[.slice none 0 0, .int .i64 1]) ∧ w' = w := by
  have C := Lib.hid (meets_any p F m n L A N cap cols w h hc hl hN hz false (decide_eq_false hm))
  clear h hc hl hz hm
  go_enter Tryz.func225, Tryz.ntmps225
  go_wp2_with (go_at_call 232; (with_reducible refine C.out.mono ?_); rintro e wx ⟨rfl, hw⟩; subst wx)
  go_ret2
  exact ⟨rfl, rfl⟩
theorem rd_far {w : World} {a : Addr} {zs : List Int} {g : Nat} (h : Rd .i64 w (some a) zs) (hl : 0 < zs.length) (hg : w.heap.size ≤ g) : ∀ b, some a = some b → ¬ b.block = g := by
  intro b hb e
  injection hb with hb
  subst hb
  have hc := h.at (List.getElem?_eq_getElem hl)
  have e2 : (a.add 0).block = a.block := by unfold Addr.add; split <;> rfl
  have h2 := cell_lt hc
  rw [e2] at h2
  omega
set_option maxRecDepth 100000 in
set_option maxHeartbeats 4000000 in
theorem read_yes (p : Addr) (F : Nat → Prop) (m n : Nat) (L : List (List Int)) (A : Option Addr) (N cap : Nat) (cols : List Int) (w : World) (h : PG w p F m n L) (hc : Rd .i64 w A cols) (hl : cols.length = N) (hN : N ≤ 1000) (hz : In64 cols) (hm : Meets m n cols) :
    Calls Tryz.prog 225 #[.pointer (some p), .slice A N cap] w fun e w' => ∃ g, e = .returned (.tuple #[.slice (some ⟨g, 0, none⟩) N N, .int .i64 0]) ∧ Ord.Mid w' g 0 (named L cols) ∧ w.heap.size ≤ g ∧ Below w.heap.size w w' := by
  have C := Lib.hid (meets_any p F m n L A N cap cols w h hc hl hN hz true (decide_eq_true hm))
  obtain ⟨i0, hi, hz0, hz1, hz2⟩ := info_parts li64_info
  have hmk : ∀ w, (Instr.makeSlice 54 (.int .i64 (N : Int)) (.int .i64 (N : Int))).run Tryz.prog w = .ok (.slice (some ⟨w.heap.size, 0, none⟩) N N) (w.alloc (.cells (madeCells #[.int .i64 0] N) 2)) := by
    intro w
    have h := run_make (P := Tryz.prog) w 54 2 i0 (.int .i64 0) li64s_u hi hz0 .i64 .i64 N N (by omega) (Int.le_refl _) (by rw [hz2]; omega) (by omega)
    rw [hz1] at h
    simpa [Value.cells] using h
  obtain ⟨a, rfl⟩ := hc.some_of (by have := hm.1; have := hm.2.1; omega)
  have HP := Lib.hid h
  have HL := Lib.hid hl
  have HC := Lib.hid hc
  have HZ := Lib.hid hz
  have HM := Lib.hid hm
  clear hi hz0 hz1 hz2 h hl hc hz hm
  go_enter Tryz.func225, Tryz.ntmps225
  go_wp2_with (go_at_call 232; (with_reducible refine C.out.mono ?_); rintro e wx ⟨rfl, hw⟩; subst wx)
  have HM2 := Lib.hid (mid_made w N 2)
  obtain ⟨w2, hw2⟩ : ∃ w2, w2 = w.alloc (.cells (madeCells #[.int .i64 0] N) 2) := ⟨_, rfl⟩
  rw [← hw2] at HM2 ⊢
  have HB2 : Hid (Below w.heap.size w w2) := Lib.hid (by rw [hw2]; exact Lw.below_alloc (Below.refl _ _) _)
  obtain ⟨g, hg⟩ : ∃ g, w.heap.size = g := ⟨_, rfl⟩
  have HP2 := Lib.hid (pg_up HP.out HB2.out)
  have HC2 := Lib.hid (HC.out.up HB2.out)
  have HFg : Hid (∀ k, F k → ¬ k = g) := Lib.hid (fun k hk => by have := (pgT p F m n L).lt w HP.out k hk; omega)
  have HAg := Lib.hid (rd_far HC.out (by have := HM.out.1; have := HM.out.2.1; omega) (Nat.le_of_eq hg))
  have HD := Lib.hid HP.out.dims
  have hgw : w.heap.size ≤ g := by omega
  rw [hg] at HM2 ⊢
  clear hw2 hg
  obtain ⟨gad, hgad⟩ : ∃ gad : Addr, (⟨g, 0, none⟩ : Addr) = gad := ⟨_, rfl⟩
  have HG := Lib.hid hgad
  rw [hgad]
  go_loopw [18] (fun i wr => ∃ (j : Nat), j ≤ N ∧ i = .int .i64 j ∧ Ord.Mid wr g 0 (upto2 (List.replicate N 0) (named L cols) j) ∧ Kept (fun q => q = g) w2 wr) (fun i _ => N - (intOf i).toNat)
  case atStart => exact ⟨0, Nat.zero_le _, rfl, by rw [upto2_start]; exact HM2.out, Kept.refl _ _⟩
  case round =>
    obtain ⟨j, hj, rfl, hmid, hkept⟩ := hrel
    have HMI := Lib.hid hmid
    have HK := Lib.hid hkept
    clear hmid hkept
    have hnl : (named L cols).length = N := by rw [named_len (by rw [HD.out.len]; exact HM.out.2.1), HD.out.len, ← HM.out.2.1, HL.out]
    have HNL := Lib.hid hnl
    clear hnl
    by_cases hlt : j < N
    · obtain ⟨v, hv⟩ : ∃ v, cols[j]? = some v := ⟨_, List.getElem?_eq_getElem (by rw [HL.out]; exact hlt)⟩
      have hcell := (HC2.out.keep HK.out HAg.out).at hv
      have hvb := HZ.out.at hv
      have HPr : Hid (PG wr p F m n L) := Lib.hid ((pgT p F m n L).keep w2 wr _ HP2.out HK.out HFg.out)
      have HS := Lib.hid (upto2_set (X := List.replicate N 0) (by simp) HNL.out (named_at HD.out HM.out hv))
      have c1 := HMI.out.rd.at (upto2_get (X := List.replicate N 0) (by simp) HNL.out hlt ▸ (by simp [hlt] : (List.replicate N (0 : Int))[j]? = some 0))
      rw [hgad] at c1
      have fz1 := HMI.out.frozen (0 + j)
      rw [← Ord.add_at, hgad] at fz1
      clear hv
      go_wp2_with (go_at_call 201; (with_reducible refine (at_any p F m n L j v _ HPr.out (by omega) (by omega) hvb.1 hvb.2).mono ?_); rintro e5 w5 ⟨rfl, hb5⟩; have fz5 := (HMI.out.up hb5).frozen (0 + j); rw [← Ord.add_at, hgad] at fz5; have e1 := cell_up c1 hb5; have HB5 := Lib.hid hb5; clear hb5)
      go_roundw
      case rel =>
        have hm6 := (HMI.out.up HB5.out).set j (at2 L j v)
        have hk6 : Kept (fun q => q = g) w2 (w5.setCell ⟨g, 0 + j, none⟩ (.int .i64 (at2 L j v))) := (HK.out.then HB5.out).set (.inl rfl) _ _
        rw [HS.out, ← Ord.add_at, hgad] at hm6
        rw [← Ord.add_at, hgad] at hk6
        exact ⟨j + 1, by omega, by go_num, hm6, hk6⟩
      case measure => simp [intOf]; omega
    · have e : j = N := by omega
      subst e
      have hm := HMI.out
      rw [upto2_end (X := List.replicate _ 0) (by simp) HNL.out] at hm
      have HM3 := Lib.hid hm
      clear hm
      go_wp2
      go_ret2
      exact ⟨g, by rw [hgad]; rfl, HM3.out, hgw, HK.out.low HB2.out HB2.out.size (fun q hq => by omega)⟩
theorem readOf_no {m n : Nat} {L : List (List Int)} {cols : List Int} (h : ¬ Meets m n cols) : readOf m n L cols = [] ∧ rdCode m n cols = 1 := ⟨if_neg h, if_neg h⟩
theorem readOf_yes {m n : Nat} {L : List (List Int)} {cols : List Int} (h : Meets m n cols) : readOf m n L cols = named L cols ∧ rdCode m n cols = 0 := ⟨if_pos h, if_pos h⟩
theorem tellings_any (w : World) :
    Calls Tryz.prog 231 #[] w fun e w' => ∃ g, e = .returned (.slice (some ⟨g, 0, none⟩) 2 2) ∧ w'.cell? ⟨g, 0, none⟩ = some (.func (.func 236) #[] #[]) ∧ w'.cell? ⟨g, 1, none⟩ = some (.func (.func 237) #[] #[]) ∧ Below w.heap.size w w' := by
  go_enter Tryz.func231, Tryz.ntmps231
  go_wp2
  go_ret
  exact ⟨w.heap.size, rfl, by simp [go_sem], by simp [go_sem], Lw.below_alloc (Below.refl _ _) _⟩
theorem told_no (p : Addr) (F : Nat → Prop) (m n : Nat) (L : List (List Int)) (A : Option Addr) (N cap : Nat) (cols : List Int) (at' : Int) (w : World) (h : PG w p F m n L) (hc : Rd .i64 w A cols) (hl : cols.length = N) (hN : N ≤ 1000) (hz : In64 cols) (hm : ¬ Meets m n cols) :
    Calls Tryz.prog 224 #[.pointer (some p), .slice A N cap, .int .i64 at'] w fun e w' => e = .returned (.tuple #[.int .i64 0, .int .i64 1]) ∧ w' = w := by
  have C := Lib.hid (read_no p F m n L A N cap cols w h hc hl hN hz hm)
  clear h hc hl hz hm
  go_enter Tryz.func224, Tryz.ntmps224
  go_wp2_with (go_at_call 225; (with_reducible refine C.out.mono ?_); rintro e wx ⟨rfl, hw⟩; subst wx)
  go_ret2
  exact ⟨rfl, rfl⟩
set_option maxRecDepth 100000 in
set_option maxHeartbeats 4000000 in
theorem told_least (p : Addr) (F : Nat → Prop) (m n : Nat) (L : List (List Int)) (A : Option Addr) (N cap : Nat) (cols : List Int) (w : World) (h : PG w p F m n L) (hc : Rd .i64 w A cols) (hl : cols.length = N) (hN : N ≤ 1000) (hz : In64 cols) (hm : Meets m n cols) :
    Calls Tryz.prog 224 #[.pointer (some p), .slice A N cap, .int .i64 0] w fun e w' => e = .returned (.tuple #[.int .i64 (Ord.kv (named L cols) (0)), .int .i64 0]) ∧ Below w.heap.size w w' := by
  have C := Lib.hid (read_yes p F m n L A N cap cols w h hc hl hN hz hm)
  have HL : Hid ((named L cols).length = N) := Lib.hid (by rw [named_len (by rw [h.1.len]; exact hm.2.1), h.1.len, ← hm.2.1, hl])
  have HI : Hid (In64 (named L cols)) := Lib.hid (named_in h.1)
  clear h hc hl hz hm
  go_enter Tryz.func224, Tryz.ntmps224
  go_wp2_with (first
    | (go_at_call 225; (with_reducible refine C.out.mono ?_); rintro e w1 ⟨g1, rfl, hm1, hg1, hb1⟩; have HM1 := Lib.hid hm1; have HB1 := Lib.hid hb1; clear hm1 hb1)
    | (go_at_call 231; (with_reducible refine (tellings_any _).mono ?_); rintro e w2 ⟨g2, rfl, hf0, hf1, hb2⟩; have HB2 := Lib.hid hb2; clear hb2)
    | (go_at_call 236; (with_reducible refine (Ord.min_any (some ⟨g1, 0, none⟩) N N (named L cols) _ (fun e => by cases e) (Nat.le_refl _) (by unfold maxLen; omega) (HM1.out.rd.up HB2.out) HL.out hN HI.out).mono ?_); rintro e w3 ⟨rfl, hb3⟩; have HB3 := Lib.hid hb3; clear hb3))
  go_ret2
  exact ⟨rfl, below_call (below_call HB1.out HB2.out (Nat.le_refl _)) HB3.out (Nat.le_refl _)⟩
set_option maxRecDepth 100000 in
set_option maxHeartbeats 4000000 in
theorem told_middle (p : Addr) (F : Nat → Prop) (m n : Nat) (L : List (List Int)) (A : Option Addr) (N cap : Nat) (cols : List Int) (w : World) (h : PG w p F m n L) (hc : Rd .i64 w A cols) (hl : cols.length = N) (hN : N ≤ 1000) (hz : In64 cols) (hm : Meets m n cols) :
    Calls Tryz.prog 224 #[.pointer (some p), .slice A N cap, .int .i64 1] w fun e w' => e = .returned (.tuple #[.int .i64 (Ord.kv (named L cols) ((((named L cols).length : Int) - 1) / 2)), .int .i64 0]) ∧ Below w.heap.size w w' := by
  have C := Lib.hid (read_yes p F m n L A N cap cols w h hc hl hN hz hm)
  have HL : Hid ((named L cols).length = N) := Lib.hid (by rw [named_len (by rw [h.1.len]; exact hm.2.1), h.1.len, ← hm.2.1, hl])
  have HI : Hid (In64 (named L cols)) := Lib.hid (named_in h.1)
  clear h hc hl hz hm
  go_enter Tryz.func224, Tryz.ntmps224
  go_wp2_with (first
    | (go_at_call 225; (with_reducible refine C.out.mono ?_); rintro e w1 ⟨g1, rfl, hm1, hg1, hb1⟩; have HM1 := Lib.hid hm1; have HB1 := Lib.hid hb1; clear hm1 hb1)
    | (go_at_call 231; (with_reducible refine (tellings_any _).mono ?_); rintro e w2 ⟨g2, rfl, hf0, hf1, hb2⟩; have HB2 := Lib.hid hb2; clear hb2)
    | (go_at_call 237; (with_reducible refine (Ord.median_any (some ⟨g1, 0, none⟩) N N (named L cols) _ (fun e => by cases e) (Nat.le_refl _) (by unfold maxLen; omega) (HM1.out.rd.up HB2.out) HL.out hN HI.out).mono ?_); rintro e w3 ⟨rfl, hb3⟩; have HB3 := Lib.hid hb3; clear hb3))
  go_ret2
  exact ⟨rfl, below_call (below_call HB1.out HB2.out (Nat.le_refl _)) HB3.out (Nat.le_refl _)⟩
theorem least_any (p : Addr) (F : Nat → Prop) (m n : Nat) (L : List (List Int)) (A : Option Addr) (N cap : Nat) (cols : List Int) (w : World) (h : PG w p F m n L) (hc : Rd .i64 w A cols) (hl : cols.length = N) (hN : N ≤ 1000) (hz : In64 cols) :
    Calls Tryz.prog 217 #[.pointer (some p), .slice A N cap] w fun e w' => e = .returned (.tuple #[.int .i64 (Ord.kv (readOf m n L cols) 0), .int .i64 (rdCode m n cols)]) ∧ Below w.heap.size w w' := by
  by_cases hm : Meets m n cols
  · have C := Lib.hid (told_least p F m n L A N cap cols w h hc hl hN hz hm)
    rw [(readOf_yes (L := L) hm).1, (readOf_yes (L := L) hm).2]
    clear h hc hl hz hm
    go_enter Tryz.func217, Tryz.ntmps217
    go_wp2_with (go_at_call 224; (with_reducible refine C.out.mono ?_); rintro e w1 ⟨rfl, hb1⟩; have HB1 := Lib.hid hb1; clear hb1)
    go_ret2
    exact ⟨rfl, HB1.out⟩
  · have C := Lib.hid (told_no p F m n L A N cap cols 0 w h hc hl hN hz hm)
    rw [(readOf_no (L := L) hm).1, (readOf_no (L := L) hm).2]
    rw [(Ord.kv_no (l := []) (k := _) (by simp)).1]
    clear h hc hl hz hm
    go_enter Tryz.func217, Tryz.ntmps217
    go_wp2_with (go_at_call 224; (with_reducible refine C.out.mono ?_); rintro e wx ⟨rfl, hw⟩; subst wx)
    go_ret2
    exact ⟨rfl, Below.refl _ _⟩
theorem middle_any (p : Addr) (F : Nat → Prop) (m n : Nat) (L : List (List Int)) (A : Option Addr) (N cap : Nat) (cols : List Int) (w : World) (h : PG w p F m n L) (hc : Rd .i64 w A cols) (hl : cols.length = N) (hN : N ≤ 1000) (hz : In64 cols) :
    Calls Tryz.prog 218 #[.pointer (some p), .slice A N cap] w fun e w' => e = .returned (.tuple #[.int .i64 (Ord.kv (readOf m n L cols) ((((readOf m n L cols).length : Int) - 1) / 2)), .int .i64 (rdCode m n cols)]) ∧ Below w.heap.size w w' := by
  by_cases hm : Meets m n cols
  · have C := Lib.hid (told_middle p F m n L A N cap cols w h hc hl hN hz hm)
    rw [(readOf_yes (L := L) hm).1, (readOf_yes (L := L) hm).2]
    clear h hc hl hz hm
    go_enter Tryz.func218, Tryz.ntmps218
    go_wp2_with (go_at_call 224; (with_reducible refine C.out.mono ?_); rintro e w1 ⟨rfl, hb1⟩; have HB1 := Lib.hid hb1; clear hb1)
    go_ret2
    exact ⟨rfl, HB1.out⟩
  · have C := Lib.hid (told_no p F m n L A N cap cols 1 w h hc hl hN hz hm)
    rw [(readOf_no (L := L) hm).1, (readOf_no (L := L) hm).2]
    rw [(Ord.kv_no (l := []) (k := _) (by simp)).1]
    clear h hc hl hz hm
    go_enter Tryz.func218, Tryz.ntmps218
    go_wp2_with (go_at_call 224; (with_reducible refine C.out.mono ?_); rintro e wx ⟨rfl, hw⟩; subst wx)
    go_ret2
    exact ⟨rfl, Below.refl _ _⟩
theorem change_no (p : Addr) (F : Nat → Prop) (m n : Nat) (L : List (List Int)) (A : Option Addr) (N cap : Nat) (cols : List Int) (d : Int) (w : World) (h : PG w p F m n L) (hc : Rd .i64 w A cols) (hl : cols.length = N) (hN : N ≤ 1000) (hz : In64 cols) (hm : ¬ Meets m n cols) :
    Calls Tryz.prog 219 #[.pointer (some p), .slice A N cap, .int .i64 d] w fun e w' => e = .returned (.int .i64 1) ∧ w' = w := by
  have C := Lib.hid (read_no p F m n L A N cap cols w h hc hl hN hz hm)
  clear h hc hl hz hm
  go_enter Tryz.func219, Tryz.ntmps219
  go_wp2_with (go_at_call 225; (with_reducible refine C.out.mono ?_); rintro e wx ⟨rfl, hw⟩; subst wx)
  go_ret
  exact ⟨rfl, rfl⟩
/-- The first k sums fit. -/
def sumsFit (Z : List Int) (d : Int) (k : Nat) : Prop := ∀ x ∈ Z.take k, Wid.fit64 (x + d) = true
theorem sums_next {Z : List Int} {d : Int} {k : Nat} {x : Int} (h : sumsFit Z d k) (hx : Z[k]? = some x) (hf : Wid.fit64 (x + d) = true) : sumsFit Z d (k + 1) := by
  obtain ⟨hk, e⟩ := List.getElem?_eq_some_iff.1 hx
  unfold sumsFit
  rw [List.take_succ_eq_append_getElem hk, e]
  intro y hy
  rcases List.mem_append.1 hy with hy | hy
  · exact h y hy
  · simp at hy; subst hy; exact hf
theorem sums_no {L : List (List Int)} {cols : List Int} {d : Int} {k : Nat} {x : Int} (hx : (named L cols)[k]? = some x) (hf : Wid.fit64 (x + d) = false) : chFits L cols d = false := by
  cases h : chFits L cols d with
  | false => rfl
  | true =>
    have h2 := List.all_eq_true.1 h x (List.mem_of_getElem? hx)
    rw [hf] at h2; cases h2
theorem sums_all {L : List (List Int)} {cols : List Int} {d : Int} {k : Nat} (h : sumsFit (named L cols) d k) (hk : (named L cols).length ≤ k) : chFits L cols d = true := by
  unfold sumsFit at h
  rw [List.take_of_length_le hk] at h
  exact List.all_eq_true.2 h
theorem ch_no {m n : Nat} {L : List (List Int)} {cols : List Int} {d : Int} (h : ¬ Meets m n cols) : chCode m n L cols d = 1 ∧ chRes m n L cols d = L := ⟨if_neg h, if_neg (fun g => h g.1)⟩
theorem ch_over {m n : Nat} {L : List (List Int)} {cols : List Int} {d : Int} (h : Meets m n cols) (hf : chFits L cols d = false) : chCode m n L cols d = 4 ∧ chRes m n L cols d = L := by
  unfold chCode chRes
  rw [if_pos h, hf, if_neg (by simp), if_neg (by simp)]
  exact ⟨rfl, rfl⟩
theorem ch_yes {m n : Nat} {L : List (List Int)} {cols : List Int} {d : Int} (h : Meets m n cols) (hf : chFits L cols d = true) : chCode m n L cols d = 0 ∧ chRes m n L cols d = changed L cols d := by
  unfold chCode chRes
  rw [if_pos h, if_pos hf, if_pos ⟨h, hf⟩]
  exact ⟨rfl, rfl⟩
set_option maxRecDepth 100000 in
set_option maxHeartbeats 4000000 in
theorem change_yes (p : Addr) (F : Nat → Prop) (m n : Nat) (L : List (List Int)) (A : Option Addr) (N cap : Nat) (cols : List Int) (d : Int) (w : World) (h : PG w p F m n L) (hc : Rd .i64 w A cols) (hap : ∀ a, A = some a → ¬ F a.block) (hl : cols.length = N) (hN : N ≤ 1000) (hz : In64 cols) (d0 : -9223372036854775808 ≤ d) (d1 : d ≤ 9223372036854775807) (hm : Meets m n cols) :
    Calls Tryz.prog 219 #[.pointer (some p), .slice A N cap, .int .i64 d] w fun e w' => e = .returned (.int .i64 (chCode m n L cols d)) ∧ ∃ F', PG w' p F' m n (chRes m n L cols d) ∧ Kept F w w' ∧ (∀ k, F' k → F k ∨ w.heap.size ≤ k) := by
  have C := Lib.hid (read_yes p F m n L A N cap cols w h hc hl hN hz hm)
  obtain ⟨a, rfl⟩ := hc.some_of (by have := hm.1; have := hm.2.1; omega)
  have HP := Lib.hid h
  have HL := Lib.hid hl
  have HC := Lib.hid hc
  have HZ := Lib.hid hz
  have HM := Lib.hid hm
  have HAP := Lib.hid hap
  have HD := Lib.hid h.dims
  have HNL : Hid ((named L cols).length = N) := Lib.hid (by rw [named_len (by rw [h.1.len]; exact hm.2.1), h.1.len, ← hm.2.1, hl])
  have HNI : Hid (In64 (named L cols)) := Lib.hid (named_in h.1)
  have HSL : Hid (((named L cols).map (fun x => x + d)).length = N) := Lib.hid (by rw [List.length_map]; exact HNL.out)
  clear h hl hc hz hm hap
  go_enter Tryz.func219, Tryz.ntmps219
  go_wp2_with (go_at_call 225; (with_reducible refine C.out.mono ?_); rintro e w1 ⟨g, rfl, hm1, hg1, hb1⟩; have HM1 := Lib.hid hm1; have HB1 := Lib.hid hb1; have HG1 := Lib.hid hg1; clear hm1 hb1 hg1)
  obtain ⟨gad, hgad⟩ : ∃ gad : Addr, (⟨g, 0, none⟩ : Addr) = gad := ⟨_, rfl⟩
  rw [hgad]
  go_loopw [26] (fun i wr => ∃ (j : Nat), j ≤ N ∧ i = .int .i64 j ∧ Ord.Mid wr g 0 (upto2 (named L cols) ((named L cols).map (fun x => x + d)) j) ∧ Kept (fun q => q = g) w1 wr ∧ sumsFit (named L cols) d j) (fun i _ => N - (intOf i).toNat)
  case atStart => exact ⟨0, Nat.zero_le _, rfl, by rw [upto2_start]; exact HM1.out, Kept.refl _ _, fun x hx => by simp at hx⟩
  case round =>
    obtain ⟨j, hj, rfl, hmid, hkept, hfit⟩ := hrel
    have HMI := Lib.hid hmid
    have HK := Lib.hid hkept
    have HF := Lib.hid hfit
    clear hmid hkept hfit
    by_cases hlt : j < N
    · obtain ⟨x, hx⟩ : ∃ x, (named L cols)[j]? = some x := ⟨_, List.getElem?_eq_getElem (by rw [HNL.out]; exact hlt)⟩
      have hxb := HNI.out.at hx
      have c1 := HMI.out.rd.at ((upto2_get HNL.out HSL.out hlt).trans hx)
      rw [hgad] at c1
      have HX := Lib.hid hx
      clear hx
      cases hf : Wid.fit64 (x + d) with
      | false =>
        have HO := Lib.hid (ch_over HM.out (sums_no HX.out hf))
        go_wp2_with (go_at_call 203; (with_reducible refine (Wid.plus_any x d _ hxb.1 hxb.2 d0 d1).mono ?_); rintro e5 w5 ⟨rfl, hb5⟩; rw [hf]; have HB5 := Lib.hid hb5; clear hb5)
        go_ret
        have hbb := ((HK.out.low HB1.out HB1.out.size (fun q hq => by have := HG1.out; omega)))
        have hb6 := below_call hbb HB5.out (Nat.le_refl _)
        exact ⟨ret_i HO.out.1.symm, F, HO.out.2.symm ▸ pg_up HP.out hb6, Kept.of_below hb6, fun k hk => .inl hk⟩
      | true =>
        have HV : Hid (Wid.f64 (x + d) = x + d) := Lib.hid (if_pos hf)
        have HS := Lib.hid (upto2_set HNL.out HSL.out (k := j) (y := x + d) (by rw [List.getElem?_map, HX.out]; rfl))
        have HN := Lib.hid (sums_next HF.out HX.out hf)
        go_wp2_with (go_at_call 203; (with_reducible refine (Wid.plus_any x d _ hxb.1 hxb.2 d0 d1).mono ?_); rintro e5 w5 ⟨rfl, hb5⟩; rw [hf, HV.out]; have fz5 := (HMI.out.up hb5).frozen (0 + j); rw [← Ord.add_at, hgad] at fz5; have e1 := cell_up c1 hb5; have HB5 := Lib.hid hb5; clear hb5)
        go_roundw
        case rel =>
          have hm6 := (HMI.out.up HB5.out).set j (x + d)
          have hk6 : Kept (fun q => q = g) w1 (w5.setCell ⟨g, 0 + j, none⟩ (.int .i64 (x + d))) := (HK.out.then HB5.out).set (.inl rfl) _ _
          rw [HS.out, ← Ord.add_at, hgad] at hm6
          rw [← Ord.add_at, hgad] at hk6
          exact ⟨j + 1, by omega, by go_num, hm6, hk6, HN.out⟩
        case measure => simp [intOf]; omega
    · have e : j = N := by omega
      subst e
      have hf : chFits L cols d = true := sums_all HF.out (by rw [HNL.out]; exact Nat.le_refl _)
      have HO := Lib.hid (ch_yes HM.out hf)
      have HCF := Lib.hid hf
      have hmE := HMI.out
      rw [upto2_end HNL.out HSL.out] at hmE
      have HME := Lib.hid hmE
      clear hmE hf
      obtain ⟨wo, hwo⟩ : ∃ wo, wo = wr := ⟨_, rfl⟩
      subst wr
      have hbb := ((HK.out.low HB1.out HB1.out.size (fun q hq => by have := HG1.out; omega)))
      have HBB := Lib.hid hbb
      have HPo := Lib.hid (pg_up HP.out hbb)
      have HCo := Lib.hid (HC.out.up hbb)
      have HFg : Hid (∀ k, F k → ¬ k = g) := Lib.hid (fun k hk => by have := (pgT p F m n L).lt w HP.out k hk; have := HG1.out; omega)
      have HFl : Hid (∀ k, F k → k < wo.heap.size) := Lib.hid (fun k hk => by have := (pgT p F m n L).lt w HP.out k hk; have := hbb.size; omega)
      have HAl : Hid (∀ b, some a = some b → b.block < wo.heap.size) := Lib.hid (fun b hb => by
        have h2 := HAP.out b hb
        injection hb with hb
        subst hb
        have h1 := cell_lt (HCo.out.at (List.getElem?_eq_getElem (by have := HM.out.1; have := HM.out.2.1; omega : 0 < cols.length)))
        have e2 : (a.add 0).block = a.block := by unfold Addr.add; split <;> rfl
        rwa [e2] at h1)
      have HGl := Lib.hid HME.out.lt
      clear hbb
      go_wp2
      go_loopw [46] (fun i wr => ∃ (k : Nat) (F' : Nat → Prop), k ≤ j ∧ i = .int .i64 k ∧ PG wr p F' m n (upto2 L (changed L cols d) k) ∧ Kept F wo wr ∧ (∀ q, F' q → F q ∨ wo.heap.size ≤ q)) (fun i _ => j - (intOf i).toNat)
      case atStart => exact ⟨0, F, Nat.zero_le _, rfl, by rw [upto2_start]; exact HPo.out, Kept.refl _ _, fun q hq => .inl hq⟩
      case round =>
        obtain ⟨k, F', hk, rfl, hp, hkept, hF⟩ := hrel
        have HPk := Lib.hid hp
        have HKk := Lib.hid hkept
        have HFk := Lib.hid hF
        clear hp hkept hF
        by_cases hlt2 : k < j
        · obtain ⟨v, hv⟩ : ∃ v, cols[k]? = some v := ⟨_, List.getElem?_eq_getElem (by rw [HL.out]; exact hlt2)⟩
          have hvb := HZ.out.at hv
          have hx := named_at HD.out HM.out hv
          have c1 := (HCo.out.keep HKk.out HAP.out).at hv
          have c2 := (HME.out.keep HKk.out (fun h => HFg.out g h rfl)).rd.at (k := .i64) (j := k) (v := at2 L k v + d) (by rw [List.getElem?_map, hx]; rfl)
          rw [hgad] at c2
          have hfx : Wid.fit64 (at2 L k v + d) = true := (List.all_eq_true.1 HCF.out) _ (List.mem_of_getElem? hx)
          have hfb := of_decide_eq_true hfx
          have HPA := Lib.hid (put_at HD.out HM.out d hv HPk.out.dims)
          obtain ⟨s, hs⟩ : ∃ s, s = at2 L k v + d := ⟨_, rfl⟩
          rw [← hs] at c2 hfb HPA
          clear hv hx hfx hs
          go_wp2_with (go_at_call 200; (with_reducible refine (put_any p F' m n _ k v s _ HPk.out (by omega) (by omega) hvb.1 hvb.2 hfb.1 (by omega)).mono ?_); rintro e5 w5 ⟨rfl, F5, hp5, hk5, hf5⟩; have HP5 := Lib.hid hp5; have HK5 := Lib.hid hk5; have HF5 := Lib.hid hf5; clear hp5 hk5 hf5)
          go_roundw
          case rel => exact ⟨k + 1, F5, by omega, by go_num, HPA.out ▸ HP5.out, HKk.out.trans HK5.out (fun q hq h => (HFk.out q h).elim id (fun h2 => by omega)), fun q hq => (HF5.out q hq).elim (fun h => HFk.out q h) (fun h => .inr (by have := HKk.out.size; omega))⟩
          case measure => simp [intOf]; omega
        · have e : k = j := by omega
          subst e
          have hpe := HPk.out
          rw [upto2_end (n := k) (by rw [HD.out.len, ← HM.out.2.1]; exact HL.out) (by rw [changed_len d (by rw [HD.out.len]; exact HM.out.2.1), HD.out.len, ← HM.out.2.1]; exact HL.out)] at hpe
          have HPE := Lib.hid hpe
          clear hpe
          go_wp2
          go_ret
          exact ⟨ret_i HO.out.1.symm, F', HO.out.2.symm ▸ HPE.out, (Kept.of_below HBB.out).trans HKk.out (fun q hq h => h), fun q hq => (HFk.out q hq).elim .inl (fun h => .inr (by have := HBB.out.size; omega))⟩
theorem change_any (p : Addr) (F : Nat → Prop) (m n : Nat) (L : List (List Int)) (A : Option Addr) (N cap : Nat) (cols : List Int) (d : Int) (w : World) (h : PG w p F m n L) (hc : Rd .i64 w A cols) (hap : ∀ a, A = some a → ¬ F a.block) (hl : cols.length = N) (hN : N ≤ 1000) (hz : In64 cols) (d0 : -9223372036854775808 ≤ d) (d1 : d ≤ 9223372036854775807) :
    Calls Tryz.prog 219 #[.pointer (some p), .slice A N cap, .int .i64 d] w fun e w' => e = .returned (.int .i64 (chCode m n L cols d)) ∧ ∃ F', PG w' p F' m n (chRes m n L cols d) ∧ Kept F w w' ∧ (∀ k, F' k → F k ∨ w.heap.size ≤ k) := by
  by_cases hm : Meets m n cols
  · exact change_yes p F m n L A N cap cols d w h hc hap hl hN hz d0 d1 hm
  · rw [(ch_no hm).1, (ch_no hm).2]
    refine (change_no p F m n L A N cap cols d w h hc hl hN hz hm).mono ?_
    rintro e w' ⟨rfl, rfl⟩
    exact ⟨rfl, F, h, Kept.refl _ _, fun k hk => .inl hk⟩
end Go.Proofs.YtkflggojiiebeaaGreat.Lin

namespace Go.Proofs.YtkflggojiiebeaaGreat.Lin
open Go Go.RowKit Lw Grd
set_option linter.unusedVariables false
set_option linter.unusedSimpArgs false
/-- The first k rows changed. -/
def half (L : List (List Int)) (cols : List Int) (d : Int) (k : Nat) : List (List Int) := changed (L.take k) (cols.take k) d ++ L.drop k
end Go.Proofs.YtkflggojiiebeaaGreat.Lin

namespace Go.Proofs.YtkflggojiiebeaaGreat.Lin
open Go Go.RowKit Lw Grd
set_option linter.unusedVariables false
set_option linter.unusedSimpArgs false
def sZ : List (List Int) := zerosL 2 3
def sA : List (List Int) := chRes 2 3 sZ [0, 1] 5
def sB : List (List Int) := chRes 2 3 sA [0, 2] 7
def sC : List (List Int) := chRes 2 3 sB [0, 3] 7
theorem q1 : chCode 2 3 sZ [0, 1] 5 = 0 := by decide
theorem q2 : chCode 2 3 sA [0, 2] 7 = 0 := by decide
theorem q3 : chCode 2 3 sB [0, 3] 7 = 1 := by decide
theorem q4 : rdCode 2 3 [0, 1] = 0 := by decide
theorem q5 : rdCode 2 3 [0, 2] = 0 := by decide
theorem q6 : readOf 2 3 sC [0, 1] = [12, 5] := by decide
theorem q7 : Ord.kv (readOf 2 3 sC [0, 1]) 0 = 5 := by decide
theorem q8 : Ord.kv (readOf 2 3 sC [0, 2]) ((((readOf 2 3 sC [0, 2]).length : Int) - 1) / 2) = 7 := by decide
/-- A step: its columns and what is added. -/
structure StepV where
  A : Option Addr
  n : Nat
  c : Nat
  zs : List Int
  d : Int
structure StepV.In (s : StepV) (w : World) : Prop where
  nil : s.A = none → s.n = 0 ∧ s.c = 0
  nc : s.n ≤ s.c
  cm : s.c ≤ maxLen
  rd : Rd .i64 w s.A s.zs
  len : s.zs.length = s.n
  zb : In64 s.zs
  db : -9223372036854775808 ≤ s.d ∧ s.d ≤ 9223372036854775807
end Go.Proofs.YtkflggojiiebeaaGreat.Lin

namespace Go.Proofs.YtkflggojiiebeaaGreat.Lin
open Go Go.RowKit Lw Grd
set_option linter.unusedVariables false
def Sz (m n : Nat) (L : List (List Int)) : Prop := L.length = m ∧ ∀ r ∈ L, r.length = n
def Within (b : Int) (L : List (List Int)) : Prop := ∀ r ∈ L, ∀ v ∈ r, -b ≤ v ∧ v ≤ b
/-- A number of a grid; 0 where there is none. -/
def cel (L : List (List Int)) (r c : Nat) : Int := ((L[r]?.getD [])[c]?).getD 0
theorem within_mono {b c : Int} {L : List (List Int)} (h : Within b L) (hbc : b ≤ c) : Within c L := fun r hr v hv => by have := h r hr v hv; omega
theorem sz_zeros (m n : Nat) : Sz m n (zerosL m n) := ⟨by simp [zerosL], fun r hr => by rw [(List.mem_replicate.1 hr).2]; simp⟩
theorem within_zeros (m n : Nat) : Within 0 (zerosL m n) := fun r hr v hv => by
  rw [(List.mem_replicate.1 hr).2] at hv
  rw [(List.mem_replicate.1 hv).2]
  omega
theorem sz_changed {m n : Nat} {L : List (List Int)} {cols : List Int} (h : Sz m n L) (hc : cols.length = m) (d : Int) : Sz m n (changed L cols d) := by
  refine ⟨by unfold changed; rw [List.length_zipWith, h.1, hc]; omega, fun r hr => ?_⟩
  obtain ⟨a, ha, b, hb, rfl⟩ := mem_zip hr
  rw [List.length_set]
  exact h.2 a ha
theorem getD_within {b : Int} {r : List Int} (h : ∀ v ∈ r, -b ≤ v ∧ v ≤ b) (hb : 0 ≤ b) (k : Nat) : -b ≤ r[k]?.getD 0 ∧ r[k]?.getD 0 ≤ b := by
  cases hv : r[k]? with
  | none => simp; omega
  | some v => simpa using h v (List.mem_of_getElem? hv)
theorem within_changed {b c : Int} {L : List (List Int)} {cols : List Int} {d : Int} (h : Within b L) (hb : 0 ≤ b) (hd : -c ≤ d ∧ d ≤ c) : Within (b + c) (changed L cols d) := by
  intro r hr v hv
  obtain ⟨a, ha, k, hk, rfl⟩ := mem_zip hr
  rcases List.mem_or_eq_of_mem_set hv with h1 | h1
  · have := h a ha v h1; omega
  · have := getD_within (h a ha) hb k.toNat; omega
theorem fits_within {b c : Int} {L : List (List Int)} {cols : List Int} {d : Int} (h : Within b L) (hb : 0 ≤ b) (hd : -c ≤ d ∧ d ≤ c) (hbc : b + c ≤ 9223372036854775807) : chFits L cols d = true := by
  unfold chFits
  refine List.all_eq_true.2 fun x hx => ?_
  obtain ⟨a, ha, k, hk, rfl⟩ := mem_zip hx
  have := getD_within (h a ha) hb k.toNat
  exact (Wid.fit64_yes (by omega) (by omega)).1
theorem ch_ok {m n : Nat} {L : List (List Int)} {cols : List Int} {d : Int} (hm : Meets m n cols) (hf : chFits L cols d = true) : chCode m n L cols d = 0 ∧ chRes m n L cols d = changed L cols d := by
  unfold chCode chRes
  rw [if_pos hm, if_pos hf, if_pos ⟨hm, hf⟩]
  exact ⟨rfl, rfl⟩
theorem meets_get {m n : Nat} {cols : List Int} (h : Meets m n cols) {r : Nat} (hr : r < m) : ∃ v : Nat, cols[r]? = some (v : Int) ∧ v < n := by
  have hl : r < cols.length := by rw [h.2.1]; exact hr
  have hm := h.2.2 _ (List.getElem_mem hl)
  refine ⟨cols[r].toNat, ?_, by omega⟩
  rw [List.getElem?_eq_getElem hl]
  congr 1
  omega
theorem cel_changed {m n : Nat} {L : List (List Int)} {cols : List Int} (h : Sz m n L) (hc : Meets m n cols) (d : Int) {r c : Nat} (hr : r < m) (hcn : c < n) : cel (changed L cols d) r c = cel L r c + (if cols[r]? = some (c : Int) then d else 0) := by
  have hl : r < L.length := by rw [h.1]; exact hr
  obtain ⟨v, hv, hvn⟩ := meets_get hc hr
  have hrow := h.2 _ (List.getElem_mem hl)
  unfold cel changed
  rw [List.getElem?_zipWith, List.getElem?_eq_getElem hl, hv]
  simp only [Option.getD_some, Int.toNat_natCast]
  by_cases e : v = c
  · subst e
    rw [if_pos rfl, List.getElem?_set_self (by omega)]
    rfl
  · rw [if_neg (by simp; omega), List.getElem?_set_ne e]
    omega
abbrev Ops := List (List Int × Int)
def chAll (L : List (List Int)) (ops : Ops) : List (List Int) := ops.foldl (fun L o => changed L o.1 o.2) L
/-- All of them meet, and none adds more than c. -/
def OpsOk (m n : Nat) (c : Int) (ops : Ops) : Prop := ∀ o ∈ ops, Meets m n o.1 ∧ -c ≤ o.2 ∧ o.2 ≤ c
theorem chAll_sz {m n : Nat} {c : Int} : ∀ {ops : Ops} {L : List (List Int)}, Sz m n L → OpsOk m n c ops → Sz m n (chAll L ops)
  | [], L, h, _ => h
  | o :: ops, L, h, g => chAll_sz (ops := ops) (sz_changed h (g o (by simp)).1.2.1 o.2) (fun p hp => g p (by simp [hp]))
theorem chAll_within {m n : Nat} {c : Int} (hc : 0 ≤ c) : ∀ {ops : Ops} {L : List (List Int)} {b : Int}, 0 ≤ b → Within b L → OpsOk m n c ops → Within (b + ops.length * c) (chAll L ops)
  | [], L, b, hb, h, _ => by simpa [chAll] using h
  | o :: ops, L, b, hb, h, g => by
    have ih := chAll_within hc (ops := ops) (L := changed L o.1 o.2) (b := b + c) (by omega) (within_changed h hb (g o (by simp)).2) (fun p hp => g p (by simp [hp]))
    have e : b + c + (ops.length : Int) * c = b + ((o :: ops).length : Int) * c := by
      have e1 : ((o :: ops).length : Int) = (ops.length : Int) + 1 := by simp
      rw [e1, Int.add_mul, Int.one_mul]
      omega
    rw [← e]
    exact ih
theorem cel_zeros (m n r c : Nat) : cel (zerosL m n) r c = 0 := by
  unfold cel zerosL
  rw [List.getElem?_replicate]
  split
  · simp only [Option.getD_some]
    rw [List.getElem?_replicate]
    split <;> rfl
  · rfl
theorem named_cel {m n : Nat} {L : List (List Int)} {cols : List Int} (h : Sz m n L) (hc : Meets m n cols) {r v : Nat} (hr : r < m) (hv : cols[r]? = some (v : Int)) : (named L cols)[r]? = some (cel L r v) := by
  have hl : r < L.length := by rw [h.1]; exact hr
  unfold named cel
  rw [List.getElem?_zipWith, List.getElem?_eq_getElem hl, hv]
  simp
end Go.Proofs.YtkflggojiiebeaaGreat.Lin

namespace Go.Proofs.YtkflggojiiebeaaGreat.Lin
open Go Go.RowKit Lw Grd
set_option linter.unusedVariables false
set_option linter.unusedSimpArgs false
structure Steps (w : World) (A : Option Addr) (n c : Nat) (qs : List StepV) : Prop where
  nil : A = none → n = 0 ∧ c = 0
  nc : n ≤ c
  cm : c ≤ maxLen
  len : qs.length = n
  each : ∀ (i : Nat) q, qs[i]? = some q → q.In w ∧ ∃ a, A = some a ∧ w.cell? (a.add (i * 2)) = some (.slice q.A q.n q.c) ∧ w.cell? (a.add (i * 2 + 1)) = some (.int .i64 q.d)
theorem Steps.at {w : World} {A : Option Addr} {n c : Nat} {qs : List StepV} (h : Steps w A n c qs) {i : Nat} {q : StepV} (hq : qs[i]? = some q) : ∃ (a : Addr) (g o : Nat), A = some a ∧ a.add (i * 2) = ⟨g, o, none⟩ ∧ w.cell? ⟨g, o, none⟩ = some (.slice q.A q.n q.c) ∧ w.cell? ⟨g, o + 1, none⟩ = some (.int .i64 q.d) ∧ q.In w := by
  obtain ⟨hin, a, e, h1, h2⟩ := h.each i q hq
  rw [← add_add'] at h2
  have hs : (a.add (i * 2)).spot = none := by
    unfold World.cell? at h1
    split at h1
    · split at h1
      · cases h1
      · rename_i hs; simpa using hs
    · cases h1
  obtain ⟨ad, had⟩ : ∃ ad, a.add (i * 2) = ad := ⟨_, rfl⟩
  rw [had] at h1 h2 hs
  obtain ⟨g, o, sp⟩ := ad
  simp only at hs
  subst hs
  rw [Ord.add_at] at h2
  exact ⟨a, g, o, e, had, h1, h2, hin⟩
/-- A number cut to a small one; plain: as far from 0, above it. -/
def dv (plain : Bool) (d : Int) : Int := if plain = true then (if 0 ≤ Int.tmod d 1099511627776 then Int.tmod d 1099511627776 else -Int.tmod d 1099511627776) else Int.tmod d 1099511627776
theorem tmod_bd (d : Int) : -1099511627776 < Int.tmod d 1099511627776 ∧ Int.tmod d 1099511627776 < 1099511627776 := by
  have h1 := Int.tmod_lt_of_pos d (show (0 : Int) < 1099511627776 by omega)
  have h3 := Int.tmod_lt_of_pos (-d) (show (0 : Int) < 1099511627776 by omega)
  rw [Int.neg_tmod] at h3
  omega
theorem dv_bd (plain : Bool) (d : Int) : -1099511627776 ≤ dv plain d ∧ dv plain d ≤ 1099511627776 := by
  have := tmod_bd d
  unfold dv
  split
  · split <;> omega
  · omega
theorem dv_plain (d : Int) : 0 ≤ dv true d := by
  unfold dv
  rw [if_pos rfl]
  split <;> omega
end Go.Proofs.YtkflggojiiebeaaGreat.Lin

namespace Go.Proofs.YtkflggojiiebeaaGreat.Lin
open Go Go.RowKit Lw Grd
set_option linter.unusedVariables false
def own (cols : List Int) : Ops → Int
  | [] => 0
  | o :: ops => (if o.1 = cols then o.2 else 0) + own cols ops
theorem own_app (cols : List Int) : ∀ a b : Ops, own cols (a ++ b) = own cols a + own cols b
  | [], b => by simp [own]
  | o :: a, b => by
    simp only [List.cons_append, own, own_app cols a b]
    omega
def Plus (b : Int) (ops : Ops) : Prop := ∀ o ∈ ops, 0 ≤ o.2 ∧ o.2 ≤ b
end Go.Proofs.YtkflggojiiebeaaGreat.Lin

namespace Go.Proofs.YtkflggojiiebeaaGreat.Con
open Go Go.RowKit Lw Grd Lin
set_option linter.unusedVariables false
/-- The least of the cells that columns name. -/
def lea (L : List (List Int)) (cols : List Int) : Int := Ord.kv (named L cols) 0
def raised (L : List (List Int)) (cols : List Int) (x : Int) : List (List Int) := List.zipWith (fun r c => r.set c.toNat (max (r[c.toNat]?.getD 0) x)) L cols
def rsCode (m n : Nat) (L : List (List Int)) (cols : List Int) (d : Int) : Int := if Meets m n cols then (if d < 0 then 3 else if Wid.fit64 (lea L cols + d) = true then 0 else 4) else 1
def rsRes (m n : Nat) (L : List (List Int)) (cols : List Int) (d : Int) : List (List Int) := if Meets m n cols ∧ 0 ≤ d ∧ Wid.fit64 (lea L cols + d) = true then raised L cols (lea L cols + d) else L
theorem rs_no {m n : Nat} {L : List (List Int)} {cols : List Int} {d : Int} (h : ¬ Meets m n cols) : rsCode m n L cols d = 1 ∧ rsRes m n L cols d = L := ⟨if_neg h, if_neg (fun g => h g.1)⟩
theorem rs_neg {m n : Nat} {L : List (List Int)} {cols : List Int} {d : Int} (h : Meets m n cols) (hd : d < 0) : rsCode m n L cols d = 3 ∧ rsRes m n L cols d = L := by
  unfold rsCode rsRes
  rw [if_pos h, if_pos hd, if_neg (fun g => by have := g.2.1; omega)]
  exact ⟨rfl, rfl⟩
theorem rs_over {m n : Nat} {L : List (List Int)} {cols : List Int} {d : Int} (h : Meets m n cols) (hd : 0 ≤ d) (hf : Wid.fit64 (lea L cols + d) = false) : rsCode m n L cols d = 4 ∧ rsRes m n L cols d = L := by
  unfold rsCode rsRes
  rw [if_pos h, if_neg (by omega), hf, if_neg (by simp), if_neg (by simp)]
  exact ⟨rfl, rfl⟩
theorem rs_yes {m n : Nat} {L : List (List Int)} {cols : List Int} {d : Int} (h : Meets m n cols) (hd : 0 ≤ d) (hf : Wid.fit64 (lea L cols + d) = true) : rsCode m n L cols d = 0 ∧ rsRes m n L cols d = raised L cols (lea L cols + d) := by
  unfold rsCode rsRes
  rw [if_pos h, if_neg (by omega), hf, if_pos rfl, if_pos ⟨h, hd, rfl⟩]
  exact ⟨rfl, rfl⟩
theorem raised_len {L : List (List Int)} {cols : List Int} (x : Int) (h : cols.length = L.length) : (raised L cols x).length = L.length := by unfold raised; rw [List.length_zipWith]; omega
theorem raised_at {m n : Nat} {L : List (List Int)} {cols : List Int} (hd : Dims m n L) (h : Meets m n cols) (x : Int) {k : Nat} {v : Int} (hv : cols[k]? = some v) : (raised L cols x)[k]? = (L[k]?.map (fun r => r.set v.toNat (max (at2 L k v) x))) := by
  have hk : k < cols.length := (List.getElem?_eq_some_iff.1 hv).1
  have hl : k < L.length := by rw [hd.len, ← h.2.1]; exact hk
  have hb := meets_at h hv
  unfold raised at2
  rw [List.getElem?_zipWith, hv, List.getElem?_eq_getElem hl, if_neg (by omega)]
  simp [List.getElem?_eq_getElem hl]
theorem at2_in {m n : Nat} {L : List (List Int)} (hd : Dims m n L) (k : Nat) (v : Int) : -9223372036854775808 ≤ at2 L k v ∧ at2 L k v ≤ 9223372036854775807 := by
  unfold at2
  split
  · omega
  · cases e : L[(k : Int).toNat]? with
    | none => simp
    | some r =>
      have h2 := hd.rows r (List.mem_of_getElem? e)
      simp only [Option.getD_some]
      cases e2 : r[v.toNat]? with
      | none => simp
      | some y => simpa using h2.2 y (List.mem_of_getElem? e2)
theorem lea_in {m n : Nat} {L : List (List Int)} {cols : List Int} (hd : Dims m n L) : -9223372036854775808 ≤ lea L cols ∧ lea L cols ≤ 9223372036854775807 :=
  Ord.kv_in _ _ _ _ (by omega) (by omega) (named_in hd)
end Go.Proofs.YtkflggojiiebeaaGreat.Con

