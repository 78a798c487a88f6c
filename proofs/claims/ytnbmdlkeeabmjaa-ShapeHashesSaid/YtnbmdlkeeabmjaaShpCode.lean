/- The walks of package shape (the code's): configs, levels, keys, columns, and the key above. -/
import Derived.Test.YtnbmdlkeeabmjaaShpDef
import Derived.Test.YtnbmdlkeeabmjaaSedOne
import Derived.Test.YtnbmdlkeeabmjaaHshOne
import Derived.Test.YtnbmdlkeeabmjaaOrdMid
import Derived.Test.YtnbmdlkeeabmjaaRows2
import Derived.Deep.LoopGhost
import Derived.Deep.RegionHeld3
import Derived.Deep.QuietTactic
import Derived.BigQuiet
import Derived.WalkMore
import Derived.Laws.OwnMore
namespace Go.Proofs.Ytnbmdlkeeabmjaa.Shp
open Go Go.RowKit Lw
set_option linter.unusedVariables false
set_option linter.unusedSimpArgs false
theorem ret_bl {a b : Bool} (h : a = b) : Ending.returned (.bool a) = Ending.returned (.bool b) := by rw [h]
theorem ret_u {k : IntKind} {a b : Int} (h : a = b) : Ending.returned (.int k a) = Ending.returned (.int k b) := by rw [h]
/-- A number, the least and the greatest that it may be. -/
abbrev Lim3 := Int × Int × Int
def inside (q : Lim3) : Bool := decide (q.2.1 ≤ q.1 ∧ q.1 ≤ q.2.2)
def Lims (w : World) (a : Addr) (qs : List Lim3) : Prop := ∀ (i : Nat) (q : Lim3), qs[i]? = some q → ∃ g o : Nat, a.add (i * 3) = ⟨g, o, none⟩ ∧ w.cell? ⟨g, o, none⟩ = some (.int .i64 q.1) ∧ w.cell? ⟨g, o + 1, none⟩ = some (.int .i64 q.2.1) ∧ w.cell? ⟨g, o + 2, none⟩ = some (.int .i64 q.2.2)
theorem Lims.up {w w' : World} {a : Addr} {qs : List Lim3} (h : Lims w a qs) (hb : Below w.heap.size w w') : Lims w' a qs := fun i q hq => by
  obtain ⟨g, o, e, h1, h2, h3⟩ := h i q hq
  exact ⟨g, o, e, cell_up h1 hb, cell_up h2 hb, cell_up h3 hb⟩
theorem all_next {qs : List Lim3} {k : Nat} {q : Lim3} (hq : qs[k]? = some q) (h : (qs.take k).all inside = true) (hi : inside q = true) : (qs.take (k + 1)).all inside = true := by
  obtain ⟨h1, h2⟩ := List.getElem?_eq_some_iff.1 hq
  rw [List.take_succ_eq_append_getElem h1, List.all_append, h, h2]
  simp [hi]
theorem all_no {qs : List Lim3} {k : Nat} {q : Lim3} (hq : qs[k]? = some q) (hi : inside q = false) : qs.all inside = false := by
  rw [List.all_eq_false]
  exact ⟨q, List.mem_of_getElem? hq, by simp [hi]⟩
theorem within_any (a : Addr) (n c : Nat) (qs : List Lim3) (w : World) (hl : qs.length = n) (hnc : n ≤ c) (hcm : c ≤ maxLen) (h : Lims w a qs) :
    Calls Try.prog 25 #[.slice (some a) n c] w fun e w' => e = .returned (.bool (qs.all inside)) ∧ Below w.heap.size w w' := by
  have H := Lib.hid h
  have HL := Lib.hid hl
  unfold maxLen at hcm
  clear h hl
  go_enter Try.func25, Try.ntmps25
  go_wp2
  go_loopw [7] (fun i wr => ∃ (k : Nat), k ≤ n ∧ i = .int .i64 k ∧ Below w.heap.size w wr ∧ (qs.take k).all inside = true) (fun i _ => n - (intOf i).toNat)
  case atStart => exact ⟨0, Nat.zero_le _, rfl, Below.refl _ _, rfl⟩
  case round =>
    obtain ⟨k, hk, rfl, hb, hA⟩ := hrel
    have HB := Lib.hid hb
    have HA := Lib.hid hA
    clear hb hA
    by_cases hlt : k < n
    · obtain ⟨q1, hq1⟩ : ∃ q1, qs[k]? = some q1 := ⟨_, List.getElem?_eq_getElem (by rw [HL.out]; omega)⟩
      have HQ := Lib.hid hq1
      obtain ⟨g, o, hadd, c1, c2, c3⟩ := (H.out.up HB.out) k q1 hq1
      clear hq1
      obtain ⟨x, lo, hi⟩ := q1
      by_cases t1 : x < lo
      · have HN : Hid (inside (x, lo, hi) = false) := Lib.hid (decide_eq_false (by simp only; omega))
        go_wp2
        go_ret
        exact ⟨ret_bl (all_no HQ.out HN.out).symm, below_call HB.out (by (repeat' (first | (with_reducible exact Below.refl _ _) | (with_reducible assumption) | (with_reducible refine below_over ?_ _ _) | (with_reducible refine Lw.below_alloc ?_ _) | (with_reducible refine Below.drew ?_) | (with_reducible refine below_drewN ?_ _) | (with_reducible refine Below.setCell ?_ ?_ _) | go_size))) (Nat.le_refl _)⟩
      · by_cases t2 : hi < x
        · have HN : Hid (inside (x, lo, hi) = false) := Lib.hid (decide_eq_false (by simp only; omega))
          go_wp2
          go_ret
          exact ⟨ret_bl (all_no HQ.out HN.out).symm, below_call HB.out (by (repeat' (first | (with_reducible exact Below.refl _ _) | (with_reducible assumption) | (with_reducible refine below_over ?_ _ _) | (with_reducible refine Lw.below_alloc ?_ _) | (with_reducible refine Below.drew ?_) | (with_reducible refine below_drewN ?_ _) | (with_reducible refine Below.setCell ?_ ?_ _) | go_size))) (Nat.le_refl _)⟩
        · have HN : Hid (inside (x, lo, hi) = true) := Lib.hid (decide_eq_true (by simp only; omega))
          go_wp2
          go_roundw
          case rel => exact ⟨k + 1, by omega, by go_num, below_call HB.out (by (repeat' (first | (with_reducible exact Below.refl _ _) | (with_reducible assumption) | (with_reducible refine below_over ?_ _ _) | (with_reducible refine Lw.below_alloc ?_ _) | (with_reducible refine Below.drew ?_) | (with_reducible refine below_drewN ?_ _) | (with_reducible refine Below.setCell ?_ ?_ _) | go_size))) (Nat.le_refl _), all_next HQ.out HA.out HN.out⟩
          case measure => simp [intOf]; omega
    · have e1 : qs.take k = qs := List.take_of_length_le (by rw [HL.out]; omega)
      have HA2 := Lib.hid (e1 ▸ HA.out)
      clear e1
      go_wp2
      go_ret
      exact ⟨ret_bl HA2.out.symm, HB.out⟩
def isM (m : Int) : Bool := decide (1 ≤ m ∧ m ≤ 3)
theorem mode_eq (m : Int) (w : World) :
    Calls Try.prog 24 #[.int .i64 m] w fun e w' => e = .returned (.bool (isM m)) ∧ w' = w := by
  by_cases h1 : m = 1
  · subst h1
    go_enter Try.func24, Try.ntmps24
    go_wp2
    go_ret
    exact ⟨rfl, rfl⟩
  by_cases h2 : m = 2
  · subst h2
    go_enter Try.func24, Try.ntmps24
    go_wp2
    go_ret
    exact ⟨rfl, rfl⟩
  by_cases h3 : m = 3
  · subst h3
    go_enter Try.func24, Try.ntmps24
    go_wp2
    go_ret
    exact ⟨rfl, rfl⟩
  have HE : Hid (isM m = false) := Lib.hid (decide_eq_false (by omega))
  go_enter Try.func24, Try.ntmps24
  go_wp2
  go_ret
  exact ⟨ret_bl HE.out.symm, rfl⟩
theorem lims1 {w : World} {B : Nat} {x lo hi : Int} (h0 : w.cell? ⟨B, 0, none⟩ = some (.int .i64 x)) (h1 : w.cell? ⟨B, 1, none⟩ = some (.int .i64 lo)) (h2 : w.cell? ⟨B, 2, none⟩ = some (.int .i64 hi)) : Lims w ⟨B, 0, none⟩ [(x, lo, hi)] := by
  intro i q hq
  match i, hq with
  | 0, hq =>
    simp at hq
    subst hq
    exact ⟨B, 0, rfl, h0, h1, h2⟩
theorem lims3 {w : World} {B : Nat} {x lo hi x2 lo2 hi2 x3 lo3 hi3 : Int} (h0 : w.cell? ⟨B, 0, none⟩ = some (.int .i64 x)) (h1 : w.cell? ⟨B, 1, none⟩ = some (.int .i64 lo)) (h2 : w.cell? ⟨B, 2, none⟩ = some (.int .i64 hi))
    (h3 : w.cell? ⟨B, 3, none⟩ = some (.int .i64 x2)) (h4 : w.cell? ⟨B, 4, none⟩ = some (.int .i64 lo2)) (h5 : w.cell? ⟨B, 5, none⟩ = some (.int .i64 hi2))
    (h6 : w.cell? ⟨B, 6, none⟩ = some (.int .i64 x3)) (h7 : w.cell? ⟨B, 7, none⟩ = some (.int .i64 lo3)) (h8 : w.cell? ⟨B, 8, none⟩ = some (.int .i64 hi3)) : Lims w ⟨B, 0, none⟩ [(x, lo, hi), (x2, lo2, hi2), (x3, lo3, hi3)] := by
  intro i q hq
  match i, hq with
  | 0, hq =>
    simp at hq
    subst hq
    exact ⟨B, 0, rfl, h0, h1, h2⟩
  | 1, hq =>
    simp at hq
    subst hq
    exact ⟨B, 3, rfl, h3, h4, h5⟩
  | 2, hq =>
    simp at hq
    subst hq
    exact ⟨B, 6, rfl, h6, h7, h8⟩
theorem right_any (c : Cfg) (w : World) (h : c.Ok) :
    Calls Try.prog 10 #[.agg #[.int .i64 c.bt, .int .i64 c.rw, .int .i64 c.wd, .int .i64 c.md, .int .u64 c.sd]] w fun e w' => e = .returned (.bool (right c)) ∧ Below w.heap.size w w' := by
  cases hm : isM c.md with
  | false =>
    have HR : Hid (right c = false) := Lib.hid (decide_eq_false (fun hr => by
      have h2 := of_decide_eq_false hm
      exact h2 ⟨hr.2.2.2.2.2.2.1, hr.2.2.2.2.2.2.2⟩))
    clear h
    go_enter Try.func10, Try.ntmps10
    go_wp2_with (go_at_call 24; (with_reducible refine (mode_eq c.md _).mono ?_); rintro e w' ⟨rfl, rfl⟩; rw [hm])
    go_ret
    exact ⟨ret_bl HR.out.symm, by (repeat' (first | (with_reducible exact Below.refl _ _) | (with_reducible assumption) | (with_reducible refine below_over ?_ _ _) | (with_reducible refine Lw.below_alloc ?_ _) | (with_reducible refine Below.drew ?_) | (with_reducible refine below_drewN ?_ _) | (with_reducible refine Below.setCell ?_ ?_ _) | go_size))⟩
  | true =>
    have HR : Hid ((inside (c.bt, 1, 59) && (inside (c.rw, 1, 8) && inside (c.wd, 1, 128))) = right c) := Lib.hid (by
      obtain ⟨h2, h3⟩ := of_decide_eq_true hm
      rw [Bool.eq_iff_iff, Bool.and_eq_true, Bool.and_eq_true]
      unfold inside right
      rw [decide_eq_true_iff, decide_eq_true_iff, decide_eq_true_iff, decide_eq_true_iff]
      exact ⟨fun ⟨⟨a, b⟩, ⟨c, d⟩, e, f⟩ => ⟨a, b, c, d, e, f, h2, h3⟩, fun ⟨a, b, c, d, e, f, _, _⟩ => ⟨⟨a, b⟩, ⟨c, d⟩, e, f⟩⟩)
    clear h
    go_enter Try.func10, Try.ntmps10
    go_wp2_with (first
      | (go_at_call 24; (with_reducible refine (mode_eq c.md _).mono ?_); rintro e w' ⟨rfl, rfl⟩; rw [hm])
      | (go_at_call 25; (with_reducible refine (within_any _ 3 3 [(c.bt, 1, 59), (c.rw, 1, 8), (c.wd, 1, 128)] _ rfl (Nat.le_refl _) (by decide) (lims3 (by simp [go_sem]) (by simp [go_sem]) (by simp [go_sem]) (by simp [go_sem]) (by simp [go_sem]) (by simp [go_sem]) (by simp [go_sem]) (by simp [go_sem]) (by simp [go_sem]))).mono ?_); rintro e w' ⟨rfl, hb⟩; obtain ⟨bs, d, rfl⟩ := below_grow hb; clear hb))
    go_ret
    exact ⟨ret_bl HR.out, by (repeat' (first | (with_reducible exact Below.refl _ _) | (with_reducible assumption) | (with_reducible refine below_over ?_ _ _) | (with_reducible refine Lw.below_alloc ?_ _) | (with_reducible refine Below.drew ?_) | (with_reducible refine below_drewN ?_ _) | (with_reducible refine Below.setCell ?_ ?_ _) | go_size))⟩
def hasL (c : Cfg) (l : Int) : Bool := decide (IsRight c ∧ 0 ≤ l ∧ l ≤ c.bt)
theorem has_any (c : Cfg) (l : Int) (w : World) (h : c.Ok) :
    Calls Try.prog 26 #[.agg #[.int .i64 c.bt, .int .i64 c.rw, .int .i64 c.wd, .int .i64 c.md, .int .u64 c.sd], .int .i64 l] w fun e w' => e = .returned (.bool (hasL c l)) ∧ Below w.heap.size w w' := by
  have HO := Lib.hid h
  clear h
  cases hm : right c with
  | false =>
    have HR : Hid (hasL c l = false) := Lib.hid (decide_eq_false (fun hr => (of_decide_eq_false hm) hr.1))
    go_enter Try.func26, Try.ntmps26
    go_wp2_with (go_at_call 10; (with_reducible refine (right_any c _ HO.out).mono ?_); rintro e w' ⟨rfl, hb⟩; obtain ⟨bs, d, rfl⟩ := below_grow hb; clear hb; rw [hm])
    go_ret
    exact ⟨ret_bl HR.out.symm, by (repeat' (first | (with_reducible exact Below.refl _ _) | (with_reducible assumption) | (with_reducible refine below_over ?_ _ _) | (with_reducible refine Lw.below_alloc ?_ _) | (with_reducible refine Below.drew ?_) | (with_reducible refine below_drewN ?_ _) | (with_reducible refine Below.setCell ?_ ?_ _) | go_size))⟩
  | true =>
    have HR : Hid (inside (l, 0, c.bt) = hasL c l) := Lib.hid (by
      have h2 := of_decide_eq_true hm
      rw [Bool.eq_iff_iff]
      simp only [inside, hasL, decide_eq_true_eq]
      exact ⟨fun h => ⟨h2, h⟩, fun h => h.2⟩)
    go_enter Try.func26, Try.ntmps26
    go_wp2_with (first
      | (go_at_call 10; (with_reducible refine (right_any c _ HO.out).mono ?_); rintro e w' ⟨rfl, hb⟩; obtain ⟨bs, d, rfl⟩ := below_grow hb; clear hb; rw [hm])
      | (go_at_call 25; (with_reducible refine (within_any _ 1 1 [(l, 0, c.bt)] _ rfl (Nat.le_refl _) (by decide) (lims1 (by simp [go_sem]) (by simp [go_sem]) (by simp [go_sem]))).mono ?_); rintro e w' ⟨rfl, hb⟩; obtain ⟨bs, d, rfl⟩ := below_grow hb; clear hb))
    go_ret
    exact ⟨ret_bl HR.out, by (repeat' (first | (with_reducible exact Below.refl _ _) | (with_reducible assumption) | (with_reducible refine below_over ?_ _ _) | (with_reducible refine Lw.below_alloc ?_ _) | (with_reducible refine Below.drew ?_) | (with_reducible refine below_drewN ?_ _) | (with_reducible refine Below.setCell ?_ ?_ _) | go_size))⟩
theorem keys_any (c : Cfg) (l : Int) (w : World) (h : c.Ok) (l0 : -9223372036854775808 ≤ l) (l1 : l ≤ 9223372036854775807) :
    Calls Try.prog 12 #[.agg #[.int .i64 c.bt, .int .i64 c.rw, .int .i64 c.wd, .int .i64 c.md, .int .u64 c.sd], .int .i64 l] w fun e w' => e = .returned (.int .u64 (keys c l)) ∧ Below w.heap.size w w' := by
  have HO := Lib.hid h
  clear h
  cases hm : hasL c l with
  | false =>
    have HR : Hid (keys c l = 0) := Lib.hid (keys_no (of_decide_eq_false hm))
    go_enter Try.func12, Try.ntmps12
    go_wp2_with (go_at_call 26; (with_reducible refine (has_any c l _ HO.out).mono ?_); rintro e w' ⟨rfl, hb⟩; obtain ⟨bs, d, rfl⟩ := below_grow hb; clear hb; rw [hm])
    go_ret
    exact ⟨ret_u HR.out.symm, by (repeat' (first | (with_reducible exact Below.refl _ _) | (with_reducible assumption) | (with_reducible refine below_over ?_ _ _) | (with_reducible refine Lw.below_alloc ?_ _) | (with_reducible refine Below.drew ?_) | (with_reducible refine below_drewN ?_ _) | (with_reducible refine Below.setCell ?_ ?_ _) | go_size))⟩
  | true =>
    obtain ⟨h2, h3, h4⟩ := of_decide_eq_true hm
    have HR := Lib.hid (keys_yes h2 h3 h4)
    have kb := keys_bd c l
    have b59 := h2.2.1
    have w1 : IntKind.i64.wrap (c.bt - l) = c.bt - l := IntWalk.i64_in _ ⟨by omega, by omega⟩
    have w2 : IntKind.u64.wrap (2 ^ (c.bt - l).toNat) = keys c l := by rw [← HR.out]; exact IntWalk.u64_in _ ⟨by omega, by omega⟩
    clear h2
    go_enter Try.func12, Try.ntmps12
    go_wp2_with (go_at_call 26; (with_reducible refine (has_any c l _ HO.out).mono ?_); rintro e w' ⟨rfl, hb⟩; obtain ⟨bs, d, rfl⟩ := below_grow hb; clear hb; rw [hm])
    go_ret
    refine ⟨rfl, by (repeat' (first | (with_reducible exact Below.refl _ _) | (with_reducible assumption) | (with_reducible refine below_over ?_ _ _) | (with_reducible refine Lw.below_alloc ?_ _) | (with_reducible refine Below.drew ?_) | (with_reducible refine below_drewN ?_ _) | (with_reducible refine Below.setCell ?_ ?_ _) | go_size))⟩
set_option maxRecDepth 100000 in
theorem exact_any (c : Cfg) (l : Int) (w : World) (h : c.Ok) (l0 : -9223372036854775808 ≤ l) (l1 : l ≤ 9223372036854775807) :
    Calls Try.prog 14 #[.agg #[.int .i64 c.bt, .int .i64 c.rw, .int .i64 c.wd, .int .i64 c.md, .int .u64 c.sd], .int .i64 l] w fun e w' => e = .returned (.bool (exactB c l)) ∧ Below w.heap.size w w' := by
  have HO := Lib.hid h
  clear h
  cases hm : hasL c l with
  | true =>
    obtain ⟨h2, h3, h4⟩ := of_decide_eq_true hm
    have HR := Lib.hid (keys_pos.2 ⟨h2, h3, h4⟩)
    have w1 : IntKind.u64.wrap c.wd = c.wd := IntWalk.u64_in _ ⟨by have := h2.2.2.2.2.1; omega, by have := h2.2.2.2.2.2.1; omega⟩
    clear h2 h3 h4
    go_enter Try.func14, Try.ntmps14
    go_wp2
    go_region_held3 (fun w' => w'.cell? ⟨w.heap.size, 0, none⟩ = some (.int .i64 c.bt) ∧ w'.cell? ⟨w.heap.size, 1, none⟩ = some (.int .i64 c.rw) ∧ w'.cell? ⟨w.heap.size, 2, none⟩ = some (.int .i64 c.wd) ∧ w'.cell? ⟨w.heap.size, 3, none⟩ = some (.int .i64 c.md) ∧ w'.cell? ⟨w.heap.size, 4, none⟩ = some (.int .u64 c.sd)) (simp [go_sem]) (first
      | (go_at_call 26; (with_reducible refine (has_any c l _ HO.out).mono ?_); rintro e w' ⟨rfl, hb⟩; obtain ⟨bs, d, rfl⟩ := below_grow hb; clear hb; rw [hm])
      | (go_at_call 12; (with_reducible refine (keys_any c l _ HO.out l0 l1).mono ?_); rintro e w' ⟨rfl, hb⟩; obtain ⟨bs, d, rfl⟩ := below_grow hb; clear hb))
    all_goals go_wp2
    all_goals go_ret
    all_goals (refine ⟨ret_bl ?_, by (repeat' (first | (with_reducible exact Below.refl _ _) | (with_reducible assumption) | (with_reducible refine below_over ?_ _ _) | (with_reducible refine Lw.below_alloc ?_ _) | (with_reducible refine Below.drew ?_) | (with_reducible refine below_drewN ?_ _) | (with_reducible refine Below.setCell ?_ ?_ _) | go_size))⟩)
    all_goals (unfold exactB; have := HR.out; simp [this])
  | false =>
    have HR : Hid (exactB c l = false) := Lib.hid (decide_eq_false (by rw [keys_no (of_decide_eq_false hm)]; omega))
    go_enter Try.func14, Try.ntmps14
    go_wp2
    refine wp_region_held_drew (S := (fun w' => w'.cell? ⟨w.heap.size, 0, none⟩ = some (.int .i64 c.bt) ∧ w'.cell? ⟨w.heap.size, 1, none⟩ = some (.int .i64 c.rw) ∧ w'.cell? ⟨w.heap.size, 2, none⟩ = some (.int .i64 c.wd) ∧ w'.cell? ⟨w.heap.size, 3, none⟩ = some (.int .i64 c.md) ∧ w'.cell? ⟨w.heap.size, 4, none⟩ = some (.int .u64 c.sd))) (by kernel_rfl) (by simp [go_sem]) (fun hHeld => ?_)
    refine wpAnyH_take (i := 0) (v := ?_) rfl (by kernel_rfl) (by kernel_rfl) (by kernel_rfl) (fun _ _ _ h => h) (Or.inl ⟨by rfl, ?_⟩) hHeld ?_
    rotate_left
    · intro w hSw
      (try dsimp only at hSw)
      go_simp
      (try with_reducible rfl)
    (try simp only [List.getElem_toArray, List.getElem_cons_zero, List.getElem_cons_succ, Act.put, List.setIfInBounds_toArray, List.set_cons_zero, List.set_cons_succ])
    refine wpAnyH_take (i := 1) (v := ?_) rfl (by kernel_rfl) (by kernel_rfl) (by kernel_rfl) (fun _ _ _ h => h) (Or.inl ⟨by rfl, ?_⟩) hHeld ?_
    rotate_left
    · intro w hSw
      (try dsimp only at hSw)
      go_simp
      (try with_reducible rfl)
    (try simp only [List.getElem_toArray, List.getElem_cons_zero, List.getElem_cons_succ, Act.put, List.setIfInBounds_toArray, List.set_cons_zero, List.set_cons_succ])
    refine wpAnyH_ready (rs := [2]) (by kernel_rfl) (by simp) ?_
    refine AllReadyH.cons rfl (fun K hK => ?_) AllReadyH.nil
    go_simp
    (go_at_call 26; (with_reducible refine (has_any c l _ HO.out).mono ?_); rintro e w' ⟨rfl, hb⟩; obtain ⟨bs, d, rfl⟩ := below_grow hb; clear hb; rw [hm])
    refine hK.out _ _ (by simp [go_sem]) (fun hHeld => ?_)
    clear hK K
    (try simp only [List.getElem_toArray, List.getElem_cons_zero, List.getElem_cons_succ, Act.put, List.setIfInBounds_toArray, List.set_cons_zero, List.set_cons_succ])
    refine wpAnyH_take (i := 3) (v := ?_) rfl (by kernel_rfl) (by kernel_rfl) (by kernel_rfl) (fun _ _ _ h => h) (Or.inl ⟨by rfl, ?_⟩) hHeld ?_
    rotate_left
    · intro w hSw
      (try dsimp only at hSw)
      go_simp
      (try with_reducible rfl)
    (try simp only [List.getElem_toArray, List.getElem_cons_zero, List.getElem_cons_succ, Act.put, List.setIfInBounds_toArray, List.set_cons_zero, List.set_cons_succ])
    refine wpAnyH_take (i := 4) (v := undef) rfl (by kernel_rfl) (by kernel_rfl) (by kernel_rfl) (fun _ _ _ h => h) (Or.inr ⟨by rfl, rfl⟩) hHeld ?_
    (try simp only [List.getElem_toArray, List.getElem_cons_zero, List.getElem_cons_succ, Act.put, List.setIfInBounds_toArray, List.set_cons_zero, List.set_cons_succ])
    refine wpAnyH_take (i := 5) (v := undef) rfl (by kernel_rfl) (by kernel_rfl) (by kernel_rfl) (fun _ _ _ h => h) (Or.inr ⟨by rfl, rfl⟩) hHeld ?_
    (try simp only [List.getElem_toArray, List.getElem_cons_zero, List.getElem_cons_succ, Act.put, List.setIfInBounds_toArray, List.set_cons_zero, List.set_cons_succ])
    refine wpAnyH_take (i := 7) (v := undef) rfl (by kernel_rfl) (by kernel_rfl) (by kernel_rfl) (fun _ _ _ h => h) (Or.inr ⟨by rfl, rfl⟩) hHeld ?_
    (try simp only [List.getElem_toArray, List.getElem_cons_zero, List.getElem_cons_succ, Act.put, List.setIfInBounds_toArray, List.set_cons_zero, List.set_cons_succ])
    refine wpAnyH_take (i := 8) (v := undef) rfl (by kernel_rfl) (by kernel_rfl) (by kernel_rfl) (fun _ _ _ h => h) (Or.inr ⟨by rfl, rfl⟩) hHeld ?_
    (try simp only [List.getElem_toArray, List.getElem_cons_zero, List.getElem_cons_succ, Act.put, List.setIfInBounds_toArray, List.set_cons_zero, List.set_cons_succ])
    refine wpAnyH_take (i := 9) (v := undef) rfl (by kernel_rfl) (by kernel_rfl) (by kernel_rfl) (fun _ _ _ h => h) (Or.inr ⟨by rfl, rfl⟩) hHeld ?_
    (try simp only [List.getElem_toArray, List.getElem_cons_zero, List.getElem_cons_succ, Act.put, List.setIfInBounds_toArray, List.set_cons_zero, List.set_cons_succ])
    refine wpAnyH_ready (rs := [6]) (by kernel_rfl) (by simp) ?_
    refine AllReadyH.cons rfl (fun K hK => ?_) AllReadyH.nil
    go_simp
    refine hK.out _ _ (by simp [go_sem]) (fun hHeld => ?_)
    clear hK K
    (try simp only [List.getElem_toArray, List.getElem_cons_zero, List.getElem_cons_succ, Act.put, List.setIfInBounds_toArray, List.set_cons_zero, List.set_cons_succ])
    refine wpAnyH_take (i := 10) (v := undef) rfl (by kernel_rfl) (by kernel_rfl) (by kernel_rfl) (fun _ _ _ h => h) (Or.inr ⟨by rfl, rfl⟩) hHeld ?_
    (try simp only [List.getElem_toArray, List.getElem_cons_zero, List.getElem_cons_succ, Act.put, List.setIfInBounds_toArray, List.set_cons_zero, List.set_cons_succ])
    refine wpAnyH_take (i := 11) (v := ?_) rfl (by kernel_rfl) (by kernel_rfl) (by kernel_rfl) (fun _ _ _ h => h) (Or.inl ⟨by rfl, ?_⟩) hHeld ?_
    rotate_left
    · intro w hSw
      (try dsimp only at hSw)
      go_simp
      (try with_reducible rfl)
    (try simp only [List.getElem_toArray, List.getElem_cons_zero, List.getElem_cons_succ, Act.put, List.setIfInBounds_toArray, List.set_cons_zero, List.set_cons_succ])
    refine wpAnyH_take (i := 12) (v := ?_) rfl (by kernel_rfl) (by kernel_rfl) (by kernel_rfl) (fun _ _ _ h => h) (Or.inl ⟨by rfl, ?_⟩) hHeld ?_
    rotate_left
    · intro w hSw
      (try dsimp only at hSw)
      go_simp
      (try with_reducible rfl)
    (try simp only [List.getElem_toArray, List.getElem_cons_zero, List.getElem_cons_succ, Act.put, List.setIfInBounds_toArray, List.set_cons_zero, List.set_cons_succ])
    refine wpAnyH_done (by kernel_rfl) ?_ _
    go_wp2
    go_ret
    exact ⟨ret_bl HR.out.symm, by (repeat' (first | (with_reducible exact Below.refl _ _) | (with_reducible assumption) | (with_reducible refine below_over ?_ _ _) | (with_reducible refine Lw.below_alloc ?_ _) | (with_reducible refine Below.drew ?_) | (with_reducible refine below_drewN ?_ _) | (with_reducible refine Below.setCell ?_ ?_ _) | go_size))⟩
theorem above_any (c : Cfg) (l k : Int) (w : World) (h : c.Ok) (l0 : -9223372036854775808 ≤ l) (l1 : l ≤ 9223372036854775807) (k0 : 0 ≤ k) (k1 : k ≤ 18446744073709551615) :
    Calls Try.prog 16 #[.agg #[.int .i64 c.bt, .int .i64 c.rw, .int .i64 c.wd, .int .i64 c.md, .int .u64 c.sd], .int .i64 l, .int .u64 k] w fun e w' => e = .returned (.tuple #[.int .u64 (aboveV c l k), .bool (aboveOk c l k)]) ∧ Below w.heap.size w w' := by
  have HO := Lib.hid h
  clear h
  cases hm : hasL c l with
  | false =>
    have e1 : aboveOk c l k = false := decide_eq_false (fun h => h.1 (keys_no (of_decide_eq_false hm)))
    have e2 : aboveV c l k = 0 := by unfold aboveV; rw [e1]; rfl
    rw [e1, e2]
    clear e1 e2
    go_enter Try.func16, Try.ntmps16
    go_wp2_with (go_at_call 26; (with_reducible refine (has_any c l _ HO.out).mono ?_); rintro e w' ⟨rfl, hb⟩; obtain ⟨bs, d, rfl⟩ := below_grow hb; clear hb; rw [hm])
    go_ret2
    exact ⟨rfl, by (repeat' (first | (with_reducible exact Below.refl _ _) | (with_reducible assumption) | (with_reducible refine below_over ?_ _ _) | (with_reducible refine Lw.below_alloc ?_ _) | (with_reducible refine Below.drew ?_) | (with_reducible refine below_drewN ?_ _) | (with_reducible refine Below.setCell ?_ ?_ _) | go_size))⟩
  | true =>
    obtain ⟨h2, h3, h4⟩ := of_decide_eq_true hm
    have b59 := h2.2.1
    have hk0 := keys_pos.2 ⟨h2, h3, h4⟩
    by_cases hk : keys c 0 ≤ k
    · have e1 : aboveOk c l k = false := decide_eq_false (by omega)
      have e2 : aboveV c l k = 0 := by unfold aboveV; rw [e1]; rfl
      rw [e1, e2]
      clear e1 e2 h2 hk0
      go_enter Try.func16, Try.ntmps16
      go_wp2_with (first
        | (go_at_call 26; (with_reducible refine (has_any c l _ HO.out).mono ?_); rintro e w' ⟨rfl, hb⟩; obtain ⟨bs, d, rfl⟩ := below_grow hb; clear hb; rw [hm])
        | (go_at_call 12; (with_reducible refine (keys_any c 0 _ HO.out (by omega) (by omega)).mono ?_); rintro e w' ⟨rfl, hb⟩; obtain ⟨bs, d, rfl⟩ := below_grow hb; clear hb))
      go_ret2
      exact ⟨rfl, by (repeat' (first | (with_reducible exact Below.refl _ _) | (with_reducible assumption) | (with_reducible refine below_over ?_ _ _) | (with_reducible refine Lw.below_alloc ?_ _) | (with_reducible refine Below.drew ?_) | (with_reducible refine below_drewN ?_ _) | (with_reducible refine Below.setCell ?_ ?_ _) | go_size))⟩
    · have e1 : aboveOk c l k = true := decide_eq_true (by omega)
      have e2 : aboveV c l k = k / 2 ^ l.toNat := if_pos e1
      have e3 : IntKind.u64.wrap (k / 2 ^ l.toNat) = k / 2 ^ l.toNat := IntWalk.u64_in _ ⟨Int.ediv_nonneg k0 (Int.le_of_lt (Int.pow_pos (by omega))), Int.le_trans (Int.ediv_le_self _ k0) (by omega)⟩
      rw [e1, e2]
      clear e1 e2 h2 hk0
      go_enter Try.func16, Try.ntmps16
      go_wp2_with (first
        | (go_at_call 26; (with_reducible refine (has_any c l _ HO.out).mono ?_); rintro e w' ⟨rfl, hb⟩; obtain ⟨bs, d, rfl⟩ := below_grow hb; clear hb; rw [hm])
        | (go_at_call 12; (with_reducible refine (keys_any c 0 _ HO.out (by omega) (by omega)).mono ?_); rintro e w' ⟨rfl, hb⟩; obtain ⟨bs, d, rfl⟩ := below_grow hb; clear hb))
      go_ret2
      exact ⟨rfl, by (repeat' (first | (with_reducible exact Below.refl _ _) | (with_reducible assumption) | (with_reducible refine below_over ?_ _ _) | (with_reducible refine Lw.below_alloc ?_ _) | (with_reducible refine Below.drew ?_) | (with_reducible refine below_drewN ?_ _) | (with_reducible refine Below.setCell ?_ ?_ _) | go_size))⟩
theorem pair_bd (s l : Int) (r : Nat) : (0 ≤ Sed.pairA s l r ∧ Sed.pairA s l r ≤ 18446744073709551615) ∧ (0 ≤ Sed.pairB s l r ∧ Sed.pairB s l r ≤ 18446744073709551615) := by
  by_cases h : Sed.okRow l r
  · have h1 := Sed.pairA_bd s l r h
    have h2 := Sed.pairB_bd s l r h
    omega
  · have h1 : Sed.pairA s l r = 0 := if_neg h
    have h2 : Sed.pairB s l r = 0 := if_neg h
    omega
theorem column_any (c : Cfg) (l k : Int) (r : Nat) (b0 b1 b2 : Nat) (w : World) (h : c.Ok) (l0 : -9223372036854775808 ≤ l) (l1 : l ≤ 9223372036854775807) (k0 : 0 ≤ k) (k1 : k ≤ 18446744073709551615) (hr : r ≤ 8)
    (c2 : w.cell? ⟨b0, 2, none⟩ = some (.int .i64 c.wd)) (c4 : w.cell? ⟨b0, 4, none⟩ = some (.int .u64 c.sd)) (cl : w.cell? ⟨b1, 0, none⟩ = some (.int .i64 l)) (ck : w.cell? ⟨b2, 0, none⟩ = some (.int .u64 k)) :
    Calls Try.prog 27 #[.int .i64 (r : Int), .pointer (some ⟨b0, 0, none⟩), .pointer (some ⟨b1, 0, none⟩), .pointer (some ⟨b2, 0, none⟩)] w fun e w' => e = .returned (.int .i64 (col c l k r)) ∧ Below w.heap.size w w' := by
  have hp := pair_bd c.sd l r
  have HO := Lib.hid h
  clear h
  go_enter Try.func27, Try.ntmps27
  go_wp2_with (first
    | (go_at_call 22; (with_reducible refine (Sed.pair_any c.sd l r _ l0 l1 (by omega) (by omega)).mono ?_); rintro e w5 ⟨rfl, hb⟩; have d2 := cell_up c2 hb; have dk := cell_up ck hb; have HB5 := Lib.hid hb; clear hb c2 c4 cl ck)
    | (go_at_call 23; (with_reducible refine (Hsh.bucket_any (Sed.pairA c.sd l r) (Sed.pairB c.sd l r) k c.wd _ hp.1.1 hp.1.2 hp.2.1 hp.2.2 k0 k1 HO.out.w0 HO.out.w1).mono ?_); rintro e w6 ⟨rfl, hb⟩; have HB6 := Lib.hid hb; clear hb))
  go_ret
  exact ⟨rfl, below_call HB5.out HB6.out (Nat.le_refl _)⟩
def mixC (c : Cfg) (l k : Int) (n j : Nat) : List Int := (List.range n).map (fun r => if r < j then col c l k r else 0)
theorem mixC_len (c : Cfg) (l k : Int) (n j : Nat) : (mixC c l k n j).length = n := by simp [mixC]
theorem mixC_start (c : Cfg) (l k : Int) (n : Nat) : mixC c l k n 0 = List.replicate n 0 := by
  apply List.ext_getElem
  · simp [mixC]
  · intro i h1 h2
    simp [mixC]
theorem mixC_get (c : Cfg) (l k : Int) {n j : Nat} (hj : j < n) : (mixC c l k n j)[j]? = some 0 := by
  simp [mixC, hj]
theorem mixC_set (c : Cfg) (l k : Int) {n j : Nat} (hj : j < n) : (mixC c l k n j).set j (col c l k j) = mixC c l k n (j + 1) := by
  apply List.ext_getElem
  · simp [mixC]
  · intro i h1 h2
    rw [List.getElem_set]
    simp only [mixC, List.getElem_map, List.getElem_range]
    by_cases e : j = i
    · subst e
      rw [if_pos rfl, if_pos (by omega)]
    · rw [if_neg e]
      by_cases h3 : i < j
      · rw [if_pos h3, if_pos (by omega)]
      · rw [if_neg h3, if_neg (by omega)]
theorem mixC_end (c : Cfg) (l k : Int) (n : Nat) : mixC c l k n n = (List.range n).map (col c l k) := by
  apply List.ext_getElem
  · simp [mixC]
  · intro i h1 h2
    simp only [mixC, List.length_map, List.length_range] at h1
    simp only [mixC, List.getElem_map, List.getElem_range]
    rw [if_pos h1]
theorem int_info : (Try.prog.info? 3).map (fun i => (i.zero, i.size, i.bytes)) = some (some (.int .i64 0), 1, 8) := by kernel_rfl
theorem ints_u : Try.prog.underlying 32 = some (.slice 3) := by kernel_rfl
theorem mid_made (w : World) (q : Nat) (e : TypeId) : Ord.Mid (w.alloc (.cells (madeCells #[.int .i64 0] q) e)) w.heap.size 0 (List.replicate q 0) := by
  refine ⟨_, _, heap_alloc_new w _, fun j v hv => ?_⟩
  have h2 := toList_madeCells_one (.int .i64 0) q
  rw [List.getElem?_replicate] at hv
  split at hv
  · rename_i hj
    injection hv with hv
    subst hv
    rw [← Array.getElem?_toList, h2, Nat.zero_add, List.getElem?_replicate, if_pos hj]
  · cases hv
theorem kept_low {B : Nat} {w w2 w3 : World} {g : Nat} (h : Kept (fun q => q = g) w2 w3) (hb : Below B w w2) (hB : B ≤ w2.heap.size) (hg : B ≤ g) : Below B w w3 := h.low hb hB (fun q hq => by omega)
set_option maxRecDepth 100000 in
set_option maxHeartbeats 4000000 in
theorem columns_no (c : Cfg) (l k : Int) (w : World) (h : c.Ok) (l0 : -9223372036854775808 ≤ l) (l1 : l ≤ 9223372036854775807) (hk : keys c l ≤ k) :
    Calls Try.prog 19 #[.agg #[.int .i64 c.bt, .int .i64 c.rw, .int .i64 c.wd, .int .i64 c.md, .int .u64 c.sd], .int .i64 l, .int .u64 k] w fun e w' => e = .returned (.slice none 0 0) ∧ Below w.heap.size w w' := by
  have HO := Lib.hid h
  clear h
  go_enter Try.func19, Try.ntmps19
  go_wp2
  go_region_held3 (fun w' => w'.cell? ⟨w.heap.size, 0, none⟩ = some (.int .i64 c.bt) ∧ w'.cell? ⟨w.heap.size, 1, none⟩ = some (.int .i64 c.rw) ∧ w'.cell? ⟨w.heap.size, 2, none⟩ = some (.int .i64 c.wd) ∧ w'.cell? ⟨w.heap.size, 3, none⟩ = some (.int .i64 c.md) ∧ w'.cell? ⟨w.heap.size, 4, none⟩ = some (.int .u64 c.sd) ∧ w'.cell? ⟨w.heap.size + 1, 0, none⟩ = some (.int .i64 l) ∧ w'.cell? ⟨w.heap.size + 1 + 1, 0, none⟩ = some (.int .u64 k)) (simp [go_sem]) (first | (go_at_call 12; (with_reducible refine (keys_any c l _ HO.out l0 l1).mono ?_); rintro e w' ⟨rfl, hb⟩; obtain ⟨bs, d, rfl⟩ := below_grow hb; clear hb))
  all_goals go_wp2
  all_goals go_ret
  all_goals exact ⟨rfl, by (repeat' (first | (with_reducible exact Below.refl _ _) | (with_reducible assumption) | (with_reducible refine below_over ?_ _ _) | (with_reducible refine Lw.below_alloc ?_ _) | (with_reducible refine Below.drew ?_) | (with_reducible refine below_drewN ?_ _) | (with_reducible refine Below.setCell ?_ ?_ _) | go_size))⟩
set_option maxRecDepth 100000 in
set_option maxHeartbeats 4000000 in
theorem columns_yes (c : Cfg) (l k : Int) (n : Nat) (w : World) (h : c.Ok) (l0 : -9223372036854775808 ≤ l) (l1 : l ≤ 9223372036854775807) (k0 : 0 ≤ k) (k1 : k ≤ 18446744073709551615) (hk : k < keys c l) (hn : c.rw = n) (hn8 : n ≤ 8) :
    Calls Try.prog 19 #[.agg #[.int .i64 c.bt, .int .i64 c.rw, .int .i64 c.wd, .int .i64 c.md, .int .u64 c.sd], .int .i64 l, .int .u64 k] w fun e w' => ∃ g, e = .returned (.slice (some ⟨g, 0, none⟩) n n) ∧ Ord.Mid w' g 0 ((List.range n).map (col c l k)) ∧ Below w.heap.size w w' := by
  have HO := Lib.hid h
  obtain ⟨i0, hi, hz0, hz1, hz2⟩ := info_parts int_info
  have hmk : ∀ w, (Instr.makeSlice 32 (.int .i64 (n : Int)) (.int .i64 (n : Int))).run Try.prog w = .ok (.slice (some ⟨w.heap.size, 0, none⟩) n n) (w.alloc (.cells (madeCells #[.int .i64 0] n) 3)) := by
    intro w
    have h := run_make (P := Try.prog) w 32 3 i0 (.int .i64 0) ints_u hi hz0 .i64 .i64 n n (by omega) (Int.le_refl _) (by rw [hz2]; omega) (by omega)
    rw [hz1] at h
    simpa [Value.cells] using h
  have HN := Lib.hid hn
  clear hi hz0 hz1 hz2 h hn
  have hmf : ∀ (fn : Fn) (first cap : Array Value) (w : World), (Instr.makeFunc fn first cap).run Try.prog w = .ok (.func fn first cap) w := fun _ _ _ _ => rfl
  go_enter Try.func19, Try.ntmps19
  go_wp2
  go_region_held3 (fun w' => w'.cell? ⟨w.heap.size, 0, none⟩ = some (.int .i64 c.bt) ∧ w'.cell? ⟨w.heap.size, 1, none⟩ = some (.int .i64 c.rw) ∧ w'.cell? ⟨w.heap.size, 2, none⟩ = some (.int .i64 c.wd) ∧ w'.cell? ⟨w.heap.size, 3, none⟩ = some (.int .i64 c.md) ∧ w'.cell? ⟨w.heap.size, 4, none⟩ = some (.int .u64 c.sd) ∧ w'.cell? ⟨w.heap.size + 1, 0, none⟩ = some (.int .i64 l) ∧ w'.cell? ⟨w.heap.size + 1 + 1, 0, none⟩ = some (.int .u64 k)) (simp [go_sem]) (first | (go_at_call 12; (with_reducible refine (keys_any c l _ HO.out l0 l1).mono ?_); rintro e w' ⟨rfl, hb⟩; obtain ⟨bs, d, rfl⟩ := below_grow hb; clear hb))
  rw [HN.out]
  go_wp2
  obtain ⟨X, hX⟩ : ∃ X, X = grow (((w.alloc (.cells #[.int .i64 c.bt, .int .i64 (n : Int), .int .i64 c.wd, .int .i64 c.md, .int .u64 c.sd] 24)).alloc (.cells #[.int .i64 l] 3)).alloc (.cells #[.int .u64 k] 22)) bs d := ⟨_, rfl⟩
  have x2 : X.cell? ⟨w.heap.size, 2, none⟩ = some (.int .i64 c.wd) := by rw [hX]; simp [go_sem]
  have x4 : X.cell? ⟨w.heap.size, 4, none⟩ = some (.int .u64 c.sd) := by rw [hX]; simp [go_sem]
  have xl : X.cell? ⟨w.heap.size + 1, 0, none⟩ = some (.int .i64 l) := by rw [hX]; simp [go_sem]
  have xk : X.cell? ⟨w.heap.size + 1 + 1, 0, none⟩ = some (.int .u64 k) := by rw [hX]; simp [go_sem]
  have HBX : Hid (Below w.heap.size w X) := Lib.hid (by rw [hX]; (repeat' (first | (with_reducible exact Below.refl _ _) | (with_reducible assumption) | (with_reducible refine below_over ?_ _ _) | (with_reducible refine Lw.below_alloc ?_ _) | (with_reducible refine Below.drew ?_) | (with_reducible refine below_drewN ?_ _) | (with_reducible refine Below.setCell ?_ ?_ _) | go_size)))
  have hsz : X.heap.size = w.heap.size + 1 + 1 + 1 + bs.size := by rw [hX]; simp
  rw [← hX, ← hsz]
  have HM2 := Lib.hid (mid_made X n 3)
  obtain ⟨w2, hw2⟩ : ∃ w2, w2 = X.alloc (.cells (madeCells #[.int .i64 0] n) 3) := ⟨_, rfl⟩
  rw [← hw2] at HM2 ⊢
  have HB2 : Hid (Below X.heap.size X w2) := Lib.hid (by rw [hw2]; exact Lw.below_alloc (Below.refl _ _) _)
  obtain ⟨g, hg⟩ : ∃ g, X.heap.size = g := ⟨_, rfl⟩
  have c2 := cell_up x2 HB2.out
  have c4 := cell_up x4 HB2.out
  have cl := cell_up xl HB2.out
  have ck := cell_up xk HB2.out
  have HBW : Hid (Below w.heap.size w w2) := Lib.hid (below_call HBX.out HB2.out (Nat.le_refl _))
  rw [hg] at HM2 hsz ⊢
  have hg0 : ¬ w.heap.size = g := by omega
  have hg1 : ¬ w.heap.size + 1 = g := by omega
  have hg2 : ¬ w.heap.size + 1 + 1 = g := by omega
  have hgw : w.heap.size ≤ g := by omega
  clear x2 x4 xl xk hX hw2 hg HB2 HBX hsz
  obtain ⟨gad, hgad⟩ : ∃ gad : Addr, (⟨g, 0, none⟩ : Addr) = gad := ⟨_, rfl⟩
  have HG := Lib.hid hgad
  rw [hgad]
  go_loopw [21] (fun i wr => ∃ (j : Nat), j ≤ n ∧ i = .int .i64 j ∧ Ord.Mid wr g 0 (mixC c l k n j) ∧ Kept (fun q => q = g) w2 wr) (fun i _ => n - (intOf i).toNat)
  case atStart => exact ⟨0, Nat.zero_le _, rfl, by rw [mixC_start]; exact HM2.out, Kept.refl _ _⟩
  case round =>
    obtain ⟨j, hj, rfl, hmid, hkept⟩ := hrel
    have HMI := Lib.hid hmid
    have HK := Lib.hid hkept
    clear hmid hkept
    by_cases hlt : j < n
    · have d2 := HK.out.cell c2 hg0
      have d4 := HK.out.cell c4 hg0
      have dl := HK.out.cell cl hg1
      have dk := HK.out.cell ck hg2
      have HS := Lib.hid (mixC_set c l k hlt)
      have c1 := HMI.out.rd.at (mixC_get c l k hlt)
      rw [hgad] at c1
      go_wp2_with (go_at_call 27; (with_reducible refine (column_any c l k j w.heap.size (w.heap.size + 1) (w.heap.size + 1 + 1) _ HO.out l0 l1 k0 k1 (by omega) d2 d4 dl dk).mono ?_); rintro e5 w5 ⟨rfl, hb5⟩; have fz5 := (HMI.out.up hb5).frozen (0 + j); rw [← Ord.add_at, hgad] at fz5; have e1 := cell_up c1 hb5; have HB5 := Lib.hid hb5; clear hb5)
      go_roundw
      case rel =>
        have hm6 := (HMI.out.up HB5.out).set j (col c l k j)
        have hk6 : Kept (fun q => q = g) w2 (w5.setCell ⟨g, 0 + j, none⟩ (.int .i64 (col c l k j))) := (HK.out.then HB5.out).set (.inl rfl) _ _
        rw [HS.out, ← Ord.add_at, hgad] at hm6
        rw [← Ord.add_at, hgad] at hk6
        exact ⟨j + 1, by omega, by go_num, hm6, hk6⟩
      case measure => simp [intOf]; omega
    · have e : j = n := by omega
      subst e
      have hm := HMI.out
      rw [mixC_end] at hm
      have HM3 := Lib.hid hm
      clear hm
      go_wp2
      go_ret
      exact ⟨g, by rw [hgad]; rfl, HM3.out, kept_low HK.out HBW.out HBW.out.size hgw⟩
theorem columns_any (c : Cfg) (l k : Int) (w : World) (h : c.Ok) (l0 : -9223372036854775808 ≤ l) (l1 : l ≤ 9223372036854775807) (k0 : 0 ≤ k) (k1 : k ≤ 18446744073709551615) :
    Calls Try.prog 19 #[.agg #[.int .i64 c.bt, .int .i64 c.rw, .int .i64 c.wd, .int .i64 c.md, .int .u64 c.sd], .int .i64 l, .int .u64 k] w fun e w' => ∃ (A : Option Addr) (cap : Nat), e = .returned (.slice A (cols c l k).length cap) ∧ Rd .i64 w' A (cols c l k) ∧ (cols c l k).length ≤ cap ∧ cap ≤ maxLen ∧ Below w.heap.size w w' := by
  by_cases hk : k < keys c l
  · have hr := (keys_pos.1 (show 1 ≤ keys c l by omega)).1
    have e : cols c l k = (List.range c.rw.toNat).map (col c l k) := if_pos hk
    have el : (cols c l k).length = c.rw.toNat := by rw [e]; simp
    have h8 : c.rw.toNat ≤ 8 := by have := hr.2.2.2.1; omega
    refine (columns_yes c l k c.rw.toNat w h l0 l1 k0 k1 hk (by have := hr.2.2.1; omega) h8).mono ?_
    rintro x w' ⟨g, rfl, hm, hb⟩
    rw [el, e]
    exact ⟨_, _, rfl, hm.rd, Nat.le_refl _, by unfold maxLen; omega, hb⟩
  · have e : cols c l k = [] := if_neg hk
    refine (columns_no c l k w h l0 l1 (by omega)).mono ?_
    rintro x w' ⟨rfl, hb⟩
    rw [e]
    exact ⟨none, 0, rfl, rd_nil _ _ _, Nat.le_refl _, Nat.zero_le _, hb⟩
end Go.Proofs.Ytnbmdlkeeabmjaa.Shp
