/- Texts that the statements of this seat lean on, put together: ShpCode, ShpRef, LinDef, LinCodM, LinCode, LinRef, LinChg, LinLawA, LinMath, LinDone, LinPlay, LinLstM, ConDef, ConCode, ConMath. -/
import Derived.Test.YtnhknachabephaaMa
import Derived.Test.YtnhknachabephaaMb
import Derived.Test.YtnhknachabephaaMc
import Derived.Deep.LoopGhost
import Derived.Deep.RegionHeld3
import Derived.Deep.QuietTactic
import Derived.BigQuiet
import Derived.WalkMore
import Derived.Laws.OwnMore
import Derived.WalkSpells
import Derived.Laws.Cover3
import Derived.Deep.DeepCutAuto
/- The walks of package shape (the code's): configs, levels, keys, columns, and the key above. -/
namespace Go.Proofs.Ytnhknachabephaa.Shp
open Go Go.RowKit Lw
set_option linter.unusedVariables false
set_option linter.unusedSimpArgs false
theorem ret_bl {a b : Bool} (h : a = b) : Ending.returned (.bool a) = Ending.returned (.bool b) := by rw [h]
theorem ret_u {k : IntKind} {a b : Int} (h : a = b) : Ending.returned (.int k a) = Ending.returned (.int k b) := by rw [h]
/-- A number, the least and the greatest that it may be. -/
abbrev Lim3 := Int × Int × Int
def inside (q : Lim3) : Bool := decide (q.2.1 ≤ q.1 ∧ q.1 ≤ q.2.2)
def Lims (w : World) (a : Addr) (qs : List Lim3) : Prop := ∀ (i : Nat) (q : Lim3), qs[i]? = some q → ∃ g o : Nat, a.add (i * 3) = ⟨g, o, none⟩ ∧ w.cell? ⟨g, o, none⟩ = some (.int .i64 q.1) ∧ w.cell? ⟨g, o + 1, none⟩ = some (.int .i64 q.2.1) ∧ w.cell? ⟨g, o + 2, none⟩ = some (.int .i64 q.2.2)
theorem Lims.up {w w' : World} {a : Addr} {qs : List Lim3} (h : Lims w a qs) (hb : Below w.heap.size w w') : Lims w' a qs := fun i q hq => by
  obtain ⟨g, o, e, h1, h2, h3⟩ := h i q hq
  exact ⟨g, o, e, cell_up h1 hb, cell_up h2 hb, cell_up h3 hb⟩
theorem all_next {qs : List Lim3} {k : Nat} {q : Lim3} (hq : qs[k]? = some q) (h : (qs.take k).all inside = true) (hi : inside q = true) : (qs.take (k + 1)).all inside = true := by
  obtain ⟨h1, h2⟩ := List.getElem?_eq_some_iff.1 hq
  rw [List.take_succ_eq_append_getElem h1, List.all_append, h, h2]
  simp [hi]
theorem all_no {qs : List Lim3} {k : Nat} {q : Lim3} (hq : qs[k]? = some q) (hi : inside q = false) : qs.all inside = false := by
  rw [List.all_eq_false]
  exact ⟨q, List.mem_of_getElem? hq, by simp [hi]⟩
theorem within_any (a : Addr) (n c : Nat) (qs : List Lim3) (w : World) (hl : qs.length = n) (hnc : n ≤ c) (hcm : c ≤ maxLen) (h : Lims w a qs) :
    Calls Try.prog 58 #[.slice (some a) n c] w fun e w' => e = .returned (.bool (qs.all inside)) ∧ Below w.heap.size w w' := by
  have H := Lib.hid h
  have HL := Lib.hid hl
  unfold maxLen at hcm
  clear h hl
  go_enter Try.func58, Try.ntmps58
  go_wp2
  go_loopw [7] (fun i wr => ∃ (k : Nat), k ≤ n ∧ i = .int .i64 k ∧ Below w.heap.size w wr ∧ (qs.take k).all inside = true) (fun i _ => n - (intOf i).toNat)
  case atStart => exact ⟨0, Nat.zero_le _, rfl, Below.refl _ _, rfl⟩
  case round =>
    obtain ⟨k, hk, rfl, hb, hA⟩ := hrel
    have HB := Lib.hid hb
    have HA := Lib.hid hA
    clear hb hA
    by_cases hlt : k < n
    · obtain ⟨q1, hq1⟩ : ∃ q1, qs[k]? = some q1 := ⟨_, List.getElem?_eq_getElem (by rw [HL.out]; omega)⟩
      have HQ := Lib.hid hq1
      obtain ⟨g, o, hadd, c1, c2, c3⟩ := (H.out.up HB.out) k q1 hq1
      clear hq1
      obtain ⟨x, lo, hi⟩ := q1
      by_cases t1 : x < lo
      · have HN : Hid (inside (x, lo, hi) = false) := Lib.hid (decide_eq_false (by simp only; omega))
        go_wp2
        go_ret
        exact ⟨ret_bl (all_no HQ.out HN.out).symm, below_call HB.out (by (repeat' (first | (with_reducible exact Below.refl _ _) | (with_reducible assumption) | (with_reducible refine below_over ?_ _ _) | (with_reducible refine Lw.below_alloc ?_ _) | (with_reducible refine Below.drew ?_) | (with_reducible refine below_drewN ?_ _) | (with_reducible refine Below.setCell ?_ ?_ _) | go_size))) (Nat.le_refl _)⟩
      · by_cases t2 : hi < x
        · have HN : Hid (inside (x, lo, hi) = false) := Lib.hid (decide_eq_false (by simp only; omega))
          go_wp2
          go_ret
          exact ⟨ret_bl (all_no HQ.out HN.out).symm, below_call HB.out (by (repeat' (first | (with_reducible exact Below.refl _ _) | (with_reducible assumption) | (with_reducible refine below_over ?_ _ _) | (with_reducible refine Lw.below_alloc ?_ _) | (with_reducible refine Below.drew ?_) | (with_reducible refine below_drewN ?_ _) | (with_reducible refine Below.setCell ?_ ?_ _) | go_size))) (Nat.le_refl _)⟩
        · have HN : Hid (inside (x, lo, hi) = true) := Lib.hid (decide_eq_true (by simp only; omega))
          go_wp2
          go_roundw
          case rel => exact ⟨k + 1, by omega, by go_num, below_call HB.out (by (repeat' (first | (with_reducible exact Below.refl _ _) | (with_reducible assumption) | (with_reducible refine below_over ?_ _ _) | (with_reducible refine Lw.below_alloc ?_ _) | (with_reducible refine Below.drew ?_) | (with_reducible refine below_drewN ?_ _) | (with_reducible refine Below.setCell ?_ ?_ _) | go_size))) (Nat.le_refl _), all_next HQ.out HA.out HN.out⟩
          case measure => simp [intOf]; omega
    · have e1 : qs.take k = qs := List.take_of_length_le (by rw [HL.out]; omega)
      have HA2 := Lib.hid (e1 ▸ HA.out)
      clear e1
      go_wp2
      go_ret
      exact ⟨ret_bl HA2.out.symm, HB.out⟩
def isM (m : Int) : Bool := decide (1 ≤ m ∧ m ≤ 3)
theorem mode_eq (m : Int) (w : World) :
    Calls Try.prog 65 #[.int .i64 m] w fun e w' => e = .returned (.bool (isM m)) ∧ w' = w := by
  by_cases h1 : m = 1
  · subst h1
    go_enter Try.func65, Try.ntmps65
    go_wp2
    go_ret
    exact ⟨rfl, rfl⟩
  by_cases h2 : m = 2
  · subst h2
    go_enter Try.func65, Try.ntmps65
    go_wp2
    go_ret
    exact ⟨rfl, rfl⟩
  by_cases h3 : m = 3
  · subst h3
    go_enter Try.func65, Try.ntmps65
    go_wp2
    go_ret
    exact ⟨rfl, rfl⟩
  have HE : Hid (isM m = false) := Lib.hid (decide_eq_false (by omega))
  go_enter Try.func65, Try.ntmps65
  go_wp2
  go_ret
  exact ⟨ret_bl HE.out.symm, rfl⟩
theorem lims1 {w : World} {B : Nat} {x lo hi : Int} (h0 : w.cell? ⟨B, 0, none⟩ = some (.int .i64 x)) (h1 : w.cell? ⟨B, 1, none⟩ = some (.int .i64 lo)) (h2 : w.cell? ⟨B, 2, none⟩ = some (.int .i64 hi)) : Lims w ⟨B, 0, none⟩ [(x, lo, hi)] := by
  intro i q hq
  match i, hq with
  | 0, hq =>
    simp at hq
    subst hq
    exact ⟨B, 0, rfl, h0, h1, h2⟩
theorem lims3 {w : World} {B : Nat} {x lo hi x2 lo2 hi2 x3 lo3 hi3 : Int} (h0 : w.cell? ⟨B, 0, none⟩ = some (.int .i64 x)) (h1 : w.cell? ⟨B, 1, none⟩ = some (.int .i64 lo)) (h2 : w.cell? ⟨B, 2, none⟩ = some (.int .i64 hi))
    (h3 : w.cell? ⟨B, 3, none⟩ = some (.int .i64 x2)) (h4 : w.cell? ⟨B, 4, none⟩ = some (.int .i64 lo2)) (h5 : w.cell? ⟨B, 5, none⟩ = some (.int .i64 hi2))
    (h6 : w.cell? ⟨B, 6, none⟩ = some (.int .i64 x3)) (h7 : w.cell? ⟨B, 7, none⟩ = some (.int .i64 lo3)) (h8 : w.cell? ⟨B, 8, none⟩ = some (.int .i64 hi3)) : Lims w ⟨B, 0, none⟩ [(x, lo, hi), (x2, lo2, hi2), (x3, lo3, hi3)] := by
  intro i q hq
  match i, hq with
  | 0, hq =>
    simp at hq
    subst hq
    exact ⟨B, 0, rfl, h0, h1, h2⟩
  | 1, hq =>
    simp at hq
    subst hq
    exact ⟨B, 3, rfl, h3, h4, h5⟩
  | 2, hq =>
    simp at hq
    subst hq
    exact ⟨B, 6, rfl, h6, h7, h8⟩
theorem right_any (c : Cfg) (w : World) (h : c.Ok) :
    Calls Try.prog 57 #[.agg #[.int .i64 c.bt, .int .i64 c.rw, .int .i64 c.wd, .int .i64 c.md, .int .u64 c.sd]] w fun e w' => e = .returned (.bool (right c)) ∧ Below w.heap.size w w' := by
  cases hm : isM c.md with
  | false =>
    have HR : Hid (right c = false) := Lib.hid (decide_eq_false (fun hr => by
      have h2 := of_decide_eq_false hm
      exact h2 ⟨hr.2.2.2.2.2.2.1, hr.2.2.2.2.2.2.2⟩))
    clear h
    go_enter Try.func57, Try.ntmps57
    go_wp2_with (go_at_call 65; (with_reducible refine (mode_eq c.md _).mono ?_); rintro e w' ⟨rfl, rfl⟩; rw [hm])
    go_ret
    exact ⟨ret_bl HR.out.symm, by (repeat' (first | (with_reducible exact Below.refl _ _) | (with_reducible assumption) | (with_reducible refine below_over ?_ _ _) | (with_reducible refine Lw.below_alloc ?_ _) | (with_reducible refine Below.drew ?_) | (with_reducible refine below_drewN ?_ _) | (with_reducible refine Below.setCell ?_ ?_ _) | go_size))⟩
  | true =>
    have HR : Hid ((inside (c.bt, 1, 59) && (inside (c.rw, 1, 8) && inside (c.wd, 1, 128))) = right c) := Lib.hid (by
      obtain ⟨h2, h3⟩ := of_decide_eq_true hm
      rw [Bool.eq_iff_iff, Bool.and_eq_true, Bool.and_eq_true]
      unfold inside right
      rw [decide_eq_true_iff, decide_eq_true_iff, decide_eq_true_iff, decide_eq_true_iff]
      exact ⟨fun ⟨⟨a, b⟩, ⟨c, d⟩, e, f⟩ => ⟨a, b, c, d, e, f, h2, h3⟩, fun ⟨a, b, c, d, e, f, _, _⟩ => ⟨⟨a, b⟩, ⟨c, d⟩, e, f⟩⟩)
    clear h
    go_enter Try.func57, Try.ntmps57
    go_wp2_with (first
      | (go_at_call 65; (with_reducible refine (mode_eq c.md _).mono ?_); rintro e w' ⟨rfl, rfl⟩; rw [hm])
      | (go_at_call 58; (with_reducible refine (within_any _ 3 3 [(c.bt, 1, 59), (c.rw, 1, 8), (c.wd, 1, 128)] _ rfl (Nat.le_refl _) (by decide) (lims3 (by simp [go_sem]) (by simp [go_sem]) (by simp [go_sem]) (by simp [go_sem]) (by simp [go_sem]) (by simp [go_sem]) (by simp [go_sem]) (by simp [go_sem]) (by simp [go_sem]))).mono ?_); rintro e w' ⟨rfl, hb⟩; obtain ⟨bs, d, rfl⟩ := below_grow hb; clear hb))
    go_ret
    exact ⟨ret_bl HR.out, by (repeat' (first | (with_reducible exact Below.refl _ _) | (with_reducible assumption) | (with_reducible refine below_over ?_ _ _) | (with_reducible refine Lw.below_alloc ?_ _) | (with_reducible refine Below.drew ?_) | (with_reducible refine below_drewN ?_ _) | (with_reducible refine Below.setCell ?_ ?_ _) | go_size))⟩
def hasL (c : Cfg) (l : Int) : Bool := decide (IsRight c ∧ 0 ≤ l ∧ l ≤ c.bt)
theorem has_any (c : Cfg) (l : Int) (w : World) (h : c.Ok) :
    Calls Try.prog 49 #[.agg #[.int .i64 c.bt, .int .i64 c.rw, .int .i64 c.wd, .int .i64 c.md, .int .u64 c.sd], .int .i64 l] w fun e w' => e = .returned (.bool (hasL c l)) ∧ Below w.heap.size w w' := by
  have HO := Lib.hid h
  clear h
  cases hm : right c with
  | false =>
    have HR : Hid (hasL c l = false) := Lib.hid (decide_eq_false (fun hr => (of_decide_eq_false hm) hr.1))
    go_enter Try.func49, Try.ntmps49
    go_wp2_with (go_at_call 57; (with_reducible refine (right_any c _ HO.out).mono ?_); rintro e w' ⟨rfl, hb⟩; obtain ⟨bs, d, rfl⟩ := below_grow hb; clear hb; rw [hm])
    go_ret
    exact ⟨ret_bl HR.out.symm, by (repeat' (first | (with_reducible exact Below.refl _ _) | (with_reducible assumption) | (with_reducible refine below_over ?_ _ _) | (with_reducible refine Lw.below_alloc ?_ _) | (with_reducible refine Below.drew ?_) | (with_reducible refine below_drewN ?_ _) | (with_reducible refine Below.setCell ?_ ?_ _) | go_size))⟩
  | true =>
    have HR : Hid (inside (l, 0, c.bt) = hasL c l) := Lib.hid (by
      have h2 := of_decide_eq_true hm
      rw [Bool.eq_iff_iff]
      simp only [inside, hasL, decide_eq_true_eq]
      exact ⟨fun h => ⟨h2, h⟩, fun h => h.2⟩)
    go_enter Try.func49, Try.ntmps49
    go_wp2_with (first
      | (go_at_call 57; (with_reducible refine (right_any c _ HO.out).mono ?_); rintro e w' ⟨rfl, hb⟩; obtain ⟨bs, d, rfl⟩ := below_grow hb; clear hb; rw [hm])
      | (go_at_call 58; (with_reducible refine (within_any _ 1 1 [(l, 0, c.bt)] _ rfl (Nat.le_refl _) (by decide) (lims1 (by simp [go_sem]) (by simp [go_sem]) (by simp [go_sem]))).mono ?_); rintro e w' ⟨rfl, hb⟩; obtain ⟨bs, d, rfl⟩ := below_grow hb; clear hb))
    go_ret
    exact ⟨ret_bl HR.out, by (repeat' (first | (with_reducible exact Below.refl _ _) | (with_reducible assumption) | (with_reducible refine below_over ?_ _ _) | (with_reducible refine Lw.below_alloc ?_ _) | (with_reducible refine Below.drew ?_) | (with_reducible refine below_drewN ?_ _) | (with_reducible refine Below.setCell ?_ ?_ _) | go_size))⟩
theorem keys_any (c : Cfg) (l : Int) (w : World) (h : c.Ok) (l0 : -9223372036854775808 ≤ l) (l1 : l ≤ 9223372036854775807) :
    Calls Try.prog 32 #[.agg #[.int .i64 c.bt, .int .i64 c.rw, .int .i64 c.wd, .int .i64 c.md, .int .u64 c.sd], .int .i64 l] w fun e w' => e = .returned (.int .u64 (keys c l)) ∧ Below w.heap.size w w' := by
  have HO := Lib.hid h
  clear h
  cases hm : hasL c l with
  | false =>
    have HR : Hid (keys c l = 0) := Lib.hid (keys_no (of_decide_eq_false hm))
    go_enter Try.func32, Try.ntmps32
    go_wp2_with (go_at_call 49; (with_reducible refine (has_any c l _ HO.out).mono ?_); rintro e w' ⟨rfl, hb⟩; obtain ⟨bs, d, rfl⟩ := below_grow hb; clear hb; rw [hm])
    go_ret
    exact ⟨ret_u HR.out.symm, by (repeat' (first | (with_reducible exact Below.refl _ _) | (with_reducible assumption) | (with_reducible refine below_over ?_ _ _) | (with_reducible refine Lw.below_alloc ?_ _) | (with_reducible refine Below.drew ?_) | (with_reducible refine below_drewN ?_ _) | (with_reducible refine Below.setCell ?_ ?_ _) | go_size))⟩
  | true =>
    obtain ⟨h2, h3, h4⟩ := of_decide_eq_true hm
    have HR := Lib.hid (keys_yes h2 h3 h4)
    have kb := keys_bd c l
    have b59 := h2.2.1
    have w1 : IntKind.i64.wrap (c.bt - l) = c.bt - l := IntWalk.i64_in _ ⟨by omega, by omega⟩
    have w2 : IntKind.u64.wrap (2 ^ (c.bt - l).toNat) = keys c l := by rw [← HR.out]; exact IntWalk.u64_in _ ⟨by omega, by omega⟩
    clear h2
    go_enter Try.func32, Try.ntmps32
    go_wp2_with (go_at_call 49; (with_reducible refine (has_any c l _ HO.out).mono ?_); rintro e w' ⟨rfl, hb⟩; obtain ⟨bs, d, rfl⟩ := below_grow hb; clear hb; rw [hm])
    go_ret
    refine ⟨rfl, by (repeat' (first | (with_reducible exact Below.refl _ _) | (with_reducible assumption) | (with_reducible refine below_over ?_ _ _) | (with_reducible refine Lw.below_alloc ?_ _) | (with_reducible refine Below.drew ?_) | (with_reducible refine below_drewN ?_ _) | (with_reducible refine Below.setCell ?_ ?_ _) | go_size))⟩
set_option maxRecDepth 100000 in
theorem exact_any (c : Cfg) (l : Int) (w : World) (h : c.Ok) (l0 : -9223372036854775808 ≤ l) (l1 : l ≤ 9223372036854775807) :
    Calls Try.prog 30 #[.agg #[.int .i64 c.bt, .int .i64 c.rw, .int .i64 c.wd, .int .i64 c.md, .int .u64 c.sd], .int .i64 l] w fun e w' => e = .returned (.bool (exactB c l)) ∧ Below w.heap.size w w' := by
  have HO := Lib.hid h
  clear h
  cases hm : hasL c l with
  | true =>
    obtain ⟨h2, h3, h4⟩ := of_decide_eq_true hm
    have HR := Lib.hid (keys_pos.2 ⟨h2, h3, h4⟩)
    have w1 : IntKind.u64.wrap c.wd = c.wd := IntWalk.u64_in _ ⟨by have := h2.2.2.2.2.1; omega, by have := h2.2.2.2.2.2.1; omega⟩
    clear h2 h3 h4
    go_enter Try.func30, Try.ntmps30
    go_wp2
    go_region_held3 (fun w' => w'.cell? ⟨w.heap.size, 0, none⟩ = some (.int .i64 c.bt) ∧ w'.cell? ⟨w.heap.size, 1, none⟩ = some (.int .i64 c.rw) ∧ w'.cell? ⟨w.heap.size, 2, none⟩ = some (.int .i64 c.wd) ∧ w'.cell? ⟨w.heap.size, 3, none⟩ = some (.int .i64 c.md) ∧ w'.cell? ⟨w.heap.size, 4, none⟩ = some (.int .u64 c.sd)) (simp [go_sem]) (first
      | (go_at_call 49; (with_reducible refine (has_any c l _ HO.out).mono ?_); rintro e w' ⟨rfl, hb⟩; obtain ⟨bs, d, rfl⟩ := below_grow hb; clear hb; rw [hm])
      | (go_at_call 32; (with_reducible refine (keys_any c l _ HO.out l0 l1).mono ?_); rintro e w' ⟨rfl, hb⟩; obtain ⟨bs, d, rfl⟩ := below_grow hb; clear hb))
    all_goals go_wp2
    all_goals go_ret
    all_goals (refine ⟨ret_bl ?_, by (repeat' (first | (with_reducible exact Below.refl _ _) | (with_reducible assumption) | (with_reducible refine below_over ?_ _ _) | (with_reducible refine Lw.below_alloc ?_ _) | (with_reducible refine Below.drew ?_) | (with_reducible refine below_drewN ?_ _) | (with_reducible refine Below.setCell ?_ ?_ _) | go_size))⟩)
    all_goals (unfold exactB; have := HR.out; simp [this])
  | false =>
    have HR : Hid (exactB c l = false) := Lib.hid (decide_eq_false (by rw [keys_no (of_decide_eq_false hm)]; omega))
    go_enter Try.func30, Try.ntmps30
    go_wp2
    refine wp_region_held_drew (S := (fun w' => w'.cell? ⟨w.heap.size, 0, none⟩ = some (.int .i64 c.bt) ∧ w'.cell? ⟨w.heap.size, 1, none⟩ = some (.int .i64 c.rw) ∧ w'.cell? ⟨w.heap.size, 2, none⟩ = some (.int .i64 c.wd) ∧ w'.cell? ⟨w.heap.size, 3, none⟩ = some (.int .i64 c.md) ∧ w'.cell? ⟨w.heap.size, 4, none⟩ = some (.int .u64 c.sd))) (by kernel_rfl) (by simp [go_sem]) (fun hHeld => ?_)
    refine wpAnyH_take (i := 0) (v := ?_) rfl (by kernel_rfl) (by kernel_rfl) (by kernel_rfl) (fun _ _ _ h => h) (Or.inl ⟨by rfl, ?_⟩) hHeld ?_
    rotate_left
    · intro w hSw
      (try dsimp only at hSw)
      go_simp
      (try with_reducible rfl)
    (try simp only [List.getElem_toArray, List.getElem_cons_zero, List.getElem_cons_succ, Act.put, List.setIfInBounds_toArray, List.set_cons_zero, List.set_cons_succ])
    refine wpAnyH_take (i := 1) (v := ?_) rfl (by kernel_rfl) (by kernel_rfl) (by kernel_rfl) (fun _ _ _ h => h) (Or.inl ⟨by rfl, ?_⟩) hHeld ?_
    rotate_left
    · intro w hSw
      (try dsimp only at hSw)
      go_simp
      (try with_reducible rfl)
    (try simp only [List.getElem_toArray, List.getElem_cons_zero, List.getElem_cons_succ, Act.put, List.setIfInBounds_toArray, List.set_cons_zero, List.set_cons_succ])
    refine wpAnyH_ready (rs := [2]) (by kernel_rfl) (by simp) ?_
    refine AllReadyH.cons rfl (fun K hK => ?_) AllReadyH.nil
    go_simp
    (go_at_call 49; (with_reducible refine (has_any c l _ HO.out).mono ?_); rintro e w' ⟨rfl, hb⟩; obtain ⟨bs, d, rfl⟩ := below_grow hb; clear hb; rw [hm])
    refine hK.out _ _ (by simp [go_sem]) (fun hHeld => ?_)
    clear hK K
    (try simp only [List.getElem_toArray, List.getElem_cons_zero, List.getElem_cons_succ, Act.put, List.setIfInBounds_toArray, List.set_cons_zero, List.set_cons_succ])
    refine wpAnyH_take (i := 3) (v := ?_) rfl (by kernel_rfl) (by kernel_rfl) (by kernel_rfl) (fun _ _ _ h => h) (Or.inl ⟨by rfl, ?_⟩) hHeld ?_
    rotate_left
    · intro w hSw
      (try dsimp only at hSw)
      go_simp
      (try with_reducible rfl)
    (try simp only [List.getElem_toArray, List.getElem_cons_zero, List.getElem_cons_succ, Act.put, List.setIfInBounds_toArray, List.set_cons_zero, List.set_cons_succ])
    refine wpAnyH_take (i := 4) (v := undef) rfl (by kernel_rfl) (by kernel_rfl) (by kernel_rfl) (fun _ _ _ h => h) (Or.inr ⟨by rfl, rfl⟩) hHeld ?_
    (try simp only [List.getElem_toArray, List.getElem_cons_zero, List.getElem_cons_succ, Act.put, List.setIfInBounds_toArray, List.set_cons_zero, List.set_cons_succ])
    refine wpAnyH_take (i := 5) (v := undef) rfl (by kernel_rfl) (by kernel_rfl) (by kernel_rfl) (fun _ _ _ h => h) (Or.inr ⟨by rfl, rfl⟩) hHeld ?_
    (try simp only [List.getElem_toArray, List.getElem_cons_zero, List.getElem_cons_succ, Act.put, List.setIfInBounds_toArray, List.set_cons_zero, List.set_cons_succ])
    refine wpAnyH_take (i := 7) (v := undef) rfl (by kernel_rfl) (by kernel_rfl) (by kernel_rfl) (fun _ _ _ h => h) (Or.inr ⟨by rfl, rfl⟩) hHeld ?_
    (try simp only [List.getElem_toArray, List.getElem_cons_zero, List.getElem_cons_succ, Act.put, List.setIfInBounds_toArray, List.set_cons_zero, List.set_cons_succ])
    refine wpAnyH_take (i := 8) (v := undef) rfl (by kernel_rfl) (by kernel_rfl) (by kernel_rfl) (fun _ _ _ h => h) (Or.inr ⟨by rfl, rfl⟩) hHeld ?_
    (try simp only [List.getElem_toArray, List.getElem_cons_zero, List.getElem_cons_succ, Act.put, List.setIfInBounds_toArray, List.set_cons_zero, List.set_cons_succ])
    refine wpAnyH_take (i := 9) (v := undef) rfl (by kernel_rfl) (by kernel_rfl) (by kernel_rfl) (fun _ _ _ h => h) (Or.inr ⟨by rfl, rfl⟩) hHeld ?_
    (try simp only [List.getElem_toArray, List.getElem_cons_zero, List.getElem_cons_succ, Act.put, List.setIfInBounds_toArray, List.set_cons_zero, List.set_cons_succ])
    refine wpAnyH_ready (rs := [6]) (by kernel_rfl) (by simp) ?_
    refine AllReadyH.cons rfl (fun K hK => ?_) AllReadyH.nil
    go_simp
    refine hK.out _ _ (by simp [go_sem]) (fun hHeld => ?_)
    clear hK K
    (try simp only [List.getElem_toArray, List.getElem_cons_zero, List.getElem_cons_succ, Act.put, List.setIfInBounds_toArray, List.set_cons_zero, List.set_cons_succ])
    refine wpAnyH_take (i := 10) (v := undef) rfl (by kernel_rfl) (by kernel_rfl) (by kernel_rfl) (fun _ _ _ h => h) (Or.inr ⟨by rfl, rfl⟩) hHeld ?_
    (try simp only [List.getElem_toArray, List.getElem_cons_zero, List.getElem_cons_succ, Act.put, List.setIfInBounds_toArray, List.set_cons_zero, List.set_cons_succ])
    refine wpAnyH_take (i := 11) (v := ?_) rfl (by kernel_rfl) (by kernel_rfl) (by kernel_rfl) (fun _ _ _ h => h) (Or.inl ⟨by rfl, ?_⟩) hHeld ?_
    rotate_left
    · intro w hSw
      (try dsimp only at hSw)
      go_simp
      (try with_reducible rfl)
    (try simp only [List.getElem_toArray, List.getElem_cons_zero, List.getElem_cons_succ, Act.put, List.setIfInBounds_toArray, List.set_cons_zero, List.set_cons_succ])
    refine wpAnyH_take (i := 12) (v := ?_) rfl (by kernel_rfl) (by kernel_rfl) (by kernel_rfl) (fun _ _ _ h => h) (Or.inl ⟨by rfl, ?_⟩) hHeld ?_
    rotate_left
    · intro w hSw
      (try dsimp only at hSw)
      go_simp
      (try with_reducible rfl)
    (try simp only [List.getElem_toArray, List.getElem_cons_zero, List.getElem_cons_succ, Act.put, List.setIfInBounds_toArray, List.set_cons_zero, List.set_cons_succ])
    refine wpAnyH_done (by kernel_rfl) ?_ _
    go_wp2
    go_ret
    exact ⟨ret_bl HR.out.symm, by (repeat' (first | (with_reducible exact Below.refl _ _) | (with_reducible assumption) | (with_reducible refine below_over ?_ _ _) | (with_reducible refine Lw.below_alloc ?_ _) | (with_reducible refine Below.drew ?_) | (with_reducible refine below_drewN ?_ _) | (with_reducible refine Below.setCell ?_ ?_ _) | go_size))⟩
theorem pair_bd (s l : Int) (r : Nat) : (0 ≤ Sed.pairA s l r ∧ Sed.pairA s l r ≤ 18446744073709551615) ∧ (0 ≤ Sed.pairB s l r ∧ Sed.pairB s l r ≤ 18446744073709551615) := by
  by_cases h : Sed.okRow l r
  · have h1 := Sed.pairA_bd s l r h
    have h2 := Sed.pairB_bd s l r h
    omega
  · have h1 : Sed.pairA s l r = 0 := if_neg h
    have h2 : Sed.pairB s l r = 0 := if_neg h
    omega
def mixC (c : Cfg) (l k : Int) (n j : Nat) : List Int := (List.range n).map (fun r => if r < j then col c l k r else 0)
theorem mixC_len (c : Cfg) (l k : Int) (n j : Nat) : (mixC c l k n j).length = n := by simp [mixC]
theorem mixC_start (c : Cfg) (l k : Int) (n : Nat) : mixC c l k n 0 = List.replicate n 0 := by
  apply List.ext_getElem
  · simp [mixC]
  · intro i h1 h2
    simp [mixC]
theorem mixC_get (c : Cfg) (l k : Int) {n j : Nat} (hj : j < n) : (mixC c l k n j)[j]? = some 0 := by
  simp [mixC, hj]
theorem mixC_set (c : Cfg) (l k : Int) {n j : Nat} (hj : j < n) : (mixC c l k n j).set j (col c l k j) = mixC c l k n (j + 1) := by
  apply List.ext_getElem
  · simp [mixC]
  · intro i h1 h2
    rw [List.getElem_set]
    simp only [mixC, List.getElem_map, List.getElem_range]
    by_cases e : j = i
    · subst e
      rw [if_pos rfl, if_pos (by omega)]
    · rw [if_neg e]
      by_cases h3 : i < j
      · rw [if_pos h3, if_pos (by omega)]
      · rw [if_neg h3, if_neg (by omega)]
theorem mixC_end (c : Cfg) (l k : Int) (n : Nat) : mixC c l k n n = (List.range n).map (col c l k) := by
  apply List.ext_getElem
  · simp [mixC]
  · intro i h1 h2
    simp only [mixC, List.length_map, List.length_range] at h1
    simp only [mixC, List.getElem_map, List.getElem_range]
    rw [if_pos h1]
theorem int_info : (Try.prog.info? 3).map (fun i => (i.zero, i.size, i.bytes)) = some (some (.int .i64 0), 1, 8) := by kernel_rfl
theorem mid_made (w : World) (q : Nat) (e : TypeId) : Ord.Mid (w.alloc (.cells (madeCells #[.int .i64 0] q) e)) w.heap.size 0 (List.replicate q 0) := by
  refine ⟨_, _, heap_alloc_new w _, fun j v hv => ?_⟩
  have h2 := toList_madeCells_one (.int .i64 0) q
  rw [List.getElem?_replicate] at hv
  split at hv
  · rename_i hj
    injection hv with hv
    subst hv
    rw [← Array.getElem?_toList, h2, Nat.zero_add, List.getElem?_replicate, if_pos hj]
  · cases hv
theorem kept_low {B : Nat} {w w2 w3 : World} {g : Nat} (h : Kept (fun q => q = g) w2 w3) (hb : Below B w w2) (hB : B ≤ w2.heap.size) (hg : B ≤ g) : Below B w w3 := h.low hb hB (fun q hq => by omega)
end Go.Proofs.Ytnhknachabephaa.Shp
/- The walks of the document's own answers for layer 7. Printed by wip/gen/shp.py. -/
namespace Go.Proofs.Ytnhknachabephaa.Shp
open Go Go.RowKit Lw
set_option linter.unusedVariables false
set_option linter.unusedSimpArgs false
theorem ret_b {a b : Bool} (h : a = b) : Ending.returned (.bool a) = .returned (.bool b) := by rw [h]
theorem ret_i {k : IntKind} {a b : Int} (h : a = b) : Ending.returned (.int k a) = .returned (.int k b) := by rw [h]
theorem ret_ib {k : IntKind} {a b : Int} {p q : Bool} (h : a = b) (g : p = q) : Ending.returned (.tuple #[.int k a, .bool p]) = .returned (.tuple #[.int k b, .bool q]) := by rw [h, g]
theorem right_mode (c : Cfg) (h1 : 1 ≤ c.bt) (h2 : c.bt ≤ 59) (h3 : 1 ≤ c.rw) (h4 : c.rw ≤ 8) (h5 : 1 ≤ c.wd) (h6 : c.wd ≤ 128) : right c = (c.md == 1 || c.md == 2 || c.md == 3) := by
  by_cases h : 1 ≤ c.md ∧ c.md ≤ 3
  · have e : right c = true := decide_eq_true ⟨h1, h2, h3, h4, h5, h6, h.1, h.2⟩
    have : c.md = 1 ∨ c.md = 2 ∨ c.md = 3 := by omega
    rw [e]
    rcases this with h | h | h <;> simp [h]
  · have e : right c = false := decide_eq_false (fun hr => h ⟨hr.2.2.2.2.2.2.1, hr.2.2.2.2.2.2.2⟩)
    have n1 : ¬ c.md = 1 := by omega
    have n2 : ¬ c.md = 2 := by omega
    have n3 : ¬ c.md = 3 := by omega
    rw [e]
    simp [n1, n2, n3]
set_option maxRecDepth 100000 in
theorem rright_any (c : Cfg) (w : World) (h : c.Ok) :
    Calls Try.prog 33 #[.agg #[.int .i64 c.bt, .int .i64 c.rw, .int .i64 c.wd, .int .i64 c.md, .int .u64 c.sd]] w fun e w' => e = .returned (.bool (right c)) ∧ Below w.heap.size w w' := by
  obtain ⟨b0, b1, r0, r1, w0, w1, m0, m1, s0, s1⟩ := h
  go_enter Try.func33, Try.ntmps33
  go_wp2
  all_goals go_ret
  all_goals refine ⟨ret_b (by first | exact (decide_eq_false (fun h => by unfold IsRight at h; omega)).symm | exact (decide_eq_true (by unfold IsRight; omega)).symm | exact (right_mode c (by omega) (by omega) (by omega) (by omega) (by omega) (by omega)).symm), ?_⟩
  all_goals (repeat' (first | (with_reducible exact Below.refl _ _) | (with_reducible assumption) | (with_reducible refine below_over ?_ _ _) | (with_reducible refine Lw.below_alloc ?_ _) | (with_reducible refine Below.drew ?_) | (with_reducible refine below_drewN ?_ _) | (with_reducible refine Below.setCell ?_ ?_ _) | go_size))
theorem pow_next (a : Nat) : (2 : Int) ^ (a + 1) = 2 ^ a * 2 := by rw [Int.pow_succ]
set_option maxRecDepth 100000 in
theorem rkeys_any (c : Cfg) (l : Int) (w : World) (h : c.Ok) (l0 : -9223372036854775808 ≤ l) (l1 : l ≤ 9223372036854775807) :
    Calls Try.prog 13 #[.agg #[.int .i64 c.bt, .int .i64 c.rw, .int .i64 c.wd, .int .i64 c.md, .int .u64 c.sd], .int .i64 l] w fun e w' => e = .returned (.int .u64 (keys c l)) ∧ Below w.heap.size w w' := by
  have HO := Lib.hid h
  obtain ⟨b0, b1, r0, r1, w0, w1, m0, m1, s0, s1⟩ := h
  by_cases hr : IsRight c
  · have hr2 : right c = true := decide_eq_true hr
    have HR := Lib.hid hr
    have hb1 := hr.1
    have hb2 := hr.2.1
    clear hr
    by_cases h0 : l < 0
    · have hk : keys c l = 0 := keys_no (by omega)
      go_enter Try.func13, Try.ntmps13
      go_wp2_with (go_at_call 33; (with_reducible refine (rright_any c _ HO.out).mono ?_); rintro e w' ⟨rfl, hb⟩; obtain ⟨bs, d, rfl⟩ := below_grow hb; clear hb)
      all_goals go_ret
      all_goals refine ⟨ret_i hk.symm, ?_⟩
      all_goals (repeat' (first | (with_reducible exact Below.refl _ _) | (with_reducible assumption) | (with_reducible refine below_over ?_ _ _) | (with_reducible refine Lw.below_alloc ?_ _) | (with_reducible refine Below.drew ?_) | (with_reducible refine below_drewN ?_ _) | (with_reducible refine Below.setCell ?_ ?_ _) | go_size))
    · by_cases h2 : c.bt < l
      · have hk : keys c l = 0 := keys_no (by omega)
        go_enter Try.func13, Try.ntmps13
        go_wp2_with (go_at_call 33; (with_reducible refine (rright_any c _ HO.out).mono ?_); rintro e w' ⟨rfl, hb⟩; obtain ⟨bs, d, rfl⟩ := below_grow hb; clear hb)
        all_goals go_ret
        all_goals refine ⟨ret_i hk.symm, ?_⟩
        all_goals (repeat' (first | (with_reducible exact Below.refl _ _) | (with_reducible assumption) | (with_reducible refine below_over ?_ _ _) | (with_reducible refine Lw.below_alloc ?_ _) | (with_reducible refine Below.drew ?_) | (with_reducible refine below_drewN ?_ _) | (with_reducible refine Below.setCell ?_ ?_ _) | go_size))
      · have hk : keys c l = 2 ^ (c.bt - l).toNat := keys_yes HR.out (by omega) (by omega)
        have HK := Lib.hid hk
        clear hk
        go_enter Try.func13, Try.ntmps13
        go_wp2_with (go_at_call 33; (with_reducible refine (rright_any c _ HO.out).mono ?_); rintro e w' ⟨rfl, hb⟩; obtain ⟨bs, d, rfl⟩ := below_grow hb; clear hb)
        go_loop [5, 6] (fun n i => ∃ k : Nat, i = .int .i64 (l + k) ∧ l + k ≤ c.bt ∧ n = .int .u64 (2 ^ k)) (fun _ i => (c.bt - intOf i).toNat)
        case atStart => exact ⟨0, by simp, by omega, rfl⟩
        case round =>
          obtain ⟨k, rfl, hkb, rfl⟩ := hrel
          have hp0 := pow_pos2 k
          by_cases hlt : l + k < c.bt
          · have hp1 := pow_le2 (a := k) (b := 58) (by omega)
            have e58 : (2 : Int) ^ 58 = 288230376151711744 := by decide
            rw [e58] at hp1
            have HN := Lib.hid (pow_next k)
            clear e58
            obtain ⟨P, hP⟩ : ∃ P, (2 : Int) ^ k = P := ⟨_, rfl⟩
            rw [hP] at hp0 hp1 HN
            rw [hP]
            clear hP
            go_wp2
            go_round
            case rel => exact ⟨k + 1, by go_num, by omega, by rw [HN.out]⟩
            case measure => simp [intOf]; omega
          · have e : (c.bt - l).toNat = k := by omega
            rw [e] at HK
            go_wp2
            go_ret
            refine ⟨ret_i HK.out.symm, ?_⟩
            repeat' (first | (with_reducible exact Below.refl _ _) | (with_reducible assumption) | (with_reducible refine below_over ?_ _ _) | (with_reducible refine Lw.below_alloc ?_ _) | (with_reducible refine Below.drew ?_) | (with_reducible refine below_drewN ?_ _) | (with_reducible refine Below.setCell ?_ ?_ _) | go_size)
  · have hr2 : right c = false := decide_eq_false hr
    have hk : keys c l = 0 := keys_no (fun h => hr h.1)
    clear hr
    go_enter Try.func13, Try.ntmps13
    go_wp2_with (go_at_call 33; (with_reducible refine (rright_any c _ HO.out).mono ?_); rintro e w' ⟨rfl, hb⟩; obtain ⟨bs, d, rfl⟩ := below_grow hb; clear hb)
    all_goals go_ret
    all_goals refine ⟨ret_i hk.symm, ?_⟩
    all_goals (repeat' (first | (with_reducible exact Below.refl _ _) | (with_reducible assumption) | (with_reducible refine below_over ?_ _ _) | (with_reducible refine Lw.below_alloc ?_ _) | (with_reducible refine Below.drew ?_) | (with_reducible refine below_drewN ?_ _) | (with_reducible refine Below.setCell ?_ ?_ _) | go_size))
set_option maxRecDepth 100000 in
theorem rexact_any (c : Cfg) (l : Int) (w : World) (h : c.Ok) (l0 : -9223372036854775808 ≤ l) (l1 : l ≤ 9223372036854775807) :
    Calls Try.prog 29 #[.agg #[.int .i64 c.bt, .int .i64 c.rw, .int .i64 c.wd, .int .i64 c.md, .int .u64 c.sd], .int .i64 l] w fun e w' => e = .returned (.bool (exactB c l)) ∧ Below w.heap.size w w' := by
  have HO := Lib.hid h
  obtain ⟨b0, b1, r0, r1, w0, w1, m0, m1, s0, s1⟩ := h
  have hk := keys_bd c l
  have he : exactB c l = decide (1 ≤ keys c l ∧ keys c l ≤ c.wd) := rfl
  have HE := Lib.hid he
  clear he
  obtain ⟨K, hK⟩ : ∃ K, keys c l = K := ⟨_, rfl⟩
  rw [hK] at hk HE
  have hu : ∀ m : Int, 0 ≤ m → m ≤ 9223372036854775807 → IntKind.u64.wrap m = m := fun m h0 h1 => IntWalk.u64_in m ⟨by omega, by omega⟩
  by_cases h0 : c.wd < 0
  · have hu2 := hu 0 (by omega) (by omega)
    go_enter Try.func29, Try.ntmps29
    go_wp2_with (go_at_call 13; (with_reducible refine (rkeys_any c l _ HO.out l0 l1).mono ?_); rintro e w' ⟨he, hb⟩; rw [hK] at he; subst he; obtain ⟨bs, d, rfl⟩ := below_grow hb; clear hb)
    all_goals go_ret
    all_goals refine ⟨ret_b (by rw [HE.out]; first | exact (decide_eq_false (fun h => by omega)).symm | exact (decide_eq_true (by omega)).symm | (rw [Bool.eq_iff_iff]; simp; omega)), ?_⟩
    all_goals (repeat' (first | (with_reducible exact Below.refl _ _) | (with_reducible assumption) | (with_reducible refine below_over ?_ _ _) | (with_reducible refine Lw.below_alloc ?_ _) | (with_reducible refine Below.drew ?_) | (with_reducible refine below_drewN ?_ _) | (with_reducible refine Below.setCell ?_ ?_ _) | go_size))
  · have hu2 := hu c.wd (by omega) w1
    go_enter Try.func29, Try.ntmps29
    go_wp2_with (go_at_call 13; (with_reducible refine (rkeys_any c l _ HO.out l0 l1).mono ?_); rintro e w' ⟨he, hb⟩; rw [hK] at he; subst he; obtain ⟨bs, d, rfl⟩ := below_grow hb; clear hb)
    all_goals go_ret
    all_goals refine ⟨ret_b (by rw [HE.out]; first | exact (decide_eq_false (fun h => by omega)).symm | exact (decide_eq_true (by omega)).symm | (rw [Bool.eq_iff_iff]; simp; omega)), ?_⟩
    all_goals (repeat' (first | (with_reducible exact Below.refl _ _) | (with_reducible assumption) | (with_reducible refine below_over ?_ _ _) | (with_reducible refine Lw.below_alloc ?_ _) | (with_reducible refine Below.drew ?_) | (with_reducible refine below_drewN ?_ _) | (with_reducible refine Below.setCell ?_ ?_ _) | go_size))
theorem pow_div (k l : Int) (n : Nat) : k / 2 ^ n / 2 = k / 2 ^ (n + 1) := by
  rw [Int.pow_succ, Int.ediv_ediv_of_nonneg (by have := pow_pos2 n; omega)]
theorem div_bd (k : Int) (n : Nat) (h : 0 ≤ k) : 0 ≤ k / 2 ^ n ∧ k / 2 ^ n ≤ k := by
  have hp := pow_pos2 n
  refine ⟨Int.ediv_nonneg h (by omega), ?_⟩
  exact Int.ediv_le_self _ h
theorem cols_yes {c : Cfg} {l k : Int} (h : k < keys c l) : cols c l k = (List.range c.rw.toNat).map (col c l k) := if_pos h
theorem cols_no {c : Cfg} {l k : Int} (h : ¬ k < keys c l) : cols c l k = [] := if_neg h
theorem range_next (f : Nat → Int) (r : Nat) : (List.range (r + 1)).map f = (List.range r).map f ++ [f r] := by rw [List.range_succ, List.map_append]; rfl
def anyC (c : Cfg) (b v : Int) : Cfg := ⟨1 + c.bt % 65536 % b, 1 + c.rw % 65536 % 4, 1 + c.wd % 65536 % v, 1 + c.md % 65536 % 3, c.sd⟩
theorem any_right (c : Cfg) (b v : Int) (hb0 : 1 ≤ b) (hb1 : b ≤ 59) (hv0 : 1 ≤ v) (hv1 : v ≤ 128) : IsRight (anyC c b v) := by
  have h1 := Int.emod_nonneg (c.bt % 65536) (show b ≠ 0 by omega)
  have h2 := Int.emod_lt_of_pos (c.bt % 65536) (show 0 < b by omega)
  have h3 := Int.emod_nonneg (c.wd % 65536) (show v ≠ 0 by omega)
  have h4 := Int.emod_lt_of_pos (c.wd % 65536) (show 0 < v by omega)
  unfold IsRight anyC
  dsimp only
  refine ⟨by omega, by omega, by omega, by omega, by omega, by omega, by omega, by omega⟩
theorem any_ok (c : Cfg) (h : c.Ok) (b v : Int) (hb0 : 1 ≤ b) (hb1 : b ≤ 59) (hv0 : 1 ≤ v) (hv1 : v ≤ 128) : (anyC c b v).Ok := by
  obtain ⟨g1, g2, g3, g4, g5, g6, g7, g8⟩ := any_right c b v hb0 hb1 hv0 hv1
  exact ⟨by omega, by omega, by omega, by omega, by omega, by omega, by omega, by omega, h.s0, h.s1⟩
theorem any_part (x m : Int) (hm0 : 1 ≤ m) (hm1 : m ≤ 65536) : ∃ X, bits .and .i64 x 65535 = X ∧ 0 ≤ X ∧ X ≤ 65535 ∧ Int.tmod X m = x % 65536 % m ∧ 0 ≤ x % 65536 % m ∧ x % 65536 % m ≤ 65535 := by
  refine ⟨x % 65536, and16i x, by omega, by omega, ?_, Int.emod_nonneg _ (by omega), ?_⟩
  · rw [Int.tmod_eq_emod_of_nonneg (by omega)]
  · have := Int.emod_lt_of_pos (x % 65536) (show 0 < m by omega)
    omega
set_option maxRecDepth 100000 in
theorem rany_any (c : Cfg) (b v : Int) (w : World) (h : c.Ok) (hb0 : 1 ≤ b) (hb1 : b ≤ 59) (hv0 : 1 ≤ v) (hv1 : v ≤ 128) :
    Calls Try.prog 9 #[.agg #[.int .i64 c.bt, .int .i64 c.rw, .int .i64 c.wd, .int .i64 c.md, .int .u64 c.sd], .int .i64 b, .int .i64 v] w fun e w' => e = .returned (.agg #[.int .i64 (anyC c b v).bt, .int .i64 (anyC c b v).rw, .int .i64 (anyC c b v).wd, .int .i64 (anyC c b v).md, .int .u64 (anyC c b v).sd]) ∧ Below w.heap.size w w' := by
  obtain ⟨X1, a1, b1, c1, d1, e1, f1⟩ := any_part c.bt b hb0 (by omega)
  obtain ⟨X2, a2, b2, c2, d2, e2, f2⟩ := any_part c.rw 4 (by omega) (by omega)
  obtain ⟨X3, a3, b3, c3, d3, e3, f3⟩ := any_part c.wd v hv0 (by omega)
  obtain ⟨X4, a4, b4, c4, d4, e4, f4⟩ := any_part c.md 3 (by omega) (by omega)
  unfold anyC
  obtain ⟨Y1, h1⟩ : ∃ Y, c.bt % 65536 % b = Y := ⟨_, rfl⟩
  obtain ⟨Y2, h2⟩ : ∃ Y, c.rw % 65536 % 4 = Y := ⟨_, rfl⟩
  obtain ⟨Y3, h3⟩ : ∃ Y, c.wd % 65536 % v = Y := ⟨_, rfl⟩
  obtain ⟨Y4, h4⟩ : ∃ Y, c.md % 65536 % 3 = Y := ⟨_, rfl⟩
  rw [h1] at d1 e1 f1
  rw [h2] at d2 e2 f2
  rw [h3] at d3 e3 f3
  rw [h4] at d4 e4 f4
  rw [h1, h2, h3, h4]
  clear h1 h2 h3 h4
  obtain ⟨k0, k1, k2, k3, k4, k5, k6, k7, k8, k9⟩ := h
  have nb : ¬ b = 0 := by omega
  have nv : ¬ v = 0 := by omega
  go_enter Try.func9, Try.ntmps9
  go_wp2
  go_region
  go_wp2
  go_returns
  refine ⟨rfl, ?_⟩
  repeat' (first | (with_reducible exact Below.refl _ _) | (with_reducible assumption) | (with_reducible refine below_over ?_ _ _) | (with_reducible refine Lw.below_alloc ?_ _) | (with_reducible refine Below.drew ?_) | (with_reducible refine below_drewN ?_ _) | (with_reducible refine Below.setCell ?_ ?_ _) | go_size)
theorem rany_at (c : Cfg) (b v : Int) (C : Cfg) (w : World) (h : c.Ok) (hb0 : 1 ≤ b) (hb1 : b ≤ 59) (hv0 : 1 ≤ v) (hv1 : v ≤ 128) (hC : anyC c b v = C) :
    Calls Try.prog 9 #[.agg #[.int .i64 c.bt, .int .i64 c.rw, .int .i64 c.wd, .int .i64 c.md, .int .u64 c.sd], .int .i64 b, .int .i64 v] w fun e w' => e = .returned (.agg #[.int .i64 C.bt, .int .i64 C.rw, .int .i64 C.wd, .int .i64 C.md, .int .u64 C.sd]) ∧ Below w.heap.size w w' := by
  subst hC
  exact rany_any c b v w h hb0 hb1 hv0 hv1
theorem level_of (x m : Int) (h0 : 1 ≤ m) (h1 : m ≤ 65536) : ∃ X L, bits .and .i64 x 65535 = X ∧ 0 ≤ X ∧ X ≤ 65535 ∧ Int.tmod X m = L ∧ 0 ≤ L ∧ L < m := by
  obtain ⟨X, a, b, c, d, e, f⟩ := any_part x m h0 h1
  exact ⟨X, x % 65536 % m, a, b, c, d, e, Int.emod_lt_of_pos _ (by omega)⟩
theorem keys_half {c : Cfg} (h : IsRight c) {l : Int} (h0 : 0 ≤ l) (h1 : l < c.bt) : keys c l = 2 * keys c (l + 1) := by
  rw [keys_yes h h0 (by omega), keys_yes h (by omega) (by omega)]
  have e : (c.bt - l).toNat = (c.bt - (l + 1)).toNat + 1 := by omega
  rw [e, Int.pow_succ, Int.mul_comm]
theorem keys_top {c : Cfg} (h : IsRight c) : keys c c.bt = 1 := by
  rw [keys_yes h (by have := h.1; omega) (by omega)]
  have e : (c.bt - c.bt).toNat = 0 := by omega
  rw [e]
  rfl
theorem exact_up {c : Cfg} (h : IsRight c) {l : Int} (h0 : 0 ≤ l) (h1 : l < c.bt) (he : exactB c l = true) : exactB c (l + 1) = true := by
  have e := of_decide_eq_true he
  have k := keys_half h h0 h1
  have p := keys_pos.2 ⟨h, (by omega : 0 ≤ l + 1), (by omega : l + 1 ≤ c.bt)⟩
  exact decide_eq_true ⟨p, by omega⟩
theorem exact_top {c : Cfg} (h : IsRight c) : exactB c c.bt = true := decide_eq_true ⟨by rw [keys_top h]; omega, by rw [keys_top h]; exact h.2.2.2.2.1⟩
end Go.Proofs.Ytnhknachabephaa.Shp
/- Columns that meet a grid, the cells that they name, what a change makes of them: in numbers. For stages from 8 on. -/
namespace Go.Proofs.Ytnhknachabephaa.Lin
open Go Go.RowKit Lw Grd
set_option linter.unusedVariables false
def Meets (m n : Nat) (cols : List Int) : Prop := 1 ≤ m ∧ cols.length = m ∧ ∀ v ∈ cols, 0 ≤ v ∧ v < n
instance (m n : Nat) (cols : List Int) : Decidable (Meets m n cols) := by unfold Meets; infer_instance
def meetB (m n : Nat) (cols : List Int) : Bool := decide (Meets m n cols)
def named (L : List (List Int)) (cols : List Int) : List Int := List.zipWith (fun r c => r[c.toNat]?.getD 0) L cols
def changed (L : List (List Int)) (cols : List Int) (d : Int) : List (List Int) := List.zipWith (fun r c => r.set c.toNat (r[c.toNat]?.getD 0 + d)) L cols
def chFits (L : List (List Int)) (cols : List Int) (d : Int) : Bool := (named L cols).all (fun x => Wid.fit64 (x + d))
def chCode (m n : Nat) (L : List (List Int)) (cols : List Int) (d : Int) : Int := if Meets m n cols then (if chFits L cols d = true then 0 else 4) else 1
def chRes (m n : Nat) (L : List (List Int)) (cols : List Int) (d : Int) : List (List Int) := if Meets m n cols ∧ chFits L cols d = true then changed L cols d else L
def readOf (m n : Nat) (L : List (List Int)) (cols : List Int) : List Int := if Meets m n cols then named L cols else []
def rdCode (m n : Nat) (cols : List Int) : Int := if Meets m n cols then 0 else 1
theorem named_next (L : List (List Int)) (cols : List Int) (k : Nat) (r : List Int) (v : Int) (hr : L[k]? = some r) (hv : cols[k]? = some v) : named (L.take (k + 1)) (cols.take (k + 1)) = named (L.take k) (cols.take k) ++ [r[v.toNat]?.getD 0] := by
  obtain ⟨h1, e1⟩ := List.getElem?_eq_some_iff.1 hr
  obtain ⟨h2, e2⟩ := List.getElem?_eq_some_iff.1 hv
  unfold named
  rw [List.take_succ_eq_append_getElem h1, List.take_succ_eq_append_getElem h2, List.zipWith_append (by simp; omega), e1, e2]
  rfl
theorem named_len {L : List (List Int)} {cols : List Int} (h : cols.length = L.length) : (named L cols).length = L.length := by unfold named; rw [List.length_zipWith]; omega
end Go.Proofs.Ytnhknachabephaa.Lin
/- Rows that are filled from the first on; the cells that columns name, one by one. -/
namespace Go.Proofs.Ytnhknachabephaa.Lin
open Go Go.RowKit Lw Grd
set_option linter.unusedVariables false
set_option linter.unusedSimpArgs false
/-! ### The first k of Y, and the rest of X -/
def upto2 {α : Type} (X Y : List α) (k : Nat) : List α := Y.take k ++ X.drop k
theorem upto2_start {α : Type} (X Y : List α) : upto2 X Y 0 = X := by simp [upto2]
theorem upto2_end {α : Type} {X Y : List α} {n : Nat} (hX : X.length = n) (hY : Y.length = n) : upto2 X Y n = Y := by
  unfold upto2
  rw [List.drop_of_length_le (by omega), List.append_nil, List.take_of_length_le (by omega)]
theorem upto2_get {α : Type} {X Y : List α} {n k : Nat} (hX : X.length = n) (hY : Y.length = n) (hk : k < n) : (upto2 X Y k)[k]? = X[k]? := by
  unfold upto2
  rw [List.getElem?_append_right (by rw [List.length_take]; omega), List.getElem?_drop, List.length_take]
  congr 1
  omega
theorem upto2_set {α : Type} {X Y : List α} {n k : Nat} {y : α} (hX : X.length = n) (hY : Y.length = n) (hy : Y[k]? = some y) : (upto2 X Y k).set k y = upto2 X Y (k + 1) := by
  obtain ⟨hk, he⟩ := List.getElem?_eq_some_iff.1 hy
  have hl : (Y.take k).length = k := by rw [List.length_take]; omega
  unfold upto2
  rw [List.set_append_right _ _ (by omega), hl, Nat.sub_self, List.take_succ_eq_append_getElem hk, he, List.append_assoc]
  congr 1
  rw [List.drop_eq_getElem_cons (by omega)]
  rfl
theorem upto2_len {α : Type} {X Y : List α} {n k : Nat} (hX : X.length = n) (hY : Y.length = n) (hk : k ≤ n) : (upto2 X Y k).length = n := by
  unfold upto2
  rw [List.length_append, List.length_take, List.length_drop]
  omega
/-! ### Columns that meet -/
theorem meets_at {m n : Nat} {cols : List Int} (h : Meets m n cols) {k : Nat} {v : Int} (hv : cols[k]? = some v) : 0 ≤ v ∧ v < n := h.2.2 v (List.mem_of_getElem? hv)
theorem named_at {m n : Nat} {L : List (List Int)} {cols : List Int} (hd : Dims m n L) (h : Meets m n cols) {k : Nat} {v : Int} (hv : cols[k]? = some v) : (named L cols)[k]? = some (at2 L k v) := by
  have hk : k < cols.length := (List.getElem?_eq_some_iff.1 hv).1
  have hl : k < L.length := by rw [hd.len, ← h.2.1]; exact hk
  have hb := meets_at h hv
  unfold named at2
  rw [List.getElem?_zipWith, hv, List.getElem?_eq_getElem hl, if_neg (by omega)]
  simp [List.getElem?_eq_getElem hl]
theorem changed_at {m n : Nat} {L : List (List Int)} {cols : List Int} (hd : Dims m n L) (h : Meets m n cols) (d : Int) {k : Nat} {v : Int} (hv : cols[k]? = some v) : (changed L cols d)[k]? = (L[k]?.map (fun r => r.set v.toNat (at2 L k v + d))) := by
  have hk : k < cols.length := (List.getElem?_eq_some_iff.1 hv).1
  have hl : k < L.length := by rw [hd.len, ← h.2.1]; exact hk
  have hb := meets_at h hv
  unfold changed at2
  rw [List.getElem?_zipWith, hv, List.getElem?_eq_getElem hl, if_neg (by omega)]
  simp [List.getElem?_eq_getElem hl]
theorem changed_len {L : List (List Int)} {cols : List Int} (d : Int) (h : cols.length = L.length) : (changed L cols d).length = L.length := by unfold changed; rw [List.length_zipWith]; omega
theorem named_in {m n : Nat} {L : List (List Int)} {cols : List Int} (hd : Dims m n L) : In64 (named L cols) := by
  intro v hv
  unfold named at hv
  obtain ⟨i, hi, e⟩ := List.mem_iff_getElem.1 hv
  rw [List.getElem_zipWith] at e
  rw [List.length_zipWith] at hi
  have h2 := hd.rows _ (List.getElem_mem (show i < L.length by omega))
  subst e
  cases e3 : (L[i]'(by omega))[(cols[i]'(by omega)).toNat]? with
  | none => simp
  | some x => exact h2.2 _ (List.mem_of_getElem? e3)
theorem put_at {m n : Nat} {L : List (List Int)} {cols : List Int} (hd : Dims m n L) (h : Meets m n cols) (d : Int) {k : Nat} {v : Int} (hv : cols[k]? = some v) (hD : Dims m n (upto2 L (changed L cols d) k)) :
    setL (upto2 L (changed L cols d) k) k v (at2 L k v + d) = upto2 L (changed L cols d) (k + 1) := by
  have hk : k < cols.length := (List.getElem?_eq_some_iff.1 hv).1
  have hl : cols.length = L.length := by rw [hd.len]; exact h.2.1
  have hb := meets_at h hv
  have hL : L[k]? = some (L[k]'(by omega)) := List.getElem?_eq_getElem (by omega)
  have hY := changed_at hd h d hv
  rw [hL] at hY
  have hX := upto2_get (X := L) (Y := changed L cols d) (n := L.length) rfl (changed_len d hl) (k := k) (by omega)
  rw [hL] at hX
  have hin : in2 (upto2 L (changed L cols d) k) k v = true := by
    rw [in2_dims hD]
    have := hd.len
    exact decide_eq_true ⟨by omega, by omega, hb.1, hb.2⟩
  rw [← upto2_set (n := L.length) rfl (changed_len d hl) hY]
  unfold setL
  rw [if_pos hin]
  apply List.ext_getElem?
  intro i
  rw [List.getElem?_modify, List.getElem?_set, Int.toNat_natCast]
  have hln := upto2_len (X := L) (Y := changed L cols d) (n := L.length) rfl (changed_len d hl) (k := k) (by omega)
  by_cases e : k = i
  · subst e
    rw [hX, if_pos rfl, hln, if_pos (by omega)]
    simp
  · rw [if_neg e]
    simp [e]
theorem dims_upto {m n : Nat} {L : List (List Int)} {cols : List Int} (hd : Dims m n L) (h : Meets m n cols) (d : Int) (hf : chFits L cols d = true) : ∀ k, k ≤ m → Dims m n (upto2 L (changed L cols d) k)
  | 0, _ => by rw [upto2_start]; exact hd
  | k + 1, hk => by
    have ih := dims_upto hd h d hf k (by omega)
    have hv : cols[k]? = some (cols[k]'(by have := h.2.1; omega)) := List.getElem?_eq_getElem _
    rw [← put_at hd h d hv ih]
    have h2 : Wid.fit64 (at2 L k (cols[k]'(by have := h.2.1; omega)) + d) = true := (List.all_eq_true.1 hf) _ (List.mem_of_getElem? (named_at hd h hv))
    have h3 := of_decide_eq_true h2
    exact ih.set _ _ (by omega) (by omega)
end Go.Proofs.Ytnhknachabephaa.Lin
/- The walks of package linear (the code's): columns that meet a grid, the numbers that they name, a change, the least and the middle one. -/
namespace Go.Proofs.Ytnhknachabephaa.Lin
open Go Go.RowKit Lw Grd
set_option linter.unusedVariables false
set_option linter.unusedSimpArgs false
theorem ret_b {a b : Bool} (h : a = b) : Ending.returned (.bool a) = Ending.returned (.bool b) := by rw [h]
theorem meetB_no1 {m n : Nat} {cols : List Int} (h : m = 0) : meetB m n cols = false := decide_eq_false (fun g => by have := g.1; omega)
theorem meetB_no2 {m n : Nat} {cols : List Int} (h : cols.length ≠ m) : meetB m n cols = false := decide_eq_false (fun g => h g.2.1)
theorem meetB_no3 {m n : Nat} {cols : List Int} {k : Nat} {v : Int} (hv : cols[k]? = some v) (h : v < 0 ∨ n ≤ v) : meetB m n cols = false := decide_eq_false (fun g => by have := meets_at g hv; omega)
theorem in_next {n : Nat} {cols : List Int} {k : Nat} {v : Int} (h : ∀ x ∈ cols.take k, 0 ≤ x ∧ x < n) (hv : cols[k]? = some v) (h0 : 0 ≤ v) (h1 : v < n) : ∀ x ∈ cols.take (k + 1), 0 ≤ x ∧ x < (n : Int) := by
  obtain ⟨hk, e⟩ := List.getElem?_eq_some_iff.1 hv
  rw [List.take_succ_eq_append_getElem hk, e]
  intro x hx
  rcases List.mem_append.1 hx with hx | hx
  · exact h x hx
  · simp at hx; subst hx; exact ⟨h0, h1⟩
theorem li64_info : (Try.prog.info? 2).map (fun i => (i.zero, i.size, i.bytes)) = some (some (.int .i64 0), 1, 8) := by kernel_rfl
theorem li64s_u : Try.prog.underlying 46 = some (.slice 2) := by kernel_rfl
theorem rd_far {w : World} {a : Addr} {zs : List Int} {g : Nat} (h : Rd .i64 w (some a) zs) (hl : 0 < zs.length) (hg : w.heap.size ≤ g) : ∀ b, some a = some b → ¬ b.block = g := by
  intro b hb e
  injection hb with hb
  subst hb
  have hc := h.at (List.getElem?_eq_getElem hl)
  have e2 : (a.add 0).block = a.block := by unfold Addr.add; split <;> rfl
  have h2 := cell_lt hc
  rw [e2] at h2
  omega
theorem readOf_no {m n : Nat} {L : List (List Int)} {cols : List Int} (h : ¬ Meets m n cols) : readOf m n L cols = [] ∧ rdCode m n cols = 1 := ⟨if_neg h, if_neg h⟩
theorem readOf_yes {m n : Nat} {L : List (List Int)} {cols : List Int} (h : Meets m n cols) : readOf m n L cols = named L cols ∧ rdCode m n cols = 0 := ⟨if_pos h, if_pos h⟩
/-- The first k sums fit. -/
def sumsFit (Z : List Int) (d : Int) (k : Nat) : Prop := ∀ x ∈ Z.take k, Wid.fit64 (x + d) = true
theorem sums_next {Z : List Int} {d : Int} {k : Nat} {x : Int} (h : sumsFit Z d k) (hx : Z[k]? = some x) (hf : Wid.fit64 (x + d) = true) : sumsFit Z d (k + 1) := by
  obtain ⟨hk, e⟩ := List.getElem?_eq_some_iff.1 hx
  unfold sumsFit
  rw [List.take_succ_eq_append_getElem hk, e]
  intro y hy
  rcases List.mem_append.1 hy with hy | hy
  · exact h y hy
  · simp at hy; subst hy; exact hf
theorem sums_no {L : List (List Int)} {cols : List Int} {d : Int} {k : Nat} {x : Int} (hx : (named L cols)[k]? = some x) (hf : Wid.fit64 (x + d) = false) : chFits L cols d = false := by
  cases h : chFits L cols d with
  | false => rfl
  | true =>
    have h2 := List.all_eq_true.1 h x (List.mem_of_getElem? hx)
    rw [hf] at h2; cases h2
theorem sums_all {L : List (List Int)} {cols : List Int} {d : Int} {k : Nat} (h : sumsFit (named L cols) d k) (hk : (named L cols).length ≤ k) : chFits L cols d = true := by
  unfold sumsFit at h
  rw [List.take_of_length_le hk] at h
  exact List.all_eq_true.2 h
theorem ch_no {m n : Nat} {L : List (List Int)} {cols : List Int} {d : Int} (h : ¬ Meets m n cols) : chCode m n L cols d = 1 ∧ chRes m n L cols d = L := ⟨if_neg h, if_neg (fun g => h g.1)⟩
theorem ch_over {m n : Nat} {L : List (List Int)} {cols : List Int} {d : Int} (h : Meets m n cols) (hf : chFits L cols d = false) : chCode m n L cols d = 4 ∧ chRes m n L cols d = L := by
  unfold chCode chRes
  rw [if_pos h, hf, if_neg (by simp), if_neg (by simp)]
  exact ⟨rfl, rfl⟩
theorem ch_yes {m n : Nat} {L : List (List Int)} {cols : List Int} {d : Int} (h : Meets m n cols) (hf : chFits L cols d = true) : chCode m n L cols d = 0 ∧ chRes m n L cols d = changed L cols d := by
  unfold chCode chRes
  rw [if_pos h, if_pos hf, if_pos ⟨h, hf⟩]
  exact ⟨rfl, rfl⟩
end Go.Proofs.Ytnhknachabephaa.Lin
/- The walks of the document's own answers for layer 8. Printed by wip/gen/lin.py. -/
namespace Go.Proofs.Ytnhknachabephaa.Lin
open Go Go.RowKit Lw Grd
set_option linter.unusedVariables false
set_option linter.unusedSimpArgs false
theorem ret_ri {A : Option Addr} {n c : Nat} {x y : Int} (h : x = y) : Ending.returned (.tuple #[.slice A n c, .int .i64 x]) = .returned (.tuple #[.slice A n c, .int .i64 y]) := by rw [h]
theorem own_up {w w' : World} {B : Nat} {e : TypeId} {v : Value} {n : Nat} {xs : List Value} (h : w.ownsRow B e 1 v n xs) (hb : Below w.heap.size w w') : w'.ownsRow B e 1 v n xs := (Kept.of_below (F := fun _ => False) hb).own h (fun _ _ h => h)
theorem named_mem : ∀ {L : List (List Int)} {cols : List Int}, (∀ r ∈ L, In64 r) → In64 (named L cols)
  | [], _, _ => fun v hv => by simp [named] at hv
  | _ :: _, [], _ => fun v hv => by simp [named] at hv
  | r :: L, c :: cols, h => fun v hv => by
    unfold named at hv
    rw [List.zipWith_cons_cons] at hv
    rcases List.mem_cons.1 hv with h1 | h1
    · subst h1
      cases hx : r[c.toNat]? with
      | none => simp
      | some x => simpa using (h r (by simp)).at hx
    · exact named_mem (L := L) (cols := cols) (fun r hr => h r (by simp [hr])) v h1
theorem read_ok {m n : Nat} {L : List (List Int)} {cols : List Int} (h : Dims m n L) : In64 (readOf m n L cols) ∧ (readOf m n L cols).length ≤ 1000 := by
  unfold readOf
  split
  · refine ⟨named_mem (fun r hr => (h.rows r hr).2), ?_⟩
    unfold named
    rw [List.length_zipWith, h.len]
    have := h.m8
    omega
  · exact ⟨in64_nil, by simp⟩
theorem int_info : (Try.prog.info? 3).map (fun i => (i.zero, i.size, i.bytes)) = some (some (.int .i64 0), 1, 8) := by kernel_rfl
def cutAt (cols : List Int) (v : Nat) (r : Nat) : Int := match cols[r]? with
  | some x => x % 65536 % v
  | none => 0
def cutOf (cols : List Int) (rows v : Nat) : List Int := (List.range rows).map (cutAt cols v)
theorem cut_in (cols : List Int) (rows v : Nat) (hv : 1 ≤ v) : ∀ x ∈ cutOf cols rows v, 0 ≤ x ∧ x < v := by
  intro x hx
  obtain ⟨r, _, rfl⟩ := List.mem_map.1 hx
  unfold cutAt
  split
  · exact ⟨Int.emod_nonneg _ (by omega), Int.emod_lt_of_pos _ (by omega)⟩
  · omega
theorem cut_len (cols : List Int) (rows v : Nat) : (cutOf cols rows v).length = rows := by simp [cutOf]
end Go.Proofs.Ytnhknachabephaa.Lin
/- The walk of the document's Change. Printed by wip/gen/lin.py. -/
namespace Go.Proofs.Ytnhknachabephaa.Lin
open Go Go.RowKit Lw Grd
set_option linter.unusedVariables false
set_option linter.unusedSimpArgs false
theorem nums_set2 (R : List Row) (K C : Nat) (n : Int) : nums (set2 R K C n) = (nums R).modify K (fun r => r.set C n) := by
  unfold nums set2
  apply List.ext_getElem?
  intro i
  rw [List.getElem?_map, List.getElem?_modify, List.getElem?_modify, List.getElem?_map]
  cases R[i]? <;> simp
  split <;> simp
theorem RF_set2 {b : Nat} {hdr : Value} {R : List Row} {K C : Nat} {n : Int} (k : Nat) : RF b hdr (set2 R K C n) k ↔ RF b hdr R k := by
  have h := set2_bl R K C n
  unfold RF
  have e : ∀ (S : List Row), (∃ r ∈ S, r.1 = k) ↔ k ∈ S.map (·.1) := fun S => by simp [List.mem_map]
  rw [e, e, h]
theorem modify_app {α : Type} (f : α → α) (r : α) (t : List α) : ∀ (a : List α), (a ++ r :: t).modify a.length f = a ++ f r :: t
  | [] => rfl
  | x :: a => by
    have ih := modify_app f r t a
    simp only [List.cons_append, List.length_cons, List.modify_succ_cons, ih]
/-- The first k rows changed. -/
def half (L : List (List Int)) (cols : List Int) (d : Int) (k : Nat) : List (List Int) := changed (L.take k) (cols.take k) d ++ L.drop k
theorem half_zero (L : List (List Int)) (cols : List Int) (d : Int) : half L cols d 0 = L := by simp [half, changed]
theorem half_full {L : List (List Int)} {cols : List Int} (d : Int) (h : cols.length = L.length) : half L cols d L.length = changed L cols d := by
  unfold half
  rw [List.take_of_length_le (Nat.le_refl _), List.take_of_length_le (by omega), List.drop_of_length_le (Nat.le_refl _), List.append_nil]
theorem half_next {L : List (List Int)} {cols : List Int} {d : Int} {k : Nat} {r : List Int} {v : Nat} {x : Int} (h : cols.length = L.length) (hr : L[k]? = some r) (hv : cols[k]? = some (v : Int)) (hx : r[v]? = some x) :
    (half L cols d k).modify k (fun r => r.set v (x + d)) = half L cols d (k + 1) := by
  obtain ⟨h1, e1⟩ := List.getElem?_eq_some_iff.1 hr
  obtain ⟨h2, e2⟩ := List.getElem?_eq_some_iff.1 hv
  have hl : (changed (L.take k) (cols.take k) d).length = k := by unfold changed; rw [List.length_zipWith, List.length_take, List.length_take]; omega
  unfold half
  rw [List.drop_eq_getElem_cons h1, e1]
  have hm := modify_app (fun r => r.set v (x + d)) r (L.drop (k + 1)) (changed (L.take k) (cols.take k) d)
  rw [hl] at hm
  rw [hm]
  have e : changed (L.take (k + 1)) (cols.take (k + 1)) d = changed (L.take k) (cols.take k) d ++ [r.set v (x + d)] := by
    unfold changed
    rw [List.take_succ_eq_append_getElem h1, List.take_succ_eq_append_getElem h2, List.zipWith_append (by simp; omega), e1, e2]
    simp [hx]
  rw [e, List.append_assoc]
  rfl
theorem half_get {L : List (List Int)} {cols : List Int} {d : Int} {k : Nat} {r : List Int} (h : cols.length = L.length) (hr : L[k]? = some r) : (half L cols d k)[k]? = some r := by
  obtain ⟨h1, e1⟩ := List.getElem?_eq_some_iff.1 hr
  have hl : (changed (L.take k) (cols.take k) d).length = k := by unfold changed; rw [List.length_zipWith, List.length_take, List.length_take]; omega
  unfold half
  rw [List.getElem?_append_right (by omega), hl, Nat.sub_self, List.drop_eq_getElem_cons h1, e1]
  rfl
theorem map_named_next (L : List (List Int)) (cols : List Int) (d : Int) (k : Nat) (r : List Int) (v x : Int) (hr : L[k]? = some r) (hv : cols[k]? = some v) (hx : r[v.toNat]?.getD 0 = x) : (named (L.take (k + 1)) (cols.take (k + 1))).map (· + d) = (named (L.take k) (cols.take k)).map (· + d) ++ [x + d] := by
  rw [named_next L cols k r v hr hv, List.map_append, hx]
  rfl
theorem chFits_cons (r : List Int) (L : List (List Int)) (c : Int) (cols : List Int) (d : Int) : chFits (r :: L) (c :: cols) d = (Wid.fit64 (r[c.toNat]?.getD 0 + d) && chFits L cols d) := by
  unfold chFits named
  rw [List.zipWith_cons_cons, List.all_cons]
theorem changed_rows {n : Nat} : ∀ {L : List (List Int)} {cols : List Int} {d : Int}, (∀ r ∈ L, r.length = n ∧ In64 r) → chFits L cols d = true → ∀ r ∈ changed L cols d, r.length = n ∧ In64 r
  | [], _, _, _, _ => fun r hr => by simp [changed] at hr
  | _ :: _, [], _, _, _ => fun r hr => by simp [changed] at hr
  | r0 :: L, c :: cols, d, h, hf => fun r hr => by
    rw [chFits_cons, Bool.and_eq_true] at hf
    unfold changed at hr
    rw [List.zipWith_cons_cons] at hr
    rcases List.mem_cons.1 hr with h1 | h1
    · subst h1
      have h2 := h r0 (by simp)
      have h3 := fit64_in hf.1
      exact ⟨by rw [List.length_set]; exact h2.1, in64_set h2.2 _ h3.1 h3.2⟩
    · exact changed_rows (fun r hr => h r (by simp [hr])) hf.2 r h1
theorem changed_dims {m n : Nat} {L : List (List Int)} {cols : List Int} {d : Int} (h : Dims m n L) (hl : cols.length = m) (hf : chFits L cols d = true) : Dims m n (changed L cols d) :=
  ⟨by unfold changed; rw [List.length_zipWith, h.len, hl]; omega, h.m8, h.n128, changed_rows h.rows hf⟩
theorem named_take : ∀ (L : List (List Int)) (cols : List Int) (k : Nat), named (L.take k) (cols.take k) = (named L cols).take k
  | [], _, k => by simp [named]
  | _ :: _, [], k => by cases k <;> simp [named]
  | r :: L, c :: cols, 0 => by simp [named]
  | r :: L, c :: cols, k + 1 => by
    have ih := named_take L cols k
    unfold named at ih ⊢
    simp only [List.take_succ_cons, List.zipWith_cons_cons, ih]
end Go.Proofs.Ytnhknachabephaa.Lin
/- What the statements of layer 8 lean on. Printed by wip/gen/linlaws.py. -/
namespace Go.Proofs.Ytnhknachabephaa.Lin
open Go Go.RowKit Lw Grd
set_option linter.unusedVariables false
set_option linter.unusedSimpArgs false
theorem pg0 {w0 w : World} {p : Addr} {F : Nat → Prop} {m n : Nat} {L : List (List Int)} {ts : List Thing} (h : Have w0 w (pgT p F m n L :: ts)) : PG w p F m n L := h.1
theorem new_mn (rows width : Int) (m n : Nat) (w : World) (hm : cl rows 8 = m) (hn : cl width 128 = n) (r0 : -9223372036854775808 ≤ rows) (r1 : rows ≤ 9223372036854775807) (c0 : -9223372036854775808 ≤ width) (c1 : width ≤ 9223372036854775807) :
    Calls Try.prog 31 #[.int .i64 rows, .int .i64 width] w fun e w' => ∃ (p : Addr) (F : Nat → Prop), e = .returned (.pointer (some p)) ∧ PG w' p F m n (zerosL m n) ∧ (∀ k, F k → w.heap.size ≤ k) ∧ Below w.heap.size w w' := by
  subst hm hn
  exact new_any rows width w r0 r1 c0 c1
/-- A block that is made now is none of a thing's. -/
theorem new_apart {w0 w : World} {t : Thing} {ts : List Thing} (h : Have w0 w (t :: ts)) : ∀ a, (some (⟨w.heap.size, 0, none⟩ : Addr)) = some a → ¬ t.F a.block := by
  intro a ha hf
  injection ha with ha
  subst ha
  have := t.lt w h.1 _ hf
  simp at this
theorem c28 : cl 2 8 = 2 := by decide
theorem c3128 : cl 3 128 = 3 := by decide
def sZ : List (List Int) := zerosL 2 3
def sA : List (List Int) := chRes 2 3 sZ [0, 1] 5
def sB : List (List Int) := chRes 2 3 sA [0, 2] 7
def sC : List (List Int) := chRes 2 3 sB [0, 3] 7
theorem q1 : chCode 2 3 sZ [0, 1] 5 = 0 := by decide
theorem q2 : chCode 2 3 sA [0, 2] 7 = 0 := by decide
theorem q3 : chCode 2 3 sB [0, 3] 7 = 1 := by decide
theorem q4 : rdCode 2 3 [0, 1] = 0 := by decide
theorem q5 : rdCode 2 3 [0, 2] = 0 := by decide
theorem q6 : readOf 2 3 sC [0, 1] = [12, 5] := by decide
theorem q7 : Ord.kv (readOf 2 3 sC [0, 1]) 0 = 5 := by decide
theorem q8 : Ord.kv (readOf 2 3 sC [0, 2]) ((((readOf 2 3 sC [0, 2]).length : Int) - 1) / 2) = 7 := by decide
/-- A step: its columns and what is added. -/
structure StepV where
  A : Option Addr
  n : Nat
  c : Nat
  zs : List Int
  d : Int
structure StepV.In (s : StepV) (w : World) : Prop where
  nil : s.A = none → s.n = 0 ∧ s.c = 0
  nc : s.n ≤ s.c
  cm : s.c ≤ maxLen
  rd : Rd .i64 w s.A s.zs
  len : s.zs.length = s.n
  zb : In64 s.zs
  db : -9223372036854775808 ≤ s.d ∧ s.d ≤ 9223372036854775807
theorem step_int_c : Try.prog.cellsOf 3 = 1 := by kernel_rfl
theorem sized_part (x m : Int) (hm0 : 1 ≤ m) (hm1 : m ≤ 65536) : ∃ X Y, bits .and .i64 x 65535 = X ∧ 0 ≤ X ∧ X ≤ 65535 ∧ Int.tmod X m = Y ∧ x % 65536 % m = Y ∧ 0 ≤ Y ∧ Y < m :=
  ⟨x % 65536, x % 65536 % m, and16i x, by omega, by omega, Int.tmod_eq_emod_of_nonneg (by omega), rfl, Int.emod_nonneg _ (by omega), Int.emod_lt_of_pos _ (by omega)⟩
def rowsOf (x : Int) : Nat := (1 + x % 65536 % 5).toNat
def widthOf (x : Int) : Nat := (1 + x % 65536 % 9).toNat
theorem rows_bd (x : Int) : 1 ≤ rowsOf x ∧ rowsOf x ≤ 5 := by unfold rowsOf; omega
theorem width_bd (x : Int) : 1 ≤ widthOf x ∧ widthOf x ≤ 9 := by unfold widthOf; omega
end Go.Proofs.Ytnhknachabephaa.Lin
/- Many changes of cells, in numbers: each cell is the sum of what was added by columns that name it. -/
namespace Go.Proofs.Ytnhknachabephaa.Lin
open Go Go.RowKit Lw Grd
set_option linter.unusedVariables false
def Sz (m n : Nat) (L : List (List Int)) : Prop := L.length = m ∧ ∀ r ∈ L, r.length = n
def Within (b : Int) (L : List (List Int)) : Prop := ∀ r ∈ L, ∀ v ∈ r, -b ≤ v ∧ v ≤ b
/-- A number of a grid; 0 where there is none. -/
def cel (L : List (List Int)) (r c : Nat) : Int := ((L[r]?.getD [])[c]?).getD 0
theorem at2_cel (L : List (List Int)) (r c : Nat) : at2 L (r : Int) (c : Int) = cel L r c := by
  unfold at2 cel
  rw [if_neg (by omega)]
  simp
theorem sz_dims {m n : Nat} {L : List (List Int)} (h : Dims m n L) : Sz m n L := ⟨h.len, fun r hr => (h.rows r hr).1⟩
theorem dims_of {m n : Nat} {L : List (List Int)} {b : Int} (h : Sz m n L) (hw : Within b L) (hb : b ≤ 9223372036854775807) (m8 : m ≤ 8) (n128 : n ≤ 128) : Dims m n L :=
  ⟨h.1, m8, n128, fun r hr => ⟨h.2 r hr, fun v hv => by have := hw r hr v hv; omega⟩⟩
theorem within_mono {b c : Int} {L : List (List Int)} (h : Within b L) (hbc : b ≤ c) : Within c L := fun r hr v hv => by have := h r hr v hv; omega
theorem sz_zeros (m n : Nat) : Sz m n (zerosL m n) := ⟨by simp [zerosL], fun r hr => by rw [(List.mem_replicate.1 hr).2]; simp⟩
theorem within_zeros (m n : Nat) : Within 0 (zerosL m n) := fun r hr v hv => by
  rw [(List.mem_replicate.1 hr).2] at hv
  rw [(List.mem_replicate.1 hv).2]
  omega
theorem sz_changed {m n : Nat} {L : List (List Int)} {cols : List Int} (h : Sz m n L) (hc : cols.length = m) (d : Int) : Sz m n (changed L cols d) := by
  refine ⟨by unfold changed; rw [List.length_zipWith, h.1, hc]; omega, fun r hr => ?_⟩
  obtain ⟨a, ha, b, hb, rfl⟩ := mem_zip hr
  rw [List.length_set]
  exact h.2 a ha
theorem getD_within {b : Int} {r : List Int} (h : ∀ v ∈ r, -b ≤ v ∧ v ≤ b) (hb : 0 ≤ b) (k : Nat) : -b ≤ r[k]?.getD 0 ∧ r[k]?.getD 0 ≤ b := by
  cases hv : r[k]? with
  | none => simp; omega
  | some v => simpa using h v (List.mem_of_getElem? hv)
theorem within_changed {b c : Int} {L : List (List Int)} {cols : List Int} {d : Int} (h : Within b L) (hb : 0 ≤ b) (hd : -c ≤ d ∧ d ≤ c) : Within (b + c) (changed L cols d) := by
  intro r hr v hv
  obtain ⟨a, ha, k, hk, rfl⟩ := mem_zip hr
  rcases List.mem_or_eq_of_mem_set hv with h1 | h1
  · have := h a ha v h1; omega
  · have := getD_within (h a ha) hb k.toNat; omega
theorem fits_within {b c : Int} {L : List (List Int)} {cols : List Int} {d : Int} (h : Within b L) (hb : 0 ≤ b) (hd : -c ≤ d ∧ d ≤ c) (hbc : b + c ≤ 9223372036854775807) : chFits L cols d = true := by
  unfold chFits
  refine List.all_eq_true.2 fun x hx => ?_
  obtain ⟨a, ha, k, hk, rfl⟩ := mem_zip hx
  have := getD_within (h a ha) hb k.toNat
  exact (Wid.fit64_yes (by omega) (by omega)).1
theorem ch_ok {m n : Nat} {L : List (List Int)} {cols : List Int} {d : Int} (hm : Meets m n cols) (hf : chFits L cols d = true) : chCode m n L cols d = 0 ∧ chRes m n L cols d = changed L cols d := by
  unfold chCode chRes
  rw [if_pos hm, if_pos hf, if_pos ⟨hm, hf⟩]
  exact ⟨rfl, rfl⟩
theorem meets_get {m n : Nat} {cols : List Int} (h : Meets m n cols) {r : Nat} (hr : r < m) : ∃ v : Nat, cols[r]? = some (v : Int) ∧ v < n := by
  have hl : r < cols.length := by rw [h.2.1]; exact hr
  have hm := h.2.2 _ (List.getElem_mem hl)
  refine ⟨cols[r].toNat, ?_, by omega⟩
  rw [List.getElem?_eq_getElem hl]
  congr 1
  omega
theorem cel_changed {m n : Nat} {L : List (List Int)} {cols : List Int} (h : Sz m n L) (hc : Meets m n cols) (d : Int) {r c : Nat} (hr : r < m) (hcn : c < n) : cel (changed L cols d) r c = cel L r c + (if cols[r]? = some (c : Int) then d else 0) := by
  have hl : r < L.length := by rw [h.1]; exact hr
  obtain ⟨v, hv, hvn⟩ := meets_get hc hr
  have hrow := h.2 _ (List.getElem_mem hl)
  unfold cel changed
  rw [List.getElem?_zipWith, List.getElem?_eq_getElem hl, hv]
  simp only [Option.getD_some, Int.toNat_natCast]
  by_cases e : v = c
  · subst e
    rw [if_pos rfl, List.getElem?_set_self (by omega)]
    rfl
  · rw [if_neg (by simp; omega), List.getElem?_set_ne e]
    omega
abbrev Ops := List (List Int × Int)
def chAll (L : List (List Int)) (ops : Ops) : List (List Int) := ops.foldl (fun L o => changed L o.1 o.2) L
/-- All of them meet, and none adds more than c. -/
def OpsOk (m n : Nat) (c : Int) (ops : Ops) : Prop := ∀ o ∈ ops, Meets m n o.1 ∧ -c ≤ o.2 ∧ o.2 ≤ c
theorem opsok_take {m n : Nat} {c : Int} {ops : Ops} (h : OpsOk m n c ops) (k : Nat) : OpsOk m n c (ops.take k) := fun o ho => h o (List.mem_of_mem_take ho)
theorem chAll_next (L : List (List Int)) (ops : Ops) (k : Nat) (o : List Int × Int) (h : ops[k]? = some o) : chAll L (ops.take (k + 1)) = changed (chAll L (ops.take k)) o.1 o.2 := by
  obtain ⟨h1, h2⟩ := List.getElem?_eq_some_iff.1 h
  unfold chAll
  rw [List.take_succ_eq_append_getElem h1, List.foldl_append, h2]
  rfl
theorem chAll_sz {m n : Nat} {c : Int} : ∀ {ops : Ops} {L : List (List Int)}, Sz m n L → OpsOk m n c ops → Sz m n (chAll L ops)
  | [], L, h, _ => h
  | o :: ops, L, h, g => chAll_sz (ops := ops) (sz_changed h (g o (by simp)).1.2.1 o.2) (fun p hp => g p (by simp [hp]))
theorem chAll_within {m n : Nat} {c : Int} (hc : 0 ≤ c) : ∀ {ops : Ops} {L : List (List Int)} {b : Int}, 0 ≤ b → Within b L → OpsOk m n c ops → Within (b + ops.length * c) (chAll L ops)
  | [], L, b, hb, h, _ => by simpa [chAll] using h
  | o :: ops, L, b, hb, h, g => by
    have ih := chAll_within hc (ops := ops) (L := changed L o.1 o.2) (b := b + c) (by omega) (within_changed h hb (g o (by simp)).2) (fun p hp => g p (by simp [hp]))
    have e : b + c + (ops.length : Int) * c = b + ((o :: ops).length : Int) * c := by
      have e1 : ((o :: ops).length : Int) = (ops.length : Int) + 1 := by simp
      rw [e1, Int.add_mul, Int.one_mul]
      omega
    rw [← e]
    exact ih
/-- What ops add to the cell. -/
def hit : Ops → Nat → Nat → Int
  | [], _, _ => 0
  | o :: ops, r, c => (if o.1[r]? = some (c : Int) then o.2 else 0) + hit ops r c
theorem hit_app : ∀ (a b : Ops) (r c : Nat), hit (a ++ b) r c = hit a r c + hit b r c
  | [], b, r, c => by simp [hit]
  | o :: a, b, r, c => by
    simp only [List.cons_append, hit, hit_app a b r c]
    omega
theorem hit_rev : ∀ (a : Ops) (r c : Nat), hit a.reverse r c = hit a r c
  | [], r, c => rfl
  | o :: a, r, c => by
    rw [List.reverse_cons, hit_app, hit_rev a r c]
    simp only [hit]
    omega
theorem chAll_cel {m n : Nat} {b : Int} {r c : Nat} (hr : r < m) (hcn : c < n) : ∀ {ops : Ops} {L : List (List Int)}, Sz m n L → OpsOk m n b ops → cel (chAll L ops) r c = cel L r c + hit ops r c
  | [], L, h, _ => by simp [chAll, hit]
  | o :: ops, L, h, g => by
    have ih := chAll_cel hr hcn (ops := ops) (sz_changed h (g o (by simp)).1.2.1 o.2) (fun p hp => g p (by simp [hp]))
    have e : chAll L (o :: ops) = chAll (changed L o.1 o.2) ops := rfl
    rw [e, ih, cel_changed h (g o (by simp)).1 o.2 hr hcn]
    simp only [hit]
    omega
theorem cel_zeros (m n r c : Nat) : cel (zerosL m n) r c = 0 := by
  unfold cel zerosL
  rw [List.getElem?_replicate]
  split
  · simp only [Option.getD_some]
    rw [List.getElem?_replicate]
    split <;> rfl
  · rfl
theorem sz_ext {m n : Nat} {L M : List (List Int)} (h : Sz m n L) (g : Sz m n M) (he : ∀ r c, r < m → c < n → cel L r c = cel M r c) : L = M := by
  apply List.ext_getElem (by rw [h.1, g.1])
  intro r h1 h2
  have a1 := h.2 _ (List.getElem_mem h1)
  have a2 := g.2 _ (List.getElem_mem h2)
  apply List.ext_getElem (by rw [a1, a2])
  intro c g1 g2
  have := he r c (by rw [← h.1]; exact h1) (by rw [← a1]; exact g1)
  unfold cel at this
  rw [List.getElem?_eq_getElem h1, List.getElem?_eq_getElem h2] at this
  simp only [Option.getD_some] at this
  rw [List.getElem?_eq_getElem g1, List.getElem?_eq_getElem g2] at this
  simpa using this
theorem chAll_rev {m n : Nat} {b : Int} {ops : Ops} (h : OpsOk m n b ops) : chAll (zerosL m n) ops.reverse = chAll (zerosL m n) ops := by
  have h2 : OpsOk m n b ops.reverse := fun o ho => h o (List.mem_reverse.1 ho)
  refine sz_ext (chAll_sz (sz_zeros m n) h2) (chAll_sz (sz_zeros m n) h) fun r c hr hc => ?_
  rw [chAll_cel hr hc (sz_zeros m n) h2, chAll_cel hr hc (sz_zeros m n) h, hit_rev]
theorem named_cel {m n : Nat} {L : List (List Int)} {cols : List Int} (h : Sz m n L) (hc : Meets m n cols) {r v : Nat} (hr : r < m) (hv : cols[r]? = some (v : Int)) : (named L cols)[r]? = some (cel L r v) := by
  have hl : r < L.length := by rw [h.1]; exact hr
  unfold named cel
  rw [List.getElem?_zipWith, List.getElem?_eq_getElem hl, hv]
  simp
end Go.Proofs.Ytnhknachabephaa.Lin
/- done of layer 8's laws: a grid that many changes were made to, and their columns. Printed by wip/gen/lindone.py. -/
namespace Go.Proofs.Ytnhknachabephaa.Lin
open Go Go.RowKit Lw Grd
set_option linter.unusedVariables false
set_option linter.unusedSimpArgs false
structure Steps (w : World) (A : Option Addr) (n c : Nat) (qs : List StepV) : Prop where
  nil : A = none → n = 0 ∧ c = 0
  nc : n ≤ c
  cm : c ≤ maxLen
  len : qs.length = n
  each : ∀ (i : Nat) q, qs[i]? = some q → q.In w ∧ ∃ a, A = some a ∧ w.cell? (a.add (i * 2)) = some (.slice q.A q.n q.c) ∧ w.cell? (a.add (i * 2 + 1)) = some (.int .i64 q.d)
theorem StepV.In.up {q : StepV} {w w' : World} (h : q.In w) (hb : Below w.heap.size w w') : q.In w' := ⟨h.nil, h.nc, h.cm, h.rd.up hb, h.len, h.zb, h.db⟩
theorem Steps.up {w w' : World} {A : Option Addr} {n c : Nat} {qs : List StepV} (h : Steps w A n c qs) (hb : Below w.heap.size w w') : Steps w' A n c qs :=
  ⟨h.nil, h.nc, h.cm, h.len, fun i q hq => by
    obtain ⟨h1, a, e, h2, h3⟩ := h.each i q hq
    exact ⟨h1.up hb, a, e, cell_up h2 hb, cell_up h3 hb⟩⟩
theorem Steps.at {w : World} {A : Option Addr} {n c : Nat} {qs : List StepV} (h : Steps w A n c qs) {i : Nat} {q : StepV} (hq : qs[i]? = some q) : ∃ (a : Addr) (g o : Nat), A = some a ∧ a.add (i * 2) = ⟨g, o, none⟩ ∧ w.cell? ⟨g, o, none⟩ = some (.slice q.A q.n q.c) ∧ w.cell? ⟨g, o + 1, none⟩ = some (.int .i64 q.d) ∧ q.In w := by
  obtain ⟨hin, a, e, h1, h2⟩ := h.each i q hq
  rw [← add_add'] at h2
  have hs : (a.add (i * 2)).spot = none := by
    unfold World.cell? at h1
    split at h1
    · split at h1
      · cases h1
      · rename_i hs; simpa using hs
    · cases h1
  obtain ⟨ad, had⟩ : ∃ ad, a.add (i * 2) = ad := ⟨_, rfl⟩
  rw [had] at h1 h2 hs
  obtain ⟨g, o, sp⟩ := ad
  simp only at hs
  subst hs
  rw [Ord.add_at] at h2
  exact ⟨a, g, o, e, had, h1, h2, hin⟩
/-- A number cut to a small one; plain: as far from 0, above it. -/
def dv (plain : Bool) (d : Int) : Int := if plain = true then (if 0 ≤ Int.tmod d 1099511627776 then Int.tmod d 1099511627776 else -Int.tmod d 1099511627776) else Int.tmod d 1099511627776
theorem tmod_bd (d : Int) : -1099511627776 < Int.tmod d 1099511627776 ∧ Int.tmod d 1099511627776 < 1099511627776 := by
  have h1 := Int.tmod_lt_of_pos d (show (0 : Int) < 1099511627776 by omega)
  have h3 := Int.tmod_lt_of_pos (-d) (show (0 : Int) < 1099511627776 by omega)
  rw [Int.neg_tmod] at h3
  omega
theorem dv_bd (plain : Bool) (d : Int) : -1099511627776 ≤ dv plain d ∧ dv plain d ≤ 1099511627776 := by
  have := tmod_bd d
  unfold dv
  split
  · split <;> omega
  · omega
theorem dv_plain (d : Int) : 0 ≤ dv true d := by
  unfold dv
  rw [if_pos rfl]
  split <;> omega
def idx (turned : Bool) (N k : Nat) : Nat := if turned = true then N - 1 - k else k
def opsOf (turned plain : Bool) (m n : Nat) (qs : List StepV) : Ops := (if turned = true then (qs.take 60).reverse else qs.take 60).map (fun q => (cutOf q.zs m n, dv plain q.d))
theorem ops_len (turned plain : Bool) (m n : Nat) (qs : List StepV) : (opsOf turned plain m n qs).length = min 60 qs.length := by
  unfold opsOf
  cases turned <;> simp
theorem ops_get (turned plain : Bool) (m n : Nat) (qs : List StepV) {N k : Nat} (hN : N = min 60 qs.length) (hk : k < N) {q : StepV} (hq : qs[idx turned N k]? = some q) : (opsOf turned plain m n qs)[k]? = some (cutOf q.zs m n, dv plain q.d) := by
  have hl : (qs.take 60).length = N := by rw [List.length_take, hN]
  unfold opsOf
  rw [List.getElem?_map]
  cases turned with
  | false =>
    unfold idx at hq
    rw [if_neg (by decide)] at hq ⊢
    rw [List.getElem?_take, if_pos (by omega), hq]
    rfl
  | true =>
    unfold idx at hq
    rw [if_pos rfl] at hq ⊢
    rw [List.getElem?_reverse (by omega), hl, List.getElem?_take, if_pos (by omega), hq]
    rfl
theorem cut_meets (cols : List Int) {m n : Nat} (hm : 1 ≤ m) (hn : 1 ≤ n) : Meets m n (cutOf cols m n) := ⟨hm, cut_len _ _ _, cut_in _ _ _ hn⟩
theorem ops_ok (turned plain : Bool) {m n : Nat} (qs : List StepV) (hm : 1 ≤ m) (hn : 1 ≤ n) : OpsOk m n 1099511627776 (opsOf turned plain m n qs) := by
  intro o ho
  unfold opsOf at ho
  obtain ⟨q, _, rfl⟩ := List.mem_map.1 ho
  exact ⟨cut_meets _ hm hn, dv_bd _ _⟩
theorem ops_turned (plain : Bool) (m n : Nat) (qs : List StepV) : opsOf true plain m n qs = (opsOf false plain m n qs).reverse := by
  unfold opsOf
  simp
/-- What is left of a change, in the midst of all. -/
theorem step_ok {m n : Nat} {ops : Ops} (h : OpsOk m n 1099511627776 ops) (hl : ops.length ≤ 60) (m8 : m ≤ 8) (n128 : n ≤ 128) {k : Nat} {o : List Int × Int} (ho : ops[k]? = some o) :
    chCode m n (chAll (zerosL m n) (ops.take k)) o.1 o.2 = 0 ∧ chRes m n (chAll (zerosL m n) (ops.take k)) o.1 o.2 = chAll (zerosL m n) (ops.take (k + 1)) := by
  have hw := chAll_within (c := 1099511627776) (by omega) (b := 0) (Int.le_refl _) (within_zeros m n) (opsok_take h k)
  have hk : (ops.take k).length ≤ 60 := by rw [List.length_take]; omega
  have ho2 := h o (List.mem_of_getElem? ho)
  have hf := fits_within (cols := o.1) (d := o.2) (within_mono hw (c := 65970697666560) (by omega)) (by omega) ho2.2 (by omega)
  have := ch_ok ho2.1 hf
  rw [chAll_next _ _ _ _ ho]
  exact this
theorem cutrow_in {cols : List Int} {m n : Nat} (hn : 1 ≤ n) (hn2 : n ≤ 65536) : In64 (cutOf cols m n) := fun v hv => by
  have := cut_in cols m n hn v hv
  omega
theorem own_block {w : World} {base : Nat} {e : TypeId} {A : Addr} {n cap : Nat} {xs : List Value} (h : w.ownsRow base e 1 (.slice (some A) n cap) n xs) : ∃ g, A = ⟨g, 0, none⟩ ∧ base ≤ g ∧ g < w.heap.size := by
  have hl := fun g hg => own_lt h (g := g) hg
  rcases h.2 with ⟨h3, _⟩ | ⟨g, cap2, cur, h3, hbase, hh, _⟩
  · cases h3
  · injection h3 with h3 h4 h5
    injection h3 with h3
    subst h3
    exact ⟨g, rfl, hbase, hl g rfl⟩
theorem hdr_apart {w0 w : World} {t : Thing} {B : Nat} {eo : TypeId} {hdr : Value} {R : List Row} {ts : List Thing} {A : Addr} {N : Nat} (h : Have w0 w (t :: rrT B eo hdr R :: ts)) (hA : ∃ g, A = ⟨g, 0, none⟩ ∧ w.heap.size ≤ g ∧ g < N) : ∀ a, some A = some a → ¬ hdr.ownBlock = some a.block := by
  intro a ha e
  injection ha with ha
  subst ha
  obtain ⟨g, rfl, h1, _⟩ := hA
  have := own_lt (rr_of h).outer e
  simp only at this
  omega
theorem pg_apart {w0 w : World} {p : Addr} {F : Nat → Prop} {m n : Nat} {L : List (List Int)} {ts : List Thing} {A : Addr} {N : Nat} (h : Have w0 w (pgT p F m n L :: ts)) (hA : ∃ g, A = ⟨g, 0, none⟩ ∧ w.heap.size ≤ g ∧ g < N) : ∀ a, some A = some a → ¬ F a.block := by
  intro a ha e
  injection ha with ha
  subst ha
  obtain ⟨g, rfl, h1, _⟩ := hA
  have := (pgT p F m n L).lt w h.1 _ e
  simp only at this
  omega
theorem done_start {w w' : World} {p : Addr} {F : Nat → Prop} {m n : Nat} {L : List (List Int)} {t : Thing} {B : Nat} {eo : TypeId} (h : Have w w' [pgT p F m n L, t]) : Have w w' [pgT p F m n L, rrT B eo (.slice none 0 0) [], t] := by
  have no : ∀ k, ¬ RRF (.slice none 0 0) [] k := fun k h2 => by
    rcases h2 with h2 | ⟨r, hr, _⟩
    · simp [Value.ownBlock] at h2
    · simp at hr
  refine ⟨h.1, h.2.1, fun u hu k h1 h2 => ?_, rr_start w' B eo, fun k h2 => (no k h2).elim, fun u hu k h2 => (no k h2).elim, h.2.2.2⟩
  simp only [List.mem_cons, List.not_mem_nil, or_false] at hu
  rcases hu with rfl | rfl
  · exact no k h2
  · exact h.2.2.1 _ (by simp) k h1 h2
end Go.Proofs.Ytnhknachabephaa.Lin
/- The opening of a Play of layer 8's laws. Printed by wip/gen/linlaws2.py. -/
namespace Go.Proofs.Ytnhknachabephaa.Lin
open Go Go.RowKit Lw Grd
set_option linter.unusedVariables false
set_option linter.unusedSimpArgs false
theorem box3 {w : World} {b : Nat} {e : TypeId} {v0 v1 v2 : Value} (h : (boxT b e #[v0, v1, v2]).I w) : w.cell? ⟨b, 0, none⟩ = some v0 ∧ w.cell? ⟨b, 1, none⟩ = some v1 ∧ w.cell? ⟨b, 2, none⟩ = some v2 :=
  ⟨box_cell h rfl, box_cell h rfl, box_cell h rfl⟩
theorem cells_q (p : Addr) (F : Nat → Prop) (m n q : Nat) (L : List (List Int)) (w : World) (h : PG w p F m n L) (hq : m * n = q) :
    Calls Try.prog 48 #[.pointer (some p)] w fun e w' => ∃ (A : Option Addr) (cap : Nat), e = .returned (.slice A q cap) ∧ Row1 w' A L.flatten ∧ q ≤ cap ∧ cap ≤ maxLen ∧ (∀ a, A = some a → w.heap.size ≤ a.block) ∧ Below w.heap.size w w' := by
  subst hq
  exact cells_any p F m n L w h
theorem same_yes (A B : Option Addr) (n ca cb : Nat) (xs : List Int) (w : World) (ha : Rd .i64 w A xs) (hb : Rd .i64 w B xs) (hl : xs.length = n) (hn : n ≤ 1000000) :
    Calls Try.prog 26 #[.slice A n ca, .slice B n cb] w fun e w' => e = .returned (.bool true) ∧ Below w.heap.size w w' :=
  (rsame_any A B n n ca cb xs xs w ha hb hl hl (by omega) (by omega)).mono fun e w' h => by
    rw [decide_eq_true rfl] at h
    exact h
/-- The columns of a step, out of all. -/
theorem row_at {w : World} {B : Nat} {eo : TypeId} {Ah : Option Addr} {N ch : Nat} {R : List Row} {qs : List StepV} {m n : Nat} (h : RR w B eo (.slice Ah N ch) R) (hR : nums R = (qs.take 60).map (fun q => cutOf q.zs m n)) {j : Nat} {q : StepV} (hj : j < 60) (hq : qs[j]? = some q) :
    ∃ (ad gad : Addr) (cap : Nat), Ah = some ad ∧ w.cell? (ad.add j) = some (.slice (some gad) m cap) ∧ m ≤ cap ∧ cap ≤ maxLen ∧ Rd .i64 w (some gad) (cutOf q.zs m n) := by
  have e1 : (nums R)[j]? = some (cutOf q.zs m n) := by
    rw [hR, List.getElem?_map, List.getElem?_take, if_pos hj, hq]
    rfl
  unfold nums at e1
  rw [List.getElem?_map] at e1
  obtain ⟨r, hr, e2⟩ := Option.map_eq_some_iff.1 e1
  obtain ⟨A, cap, e3, _, _, _, hc⟩ := h.hd
  injection e3 with e3 _ _
  subst e3
  obtain ⟨ad, hA, hcell⟩ := hc j r hr
  obtain ⟨_, _, h3, h4, _, h6⟩ := h.rows r (List.mem_of_getElem? hr)
  have hl : r.2.2.length = m := by rw [e2, cut_len]
  refine ⟨ad, ⟨r.1, 0, none⟩, r.2.1, hA, ?_, by omega, h4, by rw [← e2]; exact h6⟩
  rw [hcell]
  unfold rowHd
  rw [hl]
theorem rows_len {R : List Row} {qs : List StepV} {m n : Nat} (hR : nums R = (qs.take 60).map (fun q => cutOf q.zs m n)) : R.length = min 60 qs.length := by
  have := congrArg List.length hR
  rw [nums_len, List.length_map, List.length_take] at this
  exact this
theorem hit_next {ops : Ops} {r c k : Nat} {o : List Int × Int} (h : ops[k]? = some o) : hit (ops.take (k + 1)) r c = hit (ops.take k) r c + (if o.1[r]? = some (c : Int) then o.2 else 0) := by
  obtain ⟨h1, h2⟩ := List.getElem?_eq_some_iff.1 h
  rw [List.take_succ_eq_append_getElem h1, hit_app, h2]
  simp [hit]
theorem hit_bd {m n : Nat} {b : Int} (hb : 0 ≤ b) {r c : Nat} : ∀ {ops : Ops}, OpsOk m n b ops → -(ops.length * b) ≤ hit ops r c ∧ hit ops r c ≤ ops.length * b
  | [], _ => by simp [hit]
  | o :: ops, h => by
    have ih := hit_bd hb (r := r) (c := c) (ops := ops) (fun p hp => h p (by simp [hp]))
    have h1 := h o (by simp)
    have e1 : ((o :: ops).length : Int) * b = (ops.length : Int) * b + b := by
      have e1 : ((o :: ops).length : Int) = (ops.length : Int) + 1 := by simp
      rw [e1, Int.add_mul, Int.one_mul]
    rw [e1]
    simp only [hit]
    split <;> omega
theorem cut_get (cols : List Int) {m n r : Nat} (hr : r < m) (hn : 1 ≤ n) : ∃ v : Nat, (cutOf cols m n)[r]? = some (v : Int) ∧ v < n := by
  have hl : r < (cutOf cols m n).length := by rw [cut_len]; exact hr
  have h := cut_in cols m n hn _ (List.getElem_mem hl)
  exact ⟨((cutOf cols m n)[r]).toNat, by rw [List.getElem?_eq_getElem hl]; congr 1; omega, by omega⟩
end Go.Proofs.Ytnhknachabephaa.Lin
/- What columns have of their own, and what others add in a row: in numbers. -/
namespace Go.Proofs.Ytnhknachabephaa.Lin
open Go Go.RowKit Lw Grd
set_option linter.unusedVariables false
def own (cols : List Int) : Ops → Int
  | [] => 0
  | o :: ops => (if o.1 = cols then o.2 else 0) + own cols ops
def oth (cols : List Int) (r : Nat) : Ops → Int
  | [] => 0
  | o :: ops => (if o.1 = cols then 0 else if o.1[r]? = cols[r]? then o.2 else 0) + oth cols r ops
theorem own_app (cols : List Int) : ∀ a b : Ops, own cols (a ++ b) = own cols a + own cols b
  | [], b => by simp [own]
  | o :: a, b => by
    simp only [List.cons_append, own, own_app cols a b]
    omega
theorem oth_app (cols : List Int) (r : Nat) : ∀ a b : Ops, oth cols r (a ++ b) = oth cols r a + oth cols r b
  | [], b => by simp [oth]
  | o :: a, b => by
    simp only [List.cons_append, oth, oth_app cols r a b]
    omega
theorem hit_own {cols : List Int} {r c : Nat} (hc : cols[r]? = some (c : Int)) : ∀ ops : Ops, hit ops r c = own cols ops + oth cols r ops
  | [] => by simp [hit, own, oth]
  | o :: ops => by
    have ih := hit_own hc ops
    simp only [hit, own, oth, ih, ← hc]
    by_cases h1 : o.1 = cols
    · rw [if_pos h1, if_pos h1, h1, if_pos rfl]
      omega
    · rw [if_neg h1, if_neg h1]
      omega
theorem own_next {cols : List Int} {ops : Ops} {k : Nat} {o : List Int × Int} (h : ops[k]? = some o) : own cols (ops.take (k + 1)) = own cols (ops.take k) + (if o.1 = cols then o.2 else 0) := by
  obtain ⟨h1, h2⟩ := List.getElem?_eq_some_iff.1 h
  rw [List.take_succ_eq_append_getElem h1, own_app, h2]
  simp [own]
theorem oth_next {cols : List Int} {r : Nat} {ops : Ops} {k : Nat} {o : List Int × Int} (h : ops[k]? = some o) : oth cols r (ops.take (k + 1)) = oth cols r (ops.take k) + (if o.1 = cols then 0 else if o.1[r]? = cols[r]? then o.2 else 0) := by
  obtain ⟨h1, h2⟩ := List.getElem?_eq_some_iff.1 h
  rw [List.take_succ_eq_append_getElem h1, oth_app, h2]
  simp [oth]
def Plus (b : Int) (ops : Ops) : Prop := ∀ o ∈ ops, 0 ≤ o.2 ∧ o.2 ≤ b
theorem own_bd {cols : List Int} {b : Int} : ∀ {ops : Ops}, Plus b ops → 0 ≤ own cols ops ∧ own cols ops ≤ ops.length * b
  | [], _ => by simp [own]
  | o :: ops, h => by
    have ih := own_bd (cols := cols) (ops := ops) (fun p hp => h p (by simp [hp]))
    have h1 := h o (by simp)
    have e1 : ((o :: ops).length : Int) * b = (ops.length : Int) * b + b := by
      have e1 : ((o :: ops).length : Int) = (ops.length : Int) + 1 := by simp
      rw [e1, Int.add_mul, Int.one_mul]
    rw [e1]
    simp only [own]
    split <;> omega
theorem oth_bd {cols : List Int} {r : Nat} {b : Int} : ∀ {ops : Ops}, Plus b ops → 0 ≤ oth cols r ops ∧ oth cols r ops ≤ ops.length * b
  | [], _ => by simp [oth]
  | o :: ops, h => by
    have ih := oth_bd (cols := cols) (r := r) (ops := ops) (fun p hp => h p (by simp [hp]))
    have h1 := h o (by simp)
    have e1 : ((o :: ops).length : Int) * b = (ops.length : Int) * b + b := by
      have e1 : ((o :: ops).length : Int) = (ops.length : Int) + 1 := by simp
      rw [e1, Int.add_mul, Int.one_mul]
    rw [e1]
    simp only [oth]
    split
    · omega
    · split <;> omega
/-- What others have in each row, behind the first k; the first r rows already behind one more. -/
def othR (cols : List Int) (m : Nat) (ops : Ops) (k r : Nat) : List Int := (List.range m).map (fun i => if i < r then oth cols i (ops.take (k + 1)) else oth cols i (ops.take k))
theorem othR_len (cols : List Int) (m : Nat) (ops : Ops) (k r : Nat) : (othR cols m ops k r).length = m := by simp [othR]
theorem othR_zero (cols : List Int) (m : Nat) (ops : Ops) : othR cols m ops 0 0 = List.replicate m 0 := by
  unfold othR
  apply List.ext_getElem (by simp)
  intro i h1 h2
  simp [oth]
theorem othR_turn (cols : List Int) (m : Nat) (ops : Ops) (k : Nat) : othR cols m ops k m = othR cols m ops (k + 1) 0 := by
  unfold othR
  apply List.map_congr_left
  intro i hi
  rw [if_pos (List.mem_range.1 hi), if_neg (by omega)]
theorem othR_get (cols : List Int) {m : Nat} (ops : Ops) (k : Nat) {r : Nat} (hr : r < m) : (othR cols m ops k r)[r]? = some (oth cols r (ops.take k)) := by
  unfold othR
  rw [List.getElem?_map, List.getElem?_range hr]
  simp
theorem othR_yes {cols : List Int} {m : Nat} {ops : Ops} {k r : Nat} {o : List Int × Int} (hr : r < m) (h : ops[k]? = some o) (h1 : ¬ o.1 = cols) (h2 : o.1[r]? = cols[r]?) : (othR cols m ops k r).set r (oth cols r (ops.take k) + o.2) = othR cols m ops k (r + 1) := by
  have e := oth_next (cols := cols) (r := r) h
  rw [if_neg h1, if_pos h2] at e
  unfold othR
  apply List.ext_getElem (by simp)
  intro i g1 g2
  rw [List.getElem_set]
  by_cases hi : r = i
  · subst hi
    simp [e]
  · rw [if_neg hi]
    simp only [List.getElem_map, List.getElem_range]
    by_cases h3 : i < r
    · rw [if_pos h3, if_pos (by omega)]
    · rw [if_neg h3, if_neg (by omega)]
theorem othR_no {cols : List Int} {m : Nat} {ops : Ops} {k r : Nat} {o : List Int × Int} (h : ops[k]? = some o) (h2 : ¬ o.1[r]? = cols[r]?) : othR cols m ops k r = othR cols m ops k (r + 1) := by
  have h1 : ¬ o.1 = cols := fun e => h2 (by rw [e])
  have e := oth_next (cols := cols) (r := r) h
  rw [if_neg h1, if_neg h2] at e
  unfold othR
  apply List.map_congr_left
  intro i hi
  by_cases h3 : i < r
  · rw [if_pos h3, if_pos (by omega)]
  · rw [if_neg h3]
    by_cases h4 : i = r
    · subst h4
      rw [if_pos (by omega), e]
      omega
    · rw [if_neg (by omega)]
theorem othR_same {cols : List Int} {m : Nat} {ops : Ops} {k : Nat} {o : List Int × Int} (h : ops[k]? = some o) (h1 : o.1 = cols) : othR cols m ops k 0 = othR cols m ops (k + 1) 0 := by
  unfold othR
  apply List.map_congr_left
  intro i hi
  have e := oth_next (cols := cols) (r := i) h
  rw [if_pos h1] at e
  rw [if_neg (by omega), if_neg (by omega), e]
  omega
theorem othR_nn {cols : List Int} {m : Nat} {ops : Ops} {b : Int} (hp : Plus b ops) (k r : Nat) : ∀ v ∈ othR cols m ops k r, 0 ≤ v := by
  intro v hv
  unfold othR at hv
  obtain ⟨i, _, rfl⟩ := List.mem_map.1 hv
  split
  · exact (oth_bd (fun o ho => hp o (List.mem_of_mem_take ho))).1
  · exact (oth_bd (fun o ho => hp o (List.mem_of_mem_take ho))).1
/-- The least cell that columns name is what they have of their own, and the least of what others have in a row. -/
theorem least_is {m n : Nat} {cols : List Int} {ops : Ops} {b x : Int} (hok : OpsOk m n b ops) (hm : Meets m n cols) {K : Nat} (hK : ops.length = K) (hx : x ∈ othR cols m ops K 0) (hl : ∀ v ∈ othR cols m ops K 0, x ≤ v) :
    Ord.kv (named (chAll (zerosL m n) ops) cols) 0 = own cols ops + x := by
  have hsz := chAll_sz (sz_zeros m n) hok
  have hlen := named_len (L := chAll (zerosL m n) ops) (cols := cols) (by rw [hm.2.1, hsz.1])
  rw [hsz.1] at hlen
  have hget : ∀ r, r < m → (named (chAll (zerosL m n) ops) cols)[r]? = some (own cols ops + oth cols r ops) := by
    intro r hr
    obtain ⟨v, hv, hvn⟩ := meets_get hm hr
    rw [named_cel hsz hm hr hv, chAll_cel hr hvn (sz_zeros m n) hok, cel_zeros, hit_own hv]
    congr 1
    omega
  have htk : ops.take K = ops := List.take_of_length_le (by omega)
  have hmem : ∀ v, v ∈ othR cols m ops K 0 ↔ ∃ r, r < m ∧ v = oth cols r ops := by
    intro v
    unfold othR
    rw [List.mem_map]
    constructor
    · rintro ⟨r, hr, rfl⟩
      exact ⟨r, List.mem_range.1 hr, by rw [if_neg (by omega), htk]⟩
    · rintro ⟨r, hr, rfl⟩
      exact ⟨r, List.mem_range.2 hr, by rw [if_neg (by omega), htk]⟩
  have hm1 := hm.1
  rw [(Ord.kv_yes (k := 0) (by omega) (by rw [hlen]; omega)).1]
  refine (Ord.least_eq _ _ ?_ ?_).symm
  · obtain ⟨r, hr, rfl⟩ := (hmem x).1 hx
    exact List.mem_of_getElem? (hget r hr)
  · intro y hy
    obtain ⟨r, hr, e⟩ := List.mem_iff_getElem.1 hy
    have e2 := hget r (by omega)
    rw [List.getElem?_eq_getElem hr, e] at e2
    injection e2 with e2
    have := hl (oth cols r ops) ((hmem _).2 ⟨r, by omega, rfl⟩)
    omega
end Go.Proofs.Ytnhknachabephaa.Lin
/- What a raise makes of a grid, in numbers. For stages from 9 on. -/
namespace Go.Proofs.Ytnhknachabephaa.Con
open Go Go.RowKit Lw Grd Lin
set_option linter.unusedVariables false
/-- The least of the cells that columns name. -/
def lea (L : List (List Int)) (cols : List Int) : Int := Ord.kv (named L cols) 0
def raised (L : List (List Int)) (cols : List Int) (x : Int) : List (List Int) := List.zipWith (fun r c => r.set c.toNat (max (r[c.toNat]?.getD 0) x)) L cols
def rsCode (m n : Nat) (L : List (List Int)) (cols : List Int) (d : Int) : Int := if Meets m n cols then (if d < 0 then 3 else if Wid.fit64 (lea L cols + d) = true then 0 else 4) else 1
def rsRes (m n : Nat) (L : List (List Int)) (cols : List Int) (d : Int) : List (List Int) := if Meets m n cols ∧ 0 ≤ d ∧ Wid.fit64 (lea L cols + d) = true then raised L cols (lea L cols + d) else L
theorem rs_no {m n : Nat} {L : List (List Int)} {cols : List Int} {d : Int} (h : ¬ Meets m n cols) : rsCode m n L cols d = 1 ∧ rsRes m n L cols d = L := ⟨if_neg h, if_neg (fun g => h g.1)⟩
theorem rs_neg {m n : Nat} {L : List (List Int)} {cols : List Int} {d : Int} (h : Meets m n cols) (hd : d < 0) : rsCode m n L cols d = 3 ∧ rsRes m n L cols d = L := by
  unfold rsCode rsRes
  rw [if_pos h, if_pos hd, if_neg (fun g => by have := g.2.1; omega)]
  exact ⟨rfl, rfl⟩
theorem rs_over {m n : Nat} {L : List (List Int)} {cols : List Int} {d : Int} (h : Meets m n cols) (hd : 0 ≤ d) (hf : Wid.fit64 (lea L cols + d) = false) : rsCode m n L cols d = 4 ∧ rsRes m n L cols d = L := by
  unfold rsCode rsRes
  rw [if_pos h, if_neg (by omega), hf, if_neg (by simp), if_neg (by simp)]
  exact ⟨rfl, rfl⟩
theorem rs_yes {m n : Nat} {L : List (List Int)} {cols : List Int} {d : Int} (h : Meets m n cols) (hd : 0 ≤ d) (hf : Wid.fit64 (lea L cols + d) = true) : rsCode m n L cols d = 0 ∧ rsRes m n L cols d = raised L cols (lea L cols + d) := by
  unfold rsCode rsRes
  rw [if_pos h, if_neg (by omega), hf, if_pos rfl, if_pos ⟨h, hd, rfl⟩]
  exact ⟨rfl, rfl⟩
theorem raised_len {L : List (List Int)} {cols : List Int} (x : Int) (h : cols.length = L.length) : (raised L cols x).length = L.length := by unfold raised; rw [List.length_zipWith]; omega
theorem raised_at {m n : Nat} {L : List (List Int)} {cols : List Int} (hd : Dims m n L) (h : Meets m n cols) (x : Int) {k : Nat} {v : Int} (hv : cols[k]? = some v) : (raised L cols x)[k]? = (L[k]?.map (fun r => r.set v.toNat (max (at2 L k v) x))) := by
  have hk : k < cols.length := (List.getElem?_eq_some_iff.1 hv).1
  have hl : k < L.length := by rw [hd.len, ← h.2.1]; exact hk
  have hb := meets_at h hv
  unfold raised at2
  rw [List.getElem?_zipWith, hv, List.getElem?_eq_getElem hl, if_neg (by omega)]
  simp [List.getElem?_eq_getElem hl]
theorem upto2_mod {α : Type} {X Y : List α} {n k : Nat} {x : α} (f : α → α) (hX : X.length = n) (hY : Y.length = n) (hx : X[k]? = some x) (hy : Y[k]? = some (f x)) : (upto2 X Y k).modify k f = upto2 X Y (k + 1) := by
  have hk : k < n := by rw [← hX]; exact (List.getElem?_eq_some_iff.1 hx).1
  rw [← upto2_set hX hY hy]
  apply List.ext_getElem?
  intro i
  rw [List.getElem?_modify, List.getElem?_set, upto2_len hX hY (by omega)]
  by_cases e : k = i
  · subst e
    rw [upto2_get hX hY hk, hx, if_pos rfl, if_pos hk]
    simp
  · rw [if_neg e]
    simp [e]
theorem at2_in {m n : Nat} {L : List (List Int)} (hd : Dims m n L) (k : Nat) (v : Int) : -9223372036854775808 ≤ at2 L k v ∧ at2 L k v ≤ 9223372036854775807 := by
  unfold at2
  split
  · omega
  · cases e : L[(k : Int).toNat]? with
    | none => simp
    | some r =>
      have h2 := hd.rows r (List.mem_of_getElem? e)
      simp only [Option.getD_some]
      cases e2 : r[v.toNat]? with
      | none => simp
      | some y => simpa using h2.2 y (List.mem_of_getElem? e2)
theorem raised_dims {m n : Nat} {L : List (List Int)} {cols : List Int} {x : Int} (hd : Dims m n L) (h : Meets m n cols) (x0 : -9223372036854775808 ≤ x) (x1 : x ≤ 9223372036854775807) : Dims m n (raised L cols x) := by
  have hl : cols.length = L.length := by rw [hd.len]; exact h.2.1
  refine ⟨by rw [raised_len x hl, hd.len], hd.m8, hd.n128, fun r hr => ?_⟩
  obtain ⟨k, hk, e⟩ := List.mem_iff_getElem.1 hr
  rw [raised_len x hl] at hk
  have h2 := raised_at hd h x (k := k) (List.getElem?_eq_getElem (by omega))
  rw [List.getElem?_eq_getElem hk, List.getElem?_eq_getElem (by rw [raised_len x hl]; exact hk), e] at h2
  simp only [Option.map_some] at h2
  injection h2 with h2
  have h3 := hd.rows _ (List.getElem_mem hk)
  have h4 := at2_in hd k (cols[k]'(by omega))
  rw [h2]
  exact ⟨by rw [List.length_set]; exact h3.1, in64_set h3.2 _ (by omega) (by omega)⟩
theorem lea_in {m n : Nat} {L : List (List Int)} {cols : List Int} (hd : Dims m n L) : -9223372036854775808 ≤ lea L cols ∧ lea L cols ≤ 9223372036854775807 :=
  Ord.kv_in _ _ _ _ (by omega) (by omega) (named_in hd)
end Go.Proofs.Ytnhknachabephaa.Con
/- The walks of package conserve (the code's): cells that rise. -/
namespace Go.Proofs.Ytnhknachabephaa.Con
open Go Go.RowKit Lw Grd Lin
set_option linter.unusedVariables false
set_option linter.unusedSimpArgs false
theorem rise_at {m n : Nat} {L : List (List Int)} {cols : List Int} (hd : Dims m n L) (h : Meets m n cols) (x : Int) {k : Nat} {v : Int} (hv : cols[k]? = some v) (hD : Dims m n (upto2 L (raised L cols x) k)) :
    at2 (upto2 L (raised L cols x) k) k v = at2 L k v ∧ setL (upto2 L (raised L cols x) k) k v (max (at2 L k v) x) = upto2 L (raised L cols x) (k + 1) := by
  have hk : k < cols.length := (List.getElem?_eq_some_iff.1 hv).1
  have hl : cols.length = L.length := by rw [hd.len]; exact h.2.1
  have hb := meets_at h hv
  have hL : L[k]? = some (L[k]'(by omega)) := List.getElem?_eq_getElem (by omega)
  have hY := raised_at hd h x hv
  rw [hL] at hY
  have hX := upto2_get (X := L) (Y := raised L cols x) (n := L.length) rfl (raised_len x hl) (k := k) (by omega)
  have hin : in2 (upto2 L (raised L cols x) k) k v = true := by
    rw [in2_dims hD]
    have := hd.len
    exact decide_eq_true ⟨by omega, by omega, hb.1, hb.2⟩
  refine ⟨?_, ?_⟩
  · unfold at2
    rw [Int.toNat_natCast, hX]
  rw [hL] at hX
  rw [← upto2_set (n := L.length) rfl (raised_len x hl) hY]
  unfold setL
  rw [if_pos hin]
  apply List.ext_getElem?
  intro i
  rw [List.getElem?_modify, List.getElem?_set, Int.toNat_natCast]
  have hln := upto2_len (X := L) (Y := raised L cols x) (n := L.length) rfl (raised_len x hl) (k := k) (by omega)
  by_cases e : k = i
  · subst e
    rw [hX, if_pos rfl, hln, if_pos (by omega)]
    simp
  · rw [if_neg e]
    simp [e]
theorem dims_rise {m n : Nat} {L : List (List Int)} {cols : List Int} {x : Int} (hd : Dims m n L) (h : Meets m n cols) (x0 : -9223372036854775808 ≤ x) (x1 : x ≤ 9223372036854775807) (k : Nat) : Dims m n (upto2 L (raised L cols x) k) := by
  have hr := raised_dims hd h x0 x1
  refine ⟨?_, hd.m8, hd.n128, fun r hrr => ?_⟩
  · unfold upto2
    rw [List.length_append, List.length_take, List.length_drop, hr.len, hd.len]
    omega
  · unfold upto2 at hrr
    rcases List.mem_append.1 hrr with h1 | h1
    · exact hr.rows r (List.mem_of_mem_take h1)
    · exact hd.rows r (List.mem_of_mem_drop h1)
end Go.Proofs.Ytnhknachabephaa.Con
/- Many raises, in numbers: no cell is above what it would be if all had been added; Least of columns is not below what they were raised by. -/
namespace Go.Proofs.Ytnhknachabephaa.Con
open Go Go.RowKit Lw Grd Lin
set_option linter.unusedVariables false
def rsAll (L : List (List Int)) (ops : Ops) : List (List Int) := ops.foldl (fun L o => raised L o.1 (lea L o.1 + o.2)) L
theorem rsAll_one (L : List (List Int)) (ops : Ops) (o : List Int × Int) : rsAll L (ops ++ [o]) = raised (rsAll L ops) o.1 (lea (rsAll L ops) o.1 + o.2) := by
  unfold rsAll
  rw [List.foldl_append]
  rfl
theorem chAll_one (L : List (List Int)) (ops : Ops) (o : List Int × Int) : chAll L (ops ++ [o]) = changed (chAll L ops) o.1 o.2 := by
  unfold chAll
  rw [List.foldl_append]
  rfl
theorem sz_raised {m n : Nat} {L : List (List Int)} {cols : List Int} (h : Sz m n L) (hc : cols.length = m) (x : Int) : Sz m n (raised L cols x) := by
  refine ⟨by unfold raised; rw [List.length_zipWith, h.1, hc]; omega, fun r hr => ?_⟩
  obtain ⟨a, ha, b, hb, rfl⟩ := mem_zip hr
  rw [List.length_set]
  exact h.2 a ha
theorem cel_raised {m n : Nat} {L : List (List Int)} {cols : List Int} (h : Sz m n L) (hc : Meets m n cols) (x : Int) {r c : Nat} (hr : r < m) (hcn : c < n) : cel (raised L cols x) r c = if cols[r]? = some (c : Int) then max (cel L r c) x else cel L r c := by
  have hl : r < L.length := by rw [h.1]; exact hr
  obtain ⟨v, hv, hvn⟩ := meets_get hc hr
  have hrow := h.2 _ (List.getElem_mem hl)
  unfold cel raised
  rw [List.getElem?_zipWith, List.getElem?_eq_getElem hl, hv]
  simp only [Option.getD_some, Int.toNat_natCast]
  by_cases e : v = c
  · subst e
    rw [if_pos rfl, List.getElem?_set_self (by omega)]
    rfl
  · rw [if_neg (by simp; omega), List.getElem?_set_ne e]
theorem lea_mem {m n : Nat} {L : List (List Int)} {cols : List Int} (h : Sz m n L) (hc : Meets m n cols) : lea L cols ∈ named L cols ∧ ∀ y ∈ named L cols, lea L cols ≤ y := by
  have hl := named_len (L := L) (cols := cols) (by rw [hc.2.1, h.1])
  rw [h.1] at hl
  have hm := hc.1
  unfold lea
  rw [(Ord.kv_yes (k := 0) (by omega) (by rw [hl]; omega)).1]
  have hr := Ord.ranks_kth (named L cols) (0 : Int).toNat (by rw [hl]; simp; omega)
  refine ⟨hr.1, fun y hy => ?_⟩
  have h2 : Ord.less (named L cols) (Ord.kth (named L cols) (0 : Int).toNat) = 0 := by have := hr.2.1; simp at this ⊢; exact this
  unfold Ord.less at h2
  rw [List.countP_eq_zero] at h2
  have := h2 y hy
  simpa using this
theorem lea_le {m n : Nat} {L : List (List Int)} {cols : List Int} (h : Sz m n L) (hc : Meets m n cols) {r v : Nat} (hr : r < m) (hv : cols[r]? = some (v : Int)) : lea L cols ≤ cel L r v :=
  (lea_mem h hc).2 _ (List.mem_of_getElem? (named_cel h hc hr hv))
theorem lea_is {m n : Nat} {L : List (List Int)} {cols : List Int} (h : Sz m n L) (hc : Meets m n cols) : ∃ r v : Nat, r < m ∧ v < n ∧ cols[r]? = some (v : Int) ∧ lea L cols = cel L r v := by
  obtain ⟨r, hr, e⟩ := List.mem_iff_getElem.1 (lea_mem h hc).1
  have hl := named_len (L := L) (cols := cols) (by rw [hc.2.1, h.1])
  rw [h.1] at hl
  obtain ⟨v, hv, hvn⟩ := meets_get hc (show r < m by omega)
  have e2 := named_cel h hc (show r < m by omega) hv
  rw [List.getElem?_eq_getElem hr, e] at e2
  injection e2 with e2
  exact ⟨r, v, by omega, hvn, hv, e2⟩
theorem lea_ge {m n : Nat} {L : List (List Int)} {cols : List Int} (h : Sz m n L) (hc : Meets m n cols) {x : Int} (hx : ∀ r v : Nat, r < m → v < n → cols[r]? = some (v : Int) → x ≤ cel L r v) : x ≤ lea L cols := by
  obtain ⟨r, v, hr, hvn, hv, e⟩ := lea_is h hc
  rw [e]
  exact hx r v hr hvn hv
/-- Raised by columns, their least one is just the sum. -/
theorem lea_raised {m n : Nat} {L : List (List Int)} {cols : List Int} (h : Sz m n L) (hc : Meets m n cols) {x : Int} (hx : lea L cols ≤ x) : lea (raised L cols x) cols = x := by
  have hs := sz_raised h hc.2.1 x
  obtain ⟨r, v, hr, hvn, hv, e⟩ := lea_is h hc
  have h1 := lea_le hs hc hr hv
  rw [cel_raised h hc x hr hvn, if_pos hv] at h1
  have h2 : x ≤ lea (raised L cols x) cols := lea_ge hs hc fun r v hr hvn hv => by
    rw [cel_raised h hc x hr hvn, if_pos hv]
    omega
  omega
theorem lea_mono {m n : Nat} {L M : List (List Int)} {cols : List Int} (h : Sz m n L) (g : Sz m n M) (hc : Meets m n cols) (hle : ∀ r c : Nat, r < m → c < n → cel L r c ≤ cel M r c) : lea L cols ≤ lea M cols :=
  lea_ge g hc fun r v hr hvn hv => Int.le_trans (lea_le h hc hr hv) (hle r v hr hvn)
/-- What holds of a grid that rose, beside one to which the same was added. -/
structure Rose (m n : Nat) (G H : List (List Int)) (ops : Ops) : Prop where
  sg : Sz m n G
  sh : Sz m n H
  nn : ∀ r c : Nat, r < m → c < n → 0 ≤ cel G r c
  le : ∀ r c : Nat, r < m → c < n → cel G r c ≤ cel H r c
  ow : ∀ (cols : List Int), Meets m n cols → ∀ r v : Nat, r < m → v < n → cols[r]? = some (v : Int) → own cols ops ≤ cel G r v
theorem own_one (cols : List Int) (ops : Ops) (o : List Int × Int) : own cols (ops ++ [o]) = own cols ops + (if o.1 = cols then o.2 else 0) := by
  rw [own_app]
  simp [own]
theorem rose_zero (m n : Nat) : Rose m n (zerosL m n) (zerosL m n) [] :=
  ⟨sz_zeros m n, sz_zeros m n, fun r c _ _ => by rw [cel_zeros]; omega, fun _ _ _ _ => Int.le_refl _, fun cols _ r v _ _ _ => by rw [cel_zeros]; exact Int.le_refl _⟩
theorem rose_next {m n : Nat} {G H : List (List Int)} {ops : Ops} (h : Rose m n G H ops) {o : List Int × Int} (hm : Meets m n o.1) (hd : 0 ≤ o.2) : Rose m n (raised G o.1 (lea G o.1 + o.2)) (changed H o.1 o.2) (ops ++ [o]) := by
  refine ⟨sz_raised h.sg hm.2.1 _, sz_changed h.sh hm.2.1 _, fun r c hr hc => ?_, fun r c hr hc => ?_, fun cols hcm r v hr hvn hv => ?_⟩
  · rw [cel_raised h.sg hm _ hr hc]
    have := h.nn r c hr hc
    split <;> omega
  · rw [cel_raised h.sg hm _ hr hc, cel_changed h.sh hm _ hr hc]
    have h1 := h.le r c hr hc
    by_cases e : o.1[r]? = some (c : Int)
    · rw [if_pos e, if_pos e]
      have h2 := lea_le h.sg hm hr e
      omega
    · rw [if_neg e, if_neg e]
      omega
  · rw [cel_raised h.sg hm _ hr hvn, own_one]
    have h1 := h.ow cols hcm r v hr hvn hv
    by_cases e : o.1 = cols
    · rw [if_pos e]
      subst e
      rw [if_pos hv]
      have h2 : own o.1 ops ≤ lea G o.1 := lea_ge h.sg hm fun r v hr hvn hv => h.ow o.1 hm r v hr hvn hv
      omega
    · rw [if_neg e]
      split <;> omega
theorem rose_all {m n : Nat} {b : Int} : ∀ {ops : Ops} {pre : Ops} {G H : List (List Int)}, Rose m n G H pre → OpsOk m n b ops → Plus b ops → Rose m n (rsAll G ops) (chAll H ops) (pre ++ ops)
  | [], pre, G, H, h, _, _ => by simpa [rsAll, chAll] using h
  | o :: ops, pre, G, H, h, g, hp => by
    have ih := rose_all (ops := ops) (rose_next h (g o (by simp)).1 (hp o (by simp)).1) (fun p hq => g p (by simp [hq])) (fun p hq => hp p (by simp [hq]))
    rw [List.append_assoc] at ih
    exact ih
theorem Rose.lea_own {m n : Nat} {G H : List (List Int)} {ops : Ops} (h : Rose m n G H ops) {cols : List Int} (hc : Meets m n cols) : own cols ops ≤ lea G cols ∧ lea G cols ≤ lea H cols ∧ 0 ≤ lea G cols :=
  ⟨lea_ge h.sg hc (h.ow cols hc), lea_mono h.sg h.sh hc h.le, lea_ge h.sg hc (fun r v hr hvn _ => h.nn r v hr hvn)⟩
/-- Two pairs of grids, put together. -/
theorem Rose.join {m n : Nat} {G H G2 H2 : List (List Int)} {ops ops2 : Ops} (h : Rose m n G H ops) (g : Rose m n G2 H2 ops2) : Rose m n (gridS 1 G G2) (gridS 1 H H2) (ops ++ ops2) := by
  have key : ∀ {A B : List (List Int)}, Sz m n A → Sz m n B → Sz m n (gridS 1 A B) ∧ ∀ r c, r < m → c < n → cel (gridS 1 A B) r c = cel A r c + cel B r c := by
    intro A B ha hb
    refine ⟨⟨by unfold gridS; rw [List.length_zipWith, ha.1, hb.1]; omega, fun r hr => ?_⟩, fun r c hr hc => ?_⟩
    · obtain ⟨a, h1, b, h2, rfl⟩ := mem_zip hr
      unfold rowS
      rw [List.length_zipWith, ha.2 a h1, hb.2 b h2]
      omega
    · have h1 : r < A.length := by rw [ha.1]; exact hr
      have h2 : r < B.length := by rw [hb.1]; exact hr
      have h3 := ha.2 _ (List.getElem_mem h1)
      have h4 := hb.2 _ (List.getElem_mem h2)
      unfold cel gridS
      rw [List.getElem?_zipWith, List.getElem?_eq_getElem h1, List.getElem?_eq_getElem h2]
      simp only [Option.getD_some]
      unfold rowS
      rw [List.getElem?_zipWith, List.getElem?_eq_getElem (by omega), List.getElem?_eq_getElem (by omega)]
      simp
  obtain ⟨s1, c1⟩ := key h.sg g.sg
  obtain ⟨s2, c2⟩ := key h.sh g.sh
  refine ⟨s1, s2, fun r c hr hc => ?_, fun r c hr hc => ?_, fun cols hcm r v hr hvn hv => ?_⟩
  · rw [c1 r c hr hc]; have := h.nn r c hr hc; have := g.nn r c hr hc; omega
  · rw [c1 r c hr hc, c2 r c hr hc]; have := h.le r c hr hc; have := g.le r c hr hc; omega
  · rw [c1 r v hr hvn, own_app]; have := h.ow cols hcm r v hr hvn hv; have := g.ow cols hcm r v hr hvn hv; omega
theorem cel_within {m n : Nat} {b : Int} {H : List (List Int)} (hs : Sz m n H) (hw : Within b H) {r c : Nat} (hr : r < m) (hc : c < n) : cel H r c ≤ b := by
  have h1 : r < H.length := by rw [hs.1]; exact hr
  have h2 := hs.2 _ (List.getElem_mem h1)
  unfold cel
  rw [List.getElem?_eq_getElem h1]
  simp only [Option.getD_some]
  rw [List.getElem?_eq_getElem (by omega)]
  exact (hw _ (List.getElem_mem h1) _ (List.getElem_mem _)).2
/-- In the midst of sixty raises: the next one is done, and so is the change. -/
theorem both_ok {m n : Nat} {ops : Ops} (hok : OpsOk m n 1099511627776 ops) (hp : Plus 1099511627776 ops) (hl : ops.length ≤ 60) (m8 : m ≤ 8) (n128 : n ≤ 128) {o : List Int × Int} (hm : Meets m n o.1) (hd : 0 ≤ o.2 ∧ o.2 ≤ 1099511627776) :
    (rsCode m n (rsAll (zerosL m n) ops) o.1 o.2 = 0 ∧ rsRes m n (rsAll (zerosL m n) ops) o.1 o.2 = rsAll (zerosL m n) (ops ++ [o])) ∧ (chCode m n (chAll (zerosL m n) ops) o.1 o.2 = 0 ∧ chRes m n (chAll (zerosL m n) ops) o.1 o.2 = chAll (zerosL m n) (ops ++ [o])) := by
  have hr := rose_all (rose_zero m n) hok hp
  have hw := within_mono (chAll_within (c := 1099511627776) (by omega) (b := 0) (Int.le_refl _) (within_zeros m n) hok) (c := 65970697666560) (by omega)
  have h2 := (hr.lea_own hm)
  have h3 : lea (chAll (zerosL m n) ops) o.1 ≤ 65970697666560 := by
    obtain ⟨r, v, hrm, hvn, hv, e⟩ := lea_is hr.sh hm
    rw [e]
    exact cel_within hr.sh hw hrm hvn
  have hf := fits_within (cols := o.1) (d := o.2) (c := 1099511627776) hw (by omega) (by omega) (by omega)
  have hf2 : Wid.fit64 (lea (rsAll (zerosL m n) ops) o.1 + o.2) = true := (Wid.fit64_yes (by omega) (by omega)).1
  rw [rsAll_one, chAll_one]
  exact ⟨rs_yes hm hd.1 hf2, ch_ok hm hf⟩
theorem rose_dims {m n : Nat} {ops : Ops} (hok : OpsOk m n 1099511627776 ops) (hp : Plus 1099511627776 ops) (hl : ops.length ≤ 60) : Within 65970697666560 (chAll (zerosL m n) ops) ∧ Within 65970697666560 (rsAll (zerosL m n) ops) := by
  have hr := rose_all (rose_zero m n) hok hp
  have hw := within_mono (chAll_within (c := 1099511627776) (by omega) (b := 0) (Int.le_refl _) (within_zeros m n) hok) (c := 65970697666560) (by omega)
  refine ⟨hw, fun row hrow v hv => ?_⟩
  obtain ⟨r, h1, rfl⟩ := List.mem_iff_getElem.1 hrow
  obtain ⟨c, h2, rfl⟩ := List.mem_iff_getElem.1 hv
  have h3 := hr.sg.2 _ (List.getElem_mem h1)
  have hrm : r < m := by rw [← hr.sg.1]; exact h1
  have hcn : c < n := by omega
  have e : cel (rsAll (zerosL m n) ops) r c = ((rsAll (zerosL m n) ops)[r])[c] := by
    unfold cel
    rw [List.getElem?_eq_getElem h1]
    simp only [Option.getD_some]
    rw [List.getElem?_eq_getElem h2]
    rfl
  have h4 := hr.nn r c hrm hcn
  have h5 := hr.le r c hrm hcn
  have h6 := cel_within hr.sh hw hrm hcn
  rw [← e]
  omega
theorem join_fits {m n : Nat} {A B : List (List Int)} (ha : Within 65970697666560 A) (hb : Within 65970697666560 B) : fitsAll (gridS 1 A B) = true := by
  unfold fitsAll
  refine List.all_eq_true.2 fun r hr => List.all_eq_true.2 fun x hx => ?_
  obtain ⟨a, h1, b, h2, rfl⟩ := mem_zip hr
  obtain ⟨u, h3, v, h4, rfl⟩ := mem_zip hx
  have := ha a h1 u h3
  have := hb b h2 v h4
  exact (Wid.fit64_yes (by omega) (by omega)).1
/-- Of one row: raised is added. -/
theorem one_row {n : Nat} {ops : Ops} {b : Int} (hok : OpsOk 1 n b ops) (hp : Plus b ops) : ∀ {L : List (List Int)}, Sz 1 n L → rsAll L ops = chAll L ops := by
  induction ops with
  | nil => intro L _; rfl
  | cons o ops ih =>
    intro L hL
    have hm := (hok o (by simp)).1
    have hd := (hp o (by simp)).1
    have e : raised L o.1 (lea L o.1 + o.2) = changed L o.1 o.2 := by
      refine sz_ext (sz_raised hL hm.2.1 _) (sz_changed hL hm.2.1 _) fun r c hr hc => ?_
      rw [cel_raised hL hm _ hr hc, cel_changed hL hm _ hr hc]
      by_cases e : o.1[r]? = some (c : Int)
      · rw [if_pos e, if_pos e]
        obtain ⟨r2, v, hr2, hvn, hv, e2⟩ := lea_is hL hm
        have : r2 = r := by omega
        subst this
        rw [e] at hv
        injection hv with hv
        have : c = v := by omega
        subst this
        omega
      · rw [if_neg e, if_neg e]
        omega
    have h2 := ih (fun p hq => hok p (by simp [hq])) (fun p hq => hp p (by simp [hq])) (sz_changed hL hm.2.1 o.2)
    show rsAll (raised L o.1 (lea L o.1 + o.2)) ops = chAll (changed L o.1 o.2) ops
    rw [e]
    exact h2
theorem zero_row {n : Nat} {L : List (List Int)} {cols : List Int} (hL : Sz 1 n L) (hm : Meets 1 n cols) : raised L cols (lea L cols + 0) = L := by
  refine sz_ext (sz_raised hL hm.2.1 _) hL fun r c hr hc => ?_
  rw [cel_raised hL hm _ hr hc]
  by_cases e : cols[r]? = some (c : Int)
  · rw [if_pos e]
    obtain ⟨r2, v, hr2, hvn, hv, e2⟩ := lea_is hL hm
    have : r2 = r := by omega
    subst this
    rw [e] at hv
    injection hv with hv
    have : c = v := by omega
    subst this
    omega
  · rw [if_neg e]
end Go.Proofs.Ytnhknachabephaa.Con
