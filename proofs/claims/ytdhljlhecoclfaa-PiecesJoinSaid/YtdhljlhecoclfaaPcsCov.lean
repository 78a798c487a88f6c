/- The document's Cover of pieces. Printed by wip/gen/pcsref.py. -/
import Derived.Test.YtdhljlhecoclfaaPcsRef
import Derived.WalkSpells
import Derived.Deep.LoopGhost
import Derived.Deep.RegionHeld3
import Derived.Deep.DeepCutAuto
import Derived.Deep.QuietTactic
import Derived.BigQuiet
namespace Go.Proofs.Ytdhljlhecoclfaa.Pcs
open Go Go.RowKit Lw
set_option linter.unusedVariables false
set_option linter.unusedSimpArgs false
/-- There is always a next piece. -/
theorem GL.ex_from {B lo e : Nat} : ∀ (d L : Nat), B - L = d → L ≤ B → 2 ^ L ∣ lo → lo + 2 ^ L ≤ e → ∃ L', GL B lo e L'
  | 0, L, h, h1, h2, h3 => ⟨L, h1, h2, h3, .inl (by omega)⟩
  | d + 1, L, h, h1, h2, h3 => by
    by_cases g1 : 2 ^ (L + 1) ∣ lo
    · by_cases g2 : lo + 2 ^ (L + 1) ≤ e
      · exact GL.ex_from d (L + 1) (by omega) (by omega) g1 g2
      · exact ⟨L, h1, h2, h3, .inr (.inr (by omega))⟩
    · exact ⟨L, h1, h2, h3, .inr (.inl g1)⟩
theorem GL.ex {B lo e : Nat} (h : lo < e) : ∃ L, GL B lo e L :=
  GL.ex_from B 0 (by omega) (by omega) (by simp) (by simp; omega)
theorem Cov.ex {B e : Nat} : ∀ (d lo : Nat), e - lo = d → lo ≤ e → ∃ l, Cov B e lo l := by
  intro d
  induction d using Nat.strongRecOn with
  | ind d ih =>
    intro lo h1 h2
    by_cases h : lo = e
    · subst h
      exact ⟨[], Cov.nil⟩
    · obtain ⟨L, hg⟩ := GL.ex (B := B) (show lo < e by omega)
      have hp := pow_pos L
      have hf := hg.2.2.1
      obtain ⟨l, hl⟩ := ih (e - (lo + 2 ^ L)) (by omega) (lo + 2 ^ L) rfl hf
      exact ⟨_, Cov.cons hg hl⟩
def ints (l : List (Nat × Nat)) : List (Int × Int) := l.map (fun p => ((p.1 : Int), (p.2 : Int)))
theorem ints_len (l : List (Nat × Nat)) : (ints l).length = l.length := List.length_map _
theorem ints_get {l : List (Nat × Nat)} {k : Nat} {p : Nat × Nat} (h : l[k]? = some p) : (ints l)[k]? = some ((p.1 : Int), (p.2 : Int)) := by
  unfold ints
  rw [List.getElem?_map, h]
  rfl
theorem ints_app (l m : List (Nat × Nat)) : ints (l ++ m) = ints l ++ ints m := List.map_append
theorem ints_inj : ∀ {l m : List (Nat × Nat)}, ints l = ints m → l = m
  | [], [], _ => rfl
  | [], _ :: _, h => by simp [ints] at h
  | _ :: _, [], h => by simp [ints] at h
  | (a, b) :: l, (c, d) :: m, h => by
    unfold ints at h
    rw [List.map_cons, List.map_cons] at h
    injection h with e1 e2
    injection e1 with e3 e4
    have e5 := ints_inj (l := l) (m := m) e2
    simp only at e3 e4
    obtain rfl : a = c := by omega
    obtain rfl : b = d := by omega
    rw [e5]
def okC (b lo hi : Int) : Bool := decide (1 ≤ b ∧ b ≤ 59 ∧ lo ≤ hi ∧ hi < p2 b.toNat)
theorem dvd_tmod {j k : Nat} : Int.tmod (j : Int) (p2 k) = ((j % 2 ^ k : Nat) : Int) := by
  unfold p2
  rw [Int.tmod_eq_emod_of_nonneg (by omega), Int.natCast_emod]
theorem div_tdiv {j k : Nat} : Int.tdiv (j : Int) (p2 k) = ((j / 2 ^ k : Nat) : Int) := by
  unfold p2
  rw [Int.tdiv_eq_ediv_of_nonneg (by omega), Int.natCast_ediv]
/-- What Cover answers: a row of pieces of its own. -/
def CovR (w w' : World) (e : Ending) (b lo hi : Int) : Prop :=
  ∃ (A : Option Addr) (n cap : Nat) (l : List (Nat × Nat)), e = .returned (.tuple #[.slice A n cap, .bool (okC b lo hi)]) ∧ (pcT A n cap (ints l)).I w' ∧ (∀ k, (pcT A n cap (ints l)).F k → w.heap.size ≤ k) ∧ Below w.heap.size w w' ∧ (okC b lo hi = true → Cov b.toNat (hi.toNat + 1) lo.toNat l) ∧ (okC b lo hi = false → l = [])
theorem pc_alloc {X : World} {n : Nat} {vs : Array Value} {t : TypeId} (h : X.heap.size = n) : (X.alloc (.cells vs t)).heap[n]? = some (.cells vs t (0, 0)) := by
  subst h
  exact heap_alloc_new X _
theorem pcT_nil (w : World) (A : Option Addr) (h : ∀ a, A = some a → a.block < w.heap.size) : (pcT A 0 0 (ints [])).I w :=
  ⟨⟨fun _ => ⟨rfl, rfl⟩, Nat.le_refl _, by decide, rfl, fun i q hq => by simp [ints] at hq⟩, h⟩
set_option maxRecDepth 100000 in
set_option maxHeartbeats 4000000 in
theorem rcover_n1 (b lo hi : Int) (w : World) (hb0 : -9223372036854775808 ≤ b) (hb1 : b ≤ 9223372036854775807) (lo0 : 0 ≤ lo) (lo1 : lo ≤ 18446744073709551615) (hi0 : 0 ≤ hi) (hi1 : hi ≤ 18446744073709551615)  (h1 : ¬ 1 ≤ b) :
    Calls Try.prog 11 #[.int .i64 b, .int .u64 lo, .int .u64 hi] w fun e w' => CovR w w' e b lo hi := by
  have HOK : Hid (okC b lo hi = false) := Lib.hid (decide_eq_false (fun h => h1 h.1))
  have d1 : decide (b < 1) = true := decide_eq_true (by omega)
  have f1 : b < 1 := by omega
  clear hb0 hb1 lo0 lo1 hi0 hi1 h1
  go_enter Try.func11, Try.ntmps11
  go_wp2_with (fail)
  refine bodyPost_ret (v := .tuple #[.slice (some ⟨w.heap.size, 0, none⟩) 0 0, .bool false]) (by simp [results, Try.results11, go_sem]) rfl ?_
  have q1 : (pcT (some ⟨w.heap.size, 0, none⟩) 0 0 (ints [])).I (w.alloc (.cells #[] 30)) := pcT_nil _ _ (fun a e => by injection e with e; subst e; simp)
  have q2 : ∀ k, (pcT (some ⟨w.heap.size, 0, none⟩) 0 0 (ints [])).F k → w.heap.size ≤ k := fun k hk => by obtain ⟨a, e, rfl⟩ := hk; injection e with e; subst e; exact Nat.le_refl _
  unfold CovR
  rw [HOK.out]
  exact ⟨some ⟨w.heap.size, 0, none⟩, 0, 0, [], rfl, q1, q2, (by repeat' (first | (with_reducible exact Below.refl _ _) | (with_reducible assumption) | (with_reducible refine below_over ?_ _ _) | (with_reducible refine Lw.below_alloc ?_ _) | (with_reducible refine Below.drew ?_) | (with_reducible refine below_drewN ?_ _) | (with_reducible refine Below.setCell ?_ ?_ _) | go_size)), fun h => by simp at h, fun _ => rfl⟩
set_option maxRecDepth 100000 in
set_option maxHeartbeats 4000000 in
theorem rcover_n2 (b lo hi : Int) (w : World) (hb0 : -9223372036854775808 ≤ b) (hb1 : b ≤ 9223372036854775807) (lo0 : 0 ≤ lo) (lo1 : lo ≤ 18446744073709551615) (hi0 : 0 ≤ hi) (hi1 : hi ≤ 18446744073709551615) (h1 : 1 ≤ b) (h2 : ¬ b ≤ 59) :
    Calls Try.prog 11 #[.int .i64 b, .int .u64 lo, .int .u64 hi] w fun e w' => CovR w w' e b lo hi := by
  have HOK : Hid (okC b lo hi = false) := Lib.hid (decide_eq_false (fun h => h2 h.2.1))
  have d1 : decide (b < 1) = false := decide_eq_false (by omega)
  have f1 : ¬ b < 1 := by omega
  have d2 : decide (59 < b) = true := decide_eq_true (by omega)
  have f2 : 59 < b := by omega
  clear hb0 hb1 lo0 lo1 hi0 hi1 h1 h2
  go_enter Try.func11, Try.ntmps11
  go_wp2_with (fail)
  refine bodyPost_ret (v := .tuple #[.slice (some ⟨w.heap.size, 0, none⟩) 0 0, .bool false]) (by simp [results, Try.results11, go_sem]) rfl ?_
  have q1 : (pcT (some ⟨w.heap.size, 0, none⟩) 0 0 (ints [])).I (w.alloc (.cells #[] 30)) := pcT_nil _ _ (fun a e => by injection e with e; subst e; simp)
  have q2 : ∀ k, (pcT (some ⟨w.heap.size, 0, none⟩) 0 0 (ints [])).F k → w.heap.size ≤ k := fun k hk => by obtain ⟨a, e, rfl⟩ := hk; injection e with e; subst e; exact Nat.le_refl _
  unfold CovR
  rw [HOK.out]
  exact ⟨some ⟨w.heap.size, 0, none⟩, 0, 0, [], rfl, q1, q2, (by repeat' (first | (with_reducible exact Below.refl _ _) | (with_reducible assumption) | (with_reducible refine below_over ?_ _ _) | (with_reducible refine Lw.below_alloc ?_ _) | (with_reducible refine Below.drew ?_) | (with_reducible refine below_drewN ?_ _) | (with_reducible refine Below.setCell ?_ ?_ _) | go_size)), fun h => by simp at h, fun _ => rfl⟩
set_option maxRecDepth 100000 in
set_option maxHeartbeats 4000000 in
theorem rcover_n3 (b lo hi : Int) (w : World) (hb0 : -9223372036854775808 ≤ b) (hb1 : b ≤ 9223372036854775807) (lo0 : 0 ≤ lo) (lo1 : lo ≤ 18446744073709551615) (hi0 : 0 ≤ hi) (hi1 : hi ≤ 18446744073709551615) (h1 : 1 ≤ b) (h2 : b ≤ 59) (h3 : ¬ lo ≤ hi) :
    Calls Try.prog 11 #[.int .i64 b, .int .u64 lo, .int .u64 hi] w fun e w' => CovR w w' e b lo hi := by
  have HOK : Hid (okC b lo hi = false) := Lib.hid (decide_eq_false (fun h => h3 h.2.2.1))
  have d1 : decide (b < 1) = false := decide_eq_false (by omega)
  have f1 : ¬ b < 1 := by omega
  have d2 : decide (59 < b) = false := decide_eq_false (by omega)
  have f2 : ¬ 59 < b := by omega
  have d3 : decide (hi < lo) = true := decide_eq_true (by omega)
  have f3 : hi < lo := by omega
  clear hb0 hb1 lo0 lo1 hi0 hi1 h1 h2 h3
  go_enter Try.func11, Try.ntmps11
  go_wp2_with (fail)
  refine bodyPost_ret (v := .tuple #[.slice (some ⟨w.heap.size, 0, none⟩) 0 0, .bool false]) (by simp [results, Try.results11, go_sem]) rfl ?_
  have q1 : (pcT (some ⟨w.heap.size, 0, none⟩) 0 0 (ints [])).I (w.alloc (.cells #[] 30)) := pcT_nil _ _ (fun a e => by injection e with e; subst e; simp)
  have q2 : ∀ k, (pcT (some ⟨w.heap.size, 0, none⟩) 0 0 (ints [])).F k → w.heap.size ≤ k := fun k hk => by obtain ⟨a, e, rfl⟩ := hk; injection e with e; subst e; exact Nat.le_refl _
  unfold CovR
  rw [HOK.out]
  exact ⟨some ⟨w.heap.size, 0, none⟩, 0, 0, [], rfl, q1, q2, (by repeat' (first | (with_reducible exact Below.refl _ _) | (with_reducible assumption) | (with_reducible refine below_over ?_ _ _) | (with_reducible refine Lw.below_alloc ?_ _) | (with_reducible refine Below.drew ?_) | (with_reducible refine below_drewN ?_ _) | (with_reducible refine Below.setCell ?_ ?_ _) | go_size)), fun h => by simp at h, fun _ => rfl⟩
set_option maxRecDepth 100000 in
set_option maxHeartbeats 4000000 in
theorem rcover_n4 (b lo hi : Int) (w : World) (hb0 : -9223372036854775808 ≤ b) (hb1 : b ≤ 9223372036854775807) (lo0 : 0 ≤ lo) (lo1 : lo ≤ 18446744073709551615) (hi0 : 0 ≤ hi) (hi1 : hi ≤ 18446744073709551615) (h1 : 1 ≤ b) (h2 : b ≤ 59) (h3 : lo ≤ hi) (h4 : ¬ hi < p2 b.toNat) :
    Calls Try.prog 11 #[.int .i64 b, .int .u64 lo, .int .u64 hi] w fun e w' => CovR w w' e b lo hi := by
  have HOK : Hid (okC b lo hi = false) := Lib.hid (decide_eq_false (fun h => h4 h.2.2.2))
  have d1 : decide (b < 1) = false := decide_eq_false (by omega)
  have f1 : ¬ b < 1 := by omega
  have d2 : decide (59 < b) = false := decide_eq_false (by omega)
  have f2 : ¬ 59 < b := by omega
  have d3 : decide (hi < lo) = false := decide_eq_false (by omega)
  have f3 : ¬ hi < lo := by omega
  have C := Lib.hid (fun w => two_at b.toNat (by omega) b (by omega) w)
  obtain ⟨P, hP⟩ : ∃ P, p2 b.toNat = P := ⟨_, rfl⟩
  rw [hP] at C h4
  have d4 : decide (P ≤ hi) = true := decide_eq_true (by omega)
  have f4 : P ≤ hi := by omega
  clear hP
  clear hb0 hb1 lo0 lo1 hi0 hi1 h1 h2 h3 h4
  go_enter Try.func11, Try.ntmps11
  go_wp2_with ((go_at_call 19; (with_reducible refine (C.out _).mono ?_); rintro e w' ⟨rfl, rfl⟩; skip))
  refine bodyPost_ret (v := .tuple #[.slice (some ⟨w.heap.size, 0, none⟩) 0 0, .bool false]) (by simp [results, Try.results11, go_sem]) rfl ?_
  have q1 : (pcT (some ⟨w.heap.size, 0, none⟩) 0 0 (ints [])).I (w.alloc (.cells #[] 30)) := pcT_nil _ _ (fun a e => by injection e with e; subst e; simp)
  have q2 : ∀ k, (pcT (some ⟨w.heap.size, 0, none⟩) 0 0 (ints [])).F k → w.heap.size ≤ k := fun k hk => by obtain ⟨a, e, rfl⟩ := hk; injection e with e; subst e; exact Nat.le_refl _
  unfold CovR
  rw [HOK.out]
  exact ⟨some ⟨w.heap.size, 0, none⟩, 0, 0, [], rfl, q1, q2, (by repeat' (first | (with_reducible exact Below.refl _ _) | (with_reducible assumption) | (with_reducible refine below_over ?_ _ _) | (with_reducible refine Lw.below_alloc ?_ _) | (with_reducible refine Below.drew ?_) | (with_reducible refine below_drewN ?_ _) | (with_reducible refine Below.setCell ?_ ?_ _) | go_size)), fun h => by simp at h, fun _ => rfl⟩
set_option maxRecDepth 100000 in
set_option maxHeartbeats 8000000 in
theorem rcover_y (b lo hi : Int) (w : World) (hb0 : -9223372036854775808 ≤ b) (hb1 : b ≤ 9223372036854775807) (lo0 : 0 ≤ lo) (lo1 : lo ≤ 18446744073709551615) (hi0 : 0 ≤ hi) (hi1 : hi ≤ 18446744073709551615) (h1 : 1 ≤ b) (h2 : b ≤ 59) (h3 : lo ≤ hi) (h4 : hi < p2 b.toNat) :
    Calls Try.prog 11 #[.int .i64 b, .int .u64 lo, .int .u64 hi] w fun e w' => CovR w w' e b lo hi := by
  have hok : okC b lo hi = true := decide_eq_true ⟨h1, h2, h3, h4⟩
  obtain ⟨i0, hi_, hz0, hz1, hz2⟩ := info_parts pc_info
  obtain ⟨n, rfl⟩ : ∃ n : Nat, b = n := ⟨b.toNat, by omega⟩
  obtain ⟨s, rfl⟩ : ∃ s : Nat, lo = s := ⟨lo.toNat, by omega⟩
  obtain ⟨t, rfl⟩ : ∃ t : Nat, hi = t := ⟨hi.toNat, by omega⟩
  have HOK := Lib.hid hok
  rw [Int.toNat_natCast] at h4
  have C0 := Lib.hid (fun w => two_at n (by omega) n rfl w)
  have CT := Lib.hid (fun (k : Nat) (N : Int) w h hN => two_at k h N hN w)
  have hn60 : n ≤ 59 := by omega
  have hn1 : 1 ≤ n := by omega
  have hst : s ≤ t := by omega
  have hpb := p2_bd (show n ≤ 60 by omega)
  have hE : t + 1 ≤ 2 ^ n := by unfold p2 at h4; omega
  have ht60 : (t : Int) < 1152921504606846976 := by omega
  have HE := Lib.hid hE
  obtain ⟨P, hP⟩ : ∃ P, p2 n = P := ⟨_, rfl⟩
  rw [hP] at C0 h4
  have d1 : decide ((n : Int) < 1) = false := decide_eq_false (by omega)
  have f1 : ¬ (n : Int) < 1 := by omega
  have d2 : decide ((59 : Int) < (n : Int)) = false := decide_eq_false (by omega)
  have f2 : ¬ (59 : Int) < (n : Int) := by omega
  have d3 : decide ((t : Int) < (s : Int)) = false := decide_eq_false (by omega)
  have f3 : ¬ (t : Int) < (s : Int) := by omega
  have d4 : decide (P ≤ (t : Int)) = false := decide_eq_false (by omega)
  have f4 : ¬ P ≤ (t : Int) := by omega
  clear hP hpb hE h3 hb0 hb1 lo0 lo1 hi0 hi1 h1 h2 hok h4
  go_enter Try.func11, Try.ntmps11
  go_wp2_with ((go_at_call 19; (with_reducible refine (C0.out _).mono ?_); rintro e w' ⟨rfl, rfl⟩; skip))
  clear d1 d2 d3 d4 f1 f2 f3 f4
  go_loopw [1, 8] (fun lv ov wr => ∃ (j : Nat) (xs : List (Nat × Nat)), j ≤ t + 1 ∧ lv = .int .u64 j ∧ wr.ownsRow w.heap.size 30 2 ov xs.length (flatP (ints xs)) ∧ (∀ l, Cov n (t + 1) j l → Cov n (t + 1) s (xs ++ l)) ∧ Below w.heap.size w wr) (fun lv _ _ => t + 1 - (intOf lv).toNat)
  case atStart => exact ⟨s, [], by omega, rfl, own_empty w _ _ _ (Nat.le_refl _), fun l h => h, (by repeat' (first | (with_reducible exact Below.refl _ _) | (with_reducible assumption) | (with_reducible refine below_over ?_ _ _) | (with_reducible refine Lw.below_alloc ?_ _) | (with_reducible refine Below.drew ?_) | (with_reducible refine below_drewN ?_ _) | (with_reducible refine Below.setCell ?_ ?_ _) | go_size))⟩
  case round =>
    obtain ⟨j, xs, hj, rfl, hown, hcv, hbel⟩ := hrel
    have HCV := Lib.hid hcv
    have HBEL := Lib.hid hbel
    have HOWN := Lib.hid hown
    have hxl : xs.length ≤ 118 := by
      obtain ⟨l, hl⟩ := Cov.ex (B := n) (e := t + 1) _ j rfl hj
      have h9 := (hcv l hl).len HE.out hn1
      rw [List.length_append] at h9
      omega
    clear hcv
    by_cases hlt : j ≤ t
    · have g1 : (j : Int) ≤ (t : Int) := by omega
      obtain ⟨wo, rfl⟩ : ∃ wo, wo = wr := ⟨_, rfl⟩
      go_wp2
      go_loopw [9] (fun kv wr => ∃ (k : Nat), k ≤ n ∧ 2 ^ k ∣ j ∧ j + 2 ^ k ≤ t + 1 ∧ kv = .int .i64 k ∧ wr = wo) (fun kv _ => n - (intOf kv).toNat)
      case atStart => exact ⟨0, Nat.zero_le _, ⟨j, by simp⟩, (by rw [Nat.pow_zero]; omega), rfl, (by first | exact True.intro | exact rfl)⟩
      case round =>
        obtain ⟨k, hk1, hk2, hk3, rfl, rfl⟩ := hrel
        have HK := Lib.hid (And.intro hk2 hk3)
        have hk59 : k ≤ 59 := by omega
        have hpk := p2_bd (show k ≤ 60 by omega)
        clear hk2 hk3
        have ADV : Hid (∀ _ : GL n j (t + 1) k, True) := Lib.hid (fun _ => True.intro)
        by_cases hc1 : k < n
        · have hnx : (k : Int) + 1 = ((k + 1 : Nat) : Int) := by omega
          have HNX := Lib.hid hnx
          have wk1 : wrap64 ((k : Int) + 1) = (k : Int) + 1 := IntWalk.wrap64_in _ ⟨by omega, by omega⟩
          have wk2 : IntKind.i64.wrap ((k : Int) + 1) = (k : Int) + 1 := IntWalk.i64_in _ ⟨by omega, by omega⟩
          have CK := Lib.hid (fun w => CT.out (k + 1) ((k : Int) + 1) w (by omega) hnx)
          clear hnx
          have hpn := p2_bd (show k + 1 ≤ 60 by omega)
          have htm : Int.tmod (j : Int) (p2 (k + 1)) = ((j % 2 ^ (k + 1) : Nat) : Int) := dvd_tmod
          have hpz : ¬ p2 (k + 1) = 0 := by omega
          have hmod := Nat.mod_lt j (pow_pos (k + 1))
          have hpu : p2 (k + 1) = ((2 ^ (k + 1) : Nat) : Int) := rfl
          have kn : (k : Int) < (n : Int) := by omega
          by_cases hc2 : 2 ^ (k + 1) ∣ j
          · have hm0 : j % 2 ^ (k + 1) = 0 := Nat.mod_eq_zero_of_dvd hc2
            have ws : IntKind.u64.wrap ((t : Int) - (j : Int)) = (t : Int) - (j : Int) := u64_in (by omega) (by omega)
            have wm : IntKind.u64.wrap (p2 (k + 1) - 1) = p2 (k + 1) - 1 := u64_in (by omega) (by omega)
            rw [hm0] at htm
            by_cases hc3 : j + 2 ^ (k + 1) ≤ t + 1
            · have HG := Lib.hid (And.intro hc2 hc3)
              have hge : p2 (k + 1) - 1 ≤ (t : Int) - (j : Int) := by rw [hpu]; omega
              obtain ⟨DT, hDT⟩ : ∃ D, (t : Int) - (j : Int) = D := ⟨_, rfl⟩
              obtain ⟨X, hX⟩ : ∃ X, p2 (k + 1) = X := ⟨_, rfl⟩
              rw [hX] at CK htm hpz wm hge
              rw [hDT] at hge
              have ws2 : IntKind.u64.wrap ((t : Int) - (j : Int)) = DT := by rw [ws, hDT]
              obtain ⟨Y, hY⟩ : ∃ Y, X - 1 = Y := ⟨_, rfl⟩
              rw [hY] at hge
              have wm2 : IntKind.u64.wrap (X - 1) = Y := by rw [wm, hY]
              have dge : decide (Y ≤ DT) = true := decide_eq_true hge
              clear hDT hY ws wm
              clear hX hpu hmod hm0 hc2 hc3 hpn hpk
              go_wp2_with ((go_at_call 19; (with_reducible refine (CK.out _).mono ?_); rintro e w' ⟨rfl, rfl⟩; skip))
              go_roundw
              case rel => exact ⟨k + 1, by omega, HG.out.1, HG.out.2, by go_num, (by first | exact True.intro | exact rfl)⟩
              case measure => simp [intOf]; omega
            · have HG : Hid (GL n j (t + 1) k) := Lib.hid ⟨hk1, HK.out.1, HK.out.2, .inr (.inr (by omega))⟩
              have hge : (t : Int) - (j : Int) < p2 (k + 1) - 1 := by rw [hpu]; omega
              obtain ⟨DT, hDT⟩ : ∃ D, (t : Int) - (j : Int) = D := ⟨_, rfl⟩
              obtain ⟨X, hX⟩ : ∃ X, p2 (k + 1) = X := ⟨_, rfl⟩
              rw [hX] at CK htm hpz wm hge
              rw [hDT] at hge
              have ws2 : IntKind.u64.wrap ((t : Int) - (j : Int)) = DT := by rw [ws, hDT]
              obtain ⟨Y, hY⟩ : ∃ Y, X - 1 = Y := ⟨_, rfl⟩
              rw [hY] at hge
              have wm2 : IntKind.u64.wrap (X - 1) = Y := by rw [wm, hY]
              have dge : decide (Y ≤ DT) = false := decide_eq_false (by omega)
              clear hDT hY ws wm
              clear hX hpu hmod hm0 hc2 hc3 hpn
              have CQ := Lib.hid (fun w => CT.out k (k : Int) w (by omega) rfl)
              have hdv : Int.tdiv (j : Int) (p2 k) = ((j / 2 ^ k : Nat) : Int) := div_tdiv
              have hpz2 : ¬ p2 k = 0 := by omega
              have hdl : j / 2 ^ k ≤ j := Nat.div_le_self _ _
              have hsum : (j : Int) + p2 k = ((j + 2 ^ k : Nat) : Int) := by unfold p2; omega
              have hjn : j + 2 ^ k ≤ t + 1 := HG.out.2.2.1
              have hp1 := pow_pos k
              obtain ⟨V, hV⟩ : ∃ V, j / 2 ^ k = V := ⟨_, rfl⟩
              obtain ⟨J2, hJ2⟩ : ∃ J2, j + 2 ^ k = J2 := ⟨_, rfl⟩
              have HC2 : Hid (∀ l, Cov n (t + 1) J2 l → Cov n (t + 1) s (xs ++ [(k, V)] ++ l)) := Lib.hid (fun l hl => by
                rw [List.append_assoc]
                refine HCV.out _ ?_
                rw [← hV]
                exact Cov.cons HG.out (by rw [hJ2]; exact hl))
              have HFL : Hid (flatP (ints (xs ++ [(k, V)])) = flatP (ints xs) ++ [.int .i64 (k : Int), .int .u64 (V : Int)]) := Lib.hid (by rw [ints_app]; exact flatP_snoc _ _)
              have HLEN : Hid ((xs ++ [(k, V)]).length = xs.length + 1) := Lib.hid (by simp)
              have HJ : Hid (j < J2) := Lib.hid (by omega)
              rw [hV] at hdv hdl
              rw [hJ2] at hsum hjn
              have wv : IntKind.u64.wrap (V : Int) = V := u64_in (by omega) (by omega)
              have wj : IntKind.u64.wrap (J2 : Int) = J2 := u64_in (by omega) (by omega)
              obtain ⟨X2, hX2⟩ : ∃ X, p2 k = X := ⟨_, rfl⟩
              rw [hX2] at CQ hdv hpz2 hsum
              have hbs := HBEL.out.size
              clear hX2 hV hJ2 hp1 hpk
              go_wp2_with (first
                | (go_at_call 19; (with_reducible refine (CQ.out _).mono ?_); rintro e w' ⟨rfl, rfl⟩; skip)
                | (go_at_call 19; (with_reducible refine (CK.out _).mono ?_); rintro e w' ⟨rfl, rfl⟩; skip)
                | (at_builtin; go_must (refine wpList_append_own _ rfl _ _ 24 rfl w.heap.size 30 i0 (.agg #[.int .i64 0, .int .u64 0]) 2 16 pcs_u hi_ hz0 hz1 hz2 rfl (by decide) _ _ _ rfl (HOWN.out.alloc _) ⟨_, 0, none⟩ 1 1 [.int .i64 (k : Int), .int .u64 (V : Int)] rfl rfl (pc_news (pc_alloc (by simp))) (pc_one _ _) (by unfold maxLen; omega) (by omega) (by simp; omega) ?_); intro v7 w7 hown7 hgrow7 _))
              go_roundw
              case rel => exact ⟨J2, xs ++ [(k, V)], by omega, by go_num, by rw [HLEN.out, HFL.out]; exact hown7, HC2.out, (HBEL.out.alloc hbs _).grown hgrow7 (by simp; omega) (fun x hx => own_ge HOWN.out x hx)⟩
              case measure => have := HJ.out; simp [intOf]; omega
          · have HG : Hid (GL n j (t + 1) k) := Lib.hid ⟨hk1, HK.out.1, HK.out.2, .inr (.inl hc2)⟩
            have hm0 : ¬ j % 2 ^ (k + 1) = 0 := fun h => hc2 (Nat.dvd_of_mod_eq_zero h)
            obtain ⟨M, hM⟩ : ∃ M, j % 2 ^ (k + 1) = M := ⟨_, rfl⟩
            rw [hM] at htm hm0
            have hmz : ((M : Int) == 0) = false := by simp; omega
            obtain ⟨X, hX⟩ : ∃ X, p2 (k + 1) = X := ⟨_, rfl⟩
            rw [hX] at CK htm hpz
            clear hX hpu hmod hM hc2 hpn
            have CQ := Lib.hid (fun w => CT.out k (k : Int) w (by omega) rfl)
            have hdv : Int.tdiv (j : Int) (p2 k) = ((j / 2 ^ k : Nat) : Int) := div_tdiv
            have hpz2 : ¬ p2 k = 0 := by omega
            have hdl : j / 2 ^ k ≤ j := Nat.div_le_self _ _
            have hsum : (j : Int) + p2 k = ((j + 2 ^ k : Nat) : Int) := by unfold p2; omega
            have hjn : j + 2 ^ k ≤ t + 1 := HG.out.2.2.1
            have hp1 := pow_pos k
            obtain ⟨V, hV⟩ : ∃ V, j / 2 ^ k = V := ⟨_, rfl⟩
            obtain ⟨J2, hJ2⟩ : ∃ J2, j + 2 ^ k = J2 := ⟨_, rfl⟩
            have HC2 : Hid (∀ l, Cov n (t + 1) J2 l → Cov n (t + 1) s (xs ++ [(k, V)] ++ l)) := Lib.hid (fun l hl => by
              rw [List.append_assoc]
              refine HCV.out _ ?_
              rw [← hV]
              exact Cov.cons HG.out (by rw [hJ2]; exact hl))
            have HFL : Hid (flatP (ints (xs ++ [(k, V)])) = flatP (ints xs) ++ [.int .i64 (k : Int), .int .u64 (V : Int)]) := Lib.hid (by rw [ints_app]; exact flatP_snoc _ _)
            have HLEN : Hid ((xs ++ [(k, V)]).length = xs.length + 1) := Lib.hid (by simp)
            have HJ : Hid (j < J2) := Lib.hid (by omega)
            rw [hV] at hdv hdl
            rw [hJ2] at hsum hjn
            have wv : IntKind.u64.wrap (V : Int) = V := u64_in (by omega) (by omega)
            have wj : IntKind.u64.wrap (J2 : Int) = J2 := u64_in (by omega) (by omega)
            obtain ⟨X2, hX2⟩ : ∃ X, p2 k = X := ⟨_, rfl⟩
            rw [hX2] at CQ hdv hpz2 hsum
            have hbs := HBEL.out.size
            clear hX2 hV hJ2 hp1 hpk
            go_wp2_with (first
              | (go_at_call 19; (with_reducible refine (CQ.out _).mono ?_); rintro e w' ⟨rfl, rfl⟩; skip)
              | (go_at_call 19; (with_reducible refine (CK.out _).mono ?_); rintro e w' ⟨rfl, rfl⟩; skip)
              | (at_builtin; go_must (refine wpList_append_own _ rfl _ _ 24 rfl w.heap.size 30 i0 (.agg #[.int .i64 0, .int .u64 0]) 2 16 pcs_u hi_ hz0 hz1 hz2 rfl (by decide) _ _ _ rfl (HOWN.out.alloc _) ⟨_, 0, none⟩ 1 1 [.int .i64 (k : Int), .int .u64 (V : Int)] rfl rfl (pc_news (pc_alloc (by simp))) (pc_one _ _) (by unfold maxLen; omega) (by omega) (by simp; omega) ?_); intro v7 w7 hown7 hgrow7 _))
            go_roundw
            case rel => exact ⟨J2, xs ++ [(k, V)], by omega, by go_num, by rw [HLEN.out, HFL.out]; exact hown7, HC2.out, (HBEL.out.alloc hbs _).grown hgrow7 (by simp; omega) (fun x hx => own_ge HOWN.out x hx)⟩
            case measure => have := HJ.out; simp [intOf]; omega
        · have HG : Hid (GL n j (t + 1) k) := Lib.hid ⟨hk1, HK.out.1, HK.out.2, .inl (by omega)⟩
          have kn : ¬ (k : Int) < (n : Int) := by omega
          have CQ := Lib.hid (fun w => CT.out k (k : Int) w (by omega) rfl)
          have hdv : Int.tdiv (j : Int) (p2 k) = ((j / 2 ^ k : Nat) : Int) := div_tdiv
          have hpz2 : ¬ p2 k = 0 := by omega
          have hdl : j / 2 ^ k ≤ j := Nat.div_le_self _ _
          have hsum : (j : Int) + p2 k = ((j + 2 ^ k : Nat) : Int) := by unfold p2; omega
          have hjn : j + 2 ^ k ≤ t + 1 := HG.out.2.2.1
          have hp1 := pow_pos k
          obtain ⟨V, hV⟩ : ∃ V, j / 2 ^ k = V := ⟨_, rfl⟩
          obtain ⟨J2, hJ2⟩ : ∃ J2, j + 2 ^ k = J2 := ⟨_, rfl⟩
          have HC2 : Hid (∀ l, Cov n (t + 1) J2 l → Cov n (t + 1) s (xs ++ [(k, V)] ++ l)) := Lib.hid (fun l hl => by
            rw [List.append_assoc]
            refine HCV.out _ ?_
            rw [← hV]
            exact Cov.cons HG.out (by rw [hJ2]; exact hl))
          have HFL : Hid (flatP (ints (xs ++ [(k, V)])) = flatP (ints xs) ++ [.int .i64 (k : Int), .int .u64 (V : Int)]) := Lib.hid (by rw [ints_app]; exact flatP_snoc _ _)
          have HLEN : Hid ((xs ++ [(k, V)]).length = xs.length + 1) := Lib.hid (by simp)
          have HJ : Hid (j < J2) := Lib.hid (by omega)
          rw [hV] at hdv hdl
          rw [hJ2] at hsum hjn
          have wv : IntKind.u64.wrap (V : Int) = V := u64_in (by omega) (by omega)
          have wj : IntKind.u64.wrap (J2 : Int) = J2 := u64_in (by omega) (by omega)
          obtain ⟨X2, hX2⟩ : ∃ X, p2 k = X := ⟨_, rfl⟩
          rw [hX2] at CQ hdv hpz2 hsum
          have hbs := HBEL.out.size
          clear hX2 hV hJ2 hp1 hpk
          go_wp2_with (first
            | (go_at_call 19; (with_reducible refine (CQ.out _).mono ?_); rintro e w' ⟨rfl, rfl⟩; skip)
            | (go_at_call 19; (with_reducible refine (CK.out _).mono ?_); rintro e w' ⟨rfl, rfl⟩; skip)
            | (at_builtin; go_must (refine wpList_append_own _ rfl _ _ 24 rfl w.heap.size 30 i0 (.agg #[.int .i64 0, .int .u64 0]) 2 16 pcs_u hi_ hz0 hz1 hz2 rfl (by decide) _ _ _ rfl (HOWN.out.alloc _) ⟨_, 0, none⟩ 1 1 [.int .i64 (k : Int), .int .u64 (V : Int)] rfl rfl (pc_news (pc_alloc (by simp))) (pc_one _ _) (by unfold maxLen; omega) (by omega) (by simp; omega) ?_); intro v7 w7 hown7 hgrow7 _))
          go_roundw
          case rel => exact ⟨J2, xs ++ [(k, V)], by omega, by go_num, by rw [HLEN.out, HFL.out]; exact hown7, HC2.out, (HBEL.out.alloc hbs _).grown hgrow7 (by simp; omega) (fun x hx => own_ge HOWN.out x hx)⟩
          case measure => have := HJ.out; simp [intOf]; omega
    · have he : j = t + 1 := by omega
      have g1 : ¬ (j : Int) ≤ (t : Int) := by omega
      have dg1 : decide ((j : Int) ≤ (t : Int)) = false := decide_eq_false g1
      have hcov : Cov n (t + 1) s xs := by
        have h9 := HCV.out [] (by rw [he]; exact Cov.nil)
        rwa [List.append_nil] at h9
      clear he hlt hj
      have hbd : ∀ u ∈ ints xs, (-9223372036854775808 ≤ u.1 ∧ u.1 ≤ 9223372036854775807) ∧ (0 ≤ u.2 ∧ u.2 ≤ 18446744073709551615) := by
        intro u hu
        obtain ⟨p, hp, rfl⟩ := List.mem_map.1 hu
        obtain ⟨i, hi⟩ := List.getElem?_of_mem hp
        obtain ⟨q1, q2, q3⟩ := hcov.at i p hi
        have q4 := pow_pos p.1
        have q5 : p.2 * 1 ≤ p.2 * 2 ^ p.1 := Nat.mul_le_mul_left _ q4
        exact ⟨⟨by show -9223372036854775808 ≤ (p.1 : Int); omega, by show (p.1 : Int) ≤ 9223372036854775807; omega⟩, ⟨by show 0 ≤ (p.2 : Int); omega, by show (p.2 : Int) ≤ 18446744073709551615; omega⟩⟩
      obtain ⟨A2, cap, rfl, hI, hF⟩ := pc_own HOWN.out (ints_len xs) hbd
      have HI := Lib.hid hI
      have HF := Lib.hid hF
      have HCO := Lib.hid hcov
      clear hcov hbd hI hF hown hbel
      go_wp2
      refine bodyPost_ret (v := .tuple #[.slice A2 xs.length cap, .bool true]) (by simp [results, Try.results11, go_sem]) rfl ?_
      unfold CovR
      rw [HOK.out]
      exact ⟨A2, _, cap, xs, rfl, HI.out, HF.out, HBEL.out, fun _ => HCO.out, fun h => by simp at h⟩
theorem rcover_any (b lo hi : Int) (w : World) (hb0 : -9223372036854775808 ≤ b) (hb1 : b ≤ 9223372036854775807) (lo0 : 0 ≤ lo) (lo1 : lo ≤ 18446744073709551615) (hi0 : 0 ≤ hi) (hi1 : hi ≤ 18446744073709551615) :
    Calls Try.prog 11 #[.int .i64 b, .int .u64 lo, .int .u64 hi] w fun e w' => CovR w w' e b lo hi := by
  by_cases h1 : 1 ≤ b
  · by_cases h2 : b ≤ 59
    · by_cases h3 : lo ≤ hi
      · by_cases h4 : hi < p2 b.toNat
        · exact rcover_y b lo hi w hb0 hb1 lo0 lo1 hi0 hi1 h1 h2 h3 h4
        · exact rcover_n4 b lo hi w hb0 hb1 lo0 lo1 hi0 hi1 h1 h2 h3 h4
      · exact rcover_n3 b lo hi w hb0 hb1 lo0 lo1 hi0 hi1 h1 h2 h3
    · exact rcover_n2 b lo hi w hb0 hb1 lo0 lo1 hi0 hi1 h1 h2
  · exact rcover_n1 b lo hi w hb0 hb1 lo0 lo1 hi0 hi1 h1
end Go.Proofs.Ytdhljlhecoclfaa.Pcs
