/- The statement PiecesOne of layer 14 holds: a piece's own span is that piece alone. Printed by wip/gen/pcslaws.py. -/
import Derived.Test.YtdhljlhecoclfaaPcsCnt
import Derived.Deep.LoopGhost
import Derived.Deep.RegionHeld3
import Derived.Deep.DeepCutAuto
import Derived.Deep.QuietTactic
import Derived.BigQuiet
namespace Go.Proofs.Ytdhljlhecoclfaa.Pcs
open Go Go.RowKit Lw
set_option linter.unusedVariables false
set_option linter.unusedSimpArgs false
theorem lit1 (X : World) (t i : Nat) (ht : t ≤ 60) (hi : i ≤ 1152921504606846976) : PcV (X.alloc (.cells #[.int .i64 (t : Int), .int .u64 (i : Int)] 30)) (some ⟨X.heap.size, 0, none⟩) 1 1 (ints [(t, i)]) := by
  have hb := heap_alloc_new X (.cells #[.int .i64 (t : Int), .int .u64 (i : Int)] 30)
  have c : ∀ (j : Nat) (v : Value), (#[.int .i64 (t : Int), .int .u64 (i : Int)] : Array Value)[j]? = some v → (X.alloc (.cells #[.int .i64 (t : Int), .int .u64 (i : Int)] 30)).cell? ((⟨X.heap.size, 0, none⟩ : Addr).add j) = some v := fun j v hv => by
    rw [Ord.add_at, Nat.zero_add]
    exact box_cell hb hv
  refine ⟨fun h => by (cases h), Nat.le_refl _, by decide, rfl, fun j q hq => ?_⟩
  match j, hq with
  | 0, hq =>
    cases hq
    exact ⟨_, rfl, c 0 _ rfl, c 1 _ rfl, ⟨by show -9223372036854775808 ≤ (t : Int); omega, by show (t : Int) ≤ 9223372036854775807; omega⟩, ⟨by show 0 ≤ (i : Int); omega, by show (i : Int) ≤ 18446744073709551615; omega⟩⟩
theorem cown (n lo hi : Nat) (h : 1 ≤ n ∧ n ≤ 59 ∧ lo ≤ hi ∧ hi < 2 ^ n) {t i : Nat} (hc : Cov n (hi + 1) lo [(t, i)]) (w : World) :
    Calls Try.prog 10 #[.int .i64 n, .int .u64 lo, .int .u64 hi] w fun e w' => ∃ (A : Option Addr) (cap : Nat), e = .returned (.tuple #[.slice A 1 cap, .bool true]) ∧ (pcT A 1 cap (ints [(t, i)])).I w' ∧ (∀ k, (pcT A 1 cap (ints [(t, i)])).F k → w.heap.size ≤ k) ∧ Below w.heap.size w w' := by
  refine (ccov_at n lo hi h w).mono ?_
  rintro e w' ⟨A, m, cap, l, rfl, h1, h2, h3, h4, h5⟩
  obtain rfl := h4.uniq hc
  obtain rfl : 1 = m := h5
  exact ⟨A, cap, rfl, h1, h2, h3⟩
theorem piece_in {n t lo : Nat} (ht : t ≤ n) (h : lo < 2 ^ n) : lo / 2 ^ t * 2 ^ t + 2 ^ t ≤ 2 ^ n := by
  have e2 : 2 ^ n = 2 ^ (n - t) * 2 ^ t := by rw [← Nat.pow_add, Nat.sub_add_cancel ht]
  have h1 : lo / 2 ^ t < 2 ^ (n - t) := by
    rw [Nat.div_lt_iff_lt_mul (pow_pos t), ← e2]
    exact h
  rw [e2, ← Nat.succ_mul]
  exact Nat.mul_le_mul_right _ h1
theorem czero (n lo : Nat) (h : 1 ≤ n ∧ n ≤ 59 ∧ 0 ≤ lo ∧ lo < 2 ^ n) (w : World) :
    Calls Try.prog 10 #[.int .i64 n, .int .u64 0, .int .u64 lo] w fun e w' => ∃ (A : Option Addr) (m cap : Nat) (l : List (Nat × Nat)), e = .returned (.tuple #[.slice A m cap, .bool true]) ∧ (pcT A m cap (ints l)).I w' ∧ (∀ k, (pcT A m cap (ints l)).F k → w.heap.size ≤ k) ∧ Below w.heap.size w w' ∧ Cov n (lo + 1) 0 l ∧ l.length = m := ccov_at n 0 lo h w
theorem cown0 (n hi : Nat) (h : 1 ≤ n ∧ n ≤ 59 ∧ 0 ≤ hi ∧ hi < 2 ^ n) {t i : Nat} (hc : Cov n (hi + 1) 0 [(t, i)]) (w : World) :
    Calls Try.prog 10 #[.int .i64 n, .int .u64 0, .int .u64 hi] w fun e w' => ∃ (A : Option Addr) (cap : Nat), e = .returned (.tuple #[.slice A 1 cap, .bool true]) ∧ (pcT A 1 cap (ints [(t, i)])).I w' ∧ (∀ k, (pcT A 1 cap (ints [(t, i)])).F k → w.heap.size ≤ k) ∧ Below w.heap.size w w' := cown n 0 hi h hc w
theorem one_nums {n lo hi : Nat} {X : Int} (hb : 1 ≤ n ∧ n ≤ 59 ∧ lo ≤ hi ∧ hi < 2 ^ n) (X0 : 0 ≤ X) :
    ∃ (N1 : Int) (t i SA SB SN : Nat) (PN : Int), wrap64 ((n : Int) + 1) = N1 ∧ ¬ N1 = 0 ∧ Int.tmod X N1 = (t : Int) ∧ IntKind.u64.wrap (t : Int) = t ∧ (lo : Int) / 2 ^ min t 64 = (i : Int) ∧ IntKind.u64.wrap (i : Int) = i ∧ IntKind.u64.wrap (2 ^ min n 64) = PN ∧ IntKind.u64.wrap (PN - 1) = (SN : Int) ∧ IntKind.u64.wrap (n : Int) = n ∧
      (t ≤ n ∧ i * 2 ^ t + 2 ^ t ≤ 2 ^ n ∧ i * 2 ^ t = SA ∧ SA + 2 ^ t - 1 = SB ∧ (1 ≤ n ∧ n ≤ 59 ∧ SA ≤ SB ∧ SB < 2 ^ n) ∧ Cov n (SB + 1) SA [(t, i)] ∧ (1 ≤ n ∧ n ≤ 59 ∧ 0 ≤ lo ∧ lo < 2 ^ n) ∧ (1 ≤ n ∧ n ≤ 59 ∧ 0 ≤ SN ∧ SN < 2 ^ n) ∧ Cov n (SN + 1) 0 [(n, 0)] ∧ (t ≤ 60 ∧ i ≤ 1152921504606846976) ∧ lo + 1 ≤ 2 ^ n) := by
  obtain ⟨n1, n59, hlh, hh⟩ := hb
  have hlo : lo < 2 ^ n := Nat.lt_of_le_of_lt hlh hh
  have hnw := (IntWalk.wrap64_in ((n : Int) + 1) ⟨by omega, by omega⟩)
  have q1 := Int.tmod_lt_of_pos X (show 0 < (n : Int) + 1 by omega)
  have q2 := Int.tmod_nonneg ((n : Int) + 1) X0
  obtain ⟨t, ht⟩ : ∃ t : Nat, Int.tmod X ((n : Int) + 1) = (t : Int) := ⟨(Int.tmod X ((n : Int) + 1)).toNat, (Int.toNat_of_nonneg q2).symm⟩
  have htn : t ≤ n := by rw [ht] at q1; omega
  clear q1 q2
  have hpt := piece_in htn hlo
  have hp1 := pow_pos t
  have hpn := pow_pos n
  obtain ⟨i, hi⟩ : ∃ i, lo / 2 ^ t = i := ⟨_, rfl⟩
  have hil : i ≤ lo := by rw [← hi]; exact Nat.div_le_self _ _
  have h59 : 2 ^ n ≤ 2 ^ 60 := pow_le (by omega)
  have h60 : (2 : Nat) ^ 60 = 1152921504606846976 := by decide
  rw [h60] at h59
  rw [hi] at hpt
  have hsr : (lo : Int) / 2 ^ min t 64 = (i : Int) := by
    rw [Nat.min_eq_left (Nat.le_trans htn (Nat.le_trans n59 (by decide))), ← hi]
    simp
  have hsN : IntKind.u64.wrap (2 ^ min n 64) = p2 n := by
    have h := shl_at (b := (n : Int)) (by omega) (by omega)
    rwa [Int.toNat_natCast] at h
  have hc1 := Cov.own (B := n) (L := t) (i := i) htn (by rw [Nat.add_mul, Nat.one_mul]; exact hpt)
  have hc2 := Cov.own (B := n) (L := n) (i := 0) (Nat.le_refl _) (by simp)
  obtain ⟨P, hP⟩ : ∃ P, 2 ^ n = P := ⟨_, rfl⟩
  obtain ⟨T, hT⟩ : ∃ T, 2 ^ t = T := ⟨_, rfl⟩
  obtain ⟨SA, hSA⟩ : ∃ S, i * 2 ^ t = S := ⟨_, rfl⟩
  have hp2 : p2 n = (P : Int) := by unfold p2; rw [hP]
  have e1 : (i + 1) * 2 ^ t = SA + T := by rw [Nat.add_mul, Nat.one_mul, hSA, hT]
  rw [hSA] at hpt hc1
  rw [hT] at hpt hp1
  rw [hP] at hpt hpn h59 hlo
  rw [e1] at hc1
  have e2 : (0 + 1) * 2 ^ n = P := by rw [hP]; omega
  have e3 : 0 * 2 ^ n = 0 := Nat.zero_mul _
  rw [e2, e3] at hc2
  refine ⟨(n : Int) + 1, t, i, SA, SA + T - 1, P - 1, p2 n, hnw, by omega, ht, u64_in (by omega) (by omega), hsr, u64_in (by omega) (by omega), hsN, by rw [hp2, show (P : Int) - 1 = ((P - 1 : Nat) : Int) by omega]; exact u64_in (by omega) (by omega), u64_in (by omega) (by omega), htn, ?_, hSA, by rw [hT], ⟨n1, n59, by omega, ?_⟩, ?_, ⟨n1, n59, Nat.zero_le _, ?_⟩, ⟨n1, n59, Nat.zero_le _, ?_⟩, ?_, ⟨by omega, by omega⟩, ?_⟩
  · rw [hSA, hT, hP]; exact hpt
  · rw [hP]; omega
  · rw [show SA + T - 1 + 1 = SA + T by omega]; exact hc1
  · rw [hP]; exact hlo
  · rw [hP]; omega
  · rw [show P - 1 + 1 = P by omega]; exact hc2
  · rw [hP]; omega
set_option maxRecDepth 100000 in
set_option maxHeartbeats 8000000 in
theorem one_law (b x lv : Int) (w : World) (b0 : -9223372036854775808 ≤ b ∧ b ≤ 9223372036854775807) (x0 : 0 ≤ x ∧ x ≤ 18446744073709551615) (v0 : -9223372036854775808 ≤ lv ∧ lv ≤ 9223372036854775807) :
    Calls Try.prog 8 #[.int .i64 b, .int .u64 x, .int .i64 lv] w fun e w' => e = .returned (.bool true) ∧ Below w.heap.size w w' := by
  have HBX : Hid (Have w w []) := Lib.hid (Below.refl _ _)
  obtain ⟨X, _, a1, b1, c1, -, -, -⟩ := Shp.level_of lv 1 (by omega) (by omega)
  go_enter Try.func8, Try.ntmps8
  go_upto_region 3 with (first
    | (go_at_call 16; (with_reducible refine (right_any b x x _ b0 x0.1 x0.2 x0.1 x0.2).mono ?_); rintro e w2 ⟨n, lo, hi, rfl, hbd, hb⟩; have HV2 := Lib.hid (HV1.out.up hb); have HBD := Lib.hid hbd; clear hb hbd)
    | (go_at_call 9; (with_reducible refine (shown_any _).mono ?_); rintro e w1 ⟨rfl, hb⟩; have HV1 := Lib.hid (HBX.out.up hb); clear hb))
  obtain ⟨N1, t, i, SA, SB, SN, PN, hnw, hnz, ht, hu, hsr, hiw, hsN, hPS, hnu, hrest⟩ := one_nums (n := n) (lo := lo) HBD.out b1
  have HRS := Lib.hid hrest
  clear hrest
  have CS := Lib.hid (fun w => by
    have h := cspan_at n t i ⟨HBD.out.1, HBD.out.2.1⟩ HRS.out.1 HRS.out.2.1 w
    rw [HRS.out.2.2.1, HRS.out.2.2.2.1] at h
    exact h : ∀ w, Calls Try.prog 13 #[.int .i64 n, .agg #[.int .i64 t, .int .u64 i]] w fun e w' => e = .returned (.tuple #[.int .u64 (SA : Int), .int .u64 (SB : Int), .bool true]) ∧ Below w.heap.size w w')
  have CO := Lib.hid (fun w => cown n SA SB HRS.out.2.2.2.2.1 HRS.out.2.2.2.2.2.1 w)
  have CZ := Lib.hid (fun w => czero n lo HRS.out.2.2.2.2.2.2.1 w)
  have CA := Lib.hid (fun w => cown0 n SN HRS.out.2.2.2.2.2.2.2.1 HRS.out.2.2.2.2.2.2.2.2.1 w)
  have HTI : Hid (t ≤ 60 ∧ i ≤ 1152921504606846976) := Lib.hid HRS.out.2.2.2.2.2.2.2.2.2.1
  have HE : Hid (lo + 1 ≤ 2 ^ n) := Lib.hid HRS.out.2.2.2.2.2.2.2.2.2.2
  have HN1 := Lib.hid HBD.out
  have eqS : decide (ints [(t, i)] = ints [(t, i)]) = true := decide_eq_true rfl
  clear b1 c1 b0 x0 v0
  go_upto_region 5 with fail
  have HV3 := Lib.hid (HV2.out.push (boxT w2.heap.size 30 #[.int .i64 (t : Int), .int .u64 (i : Int)]) (Lw.below_alloc (Below.refl _ _) _) (heap_alloc_new w2 _) (fun k hk => Nat.le_of_eq hk.symm))
  obtain ⟨z0, z1⟩ := box2p HV3.out.i0
  clear hnw hnz ht hu hsr hiw a1
  go_wp2_with (first
    | (go_at_call 10; (with_reducible refine (CZ.out _).mono ?_); rintro e w6 ⟨A, m, cap, l, rfl, h1, h2, hb, h4, h5⟩; have HV6 := Lib.hid (HV5b.out.push (pcT A m cap (ints l)) hb h1 h2); have HC := Lib.hid h4; have HL := Lib.hid h5; clear h1 h2 hb h4 h5)
    | (go_at_call 12; (with_reducible refine (psame_any _ _ _ _ _ _ _ _ _ ((pcI HV5.out.i0).up (by repeat' (first | (with_reducible exact Below.refl _ _) | (with_reducible assumption) | (with_reducible refine below_over ?_ _ _) | (with_reducible refine Lw.below_alloc ?_ _) | (with_reducible refine Below.drew ?_) | (with_reducible refine below_drewN ?_ _) | (with_reducible refine Below.setCell ?_ ?_ _) | go_size))) (lit1 _ t i HTI.out.1 HTI.out.2)).mono ?_); rintro e w5 ⟨rfl, hb⟩; have HV5b := Lib.hid ((HV5.out.up (by repeat' (first | (with_reducible exact Below.refl _ _) | (with_reducible assumption) | (with_reducible refine below_over ?_ _ _) | (with_reducible refine Lw.below_alloc ?_ _) | (with_reducible refine Below.drew ?_) | (with_reducible refine below_drewN ?_ _) | (with_reducible refine Below.setCell ?_ ?_ _) | go_size))).up hb); clear hb z0 z1)
    | (go_at_call 10; (with_reducible refine (CO.out _).mono ?_); rintro e w4 ⟨A1, cap1, rfl, h1, h2, hb⟩; have HV5 := Lib.hid (HV4.out.push (pcT A1 1 cap1 (ints [(t, i)])) hb h1 h2); clear h1 h2 hb z0 z1; obtain ⟨z0, z1⟩ := box2p HV5.out.i1)
    | (go_at_call 13; (with_reducible refine (CS.out _).mono ?_); rintro e w3 ⟨rfl, hb⟩; have HV4 := Lib.hid (HV3.out.up hb); clear hb z0 z1; obtain ⟨z0, z1⟩ := box2p HV4.out.i0))
  have hcm := (pcI HV6.out.i0).nc
  have hcx := (pcI HV6.out.i0).cm
  unfold maxLen at hcx
  have hz60 : w6.alloc (.cells #[.int .i64 0, .int .i64 0, .int .i64 0, .int .i64 0, .int .i64 0, .int .i64 0, .int .i64 0, .int .i64 0, .int .i64 0, .int .i64 0, .int .i64 0, .int .i64 0, .int .i64 0, .int .i64 0, .int .i64 0, .int .i64 0, .int .i64 0, .int .i64 0, .int .i64 0, .int .i64 0, .int .i64 0, .int .i64 0, .int .i64 0, .int .i64 0, .int .i64 0, .int .i64 0, .int .i64 0, .int .i64 0, .int .i64 0, .int .i64 0, .int .i64 0, .int .i64 0, .int .i64 0, .int .i64 0, .int .i64 0, .int .i64 0, .int .i64 0, .int .i64 0, .int .i64 0, .int .i64 0, .int .i64 0, .int .i64 0, .int .i64 0, .int .i64 0, .int .i64 0, .int .i64 0, .int .i64 0, .int .i64 0, .int .i64 0, .int .i64 0, .int .i64 0, .int .i64 0, .int .i64 0, .int .i64 0, .int .i64 0, .int .i64 0, .int .i64 0, .int .i64 0, .int .i64 0, .int .i64 0] 38) = w6.alloc (.cells (cntA []) 38) := rfl
  rw [hz60]
  have HV7 := Lib.hid (HV6.out.push (boxT w6.heap.size 38 (cntA [])) (Lw.below_alloc (Below.refl _ _) _) (heap_alloc_new w6 _) (fun k hk => Nat.le_of_eq hk.symm))
  obtain ⟨g0, hg0⟩ : ∃ g, w6.heap.size = g := ⟨_, rfl⟩
  obtain ⟨wq, hwq⟩ : ∃ wq, w6.alloc (.cells (cntA []) 38) = wq := ⟨_, rfl⟩
  rw [hwq] at HV7 ⊢
  rw [hg0] at HV7 ⊢
  clear hz60 hwq hg0
  clear HV1 HV2 HV3 HV4 HV5 HV5b HBX CS CO CZ eqS
  go_loopw [17] (fun iv wr => ∃ (k : Nat), k ≤ m ∧ iv = .int .i64 k ∧ Have w wr [boxT g0 38 (cntA ((l.take k).map (·.1))), pcT A m cap (ints l)]) (fun iv _ => m - (intOf iv).toNat)
  case atStart => exact ⟨0, Nat.zero_le _, rfl, HV7.out.i0, HV7.out.f0, fun u hu k hk => by (simp at hu; subst hu; exact HV7.out.ap01 k hk), HV7.out.i1, HV7.out.f1, fun u hu => by simp at hu, HV7.out.below⟩
  case round =>
    obtain ⟨k, hk, rfl, hv⟩ := hrel
    have HVr := Lib.hid hv
    clear hv
    by_cases hlt : k < m
    · have hkl : k < l.length := by have := HL.out; omega
      obtain ⟨p, hp⟩ : ∃ p, l[k]? = some p := ⟨_, List.getElem?_eq_getElem hkl⟩
      have hpn := (HC.out.at k p hp).1
      have htk := take_lev hp
      have hct := HC.out.once HE.out (k + 1) p.1
      rw [htk, List.count_append] at hct
      have h1c : List.count p.1 [p.1] = 1 := by simp
      rw [h1c] at hct
      have hb1 := HN1.out
      have hp60 : p.1 < 60 := by omega
      have hx0 := box_cell HVr.out.i0 (cntA_get (ls := (l.take k).map (·.1)) hp60)
      have hf0 := boxs_frozen HVr.out.i0 p.1
      obtain ⟨ad, g, o, eA, had, d1, d2⟩ := (pcI HVr.out.i1).two (ints_get hp)
      have hc0 : List.count p.1 ((l.take k).map (·.1)) = 0 := by omega
      rw [hc0] at hx0
      have hset := cntA_set (ls := (l.take k).map (·.1)) (x := p.1) hp60 (v := 1) (by rw [hc0]; rfl)
      rw [← htk] at hset
      have HSET := Lib.hid hset
      have hsz := box_lt HVr.out.i0
      have kn : (k : Int) < (m : Int) := by omega
      obtain ⟨pl, pi⟩ := p
      simp only at d1 d2 hx0 hf0 hpn hp60 HSET
      have p0 : ¬ (pl : Int) < 0 := by omega
      have p59 : ¬ (59 : Int) < (pl : Int) := by omega
      subst eA
      clear hset htk hc0 hct hp h1c hb1 hkl
      go_wp2
      go_roundw
      case rel => exact ⟨k + 1, by omega, by go_num, HVr.out.turn_0 (boxT g0 38 (cntA ((l.take (k + 1)).map (·.1)))) (by rw [← HSET.out]; exact boxs_set HVr.out.i0 pl _) (Kept.set (F := fun q => q = g0) (Kept.refl _ wr) (.inl rfl) pl _) (fun k hk => .inl hk)⟩
      case measure => simp [intOf]; omega
    · have nk : ¬ (k : Int) < (m : Int) := by omega
      have eN : ((n : Int) == (n : Int)) = true := by simp
      clear hlt hk
      go_wp2_with (go_at_call 10; (with_reducible refine (CA.out _).mono ?_); rintro e w8 ⟨A8, cap8, rfl, h1, h2, hb⟩; have HV8 := Lib.hid (HVr.out.push (pcT A8 1 cap8 (ints [(n, 0)])) hb h1 h2); obtain ⟨ad8, g8, o8, eA8, had8, d18, d28⟩ := (pcI HV8.out.i0).two (k := 0) (p := ((n : Int), ((0 : Nat) : Int))) rfl; subst eA8; rw [Nat.zero_mul] at had8; simp only at d18 d28; clear h1 h2 hb)
      go_ret
      exact ⟨ret_b (by first | rfl | (simp [*]; done)), HV8.out.below⟩
namespace piecesOne
open Go.ChangeShapes Go.WideShapes Go.ChangeAt Go.Joins
set_option maxRecDepth 100000 in
theorem lifted (os : Os) (started : os.Started) (H : Type) (enc : TypeId × Value → H) :
    ReturnsInHanded {} Try.checked os 8 .any (Rows.piecesOneSpec.pre6 enc Try.prog Try.f8 Rows.piecesOneRow.domain false) (Rows.piecesOneSpec.post enc Try.prog Try.f8 false true false false) := by
  refine Lw.lifted (C := Try.checked) (B := 4) (by kernel_rfl) os started (by kernel_rfl) Try.func8
    (ChangeSpec.witness6 (enc := enc) (C := Try.checked) false ⟨#[], #[.int .i64 0, .int .u64 0, .int .i64 0], []⟩ 8 (by kernel_rfl) (by kernel_rfl) (by kernel_rfl) (by kernel_rfl)) rfl Try.underlying4 (by kernel_rfl) (by kernel_rfl) (by kernel_rfl) ?_ ?_
  · intro ds h
    rw [Try.params8] at h
    match ds, h with
    | [_, _, _], _ => rfl
  · intro W base args ds p hval hA
    rw [Try.params8] at hA hval
    obtain ⟨v0, vs0, d0, ds0, p0, q0, hargs, rfl, rfl, h0, r0⟩ := trodAll_cons hA
    obtain ⟨v1, vs1, d1, ds1, p1, q1, rfl, rfl, rfl, h1, r1⟩ := trodAll_cons r0
    obtain ⟨v2, vs2, d2, ds2, p2, q2, rfl, rfl, rfl, h2, r2⟩ := trodAll_cons r1
    obtain ⟨rfl, rfl, rfl⟩ := trodAll_nil r2
    obtain rfl : args = #[v0, v1, v2] := by cases args; simp_all
    obtain ⟨a0, rfl, rfl, rfl, w0⟩ := open_int Try.underlying3 (hval 0 3 v0 rfl rfl) h0
    have b0 := Lw.wf_i64 w0
    obtain ⟨a1, rfl, rfl, rfl, w1⟩ := open_int Try.underlying22 (hval 1 22 v1 rfl rfl) h1
    have b1 := Lw.wf_u64 w1
    obtain ⟨a2, rfl, rfl, rfl, w2⟩ := open_int Try.underlying3 (hval 2 3 v2 rfl rfl) h2
    have b2 := Lw.wf_i64 w2
    exact one_law a0 a1 a2 W b0 b1 b2
theorem over : Rows.piecesOneRow.holds Try.pinned (OpenSpec.ofChange Rows.piecesOneSpec) :=
  OpenClaim.holds_of_wide 8 Try.f8 rfl rfl rfl rfl rfl rfl rfl ⟨rfl, rfl, rfl, rfl, rfl⟩ rfl rfl rfl rfl rfl (by kernel_rfl) Try.func8 (by kernel_rfl)
    (of_decide_eq_true (by kernel_rfl)) (by unfold Func.isWrapper; first | (rw [if_pos (by decide +kernel)]; kernel_rfl) | (rw [if_neg (by decide +kernel)]; exact ⟨rfl, rfl⟩))
    (fun os started H enc _ => lifted os started H enc)
theorem proved : Rows.PiecesOneSaid :=
  over
#print axioms proved
end piecesOne
end Go.Proofs.Ytdhljlhecoclfaa.Pcs
