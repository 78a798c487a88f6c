/- The statement InnerSplit of layer 11 holds: a product of rows is the sum of the products of their parts; of twice as much it is twice as much; for any two rows of as many numbers (a hundred, less than 2 to the power of 50), cut anywhere. Printed by wip/gen/innsplit.py. -/
import Derived.Test.YthecgkgnngpikaaMb
import Derived.Test.YthecgkgnngpikaaMi
import Derived.Deep.LoopGhost
import Derived.Deep.RegionHeld3
import Derived.Deep.DeepCutAuto
import Derived.Deep.QuietTactic
import Derived.BigQuiet
import Derived.WalkSpells
namespace Go.Proofs.Ythecgkgnngpikaa.Inn
open Go Go.RowKit Lw Grd Lin Con Shp Sk
set_option linter.unusedVariables false
set_option linter.unusedSimpArgs false
def cutv (v : Int) : Int := Int.tmod v 1125899906842624
def cut2 (v : Int) : Int := 2 * Int.tmod v 1125899906842624
theorem cutv_bd (v : Int) : -1125899906842624 < cutv v ∧ cutv v < 1125899906842624 := by
  unfold cutv
  have h1 := Int.tmod_lt_of_pos v (show (0 : Int) < 1125899906842624 by omega)
  have h3 := Int.tmod_lt_of_pos (-v) (show (0 : Int) < 1125899906842624 by omega)
  rw [Int.neg_tmod] at h3
  omega
theorem cut2_bd (v : Int) : -2251799813685248 < cut2 v ∧ cut2 v < 2251799813685248 := by
  have h := cutv_bd v
  unfold cut2
  unfold cutv at h
  omega
theorem dsum_cut : ∀ (k : Nat) (xs ys : List Int), dsum (xs.take k) (ys.take k) + dsum (xs.drop k) (ys.drop k) = dsum xs ys
  | 0, xs, ys => by simp [dsum]
  | k + 1, [], ys => by simp [dsum_l]
  | k + 1, x :: xs, [] => by simp [dsum_r]
  | k + 1, x :: xs, y :: ys => by
    have h := dsum_cut k xs ys
    simp only [List.take_succ_cons, List.drop_succ_cons, dsum]
    omega
theorem dsum_twice (f : Int → Int) (g : Int → Int) (hg : ∀ v, g v = 2 * f v) : ∀ (xs ys : List Int), dsum xs (ys.map g) = dsum xs (ys.map f) + dsum xs (ys.map f)
  | [], ys => by rw [dsum_l, dsum_l]; rfl
  | x :: xs, [] => by simp [dsum_r]
  | x :: xs, y :: ys => by
    have h := dsum_twice f g hg xs ys
    simp only [List.map_cons, dsum, h, hg]
    have e : x * (2 * f y) = x * f y + x * f y := by rw [Int.mul_left_comm]; omega
    omega
theorem slice_lo (A : Option Addr) (n cap t : Nat) (ht : t ≤ n) (hn : n ≤ cap) (hA : A = none → cap = 0) (w : World) : (Instr.slice 22 (.slice A n cap) none (some (.int .i64 (t : Int))) none).run Try.prog w = .ok (.slice A t cap) w := by
  have m5 : Try.prog.cellsOf 2 = 1 := by kernel_rfl
  have m4 : (t : Int) ≤ (cap : Int) := by omega
  have m3 : t ≤ cap := by omega
  cases A with
  | none =>
    obtain rfl := hA rfl
    simp [Instr.slice, Instr.sliceBounds, Instr.sliceBound, asIntOf, m3, m4, m5, go_sem]
  | some a =>
    by_cases hc : cap = 0
    · subst hc
      simp [Instr.slice, Instr.sliceBounds, Instr.sliceBound, asIntOf, m3, m4, m5, go_sem]
    · simp [Instr.slice, Instr.sliceBounds, Instr.sliceBound, asIntOf, m3, m4, m5, hc, go_sem]
theorem slice_hi (A : Option Addr) (n cap t : Nat) (ht : t ≤ n) (hn : n ≤ cap) (hA : A = none → cap = 0) : ∃ A2 : Option Addr, (∀ w : World, (Instr.slice 22 (.slice A n cap) (some (.int .i64 (t : Int))) none none).run Try.prog w = .ok (.slice A2 (n - t) (cap - t)) w) ∧ (∀ (w : World) (zs : List Int), zs.length = n → Rd .i64 w A zs → Rd .i64 w A2 (zs.drop t)) := by
  have m5 : Try.prog.cellsOf 2 = 1 := by kernel_rfl
  have m4 : (t : Int) ≤ (n : Int) := by omega
  by_cases hc : cap = t
  · subst hc
    refine ⟨A, fun w => ?_, fun w zs hl h => ?_⟩
    · simp [Instr.slice, Instr.sliceBounds, Instr.sliceBound, asIntOf, m4, m5, ht, go_sem]
    · rw [List.drop_of_length_le (by omega)]
      exact rd_nil _ _ _
  · cases A with
    | none => exact absurd (hA rfl) (by omega)
    | some a =>
      refine ⟨some (a.add t), fun w => ?_, fun w zs hl h => h.drop t⟩
      simp [Instr.slice, Instr.sliceBounds, Instr.sliceBound, asIntOf, m4, m5, ht, hc, go_sem]
theorem in64_cut (l : List Int) : In64 (l.map cutv) := fun v hv => by
  obtain ⟨y, _, rfl⟩ := List.mem_map.1 hv
  have := cutv_bd y
  omega
theorem in64_cut2 (l : List Int) : In64 (l.map cut2) := fun v hv => by
  obtain ⟨y, _, rfl⟩ := List.mem_map.1 hv
  have := cut2_bd y
  omega
theorem mem_cut {l : List Int} {v : Int} (h : v ∈ l.map cutv) : -1125899906842624 ≤ v ∧ v ≤ 1125899906842624 := by
  obtain ⟨y, _, rfl⟩ := List.mem_map.1 h
  have := cutv_bd y
  omega
theorem mem_cut2 {l : List Int} {v : Int} (h : v ∈ l.map cut2) : -2251799813685248 ≤ v ∧ v ≤ 2251799813685248 := by
  obtain ⟨y, _, rfl⟩ := List.mem_map.1 h
  have := cut2_bd y
  omega
/-- A sum of products of small numbers: it fits. -/
theorem dot_small {a b : Int} (ha : 0 ≤ a) (hb : 0 ≤ b) {xs ys : List Int} (hl : xs.length = ys.length) (h100 : xs.length ≤ 100) (hx : ∀ x ∈ xs, -a ≤ x ∧ x ≤ a) (hy : ∀ y ∈ ys, -b ≤ y ∧ y ≤ b) (hab : a * b ≤ 2535301200456458802993406410752) :
    dok xs ys = true ∧ dhi xs ys = Wid.fh (dsum xs ys) ∧ dlo xs ys = Wid.fl (dsum xs ys) ∧ -253530120045645880299340641075200 ≤ dsum xs ys ∧ dsum xs ys ≤ 253530120045645880299340641075200 := by
  have h1 : (xs.length : Int) * (a * b) ≤ 100 * (a * b) := Int.mul_le_mul_of_nonneg_right (by omega) (Int.mul_nonneg ha hb)
  have h2 := dok_small ha hb hl hx hy (by omega)
  have h3 := dsum_bd ha hb hx hy
  exact ⟨h2.1, h2.2.1, h2.2.2, by omega, by omega⟩
set_option maxRecDepth 100000 in
set_option maxHeartbeats 8000000 in
theorem split_law (A : Option Addr) (n cap : Nat) (zs : List Int) (B : Option Addr) (n2 cap2 : Nat) (ys : List Int) (at' : Int) (w : World) (hn : n ≤ cap) (hcap : cap ≤ maxLen) (hr : Rd .i64 w A zs) (hl : zs.length = n) (hz : In64 zs) (hn2 : n2 ≤ cap2) (hcap2 : cap2 ≤ maxLen) (hr2 : Rd .i64 w B ys) (hl2 : ys.length = n2) (hzz2 : In64 ys) (a0 : -9223372036854775808 ≤ at') (a1 : at' ≤ 9223372036854775807) :
    Calls Try.prog 7 #[.slice A n cap, .slice B n2 cap2, .int .i64 at'] w fun e w' => e = .returned (.bool true) ∧ Below w.heap.size w w' := by
  unfold maxLen at hcap hcap2
  obtain ⟨i0, hi, hz0, hz1, hz2⟩ := info_parts i64_info
  obtain ⟨m, hm⟩ : ∃ m : Nat, m = min (min n n2) 100 := ⟨_, rfl⟩
  have hm1 : m ≤ 100 := by omega
  have hm2 : m ≤ n := by omega
  have hm3 : m ≤ n2 := by omega
  have hmin : (if (100 : Int) < (if (n2 : Int) < n then (n2 : Int) else n) then (100 : Int) else (if (n2 : Int) < n then (n2 : Int) else n)) = m := by
    by_cases h1 : (n2 : Int) < n
    · rw [if_pos h1]; split <;> omega
    · rw [if_neg h1]; split <;> omega
  have HMIN : Hid (∀ w : World, (Builtin.min_ #[3, 3, 3] 3 #[.int .i64 (n : Int), .int .i64 (n2 : Int), .int .i64 100]).run Try.prog w = .ok (.int .i64 (m : Int)) w) := Lib.hid (fun w => by
    rw [← hmin]
    simp [Builtin.min_, Builtin.min2])
  clear hmin hm
  have WM : Hid (wrap64 ((m : Int) + 1) = (m : Int) + 1 ∧ IntKind.i64.wrap ((m : Int) + 1) = (m : Int) + 1) := Lib.hid ⟨IntWalk.wrap64_in _ ⟨by omega, by omega⟩, IntWalk.i64_in _ ⟨by omega, by omega⟩⟩
  have nm0 : ¬ (m : Int) + 1 = 0 := by omega
  obtain ⟨AX, AY, p1, p2, p3, p4, p5, p6⟩ := level_of at' ((m : Int) + 1) (by omega) (by omega)
  obtain ⟨t, ht⟩ : ∃ t : Nat, AY = t := ⟨AY.toNat, by omega⟩
  subst ht
  have htm : t ≤ m := by omega
  have HR := Lib.hid hr
  have HR2 := Lib.hid hr2
  have HL := Lib.hid hl
  have HL2 := Lib.hid hl2
  have HZ := Lib.hid hz
  have HZ2 := Lib.hid hzz2
  have HP := Lib.hid (And.intro p1 (And.intro p4 (And.intro WM.out.1 (And.intro WM.out.2 nm0))))
  clear hr hr2 hl hl2 hz hzz2 p1 p2 p3 p4 p5 p6 a0 a1 nm0
  have hmin := HMIN.out
  go_enter Try.func7, Try.ntmps7
  go_wp2_with (first
    | (go_at_call 10; (with_reducible refine (shown_any _).mono ?_); rintro e wS ⟨rfl, hbS⟩))
  clear hmin HMIN
  go_loopw [9, 10, 11, 12] (fun a b c i wr => ∃ k : Nat, k ≤ m ∧ i = .int .i64 k ∧ wr.ownsRow wS.heap.size 2 1 a k (((zs.take k).map cutv).map (Value.int .i64)) ∧ wr.ownsRow wS.heap.size 2 1 b k (((ys.take k).map cutv).map (Value.int .i64)) ∧ wr.ownsRow wS.heap.size 2 1 c k (((ys.take k).map cut2).map (Value.int .i64)) ∧ Apart a b ∧ Apart a c ∧ Apart b c ∧ Below wS.heap.size wS wr) (fun _ _ _ i _ => m - (intOf i).toNat)
  case atStart => exact ⟨0, Nat.zero_le _, rfl, by simpa using World.ownsRow_nil _ _ _ _, by simpa using World.ownsRow_nil _ _ _ _, by simpa using World.ownsRow_nil _ _ _ _, apart_nil _, apart_nil _, apart_nil _, Below.refl _ _⟩
  case round =>
    obtain ⟨k, hk, rfl, hoa, hob, hoc, hab, hac, hbc, hbel⟩ := hrel
    by_cases hlt : k < m
    · have hkl : k < zs.length := by have := HL.out; omega
      have hkl2 : k < ys.length := by have := HL2.out; omega
      obtain ⟨x, hvx⟩ : ∃ v, zs[k]? = some v := ⟨_, List.getElem?_eq_getElem hkl⟩
      obtain ⟨y, hvy⟩ : ∃ v, ys[k]? = some v := ⟨_, List.getElem?_eq_getElem hkl2⟩
      obtain ⟨ad, rfl, hcx⟩ := HR.out k x hvx
      obtain ⟨bd, rfl, hcy⟩ := HR2.out k y hvy
      have cx : wr.cell? (ad.add k) = some (.int .i64 x) := cell_up hcx (hbS.trans (hbel.mono hbS.size))
      have N1 := Lib.hid (Ord.map_next cutv zs k x hvx)
      have N2 := Lib.hid (Ord.map_next cutv ys k y hvy)
      have N3 := Lib.hid (Ord.map_next cut2 ys k y hvy)
      have q1 := cutv_bd x
      have q2 := cutv_bd y
      have q3 := cut2_bd y
      have ex : Int.tmod x 1125899906842624 = cutv x := rfl
      have ey : Int.tmod y 1125899906842624 = cutv y := rfl
      have ez : wrap64 (2 * cutv y) = cut2 y := IntWalk.wrap64_in _ ⟨by unfold cutv; unfold cut2 at q3; omega, by unfold cutv; unfold cut2 at q3; omega⟩
      have ux : wrap64 (cutv x) = cutv x := IntWalk.wrap64_in _ ⟨by omega, by omega⟩
      have uy : wrap64 (cutv y) = cutv y := IntWalk.wrap64_in _ ⟨by omega, by omega⟩
      have hkn : (k : Int) < n := by omega
      have hkn2 : (k : Int) < n2 := by omega
      clear hvx hvy q1 q2 q3
      go_wp2_with (first
        | (at_builtin; (refine app_one .i64 rfl _ _ 22 rfl wS.heap.size 2 i0 8 i64s_u hi hz0 hz1 hz2 _ k ((zs.take k).map cutv) rfl (hoa.alloc _) (cutv x) wr.heap.size rfl (cell_one_new _ _ _) (by unfold maxLen; omega) (by omega) (by have := hbel.size; simp; omega) ?_); intro v1 w1 own1 grow1 oth1; obtain ⟨ownB1, apB1⟩ := oth1 _ _ _ (hob.alloc _) hab.symm; obtain ⟨ownC1, apC1⟩ := oth1 _ _ _ (hoc.alloc _) hac.symm; have hl1 : Below wS.heap.size wS w1 := (hbel.alloc hbel.size _).grown grow1 (by have := hbel.size; simp; omega) (fun q hq => own_ge hoa q hq); have cy1 : w1.cell? (bd.add k) = some (.int .i64 y) := cell_up (w := w) hcy (hbS.trans (hl1.mono hbS.size)))
        | (at_builtin; (refine app_one .i64 rfl _ _ 22 rfl wS.heap.size 2 i0 8 i64s_u hi hz0 hz1 hz2 _ k ((ys.take k).map cutv) rfl (ownB1.alloc _) (cutv y) w1.heap.size rfl (cell_one_new _ _ _) (by unfold maxLen; omega) (by omega) (by have := hl1.size; simp; omega) ?_); intro v2 w2 own2 grow2 oth2; obtain ⟨ownA2, apA2⟩ := oth2 _ _ _ (own1.alloc _) apB1.symm; obtain ⟨ownC2, apC2⟩ := oth2 _ _ _ (ownC1.alloc _) hbc.symm; have hl2 : Below wS.heap.size wS w2 := (hl1.alloc hl1.size _).grown grow2 (by have := hl1.size; simp; omega) (fun q hq => own_ge ownB1 q hq); have cy2 : w2.cell? (bd.add k) = some (.int .i64 y) := cell_up (w := w) hcy (hbS.trans (hl2.mono hbS.size)))
        | (at_builtin; (refine app_one .i64 rfl _ _ 22 rfl wS.heap.size 2 i0 8 i64s_u hi hz0 hz1 hz2 _ k ((ys.take k).map cut2) rfl (ownC2.alloc _) (cut2 y) w2.heap.size rfl (cell_one_new _ _ _) (by unfold maxLen; omega) (by omega) (by have := hl2.size; simp; omega) ?_); intro v3 w3 own3 grow3 oth3; obtain ⟨ownA3, apA3⟩ := oth3 _ _ _ (ownA2.alloc _) apC1.symm; obtain ⟨ownB3, apB3⟩ := oth3 _ _ _ (own2.alloc _) apC2.symm; have hl3 : Below wS.heap.size wS w3 := (hl2.alloc hl2.size _).grown grow3 (by have := hl2.size; simp; omega) (fun q hq => own_ge ownC2 q hq); skip))
      go_roundw
      case rel => exact ⟨k + 1, by omega, by go_num, by rw [N1.out]; exact ownA3, by rw [N2.out]; exact ownB3, by rw [N3.out]; exact own3, apA2, apA3, apB3, hl3⟩
      case measure => simp [intOf]; omega
    · have e : k = m := by omega
      subst e
      clear hlt
      obtain ⟨Aa, ca, rfl, ra, na, xa, za⟩ := own_rd hoa
      obtain ⟨Ab, cb, rfl, rb, nb, xb, zb⟩ := own_rd hob
      obtain ⟨Ac, cc, rfl, rc, nc, xc, zc⟩ := own_rd hoc
      obtain ⟨XS, hXS⟩ : ∃ L : List Int, (zs.take k).map cutv = L := ⟨_, rfl⟩
      obtain ⟨YS, hYS⟩ : ∃ L : List Int, (ys.take k).map cutv = L := ⟨_, rfl⟩
      obtain ⟨ZS, hZS⟩ : ∃ L : List Int, (ys.take k).map cut2 = L := ⟨_, rfl⟩
      have lx : XS.length = k := by rw [← hXS]; have := HL.out; simp; omega
      have ly : YS.length = k := by rw [← hYS]; have := HL2.out; simp; omega
      have lz : ZS.length = k := by rw [← hZS]; have := HL2.out; simp; omega
      have ix : In64 XS := by rw [← hXS]; exact in64_cut _
      have iy : In64 YS := by rw [← hYS]; exact in64_cut _
      have iz : In64 ZS := by rw [← hZS]; exact in64_cut2 _
      have bx : ∀ v ∈ XS, -1125899906842624 ≤ v ∧ v ≤ 1125899906842624 := by rw [← hXS]; exact fun v hv => mem_cut hv
      have b_y : ∀ v ∈ YS, -1125899906842624 ≤ v ∧ v ≤ 1125899906842624 := by rw [← hYS]; exact fun v hv => mem_cut hv
      have bz : ∀ v ∈ ZS, -2251799813685248 ≤ v ∧ v ≤ 2251799813685248 := by rw [← hZS]; exact fun v hv => mem_cut2 hv
      have tw : dsum XS ZS = dsum XS YS + dsum XS YS := by rw [← hZS, ← hYS]; exact dsum_twice cutv cut2 (fun _ => rfl) _ _
      rw [hXS] at ra
      rw [hYS] at rb
      rw [hZS] at rc
      have s0 := dot_small (a := 1125899906842624) (b := 1125899906842624) (by omega) (by omega) (xs := XS) (ys := YS) (by omega) (by omega) bx b_y (by omega)
      have s1 := dot_small (a := 1125899906842624) (b := 1125899906842624) (by omega) (by omega) (xs := XS.take t) (ys := YS.take t) (by simp; omega) (by simp; omega) (fun v hv => bx v (List.mem_of_mem_take hv)) (fun v hv => b_y v (List.mem_of_mem_take hv)) (by omega)
      have s2 := dot_small (a := 1125899906842624) (b := 1125899906842624) (by omega) (by omega) (xs := XS.drop t) (ys := YS.drop t) (by simp; omega) (by simp; omega) (fun v hv => bx v (List.mem_of_mem_drop hv)) (fun v hv => b_y v (List.mem_of_mem_drop hv)) (by omega)
      have s3 := dot_small (a := 1125899906842624) (b := 2251799813685248) (by omega) (by omega) (xs := XS) (ys := ZS) (by omega) (by omega) bx bz (by omega)
      have hcut := dsum_cut t XS YS
      have D0 := Lib.hid (fun a b w h1 h2 => idot_any Aa Ab k k a b XS YS w h1 h2 lx ly (by omega) ix iy)
      have D1 := Lib.hid (fun a b w h1 h2 => idot_any Aa Ab t t a b (XS.take t) (YS.take t) w h1 h2 (by simp; omega) (by simp; omega) (by omega) (in64_take ix t) (in64_take iy t))
      have D2 := Lib.hid (fun (A2 B2 : Option Addr) a b w h1 h2 => idot_any A2 B2 (k - t) (k - t) a b (XS.drop t) (YS.drop t) w h1 h2 (by simp; omega) (by simp; omega) (by omega) (in64_drop ix t) (in64_drop iy t))
      have D3 := Lib.hid (fun a b w h1 h2 => idot_any Aa Ac k k a b XS ZS w h1 h2 lx lz (by omega) ix iz)
      rw [s0.1, s0.2.1, s0.2.2.1] at D0
      rw [s1.1, s1.2.1, s1.2.2.1] at D1
      rw [s2.1, s2.2.1, s2.2.2.1] at D2
      rw [s3.1, s3.2.1, s3.2.2.1, tw] at D3
      have g0 := s0.2.2.2
      have g1 := s1.2.2.2
      have g2 := s2.2.2.2
      obtain ⟨P, hP⟩ : ∃ P, dsum XS YS = P := ⟨_, rfl⟩
      obtain ⟨P1, hP1⟩ : ∃ P, dsum (XS.take t) (YS.take t) = P := ⟨_, rfl⟩
      obtain ⟨P2, hP2⟩ : ∃ P, dsum (XS.drop t) (YS.drop t) = P := ⟨_, rfl⟩
      rw [hP] at D0 D3 hcut g0
      rw [hP1] at D1 hcut g1
      rw [hP2] at D2 hcut g2
      have vP := Wid.vl_fit P (by omega) (by omega)
      have vP1 := Wid.vl_fit P1 (by omega) (by omega)
      have vP2 := Wid.vl_fit P2 (by omega) (by omega)
      have fP := (Wid.fit_yes (z := P) (by omega) (by omega)).1
      have fPP := (Wid.fit_yes (z := P + P) (by omega) (by omega)).1
      have hneg : decide (32768 ≤ Wid.dg P 9) = decide (Wid.fh P < 0) := by
        rw [Wid.below_dg P (by omega) (by omega), (Wid.fit_yes (z := P) (by omega) (by omega)).2.1, Bool.eq_iff_iff]
        simp only [decide_eq_true_eq]
        omega
      have CA := Lib.hid (fun w => Wid.add_any (Wid.fh P1) (Wid.fl P1) (Wid.fh P2) (Wid.fl P2) w (Wid.fh_bd _).1 (Wid.fh_bd _).2 (Wid.fl_bd _).1 (Wid.fl_bd _).2 (Wid.fh_bd _).1 (Wid.fh_bd _).2 (Wid.fl_bd _).1 (Wid.fl_bd _).2)
      have CB := Lib.hid (fun w => Wid.add_any (Wid.fh P) (Wid.fl P) (Wid.fh P) (Wid.fl P) w (Wid.fh_bd _).1 (Wid.fh_bd _).2 (Wid.fl_bd _).1 (Wid.fl_bd _).2 (Wid.fh_bd _).1 (Wid.fh_bd _).2 (Wid.fl_bd _).1 (Wid.fl_bd _).2)
      have CO := Lib.hid (fun w => Wid.rof_any (Wid.fh P) (Wid.fl P) w (Wid.fh_bd _).1 (Wid.fh_bd _).2 (Wid.fl_bd _).1 (Wid.fl_bd _).2)
      rw [vP1, vP2, hcut, fP] at CA
      rw [vP, fPP] at CB
      rw [vP] at CO
      obtain ⟨H, hH⟩ : ∃ v, Wid.fh P = v := ⟨_, rfl⟩
      obtain ⟨L, hL⟩ : ∃ v, Wid.fl P = v := ⟨_, rfl⟩
      obtain ⟨H1, hH1⟩ : ∃ v, Wid.fh P1 = v := ⟨_, rfl⟩
      obtain ⟨L1, hL1⟩ : ∃ v, Wid.fl P1 = v := ⟨_, rfl⟩
      obtain ⟨H2, hH2⟩ : ∃ v, Wid.fh P2 = v := ⟨_, rfl⟩
      obtain ⟨L2, hL2⟩ : ∃ v, Wid.fl P2 = v := ⟨_, rfl⟩
      obtain ⟨HH, hHH⟩ : ∃ v, Wid.fh (P + P) = v := ⟨_, rfl⟩
      obtain ⟨LL, hLL⟩ : ∃ v, Wid.fl (P + P) = v := ⟨_, rfl⟩
      rw [hH, hL] at D0 CA CB CO
      rw [hH1, hL1] at D1 CA
      rw [hH2, hL2] at D2 CA
      rw [hHH, hLL] at D3 CB
      rw [hH] at hneg
      obtain ⟨S9, hS9⟩ : ∃ b, decide (H < 0) = b := ⟨_, rfl⟩
      have CN := Lib.hid (fun w => Wid.rbelow_any (Wid.dg P 0) (Wid.dg P 1) (Wid.dg P 2) (Wid.dg P 3) (Wid.dg P 4) (Wid.dg P 5) (Wid.dg P 6) (Wid.dg P 7) (Wid.dg P 8) (Wid.dg P 9) w)
      rw [hneg, hS9] at CN
      have slA := slice_lo Aa k ca t htm na (fun h => (za h).2)
      have slB := slice_lo Ab k cb t htm nb (fun h => (zb h).2)
      obtain ⟨A4, shA, raa⟩ := slice_hi Aa k ca t htm na (fun h => (za h).2)
      obtain ⟨B4, shB, rbb⟩ := slice_hi Ab k cb t htm nb (fun h => (zb h).2)
      have RA2 := Lib.hid (raa _ _ lx ra)
      have RB2 := Lib.hid (rbb _ _ ly rb)
      have HB := Lib.hid (below_call hbS hbel (Nat.le_refl _))
      have RA := Lib.hid ra
      have RB := Lib.hid rb
      have RC := Lib.hid rc
      have HS9 := Lib.hid hS9
      obtain ⟨p1, p4, wm1, wm2, nm0⟩ := HP.out
      clear hXS hYS hZS lx ly lz ix iy iz bx b_y bz tw ra rb rc raa rbb hoa hob hoc hab hac hbc s0 s1 s2 s3 g0 g1 g2 vP vP1 vP2 fP fPP hneg hS9 hcut hP hP1 hP2 hH hL hH1 hL1 hH2 hL2 hHH hLL za zb zc xa xb xc na nb nc HL HL2 HZ HZ2 HR HR2
      have HV0 : Hid (Have wr wr []) := Lib.hid (Have.nil wr)
      go_upto_region 14 with (first
        | (go_at_call 11; (with_reducible refine (D0.out _ _ _ RA.out RB.out).mono ?_); rintro e w1 ⟨rfl, hb⟩; have HV1 := Lib.hid ((HV0.out.up hb).push (boxT w1.heap.size 26 #[.int .i64 H, .int .u64 L]) (Lw.below_alloc (Below.refl _ _) _) (heap_alloc_new w1 _) (fun k hk => Nat.le_of_eq hk.symm)); clear hb))
      clear p1 p4 wm1 wm2 nm0
      go_cut [15, 16] (fun s15 s16 wx => ∃ gp : Nat, s15 = .pointer (some ⟨gp, 0, none⟩) ∧ s16 = .bool true ∧ Have wr wx [boxT gp 26 #[.int .i64 H1, .int .u64 L1], boxT w1.heap.size 26 #[.int .i64 H, .int .u64 L]])
      case first =>
        go_region_with (first
          | (go_at_call 11; (with_reducible refine (D1.out _ _ _ (((RA.out.take t).up HV1.out.below).up (by repeat' (first | (with_reducible exact Below.refl _ _) | (with_reducible assumption) | (with_reducible refine below_over ?_ _ _) | (with_reducible refine Lw.below_alloc ?_ _) | (with_reducible refine Below.drew ?_) | (with_reducible refine below_drewN ?_ _) | (with_reducible refine Below.setCell ?_ ?_ _) | go_size))) (((RB.out.take t).up HV1.out.below).up (by repeat' (first | (with_reducible exact Below.refl _ _) | (with_reducible assumption) | (with_reducible refine below_over ?_ _ _) | (with_reducible refine Lw.below_alloc ?_ _) | (with_reducible refine Below.drew ?_) | (with_reducible refine below_drewN ?_ _) | (with_reducible refine Below.setCell ?_ ?_ _) | go_size)))).mono ?_); rintro e w' ⟨rfl, hb⟩; obtain ⟨bs2, d2, rfl⟩ := below_grow hb; clear hb))
        all_goals go_wp2_with fail
        all_goals go_meet
        all_goals refine ⟨_, rfl, rfl, HV1.out.push (boxT _ _ _) (by repeat' (first | (with_reducible exact Below.refl _ _) | (with_reducible assumption) | (with_reducible refine below_over ?_ _ _) | (with_reducible refine Lw.below_alloc ?_ _) | (with_reducible refine Below.drew ?_) | (with_reducible refine below_drewN ?_ _) | (with_reducible refine Below.setCell ?_ ?_ _) | go_size)) ?_ (fun k hk => by subst hk; simp; done)⟩
        all_goals first | exact alloc_at (by simp) | exact grow_heap (alloc_at (by simp)) _ _
      case rest =>
        obtain ⟨g1, rfl, rfl, hv1⟩ := hcut
        obtain ⟨wo, rfl⟩ : ∃ wo, wo = wc := ⟨_, rfl⟩
        have HV2 := Lib.hid hv1
        have HU2 := Lib.hid hv1.below
        clear hv1
        go_upto_region 15 with fail
        go_cut [17, 18] (fun s17 s18 wx => ∃ gp : Nat, s17 = .pointer (some ⟨gp, 0, none⟩) ∧ s18 = .bool true ∧ Have wr wx [boxT gp 26 #[.int .i64 H2, .int .u64 L2], boxT g1 26 #[.int .i64 H1, .int .u64 L1], boxT w1.heap.size 26 #[.int .i64 H, .int .u64 L]])
        case first =>
          go_region_with (first
            | (go_at_call 11; (with_reducible refine (D2.out _ _ _ _ _ ((RA2.out.up HU2.out).up (by repeat' (first | (with_reducible exact Below.refl _ _) | (with_reducible assumption) | (with_reducible refine below_over ?_ _ _) | (with_reducible refine Lw.below_alloc ?_ _) | (with_reducible refine Below.drew ?_) | (with_reducible refine below_drewN ?_ _) | (with_reducible refine Below.setCell ?_ ?_ _) | go_size))) ((RB2.out.up HU2.out).up (by repeat' (first | (with_reducible exact Below.refl _ _) | (with_reducible assumption) | (with_reducible refine below_over ?_ _ _) | (with_reducible refine Lw.below_alloc ?_ _) | (with_reducible refine Below.drew ?_) | (with_reducible refine below_drewN ?_ _) | (with_reducible refine Below.setCell ?_ ?_ _) | go_size)))).mono ?_); rintro e w' ⟨rfl, hb⟩; obtain ⟨bs2, d2, rfl⟩ := below_grow hb; clear hb))
          all_goals go_wp2_with fail
          all_goals go_meet
          all_goals refine ⟨_, rfl, rfl, HV2.out.push (boxT _ _ _) (by repeat' (first | (with_reducible exact Below.refl _ _) | (with_reducible assumption) | (with_reducible refine below_over ?_ _ _) | (with_reducible refine Lw.below_alloc ?_ _) | (with_reducible refine Below.drew ?_) | (with_reducible refine below_drewN ?_ _) | (with_reducible refine Below.setCell ?_ ?_ _) | go_size)) ?_ (fun k hk => by subst hk; simp; done)⟩
          all_goals first | exact alloc_at (by simp) | exact grow_heap (alloc_at (by simp)) _ _
        case rest =>
          obtain ⟨g2, rfl, rfl, hv1⟩ := hcut
          have HV3 := Lib.hid hv1
          obtain ⟨y0, y1⟩ := box2 hv1.i0
          obtain ⟨x0, x1⟩ := box2 hv1.i1
          clear hv1
          go_upto_region 19 with (first
            | (go_at_call 25; (with_reducible refine (CA.out _).mono ?_); rintro e w4 ⟨rfl, hb⟩; have HV4 := Lib.hid ((HV3.out.up hb).push (boxT w4.heap.size 26 #[.int .i64 H, .int .u64 L]) (Lw.below_alloc (Below.refl _ _) _) (heap_alloc_new w4 _) (fun k hk => Nat.le_of_eq hk.symm)); clear hb x0 x1 y0 y1)
            | (go_at_call 11; (with_reducible refine (D3.out _ _ _ (RA.out.up HV4.out.below) (RC.out.up HV4.out.below)).mono ?_); rintro e w5 ⟨rfl, hb⟩; have HV5 := Lib.hid ((HV4.out.up hb).push (boxT w5.heap.size 26 #[.int .i64 HH, .int .u64 LL]) (Lw.below_alloc (Below.refl _ _) _) (heap_alloc_new w5 _) (fun k hk => Nat.le_of_eq hk.symm)); clear hb; obtain ⟨x0, x1⟩ := box2 HV5.out.i4)
            | (go_at_call 25; (with_reducible refine (CB.out _).mono ?_); rintro e w6 ⟨rfl, hb⟩; have HV6 := Lib.hid ((HV5.out.up hb).push (boxT w6.heap.size 26 #[.int .i64 HH, .int .u64 LL]) (Lw.below_alloc (Below.refl _ _) _) (heap_alloc_new w6 _) (fun k hk => Nat.le_of_eq hk.symm)); clear hb x0 x1))
          obtain ⟨x0, x1⟩ := box2 HV6.out.i5
          obtain ⟨y0, y1⟩ := box2 HV6.out.i2
          obtain ⟨z0, z1⟩ := box2 HV6.out.i1
          obtain ⟨v0, v1⟩ := box2 HV6.out.i0
          have hS9 := HS9.out
          go_region_held3 (fun w' => w'.cell? ⟨w1.heap.size, 0, none⟩ = some (.int .i64 H) ∧ w'.cell? ⟨w1.heap.size, 1, none⟩ = some (.int .u64 L) ∧ w'.cell? ⟨w4.heap.size, 0, none⟩ = some (.int .i64 H) ∧ w'.cell? ⟨w4.heap.size, 1, none⟩ = some (.int .u64 L) ∧ w'.cell? ⟨w5.heap.size, 0, none⟩ = some (.int .i64 HH) ∧ w'.cell? ⟨w5.heap.size, 1, none⟩ = some (.int .u64 LL) ∧ w'.cell? ⟨w6.heap.size, 0, none⟩ = some (.int .i64 HH) ∧ w'.cell? ⟨w6.heap.size, 1, none⟩ = some (.int .u64 LL)) (first | (refine ⟨?_, ?_, ?_, ?_, ?_, ?_, ?_, ?_⟩ <;> (first | (with_reducible assumption) | (with_reducible refine cell_up x0 ?_) | (with_reducible refine cell_up x1 ?_) | (with_reducible refine cell_up y0 ?_) | (with_reducible refine cell_up y1 ?_) | (with_reducible refine cell_up z0 ?_) | (with_reducible refine cell_up z1 ?_) | (with_reducible refine cell_up v0 ?_) | (with_reducible refine cell_up v1 ?_)) <;> (repeat' (first | (with_reducible exact Below.refl _ _) | (with_reducible assumption) | (with_reducible refine below_over ?_ _ _) | (with_reducible refine Lw.below_alloc ?_ _) | (with_reducible refine Below.drew ?_) | (with_reducible refine below_drewN ?_ _) | (with_reducible refine Below.setCell ?_ ?_ _) | go_size)))) (first
            | (go_at_call 27; (with_reducible refine (CO.out _).mono ?_); rintro e w' ⟨rfl, hb⟩; obtain ⟨bs7, d7, rfl⟩ := below_grow hb; clear hb)
            | (go_at_call 26; (with_reducible refine (CN.out _).mono ?_); rintro e w' ⟨rfl, hb⟩; obtain ⟨bs8, d8, rfl⟩ := below_grow hb; clear hb))
          all_goals go_wp2
          all_goals go_ret
          all_goals exact ⟨ret_bs (by first | rfl | (simp [*]; done)), below_call HB.out (HV6.out.up (by repeat' (first | (with_reducible exact Below.refl _ _) | (with_reducible assumption) | (with_reducible refine below_over ?_ _ _) | (with_reducible refine Lw.below_alloc ?_ _) | (with_reducible refine Below.drew ?_) | (with_reducible refine below_drewN ?_ _) | (with_reducible refine Below.setCell ?_ ?_ _) | go_size))).below (Nat.le_refl _)⟩
namespace innerSplit
open Go.ChangeShapes Go.WideShapes Go.ChangeAt Go.Joins
set_option maxRecDepth 100000 in
theorem lifted (os : Os) (started : os.Started) (H : Type) (enc : TypeId × Value → H) :
    ReturnsInHanded {} Try.checked os 7 .any (Rows.innerSplitSpec.pre6 enc Try.prog Try.f7 Rows.innerSplitRow.domain false) (Rows.innerSplitSpec.post enc Try.prog Try.f7 false true false false) := by
  refine Lw.lifted (C := Try.checked) (B := 4) (by kernel_rfl) os started (by kernel_rfl) Try.func7
    (ChangeSpec.witness6 (enc := enc) (C := Try.checked) false ⟨#[], #[.slice none 0 0, .slice none 0 0, .int .i64 0], []⟩ 8 (by kernel_rfl) (by kernel_rfl) (by kernel_rfl) (by kernel_rfl)) rfl Try.underlying4 (by kernel_rfl) (by kernel_rfl) (by kernel_rfl) ?_ ?_
  · intro ds h
    rw [Try.params7] at h
    match ds, h with
    | [_, _, _], _ => rfl
  · intro W base args ds p hval hA
    rw [Try.params7] at hA hval
    obtain ⟨v0, vs0, d0, ds0, p0, q0, hargs, rfl, rfl, h0, r0⟩ := trodAll_cons hA
    obtain ⟨v1, vs1, d1, ds1, p1, q1, rfl, rfl, rfl, h1, r1⟩ := trodAll_cons r0
    obtain ⟨v2, vs2, d2, ds2, p2, q2, rfl, rfl, rfl, h2, r2⟩ := trodAll_cons r1
    obtain ⟨rfl, rfl, rfl⟩ := trodAll_nil r2
    obtain rfl : args = #[v0, v1, v2] := by cases args; simp_all
    obtain ⟨A0, n0, c0, zs0, rfl, hA0, hn0, hc0, hr0, hl0, hz0⟩ := open_list_int64 (hval 0 22 v0 rfl rfl) h0
    obtain ⟨A1, n1, c1, zs1, rfl, hA1, hn1, hc1, hr1, hl1, hz1⟩ := open_list_int64 (hval 1 22 v1 rfl rfl) h1
    obtain ⟨a2, rfl, rfl, rfl, w2⟩ := open_int Try.underlying3 (hval 2 3 v2 rfl rfl) h2
    have b2 := Lw.wf_i64 w2
    exact split_law A0 n0 c0 zs0 A1 n1 c1 zs1 a2 W hn0 hc0 hr0 hl0 hz0 hn1 hc1 hr1 hl1 hz1 b2.1 b2.2
theorem over : Rows.innerSplitRow.holds Try.pinned (OpenSpec.ofChange Rows.innerSplitSpec) :=
  OpenClaim.holds_of_wide 7 Try.f7 rfl rfl rfl rfl rfl rfl rfl ⟨rfl, rfl, rfl, rfl, rfl⟩ rfl rfl rfl rfl rfl (by kernel_rfl) Try.func7 (by kernel_rfl)
    (of_decide_eq_true (by kernel_rfl)) (by unfold Func.isWrapper; first | (rw [if_pos (by decide +kernel)]; kernel_rfl) | (rw [if_neg (by decide +kernel)]; exact ⟨rfl, rfl⟩))
    (fun os started H enc _ => lifted os started H enc)
theorem proved : Rows.InnerSplitSaid :=
  over
#print axioms proved
end innerSplit
end Go.Proofs.Ythecgkgnngpikaa.Inn
