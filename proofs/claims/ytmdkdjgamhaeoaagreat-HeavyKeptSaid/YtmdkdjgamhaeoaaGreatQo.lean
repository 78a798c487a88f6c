/- Texts that statements lean on, put together: HvyGatS, HvyGatA, HvyKeepM, HvyKeepW, HvyCode, StkFed, HvyFed, HvyFed6. -/
import Derived.Test.YtmdkdjgamhaeoaaGreatQk
import Derived.Test.YtmdkdjgamhaeoaaGreatQl
import Derived.Test.YtmdkdjgamhaeoaaGreatQm
import Derived.Test.YtmdkdjgamhaeoaaGreatQn
import Derived.Deep.LoopGhost
import Derived.Deep.RegionHeld3
import Derived.Deep.DeepCutAuto
import Derived.Deep.QuietTactic
import Derived.BigQuiet
import Derived.Deep.OwnRows
/- The code's closure of layer 18, of what has halves. Printed by wip/gen/hvy9.py. -/
namespace Go.Proofs.YtmdkdjgamhaeoaaGreat.Hvy
open Go Go.RowKit Go.Maps Lw Grd Lin Con Shp Sk Exa Lev Stk Pcs Spn Qnt
set_option linter.unusedVariables false
set_option linter.unusedSimpArgs false
set_option linter.unusedSimpArgs false
theorem box_ne {F0 : Nat → Prop} {w0 w : World} {fs ms ts : List Thing} {b b' : Nat} {e e' : TypeId} {vs vs' : Array Value} (h : Hold F0 w0 w (fs ++ boxT b e vs :: (ms ++ boxT b' e' vs' :: ts))) : b ≠ b' := by
  have h1 := (Asun.append.1 h.2.2).2.1
  intro e9
  subst e9
  exact h1.1 (boxT b e' vs') (by simp) b rfl rfl
theorem gk_turn {F0 : Nat → Prop} {w0 w w' : World} {fs ts : List Thing} {B0 kb ab N : Nat} {hv hv' : Array Value} {ls ls' : Nat → List Kp} {b b' : Bool} (h : Hold F0 w0 w (fs ++ gkT B0 kb ab N hv ls b :: ts)) (hg : GK B0 kb ab N hv' ls' b' w') (hk : Kept (gkF kb ab hv) w w') (hF : ∀ k, gkF kb ab hv' k → gkF kb ab hv k ∨ w.heap.size ≤ k) : Hold F0 w0 w' (fs ++ gkT B0 kb ab N hv' ls' b' :: ts) := h.turn (gkT B0 kb ab N hv' ls' b') hg hk hF
theorem hb_up {w w' : World} {B0 : Nat} (h : B0 ≤ w.heap.size) (hb : Below w.heap.size w w') : B0 ≤ w'.heap.size := Nat.le_trans h hb.size
theorem pow_half {BB LM i : Nat} (h : LM + 1 ≤ BB) (hi : i < 2 ^ (BB - (LM + 1))) : 2 * i < 2 ^ (BB - LM) ∧ 2 * i + 1 < 2 ^ (BB - LM) := by
  have e : BB - LM = BB - (LM + 1) + 1 := by omega
  rw [e, Nat.pow_succ]
  omega
theorem sum_bds {T : Nat → Nat → Option Int} {least : Int} {LM i : Nat} (hT : ∀ (L i : Nat) (n : Int), T L i = some n → -9223372036854775808 ≤ n ∧ n ≤ 9223372036854775807) (h : LM + 1 ≤ 59) :
    (-21267647932558653966460912964485513216 ≤ gW T least LM i ∧ gW T least LM i ≤ 21267647932558653966460912964485513216) ∧ (-21267647932558653966460912964485513216 ≤ gS T least (LM + 1) i ∧ gS T least (LM + 1) i ≤ 21267647932558653966460912964485513216) := by
  have h1 := gW_bd (least := least) hT LM i
  have h2 := gS_bd (least := least) hT (LM + 1) i
  have h3 : (2 : Nat) ^ LM ≤ 2 ^ 59 := Nat.pow_le_pow_right (by omega) (by omega)
  have h4 : (2 : Nat) ^ (LM + 1) ≤ 2 ^ 59 := Nat.pow_le_pow_right (by omega) h
  have e59 : (2 : Nat) ^ 59 = 576460752303423488 := rfl
  have p1 : ((2 ^ LM : Nat) : Int) = (2 : Int) ^ LM := Int.natCast_pow 2 LM
  have p2 : ((2 ^ (LM + 1) : Nat) : Int) = (2 : Int) ^ (LM + 1) := Int.natCast_pow 2 (LM + 1)
  have h5 : ((2 ^ LM : Nat) : Int) ≤ 576460752303423488 := by rw [e59] at h3; exact Int.ofNat_le.2 h3
  have h6 : ((2 ^ (LM + 1) : Nat) : Int) ≤ 576460752303423488 := by rw [e59] at h4; exact Int.ofNat_le.2 h4
  rw [p1] at h5
  rw [p2] at h6
  clear p1 p2 h3 h4 e59 hT h
  generalize (2 : Int) ^ LM = P at *
  generalize (2 : Int) ^ (LM + 1) = Q at *
  omega
set_option maxRecDepth 100000 in
set_option maxHeartbeats 8000000 in
theorem gat_S (tb mb bb gb lb sb kb ab N BB B0 : Nat) (D : DataW Unit) (least : Int) (T : Nat → Nat → Option Int) (LM i : Nat) (n : Int) (IH : ∀ j, j < 2 ^ (BB - LM) → GatC tb mb bb gb lb sb kb ab N BB B0 D least T LM j) (hT : ∀ (L i : Nat) (n : Int), T L i = some n → -9223372036854775808 ≤ n ∧ n ≤ 9223372036854775807) (hMT : MapT D T) (hB : BB ≤ 59) (hN : N = BB + 1) (hL : LM + 1 ≤ BB) (hi : i < 2 ^ (BB - (LM + 1))) (hn : T (LM + 1) i = some n) : GatC tb mb bb gb lb sb kb ab N BB B0 D least T (LM + 1) i := by
  intro hv ls b w hct hgk hdis hlen hB0
  have hp59 : 2 ^ (BB - (LM + 1)) ≤ 2 ^ 59 := Nat.pow_le_pow_right (by omega) (by omega)
  have e59 : (2 : Nat) ^ 59 = 576460752303423488 := rfl
  have hi2 : i < 576460752303423488 := by omega
  obtain ⟨n0, n1⟩ := hT _ _ _ hn
  obtain ⟨hm1, hm2⟩ := (hMT (LM + 1) i (by omega) (by omega)).1 n hn
  have HCT := Lib.hid hct
  have HDIS := Lib.hid hdis
  have HGK := Lib.hid (gk_start hgk)
  have HB0 : Hid (B0 ≤ w.heap.size) := Lib.hid hB0
  have hc1 := fun w => chalf_two BB LM i (2 * i) (2 * i + 1) w hB hL hi rfl rfl
  have hq1 := IH (2 * i) (pow_half hL hi).1
  have hq2 := IH (2 * i + 1) (pow_half hL hi).2
  have hgl : ∀ M, gL T least (LM + 1) i M = gL T least LM (2 * i) M ++ gL T least LM (2 * i + 1) M ++ (if M = LM + 1 then gTop T least (LM + 1) i else []) := fun M => by rw [gL, hn]
  have hff : (b && gF T least (LM + 1) i) = (((b && gF T least LM (2 * i)) && gF T least LM (2 * i + 1)) && Wid.fit64 (n - gS T least (LM + 1) i)) := by
    rw [gF, hn]
    simp only [Bool.and_assoc]
  have hwg : gW T least (LM + 1) i = if Wid.f64 (n - gS T least (LM + 1) i) < least then gS T least (LM + 1) i else n := by rw [gW_eq, gOne, hn]
  have hfn := fin_no' (ls := ls) (least := least) hn
  have hfy := fin_yes' (ls := ls) (least := least) hn
  obtain ⟨bl, bs⟩ := sum_bds (i := 2 * i) (least := least) hT (show LM + 1 ≤ 59 by omega)
  obtain ⟨br, -⟩ := sum_bds (i := 2 * i + 1) (least := least) hT (show LM + 1 ≤ 59 by omega)
  obtain ⟨-, bs⟩ := sum_bds (i := i) (least := least) hT (show LM + 1 ≤ 59 by omega)
  have hsum : gW T least LM (2 * i) + gW T least LM (2 * i + 1) = gS T least (LM + 1) i := rfl
  have HADD0 := Lib.hid (fun w => w_add (gW T least LM (2 * i)) (gW T least LM (2 * i + 1)) w (by omega) (by omega))
  have HWO := Lib.hid (fun w => without_any n (gS T least (LM + 1) i) w n0 n1 (by omega))
  have HOF := Lib.hid (fun w => Wid.of_any n w n0 n1)
  rw [hsum] at HADD0
  have hpk := pkl_ok (L := LM + 1) (i := i) (by omega) (by omega)
  obtain ⟨I2, hI2⟩ : ∃ v, 2 * i = v := ⟨_, rfl⟩
  obtain ⟨I3, hI3⟩ : ∃ v, 2 * i + 1 = v := ⟨_, rfl⟩
  rw [hI2] at hI3
  rw [hI2, hI3] at hc1 hff hfn hfy HADD0
  rw [hI2] at hq1
  rw [hI2, hI3] at hq2
  have hgl2 : ∀ M, gL T least (LM + 1) i M = gL T least LM I2 M ++ gL T least LM I3 M ++ (if M = LM + 1 then gTop T least (LM + 1) i else []) := fun M => by rw [← hI3, ← hI2]; exact hgl M
  have hl1 : ∀ M, (ls M ++ gL T least LM I2 M).length ≤ 4096 := fun M => by
    have h5 := hlen M
    rw [hgl2 M] at h5
    simp only [List.length_append] at h5 ⊢
    omega
  have hl2 : ∀ M, ((fun M => ls M ++ gL T least LM I2 M) M ++ gL T least LM I3 M).length ≤ 4096 := fun M => by
    have h5 := hlen M
    rw [hgl2 M] at h5
    simp only [List.length_append] at h5 ⊢
    omega
  obtain ⟨ls0, hls0⟩ : ∃ l, (fun M => ls M ++ gL T least LM I2 M) = l := ⟨_, rfl⟩
  rw [hls0] at hfn hfy hl2
  obtain ⟨ls1, hls1⟩ : ∃ l, (fun M => ls0 M ++ gL T least LM I3 M) = l := ⟨_, rfl⟩
  rw [hls1] at hfn hfy
  have HLEN : Hid ((ls1 (LM + 1)).length ≤ 4096) := Lib.hid (by rw [← hls1]; exact hl2 (LM + 1))
  obtain ⟨b0, hb0⟩ : ∃ x, (b && gF T least LM I2) = x := ⟨_, rfl⟩
  obtain ⟨b1, hb1⟩ : ∃ x, (b0 && gF T least LM I3) = x := ⟨_, rfl⟩
  rw [hb0, hb1] at hff
  obtain ⟨XL, hXL⟩ : ∃ x, gW T least LM I2 = x := ⟨_, rfl⟩
  obtain ⟨XR, hXR⟩ : ∃ x, gW T least LM I3 = x := ⟨_, rfl⟩
  rw [hXL, hXR] at HADD0
  have HQL : Hid (∀ hx w', CTI tb mb bb gb lb sb kb N BB D least (fnV tb bb gb ab lb sb) w' → GK B0 kb ab N hx ls b w' → (∀ k, ctF tb mb bb gb lb sb k → ¬ gkF kb ab hx k) → B0 ≤ w'.heap.size → Calls Tryz.prog 71 #[.agg #[.int .i64 (LM : Int), .int .u64 (I2 : Int)], .pointer (some ⟨tb, 0, none⟩), .pointer (some ⟨bb, 0, none⟩), .pointer (some ⟨gb, 0, none⟩), .pointer (some ⟨ab, 0, none⟩), .pointer (some ⟨lb, 0, none⟩), .pointer (some ⟨sb, 0, none⟩)] w' fun e w2 => ∃ hy : Array Value, e = .returned (.agg #[.int .i64 (Wid.fh (XL)), .int .u64 (Wid.fl (XL))]) ∧ GK B0 kb ab N hy ls0 b0 w2 ∧ Kept (gkF kb ab hx) w' w2 ∧ (∀ k, gkF kb ab hy k → gkF kb ab hx k ∨ w'.heap.size ≤ k)) := Lib.hid (fun hx w' a1 a2 a3 a4 => by
    have h5 := hq1 hx ls b w' a1 a2 a3 hl1 a4
    rw [hls0, hb0, hXL] at h5
    exact h5)
  have HQR : Hid (∀ hx w', CTI tb mb bb gb lb sb kb N BB D least (fnV tb bb gb ab lb sb) w' → GK B0 kb ab N hx ls0 b0 w' → (∀ k, ctF tb mb bb gb lb sb k → ¬ gkF kb ab hx k) → B0 ≤ w'.heap.size → Calls Tryz.prog 71 #[.agg #[.int .i64 (LM : Int), .int .u64 (I3 : Int)], .pointer (some ⟨tb, 0, none⟩), .pointer (some ⟨bb, 0, none⟩), .pointer (some ⟨gb, 0, none⟩), .pointer (some ⟨ab, 0, none⟩), .pointer (some ⟨lb, 0, none⟩), .pointer (some ⟨sb, 0, none⟩)] w' fun e w2 => ∃ hy : Array Value, e = .returned (.agg #[.int .i64 (Wid.fh (XR)), .int .u64 (Wid.fl (XR))]) ∧ GK B0 kb ab N hy ls1 b1 w2 ∧ Kept (gkF kb ab hx) w' w2 ∧ (∀ k, gkF kb ab hy k → gkF kb ab hx k ∨ w'.heap.size ≤ k)) := Lib.hid (fun hx w' a1 a2 a3 a4 => by
    have h5 := hq2 hx ls0 b0 w' a1 a2 a3 hl2 a4
    rw [hls1, hb1, hXR] at h5
    exact h5)
  have HM0 := Lib.hid (hm2 (.lit (.int .i64 0)))
  obtain ⟨S, hS⟩ : ∃ S, gS T least (LM + 1) i = S := ⟨_, rfl⟩
  obtain ⟨R, hR⟩ : ∃ R, Wid.f64 (n - S) = R := ⟨_, rfl⟩
  obtain ⟨FT, hFT⟩ : ∃ R, Wid.fit64 (n - S) = R := ⟨_, rfl⟩
  obtain ⟨SH, hSH⟩ : ∃ R, Wid.fh S = R := ⟨_, rfl⟩
  obtain ⟨SL, hSL⟩ : ∃ R, Wid.fl S = R := ⟨_, rfl⟩
  rw [hS] at HWO hwg hff hfn hfy HADD0
  rw [hR] at hwg hfn hfy
  rw [hR, hFT] at HWO
  rw [hFT] at hff
  rw [hSH, hSL] at HWO HADD0
  have HSHL : Hid (Wid.fh S = SH ∧ Wid.fl S = SL) := Lib.hid ⟨hSH, hSL⟩
  obtain ⟨LV, hLV⟩ : ∃ v, LM + 1 = v := ⟨_, rfl⟩
  rw [hLV] at hwg hff hfn hfy HLEN HM0 hpk hm1 hc1
  rw [hLV]
  have HPK := Lib.hid hpk
  have HFN := Lib.hid hfn
  have HFY := Lib.hid hfy
  have HBB := Lib.hid hff
  have HCH := Lib.hid hc1
  have HLN : Hid (LV < N ∧ (0 : Int) ≤ (LV : Int) ∧ (LV : Int) < (N : Int)) := Lib.hid (by omega)
  rw [hwg]
  clear hct hgk hdis hlen hMT hn hm2 hB hi hi2 hS hR hFT n0 n1 hB0 hN hp59 e59 hc1 hq1 hq2 hgl hgl2 hff hwg hfn hfy bl bs br hsum hpk hI2 hI3 hl1 hl2 hls0 hls1 hb0 hb1 hXL hXR hSH hSL hLV IH hT hL
  go_enter Tryz.func71, Tryz.ntmps71
  go_upto_region 1 with fail
  have HO := Lib.hid (two_new HGK.out #[.int .i64 (LV : Int), .int .u64 (i : Int)] #[.int .i64 0, .int .u64 0] 69 151)
  obtain ⟨B7, hB7⟩ : ∃ k, w.heap.size = k := ⟨_, rfl⟩
  obtain ⟨W, hW⟩ : ∃ W, (w.alloc (.cells #[.int .i64 (LV : Int), .int .u64 (i : Int)] 69)).alloc (.cells #[.int .i64 0, .int .u64 0] 151) = W := ⟨_, rfl⟩
  rw [hW] at HO
  try rw [hW]
  rw [hB7] at HO
  try rw [hB7]
  obtain ⟨B8, hB8⟩ : ∃ k, B7 + 1 = k := ⟨_, rfl⟩
  rw [hB8] at HO
  try rw [hB8]
  clear hW
  have HC := Lib.hid (ct_at HCT.out HDIS.out HO.out)
  have c1 := HC.out.tcell
  obtain ⟨p0, p1, pf0, pf1⟩ := hold_two HO.out (b := B7) (e := 69) (v0 := .int .i64 (LV : Int)) (v1 := .int .u64 (i : Int)) (by simp)
  go_upto_region 4 with (at_lookup; refine wpList_lookup_own_ok_int _ rfl _ _ _ rfl _ _ .i64 pk_law mp_u mp_e (mp_zero _) mb 5000 D rfl HC.out.tmap _ (pkl LV i) rfl HPK.out ?_; intro c hat hwc; obtain rfl : n = c := (by have h5 := HM0.out.symm.trans hat; injection h5 with h5; injection h5))
  have HO4 := Lib.hid (one_new HO.out #[.int .i64 0, .int .u64 0] 151)
  go_upto_region 5 with fail
  obtain ⟨B11, hB11⟩ : ∃ k, W.heap.size = k := ⟨_, rfl⟩
  have hgB : gb ≠ B11 := by
    have h5 := HCT.out.lt gb (by unfold ctF; simp)
    have h6 := HO.out.1.size
    omega
  rw [hB11] at HO4
  try rw [hB11]
  obtain ⟨W4, hW4⟩ : ∃ X, W.alloc (.cells #[.int .i64 0, .int .u64 0] 151) = X := ⟨_, rfl⟩
  rw [hW4] at HO4
  rw [hW4]
  clear hW4 HO HC c1 p0 p1 pf0 pf1 hB11
  have HC4 := Lib.hid (ct_at HCT.out HDIS.out HO4.out)
  have c2 := HC4.out.bcell
  obtain ⟨p0, p1, pf0, pf1⟩ := hold_two HO4.out (b := B7) (e := 69) (v0 := .int .i64 (LV : Int)) (v1 := .int .u64 (i : Int)) (by simp)
  go_upto_region 7 with (go_at_call 69; (with_reducible refine (HCH.out _).mono ?_); rintro e w5 ⟨rfl, hb⟩; have HO5 := Lib.hid (HO4.out.up hb); clear hb)
  have HO7 := Lib.hid (two_new HO5.out #[.int .i64 (LM : Int), .int .u64 (I2 : Int)] #[.int .i64 (LM : Int), .int .u64 (I3 : Int)] 69 69)
  obtain ⟨B12, hB12⟩ : ∃ k, w5.heap.size = k := ⟨_, rfl⟩
  obtain ⟨W7, hW7⟩ : ∃ X, (w5.alloc (.cells #[.int .i64 (LM : Int), .int .u64 (I2 : Int)] 69)).alloc (.cells #[.int .i64 (LM : Int), .int .u64 (I3 : Int)] 69) = X := ⟨_, rfl⟩
  rw [hW7] at HO7
  rw [hW7]
  rw [hB12] at HO7
  try rw [hB12]
  obtain ⟨B13, hB13⟩ : ∃ k, B12 + 1 = k := ⟨_, rfl⟩
  rw [hB13] at HO7
  try rw [hB13]
  clear hW7 hB12 p0 p1 pf0 pf1 c2 HC4
  have HC7 := Lib.hid (ct_at HCT.out HDIS.out HO7.out)
  have c3 : W7.cell? ⟨gb, 0, none⟩ = some (.func (.func 71) #[] #[.pointer (some ⟨tb, 0, none⟩), .pointer (some ⟨bb, 0, none⟩), .pointer (some ⟨gb, 0, none⟩), .pointer (some ⟨ab, 0, none⟩), .pointer (some ⟨lb, 0, none⟩), .pointer (some ⟨sb, 0, none⟩)]) := HC7.out.gcell
  obtain ⟨q0, q1, qf0, qf1⟩ := hold_two HO7.out (b := B12) (e := 69) (v0 := .int .i64 (LM : Int)) (v1 := .int .u64 (I2 : Int)) (by simp)
  obtain ⟨ga, gf⟩ := gk_of HO7.out (B0 := B0) (kb := kb) (ab := ab) (N := N) (hv := hv) (ls := ls) (b := b) (by simp)
  have HGA := Lib.hid ga
  have HGD := Lib.hid (ct_far (w := w) HCT.out HDIS.out gf)
  have HB7 := Lib.hid (Nat.le_trans HB0.out HO7.out.1.size)
  clear ga gf
  go_upto_region 8 with (go_at_call 71; (with_reducible refine (HQL.out hv _ HC7.out HGA.out HGD.out HB7.out).mono ?_); rintro e w6 ⟨hv1, rfl, hg6, hk6, hF6⟩; have HO6 := Lib.hid (gk_turn (fs := [_, _, _, _, _]) HO7.out hg6 hk6 hF6); clear hg6 hk6 hF6)
  have HO8 := Lib.hid (one_new HO6.out #[.int .i64 (Wid.fh XL), .int .u64 (Wid.fl XL)] 151)
  obtain ⟨B15, hB15⟩ : ∃ k, w6.heap.size = k := ⟨_, rfl⟩
  rw [hB15] at HO8
  try rw [hB15]
  obtain ⟨W8, hW8⟩ : ∃ X, w6.alloc (.cells #[.int .i64 (Wid.fh XL), .int .u64 (Wid.fl XL)] 151) = X := ⟨_, rfl⟩
  rw [hW8] at HO8
  rw [hW8]
  clear hW8 hB15 c3 q0 q1 qf0 qf1 HGA HGD HB7 HC7
  have HC8 := Lib.hid (ct_at HCT.out HDIS.out HO8.out)
  have c3 : W8.cell? ⟨gb, 0, none⟩ = some (.func (.func 71) #[] #[.pointer (some ⟨tb, 0, none⟩), .pointer (some ⟨bb, 0, none⟩), .pointer (some ⟨gb, 0, none⟩), .pointer (some ⟨ab, 0, none⟩), .pointer (some ⟨lb, 0, none⟩), .pointer (some ⟨sb, 0, none⟩)]) := HC8.out.gcell
  obtain ⟨q0, q1, qf0, qf1⟩ := hold_two HO8.out (b := B13) (e := 69) (v0 := .int .i64 (LM : Int)) (v1 := .int .u64 (I3 : Int)) (by simp)
  obtain ⟨x0, x1, xf0, xf1⟩ := hold_two HO8.out (b := B15) (e := 151) (v0 := .int .i64 (Wid.fh XL)) (v1 := .int .u64 (Wid.fl XL)) (by simp)
  obtain ⟨-, gf⟩ := gk_of HO8.out (B0 := B0) (kb := kb) (ab := ab) (N := N) (hv := hv1) (ls := ls0) (b := b0) (by simp)
  have HGD := Lib.hid (ct_far (w := w) HCT.out HDIS.out gf)
  have HB8 := Lib.hid (Nat.le_trans HB0.out HO8.out.1.size)
  have h15 : B15 ≠ B11 := box_ne (fs := []) (ms := [_, _]) HO8.out
  have h13 : B13 ≠ B11 := box_ne (fs := [_]) (ms := [_]) HO8.out
  clear gf qf0 qf1 xf0 xf1
  go_cut [38] (fun s38 wx => ∃ hv2 : Array Value, Hold (gkF kb ab hv) w wx ([boxT B15 151 #[.int .i64 (Wid.fh XL), .int .u64 (Wid.fl XL)], boxT B13 69 #[.int .i64 (LM : Int), .int .u64 (I3 : Int)], boxT B12 69 #[.int .i64 (LM : Int), .int .u64 (I2 : Int)]] ++ [boxT B11 151 #[.int .i64 SH, .int .u64 SL], boxT B8 151 #[.int .i64 0, .int .u64 0], boxT B7 69 #[.int .i64 (LV : Int), .int .u64 (i : Int)], gkT B0 kb ab N hv2 ls1 b1]))
  case first =>
    go_region_held3 (fun w' => w'.cell? ⟨B15, 0, none⟩ = some (.int .i64 (Wid.fh XL)) ∧ w'.cell? ⟨B15, 1, none⟩ = some (.int .u64 (Wid.fl XL)) ∧ w'.cell? ⟨gb, 0, none⟩ = some (.func (.func 71) #[] #[.pointer (some ⟨tb, 0, none⟩), .pointer (some ⟨bb, 0, none⟩), .pointer (some ⟨gb, 0, none⟩), .pointer (some ⟨ab, 0, none⟩), .pointer (some ⟨lb, 0, none⟩), .pointer (some ⟨sb, 0, none⟩)]) ∧ w'.cell? ⟨B13, 0, none⟩ = some (.int .i64 (LM : Int)) ∧ w'.cell? ⟨B13, 1, none⟩ = some (.int .u64 (I3 : Int))) (first | (refine ⟨?_, ?_, ?_, ?_, ?_⟩ <;> (first | (with_reducible assumption) | (exact cell_far (cell_far y0 h15) h15) | (exact cell_far (cell_far y1 h15) h15) | (exact cell_far (cell_far y2 hgB) hgB) | (exact cell_far (cell_far y3 h13) h13) | (exact cell_far (cell_far y4 h13) h13) | (with_reducible refine cell_up x0 ?_) | (with_reducible refine cell_up x1 ?_) | (with_reducible refine cell_up c3 ?_) | (with_reducible refine cell_up q0 ?_) | (with_reducible refine cell_up q1 ?_) | skip) <;> (repeat' (first | (with_reducible exact Below.refl _ _) | (with_reducible assumption) | (with_reducible refine below_over ?_ _ _) | (with_reducible refine Lw.below_alloc ?_ _) | (with_reducible refine Below.drew ?_) | (with_reducible refine below_drewN ?_ _) | (with_reducible refine Below.setCell ?_ ?_ _) | go_size)))) (first
      | (go_at_call 71; (with_reducible refine (HQR.out hv1 _ (HC8.out.up (by (repeat' (first | (with_reducible exact Below.refl _ _) | (with_reducible assumption) | (with_reducible refine below_over ?_ _ _) | (with_reducible refine Lw.below_alloc ?_ _) | (with_reducible refine Below.drew ?_) | (with_reducible refine below_drewN ?_ _) | (with_reducible refine Below.setCell ?_ ?_ _) | go_size)))) (gk_of (HO8.out.up (by (repeat' (first | (with_reducible exact Below.refl _ _) | (with_reducible assumption) | (with_reducible refine below_over ?_ _ _) | (with_reducible refine Lw.below_alloc ?_ _) | (with_reducible refine Below.drew ?_) | (with_reducible refine below_drewN ?_ _) | (with_reducible refine Below.setCell ?_ ?_ _) | go_size)))) (by simp)).1 HGD.out (hb_up HB8.out (by (repeat' (first | (with_reducible exact Below.refl _ _) | (with_reducible assumption) | (with_reducible refine below_over ?_ _ _) | (with_reducible refine Lw.below_alloc ?_ _) | (with_reducible refine Below.drew ?_) | (with_reducible refine below_drewN ?_ _) | (with_reducible refine Below.setCell ?_ ?_ _) | go_size))))).mono ?_); rintro e w9 ⟨hv2, rfl, hg9, hk9, hF9⟩; have HO9 := Lib.hid (gk_turn (fs := [_, _, _, _, _, _]) (HO8.out.up (by (repeat' (first | (with_reducible exact Below.refl _ _) | (with_reducible assumption) | (with_reducible refine below_over ?_ _ _) | (with_reducible refine Lw.below_alloc ?_ _) | (with_reducible refine Below.drew ?_) | (with_reducible refine below_drewN ?_ _) | (with_reducible refine Below.setCell ?_ ?_ _) | go_size)))) hg9 hk9 hF9); clear hg9 hk9 hF9; obtain ⟨y0, y1, -, -⟩ := hold_two HO9.out (b := B15) (e := 151) (v0 := .int .i64 (Wid.fh XL)) (v1 := .int .u64 (Wid.fl XL)) (by simp); have y2 : w9.cell? ⟨gb, 0, none⟩ = some (.func (.func 71) #[] #[.pointer (some ⟨tb, 0, none⟩), .pointer (some ⟨bb, 0, none⟩), .pointer (some ⟨gb, 0, none⟩), .pointer (some ⟨ab, 0, none⟩), .pointer (some ⟨lb, 0, none⟩), .pointer (some ⟨sb, 0, none⟩)]) := (ct_at HCT.out HDIS.out HO9.out).gcell; obtain ⟨y3, y4, -, -⟩ := hold_two HO9.out (b := B13) (e := 69) (v0 := .int .i64 (LM : Int)) (v1 := .int .u64 (I3 : Int)) (by simp))
      | (go_at_call 72; (with_reducible refine (HADD0.out _).mono ?_); rintro e w10 ⟨rfl, hb⟩; have HO10 := Lib.hid (HO9.out.up hb); clear hb y0 y1 y2 y3 y4; obtain ⟨y0, y1, -, -⟩ := hold_two HO10.out (b := B15) (e := 151) (v0 := .int .i64 (Wid.fh XL)) (v1 := .int .u64 (Wid.fl XL)) (by simp); have y2 : w10.cell? ⟨gb, 0, none⟩ = some (.func (.func 71) #[] #[.pointer (some ⟨tb, 0, none⟩), .pointer (some ⟨bb, 0, none⟩), .pointer (some ⟨gb, 0, none⟩), .pointer (some ⟨ab, 0, none⟩), .pointer (some ⟨lb, 0, none⟩), .pointer (some ⟨sb, 0, none⟩)]) := (ct_at HCT.out HDIS.out HO10.out).gcell; obtain ⟨y3, y4, -, -⟩ := hold_two HO10.out (b := B13) (e := 69) (v0 := .int .i64 (LM : Int)) (v1 := .int .u64 (I3 : Int)) (by simp); obtain ⟨t0, t1, t2, t3⟩ := hold_two HO10.out (b := B11) (e := 151) (v0 := .int .i64 0) (v1 := .int .u64 0) (by simp)))
    all_goals go_wp2_with fail
    all_goals go_meet
    all_goals exact ⟨_, put_two (fs := [_, _, _]) HO10.out (.int .i64 SH) (.int .u64 SL)⟩
  case rest =>
  obtain ⟨hv2, hq⟩ := hcut
  have HOT := Lib.hid hq
  clear hq c3 q0 q1 x0 x1 HGD HB8 HC8 h15 h13

  obtain ⟨s0, s1, -, -⟩ := hold_two HOT.out (b := B11) (e := 151) (v0 := .int .i64 SH) (v1 := .int .u64 SL) (by simp)
  go_upto_region 10 with (go_at_call 73; (with_reducible refine (HWO.out _).mono ?_); rintro e w9 ⟨rfl, hb⟩; have HO9 := Lib.hid (HOT.out.up hb); clear hb)
  clear s0 s1
  obtain ⟨g1, g2⟩ := gk_of HO9.out (B0 := B0) (kb := kb) (ab := ab) (N := N) (hv := hv2) (ls := ls1) (b := b1) (by simp)
  have a0 := box_cell (w := w9) (b := ab) (e := 4) (vs := #[.bool b1]) g1.flag (i := 0) rfl
  have a1 := Qnt.blk_frozen g1.flag 0
  clear g1 g2
  go_cut [55] (fun s55 wx => wx = w9.setCell ⟨ab, 0, none⟩ (.bool (b1 && FT)))
  case first =>
    rcases Bool.eq_false_or_eq_true (b1) with hbx | hbx
    · have HBX := Lib.hid hbx
      rw [hbx] at a0
      clear hbx
      go_wp2_with fail
      go_meet
      rw [HBX.out]
      rfl
    · have HBX := Lib.hid hbx
      rw [hbx] at a0
      clear hbx
      go_wp2_with fail
      go_meet
      rw [HBX.out]
      rfl
  case rest =>
    obtain ⟨wo, hwo0⟩ : ∃ wo, wo = wc := ⟨_, rfl⟩
    rw [← hwo0] at hcut ⊢
    clear hwo0
    have HO10 : Hid (Hold (gkF kb ab hv) w wo ([boxT B15 151 #[.int .i64 (Wid.fh XL), .int .u64 (Wid.fl XL)], boxT B13 69 #[.int .i64 (LM : Int), .int .u64 (I3 : Int)], boxT B12 69 #[.int .i64 (LM : Int), .int .u64 (I2 : Int)]] ++ [boxT B11 151 #[.int .i64 SH, .int .u64 SL], boxT B8 151 #[.int .i64 0, .int .u64 0], boxT B7 69 #[.int .i64 (LV : Int), .int .u64 (i : Int)], gkT B0 kb ab N hv2 ls1 (b1 && FT)])) := Lib.hid (by rw [hcut]; exact flag_put (fs := [boxT B15 151 #[.int .i64 (Wid.fh XL), .int .u64 (Wid.fl XL)], boxT B13 69 #[.int .i64 (LM : Int), .int .u64 (I3 : Int)], boxT B12 69 #[.int .i64 (LM : Int), .int .u64 (I2 : Int)]] ++ [_, _, _]) HO9.out (b1 && FT))
    clear hcut a0 a1 HO9 HOT HWO
    obtain ⟨b2, hb2⟩ : ∃ b2, (b1 && FT) = b2 := ⟨_, rfl⟩
    rw [hb2] at HO10
    have HB2 := Lib.hid hb2
    clear hb2
    have HC10 := Lib.hid (ct_at HCT.out HDIS.out HO10.out)
    have c5 := HC10.out.lcell
    by_cases hr : R < least
    · have g0 : decide (R < least) = true := decide_eq_true hr
      obtain ⟨s0, s1, -, -⟩ := hold_two HO10.out (b := B11) (e := 151) (v0 := .int .i64 SH) (v1 := .int .u64 SL) (by simp)
      obtain ⟨z0, z1, z2, z3⟩ := hold_two HO10.out (b := B8) (e := 151) (v0 := .int .i64 0) (v1 := .int .u64 0) (by simp)
      have HLS := Lib.hid (HFN.out  (by omega))
      go_wp2
      have HOE : Hid (Hold (gkF kb ab hv) w ((wo.setCell ⟨B8, 0, none⟩ (.int .i64 SH)).setCell ⟨B8, 1, none⟩ (.int .u64 SL)) ([boxT B15 151 #[.int .i64 (Wid.fh XL), .int .u64 (Wid.fl XL)], boxT B13 69 #[.int .i64 (LM : Int), .int .u64 (I3 : Int)], boxT B12 69 #[.int .i64 (LM : Int), .int .u64 (I2 : Int)]] ++ [boxT B11 151 #[.int .i64 SH, .int .u64 SL], boxT B8 151 #[.int .i64 SH, .int .u64 SL], boxT B7 69 #[.int .i64 (LV : Int), .int .u64 (i : Int)], gkT B0 kb ab N hv2 ls1 b2])) := Lib.hid (put_two (fs := [boxT B15 151 #[.int .i64 (Wid.fh XL), .int .u64 (Wid.fl XL)], boxT B13 69 #[.int .i64 (LM : Int), .int .u64 (I3 : Int)], boxT B12 69 #[.int .i64 (LM : Int), .int .u64 (I2 : Int)]] ++ [_]) HO10.out (.int .i64 SH) (.int .u64 SL))
      obtain ⟨we, hwe⟩ : ∃ we, (wo.setCell ⟨B8, 0, none⟩ (.int .i64 SH)).setCell ⟨B8, 1, none⟩ (.int .u64 SL) = we := ⟨_, rfl⟩
      rw [hwe] at HOE ⊢
      obtain ⟨v0, v1, -, -⟩ := hold_two HOE.out (b := B8) (e := 151) (v0 := .int .i64 SH) (v1 := .int .u64 SL) (by simp)
      refine bodyPost_ret (v := .agg #[.int .i64 SH, .int .u64 SL]) (by simp [results, Tryz.results71, go_sem, v0, v1]) rfl ?_
      obtain ⟨g1, g2⟩ := gk_of HOE.out (B0 := B0) (kb := kb) (ab := ab) (N := N) (hv := hv2) (ls := ls1) (b := b2) (by simp)
      exact ⟨by (try rw [if_pos hr]); rw [HSHL.out.1, HSHL.out.2], hv2, by rw [HLS.out, HBB.out, HB2.out]; exact g1, HOE.out.1, fun k hk => (g2 k hk).imp id (fun h => by omega)⟩
    · have g0 : decide (R < least) = false := decide_eq_false hr
      have HLS := Lib.hid (HFY.out  (by omega))
      obtain ⟨p0, p1, -, -⟩ := hold_two HO10.out (b := B7) (e := 69) (v0 := .int .i64 (LV : Int)) (v1 := .int .u64 (i : Int)) (by simp)
      have c6 := HC10.out.scell
      obtain ⟨hgk, hgf⟩ := gk_of HO10.out (B0 := B0) (kb := kb) (ab := ab) (N := N) (hv := hv2) (ls := ls1) (b := b2) (by simp)
      obtain ⟨v, hv_⟩ : ∃ v, hv2[LV]? = some v := ⟨_, Array.getElem?_eq_getElem (by rw [hgk.size]; exact HLN.out.1)⟩
      have ho := hgk.own _ _ hv_
      obtain ⟨n0, hn0⟩ : ∃ n, (ls1 LV).length = n := ⟨_, rfl⟩
      rw [hn0] at ho
      obtain ⟨-, A0, cap0, rfl⟩ := own_formK ho
      have hn4 : n0 ≤ 4096 := by rw [← hn0]; exact HLEN.out
      have k0 := box_cell (w := wo) (b := kb) hgk.row hv_
      have HKR := Lib.hid hgk.row
      have k1 : ∀ o : Obj, (wo.alloc o).cell? ⟨kb, LV, none⟩ = some (.slice A0 n0 cap0) := fun o => cell_up k0 (Lw.below_alloc (Below.refl _ _) o)
      have k2 : ∀ o : Obj, ((wo.alloc o).drew).cell? ⟨kb, LV, none⟩ = some (.slice A0 n0 cap0) := fun o => cell_up k0 (Below.drew (Lw.below_alloc (Below.refl _ _) o))
      have k3 : (wo.drew).cell? ⟨kb, LV, none⟩ = some (.slice A0 n0 cap0) := cell_up k0 (Below.drew (Below.refl _ _))
      have HOWN := Lib.hid ho
      have HN0 := Lib.hid hn0
      have HHV := Lib.hid hv_
      have HNS : Hid ((.slice A0 n0 cap0 : Value).ownBlock ≠ some sb) := Lib.hid (fun e => ct_far (w := w) HCT.out HDIS.out hgf sb (by unfold ctF; simp) (.inr (.inr ⟨_, _, hv_, e⟩)))
      have HN7 : Hid ((.slice A0 n0 cap0 : Value).ownBlock ≠ some B7) := Lib.hid (fun e => last_apart (fs := [boxT B15 151 #[.int .i64 (Wid.fh XL), .int .u64 (Wid.fl XL)], boxT B13 69 #[.int .i64 (LM : Int), .int .u64 (I3 : Int)], boxT B12 69 #[.int .i64 (LM : Int), .int .u64 (I2 : Int)]] ++ [_, _]) HO10.out (show gkF kb ab hv2 B7 from .inr (.inr ⟨_, _, hv_, e⟩)))
      have HNK : Hid ((.slice A0 n0 cap0 : Value).ownBlock ≠ some kb) := Lib.hid (fun e => by have h5 := own_ge ho _ e; have h6 := hgk.far.1; omega)
      have hsk : sb ≠ kb := fun e => HDIS.out sb (by unfold ctF; simp) (.inl e)
      have h7k : B7 ≠ kb := fun e => last_apart (fs := [boxT B15 151 #[.int .i64 (Wid.fh XL), .int .u64 (Wid.fl XL)], boxT B13 69 #[.int .i64 (LM : Int), .int .u64 (I3 : Int)], boxT B12 69 #[.int .i64 (LM : Int), .int .u64 (I2 : Int)]] ++ [_, _]) HO10.out (show gkF kb ab hv2 B7 from .inl e)
      have HBS : Hid (B0 ≤ wo.heap.size) := Lib.hid (Nat.le_trans HB0.out HO10.out.1.size)
      obtain ⟨j0, hj_, hy0, hy1, hy2⟩ := info_parts rs_info
      have l0 : (0 : Int) ≤ (LV : Int) := HLN.out.2.1
      have l1 : (LV : Int) < (N : Int) := HLN.out.2.2
      have l2 : LV < N := HLN.out.1
      clear hgk hgf hv_ ho hn0
      go_upto_region 13 with fail
      go_cut [73] (fun s73 wx => ∃ hv2 : Array Value, Hold (gkF kb ab hv) w wx ([boxT B15 151 #[.int .i64 (Wid.fh XL), .int .u64 (Wid.fl XL)], boxT B13 69 #[.int .i64 (LM : Int), .int .u64 (I3 : Int)], boxT B12 69 #[.int .i64 (LM : Int), .int .u64 (I2 : Int)]] ++ [boxT B11 151 #[.int .i64 SH, .int .u64 SL], boxT B8 151 #[.int .i64 0, .int .u64 0], boxT B7 69 #[.int .i64 (LV : Int), .int .u64 (i : Int)], gkT B0 kb ab N hv2 (putK ls1 LV ((LV, i), n, R)) b2]))
      case first =>
        refine wp_region_held_drew (S := (fun w' => w'.cell? ⟨sb, 0, none⟩ = some (.slice (some ⟨kb, 0, none⟩) N N) ∧ w'.cell? ⟨B7, 0, none⟩ = some (.int .i64 (LV : Int)) ∧ w'.cell? ⟨B7, 1, none⟩ = some (.int .u64 (i : Int)))) (by kernel_rfl) ⟨cell_up c6 (by (repeat' (first | (with_reducible exact Below.refl _ _) | (with_reducible assumption) | (with_reducible refine below_over ?_ _ _) | (with_reducible refine Lw.below_alloc ?_ _) | (with_reducible refine Below.drew ?_) | (with_reducible refine below_drewN ?_ _) | (with_reducible refine Below.setCell ?_ ?_ _) | go_size))), cell_up p0 (by (repeat' (first | (with_reducible exact Below.refl _ _) | (with_reducible assumption) | (with_reducible refine below_over ?_ _ _) | (with_reducible refine Lw.below_alloc ?_ _) | (with_reducible refine Below.drew ?_) | (with_reducible refine below_drewN ?_ _) | (with_reducible refine Below.setCell ?_ ?_ _) | go_size))), cell_up p1 (by (repeat' (first | (with_reducible exact Below.refl _ _) | (with_reducible assumption) | (with_reducible refine below_over ?_ _ _) | (with_reducible refine Lw.below_alloc ?_ _) | (with_reducible refine Below.drew ?_) | (with_reducible refine below_drewN ?_ _) | (with_reducible refine Below.setCell ?_ ?_ _) | go_size)))⟩ (fun hHeld => ?_)
        refine wpAnyH_take (i := 0) (v := ?_) rfl (by kernel_rfl) (by kernel_rfl) (by kernel_rfl) (fun _ _ _ h => h) (Or.inl ⟨by rfl, ?_⟩) hHeld ?_
        rotate_left
        · intro w hSw
          (try dsimp only at hSw)
          go_simp
          (try with_reducible rfl)
        (try simp only [List.getElem_toArray, List.getElem_cons_zero, List.getElem_cons_succ, Act.put, List.setIfInBounds_toArray, List.set_cons_zero, List.set_cons_succ])
        refine wpAnyH_take (i := 1) (v := ?_) rfl (by kernel_rfl) (by kernel_rfl) (by kernel_rfl) (fun _ _ _ h => h) (Or.inl ⟨by rfl, ?_⟩) hHeld ?_
        rotate_left
        · intro w hSw
          (try dsimp only at hSw)
          go_simp
          (try with_reducible rfl)
        (try simp only [List.getElem_toArray, List.getElem_cons_zero, List.getElem_cons_succ, Act.put, List.setIfInBounds_toArray, List.set_cons_zero, List.set_cons_succ])
        refine wpAnyH_take (i := 2) (v := ?_) rfl (by kernel_rfl) (by kernel_rfl) (by kernel_rfl) (fun _ _ _ h => h) (Or.inl ⟨by rfl, ?_⟩) hHeld ?_
        rotate_left
        · intro w hSw
          (try dsimp only at hSw)
          go_simp
          (try with_reducible rfl)
        (try simp only [List.getElem_toArray, List.getElem_cons_zero, List.getElem_cons_succ, Act.put, List.setIfInBounds_toArray, List.set_cons_zero, List.set_cons_succ])
        refine wpAnyH_take (i := 3) (v := ?_) rfl (by kernel_rfl) (by kernel_rfl) (by kernel_rfl) (fun _ _ _ h => h) (Or.inl ⟨by rfl, ?_⟩) hHeld ?_
        rotate_left
        · intro w hSw
          (try dsimp only at hSw)
          go_simp
          (try with_reducible rfl)
        (try simp only [List.getElem_toArray, List.getElem_cons_zero, List.getElem_cons_succ, Act.put, List.setIfInBounds_toArray, List.set_cons_zero, List.set_cons_succ])
        refine wpAnyH_take (i := 4) (v := ?_) rfl (by kernel_rfl) (by kernel_rfl) (by kernel_rfl) (fun _ _ _ h => h) (Or.inl ⟨by rfl, ?_⟩) hHeld ?_
        rotate_left
        · intro w hSw
          (try dsimp only at hSw)
          go_simp
          (try with_reducible rfl)
        (try simp only [List.getElem_toArray, List.getElem_cons_zero, List.getElem_cons_succ, Act.put, List.setIfInBounds_toArray, List.set_cons_zero, List.set_cons_succ])
        refine wpAnyH_take (i := 5) (v := ?_) rfl (by kernel_rfl) (by kernel_rfl) (by kernel_rfl) (fun _ _ _ h => h) (Or.inl ⟨by rfl, ?_⟩) hHeld ?_
        rotate_left
        · intro w hSw
          (try dsimp only at hSw)
          go_simp
          (try with_reducible rfl)
        (try simp only [List.getElem_toArray, List.getElem_cons_zero, List.getElem_cons_succ, Act.put, List.setIfInBounds_toArray, List.set_cons_zero, List.set_cons_succ])
        refine wpAnyH_take (i := 6) (v := ?_) rfl (by kernel_rfl) (by kernel_rfl) (by kernel_rfl) (fun _ _ _ h => h) (Or.inl ⟨by rfl, ?_⟩) hHeld ?_
        rotate_left
        · intro w hSw
          (try dsimp only at hSw)
          go_simp
          (try with_reducible rfl)
        (try simp only [List.getElem_toArray, List.getElem_cons_zero, List.getElem_cons_succ, Act.put, List.setIfInBounds_toArray, List.set_cons_zero, List.set_cons_succ])
        refine wpAnyH_take (i := 8) (v := ?_) rfl (by kernel_rfl) (by kernel_rfl) (by kernel_rfl) (fun _ _ _ h => h) (Or.inl ⟨by rfl, ?_⟩) hHeld ?_
        rotate_left
        · intro w hSw
          (try dsimp only at hSw)
          go_simp
          (try with_reducible rfl)
        (try simp only [List.getElem_toArray, List.getElem_cons_zero, List.getElem_cons_succ, Act.put, List.setIfInBounds_toArray, List.set_cons_zero, List.set_cons_succ])
        refine wpAnyH_take (i := 9) (v := ?_) rfl (by kernel_rfl) (by kernel_rfl) (by kernel_rfl) (fun _ _ _ h => h) (Or.inl ⟨by rfl, ?_⟩) hHeld ?_
        rotate_left
        · intro w hSw
          (try dsimp only at hSw)
          go_simp
          (try with_reducible rfl)
        (try simp only [List.getElem_toArray, List.getElem_cons_zero, List.getElem_cons_succ, Act.put, List.setIfInBounds_toArray, List.set_cons_zero, List.set_cons_succ])
        refine wpAnyH_take (i := 10) (v := ?_) rfl (by kernel_rfl) (by kernel_rfl) (by kernel_rfl) (fun _ _ _ h => h) (Or.inl ⟨by rfl, ?_⟩) hHeld ?_
        rotate_left
        · intro w hSw
          (try dsimp only at hSw)
          go_simp
          (try with_reducible rfl)
        (try simp only [List.getElem_toArray, List.getElem_cons_zero, List.getElem_cons_succ, Act.put, List.setIfInBounds_toArray, List.set_cons_zero, List.set_cons_succ])
        refine wpAnyH_take (i := 11) (v := ?_) rfl (by kernel_rfl) (by kernel_rfl) (by kernel_rfl) (fun _ _ _ h => h) (Or.inl ⟨by rfl, ?_⟩) hHeld ?_
        rotate_left
        · intro w hSw
          (try dsimp only at hSw)
          go_simp
          (try with_reducible rfl)
        (try simp only [List.getElem_toArray, List.getElem_cons_zero, List.getElem_cons_succ, Act.put, List.setIfInBounds_toArray, List.set_cons_zero, List.set_cons_succ])
        refine wpAnyH_ready (rs := [7, 12]) (by kernel_rfl) (by simp) ?_
        refine AllReadyH.cons rfl (fun K hK => ?_) (AllReadyH.cons rfl (fun K hK => ?_) AllReadyH.nil)
        · go_simp
          refine hK.out _ _ hHeld (fun hHeld => ?_)
          clear hK K
          (try simp only [List.getElem_toArray, List.getElem_cons_zero, List.getElem_cons_succ, Act.put, List.setIfInBounds_toArray, List.set_cons_zero, List.set_cons_succ])
          refine wpAnyH_ready (rs := [12]) (by kernel_rfl) (by simp) ?_
          refine AllReadyH.cons rfl (fun K hK => ?_) AllReadyH.nil
          go_simp
          refine hK.out _ _ ⟨cell_up c6 (by (repeat' (first | (with_reducible exact Below.refl _ _) | (with_reducible assumption) | (with_reducible refine below_over ?_ _ _) | (with_reducible refine Lw.below_alloc ?_ _) | (with_reducible refine Below.drew ?_) | (with_reducible refine below_drewN ?_ _) | (with_reducible refine Below.setCell ?_ ?_ _) | go_size))), cell_up p0 (by (repeat' (first | (with_reducible exact Below.refl _ _) | (with_reducible assumption) | (with_reducible refine below_over ?_ _ _) | (with_reducible refine Lw.below_alloc ?_ _) | (with_reducible refine Below.drew ?_) | (with_reducible refine below_drewN ?_ _) | (with_reducible refine Below.setCell ?_ ?_ _) | go_size))), cell_up p1 (by (repeat' (first | (with_reducible exact Below.refl _ _) | (with_reducible assumption) | (with_reducible refine below_over ?_ _ _) | (with_reducible refine Lw.below_alloc ?_ _) | (with_reducible refine Below.drew ?_) | (with_reducible refine below_drewN ?_ _) | (with_reducible refine Below.setCell ?_ ?_ _) | go_size)))⟩ (fun hHeld => ?_)
          clear hK K
          (try simp only [List.getElem_toArray, List.getElem_cons_zero, List.getElem_cons_succ, Act.put, List.setIfInBounds_toArray, List.set_cons_zero, List.set_cons_succ])
          refine wpAnyH_ready (rs := [13]) (by kernel_rfl) (by simp) ?_
          refine AllReadyH.cons rfl (fun K hK => ?_) AllReadyH.nil
          (refine step_append_lies _ (by rfl) _ _ 45 (by rfl) B0 79 j0 (.agg #[.int .i64 0, .int .u64 0, .int .i64 0, .int .i64 0]) 4 32 rss_u hj_ hy0 hy1 hy2 (by rfl) (by decide) (.slice A0 n0 cap0) n0 ((ls1 LV).flatMap encR) (by rfl) ((Kept.of_below (F := fun _ => False) (by (repeat' (first | (with_reducible exact Below.refl _ _) | (with_reducible assumption) | (with_reducible refine below_over ?_ _ _) | (with_reducible refine Lw.below_alloc ?_ _) | (with_reducible refine Below.drew ?_) | (with_reducible refine below_drewN ?_ _) | (with_reducible refine Below.setCell ?_ ?_ _) | go_size)))).own HOWN.out (fun _ _ h => h)) ⟨_, 0, none⟩ 1 1 [.int .i64 (LV : Int), .int .u64 (i : Int), .int .i64 n, .int .i64 R] (by rfl) (by rfl) (World.news_of_block (heap_alloc_new _ _)) (enc_oneK _ _ _ _) (by decide) (by unfold maxLen; omega) (by omega) (by have := HBS.out; simp; omega) _ (by rfl) ?_; intro g7 cap7 w7 hown7 hgrow7 hat7 hlt7; have HOX := Lib.hid (up_to HO10.out hgrow7 (by (repeat' (first | (with_reducible exact Below.refl _ _) | (with_reducible assumption) | (with_reducible refine below_over ?_ _ _) | (with_reducible refine Lw.below_alloc ?_ _) | (with_reducible refine Below.drew ?_) | (with_reducible refine below_drewN ?_ _) | (with_reducible refine Below.setCell ?_ ?_ _) | go_size)))); have x6 := hgrow7.cell (cell_up c6 (by (repeat' (first | (with_reducible exact Below.refl _ _) | (with_reducible assumption) | (with_reducible refine below_over ?_ _ _) | (with_reducible refine Lw.below_alloc ?_ _) | (with_reducible refine Below.drew ?_) | (with_reducible refine below_drewN ?_ _) | (with_reducible refine Below.setCell ?_ ?_ _) | go_size)))) (fun e => HNS.out e.symm); have x0 := hgrow7.cell (cell_up p0 (by (repeat' (first | (with_reducible exact Below.refl _ _) | (with_reducible assumption) | (with_reducible refine below_over ?_ _ _) | (with_reducible refine Lw.below_alloc ?_ _) | (with_reducible refine Below.drew ?_) | (with_reducible refine below_drewN ?_ _) | (with_reducible refine Below.setCell ?_ ?_ _) | go_size)))) (fun e => HN7.out e.symm); have x1 := hgrow7.cell (cell_up p1 (by (repeat' (first | (with_reducible exact Below.refl _ _) | (with_reducible assumption) | (with_reducible refine below_over ?_ _ _) | (with_reducible refine Lw.below_alloc ?_ _) | (with_reducible refine Below.drew ?_) | (with_reducible refine below_drewN ?_ _) | (with_reducible refine Below.setCell ?_ ?_ _) | go_size)))) (fun e => HN7.out e.symm); have xk := hgrow7.cell (cell_up k0 (by (repeat' (first | (with_reducible exact Below.refl _ _) | (with_reducible assumption) | (with_reducible refine below_over ?_ _ _) | (with_reducible refine Lw.below_alloc ?_ _) | (with_reducible refine Below.drew ?_) | (with_reducible refine below_drewN ?_ _) | (with_reducible refine Below.setCell ?_ ?_ _) | go_size)))) (fun e => HNK.out e.symm); have xf := Qnt.blk_frozen (row_grown hgrow7 (Qnt.blk_up HKR.out (by (repeat' (first | (with_reducible exact Below.refl _ _) | (with_reducible assumption) | (with_reducible refine below_over ?_ _ _) | (with_reducible refine Lw.below_alloc ?_ _) | (with_reducible refine Below.drew ?_) | (with_reducible refine below_drewN ?_ _) | (with_reducible refine Below.setCell ?_ ?_ _) | go_size)))) (fun e => HNK.out e.symm)) LV; have HW7 := Lib.hid hown7; have HG7 := Lib.hid hgrow7; have HA7 := Lib.hid hat7; clear hown7 hgrow7 hat7 hlt7)
          refine hK.out _ _ ⟨x6, x0, x1⟩ (fun hHeld => ?_)
          clear hK K
          (try simp only [List.getElem_toArray, List.getElem_cons_zero, List.getElem_cons_succ, Act.put, List.setIfInBounds_toArray, List.set_cons_zero, List.set_cons_succ])
          refine wpAnyH_take (i := 14) (v := ?_) rfl (by kernel_rfl) (by kernel_rfl) (by kernel_rfl) (fun _ _ _ h => h) (Or.inl ⟨by rfl, ?_⟩) hHeld ?_
          rotate_left
          · intro w hSw
            (try dsimp only at hSw)
            go_simp
            (try with_reducible rfl)
          (try simp only [List.getElem_toArray, List.getElem_cons_zero, List.getElem_cons_succ, Act.put, List.setIfInBounds_toArray, List.set_cons_zero, List.set_cons_succ])
          refine wpAnyH_ready (rs := [15]) (by kernel_rfl) (by simp) ?_
          refine AllReadyH.cons rfl (fun K hK => ?_) AllReadyH.nil
          go_simp
          refine hK.out _ _ ⟨cell_far x6 hsk, cell_far x0 h7k, cell_far x1 h7k⟩ (fun hHeld => ?_)
          clear hK K
          (try simp only [List.getElem_toArray, List.getElem_cons_zero, List.getElem_cons_succ, Act.put, List.setIfInBounds_toArray, List.set_cons_zero, List.set_cons_succ])
          refine wpAnyH_done (by kernel_rfl) ?_ _
          (try go_wp2_with fail)
          go_meet
          exact ⟨_, gk_app (fs := [boxT B15 151 #[.int .i64 (Wid.fh XL), .int .u64 (Wid.fl XL)], boxT B13 69 #[.int .i64 (LM : Int), .int .u64 (I3 : Int)], boxT B12 69 #[.int .i64 (LM : Int), .int .u64 (I2 : Int)]] ++ [_, _, _]) HOX.out HHV.out HN0.out (x := ((LV, i), n, R)) HW7.out HG7.out HA7.out⟩
        · go_simp
          refine hK.out _ _ ⟨cell_up c6 (by (repeat' (first | (with_reducible exact Below.refl _ _) | (with_reducible assumption) | (with_reducible refine below_over ?_ _ _) | (with_reducible refine Lw.below_alloc ?_ _) | (with_reducible refine Below.drew ?_) | (with_reducible refine below_drewN ?_ _) | (with_reducible refine Below.setCell ?_ ?_ _) | go_size))), cell_up p0 (by (repeat' (first | (with_reducible exact Below.refl _ _) | (with_reducible assumption) | (with_reducible refine below_over ?_ _ _) | (with_reducible refine Lw.below_alloc ?_ _) | (with_reducible refine Below.drew ?_) | (with_reducible refine below_drewN ?_ _) | (with_reducible refine Below.setCell ?_ ?_ _) | go_size))), cell_up p1 (by (repeat' (first | (with_reducible exact Below.refl _ _) | (with_reducible assumption) | (with_reducible refine below_over ?_ _ _) | (with_reducible refine Lw.below_alloc ?_ _) | (with_reducible refine Below.drew ?_) | (with_reducible refine below_drewN ?_ _) | (with_reducible refine Below.setCell ?_ ?_ _) | go_size)))⟩ (fun hHeld => ?_)
          clear hK K
          (try simp only [List.getElem_toArray, List.getElem_cons_zero, List.getElem_cons_succ, Act.put, List.setIfInBounds_toArray, List.set_cons_zero, List.set_cons_succ])
          refine wpAnyH_ready (rs := [7]) (by kernel_rfl) (by simp) ?_
          refine AllReadyH.cons rfl (fun K hK => ?_) AllReadyH.nil
          go_simp
          refine hK.out _ _ hHeld (fun hHeld => ?_)
          clear hK K
          (try simp only [List.getElem_toArray, List.getElem_cons_zero, List.getElem_cons_succ, Act.put, List.setIfInBounds_toArray, List.set_cons_zero, List.set_cons_succ])
          refine wpAnyH_ready (rs := [13]) (by kernel_rfl) (by simp) ?_
          refine AllReadyH.cons rfl (fun K hK => ?_) AllReadyH.nil
          (refine step_append_lies _ (by rfl) _ _ 45 (by rfl) B0 79 j0 (.agg #[.int .i64 0, .int .u64 0, .int .i64 0, .int .i64 0]) 4 32 rss_u hj_ hy0 hy1 hy2 (by rfl) (by decide) (.slice A0 n0 cap0) n0 ((ls1 LV).flatMap encR) (by rfl) ((Kept.of_below (F := fun _ => False) (by (repeat' (first | (with_reducible exact Below.refl _ _) | (with_reducible assumption) | (with_reducible refine below_over ?_ _ _) | (with_reducible refine Lw.below_alloc ?_ _) | (with_reducible refine Below.drew ?_) | (with_reducible refine below_drewN ?_ _) | (with_reducible refine Below.setCell ?_ ?_ _) | go_size)))).own HOWN.out (fun _ _ h => h)) ⟨_, 0, none⟩ 1 1 [.int .i64 (LV : Int), .int .u64 (i : Int), .int .i64 n, .int .i64 R] (by rfl) (by rfl) (World.news_of_block (heap_alloc_new _ _)) (enc_oneK _ _ _ _) (by decide) (by unfold maxLen; omega) (by omega) (by have := HBS.out; simp; omega) _ (by rfl) ?_; intro g7 cap7 w7 hown7 hgrow7 hat7 hlt7; have HOX := Lib.hid (up_to HO10.out hgrow7 (by (repeat' (first | (with_reducible exact Below.refl _ _) | (with_reducible assumption) | (with_reducible refine below_over ?_ _ _) | (with_reducible refine Lw.below_alloc ?_ _) | (with_reducible refine Below.drew ?_) | (with_reducible refine below_drewN ?_ _) | (with_reducible refine Below.setCell ?_ ?_ _) | go_size)))); have x6 := hgrow7.cell (cell_up c6 (by (repeat' (first | (with_reducible exact Below.refl _ _) | (with_reducible assumption) | (with_reducible refine below_over ?_ _ _) | (with_reducible refine Lw.below_alloc ?_ _) | (with_reducible refine Below.drew ?_) | (with_reducible refine below_drewN ?_ _) | (with_reducible refine Below.setCell ?_ ?_ _) | go_size)))) (fun e => HNS.out e.symm); have x0 := hgrow7.cell (cell_up p0 (by (repeat' (first | (with_reducible exact Below.refl _ _) | (with_reducible assumption) | (with_reducible refine below_over ?_ _ _) | (with_reducible refine Lw.below_alloc ?_ _) | (with_reducible refine Below.drew ?_) | (with_reducible refine below_drewN ?_ _) | (with_reducible refine Below.setCell ?_ ?_ _) | go_size)))) (fun e => HN7.out e.symm); have x1 := hgrow7.cell (cell_up p1 (by (repeat' (first | (with_reducible exact Below.refl _ _) | (with_reducible assumption) | (with_reducible refine below_over ?_ _ _) | (with_reducible refine Lw.below_alloc ?_ _) | (with_reducible refine Below.drew ?_) | (with_reducible refine below_drewN ?_ _) | (with_reducible refine Below.setCell ?_ ?_ _) | go_size)))) (fun e => HN7.out e.symm); have xk := hgrow7.cell (cell_up k0 (by (repeat' (first | (with_reducible exact Below.refl _ _) | (with_reducible assumption) | (with_reducible refine below_over ?_ _ _) | (with_reducible refine Lw.below_alloc ?_ _) | (with_reducible refine Below.drew ?_) | (with_reducible refine below_drewN ?_ _) | (with_reducible refine Below.setCell ?_ ?_ _) | go_size)))) (fun e => HNK.out e.symm); have xf := Qnt.blk_frozen (row_grown hgrow7 (Qnt.blk_up HKR.out (by (repeat' (first | (with_reducible exact Below.refl _ _) | (with_reducible assumption) | (with_reducible refine below_over ?_ _ _) | (with_reducible refine Lw.below_alloc ?_ _) | (with_reducible refine Below.drew ?_) | (with_reducible refine below_drewN ?_ _) | (with_reducible refine Below.setCell ?_ ?_ _) | go_size)))) (fun e => HNK.out e.symm)) LV; have HW7 := Lib.hid hown7; have HG7 := Lib.hid hgrow7; have HA7 := Lib.hid hat7; clear hown7 hgrow7 hat7 hlt7)
          refine hK.out _ _ ⟨x6, x0, x1⟩ (fun hHeld => ?_)
          clear hK K
          (try simp only [List.getElem_toArray, List.getElem_cons_zero, List.getElem_cons_succ, Act.put, List.setIfInBounds_toArray, List.set_cons_zero, List.set_cons_succ])
          refine wpAnyH_take (i := 14) (v := ?_) rfl (by kernel_rfl) (by kernel_rfl) (by kernel_rfl) (fun _ _ _ h => h) (Or.inl ⟨by rfl, ?_⟩) hHeld ?_
          rotate_left
          · intro w hSw
            (try dsimp only at hSw)
            go_simp
            (try with_reducible rfl)
          (try simp only [List.getElem_toArray, List.getElem_cons_zero, List.getElem_cons_succ, Act.put, List.setIfInBounds_toArray, List.set_cons_zero, List.set_cons_succ])
          refine wpAnyH_ready (rs := [15]) (by kernel_rfl) (by simp) ?_
          refine AllReadyH.cons rfl (fun K hK => ?_) AllReadyH.nil
          go_simp
          refine hK.out _ _ ⟨cell_far x6 hsk, cell_far x0 h7k, cell_far x1 h7k⟩ (fun hHeld => ?_)
          clear hK K
          (try simp only [List.getElem_toArray, List.getElem_cons_zero, List.getElem_cons_succ, Act.put, List.setIfInBounds_toArray, List.set_cons_zero, List.set_cons_succ])
          refine wpAnyH_done (by kernel_rfl) ?_ _
          (try go_wp2_with fail)
          go_meet
          exact ⟨_, gk_app (fs := [boxT B15 151 #[.int .i64 (Wid.fh XL), .int .u64 (Wid.fl XL)], boxT B13 69 #[.int .i64 (LM : Int), .int .u64 (I3 : Int)], boxT B12 69 #[.int .i64 (LM : Int), .int .u64 (I2 : Int)]] ++ [_, _, _]) HOX.out HHV.out HN0.out (x := ((LV, i), n, R)) HW7.out HG7.out HA7.out⟩
      case rest =>
        obtain ⟨hv2, hq⟩ := hcut
        have HO13 := Lib.hid hq
        clear hq p0 p1 c5 c6 k0 k1 k2 k3
        go_wp2_with (go_at_call 74; (with_reducible refine (HOF.out _).mono ?_); rintro e wf ⟨rfl, hb⟩; have HO14 := Lib.hid (HO13.out.up hb); clear hb; obtain ⟨z0, z1, z2, z3⟩ := hold_two HO14.out (b := B8) (e := 151) (v0 := .int .i64 0) (v1 := .int .u64 0) (by simp))
        have HOE : Hid (Hold (gkF kb ab hv) w ((wf.setCell ⟨B8, 0, none⟩ (.int .i64 (Wid.fh n))).setCell ⟨B8, 1, none⟩ (.int .u64 (Wid.fl n))) ([boxT B15 151 #[.int .i64 (Wid.fh XL), .int .u64 (Wid.fl XL)], boxT B13 69 #[.int .i64 (LM : Int), .int .u64 (I3 : Int)], boxT B12 69 #[.int .i64 (LM : Int), .int .u64 (I2 : Int)]] ++ [boxT B11 151 #[.int .i64 SH, .int .u64 SL], boxT B8 151 #[.int .i64 (Wid.fh n), .int .u64 (Wid.fl n)], boxT B7 69 #[.int .i64 (LV : Int), .int .u64 (i : Int)], gkT B0 kb ab N hv2 (putK ls1 LV ((LV, i), n, R)) b2])) := Lib.hid (put_two (fs := [boxT B15 151 #[.int .i64 (Wid.fh XL), .int .u64 (Wid.fl XL)], boxT B13 69 #[.int .i64 (LM : Int), .int .u64 (I3 : Int)], boxT B12 69 #[.int .i64 (LM : Int), .int .u64 (I2 : Int)]] ++ [_]) HO14.out (.int .i64 (Wid.fh n)) (.int .u64 (Wid.fl n)))
        obtain ⟨we, hwe⟩ : ∃ we, (wf.setCell ⟨B8, 0, none⟩ (.int .i64 (Wid.fh n))).setCell ⟨B8, 1, none⟩ (.int .u64 (Wid.fl n)) = we := ⟨_, rfl⟩
        rw [hwe] at HOE ⊢
        obtain ⟨v0, v1, -, -⟩ := hold_two HOE.out (b := B8) (e := 151) (v0 := .int .i64 (Wid.fh n)) (v1 := .int .u64 (Wid.fl n)) (by simp)
        refine bodyPost_ret (v := .agg #[.int .i64 (Wid.fh n), .int .u64 (Wid.fl n)]) (by simp [results, Tryz.results71, go_sem, v0, v1]) rfl ?_
        obtain ⟨g1, g2⟩ := gk_of HOE.out (B0 := B0) (kb := kb) (ab := ab) (N := N) (hv := hv2) (ls := (putK ls1 LV ((LV, i), n, R))) (b := b2) (by simp)
        exact ⟨by first | rfl | rw [if_neg hr], hv2, by rw [HLS.out, HBB.out, HB2.out]; exact g1, HOE.out.1, fun k hk => (g2 k hk).imp id (fun h => by omega)⟩
end Go.Proofs.YtmdkdjgamhaeoaaGreat.Hvy
/- The code's closure of layer 18, of any piece. Printed by wip/gen/hvy9.py. -/
namespace Go.Proofs.YtmdkdjgamhaeoaaGreat.Hvy
open Go Go.RowKit Go.Maps Lw Grd Lin Con Shp Sk Exa Lev Stk Pcs Spn Qnt
set_option linter.unusedVariables false
set_option linter.unusedSimpArgs false
set_option linter.unusedSimpArgs false
theorem gat_all (tb mb bb gb lb sb kb ab N BB B0 : Nat) (D : DataW Unit) (least : Int) (T : Nat → Nat → Option Int) (hT : ∀ (L i : Nat) (n : Int), T L i = some n → -9223372036854775808 ≤ n ∧ n ≤ 9223372036854775807) (hMT : MapT D T) (hB : BB ≤ 59) (hN : N = BB + 1) : ∀ L, L ≤ BB → ∀ i, i < 2 ^ (BB - L) → GatC tb mb bb gb lb sb kb ab N BB B0 D least T L i := by
  have e59 : (2 : Nat) ^ 59 = 576460752303423488 := rfl
  have hb : ∀ L i, i < 2 ^ (BB - L) → i < 576460752303423488 := fun L i h => by
    have h3 : 2 ^ (BB - L) ≤ 2 ^ 59 := Nat.pow_le_pow_right (by omega) (by omega)
    omega
  intro L
  induction L with
  | zero =>
    intro hL i hi
    cases hn : T 0 i with
    | none => exact gat_none tb mb bb gb lb sb kb ab N BB B0 D least T 0 i hMT hB hL (hb _ _ hi) hn
    | some n => exact gat_0 tb mb bb gb lb sb kb ab N BB B0 D least T i n hMT hB hN (hb _ _ hi) hn (hT _ _ _ hn).1 (hT _ _ _ hn).2
  | succ L ih =>
    intro hL i hi
    cases hn : T (L + 1) i with
    | none => exact gat_none tb mb bb gb lb sb kb ab N BB B0 D least T (L + 1) i hMT hB hL (hb _ _ hi) hn
    | some n => exact gat_S tb mb bb gb lb sb kb ab N BB B0 D least T L i n (fun j hj => ih (by omega) j hj) hT hMT hB hN hL hi hn
end Go.Proofs.YtmdkdjgamhaeoaaGreat.Hvy
/- The code's keep of layer 18: what it needs of numbers, and of memory. Printed by wip/gen/hvy9.py. -/
namespace Go.Proofs.YtmdkdjgamhaeoaaGreat.Hvy
open Go Go.RowKit Go.Maps Lw Grd Lin Con Shp Sk Exa Lev Stk Pcs Spn Qnt
set_option linter.unusedVariables false
set_option linter.unusedSimpArgs false
set_option linter.unusedSimpArgs false
/-- A map of one's own, as a thing. -/
def mapT (mb n : Nat) (D : DataW Unit) : Thing where
  I := fun w => w.ownsMap Tryz.prog 69 (plainElem Tryz.prog 2) mb n D
  F := fun k => k = mb
  keep := fun w w' H h hk hf => by
    obtain ⟨es, clock, h1, h2⟩ := h
    exact ⟨es, clock, hk.heap h1 (hf _ rfl), h2⟩
  lt := fun w h k hk => by
    subst hk
    exact World.ownsMap.lt h
theorem mapI {mb n : Nat} {D : DataW Unit} {w : World} (h : (mapT mb n D).I w) : w.ownsMap Tryz.prog 69 (plainElem Tryz.prog 2) mb n D := h
/-- What the map says in the end. -/
theorem map_told {pt : Nat → Int → Int} {least : Int} {B : Nat} {D : DataW Unit} (h : TD D (foundQ pt least B (B + 1))) : MapT D (toldQ pt least B) := by
  have hmem : ∀ L i n, ((L, i), n) ∈ foundQ pt least B (B + 1) ↔ toldQ pt least B L i = some n := fun L i n => by
    have ho := (told_ord pt least B).mem ((L, i), n)
    rw [← ho, mem_orderQ]
    constructor
    · intro h1
      obtain ⟨e, he, h2, -⟩ := mem_foundQ.1 h1
      exact ⟨h1, by omega⟩
    · exact fun h1 => h1.1
  intro L i hL hi
  obtain ⟨h1, h2, h3⟩ := h.2 L i hL hi
  refine ⟨fun n hn => ?_, fun hn => h2 (fun q hq e => ?_)⟩
  · have hm := (hmem L i n).2 hn
    exact ⟨h1 ⟨_, hm, rfl⟩, h3 n hm⟩
  · obtain ⟨p, n⟩ := q
    simp only at e
    subst e
    have := (hmem L i n).1 hq
    rw [hn] at this
    cases this
theorem found_in {pt : Nat → Int → Int} {least : Int} {B : Nat} {q : (Nat × Nat) × Int} (hB : B ≤ 59) (h : q ∈ foundQ pt least B (B + 1)) : q.1.1 ≤ 59 ∧ q.1.2 ≤ 576460752303423488 := by
  obtain ⟨e, he, h1, h2, -⟩ := mem_foundQ.1 h
  have h3 := askQ_lt h2
  have h4 : 2 ^ e ≤ 2 ^ 59 := Nat.pow_le_pow_right (by omega) (by omega)
  have e59 : (2 : Nat) ^ 59 = 576460752303423488 := rfl
  omega
theorem found_new {pt : Nat → Int → Int} {least : Int} {B t : Nat} {q : (Nat × Nat) × Int} (h : (foundQ pt least B (B + 1))[t]? = some q) : ∀ p ∈ (foundQ pt least B (B + 1)).take t, p.1 ≠ q.1 := by
  intro p hp
  obtain ⟨j, hj⟩ := List.getElem?_of_mem hp
  rw [List.getElem?_take] at hj
  split at hj
  · rename_i hlt
    have hr := foundQ_row pt least B (B + 1) (Nat.le_refl _)
    obtain ⟨h1, e1⟩ := List.getElem?_eq_some_iff.1 hj
    obtain ⟨h2, e2⟩ := List.getElem?_eq_some_iff.1 h
    have := List.pairwise_iff_getElem.1 hr j t h1 h2 hlt
    rw [e1, e2] at this
    exact this
  · cases hj
/-- No more is kept than is told. -/
theorem gTop_len (T : Nat → Nat → Option Int) (least : Int) (L i : Nat) : (gTop T least L i).length ≤ 1 := by
  unfold gTop
  cases T L i with
  | none => simp
  | some n =>
    simp only
    split <;> simp
theorem keepQ_len (T : Nat → Nat → Option Int) (least : Int) : ∀ o : List ((Nat × Nat) × Int), (keepQ T least o).length ≤ o.length
  | [] => Nat.le_refl _
  | q :: o => by
    have ih := keepQ_len T least o
    have h1 := gTop_len T least q.1.1 q.1.2
    unfold keepQ at ih ⊢
    rw [List.flatMap_cons, List.length_append, List.length_cons]
    omega
theorem order_le (B : Nat) {l : List ((Nat × Nat) × Int)} : ∀ n : Nat, ((List.range n).flatMap (fun L => l.filter (fun q => decide (q.1.1 = L)))).length ≤ (l.filter (fun q => decide (q.1.1 < n))).length := by
  intro n
  induction n with
  | zero => simp
  | succ n ih =>
    rw [List.range_succ, List.flatMap_append, List.length_append]
    have e : [n].flatMap (fun L => l.filter (fun q => decide (q.1.1 = L))) = l.filter (fun q => decide (q.1.1 = n)) := by simp
    rw [e]
    have h2 : (l.filter (fun q => decide (q.1.1 < n))).length + (l.filter (fun q => decide (q.1.1 = n))).length ≤ (l.filter (fun q => decide (q.1.1 < n + 1))).length := by
      clear ih e
      induction l with
      | nil => simp
      | cons q l ih =>
        simp only [List.filter_cons]
        by_cases h1 : q.1.1 < n
        · have h3 : ¬ q.1.1 = n := by omega
          have h4 : q.1.1 < n + 1 := by omega
          simp [h1, h3, h4]
          omega
        · by_cases h3 : q.1.1 = n
          · have h4 : q.1.1 < n + 1 := by omega
            have h5 : ¬ n < n := Nat.lt_irrefl n
            simp [h3, h5]
            omega
          · have h4 : ¬ q.1.1 < n + 1 := by omega
            simp [h1, h3, h4]
            exact ih
    omega
theorem cat_len (pt : Nat → Int → Int) (least : Int) (B : Nat) : (catK (fun M => gL (toldQ pt least B) least B 0 M) (B + 1)).length ≤ (foundQ pt least B (B + 1)).length := by
  have h1 : catK (fun M => gL (toldQ pt least B) least B 0 M) (B + 1) = keepQ (toldQ pt least B) least (orderQ B (foundQ pt least B (B + 1))) := (keep_levels pt least B).symm
  rw [h1]
  refine Nat.le_trans (keepQ_len _ _ _) (Nat.le_trans (order_le B (B + 1)) (List.length_filter_le _ _))
theorem one_cat (ls : Nat → List Kp) {M : Nat} : ∀ {n : Nat}, M < n → (ls M).length ≤ (catK ls n).length
  | 0, h => by omega
  | n + 1, h => by
    rw [catK_next, List.length_append]
    by_cases e : M = n
    · subst e
      omega
    · have := one_cat ls (M := M) (n := n) (by omega)
      omega
theorem lev_len (pt : Nat → Int → Int) (least : Int) (B M : Nat) : (gL (toldQ pt least B) least B 0 M).length ≤ (foundQ pt least B (B + 1)).length := by
  by_cases h : M ≤ B
  · exact Nat.le_trans (one_cat (fun M => gL (toldQ pt least B) least B 0 M) (show M < B + 1 by omega)) (cat_len pt least B)
  · rw [gL_above (by omega)]
    exact Nat.zero_le _
theorem told_bd {pt : Nat → Int → Int} {least : Int} {B : Nat} (h : ∀ L i, -9223372036854775808 ≤ pt L i ∧ pt L i ≤ 9223372036854775807) : ∀ (L i : Nat) (n : Int), toldQ pt least B L i = some n → -9223372036854775808 ≤ n ∧ n ≤ 9223372036854775807 := fun L i n hn => by
  obtain ⟨-, -, -, e⟩ := told_some.1 hn
  rw [e]
  exact h L _
theorem made_nil {N M : Nat} {v : Value} (hv : (madeCells #[Value.slice none 0 0] N)[M]? = some v) : v = .slice none 0 0 := by
  rw [← Array.getElem?_toList, toList_madeCells_one, List.getElem?_replicate] at hv
  split at hv
  · injection hv with hv
    exact hv.symm
  · cases hv
/-- What the closure turns, as it is made. -/
theorem gk_made {B0 kb ab N : Nat} {w : World} (hr : w.heap[kb]? = some (.cells (madeCells #[.slice none 0 0] N) 45 (0, 0))) (hf : w.heap[ab]? = some (.cells #[.bool true] 4 (0, 0))) (hne : kb ≠ ab) (h1 : kb < B0) (h2 : ab < B0) : GK B0 kb ab N (madeCells #[.slice none 0 0] N) (fun _ => []) true w := by
  have hs : (madeCells #[Value.slice none 0 0] N).size = N := size_madeCells _ N
  have hg : ∀ (M : Nat) v, (madeCells #[Value.slice none 0 0] N)[M]? = some v → v = .slice none 0 0 := fun M v hv => made_nil hv
  refine ⟨hs, hr, hf, fun M v hv => ?_, fun M v hv _ => hg M v hv, fun M M' v v' k _ hv _ hk => ?_, h1, h2, hne⟩
  · rw [hg M v hv]
    exact World.ownsRow_nil _ _ _ _
  · rw [hg M v hv] at hk
    cases hk
end Go.Proofs.YtmdkdjgamhaeoaaGreat.Hvy
/- The code's keep of layer 18, and Hier. Printed by wip/gen/hvy9.py. -/
namespace Go.Proofs.YtmdkdjgamhaeoaaGreat.Hvy
open Go Go.RowKit Go.Maps Lw Grd Lin Con Shp Sk Exa Lev Stk Pcs Spn Qnt
set_option linter.unusedVariables false
set_option linter.unusedSimpArgs false
set_option linter.unusedSimpArgs false
theorem four_new {w : World} {vs us zs : Array Value} {e f h : TypeId} : Have w ((((w.alloc (.cells vs e)).alloc (.cells us f)).alloc (.map #[] 0)).alloc (.cells zs h)) [boxT (w.heap.size + 1 + 1 + 1) h zs, mapT (w.heap.size + 1 + 1) 0 (.map []), boxT (w.heap.size + 1) f us, boxT w.heap.size e vs] := by
  have h1 := (Have.nil w).push (boxT w.heap.size e vs) (Lw.below_alloc (Below.refl _ _) _) (heap_alloc_new w _) (fun k hk => Nat.le_of_eq hk.symm)
  have h2 := h1.push (boxT (w.heap.size + 1) f us) (Lw.below_alloc (Below.refl _ _) (.cells us f)) (Qnt.blk_new (by simp)) (fun k hk => by have hk2 : k = w.heap.size + 1 := hk; simp; omega)
  have h3 := h2.push (mapT (w.heap.size + 1 + 1) 0 (.map [])) (Lw.below_alloc (Below.refl _ _) (.map #[] 0)) (by have h9 := World.ownsMap_made ((w.alloc (.cells vs e)).alloc (.cells us f)) Tryz.prog 69 (plainElem (H := Unit) Tryz.prog 2); simp at h9; exact h9) (fun k hk => by have hk2 : k = w.heap.size + 1 + 1 := hk; simp; omega)
  exact h3.push (boxT (w.heap.size + 1 + 1 + 1) h zs) (Lw.below_alloc (Below.refl _ _) (.cells zs h)) (Qnt.blk_new (by simp)) (fun k hk => by have hk2 : k = w.heap.size + 1 + 1 + 1 := hk; simp; omega)
theorem three_new {w0 w : World} {ts : List Thing} (h : Have w0 w ts) {vs us zs : Array Value} {e f h' : TypeId} : Have w0 (((w.alloc (.cells vs e)).alloc (.cells us f)).alloc (.cells zs h')) (boxT (w.heap.size + 1 + 1) h' zs :: boxT (w.heap.size + 1) f us :: boxT w.heap.size e vs :: ts) := by
  have h1 := h.push (boxT w.heap.size e vs) (Lw.below_alloc (Below.refl _ _) _) (heap_alloc_new w _) (fun k hk => Nat.le_of_eq hk.symm)
  have h2 := h1.push (boxT (w.heap.size + 1) f us) (Lw.below_alloc (Below.refl _ _) (.cells us f)) (Qnt.blk_new (by simp)) (fun k hk => by have hk2 : k = w.heap.size + 1 := hk; simp; omega)
  exact h2.push (boxT (w.heap.size + 1 + 1) h' zs) (Lw.below_alloc (Below.refl _ _) (.cells zs h')) (Qnt.blk_new (by simp)) (fun k hk => by have hk2 : k = w.heap.size + 1 + 1 := hk; simp; omega)
theorem box_put1 {w0 w : World} {b : Nat} {e : TypeId} {u : Value} {ts : List Thing} (h : Have w0 w (boxT b e #[u] :: ts)) (v : Value) : Have w0 (w.setCell ⟨b, 0, none⟩ v) (boxT b e #[v] :: ts) := by
  have h2 : w.heap[b]? = some (.cells #[u] e (0, 0)) := h.1
  refine h.turn0 (boxT b e #[v]) ?_ ((Kept.refl (fun k => k = b) w).set (.inl rfl) 0 v) (fun k hk => .inl hk)
  show (w.setCell ⟨b, 0, none⟩ v).heap[b]? = some (.cells #[v] e (0, 0))
  simp [World.setCell, Array.getElem?_modify, h2]
theorem have_ip {w0 w : World} {ts : List Thing} (h : Have w0 w ts) {j : Nat} {t : Thing} (ht : ts[j]? = some t) : t.I w := (h.one t (List.mem_of_getElem? ht)).1
theorem rows_of {B0 kb ab N : Nat} {hv : Array Value} {ls : Nat → List Kp} {b : Bool} {w : World} (h : GK B0 kb ab N hv ls b w) : Rows4 w kb N (fun M => (hv[M]?).getD undef) ls := by
  have hg : ∀ M, M < N → ∃ v, hv[M]? = some v := fun M hM => ⟨_, Array.getElem?_eq_getElem (by rw [h.size]; exact hM)⟩
  refine ⟨fun M hM => ?_, fun M hM => ?_, fun M hM h0 => ?_⟩
  · obtain ⟨v, hv_⟩ := hg M hM
    simp only [hv_, Option.getD_some]
    exact box_cell (w := w) (b := kb) h.row hv_
  · obtain ⟨v, hv_⟩ := hg M hM
    simp only [hv_, Option.getD_some]
    exact ⟨B0, h.own M v hv_⟩
  · obtain ⟨v, hv_⟩ := hg M hM
    simp only [hv_, Option.getD_some]
    exact h.nil M v hv_ h0
theorem map_turn2 {w0 w w' : World} {t0 t1 : Thing} {mb n : Nat} {D D' : DataW Unit} {ts : List Thing} (h : Have w0 w (t0 :: t1 :: mapT mb n D :: ts)) (hown : w'.ownsMap Tryz.prog 69 (plainElem Tryz.prog 2) mb (n + 1) D') (hg : w.grownBy w' (some mb)) : Have w0 w' (t0 :: t1 :: mapT mb (n + 1) D' :: ts) :=
  h.turn_2 (mapT mb (n + 1) D') hown ((Kept.refl (fun k => k = mb) w).grown hg (fun q hq => by injection hq with hq; exact .inl hq.symm)) (fun k hk => .inl hk)
set_option maxRecDepth 100000 in
set_option maxHeartbeats 8000000 in
theorem keep_any (pt : Nat → Int → Int) (least : Int) (BB : Nat) (A : Option Addr) (n cap : Nat) (w : World) (hrow : (stRowT 3 encF A n cap (foundQ pt least BB (BB + 1))).I w) (hpt : ∀ L i, -9223372036854775808 ≤ pt L i ∧ pt L i ≤ 9223372036854775807) (hB : BB ≤ 59) (hn : n ≤ 4096) :
    Calls Tryz.prog 46 #[.int .i64 (BB : Int), .slice A n cap, .int .i64 least] w fun e w' => ∃ (A2 : Option Addr) (n2 cap2 : Nat), e = .returned (.tuple #[.slice A2 n2 cap2, .bool (gF (toldQ pt least BB) least BB 0)]) ∧ w'.ownsRow w.heap.size 79 4 (.slice A2 n2 cap2) n2 ((catK (fun M => gL (toldQ pt least BB) least BB 0 M) (BB + 1)).flatMap encR) ∧ n2 = (catK (fun M => gL (toldQ pt least BB) least BB 0 M) (BB + 1)).length ∧ Below w.heap.size w w' := by
  have hlen : (foundQ pt least BB (BB + 1)).length = n := (strI hrow).len
  have HLEN := Lib.hid hlen
  have HR := Lib.hid hrow
  have hfi := fun (q : (Nat × Nat) × Int) (h : q ∈ (foundQ pt least BB (BB + 1))) => found_in hB h
  have HFI := Lib.hid hfi
  have hfb : ∀ q ∈ (foundQ pt least BB (BB + 1)), -9223372036854775808 ≤ q.2 ∧ q.2 ≤ 9223372036854775807 := fun q hq => by
    obtain ⟨e, he, h1, h2, h3, h4⟩ := mem_foundQ.1 hq
    rw [h4]
    exact hpt _ _
  have HFB := Lib.hid hfb
  have HFW := Lib.hid (fun t q h => found_new (pt := pt) (least := least) (B := BB) (t := t) (q := q) h)
  have HLL := Lib.hid (lev_len pt least BB)
  have HCL := Lib.hid (cat_len pt least BB)
  have HTB := Lib.hid (told_bd (least := least) (B := BB) hpt)
  have HB59 : Hid (BB ≤ 59) := Lib.hid hB
  have hmf : ∀ (fn : Fn) (first cap : Array Value) (w : World), (Instr.makeFunc fn first cap).run Tryz.prog w = .ok (.func fn first cap) w := fun _ _ _ _ => rfl
  have hmm := @run_makeMap Tryz.prog
  have hmk : ∀ w, (Instr.makeSlice 148 (.int .i64 ((BB : Int) + 1)) (.int .i64 ((BB : Int) + 1))).run Tryz.prog w = .ok (.slice (some ⟨w.heap.size, 0, none⟩) (BB + 1) (BB + 1)) (w.alloc (.cells (madeCells #[.slice none 0 0] (BB + 1)) 45)) := fun w =>
    run_make_row' 148 45 (.slice none 0 0) 24 rsss_u (by kernel_rfl) rfl .i64 .i64 (BB + 1) (by omega) (by omega) w
  have wB : wrap64 ((BB : Int) + 1) = (BB : Int) + 1 := IntWalk.wrap64_in _ ⟨by omega, by omega⟩
  obtain ⟨FT, hFT⟩ : ∃ x, gF (toldQ pt least BB) least BB 0 = x := ⟨_, rfl⟩
  rw [hFT]
  have HFT := Lib.hid hFT
  clear hFT
  obtain ⟨FL, hFL⟩ : ∃ l, (foundQ pt least BB (BB + 1)) = l := ⟨_, rfl⟩
  rw [hFL] at HLEN HR HFI HFB HFW HLL HCL
  have HFL := Lib.hid hFL
  clear hlen hrow hfi hfb hpt hB hFL
  go_enter Tryz.func46, Tryz.ntmps46
  go_upto_region 2 with fail
  have HV0 : Hid (Have w ((((w.alloc (.cells #[.int .i64 (BB : Int)] 3)).alloc (.cells #[.int .i64 least] 2)).alloc (.map #[] 0)).alloc (.cells #[.map (some (w.heap.size + 1 + 1))] 147)) [boxT (w.heap.size + 1 + 1 + 1) 147 #[.map (some (w.heap.size + 1 + 1))], mapT (w.heap.size + 1 + 1) 0 (.map []), boxT (w.heap.size + 1) 2 #[.int .i64 least], boxT w.heap.size 3 #[.int .i64 (BB : Int)]]) := Lib.hid four_new
  obtain ⟨BX, hBX⟩ : ∃ k, w.heap.size = k := ⟨_, rfl⟩
  obtain ⟨W2, hW2⟩ : ∃ X, (((w.alloc (.cells #[.int .i64 (BB : Int)] 3)).alloc (.cells #[.int .i64 least] 2)).alloc (.map #[] 0)).alloc (.cells #[.map (some (w.heap.size + 1 + 1))] 147) = X := ⟨_, rfl⟩
  rw [hW2] at HV0 ⊢
  rw [hBX] at HV0 ⊢
  obtain ⟨LB, hLB⟩ : ∃ k, BX + 1 = k := ⟨_, rfl⟩
  rw [hLB] at HV0 ⊢
  obtain ⟨MB, hMB⟩ : ∃ k, LB + 1 = k := ⟨_, rfl⟩
  rw [hMB] at HV0 ⊢
  obtain ⟨TB, hTB⟩ : ∃ k, MB + 1 = k := ⟨_, rfl⟩
  rw [hTB] at HV0 ⊢
  clear hW2
  go_upto_region 3 with fail
  go_loopw [17] (fun iv wr => ∃ (t : Nat) (D : DataW Unit), t ≤ n ∧ iv = .int .i64 (t : Int) ∧ TD D (FL.take t) ∧ Have w wr [boxT TB 147 #[.map (some MB)], mapT MB t D, boxT LB 2 #[.int .i64 least], boxT BX 3 #[.int .i64 (BB : Int)]]) (fun iv _ => 5000 - (intOf iv).toNat)
  case atStart => exact ⟨0, .map [], Nat.zero_le _, rfl, TD.nil, HV0.out⟩
  case round =>
    obtain ⟨t, D, ht, rfl, hD, hv⟩ := hrel
    have HVr := Lib.hid hv
    have HTD := Lib.hid hD
    clear hv hD
    by_cases hmore : t < n
    · have lt0 : (0 : Int) ≤ (t : Int) := by omega
      have lt1 : (t : Int) < (n : Int) := by omega
      obtain ⟨q, hq⟩ : ∃ q, FL[t]? = some q := ⟨_, List.getElem?_eq_getElem (by rw [HLEN.out]; exact hmore)⟩
      have hqm := List.mem_of_getElem? hq
      obtain ⟨q1, q2⟩ := HFI.out q hqm
      obtain ⟨q3, q4⟩ := HFB.out q hqm
      have hnew := HFW.out t q hq
      have htk := take_next hq
      have HRR := Lib.hid ((strI HR.out).up HVr.out.below)
      obtain ⟨aa, g, o, rfl, hadd, hat⟩ := HRR.out.at hq (v0 := .int .i64 (q.1.1 : Int)) rfl
      have r0 := hat 0 (.int .i64 (q.1.1 : Int)) rfl
      have r1 := hat 1 (.int .u64 (q.1.2 : Int)) rfl
      have r2 := hat 2 (.int .i64 q.2) rfl
      rw [Nat.add_zero] at r0
      have HPK := Lib.hid (pkl_ok (L := q.1.1) (i := q.1.2) q1 q2)
      have HWF : Hid ((Lit.int .i64 q.2).wf = true) := Lib.hid (WalkArith.wf_i64 ⟨q3, q4⟩)
      have HTN := Lib.hid (HTD.out.put (n := q.2) q1 q2 hnew)
      have hqe : FL.take (t + 1) = FL.take t ++ [((q.1.1, q.1.2), q.2)] := htk
      rw [← hqe] at HTN
      obtain ⟨ql, hql⟩ : ∃ v, q.1.1 = v := ⟨_, rfl⟩
      obtain ⟨qi, hqi⟩ : ∃ v, q.1.2 = v := ⟨_, rfl⟩
      obtain ⟨qn, hqn⟩ : ∃ v, q.2 = v := ⟨_, rfl⟩
      rw [hql] at r0 HPK HTN
      rw [hqi] at r1 HPK HTN
      rw [hqn] at r2 HWF HTN
      clear hat hq hqm q1 q2 q3 q4 hnew htk hqe hql hqi hqn
      go_upto_region 5 with fail
      have HVb := Lib.hid (HVr.out.push (boxT wr.heap.size 71 #[.int .i64 (ql : Int), .int .u64 (qi : Int), .int .i64 qn]) (Lw.below_alloc (Below.refl _ _) _) (heap_alloc_new wr _) (fun k hk => Nat.le_of_eq hk.symm))
      obtain ⟨WB, hWB⟩ : ∃ X, wr.alloc (.cells #[.int .i64 (ql : Int), .int .u64 (qi : Int), .int .i64 qn] 71) = X := ⟨_, rfl⟩
      rw [hWB] at HVb ⊢
      obtain ⟨u0, u1, u2⟩ := cbox3r HVb.out.i0
      have u3 := box_cell HVb.out.i1 (i := 0) rfl
      have HMP := Lib.hid (mapI HVb.out.i2)
      clear hWB r0 r1 r2
      go_wp2_with (at_mapUpdate; refine wpList_mapUpdate_own _ rfl _ _ _ _ rfl 69 2 pk_law mp_u (plainElem Tryz.prog 2) MB t D rfl HMP.out (by unfold maxLen; omega) _ _ (pkl ql qi) rfl rfl HPK.out _ [] (plainElem_int mp_e HWF.out) ?_; intro w7 hown7 hgrow7)
      have HV7 := Lib.hid (map_turn2 HVb.out hown7 hgrow7)
      go_roundw
      case rel => exact ⟨t + 1, _, by omega, by go_num, HTN.out, HV7.out.drop_0.up (by repeat' (first | (with_reducible exact Below.refl _ _) | (with_reducible assumption) | (with_reducible refine below_over ?_ _ _) | (with_reducible refine Lw.below_alloc ?_ _) | (with_reducible refine Below.drew ?_) | (with_reducible refine below_drewN ?_ _) | (with_reducible refine Below.setCell ?_ ?_ _) | go_size))⟩
      case measure => simp [intOf]; omega
    · have lt1 : ¬ (t : Int) < (n : Int) := by omega
      have et : FL.take t = FL := List.take_of_length_le (by rw [HLEN.out]; omega)
      rw [et] at HTD
      have HMT0 := HTD.out
      rw [← HFL.out] at HMT0
      have HMT := Lib.hid (map_told HMT0)
      have HT5 : Hid (t ≤ 5000) := Lib.hid (by omega)
      clear et HMT0 hmore ht
      have u3 := box_cell HVr.out.i3 (i := 0) rfl
      go_upto_region 8 with fail
      have HV8 := Lib.hid (three_new HVr.out (vs := madeCells #[.slice none 0 0] (BB + 1)) (us := #[.slice (some ⟨wr.heap.size, 0, none⟩) (BB + 1) (BB + 1)]) (zs := #[.bool true]) (e := 45) (f := 148) (h' := 4))
      obtain ⟨KB, hKB⟩ : ∃ k, wr.heap.size = k := ⟨_, rfl⟩
      obtain ⟨W8, hW8⟩ : ∃ X, ((wr.alloc (.cells (madeCells #[.slice none 0 0] (BB + 1)) 45)).alloc (.cells #[.slice (some ⟨wr.heap.size, 0, none⟩) (BB + 1) (BB + 1)] 148)).alloc (.cells #[.bool true] 4) = X := ⟨_, rfl⟩
      rw [hW8] at HV8 ⊢
      rw [hKB] at HV8 ⊢
      obtain ⟨SB, hSB⟩ : ∃ k, KB + 1 = k := ⟨_, rfl⟩
      rw [hSB] at HV8 ⊢
      obtain ⟨AB, hAB⟩ : ∃ k, SB + 1 = k := ⟨_, rfl⟩
      rw [hAB] at HV8 ⊢
      clear hW8 u3
      go_upto_region 9 with fail
      have HV9 := Lib.hid (HV8.out.push (boxT W8.heap.size 149 #[.nilFunc]) (Lw.below_alloc (Below.refl _ _) _) (heap_alloc_new W8 _) (fun k hk => Nat.le_of_eq hk.symm))
      obtain ⟨GB, hGB⟩ : ∃ k, W8.heap.size = k := ⟨_, rfl⟩
      obtain ⟨W9, hW9⟩ : ∃ X, W8.alloc (.cells #[.nilFunc] 149) = X := ⟨_, rfl⟩
      rw [hW9] at HV9 ⊢
      rw [hGB] at HV9 ⊢
      clear hW9
      have g0 := box_cell HV9.out.i0 (i := 0) rfl
      have g1 := Qnt.blk_frozen HV9.out.i0 0
      go_upto_region 10 with fail
      have HV10 := Lib.hid (box_put1 HV9.out (.func (.func 71) #[] #[.pointer (some ⟨TB, 0, none⟩), .pointer (some ⟨BX, 0, none⟩), .pointer (some ⟨GB, 0, none⟩), .pointer (some ⟨AB, 0, none⟩), .pointer (some ⟨LB, 0, none⟩), .pointer (some ⟨SB, 0, none⟩)]))
      obtain ⟨W10, hW10⟩ : ∃ X, W9.setCell ⟨GB, 0, none⟩ (.func (.func 71) #[] #[.pointer (some ⟨TB, 0, none⟩), .pointer (some ⟨BX, 0, none⟩), .pointer (some ⟨GB, 0, none⟩), .pointer (some ⟨AB, 0, none⟩), .pointer (some ⟨LB, 0, none⟩), .pointer (some ⟨SB, 0, none⟩)]) = X := ⟨_, rfl⟩
      rw [hW10] at HV10 ⊢
      clear hW10 g0 g1
      have hlt1 : TB < KB := by rw [← hKB]; exact heap_lt HVr.out.i0
      have hlt2 : AB < GB := by rw [← hGB]; exact heap_lt HV8.out.i0
      have HC10 : Hid (CTI TB MB BX GB LB SB KB (BB + 1) BB D least (fnV TB BX GB AB LB SB) W10) := Lib.hid ⟨box_cell (have_ip HV10.out (j := 4) rfl) (i := 0) rfl, World.ownsMap.mono (mapI (have_ip HV10.out (j := 5) rfl)) HT5.out, box_cell (have_ip HV10.out (j := 7) rfl) (i := 0) rfl, box_cell (have_ip HV10.out (j := 0) rfl) (i := 0) rfl, box_cell (have_ip HV10.out (j := 6) rfl) (i := 0) rfl, box_cell (have_ip HV10.out (j := 2) rfl) (i := 0) rfl⟩
      have HG10 := Lib.hid (gk_made (B0 := W10.heap.size) (have_ip HV10.out (j := 3) rfl) (have_ip HV10.out (j := 1) rfl) (by omega) (heap_lt (have_ip HV10.out (j := 3) rfl)) (heap_lt (have_ip HV10.out (j := 1) rfl)))
      have HD10 : Hid (∀ k, ctF TB MB BX GB LB SB k → ¬ gkF KB AB (madeCells #[.slice none 0 0] (BB + 1)) k) := Lib.hid (fun k hk h1 => by
        unfold ctF at hk
        rcases h1 with h1 | h1 | ⟨M, v, h1, h2⟩
        · omega
        · omega
        · rw [made_nil h1] at h2
          cases h2)
      have hgat := gat_all TB MB BX GB LB SB KB AB (BB + 1) BB W10.heap.size D least (toldQ pt least BB) HTB.out HMT.out HB59.out rfl BB (Nat.le_refl _) 0 (Nat.two_pow_pos _) (madeCells #[.slice none 0 0] (BB + 1)) (fun _ => []) true W10 HC10.out HG10.out HD10.out (fun M => by
        have h5 := HLL.out M
        have h6 := HLEN.out
        simp only [List.nil_append]
        omega) (Nat.le_refl _)
      have HGAT : Hid (Calls Tryz.prog 71 #[.agg #[.int .i64 (BB : Int), .int .u64 0], .pointer (some ⟨TB, 0, none⟩), .pointer (some ⟨BX, 0, none⟩), .pointer (some ⟨GB, 0, none⟩), .pointer (some ⟨AB, 0, none⟩), .pointer (some ⟨LB, 0, none⟩), .pointer (some ⟨SB, 0, none⟩)] W10 fun e w' => ∃ hv' : Array Value, e = .returned (.agg #[.int .i64 (Wid.fh (gW (toldQ pt least BB) least BB 0)), .int .u64 (Wid.fl (gW (toldQ pt least BB) least BB 0))]) ∧ GK W10.heap.size KB AB (BB + 1) hv' (fun M => gL (toldQ pt least BB) least BB 0 M) (gF (toldQ pt least BB) least BB 0) w' ∧ Kept (gkF KB AB (madeCells #[.slice none 0 0] (BB + 1))) W10 w' ∧ (∀ k, gkF KB AB hv' k → gkF KB AB (madeCells #[.slice none 0 0] (BB + 1)) k ∨ W10.heap.size ≤ k)) := Lib.hid hgat
      have HWK : Hid (w.heap.size ≤ KB) := Lib.hid (by rw [← hKB]; exact HVr.out.below.size)
      have HBLO : Hid (∀ q, gkF KB AB (madeCells #[.slice none 0 0] (BB + 1)) q → w.heap.size ≤ q) := Lib.hid (fun q h1 => by
        rcases h1 with h1 | h1 | ⟨M, v, h1, h2⟩
        · have h5 := HWK.out; omega
        · have h5 := HWK.out; omega
        · rw [made_nil h1] at h2
          cases h2)
      rw [HFT.out] at HGAT
      have b0 := HC10.out.bcell
      have b1 : W10.cell? ⟨GB, 0, none⟩ = some (.func (.func 71) #[] #[.pointer (some ⟨TB, 0, none⟩), .pointer (some ⟨BX, 0, none⟩), .pointer (some ⟨GB, 0, none⟩), .pointer (some ⟨AB, 0, none⟩), .pointer (some ⟨LB, 0, none⟩), .pointer (some ⟨SB, 0, none⟩)]) := HC10.out.gcell
      clear hgat
      go_upto_region 11 with (go_at_call 71; (with_reducible refine HGAT.out.mono ?_); rintro e w6 ⟨hvq, rfl, hg6, hk6, hF6⟩; have HG6 := Lib.hid hg6; have HC6 := Lib.hid (HC10.out.keep hk6 HD10.out); have HL6 := Lib.hid (hk6.low HV10.out.below HV10.out.below.size HBLO.out); clear hg6 hk6 hF6)
      have HRW := Lib.hid (rows_of HG6.out)
      have HCAT := Lib.hid (fun w' h => concat_any KB (BB + 1) (fun M => (hvq[M]?).getD undef) (fun M => gL (toldQ pt least BB) least BB 0 M) w' h (by have := HB59.out; omega) (by have h5 := HCL.out; have h6 := HLEN.out; omega))
      have x0 := HC6.out.scell
      have x1 := box_cell (w := w6) (b := AB) (e := 4) (vs := #[.bool FT]) HG6.out.flag (i := 0) rfl
      clear b0 b1
      go_cut [6, 7] (fun s6 s7 wx => ∃ (A2 : Option Addr) (n2 cap2 : Nat), s6 = .slice A2 n2 cap2 ∧ s7 = .bool FT ∧ wx.ownsRow w6.heap.size 79 4 (.slice A2 n2 cap2) n2 ((catK (fun M => gL (toldQ pt least BB) least BB 0 M) (BB + 1)).flatMap encR) ∧ Hid (n2 = (catK (fun M => gL (toldQ pt least BB) least BB 0 M) (BB + 1)).length) ∧ Below w6.heap.size w6 wx)
      case first =>
        go_region_held3 (fun w' => w'.cell? ⟨SB, 0, none⟩ = some (.slice (some ⟨KB, 0, none⟩) (BB + 1) (BB + 1)) ∧ w'.cell? ⟨AB, 0, none⟩ = some (.bool FT)) (first | (exact ⟨y0, y1⟩) | (exact ⟨cell_up x0 (by (repeat' (first | (with_reducible exact Below.refl _ _) | (with_reducible assumption) | (with_reducible refine below_over ?_ _ _) | (with_reducible refine Lw.below_alloc ?_ _) | (with_reducible refine Below.drew ?_) | (with_reducible refine below_drewN ?_ _) | (with_reducible refine Below.setCell ?_ ?_ _) | go_size))), cell_up x1 (by (repeat' (first | (with_reducible exact Below.refl _ _) | (with_reducible assumption) | (with_reducible refine below_over ?_ _ _) | (with_reducible refine Lw.below_alloc ?_ _) | (with_reducible refine Below.drew ?_) | (with_reducible refine below_drewN ?_ _) | (with_reducible refine Below.setCell ?_ ?_ _) | go_size)))⟩)) (first
          | (go_at_call 75; (with_reducible refine (HCAT.out _ (HRW.out.up (by (repeat' (first | (with_reducible exact Below.refl _ _) | (with_reducible assumption) | (with_reducible refine below_over ?_ _ _) | (with_reducible refine Lw.below_alloc ?_ _) | (with_reducible refine Below.drew ?_) | (with_reducible refine below_drewN ?_ _) | (with_reducible refine Below.setCell ?_ ?_ _) | go_size))))).mono ?_); rintro e w8 ⟨A2, n2, cap2, rfl, hown, hn2, hb⟩; have HOW := Lib.hid hown; have HN2 := Lib.hid hn2; have HBW : Hid (Below w6.heap.size w6 w8) := Lib.hid (below_call (by (repeat' (first | (with_reducible exact Below.refl _ _) | (with_reducible assumption) | (with_reducible refine below_over ?_ _ _) | (with_reducible refine Lw.below_alloc ?_ _) | (with_reducible refine Below.drew ?_) | (with_reducible refine below_drewN ?_ _) | (with_reducible refine Below.setCell ?_ ?_ _) | go_size))) hb (Nat.le_refl _)); have y0 := cell_up x0 HBW.out; have y1 := cell_up x1 HBW.out; clear hown hn2 hb))
        all_goals (try go_wp2_with fail)
        all_goals go_meet
        all_goals exact ⟨A2, n2, cap2, rfl, rfl, HOW.out, HN2, HBW.out⟩
      case rest =>
        obtain ⟨A2, n2, cap2, rfl, rfl, hown, HN2, hb⟩ := hcut
        have HOW := Lib.hid hown
        have HBW := Lib.hid hb
        clear hown hb x0 x1
        go_wp2
        refine bodyPost_ret (v := .tuple #[.slice A2 n2 cap2, .bool FT]) (by simp [results, Tryz.results46, go_sem]) rfl ?_
        exact ⟨A2, n2, cap2, rfl, own_base HOW.out HL6.out.size, HN2.out, HL6.out.trans (HBW.out.mono HL6.out.size)⟩
end Go.Proofs.YtmdkdjgamhaeoaaGreat.Hvy
/- The code's calls of layer 18: Heavy and Hier. Printed by wip/gen/hvy9.py. -/
namespace Go.Proofs.YtmdkdjgamhaeoaaGreat.Hvy
open Go Go.RowKit Lw Grd Lin Con Shp Sk Exa Lev Stk Pcs Spn Qnt
set_option linter.unusedVariables false
set_option linter.unusedSimpArgs false
set_option linter.unusedSimpArgs false
theorem hv_zero {c : Cfg} {pt : Nat → Int → Int} {least bud : Int} (h : hvC c pt least bud = 0) : bud ≤ 4096 ∧ ((countQ pt least c.bt.toNat (c.bt.toNat + 1) : Nat) : Int) ≤ bud ∧ hvL c pt least bud = foundQ pt least c.bt.toNat (c.bt.toNat + 1) := by
  have h1 : ¬ (least < 1 ∨ 4096 < bud) := fun h2 => by rw [(hv_arg h2).1] at h; cases h
  have h2 : ¬ bud < ((countQ pt least c.bt.toNat (c.bt.toNat + 1) : Nat) : Int) := fun h3 => by rw [(hv_over (by omega) (by omega) h3).1] at h; cases h
  exact ⟨by omega, by omega, (hv_yes (by omega) (by omega) (by omega)).2⟩
theorem hier_gat (c : Cfg) (pt : Nat → Int → Int) (least : Int) : hierQ c pt least = if gF (toldQ pt least c.bt.toNat) least c.bt.toNat 0 = true then some (catK (fun M => gL (toldQ pt least c.bt.toNat) least c.bt.toNat 0 M) (c.bt.toNat + 1)) else none := gat_hier pt least c.bt.toNat
set_option maxRecDepth 100000 in
set_option maxHeartbeats 4000000 in
theorem hv_hier (p : Addr) (F : Nat → Prop) (c : Cfg) (sts : List LS) (least bud : Int) (w : World) (h : ST w p F c sts) (l0 : -9223372036854775808 ≤ least) (l1 : least ≤ 9223372036854775807) (u0 : -9223372036854775808 ≤ bud) (u1 : bud ≤ 9223372036854775807) :
    Calls Tryz.prog 17 #[.pointer (some p), .int .i64 least, .int .i64 bud] w fun e w' => ∃ (A : Option Addr) (n cap : Nat), e = .returned (.tuple #[.slice A n cap, .int .i64 (hrC c (fun L i => spV c sts (L : Int) i) least bud)]) ∧ (stRowT 4 encR A n cap (hrL c (fun L i => spV c sts (L : Int) i) least bud)).I w' ∧ (∀ q, (stRowT 4 encR A n cap (hrL c (fun L i => spV c sts (L : Int) i) least bud)).F q → w.heap.size ≤ q) ∧ Below w.heap.size w w' := by
  have CH := Lib.hid (hv_heavy p F c sts least bud w h l0 l1 u0 u1)
  have HS := Lib.hid h
  have CC := Lib.hid (fun w hs => cs_config p F c sts w hs)
  have hbt := h.1.1
  have hbt2 := h.1.2.1
  by_cases hc : hvC c (fun L i => spV c sts (L : Int) i) least bud = 0
  · obtain ⟨z1, z2, z3⟩ := hv_zero hc
    have hhg := hier_gat c (fun L i => spV c sts (L : Int) i) least
    have hcl := cat_len (fun L i => spV c sts (L : Int) i) least c.bt.toNat
    have hfl := foundQ_le (fun L i => spV c sts (L : Int) i) least c.bt.toNat (c.bt.toNat + 1)
    obtain ⟨BB, hBB⟩ : ∃ B, c.bt.toNat = B := ⟨_, rfl⟩
    have hcb : c.bt = (BB : Int) := by omega
    have hfd : ∀ w, (Instr.field 24 (.agg #[.int .i64 c.bt, .int .i64 c.rw, .int .i64 c.wd, .int .i64 c.md, .int .u64 c.sd]) 0).run Tryz.prog w = .ok (.int .i64 (BB : Int)) w := fun w => by
      have h5 := cfg_bt c w
      rw [h5, hcb]
    rw [hBB] at z2 z3 hhg hcl hfl
    rw [hc, z3] at CH
    have HKP := Lib.hid (fun A n cap w hr hn => keep_any (fun L i => spV c sts (L : Int) i) least BB A n cap w hr (fun L i => sp_in16 HS.out (L : Int) i) (by omega) hn)
    by_cases hg : gF (toldQ (fun L i => spV c sts (L : Int) i) least BB) least BB 0 = true
    · rw [if_pos hg] at hhg
      obtain ⟨y1, y2⟩ := hr_yes hc hhg
      rw [y1, y2]
      rw [hg] at HKP
      have HFL := Lib.hid (show (foundQ (fun L i => spV c sts (L : Int) i) least BB (BB + 1)).length ≤ 4096 by omega)
      obtain ⟨KL, hKL⟩ : ∃ l, catK (fun M => gL (toldQ (fun L i => spV c sts (L : Int) i) least BB) least BB 0 M) (BB + 1) = l := ⟨_, rfl⟩
      rw [hKL]
      rw [hKL] at HKP
      clear h hbt hbt2 hc z1 z2 z3 hhg hcl hfl hBB hcb hg y1 y2 hKL l0 l1 u0 u1
      go_enter Tryz.func17, Tryz.ntmps17
      go_wp2_with (first
        | (go_at_call 15; (with_reducible refine CH.out.mono ?_); rintro e w1 ⟨A, n, cap, rfl, hI, hF, hb⟩; have HI1 := Lib.hid hI; have HB1 := Lib.hid hb; have HNL : Hid (n ≤ 4096) := Lib.hid (by rw [← (strI hI).len]; exact HFL.out); clear hI hF hb)
        | (go_at_call 42; (with_reducible refine (CC.out _ (HS.out.up HB1.out)).mono ?_); rintro e w2 ⟨rfl, hb⟩; have HI2 := Lib.hid ((stRowT 3 encF A n cap _).keep w1 w2 (fun _ => False) HI1.out (Kept.of_below hb) (fun _ _ h => h)); have HB2 := Lib.hid (HB1.out.trans (hb.mono HB1.out.size)); clear hb)
        | (go_at_call 46; (with_reducible refine (HKP.out A n cap _ HI2.out HNL.out).mono ?_); rintro e w3 ⟨A2, n2, cap2, rfl, hown, hn2, hb⟩; have HOW := Lib.hid hown; have HN2 := Lib.hid hn2; have HB3 := Lib.hid (HB2.out.trans (hb.mono HB2.out.size)); clear hown hn2 hb))
      refine bodyPost_ret (v := .tuple #[.slice A2 n2 cap2, .int .i64 0]) (by simp [results, Tryz.results17, go_sem]) rfl ?_
      obtain ⟨A3, cap3, e3, hI3, hF3⟩ := st_own encR_len (own_base HOW.out HB2.out.size) HN2.out.symm
      injection e3 with e3a e3b e3c
      subst e3a e3c
      exact ⟨A2, n2, cap2, rfl, hI3, hF3, HB3.out⟩
    · have hg2 : gF (toldQ (fun L i => spV c sts (L : Int) i) least BB) least BB 0 = false := by simpa using hg
      rw [if_neg hg] at hhg
      obtain ⟨y1, y2⟩ := hr_over hc hhg
      rw [y1, y2]
      rw [hg2] at HKP
      have HFL := Lib.hid (show (foundQ (fun L i => spV c sts (L : Int) i) least BB (BB + 1)).length ≤ 4096 by omega)
      obtain ⟨KL, hKL⟩ : ∃ l, catK (fun M => gL (toldQ (fun L i => spV c sts (L : Int) i) least BB) least BB 0 M) (BB + 1) = l := ⟨_, rfl⟩
      rw [hKL] at HKP
      clear h hbt hbt2 hc z1 z2 z3 hhg hcl hfl hBB hcb hg hg2 y1 y2 hKL l0 l1 u0 u1
      go_enter Tryz.func17, Tryz.ntmps17
      go_wp2_with (first
        | (go_at_call 15; (with_reducible refine CH.out.mono ?_); rintro e w1 ⟨A, n, cap, rfl, hI, hF, hb⟩; have HI1 := Lib.hid hI; have HB1 := Lib.hid hb; have HNL : Hid (n ≤ 4096) := Lib.hid (by rw [← (strI hI).len]; exact HFL.out); clear hI hF hb)
        | (go_at_call 42; (with_reducible refine (CC.out _ (HS.out.up HB1.out)).mono ?_); rintro e w2 ⟨rfl, hb⟩; have HI2 := Lib.hid ((stRowT 3 encF A n cap _).keep w1 w2 (fun _ => False) HI1.out (Kept.of_below hb) (fun _ _ h => h)); have HB2 := Lib.hid (HB1.out.trans (hb.mono HB1.out.size)); clear hb)
        | (go_at_call 46; (with_reducible refine (HKP.out A n cap _ HI2.out HNL.out).mono ?_); rintro e w3 ⟨A2, n2, cap2, rfl, hown, hn2, hb⟩; have HB3 := Lib.hid (HB2.out.trans (hb.mono HB2.out.size)); clear hown hn2 hb))
      refine bodyPost_ret (v := .tuple #[.slice none 0 0, .int .i64 4]) (by simp [results, Tryz.results17, go_sem]) rfl ?_
      exact ⟨none, 0, 0, rfl, st_nil 4 encR _, (fun q hq => by obtain ⟨a, e, _⟩ := hq; cases e), HB3.out⟩
  · obtain ⟨y1, y2⟩ := hr_no hc
    rw [y1, y2]
    obtain ⟨HC, hHC⟩ : ∃ x, hvC c (fun L i => spV c sts (L : Int) i) least bud = x := ⟨_, rfl⟩
    rw [hHC] at CH hc
    rw [hHC]
    clear h hbt hbt2 y1 y2 hHC l0 l1 u0 u1
    go_enter Tryz.func17, Tryz.ntmps17
    go_wp2_with (go_at_call 15; (with_reducible refine CH.out.mono ?_); rintro e w1 ⟨A, n, cap, rfl, hI, hF, hb⟩; have HB1 := Lib.hid hb; clear hI hF hb)
    refine bodyPost_ret (v := .tuple #[.slice none 0 0, .int .i64 HC]) (by simp [results, Tryz.results17, go_sem]) rfl ?_
    exact ⟨none, 0, 0, rfl, st_nil 4 encR _, (fun q hq => by obtain ⟨a, e, _⟩ := hq; cases e), HB1.out⟩
end Go.Proofs.YtmdkdjgamhaeoaaGreat.Hvy
/- fed of layer 15's laws. Printed by wip/gen/stk.py. -/
namespace Go.Proofs.YtmdkdjgamhaeoaaGreat.Stk
open Go Go.RowKit Lw Grd Lin Con Shp Sk Exa Lev
set_option linter.unusedVariables false
set_option linter.unusedSimpArgs false
theorem box6 {w : World} {b : Nat} {e : TypeId} {v0 v1 v2 v3 v4 v5 : Value} (h : (boxT b e #[v0, v1, v2, v3, v4, v5]).I w) : w.cell? ⟨b, 0, none⟩ = some v0 ∧ w.cell? ⟨b, 1, none⟩ = some v1 ∧ w.cell? ⟨b, 2, none⟩ = some v2 ∧ w.cell? ⟨b, 3, none⟩ = some v3 ∧ w.cell? ⟨b, 4, none⟩ = some v4 ∧ w.cell? ⟨b, 5, none⟩ = some v5 :=
  ⟨box_cell h rfl, box_cell h rfl, box_cell h rfl, box_cell h rfl, box_cell h rfl, box_cell h rfl⟩
end Go.Proofs.YtmdkdjgamhaeoaaGreat.Stk
/- fed of layer 18's laws. Printed by wip/gen/hvy.py. -/
namespace Go.Proofs.YtmdkdjgamhaeoaaGreat.Hvy
open Go Go.RowKit Lw Grd Lin Con Shp Sk Exa Lev Stk
set_option linter.unusedVariables false
set_option linter.unusedSimpArgs false
set_option maxRecDepth 100000 in
set_option maxHeartbeats 8000000 in
theorem fed_z (x : Cfg) (A : Option Addr) (n0 k0 : Nat) (qs : Ups) (c : Cfg) (w : World) (hx : x.Ok) (hq : UpdV w A n0 k0 qs) (hC : anyC x 10 9 = c) :
    Calls Tryz.prog 24 #[.agg #[.int .i64 x.bt, .int .i64 x.rw, .int .i64 x.wd, .int .i64 x.md, .int .u64 x.sd, .slice A n0 k0], .int .i64 10, .int .i64 0] w fun e w' => ∃ (p : Addr) (F : Nat → Prop), e = .returned (.tuple #[.pointer (some p), .agg #[.int .i64 c.bt, .int .i64 c.rw, .int .i64 c.wd, .int .i64 c.md, .int .u64 c.sd]]) ∧ Have w w' [stT p F c (stsOf c (upsR c 0 qs 0 60))] := by
  have hr0 := any_right x 10 9 (by omega) (by omega) (by omega) (by omega)
  have hco0 := any_ok x hx 10 9 (by omega) (by omega) (by omega) (by omega)
  rw [hC] at hr0 hco0
  have hr := hr0
  have hco := hco0
  have CA := Lib.hid (fun w => rany_at x 10 9 c w hx (by omega) (by omega) (by omega) (by omega) hC)
  have hbt := hr.1
  have hkeys : 1 ≤ keys c 0 := keys_pos.2 ⟨hr, by omega, by omega⟩
  have CNW := Lib.hid (fun w => cs_new c w hco hr)
  obtain ⟨Z, hZ⟩ : ∃ Z, stsOf c [] = Z := ⟨_, rfl⟩
  rw [hZ] at CNW
  have hst0 : stsOf c (upsR c 0 qs 0 0) = Z := by rw [upsR_zero]; exact hZ
  have HQ := Lib.hid hq
  have HL := Lib.hid hq.len
  have hnc := hq.nc
  have hcm := hq.cm
  unfold maxLen at hcm
  have HR := Lib.hid hr
  have HKY := Lib.hid hkeys
  have CC0 := Lib.hid (fun w k d h0 h1 h2 h3 => rcut15_any c k d w hco h0 h1 h2 h3 hkeys)
  have HBX : Hid (Have w ((w.alloc (.cells #[.int .i64 x.bt, .int .i64 x.rw, .int .i64 x.wd, .int .i64 x.md, .int .u64 x.sd, .slice A n0 k0] 27)).alloc (.cells #[.int .i64 0, .int .i64 0, .int .i64 0, .int .i64 0, .int .u64 0] 24)) [boxT (w.heap.size + 1) 24 #[.int .i64 0, .int .i64 0, .int .i64 0, .int .i64 0, .int .u64 0], boxT w.heap.size 27 #[.int .i64 x.bt, .int .i64 x.rw, .int .i64 x.wd, .int .i64 x.md, .int .u64 x.sd, .slice A n0 k0]]) := Lib.hid (two_boxs w _ _ _ _)
  clear hC hq hr hkeys hco hx hZ hr0 hco0
  go_enter Tryz.func24, Tryz.ntmps24
  go_wp2_with (first
    | (go_at_call 11; (with_reducible refine (CNW.out _).mono ?_); rintro e w4 ⟨p, F, rfl, hsk, hfr, hb⟩; have HV4 := Lib.hid (HV2.out.push (stT p F c Z) hb hsk hfr); clear hsk hfr hb)
    | (go_at_call 10; (with_reducible refine (CA.out _).mono ?_); rintro e w1 ⟨rfl, hb⟩; have HV1 := Lib.hid (HBX.out.up hb); obtain ⟨x0, x1, x2, x3, x4, x5⟩ := box6 HV1.out.i1; have hl0 := box_lt HV1.out.i1; have hl1 := box_lt HV1.out.i0; have HV2 := Lib.hid (HV1.out.push (boxT w1.heap.size 24 #[.int .i64 c.bt, .int .i64 c.rw, .int .i64 c.wd, .int .i64 c.md, .int .u64 c.sd]) (Lw.below_alloc (Below.refl _ _) _) (heap_alloc_new w1 _) (fun k hk => Nat.le_of_eq hk.symm)); clear hb))
  obtain ⟨g1, hg1⟩ : ∃ g1, w1.heap.size = g1 := ⟨_, rfl⟩
  rw [hg1] at HV4 ⊢
  clear hg1 hl0 hl1 x0 x1 x2 x3 x4 x5
  go_loopw [11] (fun iv wr => ∃ (k : Nat) (F : Nat → Prop), k ≤ 60 ∧ (k ≤ n0 ∨ k = 0) ∧ iv = .int .i64 k ∧ Have w wr [stT p F c (stsOf c (upsR c 0 qs 0 k)), boxT g1 24 #[.int .i64 c.bt, .int .i64 c.rw, .int .i64 c.wd, .int .i64 c.md, .int .u64 c.sd], boxT (w.heap.size + 1) 24 #[.int .i64 0, .int .i64 0, .int .i64 0, .int .i64 0, .int .u64 0], boxT w.heap.size 27 #[.int .i64 x.bt, .int .i64 x.rw, .int .i64 x.wd, .int .i64 x.md, .int .u64 x.sd, .slice A n0 k0]]) (fun iv _ => 60 - (intOf iv).toNat)
  case atStart => exact ⟨0, F, Nat.zero_le _, .inr rfl, rfl, by rw [hst0]; exact HV4.out⟩
  case round =>
    obtain ⟨k, F, hk1, hk2, rfl, hv⟩ := hrel
    have HVr := Lib.hid hv
    have hwb := hv.below
    clear hv hst0
    obtain ⟨x0, x1, x2, x3, x4, c0⟩ := box6 HVr.out.i3
    by_cases hlt : k < n0 ∧ k < 60
    · obtain ⟨hj1, hj2⟩ := hlt
      obtain ⟨q, hq1⟩ : ∃ q, qs[k]? = some q := ⟨_, List.getElem?_eq_getElem (by rw [HL.out]; omega)⟩
      have hnx := upsR_next (c := c) (l := 0) hq1 (Nat.zero_le k)
      have hst := stsOf_step HR.out (upsR_in HKY.out qs 0 k) (by have := upsR_len c 0 qs 0 k; omega) (upsIn_cut HKY.out [q])
      have hcu := cutU_ok HKY.out q
      obtain ⟨aa, g, o, rfl, hadd, d1w, d2w, kb, db⟩ := HQ.out.at hq1
      obtain ⟨qk, qd⟩ := q
      simp only at d1w d2w kb db
      have d1 := cell_up d1w hwb
      have d2 := cell_up d2w hwb
      obtain ⟨e1, e2, e3, e4, e5⟩ := box5 HVr.out.i1
      have CC := Lib.hid (fun w => CC0.out w qk qd kb.1 kb.2 db.1 db.2)
      obtain ⟨us, hus⟩ : ∃ us, stsOf c (upsR c 0 qs 0 k) = us := ⟨_, rfl⟩
      obtain ⟨us2, hus2⟩ : ∃ us2, stsOf c (upsR c 0 qs 0 (k + 1)) = us2 := ⟨_, rfl⟩
      rw [hus] at HVr hst
      rw [hnx] at hus2
      rw [hus2] at hst
      have HNX : Hid (stsOf c (upsR c 0 qs 0 (k + 1)) = us2) := Lib.hid (by rw [hnx]; exact hus2)
      obtain ⟨U, hU⟩ : ∃ U, (cutU c 0 (qk, qd)).1 = U := ⟨_, rfl⟩
      obtain ⟨D, hD⟩ : ∃ D, (cutU c 0 (qk, qd)).2 = D := ⟨_, rfl⟩
      rw [hU, hD] at CC hst hcu
      have HST := Lib.hid hst
      have hkk := keys_bd c 0
      have hub : 0 ≤ U ∧ U ≤ 18446744073709551615 := ⟨hcu.1, by have := hcu.2.1; omega⟩
      have hdb : -9223372036854775808 ≤ D ∧ D ≤ 9223372036854775807 := ⟨by have := hcu.2.2.1; omega, by have := hcu.2.2.2.1; omega⟩
      clear hq1 hnx hst hcu hus hus2 hU hD d1w d2w hwb
      go_upto_region 10 with fail
      go_region_held3 (fun w' => w'.cell? ⟨g1, 0, none⟩ = some (.int .i64 c.bt) ∧ w'.cell? ⟨g1, 1, none⟩ = some (.int .i64 c.rw) ∧ w'.cell? ⟨g1, 2, none⟩ = some (.int .i64 c.wd) ∧ w'.cell? ⟨g1, 3, none⟩ = some (.int .i64 c.md) ∧ w'.cell? ⟨g1, 4, none⟩ = some (.int .u64 c.sd) ∧ w'.cell? ⟨w.heap.size, 5, none⟩ = some (.slice (some aa) n0 k0) ∧ w'.cell? ⟨g, o, none⟩ = some (.int .u64 qk) ∧ w'.cell? ⟨g, o + 1, none⟩ = some (.int .i64 qd)) (first | (refine ⟨?_, ?_, ?_, ?_, ?_, ?_, ?_, ?_⟩ <;> (first | (with_reducible assumption) | (with_reducible refine cell_up e1 ?_) | (with_reducible refine cell_up e2 ?_) | (with_reducible refine cell_up e3 ?_) | (with_reducible refine cell_up e4 ?_) | (with_reducible refine cell_up e5 ?_) | (with_reducible refine cell_up c0 ?_) | (with_reducible refine cell_up d1 ?_) | (with_reducible refine cell_up d2 ?_)) <;> repeat' (first | (with_reducible exact Below.refl _ _) | (with_reducible assumption) | (with_reducible refine below_over ?_ _ _) | (with_reducible refine Lw.below_alloc ?_ _) | (with_reducible refine Below.drew ?_) | (with_reducible refine below_drewN ?_ _) | (with_reducible refine Below.setCell ?_ ?_ _) | go_size))) (first | (go_at_call 26; (with_reducible refine (CC.out _).mono ?_); rintro e w' ⟨rfl, hb⟩; obtain ⟨bs, dd, rfl⟩ := below_grow hb; clear hb))
      all_goals go_wp2_with (go_at_call 13; (with_reducible refine (cs_upd p F c us U D _ (stI (HVr.out.up (by repeat' (first | (with_reducible exact Below.refl _ _) | (with_reducible assumption) | (with_reducible refine below_over ?_ _ _) | (with_reducible refine Lw.below_alloc ?_ _) | (with_reducible refine Below.drew ?_) | (with_reducible refine below_drewN ?_ _) | (with_reducible refine Below.setCell ?_ ?_ _) | go_size))).i0) hub.1 hub.2 hdb.1 hdb.2).mono ?_); rintro e w8 ⟨he, F8, hnp, hnk, hnf⟩; rw [HST.out.1] at he; subst he; rw [HST.out.2] at hnp; have HV8 := Lib.hid ((HVr.out.up (by repeat' (first | (with_reducible exact Below.refl _ _) | (with_reducible assumption) | (with_reducible refine below_over ?_ _ _) | (with_reducible refine Lw.below_alloc ?_ _) | (with_reducible refine Below.drew ?_) | (with_reducible refine below_drewN ?_ _) | (with_reducible refine Below.setCell ?_ ?_ _) | go_size))).turn_0 (stT p F8 c us2) hnp hnk hnf); clear hnp hnk hnf)
      all_goals go_roundw
      all_goals first
        | exact ⟨k + 1, F8, by omega, .inl (by omega), by go_num, by rw [HNX.out]; exact HV8.out⟩
        | (simp [intOf]; omega)
    · have hend : upsR c 0 qs 0 k = upsR c 0 qs 0 60 := upsR_end hk1 (by rw [HL.out]; omega)
      rw [hend] at HVr
      have HVE := Lib.hid HVr.out
      obtain ⟨e1, e2, e3, e4, e5⟩ := box5 HVr.out.i1
      obtain ⟨y1, y2, y3, y4, y5⟩ := box5 HVr.out.i2
      have z1 := boxs_frozen HVr.out.i2 0
      have z2 := boxs_frozen HVr.out.i2 1
      have z3 := boxs_frozen HVr.out.i2 2
      have z4 := boxs_frozen HVr.out.i2 3
      have z5 := boxs_frozen HVr.out.i2 4
      clear hend hk2
      by_cases hkn : k < n0
      · have hkt : 60 ≤ k := by omega
        clear hlt
        go_wp2
        have h5 := box5 (store5 HVE.out.i2 (.int .i64 c.bt) (.int .i64 c.rw) (.int .i64 c.wd) (.int .i64 c.md) (.int .u64 c.sd))
        have hkp := store_have (w' := (((((wr.setCell ⟨w.heap.size + 1, 0, none⟩ (.int .i64 c.bt)).setCell ⟨w.heap.size + 1, 1, none⟩ (.int .i64 c.rw)).setCell ⟨w.heap.size + 1, 2, none⟩ (.int .i64 c.wd)).setCell ⟨w.heap.size + 1, 3, none⟩ (.int .i64 c.md)).setCell ⟨w.heap.size + 1, 4, none⟩ (.int .u64 c.sd)).drew) HVE.out (by repeat' (first | (with_reducible exact Kept.refl _ _) | (with_reducible refine Kept.drew ?_) | (refine Kept.set (F := fun k => k = w.heap.size + 1) ?_ (.inl rfl) _ _)))
        go_region
        all_goals (
          obtain ⟨wz, hwz⟩ : ∃ wz, wz = (((((wr.setCell ⟨w.heap.size + 1, 0, none⟩ (.int .i64 c.bt)).setCell ⟨w.heap.size + 1, 1, none⟩ (.int .i64 c.rw)).setCell ⟨w.heap.size + 1, 2, none⟩ (.int .i64 c.wd)).setCell ⟨w.heap.size + 1, 3, none⟩ (.int .i64 c.md)).setCell ⟨w.heap.size + 1, 4, none⟩ (.int .u64 c.sd)).drew := ⟨_, rfl⟩
          rw [← hwz] at h5 hkp ⊢
          have HKP := Lib.hid hkp
          obtain ⟨r1, r2, r3, r4, r5⟩ := h5
          clear hwz hkp e1 e2 e3 e4 e5 y1 y2 y3 y4 y5 z1 z2 z3 z4 z5
          go_wp2
          all_goals refine bodyPost_ret (v := .tuple #[.pointer (some p), .agg #[.int .i64 c.bt, .int .i64 c.rw, .int .i64 c.wd, .int .i64 c.md, .int .u64 c.sd]]) (by simp [results, Tryz.results24, go_sem, r1, r2, r3, r4, r5]) rfl ?_
          all_goals exact ⟨p, F, rfl, HKP.out⟩)
      · have hkn2 : n0 ≤ k := by omega
        clear hlt hkn
        go_wp2
        have h5 := box5 (store5 HVE.out.i2 (.int .i64 c.bt) (.int .i64 c.rw) (.int .i64 c.wd) (.int .i64 c.md) (.int .u64 c.sd))
        have hkp := store_have (w' := (((((wr.setCell ⟨w.heap.size + 1, 0, none⟩ (.int .i64 c.bt)).setCell ⟨w.heap.size + 1, 1, none⟩ (.int .i64 c.rw)).setCell ⟨w.heap.size + 1, 2, none⟩ (.int .i64 c.wd)).setCell ⟨w.heap.size + 1, 3, none⟩ (.int .i64 c.md)).setCell ⟨w.heap.size + 1, 4, none⟩ (.int .u64 c.sd)).drew) HVE.out (by repeat' (first | (with_reducible exact Kept.refl _ _) | (with_reducible refine Kept.drew ?_) | (refine Kept.set (F := fun k => k = w.heap.size + 1) ?_ (.inl rfl) _ _)))
        go_region
        all_goals (
          obtain ⟨wz, hwz⟩ : ∃ wz, wz = (((((wr.setCell ⟨w.heap.size + 1, 0, none⟩ (.int .i64 c.bt)).setCell ⟨w.heap.size + 1, 1, none⟩ (.int .i64 c.rw)).setCell ⟨w.heap.size + 1, 2, none⟩ (.int .i64 c.wd)).setCell ⟨w.heap.size + 1, 3, none⟩ (.int .i64 c.md)).setCell ⟨w.heap.size + 1, 4, none⟩ (.int .u64 c.sd)).drew := ⟨_, rfl⟩
          rw [← hwz] at h5 hkp ⊢
          have HKP := Lib.hid hkp
          obtain ⟨r1, r2, r3, r4, r5⟩ := h5
          clear hwz hkp e1 e2 e3 e4 e5 y1 y2 y3 y4 y5 z1 z2 z3 z4 z5
          go_wp2
          all_goals refine bodyPost_ret (v := .tuple #[.pointer (some p), .agg #[.int .i64 c.bt, .int .i64 c.rw, .int .i64 c.wd, .int .i64 c.md, .int .u64 c.sd]]) (by simp [results, Tryz.results24, go_sem, r1, r2, r3, r4, r5]) rfl ?_
          all_goals exact ⟨p, F, rfl, HKP.out⟩)
end Go.Proofs.YtmdkdjgamhaeoaaGreat.Hvy
/- fed of layer 18's laws. Printed by wip/gen/hvy.py. -/
namespace Go.Proofs.YtmdkdjgamhaeoaaGreat.Hvy
open Go Go.RowKit Lw Grd Lin Con Shp Sk Exa Lev Stk
set_option linter.unusedVariables false
set_option linter.unusedSimpArgs false
set_option maxRecDepth 100000 in
set_option maxHeartbeats 8000000 in
theorem fed_6 (x : Cfg) (A : Option Addr) (n0 k0 : Nat) (qs : Ups) (c : Cfg) (w : World) (hx : x.Ok) (hq : UpdV w A n0 k0 qs) (hC : anyC x 6 9 = c) :
    Calls Tryz.prog 24 #[.agg #[.int .i64 x.bt, .int .i64 x.rw, .int .i64 x.wd, .int .i64 x.md, .int .u64 x.sd, .slice A n0 k0], .int .i64 6, .int .i64 0] w fun e w' => ∃ (p : Addr) (F : Nat → Prop), e = .returned (.tuple #[.pointer (some p), .agg #[.int .i64 c.bt, .int .i64 c.rw, .int .i64 c.wd, .int .i64 c.md, .int .u64 c.sd]]) ∧ Have w w' [stT p F c (stsOf c (upsR c 0 qs 0 60))] := by
  have hr0 := any_right x 6 9 (by omega) (by omega) (by omega) (by omega)
  have hco0 := any_ok x hx 6 9 (by omega) (by omega) (by omega) (by omega)
  rw [hC] at hr0 hco0
  have hr := hr0
  have hco := hco0
  have CA := Lib.hid (fun w => rany_at x 6 9 c w hx (by omega) (by omega) (by omega) (by omega) hC)
  have hbt := hr.1
  have hkeys : 1 ≤ keys c 0 := keys_pos.2 ⟨hr, by omega, by omega⟩
  have CNW := Lib.hid (fun w => cs_new c w hco hr)
  obtain ⟨Z, hZ⟩ : ∃ Z, stsOf c [] = Z := ⟨_, rfl⟩
  rw [hZ] at CNW
  have hst0 : stsOf c (upsR c 0 qs 0 0) = Z := by rw [upsR_zero]; exact hZ
  have HQ := Lib.hid hq
  have HL := Lib.hid hq.len
  have hnc := hq.nc
  have hcm := hq.cm
  unfold maxLen at hcm
  have HR := Lib.hid hr
  have HKY := Lib.hid hkeys
  have CC0 := Lib.hid (fun w k d h0 h1 h2 h3 => rcut15_any c k d w hco h0 h1 h2 h3 hkeys)
  have HBX : Hid (Have w ((w.alloc (.cells #[.int .i64 x.bt, .int .i64 x.rw, .int .i64 x.wd, .int .i64 x.md, .int .u64 x.sd, .slice A n0 k0] 27)).alloc (.cells #[.int .i64 0, .int .i64 0, .int .i64 0, .int .i64 0, .int .u64 0] 24)) [boxT (w.heap.size + 1) 24 #[.int .i64 0, .int .i64 0, .int .i64 0, .int .i64 0, .int .u64 0], boxT w.heap.size 27 #[.int .i64 x.bt, .int .i64 x.rw, .int .i64 x.wd, .int .i64 x.md, .int .u64 x.sd, .slice A n0 k0]]) := Lib.hid (two_boxs w _ _ _ _)
  clear hC hq hr hkeys hco hx hZ hr0 hco0
  go_enter Tryz.func24, Tryz.ntmps24
  go_wp2_with (first
    | (go_at_call 11; (with_reducible refine (CNW.out _).mono ?_); rintro e w4 ⟨p, F, rfl, hsk, hfr, hb⟩; have HV4 := Lib.hid (HV2.out.push (stT p F c Z) hb hsk hfr); clear hsk hfr hb)
    | (go_at_call 10; (with_reducible refine (CA.out _).mono ?_); rintro e w1 ⟨rfl, hb⟩; have HV1 := Lib.hid (HBX.out.up hb); obtain ⟨x0, x1, x2, x3, x4, x5⟩ := box6 HV1.out.i1; have hl0 := box_lt HV1.out.i1; have hl1 := box_lt HV1.out.i0; have HV2 := Lib.hid (HV1.out.push (boxT w1.heap.size 24 #[.int .i64 c.bt, .int .i64 c.rw, .int .i64 c.wd, .int .i64 c.md, .int .u64 c.sd]) (Lw.below_alloc (Below.refl _ _) _) (heap_alloc_new w1 _) (fun k hk => Nat.le_of_eq hk.symm)); clear hb))
  obtain ⟨g1, hg1⟩ : ∃ g1, w1.heap.size = g1 := ⟨_, rfl⟩
  rw [hg1] at HV4 ⊢
  clear hg1 hl0 hl1 x0 x1 x2 x3 x4 x5
  go_loopw [11] (fun iv wr => ∃ (k : Nat) (F : Nat → Prop), k ≤ 60 ∧ (k ≤ n0 ∨ k = 0) ∧ iv = .int .i64 k ∧ Have w wr [stT p F c (stsOf c (upsR c 0 qs 0 k)), boxT g1 24 #[.int .i64 c.bt, .int .i64 c.rw, .int .i64 c.wd, .int .i64 c.md, .int .u64 c.sd], boxT (w.heap.size + 1) 24 #[.int .i64 0, .int .i64 0, .int .i64 0, .int .i64 0, .int .u64 0], boxT w.heap.size 27 #[.int .i64 x.bt, .int .i64 x.rw, .int .i64 x.wd, .int .i64 x.md, .int .u64 x.sd, .slice A n0 k0]]) (fun iv _ => 60 - (intOf iv).toNat)
  case atStart => exact ⟨0, F, Nat.zero_le _, .inr rfl, rfl, by rw [hst0]; exact HV4.out⟩
  case round =>
    obtain ⟨k, F, hk1, hk2, rfl, hv⟩ := hrel
    have HVr := Lib.hid hv
    have hwb := hv.below
    clear hv hst0
    obtain ⟨x0, x1, x2, x3, x4, c0⟩ := box6 HVr.out.i3
    by_cases hlt : k < n0 ∧ k < 60
    · obtain ⟨hj1, hj2⟩ := hlt
      obtain ⟨q, hq1⟩ : ∃ q, qs[k]? = some q := ⟨_, List.getElem?_eq_getElem (by rw [HL.out]; omega)⟩
      have hnx := upsR_next (c := c) (l := 0) hq1 (Nat.zero_le k)
      have hst := stsOf_step HR.out (upsR_in HKY.out qs 0 k) (by have := upsR_len c 0 qs 0 k; omega) (upsIn_cut HKY.out [q])
      have hcu := cutU_ok HKY.out q
      obtain ⟨aa, g, o, rfl, hadd, d1w, d2w, kb, db⟩ := HQ.out.at hq1
      obtain ⟨qk, qd⟩ := q
      simp only at d1w d2w kb db
      have d1 := cell_up d1w hwb
      have d2 := cell_up d2w hwb
      obtain ⟨e1, e2, e3, e4, e5⟩ := box5 HVr.out.i1
      have CC := Lib.hid (fun w => CC0.out w qk qd kb.1 kb.2 db.1 db.2)
      obtain ⟨us, hus⟩ : ∃ us, stsOf c (upsR c 0 qs 0 k) = us := ⟨_, rfl⟩
      obtain ⟨us2, hus2⟩ : ∃ us2, stsOf c (upsR c 0 qs 0 (k + 1)) = us2 := ⟨_, rfl⟩
      rw [hus] at HVr hst
      rw [hnx] at hus2
      rw [hus2] at hst
      have HNX : Hid (stsOf c (upsR c 0 qs 0 (k + 1)) = us2) := Lib.hid (by rw [hnx]; exact hus2)
      obtain ⟨U, hU⟩ : ∃ U, (cutU c 0 (qk, qd)).1 = U := ⟨_, rfl⟩
      obtain ⟨D, hD⟩ : ∃ D, (cutU c 0 (qk, qd)).2 = D := ⟨_, rfl⟩
      rw [hU, hD] at CC hst hcu
      have HST := Lib.hid hst
      have hkk := keys_bd c 0
      have hub : 0 ≤ U ∧ U ≤ 18446744073709551615 := ⟨hcu.1, by have := hcu.2.1; omega⟩
      have hdb : -9223372036854775808 ≤ D ∧ D ≤ 9223372036854775807 := ⟨by have := hcu.2.2.1; omega, by have := hcu.2.2.2.1; omega⟩
      clear hq1 hnx hst hcu hus hus2 hU hD d1w d2w hwb
      go_upto_region 10 with fail
      go_region_held3 (fun w' => w'.cell? ⟨g1, 0, none⟩ = some (.int .i64 c.bt) ∧ w'.cell? ⟨g1, 1, none⟩ = some (.int .i64 c.rw) ∧ w'.cell? ⟨g1, 2, none⟩ = some (.int .i64 c.wd) ∧ w'.cell? ⟨g1, 3, none⟩ = some (.int .i64 c.md) ∧ w'.cell? ⟨g1, 4, none⟩ = some (.int .u64 c.sd) ∧ w'.cell? ⟨w.heap.size, 5, none⟩ = some (.slice (some aa) n0 k0) ∧ w'.cell? ⟨g, o, none⟩ = some (.int .u64 qk) ∧ w'.cell? ⟨g, o + 1, none⟩ = some (.int .i64 qd)) (first | (refine ⟨?_, ?_, ?_, ?_, ?_, ?_, ?_, ?_⟩ <;> (first | (with_reducible assumption) | (with_reducible refine cell_up e1 ?_) | (with_reducible refine cell_up e2 ?_) | (with_reducible refine cell_up e3 ?_) | (with_reducible refine cell_up e4 ?_) | (with_reducible refine cell_up e5 ?_) | (with_reducible refine cell_up c0 ?_) | (with_reducible refine cell_up d1 ?_) | (with_reducible refine cell_up d2 ?_)) <;> repeat' (first | (with_reducible exact Below.refl _ _) | (with_reducible assumption) | (with_reducible refine below_over ?_ _ _) | (with_reducible refine Lw.below_alloc ?_ _) | (with_reducible refine Below.drew ?_) | (with_reducible refine below_drewN ?_ _) | (with_reducible refine Below.setCell ?_ ?_ _) | go_size))) (first | (go_at_call 26; (with_reducible refine (CC.out _).mono ?_); rintro e w' ⟨rfl, hb⟩; obtain ⟨bs, dd, rfl⟩ := below_grow hb; clear hb))
      all_goals go_wp2_with (go_at_call 13; (with_reducible refine (cs_upd p F c us U D _ (stI (HVr.out.up (by repeat' (first | (with_reducible exact Below.refl _ _) | (with_reducible assumption) | (with_reducible refine below_over ?_ _ _) | (with_reducible refine Lw.below_alloc ?_ _) | (with_reducible refine Below.drew ?_) | (with_reducible refine below_drewN ?_ _) | (with_reducible refine Below.setCell ?_ ?_ _) | go_size))).i0) hub.1 hub.2 hdb.1 hdb.2).mono ?_); rintro e w8 ⟨he, F8, hnp, hnk, hnf⟩; rw [HST.out.1] at he; subst he; rw [HST.out.2] at hnp; have HV8 := Lib.hid ((HVr.out.up (by repeat' (first | (with_reducible exact Below.refl _ _) | (with_reducible assumption) | (with_reducible refine below_over ?_ _ _) | (with_reducible refine Lw.below_alloc ?_ _) | (with_reducible refine Below.drew ?_) | (with_reducible refine below_drewN ?_ _) | (with_reducible refine Below.setCell ?_ ?_ _) | go_size))).turn_0 (stT p F8 c us2) hnp hnk hnf); clear hnp hnk hnf)
      all_goals go_roundw
      all_goals first
        | exact ⟨k + 1, F8, by omega, .inl (by omega), by go_num, by rw [HNX.out]; exact HV8.out⟩
        | (simp [intOf]; omega)
    · have hend : upsR c 0 qs 0 k = upsR c 0 qs 0 60 := upsR_end hk1 (by rw [HL.out]; omega)
      rw [hend] at HVr
      have HVE := Lib.hid HVr.out
      obtain ⟨e1, e2, e3, e4, e5⟩ := box5 HVr.out.i1
      obtain ⟨y1, y2, y3, y4, y5⟩ := box5 HVr.out.i2
      have z1 := boxs_frozen HVr.out.i2 0
      have z2 := boxs_frozen HVr.out.i2 1
      have z3 := boxs_frozen HVr.out.i2 2
      have z4 := boxs_frozen HVr.out.i2 3
      have z5 := boxs_frozen HVr.out.i2 4
      clear hend hk2
      by_cases hkn : k < n0
      · have hkt : 60 ≤ k := by omega
        clear hlt
        go_wp2
        have h5 := box5 (store5 HVE.out.i2 (.int .i64 c.bt) (.int .i64 c.rw) (.int .i64 c.wd) (.int .i64 c.md) (.int .u64 c.sd))
        have hkp := store_have (w' := (((((wr.setCell ⟨w.heap.size + 1, 0, none⟩ (.int .i64 c.bt)).setCell ⟨w.heap.size + 1, 1, none⟩ (.int .i64 c.rw)).setCell ⟨w.heap.size + 1, 2, none⟩ (.int .i64 c.wd)).setCell ⟨w.heap.size + 1, 3, none⟩ (.int .i64 c.md)).setCell ⟨w.heap.size + 1, 4, none⟩ (.int .u64 c.sd)).drew) HVE.out (by repeat' (first | (with_reducible exact Kept.refl _ _) | (with_reducible refine Kept.drew ?_) | (refine Kept.set (F := fun k => k = w.heap.size + 1) ?_ (.inl rfl) _ _)))
        go_region
        all_goals (
          obtain ⟨wz, hwz⟩ : ∃ wz, wz = (((((wr.setCell ⟨w.heap.size + 1, 0, none⟩ (.int .i64 c.bt)).setCell ⟨w.heap.size + 1, 1, none⟩ (.int .i64 c.rw)).setCell ⟨w.heap.size + 1, 2, none⟩ (.int .i64 c.wd)).setCell ⟨w.heap.size + 1, 3, none⟩ (.int .i64 c.md)).setCell ⟨w.heap.size + 1, 4, none⟩ (.int .u64 c.sd)).drew := ⟨_, rfl⟩
          rw [← hwz] at h5 hkp ⊢
          have HKP := Lib.hid hkp
          obtain ⟨r1, r2, r3, r4, r5⟩ := h5
          clear hwz hkp e1 e2 e3 e4 e5 y1 y2 y3 y4 y5 z1 z2 z3 z4 z5
          go_wp2
          all_goals refine bodyPost_ret (v := .tuple #[.pointer (some p), .agg #[.int .i64 c.bt, .int .i64 c.rw, .int .i64 c.wd, .int .i64 c.md, .int .u64 c.sd]]) (by simp [results, Tryz.results24, go_sem, r1, r2, r3, r4, r5]) rfl ?_
          all_goals exact ⟨p, F, rfl, HKP.out⟩)
      · have hkn2 : n0 ≤ k := by omega
        clear hlt hkn
        go_wp2
        have h5 := box5 (store5 HVE.out.i2 (.int .i64 c.bt) (.int .i64 c.rw) (.int .i64 c.wd) (.int .i64 c.md) (.int .u64 c.sd))
        have hkp := store_have (w' := (((((wr.setCell ⟨w.heap.size + 1, 0, none⟩ (.int .i64 c.bt)).setCell ⟨w.heap.size + 1, 1, none⟩ (.int .i64 c.rw)).setCell ⟨w.heap.size + 1, 2, none⟩ (.int .i64 c.wd)).setCell ⟨w.heap.size + 1, 3, none⟩ (.int .i64 c.md)).setCell ⟨w.heap.size + 1, 4, none⟩ (.int .u64 c.sd)).drew) HVE.out (by repeat' (first | (with_reducible exact Kept.refl _ _) | (with_reducible refine Kept.drew ?_) | (refine Kept.set (F := fun k => k = w.heap.size + 1) ?_ (.inl rfl) _ _)))
        go_region
        all_goals (
          obtain ⟨wz, hwz⟩ : ∃ wz, wz = (((((wr.setCell ⟨w.heap.size + 1, 0, none⟩ (.int .i64 c.bt)).setCell ⟨w.heap.size + 1, 1, none⟩ (.int .i64 c.rw)).setCell ⟨w.heap.size + 1, 2, none⟩ (.int .i64 c.wd)).setCell ⟨w.heap.size + 1, 3, none⟩ (.int .i64 c.md)).setCell ⟨w.heap.size + 1, 4, none⟩ (.int .u64 c.sd)).drew := ⟨_, rfl⟩
          rw [← hwz] at h5 hkp ⊢
          have HKP := Lib.hid hkp
          obtain ⟨r1, r2, r3, r4, r5⟩ := h5
          clear hwz hkp e1 e2 e3 e4 e5 y1 y2 y3 y4 y5 z1 z2 z3 z4 z5
          go_wp2
          all_goals refine bodyPost_ret (v := .tuple #[.pointer (some p), .agg #[.int .i64 c.bt, .int .i64 c.rw, .int .i64 c.wd, .int .i64 c.md, .int .u64 c.sd]]) (by simp [results, Tryz.results24, go_sem, r1, r2, r3, r4, r5]) rfl ?_
          all_goals exact ⟨p, F, rfl, HKP.out⟩)
end Go.Proofs.YtmdkdjgamhaeoaaGreat.Hvy
