/- The statement InnerSums of layer 11 holds: where no key has less than 0, the product is the sum of the products of what the same keys have, and the least sum, over a row, of the products of what unlike keys with the same column have; for any config (eight bits, nine columns, Linear), level, and updates of both (thirty each, by less than 2 to the power of 20, none below 0). Printed by wip/gen/innsums.py. -/
import Derived.Test.YthecgkgnngpikaaMi
import Derived.Deep.LoopGhost
import Derived.Deep.RegionHeld3
import Derived.Deep.DeepCutAuto
import Derived.Deep.QuietTactic
import Derived.BigQuiet
namespace Go.Proofs.Ythecgkgnngpikaa.Inn
open Go Go.RowKit Lw Grd Lin Con Shp Sk
set_option linter.unusedVariables false
set_option linter.unusedSimpArgs false
theorem Have.put_at2 {w0 w : World} {ts : List Thing} (h : Have w0 w ts) (t : Thing) (ht : t.I w) (hn : ∀ k, t.F k → ∀ u ∈ ts, ¬ u.F k) (hw : ∀ k, t.F k → w0.heap.size ≤ k) : Have w0 w (t :: ts) :=
  ⟨ht, hw, fun u hu k hk hu2 => hn k hk u hu hu2, h⟩
theorem step_ok {c : Cfg} {l : Int} (hr : IsRight c) (hm : c.md = 1) {us : Ups} (h : UpsOk c l 1048576 us) (hl : us.length ≤ 30) {k : Nat} {u : Int × Int} (hu : us[k]? = some u) : upCode c l (cells c l (us.take k)) u.1 u.2 = 0 ∧ upRes c l (cells c l (us.take k)) u.1 u.2 = cells c l (us.take (k + 1)) := by
  have h1 : UpsOk c l 1048576 (us.take k) := fun v hv => h v (List.mem_of_mem_take hv)
  have h2 := up_ok hr (in_of_ok hm h1) (by rw [List.length_take]; omega) (u := u) (in_of_ok hm (us := [u]) (fun v hv => by simp at hv; subst hv; exact h _ (List.mem_of_getElem? hu)))
  obtain ⟨g1, g2⟩ := List.getElem?_eq_some_iff.1 hu
  rw [List.take_succ_eq_append_getElem g1, g2]
  exact h2
theorem upd_cells {w : World} {ad : Addr} {n c : Nat} {us : Ups} {i g o : Nat} {uk ud : Int} (h : UpdV w (some ad) n c us) (hu : us[i]? = some (uk, ud)) (ha : ad.add (i * 2) = ⟨g, o, none⟩) : w.cell? ⟨g, o, none⟩ = some (.int .u64 uk) ∧ w.cell? ⟨g, o + 1, none⟩ = some (.int .i64 ud) := by
  obtain ⟨a, g', o', e, h1, h2, h3, _⟩ := h.at hu
  injection e with e
  subst e
  rw [ha] at h1
  injection h1 with h4 h5
  subst h4 h5
  exact ⟨h2, h3⟩
theorem row_get {f : Nat → Int} {m r : Nat} (h : r < m) : ((List.range m).map f)[r]? = some (f r) := by
  rw [List.getElem?_map, List.getElem?_range h]
  rfl
theorem fold_next {O : List Int} {r : Nat} {x y : Int} (h : O[r]? = some y) : (O.take (r + 1)).foldl min x = min ((O.take r).foldl min x) y := by
  obtain ⟨h1, h2⟩ := List.getElem?_eq_some_iff.1 h
  rw [List.take_succ_eq_append_getElem h1, h2, List.foldl_append]
  rfl
theorem fold_all {O : List Int} {x : Int} (h : O[0]? = some x) : O.foldl min x = lmin O := by
  match O with
  | [] => simp at h
  | y :: ys =>
    simp at h
    subst h
    simp [lmin]
theorem mul_bd {a b : Int} (ha : 0 ≤ a ∧ a ≤ 1048576) (hb : 0 ≤ b ∧ b ≤ 1048576) : 0 ≤ a * b ∧ a * b ≤ 1099511627776 := by
  refine ⟨Int.mul_nonneg ha.1 hb.1, ?_⟩
  have h1 : a * b ≤ 1048576 * 1048576 := Int.mul_le_mul ha.2 hb.2 hb.1 (by omega)
  omega
theorem own_bd {u v : Int × Int} (h : 0 ≤ u.2 * v.2 ∧ u.2 * v.2 ≤ 1099511627776) : 0 ≤ ownP u v ∧ ownP u v ≤ 1099511627776 := by
  unfold ownP
  split <;> omega
theorem oth_bd {c : Cfg} {l : Int} {j : Nat} {u v : Int × Int} (h : 0 ≤ u.2 * v.2 ∧ u.2 * v.2 ≤ 1099511627776) : 0 ≤ othP c l j u v ∧ othP c l j u v ≤ 1099511627776 := by
  unfold othP
  split <;> omega
/-- What all rows tell, and the least of the others. -/
theorem final_rows (c : Cfg) (l : Int) (us vs : Ups) (m : Nat) (hm : 0 < m) : lmin ((List.range m).map (fun r => tot ownP us vs + tot (othP c l r) us vs)) = tot ownP us vs + lmin (OT c l us vs m us.length 0 0) ∧ ((∀ j, 0 ≤ T2 (othP c l j) us vs us.length 0 ∧ T2 (othP c l j) us vs us.length 0 ≤ 930 * 1099511627776) → 0 ≤ lmin (OT c l us vs m us.length 0 0) ∧ lmin (OT c l us vs m us.length 0 0) ≤ 930 * 1099511627776) := by
  have e : OT c l us vs m us.length 0 0 = (List.range m).map (fun r => tot (othP c l r) us vs) := by
    unfold OT
    refine List.map_congr_left fun j _ => ?_
    rw [if_neg (by omega), T2_end]
  have hne : OT c l us vs m us.length 0 0 ≠ [] := by
    intro h
    have := OT_len c l us vs m us.length 0 0
    rw [h] at this
    simp at this
    omega
  refine ⟨?_, fun hb => ?_⟩
  · rw [← lmin_add hne, e, List.map_map]
    rfl
  · have h1 := lmin_mem hne
    rw [e] at h1 ⊢
    obtain ⟨j, _, hj⟩ := List.mem_map.1 h1
    rw [← hj, ← T2_end]
    exact hb j
set_option maxRecDepth 100000 in
set_option maxHeartbeats 16000000 in
theorem sums_law (x : Cfg) (lv : Int) (A : Option Addr) (n0 k0 : Nat) (qs : Ups) (B : Option Addr) (n1 k1 : Nat) (ps : Ups) (w : World) (hx : x.Ok) (hlv : -9223372036854775808 ≤ lv ∧ lv ≤ 9223372036854775807) (hq : UpdV w A n0 k0 qs) (hp : UpdV w B n1 k1 ps) :
    Calls Try.prog 5 #[.agg #[.int .i64 x.bt, .int .i64 x.rw, .int .i64 x.wd, .int .i64 x.md, .int .u64 x.sd, .int .i64 lv, .slice A n0 k0, .slice B n1 k1]] w fun e w' => e = .returned (.bool true) ∧ Below w.heap.size w w' := by
  obtain ⟨i0, hi, hz0, hz1, hz2⟩ := info_parts i64_info
  obtain ⟨c, hC⟩ : ∃ c, cfgM x 8 1 = c := ⟨_, rfl⟩
  have hr := cfgM_right x 8 1 (by omega) (by omega) (by omega) (by omega)
  have hco := cfgM_ok x hx 8 1 (by omega) (by omega) (by omega) (by omega)
  rw [hC] at hr hco
  obtain ⟨C, hCC⟩ : ∃ C, anyC x 8 9 = C := ⟨_, rfl⟩
  have h1 : C.bt = c.bt ∧ C.rw = c.rw ∧ C.wd = c.wd ∧ C.sd = c.sd ∧ c.md = 1 := by rw [← hC, ← hCC]; exact ⟨rfl, rfl, rfl, rfl, rfl⟩
  have CA := Lib.hid (fun w => rany_at x 8 9 C w hx (by omega) (by omega) (by omega) (by omega) hCC)
  rw [h1.1, h1.2.1, h1.2.2.1, h1.2.2.2.1] at CA
  have hmd := h1.2.2.2.2
  obtain ⟨X, l, a1, b1, c1, dd1, ee1, ff1⟩ := level_of lv (c.bt + 1) (by have := hr.1.1; omega) (by omega)
  have hbt := hr.1.1
  have hkeys : 1 ≤ keys c l := keys_pos.2 ⟨hr.1, by omega, by omega⟩
  have hkb := keys_bd c l
  have CNW := Lib.hid (fun w => snew_yes c l w hco (by omega) (by omega) hkeys)
  have HQ := Lib.hid hq
  have HQ1 := Lib.hid hp
  have CP1 := Lib.hid (fun w hq => plain_any c l A n0 k0 qs w hq hco (by omega) (by omega) hkeys)
  have CP2 := Lib.hid (fun w hq => plain_any c l B n1 k1 ps w hq hco (by omega) (by omega) hkeys)
  have CCL := Lib.hid (fun U w h0 h2 => columns_new c l U (rws c) w hco (by omega) (by omega) h0 (by omega) h2 (rws_bd hr.1).2.2.symm (rws_bd hr.1).2.1)
  have hu := tkP_bd hkeys qs 30
  have hv := tkP_bd hkeys ps 30
  have lu := tk_len (cutP c l) qs 30
  have lv2 := tk_len (cutP c l) ps 30
  obtain ⟨us, hus⟩ : ∃ us, tk (cutP c l) qs 30 = us := ⟨_, rfl⟩
  obtain ⟨vs, hvs⟩ : ∃ vs, tk (cutP c l) ps 30 = vs := ⟨_, rfl⟩
  rw [hus] at CP1 hu lu
  rw [hvs] at CP2 hv lv2
  have oku : UpsOk c l 1048576 us := fun u hu2 => by have := hu u hu2; omega
  have okv : UpsOk c l 1048576 vs := fun u hu2 => by have := hv u hu2; omega
  have SU := Lib.hid (fun k u (h : us[k]? = some u) => step_ok hr.1 hmd oku lu h)
  have SV := Lib.hid (fun k u (h : vs[k]? = some u) => step_ok hr.1 hmd okv lv2 h)
  have HU9 := Lib.hid hu
  have HV9 := Lib.hid hv
  have HLU := Lib.hid lu
  have HLV := Lib.hid lv2
  have kA := cells_in hmd oku lu
  have kB := cells_in hmd okv lv2
  have iAB := in_yes (l := l) hmd (oks_small hr.1 kA kB)
  have CI := Lib.hid (fun p F q G w h g => inner_any p F c l (cells c l us) q G c l (cells c l vs) w h g)
  rw [iAB.1, iAB.2, dots_rows hr.1 hmd oku okv] at CI
  have hmul := fun u (h1 : u ∈ us) v (h2 : v ∈ vs) => mul_bd (hu u h1).2 (hv v h2).2
  have HMUL := Lib.hid hmul
  have bO := fun i k => T2_bd (f := ownP) (us := us) (vs := vs) (b := 1099511627776) (by omega) (fun u h1 v h2 => own_bd (hmul u h1 v h2)) lu lv2 i k
  have bT := fun j i k => T2_bd (f := othP c l j) (us := us) (vs := vs) (b := 1099511627776) (by omega) (fun u h1 v h2 => oth_bd (hmul u h1 v h2)) lu lv2 i k
  have HBO := Lib.hid bO
  have HBT := Lib.hid bT
  have hfin := final_rows c l us vs (rws c) (by have := (rws_bd hr.1).1; omega)
  have HM := Lib.hid hmd
  have HR := Lib.hid hr.1
  have HKY := Lib.hid hkeys
  have hrw := rws_bd hr.1
  obtain ⟨m, hm⟩ : ∃ m, rws c = m := ⟨_, rfl⟩
  rw [hm] at CCL hrw CI hfin
  have hm8 : 1 ≤ m ∧ m ≤ 8 := ⟨hrw.1, hrw.2.1⟩
  have HRW : Hid (c.rw = (m : Int)) := Lib.hid hrw.2.2.symm
  rw [hfin.1] at CI
  obtain ⟨LS, hLS⟩ : ∃ LS, lmin (OT c l us vs m us.length 0 0) = LS := ⟨_, rfl⟩
  obtain ⟨OW, hOW⟩ : ∃ OW, tot ownP us vs = OW := ⟨_, rfl⟩
  rw [hOW, hLS] at CI
  have HLS := Lib.hid hLS
  have HOW := Lib.hid hOW
  have hb1 := bO us.length 0
  rw [T2_end, hOW] at hb1
  have hb2 := hfin.2 (fun j => bT j us.length 0)
  rw [hLS] at hb2
  have COF1 := Lib.hid (fun w => Wid.of_any (OW + LS) w (by omega) (by omega))
  have COF2 := Lib.hid (fun w => Wid.of_any OW w (by omega) (by omega))
  have CLE := Lib.hid (fun w => Wid.less_any (Wid.fh (OW + LS)) (Wid.fl (OW + LS)) (Wid.fh OW) (Wid.fl OW) w (Wid.fh_bd _).1 (Wid.fh_bd _).2 (Wid.fl_bd _).1 (Wid.fl_bd _).2 (Wid.fh_bd _).1 (Wid.fh_bd _).2 (Wid.fl_bd _).1 (Wid.fl_bd _).2)
  rw [Wid.vl_fit (OW + LS) (by omega) (by omega), Wid.vl_fit OW (by omega) (by omega), decide_eq_false (show ¬ OW + LS < OW by omega)] at CLE
  have wol1 : IntKind.i64.wrap (OW + LS) = OW + LS := IntWalk.i64_in _ ⟨by omega, by omega⟩
  have HWOL := Lib.hid wol1
  obtain ⟨P, hP⟩ : ∃ P, Wid.fh (OW + LS) = P := ⟨_, rfl⟩
  obtain ⟨Q, hQ⟩ : ∃ Q, Wid.fl (OW + LS) = Q := ⟨_, rfl⟩
  obtain ⟨P2, hP2⟩ : ∃ P, Wid.fh OW = P := ⟨_, rfl⟩
  obtain ⟨Q2, hQ2⟩ : ∃ Q, Wid.fl OW = Q := ⟨_, rfl⟩
  rw [hP, hQ] at CI COF1 CLE
  rw [hP2, hQ2] at COF2 CLE
  have HBX : Hid (Have w (w.alloc (.cells #[.int .i64 x.bt, .int .i64 x.rw, .int .i64 x.wd, .int .i64 x.md, .int .u64 x.sd, .int .i64 lv, .slice A n0 k0, .slice B n1 k1] 34)) [boxT w.heap.size 34 #[.int .i64 x.bt, .int .i64 x.rw, .int .i64 x.wd, .int .i64 x.md, .int .u64 x.sd, .int .i64 lv, .slice A n0 k0, .slice B n1 k1]]) := Lib.hid (box_new w _ _)
  rw [hmd] at CNW CP1 CP2 CCL
  have hw1 : IntKind.i64.wrap (c.bt + 1) = c.bt + 1 := IntWalk.i64_in _ ⟨by omega, by omega⟩
  have hw2 : wrap64 (c.bt + 1) = c.bt + 1 := IntWalk.wrap64_in _ ⟨by omega, by omega⟩
  have hbn : ¬ c.bt + 1 = 0 := by omega
  clear hC hCC h1 hmd hq hp hr hkeys hco hx kA kB iAB hus hvs hu hv lu lv2 oku okv hmul bO bT hfin hrw hm hLS hOW hb1 hb2 hP hQ hP2 hQ2 wol1 hkb
  go_enter Try.func5, Try.ntmps5
  go_wp2_with (first
    | (go_at_call 20; (with_reducible refine (CP2.out _ (HQ1.out.up HV5.out.below)).mono ?_); rintro e w6 ⟨A2, m2, cp2, rfl, h1, h2, hb⟩; have HV6 := Lib.hid (HV5.out.push (upT A2 m2 cp2 vs) hb h1 h2); clear h1 h2 hb)
    | (go_at_call 20; (with_reducible refine (CP1.out _ (HQ.out.up HV4.out.below)).mono ?_); rintro e w5 ⟨A1, m1, cp1, rfl, h1, h2, hb⟩; have HV5 := Lib.hid (HV4.out.push (upT A1 m1 cp1 us) hb h1 h2); clear h1 h2 hb; clear x5 x6 x7 x0 x1 x2 x3 x4 c0 c1 c2 c3 c4; obtain ⟨x5, x6, x7, x0, x1, x2, x3, x4⟩ := box8 HV5.out.i4; obtain ⟨c0, c1, c2, c3, c4⟩ := box5 HV5.out.i3)
    | (go_at_call 14; (with_reducible refine (CNW.out _).mono ?_); rintro e w4 ⟨q, G0, rfl, h1, h2, hb⟩; have HV4 := Lib.hid (HV3.out.push (skT q G0 c l ((zerosL (rws c) (wds c)))) hb h1 h2); clear h1 h2 hb; clear x5 x6 x7 x0 x1 x2 x3 x4 c0 c1 c2 c3 c4; obtain ⟨x5, x6, x7, x0, x1, x2, x3, x4⟩ := box8 HV4.out.i3; obtain ⟨c0, c1, c2, c3, c4⟩ := box5 HV4.out.i2)
    | (go_at_call 14; (with_reducible refine (CNW.out _).mono ?_); rintro e w3 ⟨p, F0, rfl, h1, h2, hb⟩; have HV3 := Lib.hid (HV2.out.push (skT p F0 c l ((zerosL (rws c) (wds c)))) hb h1 h2); clear h1 h2 hb; clear x5 x6 x7 x0 x1 x2 x3 x4 c0 c1 c2 c3 c4; obtain ⟨x5, x6, x7, x0, x1, x2, x3, x4⟩ := box8 HV3.out.i2; obtain ⟨c0, c1, c2, c3, c4⟩ := box5 HV3.out.i1)
    | (go_at_call 13; (with_reducible refine (CA.out _).mono ?_); rintro e w2 ⟨rfl, hb⟩; have HV2 := Lib.hid ((HV1.out.up hb).push (boxT w2.heap.size 31 #[.int .i64 c.bt, .int .i64 c.rw, .int .i64 c.wd, .int .i64 1, .int .u64 c.sd]) (Lw.below_alloc (Below.refl _ _) _) (heap_alloc_new w2 _) (fun k hk => Nat.le_of_eq hk.symm)); clear hb; clear x5 x6 x7 x0 x1 x2 x3 x4; obtain ⟨x5, x6, x7, x0, x1, x2, x3, x4⟩ := box8 HV2.out.i1; obtain ⟨c0, c1, c2, c3, c4⟩ := box5 HV2.out.i0)
    | (go_at_call 10; (with_reducible refine (shown_any _).mono ?_); rintro e w1 ⟨rfl, hb⟩; have HV1 := Lib.hid (HBX.out.up hb); clear hb; obtain ⟨x5, x6, x7, x0, x1, x2, x3, x4⟩ := box8 HV1.out.i0))
  obtain ⟨gc, hgc⟩ : ∃ gc, w2.heap.size = gc := ⟨_, rfl⟩
  rw [hgc] at HV6 ⊢
  clear hgc HV5 HV4 HV3 HV2 HV1 x5 x6 x7 x0 x1 x2 x3 x4 c0 c1 c2 c3 c4
  have hnc1 := (upI HV6.out.i1).nc
  have hcm1 := (upI HV6.out.i1).cm
  have hnc2 := (upI HV6.out.i0).nc
  have hcm2 := (upI HV6.out.i0).cm
  have HM1 : Hid (us.length = m1) := Lib.hid (upI HV6.out.i1).len
  have HM2 : Hid (vs.length = m2) := Lib.hid (upI HV6.out.i0).len
  unfold maxLen at hcm1 hcm2
  have hm130 : m1 ≤ 30 := by rw [← HM1.out]; exact HLU.out
  have hm230 : m2 ≤ 30 := by rw [← HM2.out]; exact HLV.out
  go_loopw [12] (fun iv wr => ∃ (k : Nat) (F : Nat → Prop), k ≤ m1 ∧ iv = .int .i64 k ∧ Have w wr [upT A2 m2 cp2 vs, upT A1 m1 cp1 us, skT q G0 c l ((zerosL (rws c) (wds c))), skT p F c l (cells c l (us.take k)), boxT gc 31 #[.int .i64 c.bt, .int .i64 c.rw, .int .i64 c.wd, .int .i64 1, .int .u64 c.sd], boxT w.heap.size 34 #[.int .i64 x.bt, .int .i64 x.rw, .int .i64 x.wd, .int .i64 x.md, .int .u64 x.sd, .int .i64 lv, .slice A n0 k0, .slice B n1 k1]]) (fun iv _ => m1 - (intOf iv).toNat)
  case atStart => exact ⟨0, F0, Nat.zero_le _, rfl, by rw [List.take_zero, cells_nil]; exact HV6.out⟩
  case round =>
    obtain ⟨k, F, hk1, rfl, hv⟩ := hrel
    have HVr := Lib.hid hv
    have HU := Lib.hid (upI HVr.out.i1)
    clear hv
    by_cases hlt : k < m1
    · obtain ⟨u, hu1⟩ : ∃ u, us[k]? = some u := ⟨_, List.getElem?_eq_getElem (by rw [HU.out.len]; exact hlt)⟩
      have hst := SU.out k u hu1
      have HK9 := Lib.hid hu1
      have HKU := Lib.hid (HU.out.at hu1)
      obtain ⟨ad, g, o, ead, hadd, d1, d2, kb, db⟩ := HKU.out
      obtain ⟨uk, ud⟩ := u
      simp only at d1 d2 kb db hst
      have hck : k < cp1 := by have := HU.out.nc; omega
      obtain ⟨us0, hus0⟩ : ∃ x, cells c l (us.take k) = x := ⟨_, rfl⟩
      obtain ⟨us2, hus2⟩ : ∃ x, cells c l (us.take (k + 1)) = x := ⟨_, rfl⟩
      rw [hus0, hus2] at hst
      rw [hus0] at HVr
      have HNX := Lib.hid hus2
      have HST := Lib.hid hst
      have HUB := Lib.hid kb
      have HDB := Lib.hid db
      have hkm : (k : Int) < m1 := by omega
      clear hus0 hus2 hst hu1 kb db HKU hck
      subst ead
      go_upto_region 14 with fail
      go_region_held3 (fun w' => w'.cell? ⟨g, o, none⟩ = some (.int .u64 uk) ∧ w'.cell? ⟨g, o + 1, none⟩ = some (.int .i64 ud)) (first | (refine ⟨?_, ?_⟩ <;> (first | (with_reducible assumption) | (with_reducible refine cell_up d1 ?_) | (with_reducible refine cell_up d2 ?_)) <;> repeat' (first | (with_reducible exact Below.refl _ _) | (with_reducible assumption) | (with_reducible refine below_over ?_ _ _) | (with_reducible refine Lw.below_alloc ?_ _) | (with_reducible refine Below.drew ?_) | (with_reducible refine below_drewN ?_ _) | (with_reducible refine Below.setCell ?_ ?_ _) | go_size))) (first
        | (go_at_call 16; (with_reducible refine (supd_any p F c l us0 uk ud _ (skI (HVr.out.up (by repeat' (first | (with_reducible exact Below.refl _ _) | (with_reducible assumption) | (with_reducible refine below_over ?_ _ _) | (with_reducible refine Lw.below_alloc ?_ _) | (with_reducible refine Below.drew ?_) | (with_reducible refine below_drewN ?_ _) | (with_reducible refine Below.setCell ?_ ?_ _) | go_size))).i3) HUB.out.1 HUB.out.2 HDB.out.1 HDB.out.2).mono ?_); rintro e w8 ⟨he, F8, hnp, hnk, hnf⟩; rw [HST.out.1] at he; subst he; rw [HST.out.2] at hnp; have HV8 := Lib.hid ((HVr.out.up (by repeat' (first | (with_reducible exact Below.refl _ _) | (with_reducible assumption) | (with_reducible refine below_over ?_ _ _) | (with_reducible refine Lw.below_alloc ?_ _) | (with_reducible refine Below.drew ?_) | (with_reducible refine below_drewN ?_ _) | (with_reducible refine Below.setCell ?_ ?_ _) | go_size))).turn_3 (skT p F8 c l us2) hnp hnk hnf); clear hnp hnk hnf d1 d2; obtain ⟨ad', g', o', ead', hadd', d1, d2, kb', db'⟩ := (upI HV8.out.i1).at HK9.out; injection ead' with ead'; subst ead'; rw [hadd] at hadd'; injection hadd' with e1' e2'; subst e1' e2'; simp only at d1 d2; clear kb' db'))
      all_goals go_wp2
      all_goals go_roundw
      all_goals first
        | exact ⟨k + 1, F8, by omega, by go_num, by rw [HNX.out]; first | exact HV8.out | exact HV8.out.up (by repeat' (first | (with_reducible exact Below.refl _ _) | (with_reducible assumption) | (with_reducible refine below_over ?_ _ _) | (with_reducible refine Lw.below_alloc ?_ _) | (with_reducible refine Below.drew ?_) | (with_reducible refine below_drewN ?_ _) | (with_reducible refine Below.setCell ?_ ?_ _) | go_size))⟩
        | (simp [intOf]; omega)
    · have e : k = m1 := by omega
      have hend : us.take k = us := List.take_of_length_le (by rw [HU.out.len, e]; exact Nat.le_refl _)
      rw [hend] at HVr
      have hkm : ¬ (k : Int) < m1 := by omega
      clear hend e hlt
      go_wp2
      obtain ⟨wo, rfl⟩ : ∃ wo, wo = wr := ⟨_, rfl⟩
      obtain ⟨ko, rfl⟩ : ∃ ko, ko = k := ⟨_, rfl⟩
      obtain ⟨Fo, rfl⟩ : ∃ Fo, Fo = F := ⟨_, rfl⟩
      have HVS2 := HVr
      clear HVr HU hk1 hkm
      go_loopw [13] (fun iv wr => ∃ (k : Nat) (F : Nat → Prop), k ≤ m2 ∧ iv = .int .i64 k ∧ Have w wr [upT A2 m2 cp2 vs, upT A1 m1 cp1 us, skT q F c l (cells c l (vs.take k)), skT p Fo c l (cells c l us), boxT gc 31 #[.int .i64 c.bt, .int .i64 c.rw, .int .i64 c.wd, .int .i64 1, .int .u64 c.sd], boxT w.heap.size 34 #[.int .i64 x.bt, .int .i64 x.rw, .int .i64 x.wd, .int .i64 x.md, .int .u64 x.sd, .int .i64 lv, .slice A n0 k0, .slice B n1 k1]]) (fun iv _ => m2 - (intOf iv).toNat)
      case atStart => exact ⟨0, G0, Nat.zero_le _, rfl, by rw [List.take_zero, cells_nil]; exact HVS2.out⟩
      case round =>
        obtain ⟨k, F, hk1, rfl, hv⟩ := hrel
        have HVr := Lib.hid hv
        have HU := Lib.hid (upI HVr.out.i0)
        clear hv
        by_cases hlt : k < m2
        · obtain ⟨u, hu1⟩ : ∃ u, vs[k]? = some u := ⟨_, List.getElem?_eq_getElem (by rw [HU.out.len]; exact hlt)⟩
          have hst := SV.out k u hu1
          have HK9 := Lib.hid hu1
          have HKU := Lib.hid (HU.out.at hu1)
          obtain ⟨ad, g, o, ead, hadd, d1, d2, kb, db⟩ := HKU.out
          obtain ⟨uk, ud⟩ := u
          simp only at d1 d2 kb db hst
          have hck : k < cp2 := by have := HU.out.nc; omega
          obtain ⟨us0, hus0⟩ : ∃ x, cells c l (vs.take k) = x := ⟨_, rfl⟩
          obtain ⟨us2, hus2⟩ : ∃ x, cells c l (vs.take (k + 1)) = x := ⟨_, rfl⟩
          rw [hus0, hus2] at hst
          rw [hus0] at HVr
          have HNX := Lib.hid hus2
          have HST := Lib.hid hst
          have HUB := Lib.hid kb
          have HDB := Lib.hid db
          have hkm : (k : Int) < m2 := by omega
          clear hus0 hus2 hst hu1 kb db HKU hck
          subst ead
          go_upto_region 19 with fail
          go_region_held3 (fun w' => w'.cell? ⟨g, o, none⟩ = some (.int .u64 uk) ∧ w'.cell? ⟨g, o + 1, none⟩ = some (.int .i64 ud)) (first | (refine ⟨?_, ?_⟩ <;> (first | (with_reducible assumption) | (with_reducible refine cell_up d1 ?_) | (with_reducible refine cell_up d2 ?_)) <;> repeat' (first | (with_reducible exact Below.refl _ _) | (with_reducible assumption) | (with_reducible refine below_over ?_ _ _) | (with_reducible refine Lw.below_alloc ?_ _) | (with_reducible refine Below.drew ?_) | (with_reducible refine below_drewN ?_ _) | (with_reducible refine Below.setCell ?_ ?_ _) | go_size))) (first
            | (go_at_call 16; (with_reducible refine (supd_any q F c l us0 uk ud _ (skI (HVr.out.up (by repeat' (first | (with_reducible exact Below.refl _ _) | (with_reducible assumption) | (with_reducible refine below_over ?_ _ _) | (with_reducible refine Lw.below_alloc ?_ _) | (with_reducible refine Below.drew ?_) | (with_reducible refine below_drewN ?_ _) | (with_reducible refine Below.setCell ?_ ?_ _) | go_size))).i2) HUB.out.1 HUB.out.2 HDB.out.1 HDB.out.2).mono ?_); rintro e w8 ⟨he, F8, hnp, hnk, hnf⟩; rw [HST.out.1] at he; subst he; rw [HST.out.2] at hnp; have HV8 := Lib.hid ((HVr.out.up (by repeat' (first | (with_reducible exact Below.refl _ _) | (with_reducible assumption) | (with_reducible refine below_over ?_ _ _) | (with_reducible refine Lw.below_alloc ?_ _) | (with_reducible refine Below.drew ?_) | (with_reducible refine below_drewN ?_ _) | (with_reducible refine Below.setCell ?_ ?_ _) | go_size))).turn_2 (skT q F8 c l us2) hnp hnk hnf); clear hnp hnk hnf d1 d2; obtain ⟨ad', g', o', ead', hadd', d1, d2, kb', db'⟩ := (upI HV8.out.i0).at HK9.out; injection ead' with ead'; subst ead'; rw [hadd] at hadd'; injection hadd' with e1' e2'; subst e1' e2'; simp only at d1 d2; clear kb' db'))
          all_goals go_wp2
          all_goals go_roundw
          all_goals first
            | exact ⟨k + 1, F8, by omega, by go_num, by rw [HNX.out]; first | exact HV8.out | exact HV8.out.up (by repeat' (first | (with_reducible exact Below.refl _ _) | (with_reducible assumption) | (with_reducible refine below_over ?_ _ _) | (with_reducible refine Lw.below_alloc ?_ _) | (with_reducible refine Below.drew ?_) | (with_reducible refine below_drewN ?_ _) | (with_reducible refine Below.setCell ?_ ?_ _) | go_size))⟩
            | (simp [intOf]; omega)
        · have e : k = m2 := by omega
          have hend : vs.take k = vs := List.take_of_length_le (by rw [HU.out.len, e]; exact Nat.le_refl _)
          rw [hend] at HVr
          have hkm : ¬ (k : Int) < m2 := by omega
          clear hend e hlt
          go_wp2
          obtain ⟨w9, rfl⟩ : ∃ w9, w9 = wr := ⟨_, rfl⟩
          obtain ⟨Go, rfl⟩ : ∃ Go, Go = F := ⟨_, rfl⟩
          have HVZ := HVr
          clear HVr HU hk1 hkm
          go_loopw [15, 16] (fun ot iv wr => ∃ (r : Nat), r ≤ m ∧ iv = .int .i64 r ∧ wr.ownsRow w9.heap.size 2 1 ot r ((List.replicate r (0 : Int)).map (Value.int .i64)) ∧ Below w9.heap.size w9 wr) (fun _ iv _ => m - (intOf iv).toNat)
          case atStart => exact ⟨0, Nat.zero_le _, rfl, ⟨rfl, .inl ⟨rfl, rfl⟩⟩, Below.refl _ _⟩
          case round =>
            obtain ⟨r, hr, rfl, hown, hbel⟩ := hrel
            have HOWN := Lib.hid hown
            have HBE := Lib.hid hbel
            have hsz := hbel.size
            clear hown hbel
            have HV3 := Lib.hid (HVZ.out.up HBE.out)
            have c1 := box_cell (i := 1) HV3.out.i4 rfl
            have hrw := HRW.out
            rw [hrw] at c1
            clear hrw
            by_cases hlt : r < m
            · have HNX : Hid (List.replicate (r + 1) (0 : Int) = List.replicate r 0 ++ [0]) := Lib.hid (by rw [List.replicate_succ'])
              have hlt2 : (r : Int) < (m : Int) := by omega
              go_wp2_with (at_builtin; (refine app_one .i64 rfl _ _ 22 rfl w9.heap.size 2 i0 8 i64s_u hi hz0 hz1 hz2 _ r (List.replicate r 0) rfl (HOWN.out.alloc _) 0 wr.heap.size rfl (cell_one_new _ _ _) (by unfold maxLen; omega) (by omega) (by simp; omega) ?_); intro v1 w6 own6 grow6 oth6)
              go_roundw
              case rel => exact ⟨r + 1, by omega, by go_num, by rw [HNX.out]; exact own6, app_below3 (Lw.below_alloc HBE.out _) grow6 (fun q hq => own_ge HOWN.out q hq)⟩
              case measure => simp [intOf]; omega
            · have e : m = r := by omega
              subst e
              obtain ⟨Ao, co, hvo, hrdo, ho1, ho2, ho3⟩ := own_rd HOWN.out
              subst hvo
              obtain ⟨ao, hao⟩ : ∃ ao, Ao = some ao := by
                cases Ao with
                | none => have := (ho3 rfl).1; omega
                | some ao => exact ⟨ao, rfl⟩
              subst hao
              obtain ⟨gw, rfl, hgo, hmid⟩ := Ord.mid_own HOWN.out
              have ho5 : co ≤ 9223372036854775807 := ho2
              clear ho2
              have HVO : Hid (Have w wr [midT gw (OT c l us vs m 0 0 0), upT A2 m2 cp2 vs, upT A1 m1 cp1 us, skT q Go c l (cells c l vs), skT p Fo c l (cells c l us), boxT gc 31 #[.int .i64 c.bt, .int .i64 c.rw, .int .i64 c.wd, .int .i64 1, .int .u64 c.sd], boxT w.heap.size 34 #[.int .i64 x.bt, .int .i64 x.rw, .int .i64 x.wd, .int .i64 x.md, .int .u64 x.sd, .int .i64 lv, .slice A n0 k0, .slice B n1 k1]]) := Lib.hid (by
                refine Have.put_at2 HV3.out (midT gw _) ?_ ?_ ?_
                · show Ord.Mid wr gw 0 _
                  rw [OT_zero]
                  exact hmid
                · intro k hk u hu hu2
                  have h1 : k = gw := hk
                  have h2 := u.lt w9 (HVZ.out.one u hu).1 k hu2
                  omega
                · intro k hk
                  have h1 : k = gw := hk
                  have := HVZ.out.below.size
                  omega)
              have hcap : (m : Int) ≤ (co : Int) := by omega
              have hlt3 : ¬ (m : Int) < (m : Int) := by omega
              clear hrdo hmid HOWN hgo ho3 hlt hr
              go_wp2
              clear c1 hlt3 HV3 HBE hsz
              obtain ⟨wo3, rfl⟩ : ∃ wo3, wo3 = wr := ⟨_, rfl⟩
              go_loopw [14, 17] (fun ow iv wr => ∃ (i : Nat), i ≤ m1 ∧ ow = .int .i64 (T2 ownP us vs i 0) ∧ iv = .int .i64 i ∧ Have w wr [midT gw (OT c l us vs m i 0 0), upT A2 m2 cp2 vs, upT A1 m1 cp1 us, skT q Go c l (cells c l vs), skT p Fo c l (cells c l us), boxT gc 31 #[.int .i64 c.bt, .int .i64 c.rw, .int .i64 c.wd, .int .i64 1, .int .u64 c.sd], boxT w.heap.size 34 #[.int .i64 x.bt, .int .i64 x.rw, .int .i64 x.wd, .int .i64 x.md, .int .u64 x.sd, .int .i64 lv, .slice A n0 k0, .slice B n1 k1]]) (fun _ iv _ => m1 - (intOf iv).toNat)
              case atStart => exact ⟨0, Nat.zero_le _, by rw [T2_zero], rfl, HVO.out⟩
              case round =>
                obtain ⟨i, hi9, rfl, rfl, hv⟩ := hrel
                have HVr := Lib.hid hv
                clear hv
                by_cases hlt : i < m1
                · obtain ⟨u, hu1⟩ : ∃ u, us[i]? = some u := ⟨_, List.getElem?_eq_getElem (by rw [HM1.out]; exact hlt)⟩
                  have HUI := Lib.hid hu1
                  have hub := HU9.out u (List.mem_of_getElem? hu1)
                  have HUB := Lib.hid hub
                  obtain ⟨ad, g, o, ead, hadd, d1, d2, kb, db⟩ := (upI HVr.out.i2).at hu1
                  obtain ⟨uk, ud⟩ := u
                  simp only at d1 d2 hub
                  have CU := Lib.hid (fun w => CCL.out uk w hub.1.1 hub.1.2)
                  have HAU := Lib.hid hadd
                  subst ead
                  obtain ⟨c0, c1, c2, c3, c4⟩ := box5 HVr.out.i5
                  have hkm : (i : Int) < m1 := by omega
                  clear hu1 hub kb db d2
                  go_upto_region 30 with fail
                  go_region_held3 (fun w' => w'.cell? ⟨gc, 0, none⟩ = some (.int .i64 c.bt) ∧ w'.cell? ⟨gc, 1, none⟩ = some (.int .i64 c.rw) ∧ w'.cell? ⟨gc, 2, none⟩ = some (.int .i64 c.wd) ∧ w'.cell? ⟨gc, 3, none⟩ = some (.int .i64 1) ∧ w'.cell? ⟨gc, 4, none⟩ = some (.int .u64 c.sd) ∧ w'.cell? ⟨g, o, none⟩ = some (.int .u64 uk)) (first | (refine ⟨?_, ?_, ?_, ?_, ?_, ?_⟩ <;> (first | (with_reducible assumption) | (with_reducible refine cell_up c0 ?_) | (with_reducible refine cell_up c1 ?_) | (with_reducible refine cell_up c2 ?_) | (with_reducible refine cell_up c3 ?_) | (with_reducible refine cell_up c4 ?_) | (with_reducible refine cell_up d1 ?_)) <;> repeat' (first | (with_reducible exact Below.refl _ _) | (with_reducible assumption) | (with_reducible refine below_over ?_ _ _) | (with_reducible refine Lw.below_alloc ?_ _) | (with_reducible refine Below.drew ?_) | (with_reducible refine below_drewN ?_ _) | (with_reducible refine Below.setCell ?_ ?_ _) | go_size))) (first
                    | (go_at_call 21; (with_reducible refine (CU.out _).mono ?_); rintro e w7 ⟨g7, rfl, hm7, hg7, hb⟩; have hbr : Below wr.heap.size wr w7 := below_call (show Below wr.heap.size wr _ from (by repeat' (first | (with_reducible exact Below.refl _ _) | (with_reducible assumption) | (with_reducible refine below_over ?_ _ _) | (with_reducible refine Lw.below_alloc ?_ _) | (with_reducible refine Below.drew ?_) | (with_reducible refine below_drewN ?_ _) | (with_reducible refine Below.setCell ?_ ?_ _) | go_size))) hb (Nat.le_refl _); have HV7 := Lib.hid ((HVr.out.up (show Below wr.heap.size wr _ from (by repeat' (first | (with_reducible exact Below.refl _ _) | (with_reducible assumption) | (with_reducible refine below_over ?_ _ _) | (with_reducible refine Lw.below_alloc ?_ _) | (with_reducible refine Below.drew ?_) | (with_reducible refine below_drewN ?_ _) | (with_reducible refine Below.setCell ?_ ?_ _) | go_size)))).push (midT g7 ((List.range m).map (col c l uk))) hb hm7 (fun k hk => by subst hk; exact hg7)); clear hm7 hg7 hb))
                  all_goals go_wp2
                  clear c0 c1 c2 c3 c4 d1 hkm CU hbr
                  obtain ⟨w30, rfl⟩ : ∃ w30, w30 = wr := ⟨_, rfl⟩
                  go_loopw [14, 19] (fun ow kv wr => ∃ (k : Nat), k ≤ m2 ∧ ow = .int .i64 (T2 ownP us vs i k) ∧ kv = .int .i64 k ∧ Have w wr [midT g7 ((List.range m).map (col c l uk)), midT gw (OT c l us vs m i k 0), upT A2 m2 cp2 vs, upT (some ad) m1 cp1 us, skT q Go c l (cells c l vs), skT p Fo c l (cells c l us), boxT gc 31 #[.int .i64 c.bt, .int .i64 c.rw, .int .i64 c.wd, .int .i64 1, .int .u64 c.sd], boxT w.heap.size 34 #[.int .i64 x.bt, .int .i64 x.rw, .int .i64 x.wd, .int .i64 x.md, .int .u64 x.sd, .int .i64 lv, .slice A n0 k0, .slice B n1 k1]]) (fun _ kv _ => m2 - (intOf kv).toNat)
                  case atStart => exact ⟨0, Nat.zero_le _, rfl, rfl, HV7.out.up (by repeat' (first | (with_reducible exact Below.refl _ _) | (with_reducible assumption) | (with_reducible refine below_over ?_ _ _) | (with_reducible refine Lw.below_alloc ?_ _) | (with_reducible refine Below.drew ?_) | (with_reducible refine below_drewN ?_ _) | (with_reducible refine Below.setCell ?_ ?_ _) | go_size))⟩
                  case round =>
                    obtain ⟨k, hk9, rfl, rfl, hv⟩ := hrel
                    have HVs := Lib.hid hv
                    clear hv
                    by_cases hlt2 : k < m2
                    · obtain ⟨v, hv1⟩ : ∃ v, vs[k]? = some v := ⟨_, List.getElem?_eq_getElem (by rw [HM2.out]; exact hlt2)⟩
                      have HVI := Lib.hid hv1
                      have hvb := HV9.out v (List.mem_of_getElem? hv1)
                      have HMB := Lib.hid (HMUL.out _ (List.mem_of_getElem? HUI.out) v (List.mem_of_getElem? hv1))
                      obtain ⟨ad2, g2, o2, ead, hadd2, d1, d2, kb, db⟩ := (upI HVs.out.i2).at hv1
                      obtain ⟨vk, vd⟩ := v
                      simp only at d1 d2 hvb HMB
                      have CU := Lib.hid (fun w => CCL.out vk w hvb.1.1 hvb.1.2)
                      have HAV := Lib.hid hadd2
                      subst ead
                      obtain ⟨c0, c1, c2, c3, c4⟩ := box5 HVs.out.i6
                      have hkm : (k : Int) < m2 := by omega
                      have hkm1 : (i : Int) < m1 := by omega
                      clear hv1 hvb kb db d2
                      go_upto_region 34 with fail
                      go_region_held3 (fun w' => w'.cell? ⟨gc, 0, none⟩ = some (.int .i64 c.bt) ∧ w'.cell? ⟨gc, 1, none⟩ = some (.int .i64 c.rw) ∧ w'.cell? ⟨gc, 2, none⟩ = some (.int .i64 c.wd) ∧ w'.cell? ⟨gc, 3, none⟩ = some (.int .i64 1) ∧ w'.cell? ⟨gc, 4, none⟩ = some (.int .u64 c.sd) ∧ w'.cell? ⟨g2, o2, none⟩ = some (.int .u64 vk)) (first | (refine ⟨?_, ?_, ?_, ?_, ?_, ?_⟩ <;> (first | (with_reducible assumption) | (with_reducible refine cell_up c0 ?_) | (with_reducible refine cell_up c1 ?_) | (with_reducible refine cell_up c2 ?_) | (with_reducible refine cell_up c3 ?_) | (with_reducible refine cell_up c4 ?_) | (with_reducible refine cell_up d1 ?_)) <;> repeat' (first | (with_reducible exact Below.refl _ _) | (with_reducible assumption) | (with_reducible refine below_over ?_ _ _) | (with_reducible refine Lw.below_alloc ?_ _) | (with_reducible refine Below.drew ?_) | (with_reducible refine below_drewN ?_ _) | (with_reducible refine Below.setCell ?_ ?_ _) | go_size))) (first
                        | (go_at_call 21; (with_reducible refine (CU.out _).mono ?_); rintro e w8 ⟨g8, rfl, hm7, hg7, hb⟩; have hbr : Below wr.heap.size wr w8 := below_call (show Below wr.heap.size wr _ from (by repeat' (first | (with_reducible exact Below.refl _ _) | (with_reducible assumption) | (with_reducible refine below_over ?_ _ _) | (with_reducible refine Lw.below_alloc ?_ _) | (with_reducible refine Below.drew ?_) | (with_reducible refine below_drewN ?_ _) | (with_reducible refine Below.setCell ?_ ?_ _) | go_size))) hb (Nat.le_refl _); have HV8 := Lib.hid ((HVs.out.up (show Below wr.heap.size wr _ from (by repeat' (first | (with_reducible exact Below.refl _ _) | (with_reducible assumption) | (with_reducible refine below_over ?_ _ _) | (with_reducible refine Lw.below_alloc ?_ _) | (with_reducible refine Below.drew ?_) | (with_reducible refine below_drewN ?_ _) | (with_reducible refine Below.setCell ?_ ?_ _) | go_size)))).push (midT g8 ((List.range m).map (col c l vk))) hb hm7 (fun k hk => by subst hk; exact hg7)); clear hm7 hg7 hb))
                      clear c0 c1 c2 c3 c4 d1 CU hbr
                      have c1 := box_cell (i := 1) HV8.out.i7 rfl
                      have hmr : ((m : Int) != c.rw) = false := by simp [HRW.out]
                      obtain ⟨d1, d2⟩ := upd_cells (upI HV8.out.i4) HUI.out HAU.out
                      obtain ⟨e1, e2⟩ := upd_cells (upI HV8.out.i3) HVI.out HAV.out
                      go_upto_region 37 with fail
                      clear hmr
                      by_cases hUV : uk = vk
                      · skip
                        have hok := T2_k (f := ownP) HUI.out HVI.out
                        have hbk := HBO.out i k
                        have hbk1 := HBO.out i (k + 1)
                        have hop : ownP (uk, ud) (vk, vd) = ud * vd := if_pos hUV
                        rw [hop] at hok
                        obtain ⟨x9, hx9⟩ : ∃ x, T2 ownP us vs i k = x := ⟨_, rfl⟩
                        obtain ⟨SS, hSS⟩ : ∃ x, T2 ownP us vs i (k + 1) = x := ⟨_, rfl⟩
                        rw [hx9] at hok hbk
                        rw [hSS] at hok hbk1
                        obtain ⟨PR, hPR⟩ : ∃ PR, ud * vd = PR := ⟨_, rfl⟩
                        have hpb := HMB.out
                        rw [hPR] at hok hpb
                        have b1 : IntKind.i64.wrap (ud * vd) = PR := by rw [hPR]; exact IntWalk.i64_in _ ⟨by omega, by omega⟩
                        have b2 : wrap64 (ud * vd) = PR := by rw [hPR]; exact IntWalk.wrap64_in _ ⟨by omega, by omega⟩
                        have b3 : IntKind.i64.wrap (x9 + PR) = SS := by rw [IntWalk.i64_in _ ⟨by omega, by omega⟩]; omega
                        have b4 : wrap64 (x9 + PR) = SS := by rw [IntWalk.wrap64_in _ ⟨by omega, by omega⟩]; omega
                        have HSS := Lib.hid hSS
                        have HSM := Lib.hid (OT_same (c := c) (l := l) (m := m) HUI.out HVI.out hUV)
                        have heq : (uk == vk) = true := by simp [hUV]
                        rw [hx9]
                        clear hok hbk hbk1 hop hx9 hSS hPR hpb hUV
                        go_quiet (fail)
                        go_wp2
                        go_quiet (fail)
                        go_wp2
                        go_roundw
                        case rel =>
                          refine ⟨k + 1, by omega, by rw [HSS.out], by go_num, ?_⟩
                          rw [← HSM.out]
                          exact HV8.out.drop_0.up (by repeat' (first | (with_reducible exact Below.refl _ _) | (with_reducible assumption) | (with_reducible refine below_over ?_ _ _) | (with_reducible refine Lw.below_alloc ?_ _) | (with_reducible refine Below.drew ?_) | (with_reducible refine below_drewN ?_ _) | (with_reducible refine Below.setCell ?_ ?_ _) | go_size))
                        case measure => simp [intOf]; omega
                      · have heq : (uk == vk) = false := by simpa using hUV
                        have HNE : Hid (uk ≠ vk) := Lib.hid hUV
                        clear hUV
                        go_quiet (fail)
                        clear d1 d2 e1 e2 heq
                        go_wp2
                        obtain ⟨w37, rfl⟩ : ∃ w37, w37 = wr := ⟨_, rfl⟩
                        go_loopw [21] (fun rv wr => ∃ (r : Nat), r ≤ m ∧ rv = .int .i64 r ∧ Have w wr [midT g8 ((List.range m).map (col c l vk)), midT g7 ((List.range m).map (col c l uk)), midT gw (OT c l us vs m i k r), upT (some ad2) m2 cp2 vs, upT (some ad) m1 cp1 us, skT q Go c l (cells c l vs), skT p Fo c l (cells c l us), boxT gc 31 #[.int .i64 c.bt, .int .i64 c.rw, .int .i64 c.wd, .int .i64 1, .int .u64 c.sd], boxT w.heap.size 34 #[.int .i64 x.bt, .int .i64 x.rw, .int .i64 x.wd, .int .i64 x.md, .int .u64 x.sd, .int .i64 lv, .slice A n0 k0, .slice B n1 k1]]) (fun rv _ => m - (intOf rv).toNat)
                        case atStart => exact ⟨0, Nat.zero_le _, rfl, HV8.out.up (by repeat' (first | (with_reducible exact Below.refl _ _) | (with_reducible assumption) | (with_reducible refine below_over ?_ _ _) | (with_reducible refine Lw.below_alloc ?_ _) | (with_reducible refine Below.drew ?_) | (with_reducible refine below_drewN ?_ _) | (with_reducible refine Below.setCell ?_ ?_ _) | go_size))⟩
                        case round =>
                          obtain ⟨r, hr, rfl, hv⟩ := hrel
                          have HVi := Lib.hid hv
                          clear hv
                          have c1 := box_cell (i := 1) HVi.out.i7 rfl
                          have hrw := HRW.out
                          rw [hrw] at c1
                          clear hrw
                          by_cases hrm : r < m
                          · have hr3 : (r : Int) < (m : Int) := by omega
                            obtain ⟨d1, d2⟩ := upd_cells (upI HVi.out.i4) HUI.out HAU.out
                            obtain ⟨e1, e2⟩ := upd_cells (upI HVi.out.i3) HVI.out HAV.out
                            have HST := Lib.hid (OT_set (c := c) (l := l) (m := m) HUI.out HVI.out hrm)
                            have hfz := (midI HVi.out.i2).frozen (0 + r)
                            have hcl := (midI HVi.out.i2).cell HST.out.1
                            obtain ⟨x7, hx7⟩ : ∃ x, col c l uk r = x := ⟨_, rfl⟩
                            obtain ⟨x8, hx8⟩ : ∃ x, col c l vk r = x := ⟨_, rfl⟩
                            have h7 := (midI HVi.out.i1).cell (row_get (f := col c l uk) hrm)
                            have h8 := (midI HVi.out.i0).cell (row_get (f := col c l vk) hrm)
                            rw [hx7] at h7
                            rw [hx8] at h8
                            obtain ⟨x9, hx9⟩ : ∃ x, T2 (othP c l r) us vs i k = x := ⟨_, rfl⟩
                            have hbk := HBT.out r i k
                            have hbk1 := HBT.out r i (k + 1)
                            have hok := T2_k (f := othP c l r) HUI.out HVI.out
                            rw [hx9] at hcl hbk hok
                            obtain ⟨a7, ha7⟩ : ∃ a : Addr, (⟨g7, 0, none⟩ : Addr) = a := ⟨_, rfl⟩
                            obtain ⟨a8, ha8⟩ : ∃ a : Addr, (⟨g8, 0, none⟩ : Addr) = a := ⟨_, rfl⟩
                            obtain ⟨aw, haw⟩ : ∃ a : Addr, (⟨gw, 0, none⟩ : Addr) = a := ⟨_, rfl⟩
                            by_cases hcc : x7 = x8
                            · have hop : othP c l r (uk, ud) (vk, vd) = ud * vd := if_pos ⟨HNE.out, by simp only; rw [hx7, hx8, hcc]⟩
                              have hm6 := (midI HVi.out.i2).set r (x9 + ud * vd)
                              have hk6 : Kept (fun k => k = gw) wr (wr.setCell ⟨gw, 0 + r, none⟩ (.int .i64 (x9 + ud * vd))) := (Kept.refl (fun k => k = gw) wr).set (.inl rfl) _ _
                              have hset := HST.out.2
                              rw [hx9, hop] at hset
                              rw [hset] at hm6
                              rw [hop] at hok
                              rw [← Ord.add_at, haw] at hcl hfz hm6 hk6
                              rw [← Ord.add_at, ha7] at h7
                              rw [← Ord.add_at, ha8] at h8
                              obtain ⟨PR, hPR⟩ : ∃ PR, ud * vd = PR := ⟨_, rfl⟩
                              have hpb := HMB.out
                              rw [hPR] at hok hm6 hk6 hpb
                              obtain ⟨SS, hSS⟩ : ∃ SS, x9 + PR = SS := ⟨_, rfl⟩
                              rw [hSS] at hm6 hk6
                              have b1 : IntKind.i64.wrap (ud * vd) = PR := by rw [hPR]; exact IntWalk.i64_in _ ⟨by omega, by omega⟩
                              have b2 : wrap64 (ud * vd) = PR := by rw [hPR]; exact IntWalk.wrap64_in _ ⟨by omega, by omega⟩
                              have b3 : IntKind.i64.wrap (x9 + PR) = SS := by rw [hSS]; exact IntWalk.i64_in _ ⟨by omega, by omega⟩
                              have b4 : wrap64 (x9 + PR) = SS := by rw [hSS]; exact IntWalk.wrap64_in _ ⟨by omega, by omega⟩
                              have HM6 := Lib.hid hm6
                              have HK6 := Lib.hid hk6
                              have heq : (x7 == x8) = true := by simp [hcc]
                              rw [ha7, ha8, haw]
                              clear hop hset hm6 hk6 hok hbk hbk1 hx7 hx8 hx9 hPR hSS hpb hcc
                              go_wp2
                              go_quiet (fail)
                              go_wp2
                              clear h7 h8 heq
                              go_region
                              go_wp2
                              go_roundw
                              case rel =>
                                refine ⟨r + 1, by omega, by go_num, ?_⟩
                                subst ha7 ha8 haw
                                exact (HVi.out.turn_2 (midT gw _) HM6.out HK6.out (fun k hk => .inl hk)).up (by repeat' (first | (with_reducible exact Below.refl _ _) | (with_reducible assumption) | (with_reducible refine below_over ?_ _ _) | (with_reducible refine Lw.below_alloc ?_ _) | (with_reducible refine Below.drew ?_) | (with_reducible refine below_drewN ?_ _) | (with_reducible refine Below.setCell ?_ ?_ _) | go_size))
                              case measure => simp [intOf]; omega
                            · have hop : othP c l r (uk, ud) (vk, vd) = 0 := if_neg (fun h => hcc (by have := h.2; simp only at this; rw [hx7, hx8] at this; exact this))
                              have hsk := OT_skip (c := c) (l := l) (m := m) HUI.out HVI.out hop
                              have hv9 := HVi.out
                              rw [hsk] at hv9
                              have HV9 := Lib.hid hv9
                              rw [← Ord.add_at, ha7] at h7
                              rw [← Ord.add_at, ha8] at h8
                              have heq : (x7 == x8) = false := by simpa using hcc
                              rw [ha7, ha8]
                              clear hop hok hbk hbk1 hx7 hx8 hx9 hcc hsk hv9 hcl hfz d1 d2 e1 e2
                              go_wp2
                              go_quiet (fail)
                              go_wp2
                              go_roundw
                              case rel =>
                                refine ⟨r + 1, by omega, by go_num, ?_⟩
                                exact HV9.out.up (by repeat' (first | (with_reducible exact Below.refl _ _) | (with_reducible assumption) | (with_reducible refine below_over ?_ _ _) | (with_reducible refine Lw.below_alloc ?_ _) | (with_reducible refine Below.drew ?_) | (with_reducible refine below_drewN ?_ _) | (with_reducible refine Below.setCell ?_ ?_ _) | go_size))
                              case measure => simp [intOf]; omega
                          · have e : r = m := by omega
                            subst e
                            have hlt3 : ¬ (r : Int) < (r : Int) := by omega
                            have hv9 := HVi.out
                            rw [OT_row] at hv9
                            have HV9 := Lib.hid hv9
                            have how : T2 ownP us vs i (k + 1) = T2 ownP us vs i k := by
                              rw [T2_k HUI.out HVI.out]
                              have : ownP (uk, ud) (vk, vd) = 0 := if_neg HNE.out
                              omega
                            have HOWK := Lib.hid how
                            clear hv9 hrm how
                            go_wp2
                            go_roundw
                            case rel => exact ⟨k + 1, by omega, by rw [HOWK.out], by go_num, HV9.out.drop_0⟩
                            case measure => simp [intOf]; omega
                    · have e : k = m2 := by omega
                      subst e
                      have hlt3 : ¬ (k : Int) < (k : Int) := by omega
                      have hv9 := HVs.out
                      have h1 := T2_i (f := ownP) (vs := vs) HUI.out
                      have h2 := OT_i (c := c) (l := l) (vs := vs) (m := m) HUI.out
                      rw [HM2.out] at h1 h2
                      rw [h2] at hv9
                      have HV9x := Lib.hid hv9
                      have HOWK := Lib.hid h1
                      clear hv9 h1 h2 hlt2
                      go_wp2
                      go_roundw
                      case rel => exact ⟨i + 1, by omega, by rw [HOWK.out], by go_num, HV9x.out.drop_0⟩
                      case measure => simp [intOf]; omega
                · have e : i = m1 := by omega
                  subst e
                  have hlt3 : ¬ (i : Int) < (i : Int) := by omega
                  have how : T2 ownP us vs i 0 = OW := by rw [← HM1.out, T2_end]; exact HOW.out
                  rw [how]
                  clear how hlt
                  obtain ⟨O, hO⟩ : ∃ O, OT c l us vs m i 0 0 = O := ⟨_, rfl⟩
                  have hOl : O.length = m := by rw [← hO, OT_len]
                  have hLS2 : lmin O = LS := by rw [← hO, ← HM1.out]; exact HLS.out
                  obtain ⟨x0, hx0⟩ : ∃ x, O[0]? = some x := ⟨_, List.getElem?_eq_getElem (by omega)⟩
                  rw [hO] at HVr
                  have HOL := Lib.hid hOl
                  have HX0 := Lib.hid hx0
                  have HLS2 := Lib.hid hLS2
                  have z0 := (midI HVr.out.i0).cell hx0
                  simp only [Nat.add_zero] at z0
                  have hm0 : (0 : Int) < (m : Int) := by omega
                  clear hO hOl hLS2 hx0
                  go_wp2
                  clear z0 hm0 hlt3
                  obtain ⟨w44, rfl⟩ : ∃ w44, w44 = wr := ⟨_, rfl⟩
                  go_loopw [22, 23] (fun lst rv wr => ∃ (r : Nat), r ≤ m ∧ lst = .int .i64 ((O.take r).foldl min x0) ∧ rv = .int .i64 r ∧ Have w wr [midT gw O, upT A2 m2 cp2 vs, upT A1 i cp1 us, skT q Go c l (cells c l vs), skT p Fo c l (cells c l us), boxT gc 31 #[.int .i64 c.bt, .int .i64 c.rw, .int .i64 c.wd, .int .i64 1, .int .u64 c.sd], boxT w.heap.size 34 #[.int .i64 x.bt, .int .i64 x.rw, .int .i64 x.wd, .int .i64 x.md, .int .u64 x.sd, .int .i64 lv, .slice A n0 k0, .slice B n1 k1]]) (fun _ rv _ => m - (intOf rv).toNat)
                  case atStart => exact ⟨0, Nat.zero_le _, rfl, rfl, HVr.out.up (by repeat' (first | (with_reducible exact Below.refl _ _) | (with_reducible assumption) | (with_reducible refine below_over ?_ _ _) | (with_reducible refine Lw.below_alloc ?_ _) | (with_reducible refine Below.drew ?_) | (with_reducible refine below_drewN ?_ _) | (with_reducible refine Below.setCell ?_ ?_ _) | go_size))⟩
                  case round =>
                    obtain ⟨r, hr, rfl, rfl, hv⟩ := hrel
                    have HVi := Lib.hid hv
                    clear hv
                    have c1 := box_cell (i := 1) HVi.out.i5 rfl
                    have hrw := HRW.out
                    rw [hrw] at c1
                    clear hrw
                    by_cases hrm : r < m
                    · have hr3 : (r : Int) < (m : Int) := by omega
                      obtain ⟨y, hy⟩ : ∃ y, O[r]? = some y := ⟨_, List.getElem?_eq_getElem (by rw [HOL.out]; exact hrm)⟩
                      have hcl := (midI HVi.out.i0).cell hy
                      have hnx := fold_next (x := x0) hy
                      obtain ⟨x, hx⟩ : ∃ x, (O.take r).foldl min x0 = x := ⟨_, rfl⟩
                      obtain ⟨z, hz⟩ : ∃ z, (O.take (r + 1)).foldl min x0 = z := ⟨_, rfl⟩
                      rw [hx, hz] at hnx
                      have hmn : (if y < x then y else x) = z := by rw [hnx]; split <;> omega
                      have HZZ := Lib.hid hz
                      obtain ⟨aw, haw⟩ : ∃ a : Addr, (⟨gw, 0, none⟩ : Addr) = a := ⟨_, rfl⟩
                      rw [← Ord.add_at, haw] at hcl
                      rw [hx, haw]
                      clear hnx hz hx hy
                      go_wp2
                      go_roundw
                      case rel =>
                        refine ⟨r + 1, by omega, by rw [HZZ.out], by go_num, ?_⟩
                        exact HVi.out.up (by repeat' (first | (with_reducible exact Below.refl _ _) | (with_reducible assumption) | (with_reducible refine below_over ?_ _ _) | (with_reducible refine Lw.below_alloc ?_ _) | (with_reducible refine Below.drew ?_) | (with_reducible refine below_drewN ?_ _) | (with_reducible refine Below.setCell ?_ ?_ _) | go_size))
                      case measure => simp [intOf]; omega
                    · have e : r = m := by omega
                      subst e
                      have hlt3 : ¬ (r : Int) < (r : Int) := by omega
                      have hfl : (O.take r).foldl min x0 = LS := by
                        rw [List.take_of_length_le (by rw [HOL.out]; exact Nat.le_refl _), fold_all HX0.out]
                        exact HLS2.out
                      rw [hfl]
                      clear hfl hrm
                      go_upto_region 50 with (first
                        | (go_at_call 18; (with_reducible refine (CI.out p Fo q Go _ (skI HVi.out.i4) (skI HVi.out.i3)).mono ?_); rintro e wa ⟨rfl, hb⟩; have HVa := Lib.hid ((HVi.out.up hb).push (boxT wa.heap.size 26 #[.int .i64 P, .int .u64 Q]) (Lw.below_alloc (Below.refl _ _) _) (heap_alloc_new wa _) (fun k hk => Nat.le_of_eq hk.symm)); clear hb c1 hlt3))
                      obtain ⟨u0, u1⟩ := box2 HVa.out.i0
                      have wol := HWOL.out
                      go_region_held3 (fun w' => w'.cell? ⟨wa.heap.size, 0, none⟩ = some (.int .i64 P) ∧ w'.cell? ⟨wa.heap.size, 1, none⟩ = some (.int .u64 Q)) (first | (refine ⟨?_, ?_⟩ <;> (first | (with_reducible assumption) | (with_reducible refine cell_up u0 ?_) | (with_reducible refine cell_up u1 ?_)) <;> repeat' (first | (with_reducible exact Below.refl _ _) | (with_reducible assumption) | (with_reducible refine below_over ?_ _ _) | (with_reducible refine Lw.below_alloc ?_ _) | (with_reducible refine Below.drew ?_) | (with_reducible refine below_drewN ?_ _) | (with_reducible refine Below.setCell ?_ ?_ _) | go_size))) (first
                        | (go_at_call 22; (with_reducible refine (COF1.out _).mono ?_); rintro e w' ⟨rfl, hb⟩; obtain ⟨bs4, dd4, rfl⟩ := below_grow hb; clear hb)
                        | (go_at_call 22; (with_reducible refine (COF2.out _).mono ?_); rintro e w' ⟨rfl, hb⟩; obtain ⟨bs5, dd5, rfl⟩ := below_grow hb; clear hb)
                        | (go_at_call 23; (with_reducible refine (CLE.out _).mono ?_); rintro e w' ⟨rfl, hb⟩; obtain ⟨bs6, dd6, rfl⟩ := below_grow hb; clear hb))
                      all_goals go_wp2
                      all_goals go_ret
                      all_goals exact ⟨ret_bs (by first | rfl | (simp [*]; done)), (HVa.out.up (by repeat' (first | (with_reducible exact Below.refl _ _) | (with_reducible assumption) | (with_reducible refine below_over ?_ _ _) | (with_reducible refine Lw.below_alloc ?_ _) | (with_reducible refine Below.drew ?_) | (with_reducible refine below_drewN ?_ _) | (with_reducible refine Below.setCell ?_ ?_ _) | go_size))).below⟩
namespace innerSums
open Go.ChangeShapes Go.WideShapes Go.ChangeAt Go.Joins
set_option maxRecDepth 100000 in
theorem lifted (os : Os) (started : os.Started) (H : Type) (enc : TypeId × Value → H) :
    ReturnsInHanded {} Try.checked os 5 .any (Rows.innerSumsSpec.pre6 enc Try.prog Try.f5 Rows.innerSumsRow.domain false) (Rows.innerSumsSpec.post enc Try.prog Try.f5 false true false false) := by
  refine Lw.lifted (C := Try.checked) (B := 4) (by kernel_rfl) os started (by kernel_rfl) Try.func5
    (ChangeSpec.witness6 (enc := enc) (C := Try.checked) false ⟨#[], #[.agg #[.int .i64 0, .int .i64 0, .int .i64 0, .int .i64 0, .int .u64 0, .int .i64 0, .slice none 0 0, .slice none 0 0]], []⟩ 8 (by kernel_rfl) (by kernel_rfl) (by kernel_rfl) (by kernel_rfl)) rfl Try.underlying4 (by kernel_rfl) (by kernel_rfl) (by kernel_rfl) ?_ ?_
  · intro ds h
    rw [Try.params5] at h
    match ds, h with
    | [_], _ => rfl
  · intro W base args ds p hval hA
    rw [Try.params5] at hA hval
    obtain ⟨v0, vs0, d0, ds0, p0, q0, hargs, rfl, rfl, h0, r0⟩ := trodAll_cons hA
    obtain ⟨rfl, rfl, rfl⟩ := trodAll_nil r0
    obtain rfl : args = #[v0] := by cases args; simp_all
    obtain ⟨x0, lv0, A0, n0, k0, qs0, B0, m0, j0, ps0, rfl, ok0, lb0, hq0, hp0⟩ := open_two (hval 0 34 v0 rfl rfl) h0
    exact sums_law x0 lv0 A0 n0 k0 qs0 B0 m0 j0 ps0 W ok0 lb0 hq0 hp0
theorem over : Rows.innerSumsRow.holds Try.pinned (OpenSpec.ofChange Rows.innerSumsSpec) :=
  OpenClaim.holds_of_wide 5 Try.f5 rfl rfl rfl rfl rfl rfl rfl ⟨rfl, rfl, rfl, rfl, rfl⟩ rfl rfl rfl rfl rfl (by kernel_rfl) Try.func5 (by kernel_rfl)
    (of_decide_eq_true (by kernel_rfl)) (by unfold Func.isWrapper; first | (rw [if_pos (by decide +kernel)]; kernel_rfl) | (rw [if_neg (by decide +kernel)]; exact ⟨rfl, rfl⟩))
    (fun os started H enc _ => lifted os started H enc)
theorem proved : Rows.InnerSumsSaid :=
  over
#print axioms proved
end innerSums
end Go.Proofs.Ythecgkgnngpikaa.Inn
