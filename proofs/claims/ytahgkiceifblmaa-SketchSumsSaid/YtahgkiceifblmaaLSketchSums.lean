/- The statement SketchSums of layer 10 holds. Printed by wip/gen/sksum.py. -/
import Derived.Test.YtahgkiceifblmaaMg
import Derived.Deep.LoopGhost
import Derived.Deep.RegionHeld3
import Derived.Deep.DeepCutAuto
import Derived.Deep.QuietTactic
import Derived.BigQuiet
namespace Go.Proofs.Ytahgkiceifblmaa.Sk
open Go Go.RowKit Lw Grd Lin Con Shp
set_option linter.unusedVariables false
set_option linter.unusedSimpArgs false
theorem Have.put_at {w0 w : World} {ts : List Thing} (h : Have w0 w ts) (t : Thing) (ht : t.I w) (hn : ∀ k, t.F k → ∀ u ∈ ts, ¬ u.F k) (hw : ∀ k, t.F k → w0.heap.size ≤ k) : Have w0 w (t :: ts) :=
  ⟨ht, hw, fun u hu k hk hu2 => hn k hk u hu hu2, h⟩
/-- The cells behind the first r rows of an update, one behind the other. -/
def sumW (c : Cfg) (l : Int) (us : Ups) (j : Nat) (U D : Int) (r : Nat) : List Int := (upto2 (cells c l (us.take j)) (changed (cells c l (us.take j)) (cols c l U) D) r).flatten
theorem ups_take {c : Cfg} {l : Int} {us : Ups} (h : UpsIn c l us) (j : Nat) : UpsIn c l (us.take j) := ⟨fun u hu => h.1 u (List.mem_of_mem_take hu), fun hm u hu => h.2 hm u (List.mem_of_mem_take hu)⟩
theorem sum_zero (c : Cfg) (l : Int) (us : Ups) (j : Nat) (U D : Int) : sumW c l us j U D 0 = (cells c l (us.take j)).flatten := by unfold sumW; rw [upto2_start]
theorem sum_facts {c : Cfg} {l : Int} {us : Ups} {j : Nat} {U D : Int} (hr : IsRight c) (hm : c.md ≠ 2) (h : UpsIn c l us) (hl : us.length ≤ 60) (hu : us[j]? = some (U, D)) :
    Dims (rws c) (wds c) (cells c l (us.take j)) ∧ Meets (rws c) (wds c) (cols c l U) ∧ chFits (cells c l (us.take j)) (cols c l U) D = true ∧ changed (cells c l (us.take j)) (cols c l U) D = cells c l (us.take (j + 1)) := by
  have hmem := List.mem_of_getElem? hu
  have h1 := h.1 _ hmem
  have hj := ups_take h j
  have hjl : (us.take j).length ≤ 60 := by rw [List.length_take]; omega
  have hme := cols_meet h1.1 h1.2.1
  have hwi := within_mono (chAll_within (c := 1099511627776) (by omega) (b := 0) (Int.le_refl _) (within_zeros (rws c) (wds c)) (opsU_ok hj.1)) (c := 65970697666560) (by rw [opsU_len]; omega)
  have hf := fits_within (cols := cols c l U) (d := D) hwi (by omega) h1.2.2 (by omega)
  rw [← cells_lin hm] at hwi hf
  refine ⟨dims_of (cells_sz hj) hwi (by omega) (rws_bd hr).2.1 (wds_bd hr).2.1, hme, hf, ?_⟩
  obtain ⟨g1, g2⟩ := List.getElem?_eq_some_iff.1 hu
  rw [List.take_succ_eq_append_getElem g1, g2, cells_lin hm, cells_lin hm, opsU_app]
  unfold chAll
  rw [List.foldl_append]
  rfl
theorem sum_len {c : Cfg} {l : Int} {us : Ups} {j : Nat} {U D : Int} (hr : IsRight c) (hm : c.md ≠ 2) (h : UpsIn c l us) (hl : us.length ≤ 60) (hu : us[j]? = some (U, D)) {r : Nat} (hrm : r ≤ rws c) : (sumW c l us j U D r).length = rws c * wds c := by
  obtain ⟨hd, hme, hf, -⟩ := sum_facts hr hm h hl hu
  exact flat_dims (dims_upto hd hme D hf r hrm)
theorem sum_end {c : Cfg} {l : Int} {us : Ups} {j : Nat} {U D : Int} (hr : IsRight c) (hm : c.md ≠ 2) (h : UpsIn c l us) (hl : us.length ≤ 60) (hu : us[j]? = some (U, D)) : sumW c l us j U D (rws c) = (cells c l (us.take (j + 1))).flatten := by
  obtain ⟨hd, hme, hf, he⟩ := sum_facts hr hm h hl hu
  unfold sumW
  rw [upto2_end hd.len (by rw [changed_len D (by rw [hme.2.1, hd.len]), hd.len]), he]
theorem sum_step {c : Cfg} {l : Int} {us : Ups} {j : Nat} {U D : Int} (hr : IsRight c) (hm : c.md ≠ 2) (h : UpsIn c l us) (hl : us.length ≤ 60) (hu : us[j]? = some (U, D)) {r v : Nat} (hrm : r < rws c) (hv : (cols c l U)[r]? = some (v : Int)) :
    ∃ x, (sumW c l us j U D r)[r * wds c + v]? = some x ∧ (-9223372036854775808 ≤ x + D ∧ x + D ≤ 9223372036854775807) ∧ (sumW c l us j U D r).set (r * wds c + v) (x + D) = sumW c l us j U D (r + 1) := by
  obtain ⟨hd, hme, hf, -⟩ := sum_facts hr hm h hl hu
  have hdu := dims_upto hd hme D hf r (by omega)
  have hb := meets_at hme hv
  have hp := put_at hd hme D hv hdu
  refine ⟨at2 (cells c l (us.take j)) r v, ?_, ?_, ?_⟩
  · have h1 := flat_at hdu (row := (r : Int)) (col := (v : Int)) (by omega) (by omega) hb.1 hb.2
    rw [Int.toNat_natCast, Int.toNat_natCast] at h1
    unfold sumW
    rw [h1]
    congr 1
    have hx := upto2_get (X := cells c l (us.take j)) (Y := changed (cells c l (us.take j)) (cols c l U) D) (n := rws c) hd.len (by rw [changed_len D (by rw [hme.2.1, hd.len]), hd.len]) hrm
    unfold at2
    rw [Int.toNat_natCast, hx]
  · have h2 := named_at hd hme hv
    have h3 : Wid.fit64 (at2 (cells c l (us.take j)) r v + D) = true := by
      unfold chFits at hf
      rw [List.all_eq_true] at hf
      exact hf _ (List.mem_of_getElem? h2)
    exact fit64_in h3
  · unfold sumW
    rw [← hp, flat_put hdu _ (by omega) (by omega) hb.1 hb.2, Int.toNat_natCast, Int.toNat_natCast]
theorem columns_w (c : Cfg) (l k : Int) (m : Nat) (w : World) (h : c.Ok) (l0 : -9223372036854775808 ≤ l) (l1 : l ≤ 9223372036854775807) (k0 : 0 ≤ k) (k1 : k ≤ 18446744073709551615) (hk : k < keys c l) (hm : rws c = m) :
    Calls Try.prog 13 #[.agg #[.int .i64 c.bt, .int .i64 c.rw, .int .i64 c.wd, .int .i64 c.md, .int .u64 c.sd], .int .i64 l, .int .u64 k] w fun e w' => ∃ (A : Addr) (cap : Nat), e = .returned (.slice (some A) m cap) ∧ Rd .i64 w' (some A) (cols c l k) ∧ w.heap.size ≤ A.block ∧ Below w.heap.size w w' := by
  subst hm
  have hr := (keys_right k0 hk).1
  have hrw := rws_bd hr
  refine (columns_new c l k (rws c) w h l0 l1 k0 k1 hk hrw.2.2.symm hrw.2.1).mono fun e w' ⟨g, he, hm, hg, hb⟩ => ?_
  have e9 : (List.range (rws c)).map (col c l k) = cols c l k := (if_pos hk).symm
  exact ⟨⟨g, 0, none⟩, _, he, e9 ▸ hm.rd, hg, hb⟩
theorem cols_w {c : Cfg} {l k : Int} (hr : IsRight c) (hk : k < keys c l) {r : Nat} (hrm : r < rws c) : ∃ v : Nat, (cols c l k)[r]? = some (v : Int) ∧ (v : Int) < c.wd := by
  have h := col_range hr l k r
  exact ⟨(col c l k r).toNat, by rw [cols_at hk hrm, Int.toNat_of_nonneg h.1], by omega⟩
theorem inc_wrap {r m : Nat} (h : r < m) (hm : m ≤ 8) : wrap64 ((r : Int) + 1) = (r : Int) + 1 := IntWalk.wrap64_in _ ⟨by omega, by omega⟩
theorem inc_wrap2 {r m : Nat} (h : r < m) (hm : m ≤ 8) : IntKind.i64.wrap ((r : Int) + 1) = (r : Int) + 1 := IntWalk.i64_in _ ⟨by omega, by omega⟩
theorem cells_dims2 {c : Cfg} {l : Int} (hr : IsRight c) {us : Ups} (h : UpsIn c l us) (hl : us.length ≤ 60) (hm : c.md ≠ 2) : Dims (rws c) (wds c) (cells c l us) := by
  have hw := within_mono (chAll_within (c := 1099511627776) (by omega) (b := 0) (Int.le_refl _) (within_zeros (rws c) (wds c)) (opsU_ok h.1)) (c := 65970697666560) (by rw [opsU_len]; omega)
  rw [← cells_lin hm] at hw
  exact dims_of (cells_sz h) hw (by omega) (rws_bd hr).2.1 (wds_bd hr).2.1
set_option maxRecDepth 100000 in
set_option maxHeartbeats 8000000 in
theorem sums_false (x : Cfg) (lv : Int) (A : Option Addr) (n0 k0 : Nat) (qs : Ups) (w : World) (hx : x.Ok) (hlv : -9223372036854775808 ≤ lv ∧ lv ≤ 9223372036854775807) (hq : UpdV w A n0 k0 qs) :
    Calls Try.prog 3 #[.agg #[.int .i64 x.bt, .int .i64 x.rw, .int .i64 x.wd, .int .i64 x.md, .int .u64 x.sd, .int .i64 lv, .slice A n0 k0], .bool false] w fun e w' => e = .returned (.bool true) ∧ Below w.heap.size w w' := by
  obtain ⟨i0, hi, hi0, hi1, hi2⟩ := info_parts i64_info
  obtain ⟨c, hC⟩ : ∃ c, cfgP x 1 = c := ⟨_, rfl⟩
  obtain ⟨l, hl⟩ : ∃ l, lv % 65536 % (c.bt + 1) = l := ⟨_, rfl⟩
  have hr := cfgP_right x 1 (by omega) (by omega)
  have hco := cfgP_ok x hx 1 (by omega) (by omega)
  have hmd : c.md = 1 := by rw [← hC]; rfl
  rw [hC] at hr hco
  have hlb : 0 ≤ l ∧ l ≤ c.bt := by
    have h1 := hr.1.1
    have h2 := Int.emod_nonneg (lv % 65536) (show c.bt + 1 ≠ 0 by omega)
    have h3 := Int.emod_lt_of_pos (lv % 65536) (show 0 < c.bt + 1 by omega)
    omega
  have hbt8 := hr.2
  have hkeys : 1 ≤ keys c l := keys_pos.2 ⟨hr.1, hlb.1, hlb.2⟩
  have hkb := keys_bd c l
  obtain ⟨m, hm⟩ : ∃ m, rws c = m := ⟨_, rfl⟩
  have hm8 : 1 ≤ m ∧ m ≤ 8 := by have := rws_bd hr.1; rw [hm] at this; exact ⟨this.1, this.2.1⟩
  have HRW : Hid (c.rw = (m : Int)) := Lib.hid (by have := rws_bd hr.1; rw [hm] at this; exact this.2.2.symm)
  have HQ := Lib.hid hq
  have HL := Lib.hid hq.len
  have hnc := hq.nc
  have hcm := hq.cm
  unfold maxLen at hcm
  have D := Lib.hid (fun w hq => fed_any x lv A n0 k0 qs 1 0 60 0 60 c l w hx hlv hq (by omega) (by omega) rfl rfl (by omega) (by omega) hC hl)
  rw [← upsA_R] at D
  have CO := Lib.hid (fun kk r w hq h0 h1 (h2 : r < m) => others_any x lv A n0 k0 qs c l kk r m w hq hco (by omega) (by omega) h0 h1 hm h2)
  have CO0 := Lib.hid (fun kk w hq h0 h1 => others0 x lv A n0 k0 qs c l kk m w hq hco (by omega) (by omega) h0 h1 hm (by omega))
  have CH := Lib.hid (fun kk w hq => has_any x lv A n0 k0 qs c l kk w hq hco (by omega) (by omega) hkeys)
  have CCU := Lib.hid (fun w k d h0 h1 h2 h3 => cut_any c l k d w hco (by omega) (by omega) h0 h1 h2 h3 hkeys)
  have CK := Lib.hid (fun w => rkeys_any c l w hco (by omega) (by omega))
  have hlen : (upsA c l qs).length ≤ 60 := by rw [upsA_R]; exact upsR_len _ _ _ _ _
  have hin := upsR_in hkeys qs 0 60
  rw [← upsA_R] at hin
  have HOB : Hid (∀ kk r, -65970697666560 ≤ othK c l kk r (upsA c l qs) ∧ othK c l kk r (upsA c l qs) ≤ 65970697666560) := Lib.hid (fun kk r => by
    have h := othK_bd (c := c) (l := l) (k := kk) (r := r) (b := 1099511627776) (by omega) (us := upsA c l qs) (fun u hu => (hin.1 u hu).2.2)
    omega)
  have HHB : Hid (∀ kk, -65970697666560 ≤ hasK kk (upsA c l qs) ∧ hasK kk (upsA c l qs) ≤ 65970697666560) := Lib.hid (fun kk => by
    have h := hasK_bd (k := kk) (b := 1099511627776) (by omega) (us := upsA c l qs) (fun u hu => (hin.1 u hu).2.2)
    omega)
  have hne2 : c.md ≠ 2 := by omega
  obtain ⟨n, hn⟩ : ∃ n, wds c = n := ⟨_, rfl⟩
  have hwb := wds_bd hr.1
  rw [hn] at hwb
  have HWD : Hid (c.wd = (n : Int)) := Lib.hid hwb.2.2.symm
  have hn1 : 1 ≤ n ∧ n ≤ 128 := ⟨hwb.1, hwb.2.1⟩
  have HG := Lib.hid (fun k q (h1 : k < 60) (h2 : qs[k]? = some q) => upsA_get (c := c) (l := l) h1 h2)
  have HAL := Lib.hid (fun k (h1 : k = qs.length ∨ k = 60) (h2 : k ≤ 60) => upsA_all (c := c) (l := l) (qs := qs) h1 h2)
  have HS := Lib.hid (fun j U D r v hu hrm hv => sum_step (c := c) (l := l) (us := upsA c l qs) (j := j) (U := U) (D := D) hr.1 hne2 hin hlen hu (r := r) (v := v) hrm hv)
  have HE := Lib.hid (fun j U D hu => sum_end (c := c) (l := l) (us := upsA c l qs) (j := j) (U := U) (D := D) hr.1 hne2 hin hlen hu)
  have CB := Lib.hid (fun U w h0 h1 h2 => columns_w c l U m w hco (by omega) (by omega) h0 h1 h2 hm)
  have HCO := Lib.hid (fun U (h2 : U < keys c l) r (hrm : r < m) => cols_w (c := c) (l := l) (k := U) hr.1 h2 (r := r) (by rw [hm]; exact hrm))
  have HZ0 : Hid ((cells c l ((upsA c l qs).take 0)).flatten = List.replicate (m * n) 0) := Lib.hid (by rw [List.take_zero, cells_nil, hm, hn]; exact zeros_flat2 _ _)
  have hcu := fun q => cutU_ok hkeys q
  have HCU := Lib.hid hcu
  have hdl := cells_dims2 hr.1 hin hlen hne2
  have CCE := Lib.hid (fun p F w h => scells_mid p F c l (cells c l (upsA c l qs)) w h)
  obtain ⟨us, hus⟩ : ∃ us, upsA c l qs = us := ⟨_, rfl⟩
  rw [hus] at D HG HAL HS HE HZ0 hlen hdl CCE
  rw [hm, hn] at HS hdl CCE
  rw [hm] at HE
  obtain ⟨Q, hQ⟩ : ∃ Q, m * n = Q := ⟨_, rfl⟩
  have hQb : Q ≤ 1024 ∧ 1 ≤ Q := by rw [← hQ]; exact ⟨Nat.mul_le_mul hm8.2 hn1.2, Nat.mul_pos (by omega) (by omega)⟩
  have HPL : Hid (∀ r v, r < m → v < n → r * n + v < Q) := Lib.hid (fun r v h1 h2 => by
    have h3 : (r + 1) * n ≤ m * n := Nat.mul_le_mul_right _ h1
    rw [Nat.succ_mul] at h3
    omega)
  have hQi : (m : Int) * (n : Int) = (Q : Int) := by rw [← hQ]; simp
  have FLE := Lib.hid ((flat_dims hdl).trans hQ)
  rw [hQ] at HZ0 CCE
  have q1 : IntKind.i64.wrap (c.rw * c.wd) = (Q : Int) := by rw [HRW.out, HWD.out, hQi]; exact IntWalk.i64_in _ ⟨by omega, by omega⟩
  have q2 : wrap64 (c.rw * c.wd) = (Q : Int) := by rw [HRW.out, HWD.out, hQi]; exact IntWalk.wrap64_in _ ⟨by omega, by omega⟩
  have HKY := Lib.hid hkeys
  have HBX : Hid (Have w (w.alloc (.cells #[.int .i64 x.bt, .int .i64 x.rw, .int .i64 x.wd, .int .i64 x.md, .int .u64 x.sd, .int .i64 lv, .slice A n0 k0] 27)) [boxT w.heap.size 27 #[.int .i64 x.bt, .int .i64 x.rw, .int .i64 x.wd, .int .i64 x.md, .int .u64 x.sd, .int .i64 lv, .slice A n0 k0]]) := Lib.hid (box_new w _ _)
  clear hC hl hr hco hmd hq hx hm hus hin hcu hdl hQ hQi hne2 hn CO CO0 CH CK HOB HHB hwb
  go_enter Try.func3, Try.ntmps3
  go_wp2_with (first
    | (go_at_call 11; (with_reducible refine (D.out _ (HQ.out.up HBW1.out)).mono ?_); rintro e w2 ⟨p, F, rfl, hv⟩; have HV2 := HV1.out.join hv; simp only [List.cons_append, List.nil_append] at HV2; have HV := Lib.hid (HV2.push (boxT w2.heap.size 24 #[.int .i64 c.bt, .int .i64 c.rw, .int .i64 c.wd, .int .i64 c.md, .int .u64 c.sd]) (Lw.below_alloc (Below.refl _ _) _) (heap_alloc_new w2 _) (fun k hk => Nat.le_of_eq hk.symm)); have HBW := Lib.hid HV.out.below; clear hv HV2 x0 x1 x2 x3 x4 x5 c0; obtain ⟨x0, x1, x2, x3, x4, x5, c0⟩ := box7 HV.out.i2; obtain ⟨e1, e2, e3, e4, e5⟩ := box5 HV.out.i0)
    | (go_at_call 10; (with_reducible refine (shown_any _).mono ?_); rintro e w1 ⟨rfl, hb⟩; have HV1 := Lib.hid (HBX.out.up hb); have HBW1 := Lib.hid HV1.out.below; obtain ⟨x0, x1, x2, x3, x4, x5, c0⟩ := box7 HV1.out.i0; clear hb))
  obtain ⟨gc, hgc⟩ : ∃ gc, w2.heap.size = gc := ⟨_, rfl⟩
  rw [hgc] at HV e1 e2 e3 e4 e5 ⊢
  clear hgc
  clear x0 x1 x2 x3 x4 x5 c0 e1 e2 e3 e4 e5
  obtain ⟨w3, hw3⟩ : ∃ w3, w3 = w2.alloc (.cells #[.int .i64 c.bt, .int .i64 c.rw, .int .i64 c.wd, .int .i64 c.md, .int .u64 c.sd] 24) := ⟨_, rfl⟩
  rw [← hw3] at HV HBW ⊢
  clear hw3
  go_loopw [10, 11] (fun ot iv wr => ∃ (r : Nat), r ≤ Q ∧ iv = .int .i64 r ∧ wr.ownsRow w3.heap.size 2 1 ot r ((List.replicate r (0 : Int)).map (Value.int .i64)) ∧ Below w3.heap.size w3 wr) (fun _ iv _ => Q - (intOf iv).toNat)
  case atStart => exact ⟨0, Nat.zero_le _, rfl, ⟨rfl, .inl ⟨rfl, rfl⟩⟩, Below.refl _ _⟩
  case round =>
    obtain ⟨r, hr, rfl, hown, hbel⟩ := hrel
    have HOW := Lib.hid hown
    have HBE := Lib.hid hbel
    have hsz := hbel.size
    clear hown hbel
    have HV3 := Lib.hid (HV.out.up HBE.out)
    obtain ⟨e1, e2, e3, e4, e5⟩ := box5 HV3.out.i0
    by_cases hlt : r < Q
    · have HNX : Hid (List.replicate (r + 1) (0 : Int) = List.replicate r 0 ++ [0]) := Lib.hid (by rw [List.replicate_succ'])
      have hlt2 : (r : Int) < (Q : Int) := by omega
      go_wp2_with (at_builtin; (refine app_one .i64 rfl _ _ 32 rfl w3.heap.size 2 i0 8 i64s_u hi hi0 hi1 hi2 _ r (List.replicate r 0) rfl (HOW.out.alloc _) 0 wr.heap.size rfl (cell_one_new _ _ _) (by unfold maxLen; omega) (by omega) (by simp; omega) ?_); intro v1 w6 own6 grow6 oth6)
      go_roundw
      case rel => exact ⟨r + 1, by omega, by go_num, by rw [HNX.out]; exact own6, app_below3 (Lw.below_alloc HBE.out _) grow6 (fun q hq => own_ge HOW.out q hq)⟩
      case measure => simp [intOf]; omega
    · have e : Q = r := by omega
      subst e
      obtain ⟨Ao, co, hvo, hrdo, ho1, ho2, ho3⟩ := own_rd HOW.out
      subst hvo
      obtain ⟨ao, hao⟩ : ∃ ao, Ao = some ao := by
        cases Ao with
        | none => have := (ho3 rfl).1; omega
        | some ao => exact ⟨ao, rfl⟩
      subst hao
      obtain ⟨gw, rfl, hgo, hmid⟩ := Ord.mid_own HOW.out
      have ho5 : co ≤ 9223372036854775807 := ho2
      clear ho2
      have HVO : Hid (Have w wr [midT gw (cells c l (us.take 0)).flatten, boxT gc 24 #[.int .i64 c.bt, .int .i64 c.rw, .int .i64 c.wd, .int .i64 c.md, .int .u64 c.sd], skT p F c l (cells c l us), boxT w.heap.size 27 #[.int .i64 x.bt, .int .i64 x.rw, .int .i64 x.wd, .int .i64 x.md, .int .u64 x.sd, .int .i64 lv, .slice A n0 k0]]) := Lib.hid (by
        refine Have.put_at HV3.out (midT gw _) ?_ ?_ ?_
        · show Ord.Mid wr gw 0 _
          rw [HZ0.out]
          exact hmid
        · intro k hk u hu hu2
          have h1 : k = gw := hk
          have h2 := u.lt w3 (HV.out.one u hu).1 k hu2
          omega
        · intro k hk
          have h1 : k = gw := hk
          have := HV.out.below.size
          omega)
      have hcap : (Q : Int) ≤ (co : Int) := by omega
      have hlt3 : ¬ (Q : Int) < (Q : Int) := by omega
      clear hrdo hmid HOW hgo ho3
      go_wp2
      clear e1 e2 e3 e4 e5 hlt3
      obtain ⟨wo, rfl⟩ : ∃ wo, wo = wr := ⟨_, rfl⟩
      go_loopw [12] (fun iv wr => ∃ (i : Nat), i ≤ n0 ∧ i ≤ 60 ∧ iv = .int .i64 i ∧ Have w wr [midT gw (cells c l (us.take i)).flatten, boxT gc 24 #[.int .i64 c.bt, .int .i64 c.rw, .int .i64 c.wd, .int .i64 c.md, .int .u64 c.sd], skT p F c l (cells c l us), boxT w.heap.size 27 #[.int .i64 x.bt, .int .i64 x.rw, .int .i64 x.wd, .int .i64 x.md, .int .u64 x.sd, .int .i64 lv, .slice A n0 k0]]) (fun iv _ => n0 - (intOf iv).toNat)
      case atStart => exact ⟨0, Nat.zero_le _, Nat.zero_le _, rfl, HVO.out⟩
      case round =>
        obtain ⟨i, hi9, hi6, rfl, hv⟩ := hrel
        have HVr := Lib.hid hv
        have HBr := Lib.hid hv.below
        clear hv
        obtain ⟨e1, e2, e3, e4, e5⟩ := box5 HVr.out.i1
        obtain ⟨x0, x1, x2, x3, x4, x5, c0⟩ := box7 HVr.out.i3
        by_cases hlt : i < n0 ∧ i < 60
        · obtain ⟨hi1x, hi2x⟩ := hlt
          obtain ⟨q, hq1⟩ : ∃ q, qs[i]? = some q := ⟨_, List.getElem?_eq_getElem (by rw [HL.out]; omega)⟩
          have hug := HG.out i q hi2x hq1
          have hcq := HCU.out q
          obtain ⟨a, g, o, rfl, hadd, d1w, d2w, kb, db⟩ := HQ.out.at hq1
          obtain ⟨qk, qd⟩ := q
          simp only at d1w d2w kb db
          have d1 := cell_up d1w HBr.out
          have d2 := cell_up d2w HBr.out
          have CC := Lib.hid (fun w => CCU.out w qk qd kb.1 kb.2 db.1 db.2)
          obtain ⟨U, hU⟩ : ∃ U, (cutU c l (qk, qd)).1 = U := ⟨_, rfl⟩
          obtain ⟨D2, hD2⟩ : ∃ D2, (cutU c l (qk, qd)).2 = D2 := ⟨_, rfl⟩
          have hug2 : us[i]? = some (U, D2) := by rw [hug, ← hU, ← hD2]
          rw [hU, hD2] at CC hcq
          have CU := Lib.hid (fun w => CB.out U w hcq.1 (by have := hcq.2.1; omega) hcq.2.1)
          have HCG := Lib.hid (fun r hrm => HCO.out U hcq.2.1 r hrm)
          rw [HWD.out] at HCG
          have HST := Lib.hid (fun r v hrm hv => HS.out i U D2 r v hug2 hrm hv)
          have HSE := Lib.hid (HE.out i U D2 hug2)
          have hdb : -1099511627776 ≤ D2 ∧ D2 ≤ 1099511627776 := ⟨hcq.2.2.1, hcq.2.2.2.1⟩
          clear hq1 hug hug2 hU hD2 d1w d2w hcq x0 x1 x2 x3 x4 x5
          go_wp2
          go_region_held3 (fun w' => w'.cell? ⟨gc, 0, none⟩ = some (.int .i64 c.bt) ∧ w'.cell? ⟨gc, 1, none⟩ = some (.int .i64 c.rw) ∧ w'.cell? ⟨gc, 2, none⟩ = some (.int .i64 c.wd) ∧ w'.cell? ⟨gc, 3, none⟩ = some (.int .i64 c.md) ∧ w'.cell? ⟨gc, 4, none⟩ = some (.int .u64 c.sd) ∧ w'.cell? ⟨w.heap.size, 6, none⟩ = some (.slice (some a) n0 k0) ∧ w'.cell? ⟨g, o, none⟩ = some (.int .u64 qk) ∧ w'.cell? ⟨g, o + 1, none⟩ = some (.int .i64 qd)) (first | (refine ⟨?_, ?_, ?_, ?_, ?_, ?_, ?_, ?_⟩ <;> (first | (with_reducible assumption) | (with_reducible refine cell_up e1 ?_) | (with_reducible refine cell_up e2 ?_) | (with_reducible refine cell_up e3 ?_) | (with_reducible refine cell_up e4 ?_) | (with_reducible refine cell_up e5 ?_) | (with_reducible refine cell_up c0 ?_) | (with_reducible refine cell_up d1 ?_) | (with_reducible refine cell_up d2 ?_)) <;> (repeat' (first | (with_reducible exact Below.refl _ _) | (with_reducible assumption) | (with_reducible refine below_over ?_ _ _) | (with_reducible refine Lw.below_alloc ?_ _) | (with_reducible refine Below.drew ?_) | (with_reducible refine below_drewN ?_ _) | (with_reducible refine Below.setCell ?_ ?_ _) | go_size)))) (first | (go_at_call 12; (with_reducible refine (CC.out _).mono ?_); rintro e w' ⟨rfl, hb⟩; obtain ⟨bs, dd, rfl⟩ := below_grow hb; clear hb))
          all_goals go_wp2_with (go_at_call 13; (with_reducible refine (CU.out _).mono ?_); rintro e w7 ⟨A7, cap7, rfl, rd7, hc7, hb⟩; have RD7 := Lib.hid rd7; have HA7 := Lib.hid (Nat.le_trans (Below.size (show Below wr.heap.size wr _ from (by repeat' (first | (with_reducible exact Below.refl _ _) | (with_reducible assumption) | (with_reducible refine below_over ?_ _ _) | (with_reducible refine Lw.below_alloc ?_ _) | (with_reducible refine Below.drew ?_) | (with_reducible refine below_drewN ?_ _) | (with_reducible refine Below.setCell ?_ ?_ _) | go_size)))) hc7); clear hc7; have UP := (fun (b : Addr) (v : Value) h => cell_up (a := b) (v := v) h hb); (first | (obtain ⟨ub, hub9⟩ : ∃ ub, wr.heap.size + bs.size = ub := ⟨_, rfl⟩; have u1 := UP ⟨wr.heap.size + bs.size, 1, none⟩ (.int .i64 D2) (by simp [go_sem]; done); rw [hub9] at u1 ⊢) | (obtain ⟨ub, hub9⟩ : ∃ ub, wr.heap.size = ub := ⟨_, rfl⟩; have u1 := UP ⟨wr.heap.size, 1, none⟩ (.int .i64 D2) (by simp [go_sem]; done); rw [hub9] at u1 ⊢)); have HU9 : Hid (wr.heap.size ≤ ub) := Lib.hid (by omega); clear hub9 UP; have HB7 := Lib.hid (below_call (w1 := w7) (show Below wr.heap.size wr _ by repeat' (first | (with_reducible exact Below.refl _ _) | (with_reducible assumption) | (with_reducible refine below_over ?_ _ _) | (with_reducible refine Lw.below_alloc ?_ _) | (with_reducible refine Below.drew ?_) | (with_reducible refine below_drewN ?_ _) | (with_reducible refine Below.setCell ?_ ?_ _) | go_size)) hb (Nat.le_refl _)); clear hb rd7)
          · have HV7 := Lib.hid (HVr.out.up HB7.out)
            have HGU : Hid (¬ ub = gw) := Lib.hid (fun h => by have h1 := (midI HVr.out.i0).lt; have := HU9.out; omega)
            have RDG : Hid (¬ A7.block = gw) := Lib.hid (fun h => by have h1 := (midI HVr.out.i0).lt; have := HA7.out; omega)
            clear e1 e2 e3 e4 e5 c0 d1 d2
            obtain ⟨wo, rfl⟩ : ∃ wo, wo = wr := ⟨_, rfl⟩
            go_loopw [15] (fun rv wr => ∃ (r : Nat), r ≤ m ∧ rv = .int .i64 r ∧ Have w wr [midT gw (sumW c l us i U D2 r), boxT gc 24 #[.int .i64 c.bt, .int .i64 c.rw, .int .i64 c.wd, .int .i64 c.md, .int .u64 c.sd], skT p F c l (cells c l us), boxT w.heap.size 27 #[.int .i64 x.bt, .int .i64 x.rw, .int .i64 x.wd, .int .i64 x.md, .int .u64 x.sd, .int .i64 lv, .slice (some a) n0 k0]] ∧ Kept (fun k => k = gw) w7 wr) (fun rv _ => m - (intOf rv).toNat)
            case atStart => exact ⟨0, Nat.zero_le _, rfl, by rw [sum_zero]; exact HV7.out, Kept.refl _ _⟩
            case round =>
              obtain ⟨r, hr, rfl, hv, hk⟩ := hrel
              have HVi := Lib.hid hv
              have HKi := Lib.hid hk
              clear hv hk
              obtain ⟨e1, e2, e3, e4, e5⟩ := box5 HVi.out.i1
              have u9 := HKi.out.cell u1 HGU.out
              have hrw := HRW.out
              by_cases hrm : r < m
              · obtain ⟨v, hvc, hvn⟩ := HCG.out r hrm
                obtain ⟨x9, hx9, hxb, hset⟩ := HST.out r v hrm hvc
                have hbl : (A7.add r).block = A7.block := by unfold Addr.add; split <;> rfl
                have c7 := HKi.out.cell (RD7.out.at hvc) (by rw [hbl]; exact RDG.out)
                clear hbl
                have hplt : r * n + v < Q := HPL.out r v hrm (by omega)
                have hrn1 : (r : Int) * c.wd = ((r * n : Nat) : Int) := by rw [HWD.out]; simp
                obtain ⟨P, hP⟩ : ∃ P, r * n = P := ⟨_, rfl⟩
                rw [hP] at hrn1 hx9 hset hplt
                have hfz := (midI HVi.out.i0).frozen (0 + (P + v))
                have hcl := (midI HVi.out.i0).cell hx9
                obtain ⟨gad, hgad⟩ : ∃ gad : Addr, (⟨gw, 0, none⟩ : Addr) = gad := ⟨_, rfl⟩
                have hm6 := (midI HVi.out.i0).set (P + v) (x9 + D2)
                have hk6 : Kept (fun k => k = gw) wr (wr.setCell ⟨gw, 0 + (P + v), none⟩ (.int .i64 (x9 + D2))) := (Kept.refl (fun k => k = gw) wr).set (.inl rfl) _ _
                rw [hset] at hm6
                rw [← Ord.add_at, hgad] at hcl hfz hm6 hk6
                have HM6 := Lib.hid hm6
                have HK6 := Lib.hid hk6
                obtain ⟨AT, hAT⟩ : ∃ AT, P + v = AT := ⟨_, rfl⟩
                rw [hAT] at hcl hfz HM6 HK6 hplt
                have a1 : IntKind.i64.wrap ((r : Int) * c.wd) = (P : Int) := by rw [hrn1]; exact IntWalk.i64_in _ ⟨by omega, by omega⟩
                have a2 : wrap64 ((r : Int) * c.wd) = (P : Int) := by rw [hrn1]; exact IntWalk.wrap64_in _ ⟨by omega, by omega⟩
                have a3 : IntKind.i64.wrap ((P : Int) + (v : Int)) = (AT : Int) := by rw [IntWalk.i64_in _ ⟨by omega, by omega⟩]; omega
                have a4 : wrap64 ((P : Int) + (v : Int)) = (AT : Int) := by rw [IntWalk.wrap64_in _ ⟨by omega, by omega⟩]; omega
                obtain ⟨S, hS⟩ : ∃ S, x9 + D2 = S := ⟨_, rfl⟩
                have a5 : IntKind.i64.wrap (x9 + D2) = S := by rw [hS]; exact IntWalk.i64_in _ ⟨by omega, by omega⟩
                have a6 : wrap64 (x9 + D2) = S := by rw [hS]; exact IntWalk.wrap64_in _ ⟨by omega, by omega⟩
                rw [hS] at HM6 HK6
                have hr3 : (r : Int) < (m : Int) := by omega
                have hr4 : (0 : Int) ≤ (r : Int) := by omega
                have hat0 : (0 : Int) ≤ (AT : Int) := Int.natCast_nonneg AT
                have hat1 : (AT : Int) < (Q : Int) := Int.ofNat_lt.2 hplt
                have hat2 : ¬ (AT : Int) < 0 := Int.not_lt.2 hat0
                have hat3 : ¬ (Q : Int) ≤ (AT : Int) := Int.not_le.2 hat1
                have hat4 : decide ((AT : Int) < 0) = false := decide_eq_false hat2
                have hat5 : decide ((Q : Int) ≤ (AT : Int)) = false := decide_eq_false hat3
                rw [hrw] at e2
                rw [hgad]
                clear hvc hx9 hset hrn1 hP hm6 hk6 hAT hS hrw hlv hkb hxb kb db hdb hcm hnc hlb hbt8 hlen hplt hvn ho5
                go_wp2
                go_quiet (fail)
                have hw9 := inc_wrap hrm hm8.2
                have hw8 := inc_wrap2 hrm hm8.2
                have HRM := Lib.hid hrm
                have HM8 := Lib.hid hm8
                clear hm8 hn1 hQb ho1 hcap hr hrm hi9 hi6 hi1x hi2x hsz q1 q2 a1 a2 a3 a4 hr3 hr4 hat0 hat1 hkeys u1
                go_wp2
                go_region
                go_wp2
                have hrm := HRM.out
                have hm9 := HM8.out
                go_roundw
                case rel => exact ⟨r + 1, by omega, by go_num, (HVi.out.turn_0 (midT gw _) HM6.out HK6.out (fun k hk => .inl hk)).up (by repeat' (first | (with_reducible exact Below.refl _ _) | (with_reducible assumption) | (with_reducible refine below_over ?_ _ _) | (with_reducible refine Lw.below_alloc ?_ _) | (with_reducible refine Below.drew ?_) | (with_reducible refine below_drewN ?_ _) | (with_reducible refine Below.setCell ?_ ?_ _) | go_size)), HKi.out.trans (HK6.out.drewN _) (fun q hq h => h)⟩
                case measure => simp [intOf]; omega
              · have e : r = m := by omega
                subst e
                have hv9 := HVi.out
                rw [HSE.out] at hv9
                have HV9 := Lib.hid hv9
                clear hv9
                rw [hrw] at e2
                clear hrw
                go_wp2
                go_roundw
                case rel => exact ⟨i + 1, by omega, by omega, by go_num, HV9.out⟩
                case measure => simp [intOf]; omega
          · have HV7 := Lib.hid (HVr.out.up HB7.out)
            have HGU : Hid (¬ ub = gw) := Lib.hid (fun h => by have h1 := (midI HVr.out.i0).lt; have := HU9.out; omega)
            have RDG : Hid (¬ A7.block = gw) := Lib.hid (fun h => by have h1 := (midI HVr.out.i0).lt; have := HA7.out; omega)
            clear e1 e2 e3 e4 e5 c0 d1 d2
            obtain ⟨wo, rfl⟩ : ∃ wo, wo = wr := ⟨_, rfl⟩
            go_loopw [15] (fun rv wr => ∃ (r : Nat), r ≤ m ∧ rv = .int .i64 r ∧ Have w wr [midT gw (sumW c l us i U D2 r), boxT gc 24 #[.int .i64 c.bt, .int .i64 c.rw, .int .i64 c.wd, .int .i64 c.md, .int .u64 c.sd], skT p F c l (cells c l us), boxT w.heap.size 27 #[.int .i64 x.bt, .int .i64 x.rw, .int .i64 x.wd, .int .i64 x.md, .int .u64 x.sd, .int .i64 lv, .slice (some a) n0 k0]] ∧ Kept (fun k => k = gw) w7 wr) (fun rv _ => m - (intOf rv).toNat)
            case atStart => exact ⟨0, Nat.zero_le _, rfl, by rw [sum_zero]; exact HV7.out, Kept.refl _ _⟩
            case round =>
              obtain ⟨r, hr, rfl, hv, hk⟩ := hrel
              have HVi := Lib.hid hv
              have HKi := Lib.hid hk
              clear hv hk
              obtain ⟨e1, e2, e3, e4, e5⟩ := box5 HVi.out.i1
              have u9 := HKi.out.cell u1 HGU.out
              have hrw := HRW.out
              by_cases hrm : r < m
              · obtain ⟨v, hvc, hvn⟩ := HCG.out r hrm
                obtain ⟨x9, hx9, hxb, hset⟩ := HST.out r v hrm hvc
                have hbl : (A7.add r).block = A7.block := by unfold Addr.add; split <;> rfl
                have c7 := HKi.out.cell (RD7.out.at hvc) (by rw [hbl]; exact RDG.out)
                clear hbl
                have hplt : r * n + v < Q := HPL.out r v hrm (by omega)
                have hrn1 : (r : Int) * c.wd = ((r * n : Nat) : Int) := by rw [HWD.out]; simp
                obtain ⟨P, hP⟩ : ∃ P, r * n = P := ⟨_, rfl⟩
                rw [hP] at hrn1 hx9 hset hplt
                have hfz := (midI HVi.out.i0).frozen (0 + (P + v))
                have hcl := (midI HVi.out.i0).cell hx9
                obtain ⟨gad, hgad⟩ : ∃ gad : Addr, (⟨gw, 0, none⟩ : Addr) = gad := ⟨_, rfl⟩
                have hm6 := (midI HVi.out.i0).set (P + v) (x9 + D2)
                have hk6 : Kept (fun k => k = gw) wr (wr.setCell ⟨gw, 0 + (P + v), none⟩ (.int .i64 (x9 + D2))) := (Kept.refl (fun k => k = gw) wr).set (.inl rfl) _ _
                rw [hset] at hm6
                rw [← Ord.add_at, hgad] at hcl hfz hm6 hk6
                have HM6 := Lib.hid hm6
                have HK6 := Lib.hid hk6
                obtain ⟨AT, hAT⟩ : ∃ AT, P + v = AT := ⟨_, rfl⟩
                rw [hAT] at hcl hfz HM6 HK6 hplt
                have a1 : IntKind.i64.wrap ((r : Int) * c.wd) = (P : Int) := by rw [hrn1]; exact IntWalk.i64_in _ ⟨by omega, by omega⟩
                have a2 : wrap64 ((r : Int) * c.wd) = (P : Int) := by rw [hrn1]; exact IntWalk.wrap64_in _ ⟨by omega, by omega⟩
                have a3 : IntKind.i64.wrap ((P : Int) + (v : Int)) = (AT : Int) := by rw [IntWalk.i64_in _ ⟨by omega, by omega⟩]; omega
                have a4 : wrap64 ((P : Int) + (v : Int)) = (AT : Int) := by rw [IntWalk.wrap64_in _ ⟨by omega, by omega⟩]; omega
                obtain ⟨S, hS⟩ : ∃ S, x9 + D2 = S := ⟨_, rfl⟩
                have a5 : IntKind.i64.wrap (x9 + D2) = S := by rw [hS]; exact IntWalk.i64_in _ ⟨by omega, by omega⟩
                have a6 : wrap64 (x9 + D2) = S := by rw [hS]; exact IntWalk.wrap64_in _ ⟨by omega, by omega⟩
                rw [hS] at HM6 HK6
                have hr3 : (r : Int) < (m : Int) := by omega
                have hr4 : (0 : Int) ≤ (r : Int) := by omega
                have hat0 : (0 : Int) ≤ (AT : Int) := Int.natCast_nonneg AT
                have hat1 : (AT : Int) < (Q : Int) := Int.ofNat_lt.2 hplt
                have hat2 : ¬ (AT : Int) < 0 := Int.not_lt.2 hat0
                have hat3 : ¬ (Q : Int) ≤ (AT : Int) := Int.not_le.2 hat1
                have hat4 : decide ((AT : Int) < 0) = false := decide_eq_false hat2
                have hat5 : decide ((Q : Int) ≤ (AT : Int)) = false := decide_eq_false hat3
                rw [hrw] at e2
                rw [hgad]
                clear hvc hx9 hset hrn1 hP hm6 hk6 hAT hS hrw hlv hkb hxb kb db hdb hcm hnc hlb hbt8 hlen hplt hvn ho5
                go_wp2
                go_quiet (fail)
                have hw9 := inc_wrap hrm hm8.2
                have hw8 := inc_wrap2 hrm hm8.2
                have HRM := Lib.hid hrm
                have HM8 := Lib.hid hm8
                clear hm8 hn1 hQb ho1 hcap hr hrm hi9 hi6 hi1x hi2x hsz q1 q2 a1 a2 a3 a4 hr3 hr4 hat0 hat1 hkeys u1
                go_wp2
                go_region
                go_wp2
                have hrm := HRM.out
                have hm9 := HM8.out
                go_roundw
                case rel => exact ⟨r + 1, by omega, by go_num, (HVi.out.turn_0 (midT gw _) HM6.out HK6.out (fun k hk => .inl hk)).up (by repeat' (first | (with_reducible exact Below.refl _ _) | (with_reducible assumption) | (with_reducible refine below_over ?_ _ _) | (with_reducible refine Lw.below_alloc ?_ _) | (with_reducible refine Below.drew ?_) | (with_reducible refine below_drewN ?_ _) | (with_reducible refine Below.setCell ?_ ?_ _) | go_size)), HKi.out.trans (HK6.out.drewN _) (fun q hq h => h)⟩
                case measure => simp [intOf]; omega
              · have e : r = m := by omega
                subst e
                have hv9 := HVi.out
                rw [HSE.out] at hv9
                have HV9 := Lib.hid hv9
                clear hv9
                rw [hrw] at e2
                clear hrw
                go_wp2
                go_roundw
                case rel => exact ⟨i + 1, by omega, by omega, by go_num, HV9.out⟩
                case measure => simp [intOf]; omega
        · have hta := HAL.out i (by rw [HL.out]; omega) hi6
          have hv9 := HVr.out
          rw [hta] at hv9
          have HVz := Lib.hid hv9
          clear hv9 hta x0 x1 x2 x3 x4 x5 e1 e2 e3 e4 e5 HVr
          have hcases : (i : Int) < n0 ∧ ¬ (i : Int) < 60 ∨ ¬ (i : Int) < n0 := by omega
          rcases hcases with ⟨hc1, hc2⟩ | hc1
          all_goals clear hlt
          all_goals go_wp2_with (first
            | (go_at_call 14; (with_reducible refine (rsame_any _ _ _ _ _ _ _ _ _ (midI HVy.out.i0).rd (midI HVy.out.i1).rd FLE.out FLE.out (by omega) (by omega)).mono ?_); rintro e we ⟨rfl, hb⟩; have HVx := Lib.hid (HVy.out.up hb); clear hb)
            | (go_at_call 15; (with_reducible refine (CCE.out _ _ _ (skI HVz.out.i2)).mono ?_); rintro e wd ⟨g2, cap2, rfl, h1, h2, -, -, hb⟩; have HVy := Lib.hid (HVz.out.push (midT g2 (cells c l us).flatten) hb h1 (fun k hk => by subst hk; exact h2)); clear h1 h2 hb))
          all_goals go_ret
          all_goals exact ⟨ret_bs (by first | rfl | (simp [*]; done)), HVx.out.below⟩
set_option maxRecDepth 100000 in
set_option maxHeartbeats 8000000 in
theorem sums_true (x : Cfg) (lv : Int) (A : Option Addr) (n0 k0 : Nat) (qs : Ups) (w : World) (hx : x.Ok) (hlv : -9223372036854775808 ≤ lv ∧ lv ≤ 9223372036854775807) (hq : UpdV w A n0 k0 qs) :
    Calls Try.prog 3 #[.agg #[.int .i64 x.bt, .int .i64 x.rw, .int .i64 x.wd, .int .i64 x.md, .int .u64 x.sd, .int .i64 lv, .slice A n0 k0], .bool true] w fun e w' => e = .returned (.bool true) ∧ Below w.heap.size w w' := by
  obtain ⟨i0, hi, hi0, hi1, hi2⟩ := info_parts i64_info
  obtain ⟨c, hC⟩ : ∃ c, cfgP x 3 = c := ⟨_, rfl⟩
  obtain ⟨l, hl⟩ : ∃ l, lv % 65536 % (c.bt + 1) = l := ⟨_, rfl⟩
  have hr := cfgP_right x 3 (by omega) (by omega)
  have hco := cfgP_ok x hx 3 (by omega) (by omega)
  have hmd : c.md = 3 := by rw [← hC]; rfl
  rw [hC] at hr hco
  have hlb : 0 ≤ l ∧ l ≤ c.bt := by
    have h1 := hr.1.1
    have h2 := Int.emod_nonneg (lv % 65536) (show c.bt + 1 ≠ 0 by omega)
    have h3 := Int.emod_lt_of_pos (lv % 65536) (show 0 < c.bt + 1 by omega)
    omega
  have hbt8 := hr.2
  have hkeys : 1 ≤ keys c l := keys_pos.2 ⟨hr.1, hlb.1, hlb.2⟩
  have hkb := keys_bd c l
  obtain ⟨m, hm⟩ : ∃ m, rws c = m := ⟨_, rfl⟩
  have hm8 : 1 ≤ m ∧ m ≤ 8 := by have := rws_bd hr.1; rw [hm] at this; exact ⟨this.1, this.2.1⟩
  have HRW : Hid (c.rw = (m : Int)) := Lib.hid (by have := rws_bd hr.1; rw [hm] at this; exact this.2.2.symm)
  have HQ := Lib.hid hq
  have HL := Lib.hid hq.len
  have hnc := hq.nc
  have hcm := hq.cm
  unfold maxLen at hcm
  have D := Lib.hid (fun w hq => fed_any x lv A n0 k0 qs 3 0 60 0 60 c l w hx hlv hq (by omega) (by omega) rfl rfl (by omega) (by omega) hC hl)
  rw [← upsA_R] at D
  have CO := Lib.hid (fun kk r w hq h0 h1 (h2 : r < m) => others_any x lv A n0 k0 qs c l kk r m w hq hco (by omega) (by omega) h0 h1 hm h2)
  have CO0 := Lib.hid (fun kk w hq h0 h1 => others0 x lv A n0 k0 qs c l kk m w hq hco (by omega) (by omega) h0 h1 hm (by omega))
  have CH := Lib.hid (fun kk w hq => has_any x lv A n0 k0 qs c l kk w hq hco (by omega) (by omega) hkeys)
  have CCU := Lib.hid (fun w k d h0 h1 h2 h3 => cut_any c l k d w hco (by omega) (by omega) h0 h1 h2 h3 hkeys)
  have CK := Lib.hid (fun w => rkeys_any c l w hco (by omega) (by omega))
  have hlen : (upsA c l qs).length ≤ 60 := by rw [upsA_R]; exact upsR_len _ _ _ _ _
  have hin := upsR_in hkeys qs 0 60
  rw [← upsA_R] at hin
  have HOB : Hid (∀ kk r, -65970697666560 ≤ othK c l kk r (upsA c l qs) ∧ othK c l kk r (upsA c l qs) ≤ 65970697666560) := Lib.hid (fun kk r => by
    have h := othK_bd (c := c) (l := l) (k := kk) (r := r) (b := 1099511627776) (by omega) (us := upsA c l qs) (fun u hu => (hin.1 u hu).2.2)
    omega)
  have HHB : Hid (∀ kk, -65970697666560 ≤ hasK kk (upsA c l qs) ∧ hasK kk (upsA c l qs) ≤ 65970697666560) := Lib.hid (fun kk => by
    have h := hasK_bd (k := kk) (b := 1099511627776) (by omega) (us := upsA c l qs) (fun u hu => (hin.1 u hu).2.2)
    omega)
  have hne2 : c.md ≠ 2 := by omega
  obtain ⟨n, hn⟩ : ∃ n, wds c = n := ⟨_, rfl⟩
  have hwb := wds_bd hr.1
  rw [hn] at hwb
  have HWD : Hid (c.wd = (n : Int)) := Lib.hid hwb.2.2.symm
  have hn1 : 1 ≤ n ∧ n ≤ 128 := ⟨hwb.1, hwb.2.1⟩
  have HG := Lib.hid (fun k q (h1 : k < 60) (h2 : qs[k]? = some q) => upsA_get (c := c) (l := l) h1 h2)
  have HAL := Lib.hid (fun k (h1 : k = qs.length ∨ k = 60) (h2 : k ≤ 60) => upsA_all (c := c) (l := l) (qs := qs) h1 h2)
  have HS := Lib.hid (fun j U D r v hu hrm hv => sum_step (c := c) (l := l) (us := upsA c l qs) (j := j) (U := U) (D := D) hr.1 hne2 hin hlen hu (r := r) (v := v) hrm hv)
  have HE := Lib.hid (fun j U D hu => sum_end (c := c) (l := l) (us := upsA c l qs) (j := j) (U := U) (D := D) hr.1 hne2 hin hlen hu)
  have CB := Lib.hid (fun U w h0 h1 h2 => columns_w c l U m w hco (by omega) (by omega) h0 h1 h2 hm)
  have HCO := Lib.hid (fun U (h2 : U < keys c l) r (hrm : r < m) => cols_w (c := c) (l := l) (k := U) hr.1 h2 (r := r) (by rw [hm]; exact hrm))
  have HZ0 : Hid ((cells c l ((upsA c l qs).take 0)).flatten = List.replicate (m * n) 0) := Lib.hid (by rw [List.take_zero, cells_nil, hm, hn]; exact zeros_flat2 _ _)
  have hcu := fun q => cutU_ok hkeys q
  have HCU := Lib.hid hcu
  have hdl := cells_dims2 hr.1 hin hlen hne2
  have CCE := Lib.hid (fun p F w h => scells_mid p F c l (cells c l (upsA c l qs)) w h)
  obtain ⟨us, hus⟩ : ∃ us, upsA c l qs = us := ⟨_, rfl⟩
  rw [hus] at D HG HAL HS HE HZ0 hlen hdl CCE
  rw [hm, hn] at HS hdl CCE
  rw [hm] at HE
  obtain ⟨Q, hQ⟩ : ∃ Q, m * n = Q := ⟨_, rfl⟩
  have hQb : Q ≤ 1024 ∧ 1 ≤ Q := by rw [← hQ]; exact ⟨Nat.mul_le_mul hm8.2 hn1.2, Nat.mul_pos (by omega) (by omega)⟩
  have HPL : Hid (∀ r v, r < m → v < n → r * n + v < Q) := Lib.hid (fun r v h1 h2 => by
    have h3 : (r + 1) * n ≤ m * n := Nat.mul_le_mul_right _ h1
    rw [Nat.succ_mul] at h3
    omega)
  have hQi : (m : Int) * (n : Int) = (Q : Int) := by rw [← hQ]; simp
  have FLE := Lib.hid ((flat_dims hdl).trans hQ)
  rw [hQ] at HZ0 CCE
  have q1 : IntKind.i64.wrap (c.rw * c.wd) = (Q : Int) := by rw [HRW.out, HWD.out, hQi]; exact IntWalk.i64_in _ ⟨by omega, by omega⟩
  have q2 : wrap64 (c.rw * c.wd) = (Q : Int) := by rw [HRW.out, HWD.out, hQi]; exact IntWalk.wrap64_in _ ⟨by omega, by omega⟩
  have HKY := Lib.hid hkeys
  have HBX : Hid (Have w (w.alloc (.cells #[.int .i64 x.bt, .int .i64 x.rw, .int .i64 x.wd, .int .i64 x.md, .int .u64 x.sd, .int .i64 lv, .slice A n0 k0] 27)) [boxT w.heap.size 27 #[.int .i64 x.bt, .int .i64 x.rw, .int .i64 x.wd, .int .i64 x.md, .int .u64 x.sd, .int .i64 lv, .slice A n0 k0]]) := Lib.hid (box_new w _ _)
  clear hC hl hr hco hmd hq hx hm hus hin hcu hdl hQ hQi hne2 hn CO CO0 CH CK HOB HHB hwb
  go_enter Try.func3, Try.ntmps3
  go_wp2_with (first
    | (go_at_call 11; (with_reducible refine (D.out _ (HQ.out.up HBW1.out)).mono ?_); rintro e w2 ⟨p, F, rfl, hv⟩; have HV2 := HV1.out.join hv; simp only [List.cons_append, List.nil_append] at HV2; have HV := Lib.hid (HV2.push (boxT w2.heap.size 24 #[.int .i64 c.bt, .int .i64 c.rw, .int .i64 c.wd, .int .i64 c.md, .int .u64 c.sd]) (Lw.below_alloc (Below.refl _ _) _) (heap_alloc_new w2 _) (fun k hk => Nat.le_of_eq hk.symm)); have HBW := Lib.hid HV.out.below; clear hv HV2 x0 x1 x2 x3 x4 x5 c0; obtain ⟨x0, x1, x2, x3, x4, x5, c0⟩ := box7 HV.out.i2; obtain ⟨e1, e2, e3, e4, e5⟩ := box5 HV.out.i0)
    | (go_at_call 10; (with_reducible refine (shown_any _).mono ?_); rintro e w1 ⟨rfl, hb⟩; have HV1 := Lib.hid (HBX.out.up hb); have HBW1 := Lib.hid HV1.out.below; obtain ⟨x0, x1, x2, x3, x4, x5, c0⟩ := box7 HV1.out.i0; clear hb))
  obtain ⟨gc, hgc⟩ : ∃ gc, w2.heap.size = gc := ⟨_, rfl⟩
  rw [hgc] at HV e1 e2 e3 e4 e5 ⊢
  clear hgc
  clear x0 x1 x2 x3 x4 x5 c0 e1 e2 e3 e4 e5
  obtain ⟨w3, hw3⟩ : ∃ w3, w3 = w2.alloc (.cells #[.int .i64 c.bt, .int .i64 c.rw, .int .i64 c.wd, .int .i64 c.md, .int .u64 c.sd] 24) := ⟨_, rfl⟩
  rw [← hw3] at HV HBW ⊢
  clear hw3
  go_loopw [10, 11] (fun ot iv wr => ∃ (r : Nat), r ≤ Q ∧ iv = .int .i64 r ∧ wr.ownsRow w3.heap.size 2 1 ot r ((List.replicate r (0 : Int)).map (Value.int .i64)) ∧ Below w3.heap.size w3 wr) (fun _ iv _ => Q - (intOf iv).toNat)
  case atStart => exact ⟨0, Nat.zero_le _, rfl, ⟨rfl, .inl ⟨rfl, rfl⟩⟩, Below.refl _ _⟩
  case round =>
    obtain ⟨r, hr, rfl, hown, hbel⟩ := hrel
    have HOW := Lib.hid hown
    have HBE := Lib.hid hbel
    have hsz := hbel.size
    clear hown hbel
    have HV3 := Lib.hid (HV.out.up HBE.out)
    obtain ⟨e1, e2, e3, e4, e5⟩ := box5 HV3.out.i0
    by_cases hlt : r < Q
    · have HNX : Hid (List.replicate (r + 1) (0 : Int) = List.replicate r 0 ++ [0]) := Lib.hid (by rw [List.replicate_succ'])
      have hlt2 : (r : Int) < (Q : Int) := by omega
      go_wp2_with (at_builtin; (refine app_one .i64 rfl _ _ 32 rfl w3.heap.size 2 i0 8 i64s_u hi hi0 hi1 hi2 _ r (List.replicate r 0) rfl (HOW.out.alloc _) 0 wr.heap.size rfl (cell_one_new _ _ _) (by unfold maxLen; omega) (by omega) (by simp; omega) ?_); intro v1 w6 own6 grow6 oth6)
      go_roundw
      case rel => exact ⟨r + 1, by omega, by go_num, by rw [HNX.out]; exact own6, app_below3 (Lw.below_alloc HBE.out _) grow6 (fun q hq => own_ge HOW.out q hq)⟩
      case measure => simp [intOf]; omega
    · have e : Q = r := by omega
      subst e
      obtain ⟨Ao, co, hvo, hrdo, ho1, ho2, ho3⟩ := own_rd HOW.out
      subst hvo
      obtain ⟨ao, hao⟩ : ∃ ao, Ao = some ao := by
        cases Ao with
        | none => have := (ho3 rfl).1; omega
        | some ao => exact ⟨ao, rfl⟩
      subst hao
      obtain ⟨gw, rfl, hgo, hmid⟩ := Ord.mid_own HOW.out
      have ho5 : co ≤ 9223372036854775807 := ho2
      clear ho2
      have HVO : Hid (Have w wr [midT gw (cells c l (us.take 0)).flatten, boxT gc 24 #[.int .i64 c.bt, .int .i64 c.rw, .int .i64 c.wd, .int .i64 c.md, .int .u64 c.sd], skT p F c l (cells c l us), boxT w.heap.size 27 #[.int .i64 x.bt, .int .i64 x.rw, .int .i64 x.wd, .int .i64 x.md, .int .u64 x.sd, .int .i64 lv, .slice A n0 k0]]) := Lib.hid (by
        refine Have.put_at HV3.out (midT gw _) ?_ ?_ ?_
        · show Ord.Mid wr gw 0 _
          rw [HZ0.out]
          exact hmid
        · intro k hk u hu hu2
          have h1 : k = gw := hk
          have h2 := u.lt w3 (HV.out.one u hu).1 k hu2
          omega
        · intro k hk
          have h1 : k = gw := hk
          have := HV.out.below.size
          omega)
      have hcap : (Q : Int) ≤ (co : Int) := by omega
      have hlt3 : ¬ (Q : Int) < (Q : Int) := by omega
      clear hrdo hmid HOW hgo ho3
      go_wp2
      clear e1 e2 e3 e4 e5 hlt3
      obtain ⟨wo, rfl⟩ : ∃ wo, wo = wr := ⟨_, rfl⟩
      go_loopw [12] (fun iv wr => ∃ (i : Nat), i ≤ n0 ∧ i ≤ 60 ∧ iv = .int .i64 i ∧ Have w wr [midT gw (cells c l (us.take i)).flatten, boxT gc 24 #[.int .i64 c.bt, .int .i64 c.rw, .int .i64 c.wd, .int .i64 c.md, .int .u64 c.sd], skT p F c l (cells c l us), boxT w.heap.size 27 #[.int .i64 x.bt, .int .i64 x.rw, .int .i64 x.wd, .int .i64 x.md, .int .u64 x.sd, .int .i64 lv, .slice A n0 k0]]) (fun iv _ => n0 - (intOf iv).toNat)
      case atStart => exact ⟨0, Nat.zero_le _, Nat.zero_le _, rfl, HVO.out⟩
      case round =>
        obtain ⟨i, hi9, hi6, rfl, hv⟩ := hrel
        have HVr := Lib.hid hv
        have HBr := Lib.hid hv.below
        clear hv
        obtain ⟨e1, e2, e3, e4, e5⟩ := box5 HVr.out.i1
        obtain ⟨x0, x1, x2, x3, x4, x5, c0⟩ := box7 HVr.out.i3
        by_cases hlt : i < n0 ∧ i < 60
        · obtain ⟨hi1x, hi2x⟩ := hlt
          obtain ⟨q, hq1⟩ : ∃ q, qs[i]? = some q := ⟨_, List.getElem?_eq_getElem (by rw [HL.out]; omega)⟩
          have hug := HG.out i q hi2x hq1
          have hcq := HCU.out q
          obtain ⟨a, g, o, rfl, hadd, d1w, d2w, kb, db⟩ := HQ.out.at hq1
          obtain ⟨qk, qd⟩ := q
          simp only at d1w d2w kb db
          have d1 := cell_up d1w HBr.out
          have d2 := cell_up d2w HBr.out
          have CC := Lib.hid (fun w => CCU.out w qk qd kb.1 kb.2 db.1 db.2)
          obtain ⟨U, hU⟩ : ∃ U, (cutU c l (qk, qd)).1 = U := ⟨_, rfl⟩
          obtain ⟨D2, hD2⟩ : ∃ D2, (cutU c l (qk, qd)).2 = D2 := ⟨_, rfl⟩
          have hug2 : us[i]? = some (U, D2) := by rw [hug, ← hU, ← hD2]
          rw [hU, hD2] at CC hcq
          have CU := Lib.hid (fun w => CB.out U w hcq.1 (by have := hcq.2.1; omega) hcq.2.1)
          have HCG := Lib.hid (fun r hrm => HCO.out U hcq.2.1 r hrm)
          rw [HWD.out] at HCG
          have HST := Lib.hid (fun r v hrm hv => HS.out i U D2 r v hug2 hrm hv)
          have HSE := Lib.hid (HE.out i U D2 hug2)
          have hdb : -1099511627776 ≤ D2 ∧ D2 ≤ 1099511627776 := ⟨hcq.2.2.1, hcq.2.2.2.1⟩
          clear hq1 hug hug2 hU hD2 d1w d2w hcq x0 x1 x2 x3 x4 x5
          go_wp2
          go_region_held3 (fun w' => w'.cell? ⟨gc, 0, none⟩ = some (.int .i64 c.bt) ∧ w'.cell? ⟨gc, 1, none⟩ = some (.int .i64 c.rw) ∧ w'.cell? ⟨gc, 2, none⟩ = some (.int .i64 c.wd) ∧ w'.cell? ⟨gc, 3, none⟩ = some (.int .i64 c.md) ∧ w'.cell? ⟨gc, 4, none⟩ = some (.int .u64 c.sd) ∧ w'.cell? ⟨w.heap.size, 6, none⟩ = some (.slice (some a) n0 k0) ∧ w'.cell? ⟨g, o, none⟩ = some (.int .u64 qk) ∧ w'.cell? ⟨g, o + 1, none⟩ = some (.int .i64 qd)) (first | (refine ⟨?_, ?_, ?_, ?_, ?_, ?_, ?_, ?_⟩ <;> (first | (with_reducible assumption) | (with_reducible refine cell_up e1 ?_) | (with_reducible refine cell_up e2 ?_) | (with_reducible refine cell_up e3 ?_) | (with_reducible refine cell_up e4 ?_) | (with_reducible refine cell_up e5 ?_) | (with_reducible refine cell_up c0 ?_) | (with_reducible refine cell_up d1 ?_) | (with_reducible refine cell_up d2 ?_)) <;> (repeat' (first | (with_reducible exact Below.refl _ _) | (with_reducible assumption) | (with_reducible refine below_over ?_ _ _) | (with_reducible refine Lw.below_alloc ?_ _) | (with_reducible refine Below.drew ?_) | (with_reducible refine below_drewN ?_ _) | (with_reducible refine Below.setCell ?_ ?_ _) | go_size)))) (first | (go_at_call 12; (with_reducible refine (CC.out _).mono ?_); rintro e w' ⟨rfl, hb⟩; obtain ⟨bs, dd, rfl⟩ := below_grow hb; clear hb))
          all_goals go_wp2_with (go_at_call 13; (with_reducible refine (CU.out _).mono ?_); rintro e w7 ⟨A7, cap7, rfl, rd7, hc7, hb⟩; have RD7 := Lib.hid rd7; have HA7 := Lib.hid (Nat.le_trans (Below.size (show Below wr.heap.size wr _ from (by repeat' (first | (with_reducible exact Below.refl _ _) | (with_reducible assumption) | (with_reducible refine below_over ?_ _ _) | (with_reducible refine Lw.below_alloc ?_ _) | (with_reducible refine Below.drew ?_) | (with_reducible refine below_drewN ?_ _) | (with_reducible refine Below.setCell ?_ ?_ _) | go_size)))) hc7); clear hc7; have UP := (fun (b : Addr) (v : Value) h => cell_up (a := b) (v := v) h hb); (first | (obtain ⟨ub, hub9⟩ : ∃ ub, wr.heap.size + bs.size = ub := ⟨_, rfl⟩; have u1 := UP ⟨wr.heap.size + bs.size, 1, none⟩ (.int .i64 D2) (by simp [go_sem]; done); rw [hub9] at u1 ⊢) | (obtain ⟨ub, hub9⟩ : ∃ ub, wr.heap.size = ub := ⟨_, rfl⟩; have u1 := UP ⟨wr.heap.size, 1, none⟩ (.int .i64 D2) (by simp [go_sem]; done); rw [hub9] at u1 ⊢)); have HU9 : Hid (wr.heap.size ≤ ub) := Lib.hid (by omega); clear hub9 UP; have HB7 := Lib.hid (below_call (w1 := w7) (show Below wr.heap.size wr _ by repeat' (first | (with_reducible exact Below.refl _ _) | (with_reducible assumption) | (with_reducible refine below_over ?_ _ _) | (with_reducible refine Lw.below_alloc ?_ _) | (with_reducible refine Below.drew ?_) | (with_reducible refine below_drewN ?_ _) | (with_reducible refine Below.setCell ?_ ?_ _) | go_size)) hb (Nat.le_refl _)); clear hb rd7)
          · have HV7 := Lib.hid (HVr.out.up HB7.out)
            have HGU : Hid (¬ ub = gw) := Lib.hid (fun h => by have h1 := (midI HVr.out.i0).lt; have := HU9.out; omega)
            have RDG : Hid (¬ A7.block = gw) := Lib.hid (fun h => by have h1 := (midI HVr.out.i0).lt; have := HA7.out; omega)
            clear e1 e2 e3 e4 e5 c0 d1 d2
            obtain ⟨wo, rfl⟩ : ∃ wo, wo = wr := ⟨_, rfl⟩
            go_loopw [15] (fun rv wr => ∃ (r : Nat), r ≤ m ∧ rv = .int .i64 r ∧ Have w wr [midT gw (sumW c l us i U D2 r), boxT gc 24 #[.int .i64 c.bt, .int .i64 c.rw, .int .i64 c.wd, .int .i64 c.md, .int .u64 c.sd], skT p F c l (cells c l us), boxT w.heap.size 27 #[.int .i64 x.bt, .int .i64 x.rw, .int .i64 x.wd, .int .i64 x.md, .int .u64 x.sd, .int .i64 lv, .slice (some a) n0 k0]] ∧ Kept (fun k => k = gw) w7 wr) (fun rv _ => m - (intOf rv).toNat)
            case atStart => exact ⟨0, Nat.zero_le _, rfl, by rw [sum_zero]; exact HV7.out, Kept.refl _ _⟩
            case round =>
              obtain ⟨r, hr, rfl, hv, hk⟩ := hrel
              have HVi := Lib.hid hv
              have HKi := Lib.hid hk
              clear hv hk
              obtain ⟨e1, e2, e3, e4, e5⟩ := box5 HVi.out.i1
              have u9 := HKi.out.cell u1 HGU.out
              have hrw := HRW.out
              by_cases hrm : r < m
              · obtain ⟨v, hvc, hvn⟩ := HCG.out r hrm
                obtain ⟨x9, hx9, hxb, hset⟩ := HST.out r v hrm hvc
                have hbl : (A7.add r).block = A7.block := by unfold Addr.add; split <;> rfl
                have c7 := HKi.out.cell (RD7.out.at hvc) (by rw [hbl]; exact RDG.out)
                clear hbl
                have hplt : r * n + v < Q := HPL.out r v hrm (by omega)
                have hrn1 : (r : Int) * c.wd = ((r * n : Nat) : Int) := by rw [HWD.out]; simp
                obtain ⟨P, hP⟩ : ∃ P, r * n = P := ⟨_, rfl⟩
                rw [hP] at hrn1 hx9 hset hplt
                have hfz := (midI HVi.out.i0).frozen (0 + (P + v))
                have hcl := (midI HVi.out.i0).cell hx9
                obtain ⟨gad, hgad⟩ : ∃ gad : Addr, (⟨gw, 0, none⟩ : Addr) = gad := ⟨_, rfl⟩
                have hm6 := (midI HVi.out.i0).set (P + v) (x9 + D2)
                have hk6 : Kept (fun k => k = gw) wr (wr.setCell ⟨gw, 0 + (P + v), none⟩ (.int .i64 (x9 + D2))) := (Kept.refl (fun k => k = gw) wr).set (.inl rfl) _ _
                rw [hset] at hm6
                rw [← Ord.add_at, hgad] at hcl hfz hm6 hk6
                have HM6 := Lib.hid hm6
                have HK6 := Lib.hid hk6
                obtain ⟨AT, hAT⟩ : ∃ AT, P + v = AT := ⟨_, rfl⟩
                rw [hAT] at hcl hfz HM6 HK6 hplt
                have a1 : IntKind.i64.wrap ((r : Int) * c.wd) = (P : Int) := by rw [hrn1]; exact IntWalk.i64_in _ ⟨by omega, by omega⟩
                have a2 : wrap64 ((r : Int) * c.wd) = (P : Int) := by rw [hrn1]; exact IntWalk.wrap64_in _ ⟨by omega, by omega⟩
                have a3 : IntKind.i64.wrap ((P : Int) + (v : Int)) = (AT : Int) := by rw [IntWalk.i64_in _ ⟨by omega, by omega⟩]; omega
                have a4 : wrap64 ((P : Int) + (v : Int)) = (AT : Int) := by rw [IntWalk.wrap64_in _ ⟨by omega, by omega⟩]; omega
                obtain ⟨S, hS⟩ : ∃ S, x9 + D2 = S := ⟨_, rfl⟩
                have a5 : IntKind.i64.wrap (x9 + D2) = S := by rw [hS]; exact IntWalk.i64_in _ ⟨by omega, by omega⟩
                have a6 : wrap64 (x9 + D2) = S := by rw [hS]; exact IntWalk.wrap64_in _ ⟨by omega, by omega⟩
                rw [hS] at HM6 HK6
                have hr3 : (r : Int) < (m : Int) := by omega
                have hr4 : (0 : Int) ≤ (r : Int) := by omega
                have hat0 : (0 : Int) ≤ (AT : Int) := Int.natCast_nonneg AT
                have hat1 : (AT : Int) < (Q : Int) := Int.ofNat_lt.2 hplt
                have hat2 : ¬ (AT : Int) < 0 := Int.not_lt.2 hat0
                have hat3 : ¬ (Q : Int) ≤ (AT : Int) := Int.not_le.2 hat1
                have hat4 : decide ((AT : Int) < 0) = false := decide_eq_false hat2
                have hat5 : decide ((Q : Int) ≤ (AT : Int)) = false := decide_eq_false hat3
                rw [hrw] at e2
                rw [hgad]
                clear hvc hx9 hset hrn1 hP hm6 hk6 hAT hS hrw hlv hkb hxb kb db hdb hcm hnc hlb hbt8 hlen hplt hvn ho5
                go_wp2
                go_quiet (fail)
                have hw9 := inc_wrap hrm hm8.2
                have hw8 := inc_wrap2 hrm hm8.2
                have HRM := Lib.hid hrm
                have HM8 := Lib.hid hm8
                clear hm8 hn1 hQb ho1 hcap hr hrm hi9 hi6 hi1x hi2x hsz q1 q2 a1 a2 a3 a4 hr3 hr4 hat0 hat1 hkeys u1
                go_wp2
                go_region
                go_wp2
                have hrm := HRM.out
                have hm9 := HM8.out
                go_roundw
                case rel => exact ⟨r + 1, by omega, by go_num, (HVi.out.turn_0 (midT gw _) HM6.out HK6.out (fun k hk => .inl hk)).up (by repeat' (first | (with_reducible exact Below.refl _ _) | (with_reducible assumption) | (with_reducible refine below_over ?_ _ _) | (with_reducible refine Lw.below_alloc ?_ _) | (with_reducible refine Below.drew ?_) | (with_reducible refine below_drewN ?_ _) | (with_reducible refine Below.setCell ?_ ?_ _) | go_size)), HKi.out.trans (HK6.out.drewN _) (fun q hq h => h)⟩
                case measure => simp [intOf]; omega
              · have e : r = m := by omega
                subst e
                have hv9 := HVi.out
                rw [HSE.out] at hv9
                have HV9 := Lib.hid hv9
                clear hv9
                rw [hrw] at e2
                clear hrw
                go_wp2
                go_roundw
                case rel => exact ⟨i + 1, by omega, by omega, by go_num, HV9.out⟩
                case measure => simp [intOf]; omega
          · have HV7 := Lib.hid (HVr.out.up HB7.out)
            have HGU : Hid (¬ ub = gw) := Lib.hid (fun h => by have h1 := (midI HVr.out.i0).lt; have := HU9.out; omega)
            have RDG : Hid (¬ A7.block = gw) := Lib.hid (fun h => by have h1 := (midI HVr.out.i0).lt; have := HA7.out; omega)
            clear e1 e2 e3 e4 e5 c0 d1 d2
            obtain ⟨wo, rfl⟩ : ∃ wo, wo = wr := ⟨_, rfl⟩
            go_loopw [15] (fun rv wr => ∃ (r : Nat), r ≤ m ∧ rv = .int .i64 r ∧ Have w wr [midT gw (sumW c l us i U D2 r), boxT gc 24 #[.int .i64 c.bt, .int .i64 c.rw, .int .i64 c.wd, .int .i64 c.md, .int .u64 c.sd], skT p F c l (cells c l us), boxT w.heap.size 27 #[.int .i64 x.bt, .int .i64 x.rw, .int .i64 x.wd, .int .i64 x.md, .int .u64 x.sd, .int .i64 lv, .slice (some a) n0 k0]] ∧ Kept (fun k => k = gw) w7 wr) (fun rv _ => m - (intOf rv).toNat)
            case atStart => exact ⟨0, Nat.zero_le _, rfl, by rw [sum_zero]; exact HV7.out, Kept.refl _ _⟩
            case round =>
              obtain ⟨r, hr, rfl, hv, hk⟩ := hrel
              have HVi := Lib.hid hv
              have HKi := Lib.hid hk
              clear hv hk
              obtain ⟨e1, e2, e3, e4, e5⟩ := box5 HVi.out.i1
              have u9 := HKi.out.cell u1 HGU.out
              have hrw := HRW.out
              by_cases hrm : r < m
              · obtain ⟨v, hvc, hvn⟩ := HCG.out r hrm
                obtain ⟨x9, hx9, hxb, hset⟩ := HST.out r v hrm hvc
                have hbl : (A7.add r).block = A7.block := by unfold Addr.add; split <;> rfl
                have c7 := HKi.out.cell (RD7.out.at hvc) (by rw [hbl]; exact RDG.out)
                clear hbl
                have hplt : r * n + v < Q := HPL.out r v hrm (by omega)
                have hrn1 : (r : Int) * c.wd = ((r * n : Nat) : Int) := by rw [HWD.out]; simp
                obtain ⟨P, hP⟩ : ∃ P, r * n = P := ⟨_, rfl⟩
                rw [hP] at hrn1 hx9 hset hplt
                have hfz := (midI HVi.out.i0).frozen (0 + (P + v))
                have hcl := (midI HVi.out.i0).cell hx9
                obtain ⟨gad, hgad⟩ : ∃ gad : Addr, (⟨gw, 0, none⟩ : Addr) = gad := ⟨_, rfl⟩
                have hm6 := (midI HVi.out.i0).set (P + v) (x9 + D2)
                have hk6 : Kept (fun k => k = gw) wr (wr.setCell ⟨gw, 0 + (P + v), none⟩ (.int .i64 (x9 + D2))) := (Kept.refl (fun k => k = gw) wr).set (.inl rfl) _ _
                rw [hset] at hm6
                rw [← Ord.add_at, hgad] at hcl hfz hm6 hk6
                have HM6 := Lib.hid hm6
                have HK6 := Lib.hid hk6
                obtain ⟨AT, hAT⟩ : ∃ AT, P + v = AT := ⟨_, rfl⟩
                rw [hAT] at hcl hfz HM6 HK6 hplt
                have a1 : IntKind.i64.wrap ((r : Int) * c.wd) = (P : Int) := by rw [hrn1]; exact IntWalk.i64_in _ ⟨by omega, by omega⟩
                have a2 : wrap64 ((r : Int) * c.wd) = (P : Int) := by rw [hrn1]; exact IntWalk.wrap64_in _ ⟨by omega, by omega⟩
                have a3 : IntKind.i64.wrap ((P : Int) + (v : Int)) = (AT : Int) := by rw [IntWalk.i64_in _ ⟨by omega, by omega⟩]; omega
                have a4 : wrap64 ((P : Int) + (v : Int)) = (AT : Int) := by rw [IntWalk.wrap64_in _ ⟨by omega, by omega⟩]; omega
                obtain ⟨S, hS⟩ : ∃ S, x9 + D2 = S := ⟨_, rfl⟩
                have a5 : IntKind.i64.wrap (x9 + D2) = S := by rw [hS]; exact IntWalk.i64_in _ ⟨by omega, by omega⟩
                have a6 : wrap64 (x9 + D2) = S := by rw [hS]; exact IntWalk.wrap64_in _ ⟨by omega, by omega⟩
                rw [hS] at HM6 HK6
                have hr3 : (r : Int) < (m : Int) := by omega
                have hr4 : (0 : Int) ≤ (r : Int) := by omega
                have hat0 : (0 : Int) ≤ (AT : Int) := Int.natCast_nonneg AT
                have hat1 : (AT : Int) < (Q : Int) := Int.ofNat_lt.2 hplt
                have hat2 : ¬ (AT : Int) < 0 := Int.not_lt.2 hat0
                have hat3 : ¬ (Q : Int) ≤ (AT : Int) := Int.not_le.2 hat1
                have hat4 : decide ((AT : Int) < 0) = false := decide_eq_false hat2
                have hat5 : decide ((Q : Int) ≤ (AT : Int)) = false := decide_eq_false hat3
                rw [hrw] at e2
                rw [hgad]
                clear hvc hx9 hset hrn1 hP hm6 hk6 hAT hS hrw hlv hkb hxb kb db hdb hcm hnc hlb hbt8 hlen hplt hvn ho5
                go_wp2
                go_quiet (fail)
                have hw9 := inc_wrap hrm hm8.2
                have hw8 := inc_wrap2 hrm hm8.2
                have HRM := Lib.hid hrm
                have HM8 := Lib.hid hm8
                clear hm8 hn1 hQb ho1 hcap hr hrm hi9 hi6 hi1x hi2x hsz q1 q2 a1 a2 a3 a4 hr3 hr4 hat0 hat1 hkeys u1
                go_wp2
                go_region
                go_wp2
                have hrm := HRM.out
                have hm9 := HM8.out
                go_roundw
                case rel => exact ⟨r + 1, by omega, by go_num, (HVi.out.turn_0 (midT gw _) HM6.out HK6.out (fun k hk => .inl hk)).up (by repeat' (first | (with_reducible exact Below.refl _ _) | (with_reducible assumption) | (with_reducible refine below_over ?_ _ _) | (with_reducible refine Lw.below_alloc ?_ _) | (with_reducible refine Below.drew ?_) | (with_reducible refine below_drewN ?_ _) | (with_reducible refine Below.setCell ?_ ?_ _) | go_size)), HKi.out.trans (HK6.out.drewN _) (fun q hq h => h)⟩
                case measure => simp [intOf]; omega
              · have e : r = m := by omega
                subst e
                have hv9 := HVi.out
                rw [HSE.out] at hv9
                have HV9 := Lib.hid hv9
                clear hv9
                rw [hrw] at e2
                clear hrw
                go_wp2
                go_roundw
                case rel => exact ⟨i + 1, by omega, by omega, by go_num, HV9.out⟩
                case measure => simp [intOf]; omega
        · have hta := HAL.out i (by rw [HL.out]; omega) hi6
          have hv9 := HVr.out
          rw [hta] at hv9
          have HVz := Lib.hid hv9
          clear hv9 hta x0 x1 x2 x3 x4 x5 e1 e2 e3 e4 e5 HVr
          have hcases : (i : Int) < n0 ∧ ¬ (i : Int) < 60 ∨ ¬ (i : Int) < n0 := by omega
          rcases hcases with ⟨hc1, hc2⟩ | hc1
          all_goals clear hlt
          all_goals go_wp2_with (first
            | (go_at_call 14; (with_reducible refine (rsame_any _ _ _ _ _ _ _ _ _ (midI HVy.out.i0).rd (midI HVy.out.i1).rd FLE.out FLE.out (by omega) (by omega)).mono ?_); rintro e we ⟨rfl, hb⟩; have HVx := Lib.hid (HVy.out.up hb); clear hb)
            | (go_at_call 15; (with_reducible refine (CCE.out _ _ _ (skI HVz.out.i2)).mono ?_); rintro e wd ⟨g2, cap2, rfl, h1, h2, -, -, hb⟩; have HVy := Lib.hid (HVz.out.push (midT g2 (cells c l us).flatten) hb h1 (fun k hk => by subst hk; exact h2)); clear h1 h2 hb))
          all_goals go_ret
          all_goals exact ⟨ret_bs (by first | rfl | (simp [*]; done)), HVx.out.below⟩
theorem sums_law (x : Cfg) (lv : Int) (A : Option Addr) (n0 k0 : Nat) (qs : Ups) (b : Bool) (w : World) (hx : x.Ok) (hlv : -9223372036854775808 ≤ lv ∧ lv ≤ 9223372036854775807) (hq : UpdV w A n0 k0 qs) :
    Calls Try.prog 3 #[.agg #[.int .i64 x.bt, .int .i64 x.rw, .int .i64 x.wd, .int .i64 x.md, .int .u64 x.sd, .int .i64 lv, .slice A n0 k0], .bool b] w fun e w' => e = .returned (.bool true) ∧ Below w.heap.size w w' := by
  cases b with
  | false => exact sums_false x lv A n0 k0 qs w hx hlv hq
  | true => exact sums_true x lv A n0 k0 qs w hx hlv hq
namespace sketchSums
open Go.ChangeShapes Go.WideShapes Go.ChangeAt Go.Joins
set_option maxRecDepth 100000 in
theorem lifted (os : Os) (started : os.Started) (H : Type) (enc : TypeId × Value → H) :
    ReturnsInHanded {} Try.checked os 3 .any (Rows.sketchSumsSpec.pre6 enc Try.prog Try.f3 Rows.sketchSumsRow.domain false) (Rows.sketchSumsSpec.post enc Try.prog Try.f3 false true false false) := by
  refine Lw.lifted (C := Try.checked) (B := 4) (by kernel_rfl) os started (by kernel_rfl) Try.func3
    (ChangeSpec.witness6 (enc := enc) (C := Try.checked) false ⟨#[], #[.agg #[.int .i64 0, .int .i64 0, .int .i64 0, .int .i64 0, .int .u64 0, .int .i64 0, .slice none 0 0], .bool false], []⟩ 8 (by kernel_rfl) (by kernel_rfl) (by kernel_rfl) (by kernel_rfl)) rfl Try.underlying4 (by kernel_rfl) (by kernel_rfl) (by kernel_rfl) ?_ ?_
  · intro ds h
    rw [Try.params3] at h
    match ds, h with
    | [_, _], _ => rfl
  · intro W base args ds p hval hA
    rw [Try.params3] at hA hval
    obtain ⟨v0, vs0, d0, ds0, p0, q0, hargs, rfl, rfl, h0, r0⟩ := trodAll_cons hA
    obtain ⟨v1, vs1, d1, ds1, p1, q1, rfl, rfl, rfl, h1, r1⟩ := trodAll_cons r0
    obtain ⟨rfl, rfl, rfl⟩ := trodAll_nil r1
    obtain rfl : args = #[v0, v1] := by cases args; simp_all
    obtain ⟨x0, lv0, A0, n0, k0, qs0, rfl, hx0, hlv0, hq0⟩ := open_playS (hval 0 27 v0 rfl rfl) h0
    obtain ⟨a1, rfl, rfl, rfl⟩ := open_bool Try.underlying4 (hval 1 4 v1 rfl rfl) h1
    exact sums_law x0 lv0 A0 n0 k0 qs0 a1 W hx0 hlv0 hq0
theorem over : Rows.sketchSumsRow.holds Try.pinned (OpenSpec.ofChange Rows.sketchSumsSpec) :=
  OpenClaim.holds_of_wide 3 Try.f3 rfl rfl rfl rfl rfl rfl rfl ⟨rfl, rfl, rfl, rfl, rfl⟩ rfl rfl rfl rfl rfl (by kernel_rfl) Try.func3 (by kernel_rfl)
    (of_decide_eq_true (by kernel_rfl)) (by unfold Func.isWrapper; first | (rw [if_pos (by decide +kernel)]; kernel_rfl) | (rw [if_neg (by decide +kernel)]; exact ⟨rfl, rfl⟩))
    (fun os started H enc _ => lifted os started H enc)
theorem proved : Rows.SketchSumsSaid :=
  over
#print axioms proved
end sketchSums
end Go.Proofs.Ytahgkiceifblmaa.Sk
