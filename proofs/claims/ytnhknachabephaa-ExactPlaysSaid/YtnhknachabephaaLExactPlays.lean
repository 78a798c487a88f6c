/- The statement ExactPlays of layer 12 holds: two arrays of a config are changed, merged, loaded and asked as the document says; any config (cut to eight bits and 128 columns), exact level, and ops (sixty), raw: behind each the answers, and all numbers. Printed by wip/gen/exalaws.py. -/
import Derived.Test.YtnhknachabephaaMg
import Derived.Deep.LoopGhost
import Derived.Deep.RegionHeld3
import Derived.Deep.DeepCutAuto
import Derived.Deep.QuietTactic
import Derived.BigQuiet
namespace Go.Proofs.Ytnhknachabephaa.Exa
open Go Go.RowKit Lw Grd Lin Con Shp Sk
set_option linter.unusedVariables false
set_option linter.unusedSimpArgs false
theorem DA.ptr {w : World} {p : Addr} {F : Nat → Prop} {c : Cfg} {l : Int} {L : List Int} (h : DA w p F c l L) : ∃ (b g cap : Nat), p = ⟨b, 0, none⟩ ∧ w.cell? ⟨b, 6, none⟩ = some (.slice (some ⟨g, 0, none⟩) L.length cap) ∧ Ord.Mid w g 0 L := by
  obtain ⟨h1, h2, h3, b, g, cap, rfl, hb, hm, h4, h5, h6, rfl⟩ := h
  exact ⟨b, g, cap, rfl, grd_cell hb 6 rfl, hm⟩
theorem mid_ap4 {w0 w : World} {g : Nat} {zs : List Int} {t1 t2 t3 : Thing} {q : Addr} {G : Nat → Prop} {c : Cfg} {l : Int} {M : List Int} {ts : List Thing} (h : Have w0 w (midT g zs :: t1 :: t2 :: t3 :: exT q G c l M :: ts)) : ¬ G g := h.2.2.1 (exT q G c l M) (by simp) g rfl
theorem plays_perm (q r o p c x : Thing) : [q, r, o, p, c, x].Perm [r, p, q, o, c, x] :=
  ((List.perm_append_comm (l₁ := [q]) (l₂ := [r])).append_right [o, p, c, x]).trans (List.Perm.cons r ((List.perm_append_comm (l₁ := [q, o]) (l₂ := [p])).append_right [c, x]))
def ptV (L : List Int) (k : Int) : Int := if (L.length : Int) ≤ k then 0 else num L k
def ptC (L : List Int) (k : Int) : Int := if (L.length : Int) ≤ k then 2 else 0
theorem epoint_any (p : Addr) (F : Nat → Prop) (c : Cfg) (l : Int) (L : List Int) (k : Int) (w : World) (h : EX w p F c l L) (k0 : 0 ≤ k) (k1 : k ≤ 18446744073709551615) :
    Calls Try.prog 14 #[.pointer (some p), .int .u64 k] w fun e w' => e = .returned (.tuple #[.int .i64 (ptV L k), .int .i64 (ptC L k)]) ∧ Below w.heap.size w w' := by
  unfold ptV ptC
  by_cases hk : (L.length : Int) ≤ k
  · rw [if_pos hk, if_pos hk]
    exact epoint_no p F c l L k w h k0 k1 hk
  · rw [if_neg hk, if_neg hk]
    exact epoint_yes p F c l L k w h k0 k1 (by omega)
theorem apoint_any (p : Addr) (F : Nat → Prop) (c : Cfg) (l : Int) (L : List Int) (k : Int) (w : World) (h : DA w p F c l L) (k0 : 0 ≤ k) (k1 : k ≤ 18446744073709551615) :
    Calls Try.prog 15 #[.pointer (some p), .int .u64 k] w fun e w' => e = .returned (.tuple #[.int .i64 (ptV L k), .int .i64 (ptC L k)]) ∧ Below w.heap.size w w' := by
  unfold ptV ptC
  by_cases hk : (L.length : Int) ≤ k
  · rw [if_pos hk, if_pos hk]
    exact apoint_no p F c l L k w h k0 k1 hk
  · rw [if_neg hk, if_neg hk]
    exact apoint_yes p F c l L k w h k0 k1 (by omega)
set_option maxRecDepth 100000 in
set_option maxHeartbeats 16000000 in
theorem plays_law (x : Cfg) (lv : Int) (A : Option Addr) (n0 k0 : Nat) (qs : List Opk) (w : World) (hx : x.Ok) (hlv : -9223372036854775808 ≤ lv ∧ lv ≤ 9223372036854775807) (hq : OpkV w A n0 k0 qs) :
    Calls Try.prog 3 #[.agg #[.int .i64 x.bt, .int .i64 x.rw, .int .i64 x.wd, .int .i64 x.md, .int .u64 x.sd], .int .i64 lv, .slice A n0 k0] w fun e w' => e = .returned (.bool true) ∧ Below w.heap.size w w' := by
  obtain ⟨c, hc⟩ : ∃ c, anyC x 8 128 = c := ⟨_, rfl⟩
  have cr := any_right x 8 128 (by omega) (by omega) (by omega) (by omega)
  have co := any_ok x hx 8 128 (by omega) (by omega) (by omega) (by omega)
  rw [hc] at cr co
  have CA := Lib.hid (fun w => rany_at x 8 128 c w hx (by omega) (by omega) (by omega) (by omega) hc)
  have CT := Lib.hid (fun w => top_any c lv w co cr hlv.1 hlv.2)
  have HCO := Lib.hid co
  have hnc := hq.nc
  have hcm := hq.cm
  unfold maxLen at hcm
  have HQ := Lib.hid hq
  have HLQ := Lib.hid hq.len
  have HBX : Hid (Have w (w.alloc (.cells #[.int .i64 x.bt, .int .i64 x.rw, .int .i64 x.wd, .int .i64 x.md, .int .u64 x.sd] 24)) [boxT w.heap.size 24 #[.int .i64 x.bt, .int .i64 x.rw, .int .i64 x.wd, .int .i64 x.md, .int .u64 x.sd]]) := Lib.hid (box_new w _ _)
  clear hc hx cr co hlv hq
  go_enter Try.func3, Try.ntmps3
  go_upto_region 4 with (first
    | (go_at_call 10; (with_reducible refine (CT.out _).mono ?_); rintro e w3 ⟨l, rfl, hxl, hb⟩; have HXL := Lib.hid hxl; have HV3 := Lib.hid (HV2.out.up hb); clear hb hxl; clear c0 c1 c2 c3 c4 x0 x1 x2 x3 x4; obtain ⟨c0, c1, c2, c3, c4⟩ := box5 HV3.out.i0; obtain ⟨x0, x1, x2, x3, x4⟩ := box5 HV3.out.i1)
    | (go_at_call 9; (with_reducible refine (CA.out _).mono ?_); rintro e w2 ⟨rfl, hb⟩; have HV2 := Lib.hid ((HV1.out.up hb).push (boxT w2.heap.size 24 #[.int .i64 c.bt, .int .i64 c.rw, .int .i64 c.wd, .int .i64 c.md, .int .u64 c.sd]) (Lw.below_alloc (Below.refl _ _) _) (heap_alloc_new w2 _) (fun k hk => Nat.le_of_eq hk.symm)); clear hb; clear x0 x1 x2 x3 x4; obtain ⟨c0, c1, c2, c3, c4⟩ := box5 HV2.out.i0; obtain ⟨x0, x1, x2, x3, x4⟩ := box5 HV2.out.i1)
    | (go_at_call 8; (with_reducible refine (shown_any _).mono ?_); rintro e w1 ⟨rfl, hb⟩; have HV1 := Lib.hid (HBX.out.up hb); clear hb; obtain ⟨x0, x1, x2, x3, x4⟩ := box5 HV1.out.i0))
  obtain ⟨n, hn0⟩ : ∃ n : Nat, keys c l = (n : Int) := ⟨(keys c l).toNat, by have := exact_len HXL.out; omega⟩
  have hn1 : 1 ≤ n := by have := exact_len HXL.out; omega
  have hn8 : n ≤ 128 := by have := exact_len HXL.out; omega
  have hlb := (keys_pos.1 (exact_len HXL.out).1).2
  have hbt := (keys_pos.1 (exact_len HXL.out).1).1.2.1
  have CN := Lib.hid (fun w => enew_yes c l w HCO.out (by omega) (by omega) HXL.out)
  have CK := Lib.hid (fun w => rkeys_any c l w HCO.out (by omega) (by omega))
  have DN := Lib.hid (fun w => anew_any c l n w HCO.out hn8)
  rw [hn0, Int.toNat_natCast] at CN
  rw [hn0] at CK
  clear hn0 hlb hbt CA CT
  go_upto_region 6 with (first
    | (go_at_call 11; (with_reducible refine (CN.out _).mono ?_); rintro e w5 ⟨o, G0, rfl, h1, h2, hb⟩; have HV5 := Lib.hid (HV4.out.push (exT o G0 c l (List.replicate n 0)) hb h1 h2); clear h1 h2 hb; clear c0 c1 c2 c3 c4 x0 x1 x2 x3 x4; obtain ⟨c0, c1, c2, c3, c4⟩ := box5 HV5.out.i2; obtain ⟨x0, x1, x2, x3, x4⟩ := box5 HV5.out.i3)
    | (go_at_call 11; (with_reducible refine (CN.out _).mono ?_); rintro e w4 ⟨p, F0, rfl, h1, h2, hb⟩; have HV4 := Lib.hid (HV3.out.push (exT p F0 c l (List.replicate n 0)) hb h1 h2); clear h1 h2 hb; clear c0 c1 c2 c3 c4 x0 x1 x2 x3 x4; obtain ⟨c0, c1, c2, c3, c4⟩ := box5 HV4.out.i1; obtain ⟨x0, x1, x2, x3, x4⟩ := box5 HV4.out.i2))
  obtain ⟨gc, hgc⟩ : ∃ gc, w2.heap.size = gc := ⟨_, rfl⟩
  rw [hgc] at HV5 ⊢
  rw [hgc] at c0 c1 c2 c3 c4
  clear HV4 HV3 HV2 HV1 x0 x1 x2 x3 x4 hgc
  go_region_held3 (fun w' => w'.cell? ⟨gc, 0, none⟩ = some (.int .i64 c.bt) ∧ w'.cell? ⟨gc, 1, none⟩ = some (.int .i64 c.rw) ∧ w'.cell? ⟨gc, 2, none⟩ = some (.int .i64 c.wd) ∧ w'.cell? ⟨gc, 3, none⟩ = some (.int .i64 c.md) ∧ w'.cell? ⟨gc, 4, none⟩ = some (.int .u64 c.sd)) (first | (refine ⟨?_, ?_, ?_, ?_, ?_⟩ <;> (first | (with_reducible assumption) | (with_reducible refine cell_up c0 ?_) | (with_reducible refine cell_up c1 ?_) | (with_reducible refine cell_up c2 ?_) | (with_reducible refine cell_up c3 ?_) | (with_reducible refine cell_up c4 ?_)) <;> (repeat' (first | (with_reducible exact Below.refl _ _) | (with_reducible assumption) | (with_reducible refine below_over ?_ _ _) | (with_reducible refine Lw.below_alloc ?_ _) | (with_reducible refine Below.drew ?_) | (with_reducible refine below_drewN ?_ _) | (with_reducible refine Below.setCell ?_ ?_ _) | go_size)))) (first
    | (go_at_call 13; (with_reducible refine (CK.out _).mono ?_); rintro e w' ⟨rfl, hb⟩; obtain ⟨bs6, dd6, rfl⟩ := below_grow hb; clear hb)
    | (go_at_call 12; (with_reducible refine (DN.out _).mono ?_); rintro e w6 ⟨r, R0, rfl, h1, h2, hb⟩; have HV6 := Lib.hid ((HV5.out.up (by repeat' (first | (with_reducible exact Below.refl _ _) | (with_reducible assumption) | (with_reducible refine below_over ?_ _ _) | (with_reducible refine Lw.below_alloc ?_ _) | (with_reducible refine Below.drew ?_) | (with_reducible refine below_drewN ?_ _) | (with_reducible refine Below.setCell ?_ ?_ _) | go_size))).push (daT r R0 c l (List.replicate n 0)) hb h1 h2); clear h1 h2 hb; clear c0 c1 c2 c3 c4; obtain ⟨c0, c1, c2, c3, c4⟩ := box5 HV6.out.i3))
  go_upto_region 7 with fail
  go_region_held3 (fun w' => w'.cell? ⟨gc, 0, none⟩ = some (.int .i64 c.bt) ∧ w'.cell? ⟨gc, 1, none⟩ = some (.int .i64 c.rw) ∧ w'.cell? ⟨gc, 2, none⟩ = some (.int .i64 c.wd) ∧ w'.cell? ⟨gc, 3, none⟩ = some (.int .i64 c.md) ∧ w'.cell? ⟨gc, 4, none⟩ = some (.int .u64 c.sd)) (first | (refine ⟨?_, ?_, ?_, ?_, ?_⟩ <;> (first | (with_reducible assumption) | (with_reducible refine cell_up c0 ?_) | (with_reducible refine cell_up c1 ?_) | (with_reducible refine cell_up c2 ?_) | (with_reducible refine cell_up c3 ?_) | (with_reducible refine cell_up c4 ?_)) <;> (repeat' (first | (with_reducible exact Below.refl _ _) | (with_reducible assumption) | (with_reducible refine below_over ?_ _ _) | (with_reducible refine Lw.below_alloc ?_ _) | (with_reducible refine Below.drew ?_) | (with_reducible refine below_drewN ?_ _) | (with_reducible refine Below.setCell ?_ ?_ _) | go_size)))) (first
    | (go_at_call 13; (with_reducible refine (CK.out _).mono ?_); rintro e w' ⟨rfl, hb⟩; obtain ⟨bs7, dd7, rfl⟩ := below_grow hb; clear hb)
    | (go_at_call 12; (with_reducible refine (DN.out _).mono ?_); rintro e w7 ⟨q, Q0, rfl, h1, h2, hb⟩; have HV7 := Lib.hid ((HV6.out.up (by repeat' (first | (with_reducible exact Below.refl _ _) | (with_reducible assumption) | (with_reducible refine below_over ?_ _ _) | (with_reducible refine Lw.below_alloc ?_ _) | (with_reducible refine Below.drew ?_) | (with_reducible refine below_drewN ?_ _) | (with_reducible refine Below.setCell ?_ ?_ _) | go_size))).push (daT q Q0 c l (List.replicate n 0)) hb h1 h2); clear h1 h2 hb; clear c0 c1 c2 c3 c4; obtain ⟨c0, c1, c2, c3, c4⟩ := box5 HV7.out.i4))
  go_upto_region 11 with fail
  have HVS : Hid (Have w w7 [daT r R0 c l (List.replicate n 0), exT p F0 c l (List.replicate n 0), daT q Q0 c l (List.replicate n 0), exT o G0 c l (List.replicate n 0), boxT gc 24 #[.int .i64 c.bt, .int .i64 c.rw, .int .i64 c.wd, .int .i64 c.md, .int .u64 c.sd], boxT w.heap.size 24 #[.int .i64 x.bt, .int .i64 x.rw, .int .i64 x.wd, .int .i64 x.md, .int .u64 x.sd]]) := Lib.hid (Have.perm (plays_perm _ _ _ _ _ _) HV7.out)
  clear HV7 HV6 HV5 c0 c1 c2 c3 c4
  go_loopw [9, 11, 13, 14, 15] (fun sv ov rv qv iv wr => ∃ (k : Nat) (r : Addr) (R : Nat → Prop) (p : Addr) (F : Nat → Prop) (L : List Int) (q : Addr) (Q : Nat → Prop) (o : Addr) (G : Nat → Prop) (M : List Int), k ≤ n0 ∧ k ≤ 60 ∧ sv = .pointer (some p) ∧ ov = .pointer (some o) ∧ rv = .pointer (some r) ∧ qv = .pointer (some q) ∧ iv = .int .i64 k ∧ Have w wr [daT r R c l L, exT p F c l L, daT q Q c l M, exT o G c l M, boxT gc 24 #[.int .i64 c.bt, .int .i64 c.rw, .int .i64 c.wd, .int .i64 c.md, .int .u64 c.sd], boxT w.heap.size 24 #[.int .i64 x.bt, .int .i64 x.rw, .int .i64 x.wd, .int .i64 x.md, .int .u64 x.sd]]) (fun _ _ _ _ iv _ => n0 - (intOf iv).toNat)
  case atStart => exact ⟨0, r, R0, p, F0, _, q, Q0, o, G0, _, Nat.zero_le _, Nat.zero_le _, rfl, rfl, rfl, rfl, rfl, HVS.out.up (by repeat' (first | (with_reducible exact Below.refl _ _) | (with_reducible assumption) | (with_reducible refine below_over ?_ _ _) | (with_reducible refine Lw.below_alloc ?_ _) | (with_reducible refine Below.drew ?_) | (with_reducible refine below_drewN ?_ _) | (with_reducible refine Below.setCell ?_ ?_ _) | go_size))⟩
  case round =>
    clear HVS
    obtain ⟨k, r, R, p, F, L, q, Q, o, G, M, hk1, hk2, rfl, rfl, rfl, rfl, rfl, hv⟩ := hrel
    have HVr := Lib.hid hv
    have hwb := hv.below
    clear hv
    have HLM : Hid (L.length = M.length) := Lib.hid (by
      have h1 := (exI HVr.out.i1).size.1
      have h2 := (exI HVr.out.i3).size.1
      omega)
    by_cases hlt : k < n0 ∧ k < 60
    · obtain ⟨hj1, hj2⟩ := hlt
      obtain ⟨u, hu1⟩ : ∃ u, qs[k]? = some u := ⟨_, List.getElem?_eq_getElem (by rw [HLQ.out]; omega)⟩
      obtain ⟨a, g, o3, rfl, hadd, d1w, d2w, d3w, kb, db⟩ := HQ.out.at hu1
      obtain ⟨kd, key, d⟩ := u
      simp only at d1w d2w d3w kb db
      have d1 := cell_up d1w hwb
      have d2 := cell_up d2w hwb
      have d3 := cell_up d3w hwb
      have HD1 := Lib.hid d1w
      have HD2 := Lib.hid d2w
      have HD3 := Lib.hid d3w
      have hk1' : k + 1 ≤ n0 := hj1
      have hk2' : k + 1 ≤ 60 := hj2
      have hkn : (k : Int) < n0 := by omega
      have hk50 : (k : Int) < 60 := by omega
      clear hu1 d1w d2w d3w hwb
      by_cases hkd1 : kd = 1
      · have hkd := hkd1
        clear hkd1
        as_aux_lemma =>
          have hk1 : (kd == 1) = true := by simp [hkd]
          have hk2 : (kd == 2) = false := by simp [hkd]
          have hk3 : (kd == 3) = false := by simp [hkd]
          have hk4 : (kd == 4) = false := by simp [hkd]
          have hk5 : (kd == 5) = false := by simp [hkd]
          have hk6 : (kd == 6) = false := by simp [hkd]
          clear hkd
          go_upto_region 21 with (first
            | (go_at_call 14; (with_reducible refine (epoint_any p F c l L key _ (exI HVr.out.i1) kb.1 kb.2).mono ?_); rintro e w1 ⟨rfl, hb⟩; have HV1 := Lib.hid (HVr.out.up hb); clear hb; clear d1 d2 d3; have d1 := cell_up HD1.out HV1.out.below; have d2 := cell_up HD2.out HV1.out.below; have d3 := cell_up HD3.out HV1.out.below)
            | (go_at_call 15; (with_reducible refine (apoint_any r R c l L key _ (daI HV1.out.i0) kb.1 kb.2).mono ?_); rintro e w2 ⟨rfl, hb⟩; have HV2 := Lib.hid (HV1.out.up hb); clear hb; clear d1 d2 d3; have d1 := cell_up HD1.out HV2.out.below; have d2 := cell_up HD2.out HV2.out.below; have d3 := cell_up HD3.out HV2.out.below))
          go_region_held3 (fun w' => w'.cell? ⟨g, o3, none⟩ = some (.int .i64 kd) ∧ w'.cell? ⟨g, o3 + 1, none⟩ = some (.int .u64 key) ∧ w'.cell? ⟨g, o3 + 2, none⟩ = some (.int .i64 d)) (first | (refine ⟨?_, ?_, ?_⟩ <;> (first | (with_reducible assumption) | (with_reducible refine cell_up d1 ?_) | (with_reducible refine cell_up d2 ?_) | (with_reducible refine cell_up d3 ?_)) <;> (repeat' (first | (with_reducible exact Below.refl _ _) | (with_reducible assumption) | (with_reducible refine below_over ?_ _ _) | (with_reducible refine Lw.below_alloc ?_ _) | (with_reducible refine Below.drew ?_) | (with_reducible refine below_drewN ?_ _) | (with_reducible refine Below.setCell ?_ ?_ _) | go_size)))) (first
            | (go_at_call 16; (with_reducible refine (echeck_any p F c l L key d _ (exI (HV2.out.up (by repeat' (first | (with_reducible exact Below.refl _ _) | (with_reducible assumption) | (with_reducible refine below_over ?_ _ _) | (with_reducible refine Lw.below_alloc ?_ _) | (with_reducible refine Below.drew ?_) | (with_reducible refine below_drewN ?_ _) | (with_reducible refine Below.setCell ?_ ?_ _) | go_size))).i1) kb.1 kb.2 db.1 db.2).mono ?_); rintro e w3 ⟨rfl, hb⟩; have HV3 := Lib.hid ((HV2.out.up (by repeat' (first | (with_reducible exact Below.refl _ _) | (with_reducible assumption) | (with_reducible refine below_over ?_ _ _) | (with_reducible refine Lw.below_alloc ?_ _) | (with_reducible refine Below.drew ?_) | (with_reducible refine below_drewN ?_ _) | (with_reducible refine Below.setCell ?_ ?_ _) | go_size))).up hb); clear hb; clear d1 d2 d3; have d1 := cell_up HD1.out HV3.out.below; have d2 := cell_up HD2.out HV3.out.below; have d3 := cell_up HD3.out HV3.out.below))
          go_upto_region 22 with fail
          go_region_held3 (fun w' => w'.cell? ⟨g, o3, none⟩ = some (.int .i64 kd) ∧ w'.cell? ⟨g, o3 + 1, none⟩ = some (.int .u64 key) ∧ w'.cell? ⟨g, o3 + 2, none⟩ = some (.int .i64 d)) (first | (refine ⟨?_, ?_, ?_⟩ <;> (first | (with_reducible assumption) | (with_reducible refine cell_up d1 ?_) | (with_reducible refine cell_up d2 ?_) | (with_reducible refine cell_up d3 ?_)) <;> (repeat' (first | (with_reducible exact Below.refl _ _) | (with_reducible assumption) | (with_reducible refine below_over ?_ _ _) | (with_reducible refine Lw.below_alloc ?_ _) | (with_reducible refine Below.drew ?_) | (with_reducible refine below_drewN ?_ _) | (with_reducible refine Below.setCell ?_ ?_ _) | go_size)))) (first
            | (go_at_call 17; (with_reducible refine (acopy_any r R c l L _ (daI (HV3.out.up (by repeat' (first | (with_reducible exact Below.refl _ _) | (with_reducible assumption) | (with_reducible refine below_over ?_ _ _) | (with_reducible refine Lw.below_alloc ?_ _) | (with_reducible refine Below.drew ?_) | (with_reducible refine below_drewN ?_ _) | (with_reducible refine Below.setCell ?_ ?_ _) | go_size))).i0)).mono ?_); rintro e w4 ⟨z, Z, rfl, h1, h2, hb⟩; have HV4 := Lib.hid ((HV3.out.up (by repeat' (first | (with_reducible exact Below.refl _ _) | (with_reducible assumption) | (with_reducible refine below_over ?_ _ _) | (with_reducible refine Lw.below_alloc ?_ _) | (with_reducible refine Below.drew ?_) | (with_reducible refine below_drewN ?_ _) | (with_reducible refine Below.setCell ?_ ?_ _) | go_size))).push (daT z Z c l L) hb h1 h2); clear h1 h2 hb; clear d1 d2 d3; have d1 := cell_up HD1.out HV4.out.below; have d2 := cell_up HD2.out HV4.out.below; have d3 := cell_up HD3.out HV4.out.below)
            | (go_at_call 18; (with_reducible refine (aupd_any z Z c l L key d _ (daI (HV4.out.up (by repeat' (first | (with_reducible exact Below.refl _ _) | (with_reducible assumption) | (with_reducible refine below_over ?_ _ _) | (with_reducible refine Lw.below_alloc ?_ _) | (with_reducible refine Below.drew ?_) | (with_reducible refine below_drewN ?_ _) | (with_reducible refine Below.setCell ?_ ?_ _) | go_size))).i0) kb.1 kb.2 db.1 db.2).mono ?_); rintro e w5 ⟨rfl, Z5, h1, h2, h3⟩; have HV5 := Lib.hid ((HV4.out.up (by repeat' (first | (with_reducible exact Below.refl _ _) | (with_reducible assumption) | (with_reducible refine below_over ?_ _ _) | (with_reducible refine Lw.below_alloc ?_ _) | (with_reducible refine Below.drew ?_) | (with_reducible refine below_drewN ?_ _) | (with_reducible refine Below.setCell ?_ ?_ _) | go_size))).turn_0 (daT z Z5 c l (exRes c.md L key d)) h1 h2 h3); clear h1 h2 h3; clear d1 d2 d3; have d1 := cell_up HD1.out HV5.out.below; have d2 := cell_up HD2.out HV5.out.below; have d3 := cell_up HD3.out HV5.out.below))
          go_upto_region 48 with fail
          clear d1 d2 d3
          have HVE := Lib.hid (HV5.out.drop_0)
          obtain ⟨br, gr, capr, erq, hcr, hmr⟩ := DA.ptr (daI HVE.out.i0)
          obtain ⟨bq, gq, capq, eqq, hcq, hmq⟩ := DA.ptr (daI HVE.out.i2)
          subst erq eqq
          have HMR := Lib.hid hmr.rd
          have HMQ := Lib.hid hmq.rd
          have hz1 := (exI HVE.out.i1).size.2.2
          have hz2 := (exI HVE.out.i3).size.2.2
          clear hmr hmq
          go_region_held3 (fun w' => w'.cell? ⟨br, 6, none⟩ = some (.slice (some ⟨gr, 0, none⟩) L.length capr) ∧ w'.cell? ⟨bq, 6, none⟩ = some (.slice (some ⟨gq, 0, none⟩) M.length capq)) (first | (refine ⟨?_, ?_⟩ <;> (first | (with_reducible assumption) | (with_reducible refine cell_up hcr ?_) | (with_reducible refine cell_up hcq ?_)) <;> (repeat' (first | (with_reducible exact Below.refl _ _) | (with_reducible assumption) | (with_reducible refine below_over ?_ _ _) | (with_reducible refine Lw.below_alloc ?_ _) | (with_reducible refine Below.drew ?_) | (with_reducible refine below_drewN ?_ _) | (with_reducible refine Below.setCell ?_ ?_ _) | go_size)))) (first
            | (go_at_call_of 24 (Value.pointer (some p)); (with_reducible refine (ecells_mid p F c l L _ (exI (HVE.out.up (by repeat' (first | (with_reducible exact Below.refl _ _) | (with_reducible assumption) | (with_reducible refine below_over ?_ _ _) | (with_reducible refine Lw.below_alloc ?_ _) | (with_reducible refine Below.drew ?_) | (with_reducible refine below_drewN ?_ _) | (with_reducible refine Below.setCell ?_ ?_ _) | go_size))).i1)).mono ?_); rintro e u1 ⟨g1, cap1, rfl, hm1, hg1, hc1, hc2, hb1⟩; have hbA : Below w5.heap.size w5 u1 := below_call (show Below w5.heap.size w5 _ from (by repeat' (first | (with_reducible exact Below.refl _ _) | (with_reducible assumption) | (with_reducible refine below_over ?_ _ _) | (with_reducible refine Lw.below_alloc ?_ _) | (with_reducible refine Below.drew ?_) | (with_reducible refine below_drewN ?_ _) | (with_reducible refine Below.setCell ?_ ?_ _) | go_size))) hb1 (Nat.le_refl _); have RD1 := Lib.hid hm1.rd; clear hm1 hg1 hb1)
            | (go_at_call 26; (with_reducible refine (rsame_any _ _ _ _ _ _ L L _ (RD1.out.up (by repeat' (first | (with_reducible exact Below.refl _ _) | (with_reducible assumption) | (with_reducible refine below_over ?_ _ _) | (with_reducible refine Lw.below_alloc ?_ _) | (with_reducible refine Below.drew ?_) | (with_reducible refine below_drewN ?_ _) | (with_reducible refine Below.setCell ?_ ?_ _) | go_size))) (HMR.out.up (by repeat' (first | (with_reducible exact Below.refl _ _) | (with_reducible assumption) | (with_reducible refine below_over ?_ _ _) | (with_reducible refine Lw.below_alloc ?_ _) | (with_reducible refine Below.drew ?_) | (with_reducible refine below_drewN ?_ _) | (with_reducible refine Below.setCell ?_ ?_ _) | go_size))) rfl rfl (by omega) (by omega)).mono ?_); rintro e u3 ⟨rfl, hb⟩; have hbC : Below w5.heap.size w5 u3 := below_call (show Below w5.heap.size w5 _ from (by repeat' (first | (with_reducible exact Below.refl _ _) | (with_reducible assumption) | (with_reducible refine below_over ?_ _ _) | (with_reducible refine Lw.below_alloc ?_ _) | (with_reducible refine Below.drew ?_) | (with_reducible refine below_drewN ?_ _) | (with_reducible refine Below.setCell ?_ ?_ _) | go_size))) hb (Nat.le_refl _); clear hb)
            | (go_at_call_of 24 (Value.pointer (some o)); (with_reducible refine (ecells_mid o G c l M _ (exI (HVE.out.up (by repeat' (first | (with_reducible exact Below.refl _ _) | (with_reducible assumption) | (with_reducible refine below_over ?_ _ _) | (with_reducible refine Lw.below_alloc ?_ _) | (with_reducible refine Below.drew ?_) | (with_reducible refine below_drewN ?_ _) | (with_reducible refine Below.setCell ?_ ?_ _) | go_size))).i3)).mono ?_); rintro e u4 ⟨g4, cap4, rfl, hm4, hg4, hc5, hc6, hb4⟩; have hbD : Below w5.heap.size w5 u4 := below_call (show Below w5.heap.size w5 _ from (by repeat' (first | (with_reducible exact Below.refl _ _) | (with_reducible assumption) | (with_reducible refine below_over ?_ _ _) | (with_reducible refine Lw.below_alloc ?_ _) | (with_reducible refine Below.drew ?_) | (with_reducible refine below_drewN ?_ _) | (with_reducible refine Below.setCell ?_ ?_ _) | go_size))) hb4 (Nat.le_refl _); have RD4 := Lib.hid hm4.rd; clear hm4 hg4 hb4)
            | (go_at_call 26; (with_reducible refine (rsame_any _ _ _ _ _ _ M M _ (RD4.out.up (by repeat' (first | (with_reducible exact Below.refl _ _) | (with_reducible assumption) | (with_reducible refine below_over ?_ _ _) | (with_reducible refine Lw.below_alloc ?_ _) | (with_reducible refine Below.drew ?_) | (with_reducible refine below_drewN ?_ _) | (with_reducible refine Below.setCell ?_ ?_ _) | go_size))) (HMQ.out.up (by repeat' (first | (with_reducible exact Below.refl _ _) | (with_reducible assumption) | (with_reducible refine below_over ?_ _ _) | (with_reducible refine Lw.below_alloc ?_ _) | (with_reducible refine Below.drew ?_) | (with_reducible refine below_drewN ?_ _) | (with_reducible refine Below.setCell ?_ ?_ _) | go_size))) rfl rfl (by omega) (by omega)).mono ?_); rintro e u6 ⟨rfl, hb⟩; have hbG : Below w5.heap.size w5 u6 := below_call (show Below w5.heap.size w5 _ from (by repeat' (first | (with_reducible exact Below.refl _ _) | (with_reducible assumption) | (with_reducible refine below_over ?_ _ _) | (with_reducible refine Lw.below_alloc ?_ _) | (with_reducible refine Below.drew ?_) | (with_reducible refine below_drewN ?_ _) | (with_reducible refine Below.setCell ?_ ?_ _) | go_size))) hb (Nat.le_refl _); clear hb))
          all_goals go_wp2
          all_goals go_roundw
          all_goals first
            | exact ⟨k + 1, _, _, _, _, _, _, _, _, _, _, hk1', hk2', rfl, rfl, rfl, rfl, by go_num, HVE.out.up (by repeat' (first | (with_reducible exact Below.refl _ _) | (with_reducible assumption) | (with_reducible refine below_over ?_ _ _) | (with_reducible refine Lw.below_alloc ?_ _) | (with_reducible refine Below.drew ?_) | (with_reducible refine below_drewN ?_ _) | (with_reducible refine Below.setCell ?_ ?_ _) | go_size))⟩
            | (simp [intOf]; omega)
      by_cases hkd2 : kd = 2
      · have hkd := hkd2
        clear hkd2
        as_aux_lemma =>
          have hk1 : (kd == 1) = false := by simp [hkd]
          have hk2 : (kd == 2) = true := by simp [hkd]
          have hk3 : (kd == 3) = false := by simp [hkd]
          have hk4 : (kd == 4) = false := by simp [hkd]
          have hk5 : (kd == 5) = false := by simp [hkd]
          have hk6 : (kd == 6) = false := by simp [hkd]
          clear hkd
          obtain ⟨E, hE⟩ : ∃ E, exJ 1 L M = E := ⟨_, rfl⟩
          obtain ⟨J, hJ⟩ : ∃ J, exM 1 L M = J := ⟨_, rfl⟩
          have CM := Lib.hid (fun w h g => emerge_yes p F c l L o G M w h g)
          have CJ := Lib.hid (fun w h g => ajoin_plus r q R Q c l L M w h g HLM.out)
          rw [hE, hJ] at CJ CM
          clear hE hJ
          go_upto_region 48 with (first
            | (go_at_call 19; (with_reducible refine (CM.out _ (exI HVr.out.i1) (exI HVr.out.i3)).mono ?_); rintro e w1 ⟨rfl, F1, h1, h2, h3⟩; have HV1 := Lib.hid (HVr.out.turn_1 (exT p F1 c l J) h1 h2 h3); clear h1 h2 h3)
            | (go_at_call 20; (with_reducible refine (CJ.out _ (daI HV1.out.i0) (daI HV1.out.i2)).mono ?_); rintro e w2 ⟨rfl, R1, h1, h2, h3⟩; have HV2 := Lib.hid (HV1.out.turn_0 (daT r R1 c l J) h1 h2 h3); clear h1 h2 h3))
          clear d1 d2 d3
          have HVE := Lib.hid (HV2.out)
          obtain ⟨br, gr, capr, erq, hcr, hmr⟩ := DA.ptr (daI HVE.out.i0)
          obtain ⟨bq, gq, capq, eqq, hcq, hmq⟩ := DA.ptr (daI HVE.out.i2)
          subst erq eqq
          have HMR := Lib.hid hmr.rd
          have HMQ := Lib.hid hmq.rd
          have hz1 := (exI HVE.out.i1).size.2.2
          have hz2 := (exI HVE.out.i3).size.2.2
          clear hmr hmq
          go_region_held3 (fun w' => w'.cell? ⟨br, 6, none⟩ = some (.slice (some ⟨gr, 0, none⟩) J.length capr) ∧ w'.cell? ⟨bq, 6, none⟩ = some (.slice (some ⟨gq, 0, none⟩) M.length capq)) (first | (refine ⟨?_, ?_⟩ <;> (first | (with_reducible assumption) | (with_reducible refine cell_up hcr ?_) | (with_reducible refine cell_up hcq ?_)) <;> (repeat' (first | (with_reducible exact Below.refl _ _) | (with_reducible assumption) | (with_reducible refine below_over ?_ _ _) | (with_reducible refine Lw.below_alloc ?_ _) | (with_reducible refine Below.drew ?_) | (with_reducible refine below_drewN ?_ _) | (with_reducible refine Below.setCell ?_ ?_ _) | go_size)))) (first
            | (go_at_call_of 24 (Value.pointer (some p)); (with_reducible refine (ecells_mid p F1 c l J _ (exI (HVE.out.up (by repeat' (first | (with_reducible exact Below.refl _ _) | (with_reducible assumption) | (with_reducible refine below_over ?_ _ _) | (with_reducible refine Lw.below_alloc ?_ _) | (with_reducible refine Below.drew ?_) | (with_reducible refine below_drewN ?_ _) | (with_reducible refine Below.setCell ?_ ?_ _) | go_size))).i1)).mono ?_); rintro e u1 ⟨g1, cap1, rfl, hm1, hg1, hc1, hc2, hb1⟩; have hbA : Below w2.heap.size w2 u1 := below_call (show Below w2.heap.size w2 _ from (by repeat' (first | (with_reducible exact Below.refl _ _) | (with_reducible assumption) | (with_reducible refine below_over ?_ _ _) | (with_reducible refine Lw.below_alloc ?_ _) | (with_reducible refine Below.drew ?_) | (with_reducible refine below_drewN ?_ _) | (with_reducible refine Below.setCell ?_ ?_ _) | go_size))) hb1 (Nat.le_refl _); have RD1 := Lib.hid hm1.rd; clear hm1 hg1 hb1)
            | (go_at_call 26; (with_reducible refine (rsame_any _ _ _ _ _ _ J J _ (RD1.out.up (by repeat' (first | (with_reducible exact Below.refl _ _) | (with_reducible assumption) | (with_reducible refine below_over ?_ _ _) | (with_reducible refine Lw.below_alloc ?_ _) | (with_reducible refine Below.drew ?_) | (with_reducible refine below_drewN ?_ _) | (with_reducible refine Below.setCell ?_ ?_ _) | go_size))) (HMR.out.up (by repeat' (first | (with_reducible exact Below.refl _ _) | (with_reducible assumption) | (with_reducible refine below_over ?_ _ _) | (with_reducible refine Lw.below_alloc ?_ _) | (with_reducible refine Below.drew ?_) | (with_reducible refine below_drewN ?_ _) | (with_reducible refine Below.setCell ?_ ?_ _) | go_size))) rfl rfl (by omega) (by omega)).mono ?_); rintro e u3 ⟨rfl, hb⟩; have hbC : Below w2.heap.size w2 u3 := below_call (show Below w2.heap.size w2 _ from (by repeat' (first | (with_reducible exact Below.refl _ _) | (with_reducible assumption) | (with_reducible refine below_over ?_ _ _) | (with_reducible refine Lw.below_alloc ?_ _) | (with_reducible refine Below.drew ?_) | (with_reducible refine below_drewN ?_ _) | (with_reducible refine Below.setCell ?_ ?_ _) | go_size))) hb (Nat.le_refl _); clear hb)
            | (go_at_call_of 24 (Value.pointer (some o)); (with_reducible refine (ecells_mid o G c l M _ (exI (HVE.out.up (by repeat' (first | (with_reducible exact Below.refl _ _) | (with_reducible assumption) | (with_reducible refine below_over ?_ _ _) | (with_reducible refine Lw.below_alloc ?_ _) | (with_reducible refine Below.drew ?_) | (with_reducible refine below_drewN ?_ _) | (with_reducible refine Below.setCell ?_ ?_ _) | go_size))).i3)).mono ?_); rintro e u4 ⟨g4, cap4, rfl, hm4, hg4, hc5, hc6, hb4⟩; have hbD : Below w2.heap.size w2 u4 := below_call (show Below w2.heap.size w2 _ from (by repeat' (first | (with_reducible exact Below.refl _ _) | (with_reducible assumption) | (with_reducible refine below_over ?_ _ _) | (with_reducible refine Lw.below_alloc ?_ _) | (with_reducible refine Below.drew ?_) | (with_reducible refine below_drewN ?_ _) | (with_reducible refine Below.setCell ?_ ?_ _) | go_size))) hb4 (Nat.le_refl _); have RD4 := Lib.hid hm4.rd; clear hm4 hg4 hb4)
            | (go_at_call 26; (with_reducible refine (rsame_any _ _ _ _ _ _ M M _ (RD4.out.up (by repeat' (first | (with_reducible exact Below.refl _ _) | (with_reducible assumption) | (with_reducible refine below_over ?_ _ _) | (with_reducible refine Lw.below_alloc ?_ _) | (with_reducible refine Below.drew ?_) | (with_reducible refine below_drewN ?_ _) | (with_reducible refine Below.setCell ?_ ?_ _) | go_size))) (HMQ.out.up (by repeat' (first | (with_reducible exact Below.refl _ _) | (with_reducible assumption) | (with_reducible refine below_over ?_ _ _) | (with_reducible refine Lw.below_alloc ?_ _) | (with_reducible refine Below.drew ?_) | (with_reducible refine below_drewN ?_ _) | (with_reducible refine Below.setCell ?_ ?_ _) | go_size))) rfl rfl (by omega) (by omega)).mono ?_); rintro e u6 ⟨rfl, hb⟩; have hbG : Below w2.heap.size w2 u6 := below_call (show Below w2.heap.size w2 _ from (by repeat' (first | (with_reducible exact Below.refl _ _) | (with_reducible assumption) | (with_reducible refine below_over ?_ _ _) | (with_reducible refine Lw.below_alloc ?_ _) | (with_reducible refine Below.drew ?_) | (with_reducible refine below_drewN ?_ _) | (with_reducible refine Below.setCell ?_ ?_ _) | go_size))) hb (Nat.le_refl _); clear hb))
          all_goals go_wp2
          all_goals go_roundw
          all_goals first
            | exact ⟨k + 1, _, _, _, _, _, _, _, _, _, _, hk1', hk2', rfl, rfl, rfl, rfl, by go_num, HVE.out.up (by repeat' (first | (with_reducible exact Below.refl _ _) | (with_reducible assumption) | (with_reducible refine below_over ?_ _ _) | (with_reducible refine Lw.below_alloc ?_ _) | (with_reducible refine Below.drew ?_) | (with_reducible refine below_drewN ?_ _) | (with_reducible refine Below.setCell ?_ ?_ _) | go_size))⟩
            | (simp [intOf]; omega)
      by_cases hkd3 : kd = 3
      · have hkd := hkd3
        clear hkd3
        as_aux_lemma =>
          have hk1 : (kd == 1) = false := by simp [hkd]
          have hk2 : (kd == 2) = false := by simp [hkd]
          have hk3 : (kd == 3) = true := by simp [hkd]
          have hk4 : (kd == 4) = false := by simp [hkd]
          have hk5 : (kd == 5) = false := by simp [hkd]
          have hk6 : (kd == 6) = false := by simp [hkd]
          clear hkd
          by_cases hm2 : c.md = 2
          · have CM := Lib.hid (fun w h g => esub_con p F c l L o G M w h g hm2)
            have CJ := Lib.hid (fun w h g => ajoin_con r q R Q c l L M w h g hm2)
            clear hm2
            go_upto_region 48 with (first
              | (go_at_call 21; (with_reducible refine (CM.out _ (exI HVr.out.i1) (exI HVr.out.i3)).mono ?_); rintro e w1 ⟨rfl, hb⟩; have HV1 := Lib.hid (HVr.out.up hb); clear hb)
              | (go_at_call 20; (with_reducible refine (CJ.out _ (daI HV1.out.i0) (daI HV1.out.i2)).mono ?_); rintro e w2 ⟨rfl, hb⟩; have HV2 := Lib.hid (HV1.out.up hb); clear hb))
            clear d1 d2 d3
            have HVE := Lib.hid (HV2.out)
            obtain ⟨br, gr, capr, erq, hcr, hmr⟩ := DA.ptr (daI HVE.out.i0)
            obtain ⟨bq, gq, capq, eqq, hcq, hmq⟩ := DA.ptr (daI HVE.out.i2)
            subst erq eqq
            have HMR := Lib.hid hmr.rd
            have HMQ := Lib.hid hmq.rd
            have hz1 := (exI HVE.out.i1).size.2.2
            have hz2 := (exI HVE.out.i3).size.2.2
            clear hmr hmq
            go_region_held3 (fun w' => w'.cell? ⟨br, 6, none⟩ = some (.slice (some ⟨gr, 0, none⟩) L.length capr) ∧ w'.cell? ⟨bq, 6, none⟩ = some (.slice (some ⟨gq, 0, none⟩) M.length capq)) (first | (refine ⟨?_, ?_⟩ <;> (first | (with_reducible assumption) | (with_reducible refine cell_up hcr ?_) | (with_reducible refine cell_up hcq ?_)) <;> (repeat' (first | (with_reducible exact Below.refl _ _) | (with_reducible assumption) | (with_reducible refine below_over ?_ _ _) | (with_reducible refine Lw.below_alloc ?_ _) | (with_reducible refine Below.drew ?_) | (with_reducible refine below_drewN ?_ _) | (with_reducible refine Below.setCell ?_ ?_ _) | go_size)))) (first
              | (go_at_call_of 24 (Value.pointer (some p)); (with_reducible refine (ecells_mid p F c l L _ (exI (HVE.out.up (by repeat' (first | (with_reducible exact Below.refl _ _) | (with_reducible assumption) | (with_reducible refine below_over ?_ _ _) | (with_reducible refine Lw.below_alloc ?_ _) | (with_reducible refine Below.drew ?_) | (with_reducible refine below_drewN ?_ _) | (with_reducible refine Below.setCell ?_ ?_ _) | go_size))).i1)).mono ?_); rintro e u1 ⟨g1, cap1, rfl, hm1, hg1, hc1, hc2, hb1⟩; have hbA : Below w2.heap.size w2 u1 := below_call (show Below w2.heap.size w2 _ from (by repeat' (first | (with_reducible exact Below.refl _ _) | (with_reducible assumption) | (with_reducible refine below_over ?_ _ _) | (with_reducible refine Lw.below_alloc ?_ _) | (with_reducible refine Below.drew ?_) | (with_reducible refine below_drewN ?_ _) | (with_reducible refine Below.setCell ?_ ?_ _) | go_size))) hb1 (Nat.le_refl _); have RD1 := Lib.hid hm1.rd; clear hm1 hg1 hb1)
              | (go_at_call 26; (with_reducible refine (rsame_any _ _ _ _ _ _ L L _ (RD1.out.up (by repeat' (first | (with_reducible exact Below.refl _ _) | (with_reducible assumption) | (with_reducible refine below_over ?_ _ _) | (with_reducible refine Lw.below_alloc ?_ _) | (with_reducible refine Below.drew ?_) | (with_reducible refine below_drewN ?_ _) | (with_reducible refine Below.setCell ?_ ?_ _) | go_size))) (HMR.out.up (by repeat' (first | (with_reducible exact Below.refl _ _) | (with_reducible assumption) | (with_reducible refine below_over ?_ _ _) | (with_reducible refine Lw.below_alloc ?_ _) | (with_reducible refine Below.drew ?_) | (with_reducible refine below_drewN ?_ _) | (with_reducible refine Below.setCell ?_ ?_ _) | go_size))) rfl rfl (by omega) (by omega)).mono ?_); rintro e u3 ⟨rfl, hb⟩; have hbC : Below w2.heap.size w2 u3 := below_call (show Below w2.heap.size w2 _ from (by repeat' (first | (with_reducible exact Below.refl _ _) | (with_reducible assumption) | (with_reducible refine below_over ?_ _ _) | (with_reducible refine Lw.below_alloc ?_ _) | (with_reducible refine Below.drew ?_) | (with_reducible refine below_drewN ?_ _) | (with_reducible refine Below.setCell ?_ ?_ _) | go_size))) hb (Nat.le_refl _); clear hb)
              | (go_at_call_of 24 (Value.pointer (some o)); (with_reducible refine (ecells_mid o G c l M _ (exI (HVE.out.up (by repeat' (first | (with_reducible exact Below.refl _ _) | (with_reducible assumption) | (with_reducible refine below_over ?_ _ _) | (with_reducible refine Lw.below_alloc ?_ _) | (with_reducible refine Below.drew ?_) | (with_reducible refine below_drewN ?_ _) | (with_reducible refine Below.setCell ?_ ?_ _) | go_size))).i3)).mono ?_); rintro e u4 ⟨g4, cap4, rfl, hm4, hg4, hc5, hc6, hb4⟩; have hbD : Below w2.heap.size w2 u4 := below_call (show Below w2.heap.size w2 _ from (by repeat' (first | (with_reducible exact Below.refl _ _) | (with_reducible assumption) | (with_reducible refine below_over ?_ _ _) | (with_reducible refine Lw.below_alloc ?_ _) | (with_reducible refine Below.drew ?_) | (with_reducible refine below_drewN ?_ _) | (with_reducible refine Below.setCell ?_ ?_ _) | go_size))) hb4 (Nat.le_refl _); have RD4 := Lib.hid hm4.rd; clear hm4 hg4 hb4)
              | (go_at_call 26; (with_reducible refine (rsame_any _ _ _ _ _ _ M M _ (RD4.out.up (by repeat' (first | (with_reducible exact Below.refl _ _) | (with_reducible assumption) | (with_reducible refine below_over ?_ _ _) | (with_reducible refine Lw.below_alloc ?_ _) | (with_reducible refine Below.drew ?_) | (with_reducible refine below_drewN ?_ _) | (with_reducible refine Below.setCell ?_ ?_ _) | go_size))) (HMQ.out.up (by repeat' (first | (with_reducible exact Below.refl _ _) | (with_reducible assumption) | (with_reducible refine below_over ?_ _ _) | (with_reducible refine Lw.below_alloc ?_ _) | (with_reducible refine Below.drew ?_) | (with_reducible refine below_drewN ?_ _) | (with_reducible refine Below.setCell ?_ ?_ _) | go_size))) rfl rfl (by omega) (by omega)).mono ?_); rintro e u6 ⟨rfl, hb⟩; have hbG : Below w2.heap.size w2 u6 := below_call (show Below w2.heap.size w2 _ from (by repeat' (first | (with_reducible exact Below.refl _ _) | (with_reducible assumption) | (with_reducible refine below_over ?_ _ _) | (with_reducible refine Lw.below_alloc ?_ _) | (with_reducible refine Below.drew ?_) | (with_reducible refine below_drewN ?_ _) | (with_reducible refine Below.setCell ?_ ?_ _) | go_size))) hb (Nat.le_refl _); clear hb))
            all_goals go_wp2
            all_goals go_roundw
            all_goals first
              | exact ⟨k + 1, _, _, _, _, _, _, _, _, _, _, hk1', hk2', rfl, rfl, rfl, rfl, by go_num, HVE.out.up (by repeat' (first | (with_reducible exact Below.refl _ _) | (with_reducible assumption) | (with_reducible refine below_over ?_ _ _) | (with_reducible refine Lw.below_alloc ?_ _) | (with_reducible refine Below.drew ?_) | (with_reducible refine below_drewN ?_ _) | (with_reducible refine Below.setCell ?_ ?_ _) | go_size))⟩
              | (simp [intOf]; omega)
          · obtain ⟨E, hE⟩ : ∃ E, exJ (-1) L M = E := ⟨_, rfl⟩
            obtain ⟨J, hJ⟩ : ∃ J, exM (-1) L M = J := ⟨_, rfl⟩
            have CM := Lib.hid (fun w h g => esub_yes p F c l L o G M w h g hm2)
            have CJ := Lib.hid (fun w h g => ajoin_minus r q R Q c l L M w h g HLM.out hm2)
            rw [hE, hJ] at CJ CM
            clear hE hJ hm2
            go_upto_region 48 with (first
              | (go_at_call 21; (with_reducible refine (CM.out _ (exI HVr.out.i1) (exI HVr.out.i3)).mono ?_); rintro e w1 ⟨rfl, F1, h1, h2, h3⟩; have HV1 := Lib.hid (HVr.out.turn_1 (exT p F1 c l J) h1 h2 h3); clear h1 h2 h3)
              | (go_at_call 20; (with_reducible refine (CJ.out _ (daI HV1.out.i0) (daI HV1.out.i2)).mono ?_); rintro e w2 ⟨rfl, R1, h1, h2, h3⟩; have HV2 := Lib.hid (HV1.out.turn_0 (daT r R1 c l J) h1 h2 h3); clear h1 h2 h3))
            clear d1 d2 d3
            have HVE := Lib.hid (HV2.out)
            obtain ⟨br, gr, capr, erq, hcr, hmr⟩ := DA.ptr (daI HVE.out.i0)
            obtain ⟨bq, gq, capq, eqq, hcq, hmq⟩ := DA.ptr (daI HVE.out.i2)
            subst erq eqq
            have HMR := Lib.hid hmr.rd
            have HMQ := Lib.hid hmq.rd
            have hz1 := (exI HVE.out.i1).size.2.2
            have hz2 := (exI HVE.out.i3).size.2.2
            clear hmr hmq
            go_region_held3 (fun w' => w'.cell? ⟨br, 6, none⟩ = some (.slice (some ⟨gr, 0, none⟩) J.length capr) ∧ w'.cell? ⟨bq, 6, none⟩ = some (.slice (some ⟨gq, 0, none⟩) M.length capq)) (first | (refine ⟨?_, ?_⟩ <;> (first | (with_reducible assumption) | (with_reducible refine cell_up hcr ?_) | (with_reducible refine cell_up hcq ?_)) <;> (repeat' (first | (with_reducible exact Below.refl _ _) | (with_reducible assumption) | (with_reducible refine below_over ?_ _ _) | (with_reducible refine Lw.below_alloc ?_ _) | (with_reducible refine Below.drew ?_) | (with_reducible refine below_drewN ?_ _) | (with_reducible refine Below.setCell ?_ ?_ _) | go_size)))) (first
              | (go_at_call_of 24 (Value.pointer (some p)); (with_reducible refine (ecells_mid p F1 c l J _ (exI (HVE.out.up (by repeat' (first | (with_reducible exact Below.refl _ _) | (with_reducible assumption) | (with_reducible refine below_over ?_ _ _) | (with_reducible refine Lw.below_alloc ?_ _) | (with_reducible refine Below.drew ?_) | (with_reducible refine below_drewN ?_ _) | (with_reducible refine Below.setCell ?_ ?_ _) | go_size))).i1)).mono ?_); rintro e u1 ⟨g1, cap1, rfl, hm1, hg1, hc1, hc2, hb1⟩; have hbA : Below w2.heap.size w2 u1 := below_call (show Below w2.heap.size w2 _ from (by repeat' (first | (with_reducible exact Below.refl _ _) | (with_reducible assumption) | (with_reducible refine below_over ?_ _ _) | (with_reducible refine Lw.below_alloc ?_ _) | (with_reducible refine Below.drew ?_) | (with_reducible refine below_drewN ?_ _) | (with_reducible refine Below.setCell ?_ ?_ _) | go_size))) hb1 (Nat.le_refl _); have RD1 := Lib.hid hm1.rd; clear hm1 hg1 hb1)
              | (go_at_call 26; (with_reducible refine (rsame_any _ _ _ _ _ _ J J _ (RD1.out.up (by repeat' (first | (with_reducible exact Below.refl _ _) | (with_reducible assumption) | (with_reducible refine below_over ?_ _ _) | (with_reducible refine Lw.below_alloc ?_ _) | (with_reducible refine Below.drew ?_) | (with_reducible refine below_drewN ?_ _) | (with_reducible refine Below.setCell ?_ ?_ _) | go_size))) (HMR.out.up (by repeat' (first | (with_reducible exact Below.refl _ _) | (with_reducible assumption) | (with_reducible refine below_over ?_ _ _) | (with_reducible refine Lw.below_alloc ?_ _) | (with_reducible refine Below.drew ?_) | (with_reducible refine below_drewN ?_ _) | (with_reducible refine Below.setCell ?_ ?_ _) | go_size))) rfl rfl (by omega) (by omega)).mono ?_); rintro e u3 ⟨rfl, hb⟩; have hbC : Below w2.heap.size w2 u3 := below_call (show Below w2.heap.size w2 _ from (by repeat' (first | (with_reducible exact Below.refl _ _) | (with_reducible assumption) | (with_reducible refine below_over ?_ _ _) | (with_reducible refine Lw.below_alloc ?_ _) | (with_reducible refine Below.drew ?_) | (with_reducible refine below_drewN ?_ _) | (with_reducible refine Below.setCell ?_ ?_ _) | go_size))) hb (Nat.le_refl _); clear hb)
              | (go_at_call_of 24 (Value.pointer (some o)); (with_reducible refine (ecells_mid o G c l M _ (exI (HVE.out.up (by repeat' (first | (with_reducible exact Below.refl _ _) | (with_reducible assumption) | (with_reducible refine below_over ?_ _ _) | (with_reducible refine Lw.below_alloc ?_ _) | (with_reducible refine Below.drew ?_) | (with_reducible refine below_drewN ?_ _) | (with_reducible refine Below.setCell ?_ ?_ _) | go_size))).i3)).mono ?_); rintro e u4 ⟨g4, cap4, rfl, hm4, hg4, hc5, hc6, hb4⟩; have hbD : Below w2.heap.size w2 u4 := below_call (show Below w2.heap.size w2 _ from (by repeat' (first | (with_reducible exact Below.refl _ _) | (with_reducible assumption) | (with_reducible refine below_over ?_ _ _) | (with_reducible refine Lw.below_alloc ?_ _) | (with_reducible refine Below.drew ?_) | (with_reducible refine below_drewN ?_ _) | (with_reducible refine Below.setCell ?_ ?_ _) | go_size))) hb4 (Nat.le_refl _); have RD4 := Lib.hid hm4.rd; clear hm4 hg4 hb4)
              | (go_at_call 26; (with_reducible refine (rsame_any _ _ _ _ _ _ M M _ (RD4.out.up (by repeat' (first | (with_reducible exact Below.refl _ _) | (with_reducible assumption) | (with_reducible refine below_over ?_ _ _) | (with_reducible refine Lw.below_alloc ?_ _) | (with_reducible refine Below.drew ?_) | (with_reducible refine below_drewN ?_ _) | (with_reducible refine Below.setCell ?_ ?_ _) | go_size))) (HMQ.out.up (by repeat' (first | (with_reducible exact Below.refl _ _) | (with_reducible assumption) | (with_reducible refine below_over ?_ _ _) | (with_reducible refine Lw.below_alloc ?_ _) | (with_reducible refine Below.drew ?_) | (with_reducible refine below_drewN ?_ _) | (with_reducible refine Below.setCell ?_ ?_ _) | go_size))) rfl rfl (by omega) (by omega)).mono ?_); rintro e u6 ⟨rfl, hb⟩; have hbG : Below w2.heap.size w2 u6 := below_call (show Below w2.heap.size w2 _ from (by repeat' (first | (with_reducible exact Below.refl _ _) | (with_reducible assumption) | (with_reducible refine below_over ?_ _ _) | (with_reducible refine Lw.below_alloc ?_ _) | (with_reducible refine Below.drew ?_) | (with_reducible refine below_drewN ?_ _) | (with_reducible refine Below.setCell ?_ ?_ _) | go_size))) hb (Nat.le_refl _); clear hb))
            all_goals go_wp2
            all_goals go_roundw
            all_goals first
              | exact ⟨k + 1, _, _, _, _, _, _, _, _, _, _, hk1', hk2', rfl, rfl, rfl, rfl, by go_num, HVE.out.up (by repeat' (first | (with_reducible exact Below.refl _ _) | (with_reducible assumption) | (with_reducible refine below_over ?_ _ _) | (with_reducible refine Lw.below_alloc ?_ _) | (with_reducible refine Below.drew ?_) | (with_reducible refine below_drewN ?_ _) | (with_reducible refine Below.setCell ?_ ?_ _) | go_size))⟩
              | (simp [intOf]; omega)
      by_cases hkd4 : kd = 4
      · have hkd := hkd4
        clear hkd4
        as_aux_lemma =>
          have hk1 : (kd == 1) = false := by simp [hkd]
          have hk2 : (kd == 2) = false := by simp [hkd]
          have hk3 : (kd == 3) = false := by simp [hkd]
          have hk4 : (kd == 4) = true := by simp [hkd]
          have hk5 : (kd == 5) = false := by simp [hkd]
          have hk6 : (kd == 6) = false := by simp [hkd]
          clear hkd
          go_upto_region 48 with fail
          clear d1 d2 d3
          have HVE := Lib.hid ((Have.perm ((List.perm_append_comm (l₁ := [daT r R c l L, exT p F c l L]) (l₂ := [daT q Q c l M, exT o G c l M])).append_right [boxT gc 24 #[.int .i64 c.bt, .int .i64 c.rw, .int .i64 c.wd, .int .i64 c.md, .int .u64 c.sd], boxT w.heap.size 24 #[.int .i64 x.bt, .int .i64 x.rw, .int .i64 x.wd, .int .i64 x.md, .int .u64 x.sd]]) HVr.out))
          obtain ⟨br, gr, capr, erq, hcr, hmr⟩ := DA.ptr (daI HVE.out.i0)
          obtain ⟨bq, gq, capq, eqq, hcq, hmq⟩ := DA.ptr (daI HVE.out.i2)
          subst erq eqq
          have HMR := Lib.hid hmr.rd
          have HMQ := Lib.hid hmq.rd
          have hz1 := (exI HVE.out.i1).size.2.2
          have hz2 := (exI HVE.out.i3).size.2.2
          clear hmr hmq
          go_region_held3 (fun w' => w'.cell? ⟨br, 6, none⟩ = some (.slice (some ⟨gr, 0, none⟩) M.length capr) ∧ w'.cell? ⟨bq, 6, none⟩ = some (.slice (some ⟨gq, 0, none⟩) L.length capq)) (first | (refine ⟨?_, ?_⟩ <;> (first | (with_reducible assumption) | (with_reducible refine cell_up hcr ?_) | (with_reducible refine cell_up hcq ?_)) <;> (repeat' (first | (with_reducible exact Below.refl _ _) | (with_reducible assumption) | (with_reducible refine below_over ?_ _ _) | (with_reducible refine Lw.below_alloc ?_ _) | (with_reducible refine Below.drew ?_) | (with_reducible refine below_drewN ?_ _) | (with_reducible refine Below.setCell ?_ ?_ _) | go_size)))) (first
            | (go_at_call_of 24 (Value.pointer (some o)); (with_reducible refine (ecells_mid o G c l M _ (exI (HVE.out.up (by repeat' (first | (with_reducible exact Below.refl _ _) | (with_reducible assumption) | (with_reducible refine below_over ?_ _ _) | (with_reducible refine Lw.below_alloc ?_ _) | (with_reducible refine Below.drew ?_) | (with_reducible refine below_drewN ?_ _) | (with_reducible refine Below.setCell ?_ ?_ _) | go_size))).i1)).mono ?_); rintro e u1 ⟨g1, cap1, rfl, hm1, hg1, hc1, hc2, hb1⟩; have hbA : Below wr.heap.size wr u1 := below_call (show Below wr.heap.size wr _ from (by repeat' (first | (with_reducible exact Below.refl _ _) | (with_reducible assumption) | (with_reducible refine below_over ?_ _ _) | (with_reducible refine Lw.below_alloc ?_ _) | (with_reducible refine Below.drew ?_) | (with_reducible refine below_drewN ?_ _) | (with_reducible refine Below.setCell ?_ ?_ _) | go_size))) hb1 (Nat.le_refl _); have RD1 := Lib.hid hm1.rd; clear hm1 hg1 hb1)
            | (go_at_call 26; (with_reducible refine (rsame_any _ _ _ _ _ _ M M _ (RD1.out.up (by repeat' (first | (with_reducible exact Below.refl _ _) | (with_reducible assumption) | (with_reducible refine below_over ?_ _ _) | (with_reducible refine Lw.below_alloc ?_ _) | (with_reducible refine Below.drew ?_) | (with_reducible refine below_drewN ?_ _) | (with_reducible refine Below.setCell ?_ ?_ _) | go_size))) (HMR.out.up (by repeat' (first | (with_reducible exact Below.refl _ _) | (with_reducible assumption) | (with_reducible refine below_over ?_ _ _) | (with_reducible refine Lw.below_alloc ?_ _) | (with_reducible refine Below.drew ?_) | (with_reducible refine below_drewN ?_ _) | (with_reducible refine Below.setCell ?_ ?_ _) | go_size))) rfl rfl (by omega) (by omega)).mono ?_); rintro e u3 ⟨rfl, hb⟩; have hbC : Below wr.heap.size wr u3 := below_call (show Below wr.heap.size wr _ from (by repeat' (first | (with_reducible exact Below.refl _ _) | (with_reducible assumption) | (with_reducible refine below_over ?_ _ _) | (with_reducible refine Lw.below_alloc ?_ _) | (with_reducible refine Below.drew ?_) | (with_reducible refine below_drewN ?_ _) | (with_reducible refine Below.setCell ?_ ?_ _) | go_size))) hb (Nat.le_refl _); clear hb)
            | (go_at_call_of 24 (Value.pointer (some p)); (with_reducible refine (ecells_mid p F c l L _ (exI (HVE.out.up (by repeat' (first | (with_reducible exact Below.refl _ _) | (with_reducible assumption) | (with_reducible refine below_over ?_ _ _) | (with_reducible refine Lw.below_alloc ?_ _) | (with_reducible refine Below.drew ?_) | (with_reducible refine below_drewN ?_ _) | (with_reducible refine Below.setCell ?_ ?_ _) | go_size))).i3)).mono ?_); rintro e u4 ⟨g4, cap4, rfl, hm4, hg4, hc5, hc6, hb4⟩; have hbD : Below wr.heap.size wr u4 := below_call (show Below wr.heap.size wr _ from (by repeat' (first | (with_reducible exact Below.refl _ _) | (with_reducible assumption) | (with_reducible refine below_over ?_ _ _) | (with_reducible refine Lw.below_alloc ?_ _) | (with_reducible refine Below.drew ?_) | (with_reducible refine below_drewN ?_ _) | (with_reducible refine Below.setCell ?_ ?_ _) | go_size))) hb4 (Nat.le_refl _); have RD4 := Lib.hid hm4.rd; clear hm4 hg4 hb4)
            | (go_at_call 26; (with_reducible refine (rsame_any _ _ _ _ _ _ L L _ (RD4.out.up (by repeat' (first | (with_reducible exact Below.refl _ _) | (with_reducible assumption) | (with_reducible refine below_over ?_ _ _) | (with_reducible refine Lw.below_alloc ?_ _) | (with_reducible refine Below.drew ?_) | (with_reducible refine below_drewN ?_ _) | (with_reducible refine Below.setCell ?_ ?_ _) | go_size))) (HMQ.out.up (by repeat' (first | (with_reducible exact Below.refl _ _) | (with_reducible assumption) | (with_reducible refine below_over ?_ _ _) | (with_reducible refine Lw.below_alloc ?_ _) | (with_reducible refine Below.drew ?_) | (with_reducible refine below_drewN ?_ _) | (with_reducible refine Below.setCell ?_ ?_ _) | go_size))) rfl rfl (by omega) (by omega)).mono ?_); rintro e u6 ⟨rfl, hb⟩; have hbG : Below wr.heap.size wr u6 := below_call (show Below wr.heap.size wr _ from (by repeat' (first | (with_reducible exact Below.refl _ _) | (with_reducible assumption) | (with_reducible refine below_over ?_ _ _) | (with_reducible refine Lw.below_alloc ?_ _) | (with_reducible refine Below.drew ?_) | (with_reducible refine below_drewN ?_ _) | (with_reducible refine Below.setCell ?_ ?_ _) | go_size))) hb (Nat.le_refl _); clear hb))
          all_goals go_wp2
          all_goals go_roundw
          all_goals first
            | exact ⟨k + 1, _, _, _, _, _, _, _, _, _, _, hk1', hk2', rfl, rfl, rfl, rfl, by go_num, HVE.out.up (by repeat' (first | (with_reducible exact Below.refl _ _) | (with_reducible assumption) | (with_reducible refine below_over ?_ _ _) | (with_reducible refine Lw.below_alloc ?_ _) | (with_reducible refine Below.drew ?_) | (with_reducible refine below_drewN ?_ _) | (with_reducible refine Below.setCell ?_ ?_ _) | go_size))⟩
            | (simp [intOf]; omega)
      by_cases hkd5 : kd = 5
      · have hkd := hkd5
        clear hkd5
        as_aux_lemma =>
          have hk1 : (kd == 1) = false := by simp [hkd]
          have hk2 : (kd == 2) = false := by simp [hkd]
          have hk3 : (kd == 3) = false := by simp [hkd]
          have hk4 : (kd == 4) = false := by simp [hkd]
          have hk5 : (kd == 5) = true := by simp [hkd]
          have hk6 : (kd == 6) = false := by simp [hkd]
          clear hkd
          go_upto_region 48 with (first
            | (go_at_call 22; (with_reducible refine (ecopy_any o G c l M _ (exI HVr.out.i3)).mono ?_); rintro e w1 ⟨z, Z, rfl, h1, h2, hb⟩; have HV1 := Lib.hid (HVr.out.push (exT z Z c l M) hb h1 h2); clear h1 h2 hb)
            | (go_at_call 17; (with_reducible refine (acopy_any q Q c l M _ (daI HV1.out.i3)).mono ?_); rintro e w2 ⟨y, Y, rfl, h1, h2, hb⟩; have HV2 := Lib.hid (HV1.out.push (daT y Y c l M) hb h1 h2); clear h1 h2 hb))
          clear d1 d2 d3
          have HVE := Lib.hid (HV2.out.drop_2.drop_2)
          obtain ⟨br, gr, capr, erq, hcr, hmr⟩ := DA.ptr (daI HVE.out.i0)
          obtain ⟨bq, gq, capq, eqq, hcq, hmq⟩ := DA.ptr (daI HVE.out.i2)
          subst erq eqq
          have HMR := Lib.hid hmr.rd
          have HMQ := Lib.hid hmq.rd
          have hz1 := (exI HVE.out.i1).size.2.2
          have hz2 := (exI HVE.out.i3).size.2.2
          clear hmr hmq
          go_region_held3 (fun w' => w'.cell? ⟨br, 6, none⟩ = some (.slice (some ⟨gr, 0, none⟩) M.length capr) ∧ w'.cell? ⟨bq, 6, none⟩ = some (.slice (some ⟨gq, 0, none⟩) M.length capq)) (first | (refine ⟨?_, ?_⟩ <;> (first | (with_reducible assumption) | (with_reducible refine cell_up hcr ?_) | (with_reducible refine cell_up hcq ?_)) <;> (repeat' (first | (with_reducible exact Below.refl _ _) | (with_reducible assumption) | (with_reducible refine below_over ?_ _ _) | (with_reducible refine Lw.below_alloc ?_ _) | (with_reducible refine Below.drew ?_) | (with_reducible refine below_drewN ?_ _) | (with_reducible refine Below.setCell ?_ ?_ _) | go_size)))) (first
            | (go_at_call_of 24 (Value.pointer (some z)); (with_reducible refine (ecells_mid z Z c l M _ (exI (HVE.out.up (by repeat' (first | (with_reducible exact Below.refl _ _) | (with_reducible assumption) | (with_reducible refine below_over ?_ _ _) | (with_reducible refine Lw.below_alloc ?_ _) | (with_reducible refine Below.drew ?_) | (with_reducible refine below_drewN ?_ _) | (with_reducible refine Below.setCell ?_ ?_ _) | go_size))).i1)).mono ?_); rintro e u1 ⟨g1, cap1, rfl, hm1, hg1, hc1, hc2, hb1⟩; have hbA : Below w2.heap.size w2 u1 := below_call (show Below w2.heap.size w2 _ from (by repeat' (first | (with_reducible exact Below.refl _ _) | (with_reducible assumption) | (with_reducible refine below_over ?_ _ _) | (with_reducible refine Lw.below_alloc ?_ _) | (with_reducible refine Below.drew ?_) | (with_reducible refine below_drewN ?_ _) | (with_reducible refine Below.setCell ?_ ?_ _) | go_size))) hb1 (Nat.le_refl _); have RD1 := Lib.hid hm1.rd; clear hm1 hg1 hb1)
            | (go_at_call 26; (with_reducible refine (rsame_any _ _ _ _ _ _ M M _ (RD1.out.up (by repeat' (first | (with_reducible exact Below.refl _ _) | (with_reducible assumption) | (with_reducible refine below_over ?_ _ _) | (with_reducible refine Lw.below_alloc ?_ _) | (with_reducible refine Below.drew ?_) | (with_reducible refine below_drewN ?_ _) | (with_reducible refine Below.setCell ?_ ?_ _) | go_size))) (HMR.out.up (by repeat' (first | (with_reducible exact Below.refl _ _) | (with_reducible assumption) | (with_reducible refine below_over ?_ _ _) | (with_reducible refine Lw.below_alloc ?_ _) | (with_reducible refine Below.drew ?_) | (with_reducible refine below_drewN ?_ _) | (with_reducible refine Below.setCell ?_ ?_ _) | go_size))) rfl rfl (by omega) (by omega)).mono ?_); rintro e u3 ⟨rfl, hb⟩; have hbC : Below w2.heap.size w2 u3 := below_call (show Below w2.heap.size w2 _ from (by repeat' (first | (with_reducible exact Below.refl _ _) | (with_reducible assumption) | (with_reducible refine below_over ?_ _ _) | (with_reducible refine Lw.below_alloc ?_ _) | (with_reducible refine Below.drew ?_) | (with_reducible refine below_drewN ?_ _) | (with_reducible refine Below.setCell ?_ ?_ _) | go_size))) hb (Nat.le_refl _); clear hb)
            | (go_at_call_of 24 (Value.pointer (some o)); (with_reducible refine (ecells_mid o G c l M _ (exI (HVE.out.up (by repeat' (first | (with_reducible exact Below.refl _ _) | (with_reducible assumption) | (with_reducible refine below_over ?_ _ _) | (with_reducible refine Lw.below_alloc ?_ _) | (with_reducible refine Below.drew ?_) | (with_reducible refine below_drewN ?_ _) | (with_reducible refine Below.setCell ?_ ?_ _) | go_size))).i3)).mono ?_); rintro e u4 ⟨g4, cap4, rfl, hm4, hg4, hc5, hc6, hb4⟩; have hbD : Below w2.heap.size w2 u4 := below_call (show Below w2.heap.size w2 _ from (by repeat' (first | (with_reducible exact Below.refl _ _) | (with_reducible assumption) | (with_reducible refine below_over ?_ _ _) | (with_reducible refine Lw.below_alloc ?_ _) | (with_reducible refine Below.drew ?_) | (with_reducible refine below_drewN ?_ _) | (with_reducible refine Below.setCell ?_ ?_ _) | go_size))) hb4 (Nat.le_refl _); have RD4 := Lib.hid hm4.rd; clear hm4 hg4 hb4)
            | (go_at_call 26; (with_reducible refine (rsame_any _ _ _ _ _ _ M M _ (RD4.out.up (by repeat' (first | (with_reducible exact Below.refl _ _) | (with_reducible assumption) | (with_reducible refine below_over ?_ _ _) | (with_reducible refine Lw.below_alloc ?_ _) | (with_reducible refine Below.drew ?_) | (with_reducible refine below_drewN ?_ _) | (with_reducible refine Below.setCell ?_ ?_ _) | go_size))) (HMQ.out.up (by repeat' (first | (with_reducible exact Below.refl _ _) | (with_reducible assumption) | (with_reducible refine below_over ?_ _ _) | (with_reducible refine Lw.below_alloc ?_ _) | (with_reducible refine Below.drew ?_) | (with_reducible refine below_drewN ?_ _) | (with_reducible refine Below.setCell ?_ ?_ _) | go_size))) rfl rfl (by omega) (by omega)).mono ?_); rintro e u6 ⟨rfl, hb⟩; have hbG : Below w2.heap.size w2 u6 := below_call (show Below w2.heap.size w2 _ from (by repeat' (first | (with_reducible exact Below.refl _ _) | (with_reducible assumption) | (with_reducible refine below_over ?_ _ _) | (with_reducible refine Lw.below_alloc ?_ _) | (with_reducible refine Below.drew ?_) | (with_reducible refine below_drewN ?_ _) | (with_reducible refine Below.setCell ?_ ?_ _) | go_size))) hb (Nat.le_refl _); clear hb))
          all_goals go_wp2
          all_goals go_roundw
          all_goals first
            | exact ⟨k + 1, _, _, _, _, _, _, _, _, _, _, hk1', hk2', rfl, rfl, rfl, rfl, by go_num, HVE.out.up (by repeat' (first | (with_reducible exact Below.refl _ _) | (with_reducible assumption) | (with_reducible refine below_over ?_ _ _) | (with_reducible refine Lw.below_alloc ?_ _) | (with_reducible refine Below.drew ?_) | (with_reducible refine below_drewN ?_ _) | (with_reducible refine Below.setCell ?_ ?_ _) | go_size))⟩
            | (simp [intOf]; omega)
      by_cases hkd6 : kd = 6
      · have hkd := hkd6
        clear hkd6
        as_aux_lemma =>
          have hk1 : (kd == 1) = false := by simp [hkd]
          have hk2 : (kd == 2) = false := by simp [hkd]
          have hk3 : (kd == 3) = false := by simp [hkd]
          have hk4 : (kd == 4) = false := by simp [hkd]
          have hk5 : (kd == 5) = false := by simp [hkd]
          have hk6 : (kd == 6) = true := by simp [hkd]
          clear hkd
          have CO : Hid (∀ G w, EX w o G c l M → ∀ g cap, Ord.Mid w g 0 L → ¬ G g → Calls Try.prog 23 #[.pointer (some o), .slice (some ⟨g, 0, none⟩) L.length cap] w fun e w' => e = .returned (.bool true) ∧ ∃ F', EX w' o F' c l L ∧ Kept G w w' ∧ (∀ k, F' k → G k ∨ w.heap.size ≤ k)) := Lib.hid (fun G w h g cap hm hg => eload_yes o G c l M (some ⟨g, 0, none⟩) L.length cap L w h hm.rd rfl (exI HVr.out.i1).in64 (fun a ha => by injection ha with ha; subst ha; exact hg) HLM.out)
          go_upto_region 48 with (first
            | (go_at_call 24; (with_reducible refine (ecells_mid p F c l L _ (exI HVr.out.i1)).mono ?_); rintro e w1 ⟨g1, cap1, rfl, h1, h2, -, -, hb⟩; have HV1 := Lib.hid (HVr.out.push (midT g1 L) hb h1 (fun k hk => by subst hk; exact h2)); clear h1 h2 hb)
            | (go_at_call 23; (with_reducible refine (CO.out G _ (exI HV1.out.i4) g1 cap1 (midI HV1.out.i0) (mid_ap4 HV1.out)).mono ?_); rintro e w2 ⟨rfl, G1, h1, h2, h3⟩; have HV2 := Lib.hid (HV1.out.turn_4 (exT o G1 c l L) h1 h2 h3).drop_0; clear h1 h2 h3)
            | (go_at_call 17; (with_reducible refine (acopy_any r R c l L _ (daI HV2.out.i0)).mono ?_); rintro e w3 ⟨y, Y, rfl, h1, h2, hb⟩; have HV3 := Lib.hid (HV2.out.push (daT y Y c l L) hb h1 h2).drop_3; clear h1 h2 hb))
          clear d1 d2 d3
          have HVE := Lib.hid ((Have.perm ((List.perm_append_comm (l₁ := [daT y Y c l L]) (l₂ := [daT r R c l L, exT p F c l L])).append_right [exT o G1 c l L, boxT gc 24 #[.int .i64 c.bt, .int .i64 c.rw, .int .i64 c.wd, .int .i64 c.md, .int .u64 c.sd], boxT w.heap.size 24 #[.int .i64 x.bt, .int .i64 x.rw, .int .i64 x.wd, .int .i64 x.md, .int .u64 x.sd]]) HV3.out))
          obtain ⟨br, gr, capr, erq, hcr, hmr⟩ := DA.ptr (daI HVE.out.i0)
          obtain ⟨bq, gq, capq, eqq, hcq, hmq⟩ := DA.ptr (daI HVE.out.i2)
          subst erq eqq
          have HMR := Lib.hid hmr.rd
          have HMQ := Lib.hid hmq.rd
          have hz1 := (exI HVE.out.i1).size.2.2
          have hz2 := (exI HVE.out.i3).size.2.2
          clear hmr hmq
          go_region_held3 (fun w' => w'.cell? ⟨br, 6, none⟩ = some (.slice (some ⟨gr, 0, none⟩) L.length capr) ∧ w'.cell? ⟨bq, 6, none⟩ = some (.slice (some ⟨gq, 0, none⟩) L.length capq)) (first | (refine ⟨?_, ?_⟩ <;> (first | (with_reducible assumption) | (with_reducible refine cell_up hcr ?_) | (with_reducible refine cell_up hcq ?_)) <;> (repeat' (first | (with_reducible exact Below.refl _ _) | (with_reducible assumption) | (with_reducible refine below_over ?_ _ _) | (with_reducible refine Lw.below_alloc ?_ _) | (with_reducible refine Below.drew ?_) | (with_reducible refine below_drewN ?_ _) | (with_reducible refine Below.setCell ?_ ?_ _) | go_size)))) (first
            | (go_at_call_of 24 (Value.pointer (some p)); (with_reducible refine (ecells_mid p F c l L _ (exI (HVE.out.up (by repeat' (first | (with_reducible exact Below.refl _ _) | (with_reducible assumption) | (with_reducible refine below_over ?_ _ _) | (with_reducible refine Lw.below_alloc ?_ _) | (with_reducible refine Below.drew ?_) | (with_reducible refine below_drewN ?_ _) | (with_reducible refine Below.setCell ?_ ?_ _) | go_size))).i1)).mono ?_); rintro e u1 ⟨g1, cap1, rfl, hm1, hg1, hc1, hc2, hb1⟩; have hbA : Below w3.heap.size w3 u1 := below_call (show Below w3.heap.size w3 _ from (by repeat' (first | (with_reducible exact Below.refl _ _) | (with_reducible assumption) | (with_reducible refine below_over ?_ _ _) | (with_reducible refine Lw.below_alloc ?_ _) | (with_reducible refine Below.drew ?_) | (with_reducible refine below_drewN ?_ _) | (with_reducible refine Below.setCell ?_ ?_ _) | go_size))) hb1 (Nat.le_refl _); have RD1 := Lib.hid hm1.rd; clear hm1 hg1 hb1)
            | (go_at_call 26; (with_reducible refine (rsame_any _ _ _ _ _ _ L L _ (RD1.out.up (by repeat' (first | (with_reducible exact Below.refl _ _) | (with_reducible assumption) | (with_reducible refine below_over ?_ _ _) | (with_reducible refine Lw.below_alloc ?_ _) | (with_reducible refine Below.drew ?_) | (with_reducible refine below_drewN ?_ _) | (with_reducible refine Below.setCell ?_ ?_ _) | go_size))) (HMR.out.up (by repeat' (first | (with_reducible exact Below.refl _ _) | (with_reducible assumption) | (with_reducible refine below_over ?_ _ _) | (with_reducible refine Lw.below_alloc ?_ _) | (with_reducible refine Below.drew ?_) | (with_reducible refine below_drewN ?_ _) | (with_reducible refine Below.setCell ?_ ?_ _) | go_size))) rfl rfl (by omega) (by omega)).mono ?_); rintro e u3 ⟨rfl, hb⟩; have hbC : Below w3.heap.size w3 u3 := below_call (show Below w3.heap.size w3 _ from (by repeat' (first | (with_reducible exact Below.refl _ _) | (with_reducible assumption) | (with_reducible refine below_over ?_ _ _) | (with_reducible refine Lw.below_alloc ?_ _) | (with_reducible refine Below.drew ?_) | (with_reducible refine below_drewN ?_ _) | (with_reducible refine Below.setCell ?_ ?_ _) | go_size))) hb (Nat.le_refl _); clear hb)
            | (go_at_call_of 24 (Value.pointer (some o)); (with_reducible refine (ecells_mid o G1 c l L _ (exI (HVE.out.up (by repeat' (first | (with_reducible exact Below.refl _ _) | (with_reducible assumption) | (with_reducible refine below_over ?_ _ _) | (with_reducible refine Lw.below_alloc ?_ _) | (with_reducible refine Below.drew ?_) | (with_reducible refine below_drewN ?_ _) | (with_reducible refine Below.setCell ?_ ?_ _) | go_size))).i3)).mono ?_); rintro e u4 ⟨g4, cap4, rfl, hm4, hg4, hc5, hc6, hb4⟩; have hbD : Below w3.heap.size w3 u4 := below_call (show Below w3.heap.size w3 _ from (by repeat' (first | (with_reducible exact Below.refl _ _) | (with_reducible assumption) | (with_reducible refine below_over ?_ _ _) | (with_reducible refine Lw.below_alloc ?_ _) | (with_reducible refine Below.drew ?_) | (with_reducible refine below_drewN ?_ _) | (with_reducible refine Below.setCell ?_ ?_ _) | go_size))) hb4 (Nat.le_refl _); have RD4 := Lib.hid hm4.rd; clear hm4 hg4 hb4)
            | (go_at_call 26; (with_reducible refine (rsame_any _ _ _ _ _ _ L L _ (RD4.out.up (by repeat' (first | (with_reducible exact Below.refl _ _) | (with_reducible assumption) | (with_reducible refine below_over ?_ _ _) | (with_reducible refine Lw.below_alloc ?_ _) | (with_reducible refine Below.drew ?_) | (with_reducible refine below_drewN ?_ _) | (with_reducible refine Below.setCell ?_ ?_ _) | go_size))) (HMQ.out.up (by repeat' (first | (with_reducible exact Below.refl _ _) | (with_reducible assumption) | (with_reducible refine below_over ?_ _ _) | (with_reducible refine Lw.below_alloc ?_ _) | (with_reducible refine Below.drew ?_) | (with_reducible refine below_drewN ?_ _) | (with_reducible refine Below.setCell ?_ ?_ _) | go_size))) rfl rfl (by omega) (by omega)).mono ?_); rintro e u6 ⟨rfl, hb⟩; have hbG : Below w3.heap.size w3 u6 := below_call (show Below w3.heap.size w3 _ from (by repeat' (first | (with_reducible exact Below.refl _ _) | (with_reducible assumption) | (with_reducible refine below_over ?_ _ _) | (with_reducible refine Lw.below_alloc ?_ _) | (with_reducible refine Below.drew ?_) | (with_reducible refine below_drewN ?_ _) | (with_reducible refine Below.setCell ?_ ?_ _) | go_size))) hb (Nat.le_refl _); clear hb))
          all_goals go_wp2
          all_goals go_roundw
          all_goals first
            | exact ⟨k + 1, _, _, _, _, _, _, _, _, _, _, hk1', hk2', rfl, rfl, rfl, rfl, by go_num, HVE.out.up (by repeat' (first | (with_reducible exact Below.refl _ _) | (with_reducible assumption) | (with_reducible refine below_over ?_ _ _) | (with_reducible refine Lw.below_alloc ?_ _) | (with_reducible refine Below.drew ?_) | (with_reducible refine below_drewN ?_ _) | (with_reducible refine Below.setCell ?_ ?_ _) | go_size))⟩
            | (simp [intOf]; omega)
      as_aux_lemma =>
        have hk1 : (kd == 1) = false := by simpa using hkd1
        have hk2 : (kd == 2) = false := by simpa using hkd2
        have hk3 : (kd == 3) = false := by simpa using hkd3
        have hk4 : (kd == 4) = false := by simpa using hkd4
        have hk5 : (kd == 5) = false := by simpa using hkd5
        have hk6 : (kd == 6) = false := by simpa using hkd6
        clear hkd1 hkd2 hkd3 hkd4 hkd5 hkd6
        go_upto_region 16 with fail
        go_region_held3 (fun w' => w'.cell? ⟨g, o3, none⟩ = some (.int .i64 kd) ∧ w'.cell? ⟨g, o3 + 1, none⟩ = some (.int .u64 key) ∧ w'.cell? ⟨g, o3 + 2, none⟩ = some (.int .i64 d)) (first | (refine ⟨?_, ?_, ?_⟩ <;> (first | (with_reducible assumption) | (with_reducible refine cell_up d1 ?_) | (with_reducible refine cell_up d2 ?_) | (with_reducible refine cell_up d3 ?_)) <;> (repeat' (first | (with_reducible exact Below.refl _ _) | (with_reducible assumption) | (with_reducible refine below_over ?_ _ _) | (with_reducible refine Lw.below_alloc ?_ _) | (with_reducible refine Below.drew ?_) | (with_reducible refine below_drewN ?_ _) | (with_reducible refine Below.setCell ?_ ?_ _) | go_size)))) (first
          | (go_at_call 25; (with_reducible refine (eupd_any p F c l L key d _ (exI (HVr.out.up (by repeat' (first | (with_reducible exact Below.refl _ _) | (with_reducible assumption) | (with_reducible refine below_over ?_ _ _) | (with_reducible refine Lw.below_alloc ?_ _) | (with_reducible refine Below.drew ?_) | (with_reducible refine below_drewN ?_ _) | (with_reducible refine Below.setCell ?_ ?_ _) | go_size))).i1) kb.1 kb.2 db.1 db.2).mono ?_); rintro e w1 ⟨rfl, F1, h1, h2, h3⟩; have HV1 := Lib.hid ((HVr.out.up (by repeat' (first | (with_reducible exact Below.refl _ _) | (with_reducible assumption) | (with_reducible refine below_over ?_ _ _) | (with_reducible refine Lw.below_alloc ?_ _) | (with_reducible refine Below.drew ?_) | (with_reducible refine below_drewN ?_ _) | (with_reducible refine Below.setCell ?_ ?_ _) | go_size))).turn_1 (exT p F1 c l (exRes c.md L key d)) h1 h2 h3); clear h1 h2 h3; clear d1 d2 d3; have d1 := cell_up HD1.out HV1.out.below; have d2 := cell_up HD2.out HV1.out.below; have d3 := cell_up HD3.out HV1.out.below))
        go_upto_region 17 with fail
        go_region_held3 (fun w' => w'.cell? ⟨g, o3, none⟩ = some (.int .i64 kd) ∧ w'.cell? ⟨g, o3 + 1, none⟩ = some (.int .u64 key) ∧ w'.cell? ⟨g, o3 + 2, none⟩ = some (.int .i64 d)) (first | (refine ⟨?_, ?_, ?_⟩ <;> (first | (with_reducible assumption) | (with_reducible refine cell_up d1 ?_) | (with_reducible refine cell_up d2 ?_) | (with_reducible refine cell_up d3 ?_)) <;> (repeat' (first | (with_reducible exact Below.refl _ _) | (with_reducible assumption) | (with_reducible refine below_over ?_ _ _) | (with_reducible refine Lw.below_alloc ?_ _) | (with_reducible refine Below.drew ?_) | (with_reducible refine below_drewN ?_ _) | (with_reducible refine Below.setCell ?_ ?_ _) | go_size)))) (first
          | (go_at_call 18; (with_reducible refine (aupd_any r R c l L key d _ (daI (HV1.out.up (by repeat' (first | (with_reducible exact Below.refl _ _) | (with_reducible assumption) | (with_reducible refine below_over ?_ _ _) | (with_reducible refine Lw.below_alloc ?_ _) | (with_reducible refine Below.drew ?_) | (with_reducible refine below_drewN ?_ _) | (with_reducible refine Below.setCell ?_ ?_ _) | go_size))).i0) kb.1 kb.2 db.1 db.2).mono ?_); rintro e w2 ⟨rfl, R1, h1, h2, h3⟩; have HV2 := Lib.hid ((HV1.out.up (by repeat' (first | (with_reducible exact Below.refl _ _) | (with_reducible assumption) | (with_reducible refine below_over ?_ _ _) | (with_reducible refine Lw.below_alloc ?_ _) | (with_reducible refine Below.drew ?_) | (with_reducible refine below_drewN ?_ _) | (with_reducible refine Below.setCell ?_ ?_ _) | go_size))).turn_0 (daT r R1 c l (exRes c.md L key d)) h1 h2 h3); clear h1 h2 h3; clear d1 d2 d3; have d1 := cell_up HD1.out HV2.out.below; have d2 := cell_up HD2.out HV2.out.below; have d3 := cell_up HD3.out HV2.out.below))
        go_upto_region 48 with fail
        clear d1 d2 d3
        have HVE := Lib.hid (HV2.out)
        obtain ⟨br, gr, capr, erq, hcr, hmr⟩ := DA.ptr (daI HVE.out.i0)
        obtain ⟨bq, gq, capq, eqq, hcq, hmq⟩ := DA.ptr (daI HVE.out.i2)
        subst erq eqq
        have HMR := Lib.hid hmr.rd
        have HMQ := Lib.hid hmq.rd
        have hz1 := (exI HVE.out.i1).size.2.2
        have hz2 := (exI HVE.out.i3).size.2.2
        clear hmr hmq
        go_region_held3 (fun w' => w'.cell? ⟨br, 6, none⟩ = some (.slice (some ⟨gr, 0, none⟩) (exRes c.md L key d).length capr) ∧ w'.cell? ⟨bq, 6, none⟩ = some (.slice (some ⟨gq, 0, none⟩) M.length capq)) (first | (refine ⟨?_, ?_⟩ <;> (first | (with_reducible assumption) | (with_reducible refine cell_up hcr ?_) | (with_reducible refine cell_up hcq ?_)) <;> (repeat' (first | (with_reducible exact Below.refl _ _) | (with_reducible assumption) | (with_reducible refine below_over ?_ _ _) | (with_reducible refine Lw.below_alloc ?_ _) | (with_reducible refine Below.drew ?_) | (with_reducible refine below_drewN ?_ _) | (with_reducible refine Below.setCell ?_ ?_ _) | go_size)))) (first
          | (go_at_call_of 24 (Value.pointer (some p)); (with_reducible refine (ecells_mid p F1 c l (exRes c.md L key d) _ (exI (HVE.out.up (by repeat' (first | (with_reducible exact Below.refl _ _) | (with_reducible assumption) | (with_reducible refine below_over ?_ _ _) | (with_reducible refine Lw.below_alloc ?_ _) | (with_reducible refine Below.drew ?_) | (with_reducible refine below_drewN ?_ _) | (with_reducible refine Below.setCell ?_ ?_ _) | go_size))).i1)).mono ?_); rintro e u1 ⟨g1, cap1, rfl, hm1, hg1, hc1, hc2, hb1⟩; have hbA : Below w2.heap.size w2 u1 := below_call (show Below w2.heap.size w2 _ from (by repeat' (first | (with_reducible exact Below.refl _ _) | (with_reducible assumption) | (with_reducible refine below_over ?_ _ _) | (with_reducible refine Lw.below_alloc ?_ _) | (with_reducible refine Below.drew ?_) | (with_reducible refine below_drewN ?_ _) | (with_reducible refine Below.setCell ?_ ?_ _) | go_size))) hb1 (Nat.le_refl _); have RD1 := Lib.hid hm1.rd; clear hm1 hg1 hb1)
          | (go_at_call 26; (with_reducible refine (rsame_any _ _ _ _ _ _ (exRes c.md L key d) (exRes c.md L key d) _ (RD1.out.up (by repeat' (first | (with_reducible exact Below.refl _ _) | (with_reducible assumption) | (with_reducible refine below_over ?_ _ _) | (with_reducible refine Lw.below_alloc ?_ _) | (with_reducible refine Below.drew ?_) | (with_reducible refine below_drewN ?_ _) | (with_reducible refine Below.setCell ?_ ?_ _) | go_size))) (HMR.out.up (by repeat' (first | (with_reducible exact Below.refl _ _) | (with_reducible assumption) | (with_reducible refine below_over ?_ _ _) | (with_reducible refine Lw.below_alloc ?_ _) | (with_reducible refine Below.drew ?_) | (with_reducible refine below_drewN ?_ _) | (with_reducible refine Below.setCell ?_ ?_ _) | go_size))) rfl rfl (by omega) (by omega)).mono ?_); rintro e u3 ⟨rfl, hb⟩; have hbC : Below w2.heap.size w2 u3 := below_call (show Below w2.heap.size w2 _ from (by repeat' (first | (with_reducible exact Below.refl _ _) | (with_reducible assumption) | (with_reducible refine below_over ?_ _ _) | (with_reducible refine Lw.below_alloc ?_ _) | (with_reducible refine Below.drew ?_) | (with_reducible refine below_drewN ?_ _) | (with_reducible refine Below.setCell ?_ ?_ _) | go_size))) hb (Nat.le_refl _); clear hb)
          | (go_at_call_of 24 (Value.pointer (some o)); (with_reducible refine (ecells_mid o G c l M _ (exI (HVE.out.up (by repeat' (first | (with_reducible exact Below.refl _ _) | (with_reducible assumption) | (with_reducible refine below_over ?_ _ _) | (with_reducible refine Lw.below_alloc ?_ _) | (with_reducible refine Below.drew ?_) | (with_reducible refine below_drewN ?_ _) | (with_reducible refine Below.setCell ?_ ?_ _) | go_size))).i3)).mono ?_); rintro e u4 ⟨g4, cap4, rfl, hm4, hg4, hc5, hc6, hb4⟩; have hbD : Below w2.heap.size w2 u4 := below_call (show Below w2.heap.size w2 _ from (by repeat' (first | (with_reducible exact Below.refl _ _) | (with_reducible assumption) | (with_reducible refine below_over ?_ _ _) | (with_reducible refine Lw.below_alloc ?_ _) | (with_reducible refine Below.drew ?_) | (with_reducible refine below_drewN ?_ _) | (with_reducible refine Below.setCell ?_ ?_ _) | go_size))) hb4 (Nat.le_refl _); have RD4 := Lib.hid hm4.rd; clear hm4 hg4 hb4)
          | (go_at_call 26; (with_reducible refine (rsame_any _ _ _ _ _ _ M M _ (RD4.out.up (by repeat' (first | (with_reducible exact Below.refl _ _) | (with_reducible assumption) | (with_reducible refine below_over ?_ _ _) | (with_reducible refine Lw.below_alloc ?_ _) | (with_reducible refine Below.drew ?_) | (with_reducible refine below_drewN ?_ _) | (with_reducible refine Below.setCell ?_ ?_ _) | go_size))) (HMQ.out.up (by repeat' (first | (with_reducible exact Below.refl _ _) | (with_reducible assumption) | (with_reducible refine below_over ?_ _ _) | (with_reducible refine Lw.below_alloc ?_ _) | (with_reducible refine Below.drew ?_) | (with_reducible refine below_drewN ?_ _) | (with_reducible refine Below.setCell ?_ ?_ _) | go_size))) rfl rfl (by omega) (by omega)).mono ?_); rintro e u6 ⟨rfl, hb⟩; have hbG : Below w2.heap.size w2 u6 := below_call (show Below w2.heap.size w2 _ from (by repeat' (first | (with_reducible exact Below.refl _ _) | (with_reducible assumption) | (with_reducible refine below_over ?_ _ _) | (with_reducible refine Lw.below_alloc ?_ _) | (with_reducible refine Below.drew ?_) | (with_reducible refine below_drewN ?_ _) | (with_reducible refine Below.setCell ?_ ?_ _) | go_size))) hb (Nat.le_refl _); clear hb))
        all_goals go_wp2
        all_goals go_roundw
        all_goals first
          | exact ⟨k + 1, _, _, _, _, _, _, _, _, _, _, hk1', hk2', rfl, rfl, rfl, rfl, by go_num, HVE.out.up (by repeat' (first | (with_reducible exact Below.refl _ _) | (with_reducible assumption) | (with_reducible refine below_over ?_ _ _) | (with_reducible refine Lw.below_alloc ?_ _) | (with_reducible refine Below.drew ?_) | (with_reducible refine below_drewN ?_ _) | (with_reducible refine Below.setCell ?_ ?_ _) | go_size))⟩
          | (simp [intOf]; omega)
    · have hcases : ((k : Int) < n0 ∧ ¬ (k : Int) < 60) ∨ ¬ (k : Int) < n0 := by omega
      obtain ⟨e0, e1, e2, e3, e4⟩ := box5 HVr.out.i4
      have HCF := Lib.hid (fun w' h => econfig_any p F c l L w' h)
      have HLV := Lib.hid (fun w' h => elevel_any p F c l L w' h)
      clear hlt hwb
      rcases hcases with ⟨hc1, hc2⟩ | hc1
      all_goals go_upto_region 50 with fail
      all_goals go_region_held3 (fun w' => w'.cell? ⟨gc, 0, none⟩ = some (.int .i64 c.bt) ∧ w'.cell? ⟨gc, 1, none⟩ = some (.int .i64 c.rw) ∧ w'.cell? ⟨gc, 2, none⟩ = some (.int .i64 c.wd) ∧ w'.cell? ⟨gc, 3, none⟩ = some (.int .i64 c.md) ∧ w'.cell? ⟨gc, 4, none⟩ = some (.int .u64 c.sd)) (first | (refine ⟨?_, ?_, ?_, ?_, ?_⟩ <;> (first | (with_reducible assumption) | (with_reducible refine cell_up e0 ?_) | (with_reducible refine cell_up e1 ?_) | (with_reducible refine cell_up e2 ?_) | (with_reducible refine cell_up e3 ?_) | (with_reducible refine cell_up e4 ?_)) <;> (repeat' (first | (with_reducible exact Below.refl _ _) | (with_reducible assumption) | (with_reducible refine below_over ?_ _ _) | (with_reducible refine Lw.below_alloc ?_ _) | (with_reducible refine Below.drew ?_) | (with_reducible refine below_drewN ?_ _) | (with_reducible refine Below.setCell ?_ ?_ _) | go_size)))) (first
        | (go_at_call 27; (with_reducible refine (HCF.out _ (exI (HVr.out.up (by repeat' (first | (with_reducible exact Below.refl _ _) | (with_reducible assumption) | (with_reducible refine below_over ?_ _ _) | (with_reducible refine Lw.below_alloc ?_ _) | (with_reducible refine Below.drew ?_) | (with_reducible refine below_drewN ?_ _) | (with_reducible refine Below.setCell ?_ ?_ _) | go_size))).i1)).mono ?_); rintro e w' ⟨rfl, hb⟩; obtain ⟨bs1, dd1, rfl⟩ := below_grow hb; clear hb)
        | (go_at_call 28; (with_reducible refine (HLV.out _ (exI (HVr.out.up (by repeat' (first | (with_reducible exact Below.refl _ _) | (with_reducible assumption) | (with_reducible refine below_over ?_ _ _) | (with_reducible refine Lw.below_alloc ?_ _) | (with_reducible refine Below.drew ?_) | (with_reducible refine below_drewN ?_ _) | (with_reducible refine Below.setCell ?_ ?_ _) | go_size))).i1)).mono ?_); rintro e w' ⟨rfl, hb⟩; obtain ⟨bs2, dd2, rfl⟩ := below_grow hb; clear hb))
      all_goals go_wp2
      all_goals go_ret
      all_goals exact ⟨ret_bs (by first | rfl | (simp [*]; done)), (HVr.out.up (by repeat' (first | (with_reducible exact Below.refl _ _) | (with_reducible assumption) | (with_reducible refine below_over ?_ _ _) | (with_reducible refine Lw.below_alloc ?_ _) | (with_reducible refine Below.drew ?_) | (with_reducible refine below_drewN ?_ _) | (with_reducible refine Below.setCell ?_ ?_ _) | go_size))).below⟩
namespace exactPlays
open Go.ChangeShapes Go.WideShapes Go.ChangeAt Go.Joins
set_option maxRecDepth 100000 in
theorem lifted (os : Os) (started : os.Started) (H : Type) (enc : TypeId × Value → H) :
    ReturnsInHanded {} Try.checked os 3 .any (Rows.exactPlaysSpec.pre6 enc Try.prog Try.f3 Rows.exactPlaysRow.domain false) (Rows.exactPlaysSpec.post enc Try.prog Try.f3 false true false false) := by
  refine Lw.lifted (C := Try.checked) (B := 4) (by kernel_rfl) os started (by kernel_rfl) Try.func3
    (ChangeSpec.witness6 (enc := enc) (C := Try.checked) false ⟨#[], #[.agg #[.int .i64 0, .int .i64 0, .int .i64 0, .int .i64 0, .int .u64 0], .int .i64 0, .slice none 0 0], []⟩ 8 (by kernel_rfl) (by kernel_rfl) (by kernel_rfl) (by kernel_rfl)) rfl Try.underlying4 (by kernel_rfl) (by kernel_rfl) (by kernel_rfl) ?_ ?_
  · intro ds h
    rw [Try.params3] at h
    match ds, h with
    | [_, _, _], _ => rfl
  · intro W base args ds p hval hA
    rw [Try.params3] at hA hval
    obtain ⟨v0, vs0, d0, ds0, p0, q0, hargs, rfl, rfl, h0, r0⟩ := trodAll_cons hA
    obtain ⟨v1, vs1, d1, ds1, p1, q1, rfl, rfl, rfl, h1, r1⟩ := trodAll_cons r0
    obtain ⟨v2, vs2, d2, ds2, p2, q2, rfl, rfl, rfl, h2, r2⟩ := trodAll_cons r1
    obtain ⟨rfl, rfl, rfl⟩ := trodAll_nil r2
    obtain rfl : args = #[v0, v1, v2] := by cases args; simp_all
    obtain ⟨x0_0, x0_1, x0_2, x0_3, x0_4, rfl, z0_0, z0_1, z0_2, z0_3, z0_4⟩ := open_cfg (hval 0 24 v0 rfl rfl) h0
    obtain ⟨a1, rfl, rfl, rfl, w1⟩ := open_int Try.underlying3 (hval 1 3 v1 rfl rfl) h1
    have b1 := Lw.wf_i64 w1
    obtain ⟨fu2, hf2⟩ := h2
    obtain ⟨A2, n2, c2, qs2, e2, hA2, hn2, hc2, hl2, he2⟩ := open_opk hf2
    have ev2 : v2 = .slice A2 n2 c2 := by have h := hval 2 25 v2 rfl rfl; obtain ⟨a0, le, ca, rfl⟩ := Go.WideShapes.okWide_slice Try.underlying25 h; simpa [Value.cells] using e2
    subst ev2
    exact plays_law ⟨x0_0, x0_1, x0_2, x0_3, x0_4⟩ a1 A2 n2 c2 qs2 W ⟨z0_0.1, z0_0.2, z0_1.1, z0_1.2, z0_2.1, z0_2.2, z0_3.1, z0_3.2, z0_4.1, z0_4.2⟩ b1 ⟨hA2, hn2, hc2, hl2, he2⟩
theorem over : Rows.exactPlaysRow.holds Try.pinned (OpenSpec.ofChange Rows.exactPlaysSpec) :=
  OpenClaim.holds_of_wide 3 Try.f3 rfl rfl rfl rfl rfl rfl rfl ⟨rfl, rfl, rfl, rfl, rfl⟩ rfl rfl rfl rfl rfl (by kernel_rfl) Try.func3 (by kernel_rfl)
    (of_decide_eq_true (by kernel_rfl)) (by unfold Func.isWrapper; first | (rw [if_pos (by decide +kernel)]; kernel_rfl) | (rw [if_neg (by decide +kernel)]; exact ⟨rfl, rfl⟩))
    (fun os started H enc _ => lifted os started H enc)
theorem proved : Rows.ExactPlaysSaid :=
  over
#print axioms proved
end exactPlays
end Go.Proofs.Ytnhknachabephaa.Exa
