/- The statement SketchLoads of layer 10 holds. Printed by wip/gen/skload.py. -/
import Derived.Test.YtahgkiceifblmaaMg
import Derived.Deep.LoopGhost
import Derived.Deep.RegionHeld3
import Derived.Deep.DeepCutAuto
import Derived.Deep.QuietTactic
import Derived.BigQuiet
namespace Go.Proofs.Ytahgkiceifblmaa.Sk
open Go Go.RowKit Lw Grd Lin Con Shp
set_option linter.unusedVariables false
set_option linter.unusedSimpArgs false
theorem cells_dims3 {c : Cfg} {l : Int} (hr : IsRight c) {us : Ups} (h : UpsIn c l us) (hl : us.length ≤ 60) (hm : c.md ≠ 2) : Dims (rws c) (wds c) (cells c l us) := by
  have hw := within_mono (chAll_within (c := 1099511627776) (by omega) (b := 0) (Int.le_refl _) (within_zeros (rws c) (wds c)) (opsU_ok h.1)) (c := 65970697666560) (by rw [opsU_len]; omega)
  rw [← cells_lin hm] at hw
  exact dims_of (cells_sz h) hw (by omega) (rws_bd hr).2.1 (wds_bd hr).2.1
theorem yes_ap {w0 w w1 : World} {t0 t1 t2 t3 : Thing} {p : Addr} {F : Nat → Prop} {c : Cfg} {l : Int} {L : List (List Int)} {ts : List Thing} {e : TypeId} {A5 : Addr} {n cap : Nat} {xs : List Value} (h : Have w0 w (t0 :: t1 :: t2 :: t3 :: skT p F c l L :: ts)) (ho : w1.ownsRow w.heap.size e 1 (.slice (some A5) n cap) n xs) : ∀ a, some A5 = some a → ¬ F a.block := by
  intro a ha hF
  injection ha with ha
  subst ha
  have h1 := (skI h.i4).lt _ hF
  have h2 := own_ge ho A5.block rfl
  omega
theorem slice_to (a2 : Addr) (n2 k2 : Nat) (h : n2 ≤ k2) (hk : ¬ k2 = 0) (w : World) : (Instr.slice 32 (.slice (some a2) n2 k2) none (some (.int .i64 (n2 : Int))) none).run Try.prog w = .ok (.slice (some a2) n2 k2) w := by
  have m4 : (n2 : Int) ≤ (k2 : Int) := by omega
  simp [Instr.slice, Instr.sliceBounds, Instr.sliceBound, asIntOf, m4, h, hk, go_sem]
theorem mid_ap {w0 w : World} {g : Nat} {zs : List Int} {q : Addr} {G : Nat → Prop} {c : Cfg} {l : Int} {M : List (List Int)} {ts : List Thing} (h : Have w0 w (midT g zs :: skT q G c l M :: ts)) : ¬ G g := h.ap01 g rfl
theorem flat_inj {m n : Nat} {L M : List (List Int)} (hL : Dims m n L) (hM : Dims m n M) (h : L.flatten = M.flatten) : L = M := by
  refine sz_ext (sz_of_dims hL) (sz_of_dims hM) fun r q hr hq => ?_
  rw [cel_flat (sz_of_dims hL) hr hq, cel_flat (sz_of_dims hM) hr hq, h]
set_option maxRecDepth 100000 in
set_option maxHeartbeats 8000000 in
theorem loads_a (x : Cfg) (lv : Int) (A : Option Addr) (n0 k0 : Nat) (qs : Ups)  (zs : List Int) (w : World) (hx : x.Ok) (hlv : -9223372036854775808 ≤ lv ∧ lv ≤ 9223372036854775807) (hq : UpdV w A n0 k0 qs)  :
    Calls Try.prog 9 #[.agg #[.int .i64 x.bt, .int .i64 x.rw, .int .i64 x.wd, .int .i64 x.md, .int .u64 x.sd, .int .i64 lv, .slice A n0 k0], .slice none 0 0] w fun e w' => e = .returned (.bool true) ∧ Below w.heap.size w w' := by
  obtain ⟨c, hC⟩ : ∃ c, cfgP x 1 = c := ⟨_, rfl⟩
  obtain ⟨l, hl⟩ : ∃ l, lv % 65536 % (c.bt + 1) = l := ⟨_, rfl⟩
  have hr := cfgP_right x 1 (by omega) (by omega)
  have hco := cfgP_ok x hx 1 (by omega) (by omega)
  have hmd : c.md = 1 := by rw [← hC]; rfl
  rw [hC] at hr hco
  have hlb : 0 ≤ l ∧ l ≤ c.bt := by
    have h1 := hr.1.1
    have h2 := Int.emod_nonneg (lv % 65536) (show c.bt + 1 ≠ 0 by omega)
    have h3 := Int.emod_lt_of_pos (lv % 65536) (show 0 < c.bt + 1 by omega)
    omega
  have hbt := hr.2
  have hkeys : 1 ≤ keys c l := keys_pos.2 ⟨hr.1, hlb.1, hlb.2⟩
  have hne2 : c.md ≠ 2 := by omega
  have D := Lib.hid (fun w hq => fed_any x lv A n0 k0 qs 1 0 60 0 60 c l w hx hlv hq (by omega) (by omega) rfl rfl (by omega) (by omega) hC hl)
  have CN := Lib.hid (fun w => snew_yes c l w hco (by omega) (by omega) hkeys)
  have i1 := upsR_in hkeys qs 0 60
  have d1 := cells_dims3 hr.1 i1 (upsR_len c l qs 0 60) hne2
  obtain ⟨L, hL⟩ : ∃ L, cells c l (upsR c l qs 0 60) = L := ⟨_, rfl⟩
  rw [hL] at D d1
  have CL := Lib.hid (fun p F w h => scells_mid p F c l L w h)
  obtain ⟨V, hV⟩ : ∃ V, ptVal c l L 0 = V := ⟨_, rfl⟩
  have CP := Lib.hid (fun p F w h => spoint_any p F c l L 0 w h (by omega) (by omega))
  rw [hV, pt_ok (show (0 : Int) < keys c l by omega)] at CP
  have FL := Lib.hid (flat_dims d1)
  have FZ := Lib.hid (flat_in64 d1)
  have HD := Lib.hid d1
  have CO : Hid (∀ q G w, SK w q G c l (zerosL (rws c) (wds c)) → ∀ g cap, Ord.Mid w g 0 L.flatten → ¬ G g → Calls Try.prog 25 #[.pointer (some q), .slice (some ⟨g, 0, none⟩) (rws c * wds c) cap] w fun e w' => e = .returned (.bool true) ∧ ∃ F', SK w' q F' c l L ∧ Kept G w w' ∧ (∀ k, F' k → G k ∨ w.heap.size ≤ k)) := Lib.hid (fun q G w h g cap hm hg => (sload_yes q G c l _ _ _ cap L.flatten w h hm.rd FL.out (Nat.le_trans (Nat.mul_le_mul (rws_bd hr.1).2.1 (wds_bd hr.1).2.1) (by omega)) FZ.out (fun a ha hG => by injection ha with ha; subst ha; exact hg hG) rfl).mono (fun e w' ⟨e1, F', L', h1, h2, h3, h4⟩ => ⟨e1, F', by have h5 := flat_inj h1.dims HD.out h2; rw [h5] at h1; exact h1, h3, h4⟩))
  have hq9 : rws c * wds c ≤ 1024 := Nat.mul_le_mul (rws_bd hr.1).2.1 (wds_bd hr.1).2.1
  have hq8 : 1 ≤ rws c * wds c := Nat.mul_pos (rws_bd hr.1).1 (wds_bd hr.1).1
  obtain ⟨Q, hQ⟩ : ∃ Q, rws c * wds c = Q := ⟨_, rfl⟩
  have HQE := Lib.hid hQ
  rw [hQ] at CL FL CO hq9 hq8
  have HQ := Lib.hid hq
  obtain ⟨i0, hi, hz0, hz1, hz2x⟩ := info_parts i64_info
  have HBX : Hid (Have w (w.alloc (.cells #[.int .i64 x.bt, .int .i64 x.rw, .int .i64 x.wd, .int .i64 x.md, .int .u64 x.sd, .int .i64 lv, .slice A n0 k0] 27)) [boxT w.heap.size 27 #[.int .i64 x.bt, .int .i64 x.rw, .int .i64 x.wd, .int .i64 x.md, .int .u64 x.sd, .int .i64 lv, .slice A n0 k0]]) := Lib.hid (box_new w _ _)
  clear hC hl hr hco hmd hlb hkeys hne2 i1 d1 hL hV hq hx hbt hlv
  go_enter Try.func9, Try.ntmps9
  go_wp2_with (first
    | (go_at_call 19; (with_reducible refine (CP.out _ _ _ (skI HV8.out.i2)).mono ?_); rintro e w9 ⟨rfl, hb⟩; have HV9 := Lib.hid (HV8.out.up hb); clear hb; clear x0 x1 x2 x3 x4 x5 x6 e1 e2 e3 e4 e5; obtain ⟨x0, x1, x2, x3, x4, x5, x6⟩ := box7 HV9.out.i5; obtain ⟨e1, e2, e3, e4, e5⟩ := box5 HV9.out.i3)
    | (go_at_call 19; (with_reducible refine (CP.out _ _ _ (skI HV7.out.i4)).mono ?_); rintro e w8 ⟨rfl, hb⟩; have HV8 := Lib.hid (HV7.out.up hb); clear hb; clear x0 x1 x2 x3 x4 x5 x6 e1 e2 e3 e4 e5; obtain ⟨x0, x1, x2, x3, x4, x5, x6⟩ := box7 HV8.out.i5; obtain ⟨e1, e2, e3, e4, e5⟩ := box5 HV8.out.i3)
    | (go_at_call 14; (with_reducible refine (rsame_any _ _ _ _ _ _ _ _ _ (midI HV6.out.i0).rd (midI HV6.out.i1).rd FL.out FL.out (by omega) (by omega)).mono ?_); rintro e w7 ⟨rfl, hb⟩; have HV7 := Lib.hid (HV6.out.up hb); clear hb; clear x0 x1 x2 x3 x4 x5 x6 e1 e2 e3 e4 e5; obtain ⟨x0, x1, x2, x3, x4, x5, x6⟩ := box7 HV7.out.i5; obtain ⟨e1, e2, e3, e4, e5⟩ := box5 HV7.out.i3)
    | (go_at_call 15; (with_reducible refine (CL.out _ _ _ (skI HV5.out.i1)).mono ?_); rintro e w6 ⟨g2, cap2, rfl, h1, h2, -, -, hb⟩; have HV6 := Lib.hid (HV5.out.push (midT g2 L.flatten) hb h1 (fun k hk => by subst hk; exact h2)); clear h1 h2 hb; clear x0 x1 x2 x3 x4 x5 x6 e1 e2 e3 e4 e5; obtain ⟨x0, x1, x2, x3, x4, x5, x6⟩ := box7 HV6.out.i5; obtain ⟨e1, e2, e3, e4, e5⟩ := box5 HV6.out.i3)
    | (go_at_call 25; (with_reducible refine (CO.out q G _ (skI HV4.out.i1) g1 cap1 (midI HV4.out.i0) (mid_ap HV4.out)).mono ?_); rintro e w5 ⟨rfl, G2, h1, h2, h3⟩; have HV5 := Lib.hid (HV4.out.turn_1 (skT q G2 c l L) h1 h2 h3); clear h1 h2 h3; clear x0 x1 x2 x3 x4 x5 x6 e1 e2 e3 e4 e5; obtain ⟨x0, x1, x2, x3, x4, x5, x6⟩ := box7 HV5.out.i4; obtain ⟨e1, e2, e3, e4, e5⟩ := box5 HV5.out.i2)
    | (go_at_call 15; (with_reducible refine (CL.out _ _ _ (skI HV3.out.i2)).mono ?_); rintro e w4 ⟨g1, cap1, rfl, h1, h2, hc1, hm1, hb⟩; have HV4 := Lib.hid (HV3.out.push (midT g1 L.flatten) hb h1 (fun k hk => by subst hk; exact h2)); clear h1 h2 hb; clear x0 x1 x2 x3 x4 x5 x6 e1 e2 e3 e4 e5; obtain ⟨x0, x1, x2, x3, x4, x5, x6⟩ := box7 HV4.out.i4; obtain ⟨e1, e2, e3, e4, e5⟩ := box5 HV4.out.i2)
    | (go_at_call 23; (with_reducible refine (CN.out _).mono ?_); rintro e w3 ⟨q, G, rfl, h1, h2, hb⟩; have HV3 := Lib.hid (HV2.out.push (skT q G c l (zerosL (rws c) (wds c))) hb h1 h2); clear h1 h2 hb; clear x0 x1 x2 x3 x4 x5 x6 e1 e2 e3 e4 e5; obtain ⟨x0, x1, x2, x3, x4, x5, x6⟩ := box7 HV3.out.i3; obtain ⟨e1, e2, e3, e4, e5⟩ := box5 HV3.out.i1)
    | (go_at_call 11; (with_reducible refine (D.out _ (HQ.out.up HV1.out.below)).mono ?_); rintro e w2 ⟨p, F, rfl, hv⟩; have HVq := HV1.out.join hv; simp only [List.cons_append, List.nil_append] at HVq; have HV2 := Lib.hid (HVq.push (boxT w2.heap.size 24 #[.int .i64 c.bt, .int .i64 c.rw, .int .i64 c.wd, .int .i64 c.md, .int .u64 c.sd]) (Lw.below_alloc (Below.refl _ _) _) (heap_alloc_new w2 _) (fun k hk => Nat.le_of_eq hk.symm)); clear hv HVq; clear x0 x1 x2 x3 x4 x5 x6; obtain ⟨x0, x1, x2, x3, x4, x5, x6⟩ := box7 HV2.out.i2; obtain ⟨e1, e2, e3, e4, e5⟩ := box5 HV2.out.i0)
    | (go_at_call 10; (with_reducible refine (shown_any _).mono ?_); rintro e w1 ⟨rfl, hb⟩; have HV1 := Lib.hid (HBX.out.up hb); clear hb; obtain ⟨x0, x1, x2, x3, x4, x5, x6⟩ := box7 HV1.out.i0))
  clear x0 x1 x2 x3 x4 x5 x6 e1 e2 e3 e4 e5
  have hsl : ∀ w, (Instr.slice 32 (.slice none 0 0) none (some (.int .i64 0)) none).run Try.prog w = .ok (.slice none 0 0) w := fun w => by simp [Instr.slice, Instr.sliceBounds, Instr.sliceBound, asIntOf, go_sem]
  obtain ⟨Q1, hQ1⟩ : ∃ Q1 : Nat, Q = Q1 + 1 := ⟨Q - 1, by omega⟩
  have hmin : (if (1 : Int) < (Q : Int) then 1 else (Q : Int)) = 1 := by split <;> omega
  have hs1 : IntKind.i64.wrap ((Q : Int) - 1) = (Q1 : Int) := by rw [IntWalk.i64_in _ ⟨by omega, by omega⟩]; omega
  have hs2 : wrap64 ((Q : Int) - 1) = (Q1 : Int) := by rw [IntWalk.wrap64_in _ ⟨by omega, by omega⟩]; omega
  have hs3 := slice_to ⟨g1, 0, none⟩ Q1 cap1 (by omega) (by omega)
  have HTQ : Hid ((L.flatten.take Q1).length = Q1) := Lib.hid (by rw [List.length_take, FL.out]; omega)
  have hq7 : Q1 ≤ cap1 := by omega
  have hq6 : (Q1 : Int) ≤ (cap1 : Int) := by omega
  have HQ1 := Lib.hid hQ1
  clear hQ1
  go_region_held3 (fun w' => True) (trivial) (first
    | (refine app_step .i64 rfl _ _ 32 rfl w9.heap.size 2 i0 8 i64s_u hi hz0 hz1 hz2x (.slice (some ⟨w9.heap.size, 0, none⟩) 0 0) 0 [] rfl (own_empty w9.drew _ _ _ (Nat.le_refl _)) (fun h => by cases h) (some ⟨g1, 0, none⟩) Q cap1 L.flatten rfl (by simp) FL.out ((midI HV9.out.i1).rd.up (by repeat' (first | (with_reducible exact Below.refl _ _) | (with_reducible assumption) | (with_reducible refine below_over ?_ _ _) | (with_reducible refine Lw.below_alloc ?_ _) | (with_reducible refine Below.drew ?_) | (with_reducible refine below_drewN ?_ _) | (with_reducible refine Below.setCell ?_ ?_ _) | go_size))) (by unfold maxLen; omega) (by omega) (by simp) ?_; intro A4 cap4 w10 hown4 hgrow4 hrd4 hcap6 hcap7; have hb4 : Below w9.heap.size w9 w10 := app_below2 (by repeat' (first | (with_reducible exact Below.refl _ _) | (with_reducible assumption) | (with_reducible refine below_over ?_ _ _) | (with_reducible refine Lw.below_alloc ?_ _) | (with_reducible refine Below.drew ?_) | (with_reducible refine below_drewN ?_ _) | (with_reducible refine Below.setCell ?_ ?_ _) | go_size)) hgrow4 (Nat.le_refl _); (try simp only [Nat.zero_add, List.nil_append] at hown4 hrd4 hcap6); (try simp only [Nat.zero_add]); have HO4 := Lib.hid hown4; have HR4 := Lib.hid hrd4; have HB4 := Lib.hid hb4; clear hown4 hrd4 hgrow4 hcap6 hcap7)
    | (refine app_step .i64 rfl _ _ 32 rfl w9.heap.size 2 i0 8 i64s_u hi hz0 hz1 hz2x (.slice (some A4) Q cap4) Q L.flatten rfl HO4.out (fun h => by cases h) none 0 0 ([] : List Int) rfl (by simp) rfl (rd_nil _ _ _) (by unfold maxLen; omega) (by omega) HB4.out.size ?_; intro A5 cap5 w11 hown5 hgrow5 hrd5 hcap8 hcap9; have hb5 : Below w9.heap.size w9 w11 := HB4.out.grown hgrow5 HB4.out.size (fun k hk => own_ge HO4.out k hk))
    | (go_at_call 25; (with_reducible refine ((sload_yes p F c l L (some A5) _ cap5 (L.flatten ++ []) w11 (skI ((HV9.out.up hb5).i4)) hrd5 (by simp [FL.out]) (by omega) (by rw [List.append_nil]; exact FZ.out) (yes_ap HV9.out hown5) (by rw [HQE.out]))).mono ?_); rintro e w12 ⟨rfl, F2, L2, h1, h2, h3, h4⟩; have hLL : L2 = L := flat_inj h1.dims HD.out (by rw [h2, List.append_nil]); have hF9 := h1; rw [hLL] at h1; have HVa := Lib.hid ((HV9.out.up hb5).turn_4 (skT p F2 c l L) h1 h3 h4); clear h1 h2 h3 h4 hLL hF9))
  all_goals clear hcap8 hcap9 hgrow5 hown5 hrd5
  all_goals go_wp2_with (first
    | (go_at_call 14; (with_reducible refine (rsame_any _ _ _ _ _ _ _ _ _ (midI HVd.out.i0).rd (midI HVd.out.i2).rd FL.out FL.out (by omega) (by omega)).mono ?_); rintro e w15 ⟨rfl, hb⟩; have HVe := Lib.hid (HVd.out.up hb); clear hb)
    | (go_at_call 15; (with_reducible refine (CL.out _ _ _ (skI HVc.out.i4)).mono ?_); rintro e w14 ⟨g3, cap3, rfl, h1, h2, -, -, hb⟩; have HVd := Lib.hid (HVc.out.push (midT g3 L.flatten) hb h1 (fun k hk => by subst hk; exact h2)); clear h1 h2 hb)
    | (go_at_call 25; (with_reducible refine (sload_no p _ c l L (some ⟨g1, 0, none⟩) Q1 cap1 (L.flatten.take Q1) _ (skI (HVa.out.up (by repeat' (first | (with_reducible exact Below.refl _ _) | (with_reducible assumption) | (with_reducible refine below_over ?_ _ _) | (with_reducible refine Lw.below_alloc ?_ _) | (with_reducible refine Below.drew ?_) | (with_reducible refine below_drewN ?_ _) | (with_reducible refine Below.setCell ?_ ?_ _) | go_size))).i4) (((midI (HVa.out.up (by repeat' (first | (with_reducible exact Below.refl _ _) | (with_reducible assumption) | (with_reducible refine below_over ?_ _ _) | (with_reducible refine Lw.below_alloc ?_ _) | (with_reducible refine Below.drew ?_) | (with_reducible refine below_drewN ?_ _) | (with_reducible refine Below.setCell ?_ ?_ _) | go_size))).i1).rd).take Q1) HTQ.out (by have := HQ1.out; omega) (by rw [HQE.out]; have := HQ1.out; omega)).mono ?_); rintro e w13 ⟨rfl, hb⟩; have HVc := Lib.hid ((HVa.out.up (by repeat' (first | (with_reducible exact Below.refl _ _) | (with_reducible assumption) | (with_reducible refine below_over ?_ _ _) | (with_reducible refine Lw.below_alloc ?_ _) | (with_reducible refine Below.drew ?_) | (with_reducible refine below_drewN ?_ _) | (with_reducible refine Below.setCell ?_ ?_ _) | go_size))).up hb); clear hb))
  all_goals go_ret
  all_goals exact ⟨ret_bs (by first | rfl | (simp [*]; done)), HVe.out.below⟩
set_option maxRecDepth 100000 in
set_option maxHeartbeats 8000000 in
theorem loads_b (x : Cfg) (lv : Int) (A : Option Addr) (n0 k0 : Nat) (qs : Ups) (a2 : Addr) (zs : List Int) (w : World) (hx : x.Ok) (hlv : -9223372036854775808 ≤ lv ∧ lv ≤ 9223372036854775807) (hq : UpdV w A n0 k0 qs)  :
    Calls Try.prog 9 #[.agg #[.int .i64 x.bt, .int .i64 x.rw, .int .i64 x.wd, .int .i64 x.md, .int .u64 x.sd, .int .i64 lv, .slice A n0 k0], .slice (some a2) 0 0] w fun e w' => e = .returned (.bool true) ∧ Below w.heap.size w w' := by
  obtain ⟨c, hC⟩ : ∃ c, cfgP x 1 = c := ⟨_, rfl⟩
  obtain ⟨l, hl⟩ : ∃ l, lv % 65536 % (c.bt + 1) = l := ⟨_, rfl⟩
  have hr := cfgP_right x 1 (by omega) (by omega)
  have hco := cfgP_ok x hx 1 (by omega) (by omega)
  have hmd : c.md = 1 := by rw [← hC]; rfl
  rw [hC] at hr hco
  have hlb : 0 ≤ l ∧ l ≤ c.bt := by
    have h1 := hr.1.1
    have h2 := Int.emod_nonneg (lv % 65536) (show c.bt + 1 ≠ 0 by omega)
    have h3 := Int.emod_lt_of_pos (lv % 65536) (show 0 < c.bt + 1 by omega)
    omega
  have hbt := hr.2
  have hkeys : 1 ≤ keys c l := keys_pos.2 ⟨hr.1, hlb.1, hlb.2⟩
  have hne2 : c.md ≠ 2 := by omega
  have D := Lib.hid (fun w hq => fed_any x lv A n0 k0 qs 1 0 60 0 60 c l w hx hlv hq (by omega) (by omega) rfl rfl (by omega) (by omega) hC hl)
  have CN := Lib.hid (fun w => snew_yes c l w hco (by omega) (by omega) hkeys)
  have i1 := upsR_in hkeys qs 0 60
  have d1 := cells_dims3 hr.1 i1 (upsR_len c l qs 0 60) hne2
  obtain ⟨L, hL⟩ : ∃ L, cells c l (upsR c l qs 0 60) = L := ⟨_, rfl⟩
  rw [hL] at D d1
  have CL := Lib.hid (fun p F w h => scells_mid p F c l L w h)
  obtain ⟨V, hV⟩ : ∃ V, ptVal c l L 0 = V := ⟨_, rfl⟩
  have CP := Lib.hid (fun p F w h => spoint_any p F c l L 0 w h (by omega) (by omega))
  rw [hV, pt_ok (show (0 : Int) < keys c l by omega)] at CP
  have FL := Lib.hid (flat_dims d1)
  have FZ := Lib.hid (flat_in64 d1)
  have HD := Lib.hid d1
  have CO : Hid (∀ q G w, SK w q G c l (zerosL (rws c) (wds c)) → ∀ g cap, Ord.Mid w g 0 L.flatten → ¬ G g → Calls Try.prog 25 #[.pointer (some q), .slice (some ⟨g, 0, none⟩) (rws c * wds c) cap] w fun e w' => e = .returned (.bool true) ∧ ∃ F', SK w' q F' c l L ∧ Kept G w w' ∧ (∀ k, F' k → G k ∨ w.heap.size ≤ k)) := Lib.hid (fun q G w h g cap hm hg => (sload_yes q G c l _ _ _ cap L.flatten w h hm.rd FL.out (Nat.le_trans (Nat.mul_le_mul (rws_bd hr.1).2.1 (wds_bd hr.1).2.1) (by omega)) FZ.out (fun a ha hG => by injection ha with ha; subst ha; exact hg hG) rfl).mono (fun e w' ⟨e1, F', L', h1, h2, h3, h4⟩ => ⟨e1, F', by have h5 := flat_inj h1.dims HD.out h2; rw [h5] at h1; exact h1, h3, h4⟩))
  have hq9 : rws c * wds c ≤ 1024 := Nat.mul_le_mul (rws_bd hr.1).2.1 (wds_bd hr.1).2.1
  have hq8 : 1 ≤ rws c * wds c := Nat.mul_pos (rws_bd hr.1).1 (wds_bd hr.1).1
  obtain ⟨Q, hQ⟩ : ∃ Q, rws c * wds c = Q := ⟨_, rfl⟩
  have HQE := Lib.hid hQ
  rw [hQ] at CL FL CO hq9 hq8
  have HQ := Lib.hid hq
  obtain ⟨i0, hi, hz0, hz1, hz2x⟩ := info_parts i64_info
  have HBX : Hid (Have w (w.alloc (.cells #[.int .i64 x.bt, .int .i64 x.rw, .int .i64 x.wd, .int .i64 x.md, .int .u64 x.sd, .int .i64 lv, .slice A n0 k0] 27)) [boxT w.heap.size 27 #[.int .i64 x.bt, .int .i64 x.rw, .int .i64 x.wd, .int .i64 x.md, .int .u64 x.sd, .int .i64 lv, .slice A n0 k0]]) := Lib.hid (box_new w _ _)
  clear hC hl hr hco hmd hlb hkeys hne2 i1 d1 hL hV hq hx hbt hlv
  go_enter Try.func9, Try.ntmps9
  go_wp2_with (first
    | (go_at_call 19; (with_reducible refine (CP.out _ _ _ (skI HV8.out.i2)).mono ?_); rintro e w9 ⟨rfl, hb⟩; have HV9 := Lib.hid (HV8.out.up hb); clear hb; clear x0 x1 x2 x3 x4 x5 x6 e1 e2 e3 e4 e5; obtain ⟨x0, x1, x2, x3, x4, x5, x6⟩ := box7 HV9.out.i5; obtain ⟨e1, e2, e3, e4, e5⟩ := box5 HV9.out.i3)
    | (go_at_call 19; (with_reducible refine (CP.out _ _ _ (skI HV7.out.i4)).mono ?_); rintro e w8 ⟨rfl, hb⟩; have HV8 := Lib.hid (HV7.out.up hb); clear hb; clear x0 x1 x2 x3 x4 x5 x6 e1 e2 e3 e4 e5; obtain ⟨x0, x1, x2, x3, x4, x5, x6⟩ := box7 HV8.out.i5; obtain ⟨e1, e2, e3, e4, e5⟩ := box5 HV8.out.i3)
    | (go_at_call 14; (with_reducible refine (rsame_any _ _ _ _ _ _ _ _ _ (midI HV6.out.i0).rd (midI HV6.out.i1).rd FL.out FL.out (by omega) (by omega)).mono ?_); rintro e w7 ⟨rfl, hb⟩; have HV7 := Lib.hid (HV6.out.up hb); clear hb; clear x0 x1 x2 x3 x4 x5 x6 e1 e2 e3 e4 e5; obtain ⟨x0, x1, x2, x3, x4, x5, x6⟩ := box7 HV7.out.i5; obtain ⟨e1, e2, e3, e4, e5⟩ := box5 HV7.out.i3)
    | (go_at_call 15; (with_reducible refine (CL.out _ _ _ (skI HV5.out.i1)).mono ?_); rintro e w6 ⟨g2, cap2, rfl, h1, h2, -, -, hb⟩; have HV6 := Lib.hid (HV5.out.push (midT g2 L.flatten) hb h1 (fun k hk => by subst hk; exact h2)); clear h1 h2 hb; clear x0 x1 x2 x3 x4 x5 x6 e1 e2 e3 e4 e5; obtain ⟨x0, x1, x2, x3, x4, x5, x6⟩ := box7 HV6.out.i5; obtain ⟨e1, e2, e3, e4, e5⟩ := box5 HV6.out.i3)
    | (go_at_call 25; (with_reducible refine (CO.out q G _ (skI HV4.out.i1) g1 cap1 (midI HV4.out.i0) (mid_ap HV4.out)).mono ?_); rintro e w5 ⟨rfl, G2, h1, h2, h3⟩; have HV5 := Lib.hid (HV4.out.turn_1 (skT q G2 c l L) h1 h2 h3); clear h1 h2 h3; clear x0 x1 x2 x3 x4 x5 x6 e1 e2 e3 e4 e5; obtain ⟨x0, x1, x2, x3, x4, x5, x6⟩ := box7 HV5.out.i4; obtain ⟨e1, e2, e3, e4, e5⟩ := box5 HV5.out.i2)
    | (go_at_call 15; (with_reducible refine (CL.out _ _ _ (skI HV3.out.i2)).mono ?_); rintro e w4 ⟨g1, cap1, rfl, h1, h2, hc1, hm1, hb⟩; have HV4 := Lib.hid (HV3.out.push (midT g1 L.flatten) hb h1 (fun k hk => by subst hk; exact h2)); clear h1 h2 hb; clear x0 x1 x2 x3 x4 x5 x6 e1 e2 e3 e4 e5; obtain ⟨x0, x1, x2, x3, x4, x5, x6⟩ := box7 HV4.out.i4; obtain ⟨e1, e2, e3, e4, e5⟩ := box5 HV4.out.i2)
    | (go_at_call 23; (with_reducible refine (CN.out _).mono ?_); rintro e w3 ⟨q, G, rfl, h1, h2, hb⟩; have HV3 := Lib.hid (HV2.out.push (skT q G c l (zerosL (rws c) (wds c))) hb h1 h2); clear h1 h2 hb; clear x0 x1 x2 x3 x4 x5 x6 e1 e2 e3 e4 e5; obtain ⟨x0, x1, x2, x3, x4, x5, x6⟩ := box7 HV3.out.i3; obtain ⟨e1, e2, e3, e4, e5⟩ := box5 HV3.out.i1)
    | (go_at_call 11; (with_reducible refine (D.out _ (HQ.out.up HV1.out.below)).mono ?_); rintro e w2 ⟨p, F, rfl, hv⟩; have HVq := HV1.out.join hv; simp only [List.cons_append, List.nil_append] at HVq; have HV2 := Lib.hid (HVq.push (boxT w2.heap.size 24 #[.int .i64 c.bt, .int .i64 c.rw, .int .i64 c.wd, .int .i64 c.md, .int .u64 c.sd]) (Lw.below_alloc (Below.refl _ _) _) (heap_alloc_new w2 _) (fun k hk => Nat.le_of_eq hk.symm)); clear hv HVq; clear x0 x1 x2 x3 x4 x5 x6; obtain ⟨x0, x1, x2, x3, x4, x5, x6⟩ := box7 HV2.out.i2; obtain ⟨e1, e2, e3, e4, e5⟩ := box5 HV2.out.i0)
    | (go_at_call 10; (with_reducible refine (shown_any _).mono ?_); rintro e w1 ⟨rfl, hb⟩; have HV1 := Lib.hid (HBX.out.up hb); clear hb; obtain ⟨x0, x1, x2, x3, x4, x5, x6⟩ := box7 HV1.out.i0))
  clear x0 x1 x2 x3 x4 x5 x6 e1 e2 e3 e4 e5
  have hsl : ∀ w, (Instr.slice 32 (.slice (some a2) 0 0) none (some (.int .i64 0)) none).run Try.prog w = .ok (.slice (some a2) 0 0) w := fun w => by simp [Instr.slice, Instr.sliceBounds, Instr.sliceBound, asIntOf, go_sem]
  obtain ⟨Q1, hQ1⟩ : ∃ Q1 : Nat, Q = Q1 + 1 := ⟨Q - 1, by omega⟩
  have hmin : (if (1 : Int) < (Q : Int) then 1 else (Q : Int)) = 1 := by split <;> omega
  have hs1 : IntKind.i64.wrap ((Q : Int) - 1) = (Q1 : Int) := by rw [IntWalk.i64_in _ ⟨by omega, by omega⟩]; omega
  have hs2 : wrap64 ((Q : Int) - 1) = (Q1 : Int) := by rw [IntWalk.wrap64_in _ ⟨by omega, by omega⟩]; omega
  have hs3 := slice_to ⟨g1, 0, none⟩ Q1 cap1 (by omega) (by omega)
  have HTQ : Hid ((L.flatten.take Q1).length = Q1) := Lib.hid (by rw [List.length_take, FL.out]; omega)
  have hq7 : Q1 ≤ cap1 := by omega
  have hq6 : (Q1 : Int) ≤ (cap1 : Int) := by omega
  have HQ1 := Lib.hid hQ1
  clear hQ1
  go_region_held3 (fun w' => True) (trivial) (first
    | (refine app_step .i64 rfl _ _ 32 rfl w9.heap.size 2 i0 8 i64s_u hi hz0 hz1 hz2x (.slice (some ⟨w9.heap.size, 0, none⟩) 0 0) 0 [] rfl (own_empty w9.drew _ _ _ (Nat.le_refl _)) (fun h => by cases h) (some ⟨g1, 0, none⟩) Q cap1 L.flatten rfl (by simp) FL.out ((midI HV9.out.i1).rd.up (by repeat' (first | (with_reducible exact Below.refl _ _) | (with_reducible assumption) | (with_reducible refine below_over ?_ _ _) | (with_reducible refine Lw.below_alloc ?_ _) | (with_reducible refine Below.drew ?_) | (with_reducible refine below_drewN ?_ _) | (with_reducible refine Below.setCell ?_ ?_ _) | go_size))) (by unfold maxLen; omega) (by omega) (by simp) ?_; intro A4 cap4 w10 hown4 hgrow4 hrd4 hcap6 hcap7; have hb4 : Below w9.heap.size w9 w10 := app_below2 (by repeat' (first | (with_reducible exact Below.refl _ _) | (with_reducible assumption) | (with_reducible refine below_over ?_ _ _) | (with_reducible refine Lw.below_alloc ?_ _) | (with_reducible refine Below.drew ?_) | (with_reducible refine below_drewN ?_ _) | (with_reducible refine Below.setCell ?_ ?_ _) | go_size)) hgrow4 (Nat.le_refl _); (try simp only [Nat.zero_add, List.nil_append] at hown4 hrd4 hcap6); (try simp only [Nat.zero_add]); have HO4 := Lib.hid hown4; have HR4 := Lib.hid hrd4; have HB4 := Lib.hid hb4; clear hown4 hrd4 hgrow4 hcap6 hcap7)
    | (refine app_step .i64 rfl _ _ 32 rfl w9.heap.size 2 i0 8 i64s_u hi hz0 hz1 hz2x (.slice (some A4) Q cap4) Q L.flatten rfl HO4.out (fun h => by cases h) (some a2) 0 0 ([] : List Int) rfl (by simp) rfl (rd_nil _ _ _) (by unfold maxLen; omega) (by omega) HB4.out.size ?_; intro A5 cap5 w11 hown5 hgrow5 hrd5 hcap8 hcap9; have hb5 : Below w9.heap.size w9 w11 := HB4.out.grown hgrow5 HB4.out.size (fun k hk => own_ge HO4.out k hk))
    | (go_at_call 25; (with_reducible refine ((sload_yes p F c l L (some A5) _ cap5 (L.flatten ++ []) w11 (skI ((HV9.out.up hb5).i4)) hrd5 (by simp [FL.out]) (by omega) (by rw [List.append_nil]; exact FZ.out) (yes_ap HV9.out hown5) (by rw [HQE.out]))).mono ?_); rintro e w12 ⟨rfl, F2, L2, h1, h2, h3, h4⟩; have hLL : L2 = L := flat_inj h1.dims HD.out (by rw [h2, List.append_nil]); have hF9 := h1; rw [hLL] at h1; have HVa := Lib.hid ((HV9.out.up hb5).turn_4 (skT p F2 c l L) h1 h3 h4); clear h1 h2 h3 h4 hLL hF9))
  all_goals clear hcap8 hcap9 hgrow5 hown5 hrd5
  all_goals go_wp2_with (first
    | (go_at_call 14; (with_reducible refine (rsame_any _ _ _ _ _ _ _ _ _ (midI HVd.out.i0).rd (midI HVd.out.i2).rd FL.out FL.out (by omega) (by omega)).mono ?_); rintro e w15 ⟨rfl, hb⟩; have HVe := Lib.hid (HVd.out.up hb); clear hb)
    | (go_at_call 15; (with_reducible refine (CL.out _ _ _ (skI HVc.out.i4)).mono ?_); rintro e w14 ⟨g3, cap3, rfl, h1, h2, -, -, hb⟩; have HVd := Lib.hid (HVc.out.push (midT g3 L.flatten) hb h1 (fun k hk => by subst hk; exact h2)); clear h1 h2 hb)
    | (go_at_call 25; (with_reducible refine (sload_no p _ c l L (some ⟨g1, 0, none⟩) Q1 cap1 (L.flatten.take Q1) _ (skI (HVa.out.up (by repeat' (first | (with_reducible exact Below.refl _ _) | (with_reducible assumption) | (with_reducible refine below_over ?_ _ _) | (with_reducible refine Lw.below_alloc ?_ _) | (with_reducible refine Below.drew ?_) | (with_reducible refine below_drewN ?_ _) | (with_reducible refine Below.setCell ?_ ?_ _) | go_size))).i4) (((midI (HVa.out.up (by repeat' (first | (with_reducible exact Below.refl _ _) | (with_reducible assumption) | (with_reducible refine below_over ?_ _ _) | (with_reducible refine Lw.below_alloc ?_ _) | (with_reducible refine Below.drew ?_) | (with_reducible refine below_drewN ?_ _) | (with_reducible refine Below.setCell ?_ ?_ _) | go_size))).i1).rd).take Q1) HTQ.out (by have := HQ1.out; omega) (by rw [HQE.out]; have := HQ1.out; omega)).mono ?_); rintro e w13 ⟨rfl, hb⟩; have HVc := Lib.hid ((HVa.out.up (by repeat' (first | (with_reducible exact Below.refl _ _) | (with_reducible assumption) | (with_reducible refine below_over ?_ _ _) | (with_reducible refine Lw.below_alloc ?_ _) | (with_reducible refine Below.drew ?_) | (with_reducible refine below_drewN ?_ _) | (with_reducible refine Below.setCell ?_ ?_ _) | go_size))).up hb); clear hb))
  all_goals go_ret
  all_goals exact ⟨ret_bs (by first | rfl | (simp [*]; done)), HVe.out.below⟩
set_option maxRecDepth 100000 in
set_option maxHeartbeats 8000000 in
theorem loads_c (x : Cfg) (lv : Int) (A : Option Addr) (n0 k0 : Nat) (qs : Ups) (a2 : Addr) (k2 : Nat) (zs : List Int) (w : World) (hx : x.Ok) (hlv : -9223372036854775808 ≤ lv ∧ lv ≤ 9223372036854775807) (hq : UpdV w A n0 k0 qs) (hk2 : k2 ≤ 9223372036854775807) (hk0 : ¬ k2 = 0) :
    Calls Try.prog 9 #[.agg #[.int .i64 x.bt, .int .i64 x.rw, .int .i64 x.wd, .int .i64 x.md, .int .u64 x.sd, .int .i64 lv, .slice A n0 k0], .slice (some a2) 0 k2] w fun e w' => e = .returned (.bool true) ∧ Below w.heap.size w w' := by
  obtain ⟨c, hC⟩ : ∃ c, cfgP x 1 = c := ⟨_, rfl⟩
  obtain ⟨l, hl⟩ : ∃ l, lv % 65536 % (c.bt + 1) = l := ⟨_, rfl⟩
  have hr := cfgP_right x 1 (by omega) (by omega)
  have hco := cfgP_ok x hx 1 (by omega) (by omega)
  have hmd : c.md = 1 := by rw [← hC]; rfl
  rw [hC] at hr hco
  have hlb : 0 ≤ l ∧ l ≤ c.bt := by
    have h1 := hr.1.1
    have h2 := Int.emod_nonneg (lv % 65536) (show c.bt + 1 ≠ 0 by omega)
    have h3 := Int.emod_lt_of_pos (lv % 65536) (show 0 < c.bt + 1 by omega)
    omega
  have hbt := hr.2
  have hkeys : 1 ≤ keys c l := keys_pos.2 ⟨hr.1, hlb.1, hlb.2⟩
  have hne2 : c.md ≠ 2 := by omega
  have D := Lib.hid (fun w hq => fed_any x lv A n0 k0 qs 1 0 60 0 60 c l w hx hlv hq (by omega) (by omega) rfl rfl (by omega) (by omega) hC hl)
  have CN := Lib.hid (fun w => snew_yes c l w hco (by omega) (by omega) hkeys)
  have i1 := upsR_in hkeys qs 0 60
  have d1 := cells_dims3 hr.1 i1 (upsR_len c l qs 0 60) hne2
  obtain ⟨L, hL⟩ : ∃ L, cells c l (upsR c l qs 0 60) = L := ⟨_, rfl⟩
  rw [hL] at D d1
  have CL := Lib.hid (fun p F w h => scells_mid p F c l L w h)
  obtain ⟨V, hV⟩ : ∃ V, ptVal c l L 0 = V := ⟨_, rfl⟩
  have CP := Lib.hid (fun p F w h => spoint_any p F c l L 0 w h (by omega) (by omega))
  rw [hV, pt_ok (show (0 : Int) < keys c l by omega)] at CP
  have FL := Lib.hid (flat_dims d1)
  have FZ := Lib.hid (flat_in64 d1)
  have HD := Lib.hid d1
  have CO : Hid (∀ q G w, SK w q G c l (zerosL (rws c) (wds c)) → ∀ g cap, Ord.Mid w g 0 L.flatten → ¬ G g → Calls Try.prog 25 #[.pointer (some q), .slice (some ⟨g, 0, none⟩) (rws c * wds c) cap] w fun e w' => e = .returned (.bool true) ∧ ∃ F', SK w' q F' c l L ∧ Kept G w w' ∧ (∀ k, F' k → G k ∨ w.heap.size ≤ k)) := Lib.hid (fun q G w h g cap hm hg => (sload_yes q G c l _ _ _ cap L.flatten w h hm.rd FL.out (Nat.le_trans (Nat.mul_le_mul (rws_bd hr.1).2.1 (wds_bd hr.1).2.1) (by omega)) FZ.out (fun a ha hG => by injection ha with ha; subst ha; exact hg hG) rfl).mono (fun e w' ⟨e1, F', L', h1, h2, h3, h4⟩ => ⟨e1, F', by have h5 := flat_inj h1.dims HD.out h2; rw [h5] at h1; exact h1, h3, h4⟩))
  have hq9 : rws c * wds c ≤ 1024 := Nat.mul_le_mul (rws_bd hr.1).2.1 (wds_bd hr.1).2.1
  have hq8 : 1 ≤ rws c * wds c := Nat.mul_pos (rws_bd hr.1).1 (wds_bd hr.1).1
  obtain ⟨Q, hQ⟩ : ∃ Q, rws c * wds c = Q := ⟨_, rfl⟩
  have HQE := Lib.hid hQ
  rw [hQ] at CL FL CO hq9 hq8
  have HQ := Lib.hid hq
  obtain ⟨i0, hi, hz0, hz1, hz2x⟩ := info_parts i64_info
  have HBX : Hid (Have w (w.alloc (.cells #[.int .i64 x.bt, .int .i64 x.rw, .int .i64 x.wd, .int .i64 x.md, .int .u64 x.sd, .int .i64 lv, .slice A n0 k0] 27)) [boxT w.heap.size 27 #[.int .i64 x.bt, .int .i64 x.rw, .int .i64 x.wd, .int .i64 x.md, .int .u64 x.sd, .int .i64 lv, .slice A n0 k0]]) := Lib.hid (box_new w _ _)
  clear hC hl hr hco hmd hlb hkeys hne2 i1 d1 hL hV hq hx hbt hlv
  go_enter Try.func9, Try.ntmps9
  go_wp2_with (first
    | (go_at_call 19; (with_reducible refine (CP.out _ _ _ (skI HV8.out.i2)).mono ?_); rintro e w9 ⟨rfl, hb⟩; have HV9 := Lib.hid (HV8.out.up hb); clear hb; clear x0 x1 x2 x3 x4 x5 x6 e1 e2 e3 e4 e5; obtain ⟨x0, x1, x2, x3, x4, x5, x6⟩ := box7 HV9.out.i5; obtain ⟨e1, e2, e3, e4, e5⟩ := box5 HV9.out.i3)
    | (go_at_call 19; (with_reducible refine (CP.out _ _ _ (skI HV7.out.i4)).mono ?_); rintro e w8 ⟨rfl, hb⟩; have HV8 := Lib.hid (HV7.out.up hb); clear hb; clear x0 x1 x2 x3 x4 x5 x6 e1 e2 e3 e4 e5; obtain ⟨x0, x1, x2, x3, x4, x5, x6⟩ := box7 HV8.out.i5; obtain ⟨e1, e2, e3, e4, e5⟩ := box5 HV8.out.i3)
    | (go_at_call 14; (with_reducible refine (rsame_any _ _ _ _ _ _ _ _ _ (midI HV6.out.i0).rd (midI HV6.out.i1).rd FL.out FL.out (by omega) (by omega)).mono ?_); rintro e w7 ⟨rfl, hb⟩; have HV7 := Lib.hid (HV6.out.up hb); clear hb; clear x0 x1 x2 x3 x4 x5 x6 e1 e2 e3 e4 e5; obtain ⟨x0, x1, x2, x3, x4, x5, x6⟩ := box7 HV7.out.i5; obtain ⟨e1, e2, e3, e4, e5⟩ := box5 HV7.out.i3)
    | (go_at_call 15; (with_reducible refine (CL.out _ _ _ (skI HV5.out.i1)).mono ?_); rintro e w6 ⟨g2, cap2, rfl, h1, h2, -, -, hb⟩; have HV6 := Lib.hid (HV5.out.push (midT g2 L.flatten) hb h1 (fun k hk => by subst hk; exact h2)); clear h1 h2 hb; clear x0 x1 x2 x3 x4 x5 x6 e1 e2 e3 e4 e5; obtain ⟨x0, x1, x2, x3, x4, x5, x6⟩ := box7 HV6.out.i5; obtain ⟨e1, e2, e3, e4, e5⟩ := box5 HV6.out.i3)
    | (go_at_call 25; (with_reducible refine (CO.out q G _ (skI HV4.out.i1) g1 cap1 (midI HV4.out.i0) (mid_ap HV4.out)).mono ?_); rintro e w5 ⟨rfl, G2, h1, h2, h3⟩; have HV5 := Lib.hid (HV4.out.turn_1 (skT q G2 c l L) h1 h2 h3); clear h1 h2 h3; clear x0 x1 x2 x3 x4 x5 x6 e1 e2 e3 e4 e5; obtain ⟨x0, x1, x2, x3, x4, x5, x6⟩ := box7 HV5.out.i4; obtain ⟨e1, e2, e3, e4, e5⟩ := box5 HV5.out.i2)
    | (go_at_call 15; (with_reducible refine (CL.out _ _ _ (skI HV3.out.i2)).mono ?_); rintro e w4 ⟨g1, cap1, rfl, h1, h2, hc1, hm1, hb⟩; have HV4 := Lib.hid (HV3.out.push (midT g1 L.flatten) hb h1 (fun k hk => by subst hk; exact h2)); clear h1 h2 hb; clear x0 x1 x2 x3 x4 x5 x6 e1 e2 e3 e4 e5; obtain ⟨x0, x1, x2, x3, x4, x5, x6⟩ := box7 HV4.out.i4; obtain ⟨e1, e2, e3, e4, e5⟩ := box5 HV4.out.i2)
    | (go_at_call 23; (with_reducible refine (CN.out _).mono ?_); rintro e w3 ⟨q, G, rfl, h1, h2, hb⟩; have HV3 := Lib.hid (HV2.out.push (skT q G c l (zerosL (rws c) (wds c))) hb h1 h2); clear h1 h2 hb; clear x0 x1 x2 x3 x4 x5 x6 e1 e2 e3 e4 e5; obtain ⟨x0, x1, x2, x3, x4, x5, x6⟩ := box7 HV3.out.i3; obtain ⟨e1, e2, e3, e4, e5⟩ := box5 HV3.out.i1)
    | (go_at_call 11; (with_reducible refine (D.out _ (HQ.out.up HV1.out.below)).mono ?_); rintro e w2 ⟨p, F, rfl, hv⟩; have HVq := HV1.out.join hv; simp only [List.cons_append, List.nil_append] at HVq; have HV2 := Lib.hid (HVq.push (boxT w2.heap.size 24 #[.int .i64 c.bt, .int .i64 c.rw, .int .i64 c.wd, .int .i64 c.md, .int .u64 c.sd]) (Lw.below_alloc (Below.refl _ _) _) (heap_alloc_new w2 _) (fun k hk => Nat.le_of_eq hk.symm)); clear hv HVq; clear x0 x1 x2 x3 x4 x5 x6; obtain ⟨x0, x1, x2, x3, x4, x5, x6⟩ := box7 HV2.out.i2; obtain ⟨e1, e2, e3, e4, e5⟩ := box5 HV2.out.i0)
    | (go_at_call 10; (with_reducible refine (shown_any _).mono ?_); rintro e w1 ⟨rfl, hb⟩; have HV1 := Lib.hid (HBX.out.up hb); clear hb; obtain ⟨x0, x1, x2, x3, x4, x5, x6⟩ := box7 HV1.out.i0))
  clear x0 x1 x2 x3 x4 x5 x6 e1 e2 e3 e4 e5
  have hsl := slice_to a2 0 k2 (Nat.zero_le _) hk0
  obtain ⟨Q1, hQ1⟩ : ∃ Q1 : Nat, Q = Q1 + 1 := ⟨Q - 1, by omega⟩
  have hmin : (if (1 : Int) < (Q : Int) then 1 else (Q : Int)) = 1 := by split <;> omega
  have hs1 : IntKind.i64.wrap ((Q : Int) - 1) = (Q1 : Int) := by rw [IntWalk.i64_in _ ⟨by omega, by omega⟩]; omega
  have hs2 : wrap64 ((Q : Int) - 1) = (Q1 : Int) := by rw [IntWalk.wrap64_in _ ⟨by omega, by omega⟩]; omega
  have hs3 := slice_to ⟨g1, 0, none⟩ Q1 cap1 (by omega) (by omega)
  have HTQ : Hid ((L.flatten.take Q1).length = Q1) := Lib.hid (by rw [List.length_take, FL.out]; omega)
  have hq7 : Q1 ≤ cap1 := by omega
  have hq6 : (Q1 : Int) ≤ (cap1 : Int) := by omega
  have HQ1 := Lib.hid hQ1
  clear hQ1
  go_region_held3 (fun w' => True) (trivial) (first
    | (refine app_step .i64 rfl _ _ 32 rfl w9.heap.size 2 i0 8 i64s_u hi hz0 hz1 hz2x (.slice (some ⟨w9.heap.size, 0, none⟩) 0 0) 0 [] rfl (own_empty w9.drew _ _ _ (Nat.le_refl _)) (fun h => by cases h) (some ⟨g1, 0, none⟩) Q cap1 L.flatten rfl (by simp) FL.out ((midI HV9.out.i1).rd.up (by repeat' (first | (with_reducible exact Below.refl _ _) | (with_reducible assumption) | (with_reducible refine below_over ?_ _ _) | (with_reducible refine Lw.below_alloc ?_ _) | (with_reducible refine Below.drew ?_) | (with_reducible refine below_drewN ?_ _) | (with_reducible refine Below.setCell ?_ ?_ _) | go_size))) (by unfold maxLen; omega) (by omega) (by simp) ?_; intro A4 cap4 w10 hown4 hgrow4 hrd4 hcap6 hcap7; have hb4 : Below w9.heap.size w9 w10 := app_below2 (by repeat' (first | (with_reducible exact Below.refl _ _) | (with_reducible assumption) | (with_reducible refine below_over ?_ _ _) | (with_reducible refine Lw.below_alloc ?_ _) | (with_reducible refine Below.drew ?_) | (with_reducible refine below_drewN ?_ _) | (with_reducible refine Below.setCell ?_ ?_ _) | go_size)) hgrow4 (Nat.le_refl _); (try simp only [Nat.zero_add, List.nil_append] at hown4 hrd4 hcap6); (try simp only [Nat.zero_add]); have HO4 := Lib.hid hown4; have HR4 := Lib.hid hrd4; have HB4 := Lib.hid hb4; clear hown4 hrd4 hgrow4 hcap6 hcap7)
    | (refine app_step .i64 rfl _ _ 32 rfl w9.heap.size 2 i0 8 i64s_u hi hz0 hz1 hz2x (.slice (some A4) Q cap4) Q L.flatten rfl HO4.out (fun h => by cases h) (some a2) 0 k2 ([] : List Int) rfl (by simp) rfl (rd_nil _ _ _) (by unfold maxLen; omega) (by omega) HB4.out.size ?_; intro A5 cap5 w11 hown5 hgrow5 hrd5 hcap8 hcap9; have hb5 : Below w9.heap.size w9 w11 := HB4.out.grown hgrow5 HB4.out.size (fun k hk => own_ge HO4.out k hk))
    | (go_at_call 25; (with_reducible refine ((sload_yes p F c l L (some A5) _ cap5 (L.flatten ++ []) w11 (skI ((HV9.out.up hb5).i4)) hrd5 (by simp [FL.out]) (by omega) (by rw [List.append_nil]; exact FZ.out) (yes_ap HV9.out hown5) (by rw [HQE.out]))).mono ?_); rintro e w12 ⟨rfl, F2, L2, h1, h2, h3, h4⟩; have hLL : L2 = L := flat_inj h1.dims HD.out (by rw [h2, List.append_nil]); have hF9 := h1; rw [hLL] at h1; have HVa := Lib.hid ((HV9.out.up hb5).turn_4 (skT p F2 c l L) h1 h3 h4); clear h1 h2 h3 h4 hLL hF9))
  all_goals clear hcap8 hcap9 hgrow5 hown5 hrd5
  all_goals go_wp2_with (first
    | (go_at_call 14; (with_reducible refine (rsame_any _ _ _ _ _ _ _ _ _ (midI HVd.out.i0).rd (midI HVd.out.i2).rd FL.out FL.out (by omega) (by omega)).mono ?_); rintro e w15 ⟨rfl, hb⟩; have HVe := Lib.hid (HVd.out.up hb); clear hb)
    | (go_at_call 15; (with_reducible refine (CL.out _ _ _ (skI HVc.out.i4)).mono ?_); rintro e w14 ⟨g3, cap3, rfl, h1, h2, -, -, hb⟩; have HVd := Lib.hid (HVc.out.push (midT g3 L.flatten) hb h1 (fun k hk => by subst hk; exact h2)); clear h1 h2 hb)
    | (go_at_call 25; (with_reducible refine (sload_no p _ c l L (some ⟨g1, 0, none⟩) Q1 cap1 (L.flatten.take Q1) _ (skI (HVa.out.up (by repeat' (first | (with_reducible exact Below.refl _ _) | (with_reducible assumption) | (with_reducible refine below_over ?_ _ _) | (with_reducible refine Lw.below_alloc ?_ _) | (with_reducible refine Below.drew ?_) | (with_reducible refine below_drewN ?_ _) | (with_reducible refine Below.setCell ?_ ?_ _) | go_size))).i4) (((midI (HVa.out.up (by repeat' (first | (with_reducible exact Below.refl _ _) | (with_reducible assumption) | (with_reducible refine below_over ?_ _ _) | (with_reducible refine Lw.below_alloc ?_ _) | (with_reducible refine Below.drew ?_) | (with_reducible refine below_drewN ?_ _) | (with_reducible refine Below.setCell ?_ ?_ _) | go_size))).i1).rd).take Q1) HTQ.out (by have := HQ1.out; omega) (by rw [HQE.out]; have := HQ1.out; omega)).mono ?_); rintro e w13 ⟨rfl, hb⟩; have HVc := Lib.hid ((HVa.out.up (by repeat' (first | (with_reducible exact Below.refl _ _) | (with_reducible assumption) | (with_reducible refine below_over ?_ _ _) | (with_reducible refine Lw.below_alloc ?_ _) | (with_reducible refine Below.drew ?_) | (with_reducible refine below_drewN ?_ _) | (with_reducible refine Below.setCell ?_ ?_ _) | go_size))).up hb); clear hb))
  all_goals go_ret
  all_goals exact ⟨ret_bs (by first | rfl | (simp [*]; done)), HVe.out.below⟩
set_option maxRecDepth 100000 in
set_option maxHeartbeats 8000000 in
theorem loads_e (x : Cfg) (lv : Int) (A : Option Addr) (n0 k0 : Nat) (qs : Ups) (a2 : Addr) (n2 k2 : Nat) (zs : List Int) (w : World) (hx : x.Ok) (hlv : -9223372036854775808 ≤ lv ∧ lv ≤ 9223372036854775807) (hq : UpdV w A n0 k0 qs) (hn2 : n2 ≤ k2) (hk2 : k2 ≤ 9223372036854775807) (hr2 : Rd .i64 w (some a2) zs) (hl2 : zs.length = n2) (hp : 20 < n2) :
    Calls Try.prog 9 #[.agg #[.int .i64 x.bt, .int .i64 x.rw, .int .i64 x.wd, .int .i64 x.md, .int .u64 x.sd, .int .i64 lv, .slice A n0 k0], .slice (some a2) n2 k2] w fun e w' => e = .returned (.bool true) ∧ Below w.heap.size w w' := by
  obtain ⟨c, hC⟩ : ∃ c, cfgP x 1 = c := ⟨_, rfl⟩
  obtain ⟨l, hl⟩ : ∃ l, lv % 65536 % (c.bt + 1) = l := ⟨_, rfl⟩
  have hr := cfgP_right x 1 (by omega) (by omega)
  have hco := cfgP_ok x hx 1 (by omega) (by omega)
  have hmd : c.md = 1 := by rw [← hC]; rfl
  rw [hC] at hr hco
  have hlb : 0 ≤ l ∧ l ≤ c.bt := by
    have h1 := hr.1.1
    have h2 := Int.emod_nonneg (lv % 65536) (show c.bt + 1 ≠ 0 by omega)
    have h3 := Int.emod_lt_of_pos (lv % 65536) (show 0 < c.bt + 1 by omega)
    omega
  have hbt := hr.2
  have hkeys : 1 ≤ keys c l := keys_pos.2 ⟨hr.1, hlb.1, hlb.2⟩
  have hne2 : c.md ≠ 2 := by omega
  have D := Lib.hid (fun w hq => fed_any x lv A n0 k0 qs 1 0 60 0 60 c l w hx hlv hq (by omega) (by omega) rfl rfl (by omega) (by omega) hC hl)
  have CN := Lib.hid (fun w => snew_yes c l w hco (by omega) (by omega) hkeys)
  have i1 := upsR_in hkeys qs 0 60
  have d1 := cells_dims3 hr.1 i1 (upsR_len c l qs 0 60) hne2
  obtain ⟨L, hL⟩ : ∃ L, cells c l (upsR c l qs 0 60) = L := ⟨_, rfl⟩
  rw [hL] at D d1
  have CL := Lib.hid (fun p F w h => scells_mid p F c l L w h)
  obtain ⟨V, hV⟩ : ∃ V, ptVal c l L 0 = V := ⟨_, rfl⟩
  have CP := Lib.hid (fun p F w h => spoint_any p F c l L 0 w h (by omega) (by omega))
  rw [hV, pt_ok (show (0 : Int) < keys c l by omega)] at CP
  have FL := Lib.hid (flat_dims d1)
  have FZ := Lib.hid (flat_in64 d1)
  have HD := Lib.hid d1
  have CO : Hid (∀ q G w, SK w q G c l (zerosL (rws c) (wds c)) → ∀ g cap, Ord.Mid w g 0 L.flatten → ¬ G g → Calls Try.prog 25 #[.pointer (some q), .slice (some ⟨g, 0, none⟩) (rws c * wds c) cap] w fun e w' => e = .returned (.bool true) ∧ ∃ F', SK w' q F' c l L ∧ Kept G w w' ∧ (∀ k, F' k → G k ∨ w.heap.size ≤ k)) := Lib.hid (fun q G w h g cap hm hg => (sload_yes q G c l _ _ _ cap L.flatten w h hm.rd FL.out (Nat.le_trans (Nat.mul_le_mul (rws_bd hr.1).2.1 (wds_bd hr.1).2.1) (by omega)) FZ.out (fun a ha hG => by injection ha with ha; subst ha; exact hg hG) rfl).mono (fun e w' ⟨e1, F', L', h1, h2, h3, h4⟩ => ⟨e1, F', by have h5 := flat_inj h1.dims HD.out h2; rw [h5] at h1; exact h1, h3, h4⟩))
  have hq9 : rws c * wds c ≤ 1024 := Nat.mul_le_mul (rws_bd hr.1).2.1 (wds_bd hr.1).2.1
  have hq8 : 1 ≤ rws c * wds c := Nat.mul_pos (rws_bd hr.1).1 (wds_bd hr.1).1
  obtain ⟨Q, hQ⟩ : ∃ Q, rws c * wds c = Q := ⟨_, rfl⟩
  have HQE := Lib.hid hQ
  rw [hQ] at CL FL CO hq9 hq8
  have HQ := Lib.hid hq
  obtain ⟨i0, hi, hz0, hz1, hz2x⟩ := info_parts i64_info
  have HTL : Hid ((zs.take 20).length = 20) := Lib.hid (by rw [List.length_take]; omega)
  have HBX : Hid (Have w (w.alloc (.cells #[.int .i64 x.bt, .int .i64 x.rw, .int .i64 x.wd, .int .i64 x.md, .int .u64 x.sd, .int .i64 lv, .slice A n0 k0] 27)) [boxT w.heap.size 27 #[.int .i64 x.bt, .int .i64 x.rw, .int .i64 x.wd, .int .i64 x.md, .int .u64 x.sd, .int .i64 lv, .slice A n0 k0]]) := Lib.hid (box_new w _ _)
  clear hC hl hr hco hmd hlb hkeys hne2 i1 d1 hL hV hq hx hbt hlv
  go_enter Try.func9, Try.ntmps9
  go_wp2_with (first
    | (go_at_call 19; (with_reducible refine (CP.out _ _ _ (skI HV8.out.i2)).mono ?_); rintro e w9 ⟨rfl, hb⟩; have HV9 := Lib.hid (HV8.out.up hb); clear hb; clear x0 x1 x2 x3 x4 x5 x6 e1 e2 e3 e4 e5; obtain ⟨x0, x1, x2, x3, x4, x5, x6⟩ := box7 HV9.out.i5; obtain ⟨e1, e2, e3, e4, e5⟩ := box5 HV9.out.i3)
    | (go_at_call 19; (with_reducible refine (CP.out _ _ _ (skI HV7.out.i4)).mono ?_); rintro e w8 ⟨rfl, hb⟩; have HV8 := Lib.hid (HV7.out.up hb); clear hb; clear x0 x1 x2 x3 x4 x5 x6 e1 e2 e3 e4 e5; obtain ⟨x0, x1, x2, x3, x4, x5, x6⟩ := box7 HV8.out.i5; obtain ⟨e1, e2, e3, e4, e5⟩ := box5 HV8.out.i3)
    | (go_at_call 14; (with_reducible refine (rsame_any _ _ _ _ _ _ _ _ _ (midI HV6.out.i0).rd (midI HV6.out.i1).rd FL.out FL.out (by omega) (by omega)).mono ?_); rintro e w7 ⟨rfl, hb⟩; have HV7 := Lib.hid (HV6.out.up hb); clear hb; clear x0 x1 x2 x3 x4 x5 x6 e1 e2 e3 e4 e5; obtain ⟨x0, x1, x2, x3, x4, x5, x6⟩ := box7 HV7.out.i5; obtain ⟨e1, e2, e3, e4, e5⟩ := box5 HV7.out.i3)
    | (go_at_call 15; (with_reducible refine (CL.out _ _ _ (skI HV5.out.i1)).mono ?_); rintro e w6 ⟨g2, cap2, rfl, h1, h2, -, -, hb⟩; have HV6 := Lib.hid (HV5.out.push (midT g2 L.flatten) hb h1 (fun k hk => by subst hk; exact h2)); clear h1 h2 hb; clear x0 x1 x2 x3 x4 x5 x6 e1 e2 e3 e4 e5; obtain ⟨x0, x1, x2, x3, x4, x5, x6⟩ := box7 HV6.out.i5; obtain ⟨e1, e2, e3, e4, e5⟩ := box5 HV6.out.i3)
    | (go_at_call 25; (with_reducible refine (CO.out q G _ (skI HV4.out.i1) g1 cap1 (midI HV4.out.i0) (mid_ap HV4.out)).mono ?_); rintro e w5 ⟨rfl, G2, h1, h2, h3⟩; have HV5 := Lib.hid (HV4.out.turn_1 (skT q G2 c l L) h1 h2 h3); clear h1 h2 h3; clear x0 x1 x2 x3 x4 x5 x6 e1 e2 e3 e4 e5; obtain ⟨x0, x1, x2, x3, x4, x5, x6⟩ := box7 HV5.out.i4; obtain ⟨e1, e2, e3, e4, e5⟩ := box5 HV5.out.i2)
    | (go_at_call 15; (with_reducible refine (CL.out _ _ _ (skI HV3.out.i2)).mono ?_); rintro e w4 ⟨g1, cap1, rfl, h1, h2, hc1, hm1, hb⟩; have HV4 := Lib.hid (HV3.out.push (midT g1 L.flatten) hb h1 (fun k hk => by subst hk; exact h2)); clear h1 h2 hb; clear x0 x1 x2 x3 x4 x5 x6 e1 e2 e3 e4 e5; obtain ⟨x0, x1, x2, x3, x4, x5, x6⟩ := box7 HV4.out.i4; obtain ⟨e1, e2, e3, e4, e5⟩ := box5 HV4.out.i2)
    | (go_at_call 23; (with_reducible refine (CN.out _).mono ?_); rintro e w3 ⟨q, G, rfl, h1, h2, hb⟩; have HV3 := Lib.hid (HV2.out.push (skT q G c l (zerosL (rws c) (wds c))) hb h1 h2); clear h1 h2 hb; clear x0 x1 x2 x3 x4 x5 x6 e1 e2 e3 e4 e5; obtain ⟨x0, x1, x2, x3, x4, x5, x6⟩ := box7 HV3.out.i3; obtain ⟨e1, e2, e3, e4, e5⟩ := box5 HV3.out.i1)
    | (go_at_call 11; (with_reducible refine (D.out _ (HQ.out.up HV1.out.below)).mono ?_); rintro e w2 ⟨p, F, rfl, hv⟩; have HVq := HV1.out.join hv; simp only [List.cons_append, List.nil_append] at HVq; have HV2 := Lib.hid (HVq.push (boxT w2.heap.size 24 #[.int .i64 c.bt, .int .i64 c.rw, .int .i64 c.wd, .int .i64 c.md, .int .u64 c.sd]) (Lw.below_alloc (Below.refl _ _) _) (heap_alloc_new w2 _) (fun k hk => Nat.le_of_eq hk.symm)); clear hv HVq; clear x0 x1 x2 x3 x4 x5 x6; obtain ⟨x0, x1, x2, x3, x4, x5, x6⟩ := box7 HV2.out.i2; obtain ⟨e1, e2, e3, e4, e5⟩ := box5 HV2.out.i0)
    | (go_at_call 10; (with_reducible refine (shown_any _).mono ?_); rintro e w1 ⟨rfl, hb⟩; have HV1 := Lib.hid (HBX.out.up hb); clear hb; obtain ⟨x0, x1, x2, x3, x4, x5, x6⟩ := box7 HV1.out.i0))
  clear x0 x1 x2 x3 x4 x5 x6 e1 e2 e3 e4 e5
  have hsl : ∀ w, (Instr.slice 32 (.slice (some a2) n2 k2) none (some (.int .i64 20)) none).run Try.prog w = .ok (.slice (some a2) 20 k2) w := fun w => by
    have m4 : (20 : Int) ≤ (k2 : Int) := by omega
    have m5 : 20 ≤ k2 := by omega
    have m6 : ¬ k2 = 0 := by omega
    simp [Instr.slice, Instr.sliceBounds, Instr.sliceBound, asIntOf, m4, m5, m6, go_sem]
  have m1 : (20 : Int) < (n2 : Int) := by omega
  have m2 : (20 : Int) ≤ (k2 : Int) := by omega
  have m3 : ¬ k2 = 0 := by omega
  have m4 : 20 ≤ k2 := by omega
  have m7 : ((n2 : Int) == 0) = false := by simp; omega
  have m8 : ¬ n2 = 0 := by omega
  obtain ⟨Q1, hQ1⟩ : ∃ Q1 : Nat, Q = Q1 + 1 := ⟨Q - 1, by omega⟩
  have hmin : (if (1 : Int) < (Q : Int) then 1 else (Q : Int)) = 1 := by split <;> omega
  have hs1 : IntKind.i64.wrap ((Q : Int) - 1) = (Q1 : Int) := by rw [IntWalk.i64_in _ ⟨by omega, by omega⟩]; omega
  have hs2 : wrap64 ((Q : Int) - 1) = (Q1 : Int) := by rw [IntWalk.wrap64_in _ ⟨by omega, by omega⟩]; omega
  have hs3 := slice_to ⟨g1, 0, none⟩ Q1 cap1 (by omega) (by omega)
  have HTQ : Hid ((L.flatten.take Q1).length = Q1) := Lib.hid (by rw [List.length_take, FL.out]; omega)
  have hq7 : Q1 ≤ cap1 := by omega
  have hq6 : (Q1 : Int) ≤ (cap1 : Int) := by omega
  have HQ1 := Lib.hid hQ1
  clear hQ1
  go_region_held3 (fun w' => True) (trivial) (first
    | (refine app_step .i64 rfl _ _ 32 rfl w9.heap.size 2 i0 8 i64s_u hi hz0 hz1 hz2x (.slice (some ⟨w9.heap.size, 0, none⟩) 0 0) 0 [] rfl (own_empty w9.drew _ _ _ (Nat.le_refl _)) (fun h => by cases h) (some ⟨g1, 0, none⟩) Q cap1 L.flatten rfl (by simp) FL.out ((midI HV9.out.i1).rd.up (by repeat' (first | (with_reducible exact Below.refl _ _) | (with_reducible assumption) | (with_reducible refine below_over ?_ _ _) | (with_reducible refine Lw.below_alloc ?_ _) | (with_reducible refine Below.drew ?_) | (with_reducible refine below_drewN ?_ _) | (with_reducible refine Below.setCell ?_ ?_ _) | go_size))) (by unfold maxLen; omega) (by omega) (by simp) ?_; intro A4 cap4 w10 hown4 hgrow4 hrd4 hcap6 hcap7; have hb4 : Below w9.heap.size w9 w10 := app_below2 (by repeat' (first | (with_reducible exact Below.refl _ _) | (with_reducible assumption) | (with_reducible refine below_over ?_ _ _) | (with_reducible refine Lw.below_alloc ?_ _) | (with_reducible refine Below.drew ?_) | (with_reducible refine below_drewN ?_ _) | (with_reducible refine Below.setCell ?_ ?_ _) | go_size)) hgrow4 (Nat.le_refl _); (try simp only [Nat.zero_add, List.nil_append] at hown4 hrd4 hcap6); (try simp only [Nat.zero_add]); have HO4 := Lib.hid hown4; have HR4 := Lib.hid hrd4; have HB4 := Lib.hid hb4; clear hown4 hrd4 hgrow4 hcap6 hcap7)
    | (refine app_step .i64 rfl _ _ 32 rfl w9.heap.size 2 i0 8 i64s_u hi hz0 hz1 hz2x (.slice (some A4) Q cap4) Q L.flatten rfl HO4.out (fun h => by cases h) (some a2) 20 k2 (zs.take 20) rfl (by simp) HTL.out ((hr2.take 20).up (below_call HV9.out.below hb4 (Nat.le_refl _))) (by unfold maxLen; omega) (by omega) HB4.out.size ?_; intro A5 cap5 w11 hown5 hgrow5 hrd5 hcap8 hcap9; have hb5 : Below w9.heap.size w9 w11 := HB4.out.grown hgrow5 HB4.out.size (fun k hk => own_ge HO4.out k hk))
    | (go_at_call 25; (with_reducible refine (sload_no p F c l L _ _ _ _ w11 (skI ((HV9.out.up hb5).i4)) hrd5 (by simp [FL.out, HTL.out]) (by omega) (by omega)).mono ?_); rintro e w12 ⟨rfl, hb⟩; have HVa := Lib.hid ((HV9.out.up hb5).up hb); clear hb))
  all_goals clear hcap8 hcap9 hgrow5 hown5 hrd5
  all_goals go_wp2_with (first
    | (go_at_call 14; (with_reducible refine (rsame_any _ _ _ _ _ _ _ _ _ (midI HVd.out.i0).rd (midI HVd.out.i2).rd FL.out FL.out (by omega) (by omega)).mono ?_); rintro e w15 ⟨rfl, hb⟩; have HVe := Lib.hid (HVd.out.up hb); clear hb)
    | (go_at_call 15; (with_reducible refine (CL.out _ _ _ (skI HVc.out.i4)).mono ?_); rintro e w14 ⟨g3, cap3, rfl, h1, h2, -, -, hb⟩; have HVd := Lib.hid (HVc.out.push (midT g3 L.flatten) hb h1 (fun k hk => by subst hk; exact h2)); clear h1 h2 hb)
    | (go_at_call 25; (with_reducible refine (sload_no p _ c l L (some ⟨g1, 0, none⟩) Q1 cap1 (L.flatten.take Q1) _ (skI (HVa.out.up (by repeat' (first | (with_reducible exact Below.refl _ _) | (with_reducible assumption) | (with_reducible refine below_over ?_ _ _) | (with_reducible refine Lw.below_alloc ?_ _) | (with_reducible refine Below.drew ?_) | (with_reducible refine below_drewN ?_ _) | (with_reducible refine Below.setCell ?_ ?_ _) | go_size))).i4) (((midI (HVa.out.up (by repeat' (first | (with_reducible exact Below.refl _ _) | (with_reducible assumption) | (with_reducible refine below_over ?_ _ _) | (with_reducible refine Lw.below_alloc ?_ _) | (with_reducible refine Below.drew ?_) | (with_reducible refine below_drewN ?_ _) | (with_reducible refine Below.setCell ?_ ?_ _) | go_size))).i1).rd).take Q1) HTQ.out (by have := HQ1.out; omega) (by rw [HQE.out]; have := HQ1.out; omega)).mono ?_); rintro e w13 ⟨rfl, hb⟩; have HVc := Lib.hid ((HVa.out.up (by repeat' (first | (with_reducible exact Below.refl _ _) | (with_reducible assumption) | (with_reducible refine below_over ?_ _ _) | (with_reducible refine Lw.below_alloc ?_ _) | (with_reducible refine Below.drew ?_) | (with_reducible refine below_drewN ?_ _) | (with_reducible refine Below.setCell ?_ ?_ _) | go_size))).up hb); clear hb))
  all_goals go_ret
  all_goals exact ⟨ret_bs (by first | rfl | (simp [*]; done)), HVe.out.below⟩
set_option maxRecDepth 100000 in
set_option maxHeartbeats 8000000 in
theorem loads_d (x : Cfg) (lv : Int) (A : Option Addr) (n0 k0 : Nat) (qs : Ups) (a2 : Addr) (n2 k2 : Nat) (zs : List Int) (w : World) (hx : x.Ok) (hlv : -9223372036854775808 ≤ lv ∧ lv ≤ 9223372036854775807) (hq : UpdV w A n0 k0 qs) (hn2 : n2 ≤ k2) (hk2 : k2 ≤ 9223372036854775807) (hr2 : Rd .i64 w (some a2) zs) (hl2 : zs.length = n2) (hp : 1 ≤ n2) (hp2 : n2 ≤ 20) :
    Calls Try.prog 9 #[.agg #[.int .i64 x.bt, .int .i64 x.rw, .int .i64 x.wd, .int .i64 x.md, .int .u64 x.sd, .int .i64 lv, .slice A n0 k0], .slice (some a2) n2 k2] w fun e w' => e = .returned (.bool true) ∧ Below w.heap.size w w' := by
  obtain ⟨c, hC⟩ : ∃ c, cfgP x 1 = c := ⟨_, rfl⟩
  obtain ⟨l, hl⟩ : ∃ l, lv % 65536 % (c.bt + 1) = l := ⟨_, rfl⟩
  have hr := cfgP_right x 1 (by omega) (by omega)
  have hco := cfgP_ok x hx 1 (by omega) (by omega)
  have hmd : c.md = 1 := by rw [← hC]; rfl
  rw [hC] at hr hco
  have hlb : 0 ≤ l ∧ l ≤ c.bt := by
    have h1 := hr.1.1
    have h2 := Int.emod_nonneg (lv % 65536) (show c.bt + 1 ≠ 0 by omega)
    have h3 := Int.emod_lt_of_pos (lv % 65536) (show 0 < c.bt + 1 by omega)
    omega
  have hbt := hr.2
  have hkeys : 1 ≤ keys c l := keys_pos.2 ⟨hr.1, hlb.1, hlb.2⟩
  have hne2 : c.md ≠ 2 := by omega
  have D := Lib.hid (fun w hq => fed_any x lv A n0 k0 qs 1 0 60 0 60 c l w hx hlv hq (by omega) (by omega) rfl rfl (by omega) (by omega) hC hl)
  have CN := Lib.hid (fun w => snew_yes c l w hco (by omega) (by omega) hkeys)
  have i1 := upsR_in hkeys qs 0 60
  have d1 := cells_dims3 hr.1 i1 (upsR_len c l qs 0 60) hne2
  obtain ⟨L, hL⟩ : ∃ L, cells c l (upsR c l qs 0 60) = L := ⟨_, rfl⟩
  rw [hL] at D d1
  have CL := Lib.hid (fun p F w h => scells_mid p F c l L w h)
  obtain ⟨V, hV⟩ : ∃ V, ptVal c l L 0 = V := ⟨_, rfl⟩
  have CP := Lib.hid (fun p F w h => spoint_any p F c l L 0 w h (by omega) (by omega))
  rw [hV, pt_ok (show (0 : Int) < keys c l by omega)] at CP
  have FL := Lib.hid (flat_dims d1)
  have FZ := Lib.hid (flat_in64 d1)
  have HD := Lib.hid d1
  have CO : Hid (∀ q G w, SK w q G c l (zerosL (rws c) (wds c)) → ∀ g cap, Ord.Mid w g 0 L.flatten → ¬ G g → Calls Try.prog 25 #[.pointer (some q), .slice (some ⟨g, 0, none⟩) (rws c * wds c) cap] w fun e w' => e = .returned (.bool true) ∧ ∃ F', SK w' q F' c l L ∧ Kept G w w' ∧ (∀ k, F' k → G k ∨ w.heap.size ≤ k)) := Lib.hid (fun q G w h g cap hm hg => (sload_yes q G c l _ _ _ cap L.flatten w h hm.rd FL.out (Nat.le_trans (Nat.mul_le_mul (rws_bd hr.1).2.1 (wds_bd hr.1).2.1) (by omega)) FZ.out (fun a ha hG => by injection ha with ha; subst ha; exact hg hG) rfl).mono (fun e w' ⟨e1, F', L', h1, h2, h3, h4⟩ => ⟨e1, F', by have h5 := flat_inj h1.dims HD.out h2; rw [h5] at h1; exact h1, h3, h4⟩))
  have hq9 : rws c * wds c ≤ 1024 := Nat.mul_le_mul (rws_bd hr.1).2.1 (wds_bd hr.1).2.1
  have hq8 : 1 ≤ rws c * wds c := Nat.mul_pos (rws_bd hr.1).1 (wds_bd hr.1).1
  obtain ⟨Q, hQ⟩ : ∃ Q, rws c * wds c = Q := ⟨_, rfl⟩
  have HQE := Lib.hid hQ
  rw [hQ] at CL FL CO hq9 hq8
  have HQ := Lib.hid hq
  obtain ⟨i0, hi, hz0, hz1, hz2x⟩ := info_parts i64_info
  have HTL : Hid ((zs.take n2).length = n2) := Lib.hid (by rw [List.length_take]; omega)
  have HBX : Hid (Have w (w.alloc (.cells #[.int .i64 x.bt, .int .i64 x.rw, .int .i64 x.wd, .int .i64 x.md, .int .u64 x.sd, .int .i64 lv, .slice A n0 k0] 27)) [boxT w.heap.size 27 #[.int .i64 x.bt, .int .i64 x.rw, .int .i64 x.wd, .int .i64 x.md, .int .u64 x.sd, .int .i64 lv, .slice A n0 k0]]) := Lib.hid (box_new w _ _)
  clear hC hl hr hco hmd hlb hkeys hne2 i1 d1 hL hV hq hx hbt hlv
  go_enter Try.func9, Try.ntmps9
  go_wp2_with (first
    | (go_at_call 19; (with_reducible refine (CP.out _ _ _ (skI HV8.out.i2)).mono ?_); rintro e w9 ⟨rfl, hb⟩; have HV9 := Lib.hid (HV8.out.up hb); clear hb; clear x0 x1 x2 x3 x4 x5 x6 e1 e2 e3 e4 e5; obtain ⟨x0, x1, x2, x3, x4, x5, x6⟩ := box7 HV9.out.i5; obtain ⟨e1, e2, e3, e4, e5⟩ := box5 HV9.out.i3)
    | (go_at_call 19; (with_reducible refine (CP.out _ _ _ (skI HV7.out.i4)).mono ?_); rintro e w8 ⟨rfl, hb⟩; have HV8 := Lib.hid (HV7.out.up hb); clear hb; clear x0 x1 x2 x3 x4 x5 x6 e1 e2 e3 e4 e5; obtain ⟨x0, x1, x2, x3, x4, x5, x6⟩ := box7 HV8.out.i5; obtain ⟨e1, e2, e3, e4, e5⟩ := box5 HV8.out.i3)
    | (go_at_call 14; (with_reducible refine (rsame_any _ _ _ _ _ _ _ _ _ (midI HV6.out.i0).rd (midI HV6.out.i1).rd FL.out FL.out (by omega) (by omega)).mono ?_); rintro e w7 ⟨rfl, hb⟩; have HV7 := Lib.hid (HV6.out.up hb); clear hb; clear x0 x1 x2 x3 x4 x5 x6 e1 e2 e3 e4 e5; obtain ⟨x0, x1, x2, x3, x4, x5, x6⟩ := box7 HV7.out.i5; obtain ⟨e1, e2, e3, e4, e5⟩ := box5 HV7.out.i3)
    | (go_at_call 15; (with_reducible refine (CL.out _ _ _ (skI HV5.out.i1)).mono ?_); rintro e w6 ⟨g2, cap2, rfl, h1, h2, -, -, hb⟩; have HV6 := Lib.hid (HV5.out.push (midT g2 L.flatten) hb h1 (fun k hk => by subst hk; exact h2)); clear h1 h2 hb; clear x0 x1 x2 x3 x4 x5 x6 e1 e2 e3 e4 e5; obtain ⟨x0, x1, x2, x3, x4, x5, x6⟩ := box7 HV6.out.i5; obtain ⟨e1, e2, e3, e4, e5⟩ := box5 HV6.out.i3)
    | (go_at_call 25; (with_reducible refine (CO.out q G _ (skI HV4.out.i1) g1 cap1 (midI HV4.out.i0) (mid_ap HV4.out)).mono ?_); rintro e w5 ⟨rfl, G2, h1, h2, h3⟩; have HV5 := Lib.hid (HV4.out.turn_1 (skT q G2 c l L) h1 h2 h3); clear h1 h2 h3; clear x0 x1 x2 x3 x4 x5 x6 e1 e2 e3 e4 e5; obtain ⟨x0, x1, x2, x3, x4, x5, x6⟩ := box7 HV5.out.i4; obtain ⟨e1, e2, e3, e4, e5⟩ := box5 HV5.out.i2)
    | (go_at_call 15; (with_reducible refine (CL.out _ _ _ (skI HV3.out.i2)).mono ?_); rintro e w4 ⟨g1, cap1, rfl, h1, h2, hc1, hm1, hb⟩; have HV4 := Lib.hid (HV3.out.push (midT g1 L.flatten) hb h1 (fun k hk => by subst hk; exact h2)); clear h1 h2 hb; clear x0 x1 x2 x3 x4 x5 x6 e1 e2 e3 e4 e5; obtain ⟨x0, x1, x2, x3, x4, x5, x6⟩ := box7 HV4.out.i4; obtain ⟨e1, e2, e3, e4, e5⟩ := box5 HV4.out.i2)
    | (go_at_call 23; (with_reducible refine (CN.out _).mono ?_); rintro e w3 ⟨q, G, rfl, h1, h2, hb⟩; have HV3 := Lib.hid (HV2.out.push (skT q G c l (zerosL (rws c) (wds c))) hb h1 h2); clear h1 h2 hb; clear x0 x1 x2 x3 x4 x5 x6 e1 e2 e3 e4 e5; obtain ⟨x0, x1, x2, x3, x4, x5, x6⟩ := box7 HV3.out.i3; obtain ⟨e1, e2, e3, e4, e5⟩ := box5 HV3.out.i1)
    | (go_at_call 11; (with_reducible refine (D.out _ (HQ.out.up HV1.out.below)).mono ?_); rintro e w2 ⟨p, F, rfl, hv⟩; have HVq := HV1.out.join hv; simp only [List.cons_append, List.nil_append] at HVq; have HV2 := Lib.hid (HVq.push (boxT w2.heap.size 24 #[.int .i64 c.bt, .int .i64 c.rw, .int .i64 c.wd, .int .i64 c.md, .int .u64 c.sd]) (Lw.below_alloc (Below.refl _ _) _) (heap_alloc_new w2 _) (fun k hk => Nat.le_of_eq hk.symm)); clear hv HVq; clear x0 x1 x2 x3 x4 x5 x6; obtain ⟨x0, x1, x2, x3, x4, x5, x6⟩ := box7 HV2.out.i2; obtain ⟨e1, e2, e3, e4, e5⟩ := box5 HV2.out.i0)
    | (go_at_call 10; (with_reducible refine (shown_any _).mono ?_); rintro e w1 ⟨rfl, hb⟩; have HV1 := Lib.hid (HBX.out.up hb); clear hb; obtain ⟨x0, x1, x2, x3, x4, x5, x6⟩ := box7 HV1.out.i0))
  clear x0 x1 x2 x3 x4 x5 x6 e1 e2 e3 e4 e5
  have hsl := slice_to a2 n2 k2 hn2 (by omega)
  have m1 : ¬ (20 : Int) < (n2 : Int) := by omega
  have m2 : (n2 : Int) ≤ 20 := by omega
  have m3 : (0 : Int) ≤ (n2 : Int) := by omega
  have m4 : (n2 : Int) ≤ (k2 : Int) := by omega
  have m5 : ¬ k2 = 0 := by omega
  have m6 : ¬ (k2 : Int) = 0 := by omega
  have m7 : ¬ (k2 : Int) < (n2 : Int) := by omega
  have m8 : ¬ k2 < n2 := by omega
  have m9 : (0 : Int) ≤ (n2 : Int) ∧ (n2 : Int) ≤ (k2 : Int) := ⟨m3, m4⟩
  have ma : ((n2 : Int) == 0) = false := by simp; omega
  have mb : ¬ (n2 : Int) = 0 := by omega
  have mc : ¬ n2 = 0 := by omega
  obtain ⟨Q1, hQ1⟩ : ∃ Q1 : Nat, Q = Q1 + 1 := ⟨Q - 1, by omega⟩
  have hmin : (if (1 : Int) < (Q : Int) then 1 else (Q : Int)) = 1 := by split <;> omega
  have hs1 : IntKind.i64.wrap ((Q : Int) - 1) = (Q1 : Int) := by rw [IntWalk.i64_in _ ⟨by omega, by omega⟩]; omega
  have hs2 : wrap64 ((Q : Int) - 1) = (Q1 : Int) := by rw [IntWalk.wrap64_in _ ⟨by omega, by omega⟩]; omega
  have hs3 := slice_to ⟨g1, 0, none⟩ Q1 cap1 (by omega) (by omega)
  have HTQ : Hid ((L.flatten.take Q1).length = Q1) := Lib.hid (by rw [List.length_take, FL.out]; omega)
  have hq7 : Q1 ≤ cap1 := by omega
  have hq6 : (Q1 : Int) ≤ (cap1 : Int) := by omega
  have HQ1 := Lib.hid hQ1
  clear hQ1
  go_region_held3 (fun w' => True) (trivial) (first
    | (refine app_step .i64 rfl _ _ 32 rfl w9.heap.size 2 i0 8 i64s_u hi hz0 hz1 hz2x (.slice (some ⟨w9.heap.size, 0, none⟩) 0 0) 0 [] rfl (own_empty w9.drew _ _ _ (Nat.le_refl _)) (fun h => by cases h) (some ⟨g1, 0, none⟩) Q cap1 L.flatten rfl (by simp) FL.out ((midI HV9.out.i1).rd.up (by repeat' (first | (with_reducible exact Below.refl _ _) | (with_reducible assumption) | (with_reducible refine below_over ?_ _ _) | (with_reducible refine Lw.below_alloc ?_ _) | (with_reducible refine Below.drew ?_) | (with_reducible refine below_drewN ?_ _) | (with_reducible refine Below.setCell ?_ ?_ _) | go_size))) (by unfold maxLen; omega) (by omega) (by simp) ?_; intro A4 cap4 w10 hown4 hgrow4 hrd4 hcap6 hcap7; have hb4 : Below w9.heap.size w9 w10 := app_below2 (by repeat' (first | (with_reducible exact Below.refl _ _) | (with_reducible assumption) | (with_reducible refine below_over ?_ _ _) | (with_reducible refine Lw.below_alloc ?_ _) | (with_reducible refine Below.drew ?_) | (with_reducible refine below_drewN ?_ _) | (with_reducible refine Below.setCell ?_ ?_ _) | go_size)) hgrow4 (Nat.le_refl _); (try simp only [Nat.zero_add, List.nil_append] at hown4 hrd4 hcap6); (try simp only [Nat.zero_add]); have HO4 := Lib.hid hown4; have HR4 := Lib.hid hrd4; have HB4 := Lib.hid hb4; clear hown4 hrd4 hgrow4 hcap6 hcap7)
    | (refine app_step .i64 rfl _ _ 32 rfl w9.heap.size 2 i0 8 i64s_u hi hz0 hz1 hz2x (.slice (some A4) Q cap4) Q L.flatten rfl HO4.out (fun h => by cases h) (some a2) n2 k2 (zs.take n2) rfl (by simp) HTL.out ((hr2.take n2).up (below_call HV9.out.below HB4.out (Nat.le_refl _))) (by unfold maxLen; omega) (by omega) HB4.out.size ?_; intro A5 cap5 w11 hown5 hgrow5 hrd5 hcap8 hcap9; have hb5 : Below w9.heap.size w9 w11 := HB4.out.grown hgrow5 HB4.out.size (fun k hk => own_ge HO4.out k hk))
    | (go_at_call 25; (with_reducible refine (sload_no p F c l L _ _ _ _ w11 (skI ((HV9.out.up hb5).i4)) hrd5 (by simp [FL.out, HTL.out]) (by omega) (by omega)).mono ?_); rintro e w12 ⟨rfl, hb⟩; have HVa := Lib.hid ((HV9.out.up hb5).up hb); clear hb))
  all_goals clear hcap8 hcap9 hgrow5 hown5 hrd5
  all_goals go_wp2_with (first
    | (go_at_call 14; (with_reducible refine (rsame_any _ _ _ _ _ _ _ _ _ (midI HVd.out.i0).rd (midI HVd.out.i2).rd FL.out FL.out (by omega) (by omega)).mono ?_); rintro e w15 ⟨rfl, hb⟩; have HVe := Lib.hid (HVd.out.up hb); clear hb)
    | (go_at_call 15; (with_reducible refine (CL.out _ _ _ (skI HVc.out.i4)).mono ?_); rintro e w14 ⟨g3, cap3, rfl, h1, h2, -, -, hb⟩; have HVd := Lib.hid (HVc.out.push (midT g3 L.flatten) hb h1 (fun k hk => by subst hk; exact h2)); clear h1 h2 hb)
    | (go_at_call 25; (with_reducible refine (sload_no p _ c l L (some ⟨g1, 0, none⟩) Q1 cap1 (L.flatten.take Q1) _ (skI (HVa.out.up (by repeat' (first | (with_reducible exact Below.refl _ _) | (with_reducible assumption) | (with_reducible refine below_over ?_ _ _) | (with_reducible refine Lw.below_alloc ?_ _) | (with_reducible refine Below.drew ?_) | (with_reducible refine below_drewN ?_ _) | (with_reducible refine Below.setCell ?_ ?_ _) | go_size))).i4) (((midI (HVa.out.up (by repeat' (first | (with_reducible exact Below.refl _ _) | (with_reducible assumption) | (with_reducible refine below_over ?_ _ _) | (with_reducible refine Lw.below_alloc ?_ _) | (with_reducible refine Below.drew ?_) | (with_reducible refine below_drewN ?_ _) | (with_reducible refine Below.setCell ?_ ?_ _) | go_size))).i1).rd).take Q1) HTQ.out (by have := HQ1.out; omega) (by rw [HQE.out]; have := HQ1.out; omega)).mono ?_); rintro e w13 ⟨rfl, hb⟩; have HVc := Lib.hid ((HVa.out.up (by repeat' (first | (with_reducible exact Below.refl _ _) | (with_reducible assumption) | (with_reducible refine below_over ?_ _ _) | (with_reducible refine Lw.below_alloc ?_ _) | (with_reducible refine Below.drew ?_) | (with_reducible refine below_drewN ?_ _) | (with_reducible refine Below.setCell ?_ ?_ _) | go_size))).up hb); clear hb))
  all_goals go_ret
  all_goals exact ⟨ret_bs (by first | rfl | (simp [*]; done)), HVe.out.below⟩
theorem lst_int64_c : Try.prog.cellsOf 2 = 1 := by kernel_rfl
set_option maxRecDepth 100000 in
theorem open_list_int64 {H : Type} {enc : TypeId × Value → H} {W : World} {v : Value} {d : DataW H} {p : List MemPlace} {base : Nat} (hv : Value.okWide Try.prog W .any base 32 v)
    (h : DataW.Trod enc Try.prog W 0 (fun _ => true) true 32 v d p) :
    ∃ (A : Option Addr) (n cap : Nat) (zs : List Int), v = .slice A n cap ∧ (A = none → n = 0 ∧ cap = 0) ∧ n ≤ cap ∧ cap ≤ maxLen ∧ Rd .i64 W A zs ∧ zs.length = n ∧ (∀ v ∈ zs, -9223372036854775808 ≤ v ∧ v ≤ 9223372036854775807) := by
  obtain ⟨a0, len, cap, rfl⟩ := Go.WideShapes.okWide_slice Try.underlying32 hv
  obtain ⟨fuel, hf⟩ := h
  rcases Go.ChangeShapes.open_ints Try.underlying32 Try.underlying2 lst_int64_c hf with ⟨hcs, _⟩ | ⟨a, len', cap', zs, hcs, _, hl, hm, hz, _, hcell, hwz⟩
  · simp [Value.cells] at hcs
    obtain ⟨rfl, rfl, rfl⟩ := hcs
    exact ⟨none, 0, 0, [], rfl, fun _ => ⟨rfl, rfl⟩, Nat.le_refl _, by simp, rd_nil _ _ _, rfl, fun v h => by simp at h⟩
  · simp [Value.cells] at hcs
    obtain ⟨rfl, rfl, rfl⟩ := hcs
    have hz2 : zs.length = cap := by simpa using hz
    refine ⟨some a, len, cap, zs.take len, rfl, (fun h => by cases h), hl, hm, ?_, by simp; omega, ?_⟩
    · intro k v hk
      rw [List.getElem?_take] at hk
      split at hk
      · refine ⟨a, rfl, ?_⟩
        rw [hcell k (by omega)]
        simp [hk]
      · cases hk
    · intro v hv
      exact Lw.wf_i64 (hwz v (List.mem_of_mem_take hv))
theorem loads_law (x : Cfg) (lv : Int) (A : Option Addr) (n0 k0 : Nat) (qs : Ups) (A2 : Option Addr) (n2 k2 : Nat) (zs : List Int) (w : World) (hx : x.Ok) (hlv : -9223372036854775808 ≤ lv ∧ lv ≤ 9223372036854775807) (hq : UpdV w A n0 k0 qs) (hA2 : A2 = none → n2 = 0 ∧ k2 = 0) (hn2 : n2 ≤ k2) (hk2 : k2 ≤ maxLen) (hr2 : Rd .i64 w A2 zs) (hl2 : zs.length = n2) :
    Calls Try.prog 9 #[.agg #[.int .i64 x.bt, .int .i64 x.rw, .int .i64 x.wd, .int .i64 x.md, .int .u64 x.sd, .int .i64 lv, .slice A n0 k0], .slice A2 n2 k2] w fun e w' => e = .returned (.bool true) ∧ Below w.heap.size w w' := by
  have hk3 : k2 ≤ 9223372036854775807 := hk2
  cases A2 with
  | none =>
    obtain ⟨rfl, rfl⟩ := hA2 rfl
    exact loads_a x lv A n0 k0 qs zs w hx hlv hq
  | some a2 =>
    by_cases h0 : n2 = 0
    · subst h0
      by_cases h1 : k2 = 0
      · subst h1
        exact loads_b x lv A n0 k0 qs a2 zs w hx hlv hq
      · exact loads_c x lv A n0 k0 qs a2 k2 zs w hx hlv hq hk3 h1
    · by_cases h2 : n2 ≤ 20
      · exact loads_d x lv A n0 k0 qs a2 n2 k2 zs w hx hlv hq hn2 hk3 hr2 hl2 (by omega) h2
      · exact loads_e x lv A n0 k0 qs a2 n2 k2 zs w hx hlv hq hn2 hk3 hr2 hl2 (by omega)
namespace sketchLoads
open Go.ChangeShapes Go.WideShapes Go.ChangeAt Go.Joins
set_option maxRecDepth 100000 in
theorem lifted (os : Os) (started : os.Started) (H : Type) (enc : TypeId × Value → H) :
    ReturnsInHanded {} Try.checked os 9 .any (Rows.sketchLoadsSpec.pre6 enc Try.prog Try.f9 Rows.sketchLoadsRow.domain false) (Rows.sketchLoadsSpec.post enc Try.prog Try.f9 false true false false) := by
  refine Lw.lifted (C := Try.checked) (B := 4) (by kernel_rfl) os started (by kernel_rfl) Try.func9
    (ChangeSpec.witness6 (enc := enc) (C := Try.checked) false ⟨#[], #[.agg #[.int .i64 0, .int .i64 0, .int .i64 0, .int .i64 0, .int .u64 0, .int .i64 0, .slice none 0 0], .slice none 0 0], []⟩ 8 (by kernel_rfl) (by kernel_rfl) (by kernel_rfl) (by kernel_rfl)) rfl Try.underlying4 (by kernel_rfl) (by kernel_rfl) (by kernel_rfl) ?_ ?_
  · intro ds h
    rw [Try.params9] at h
    match ds, h with
    | [_, _], _ => rfl
  · intro W base args ds p hval hA
    rw [Try.params9] at hA hval
    obtain ⟨v0, vs0, d0, ds0, p0, q0, hargs, rfl, rfl, h0, r0⟩ := trodAll_cons hA
    obtain ⟨v1, vs1, d1, ds1, p1, q1, rfl, rfl, rfl, h1, r1⟩ := trodAll_cons r0
    obtain ⟨rfl, rfl, rfl⟩ := trodAll_nil r1
    obtain rfl : args = #[v0, v1] := by cases args; simp_all
    obtain ⟨x0, lv0, A0, n0, k0, qs0, rfl, hx0, hlv0, hq0⟩ := open_playS (hval 0 27 v0 rfl rfl) h0
    obtain ⟨A1, n1, c1, zs1, rfl, hA1, hn1, hc1, hr1, hl1, hz1⟩ := open_list_int64 (hval 1 32 v1 rfl rfl) h1
    exact loads_law x0 lv0 A0 n0 k0 qs0 A1 n1 c1 zs1 W hx0 hlv0 hq0 hA1 hn1 hc1 hr1 hl1
theorem over : Rows.sketchLoadsRow.holds Try.pinned (OpenSpec.ofChange Rows.sketchLoadsSpec) :=
  OpenClaim.holds_of_wide 9 Try.f9 rfl rfl rfl rfl rfl rfl rfl ⟨rfl, rfl, rfl, rfl, rfl⟩ rfl rfl rfl rfl rfl (by kernel_rfl) Try.func9 (by kernel_rfl)
    (of_decide_eq_true (by kernel_rfl)) (by unfold Func.isWrapper; first | (rw [if_pos (by decide +kernel)]; kernel_rfl) | (rw [if_neg (by decide +kernel)]; exact ⟨rfl, rfl⟩))
    (fun os started H enc _ => lifted os started H enc)
theorem proved : Rows.SketchLoadsSaid :=
  over
#print axioms proved
end sketchLoads
end Go.Proofs.Ytahgkiceifblmaa.Sk
