/- The statement ExactLoads of layer 12 holds: too few or too many numbers change nothing; what is told may be written over. Printed by wip/gen/exalaws.py. -/
import Derived.Test.YtnhknachabephaaMg
import Derived.Deep.LoopGhost
import Derived.Deep.RegionHeld3
import Derived.Deep.DeepCutAuto
import Derived.Deep.QuietTactic
import Derived.BigQuiet
namespace Go.Proofs.Ytnhknachabephaa.Exa
open Go Go.RowKit Lw Grd Lin Con Shp Sk
set_option linter.unusedVariables false
set_option linter.unusedSimpArgs false
theorem mid_ap {w0 w : World} {g : Nat} {zs : List Int} {t : Thing} {q : Addr} {G : Nat → Prop} {c : Cfg} {l : Int} {M : List Int} {ts : List Thing} (h : Have w0 w (midT g zs :: t :: exT q G c l M :: ts)) : ¬ G g := h.ap02 g rfl
set_option maxRecDepth 100000 in
set_option maxHeartbeats 16000000 in
theorem loads_law (x : Cfg) (lv : Int) (A : Option Addr) (n9 cap : Nat) (zs : List Int) (w : World) (hx : x.Ok) (hlv : -9223372036854775808 ≤ lv ∧ lv ≤ 9223372036854775807) (hA : A = none → n9 = 0 ∧ cap = 0) (hn : n9 ≤ cap) (hcap : cap ≤ maxLen) (hr : Rd .i64 w A zs) (hl : zs.length = n9) (hz : In64 zs) :
    Calls Try.prog 7 #[.agg #[.int .i64 x.bt, .int .i64 x.rw, .int .i64 x.wd, .int .i64 x.md, .int .u64 x.sd], .int .i64 lv, .slice A n9 cap] w fun e w' => e = .returned (.bool true) ∧ Below w.heap.size w w' := by
  unfold maxLen at hcap
  obtain ⟨i0, hi, hz0, hz1, hz2⟩ := info_parts i64_info
  obtain ⟨m, hmin⟩ : ∃ m : Nat, (if (200 : Int) < n9 then 200 else (n9 : Int)) = m := ⟨min n9 200, by split <;> omega⟩
  have hm1 : m ≤ 200 := by split at hmin <;> omega
  have hm2 : m ≤ n9 := by split at hmin <;> omega
  have hm3 : m ≤ zs.length := by omega
  have hA2 : A = none → m = 0 ∧ cap = 0 := fun h => ⟨by have := (hA h).1; omega, (hA h).2⟩
  have LZ : Hid ((zs.take m).length = m) := Lib.hid (by rw [List.length_take]; omega)
  have HZ := Lib.hid (in64_take hz m)
  have HR := Lib.hid hr
  obtain ⟨c, hc⟩ : ∃ c, anyC x 8 128 = c := ⟨_, rfl⟩
  have cr := any_right x 8 128 (by omega) (by omega) (by omega) (by omega)
  have co := any_ok x hx 8 128 (by omega) (by omega) (by omega) (by omega)
  rw [hc] at cr co
  have CA := Lib.hid (fun w => rany_at x 8 128 c w hx (by omega) (by omega) (by omega) (by omega) hc)
  have CT := Lib.hid (fun w => top_any c lv w co cr hlv.1 hlv.2)
  have HCO := Lib.hid co
  have HBX : Hid (Have w (w.alloc (.cells #[.int .i64 x.bt, .int .i64 x.rw, .int .i64 x.wd, .int .i64 x.md, .int .u64 x.sd] 24)) [boxT w.heap.size 24 #[.int .i64 x.bt, .int .i64 x.rw, .int .i64 x.wd, .int .i64 x.md, .int .u64 x.sd]]) := Lib.hid (box_new w _ _)
  clear hc hx cr co hlv hr hl hz hA hm3
  go_enter Try.func7, Try.ntmps7
  go_upto_region 4 with (first
    | (go_at_call 10; (with_reducible refine (CT.out _).mono ?_); rintro e w3 ⟨l, rfl, hxl, hb⟩; have HXL := Lib.hid hxl; have HV3 := Lib.hid (HV2.out.up hb); clear hb hxl; clear c0 c1 c2 c3 c4; obtain ⟨c0, c1, c2, c3, c4⟩ := box5 HV3.out.i0)
    | (go_at_call 9; (with_reducible refine (CA.out _).mono ?_); rintro e w2 ⟨rfl, hb⟩; have HV2 := Lib.hid ((HV1.out.up hb).push (boxT w2.heap.size 24 #[.int .i64 c.bt, .int .i64 c.rw, .int .i64 c.wd, .int .i64 c.md, .int .u64 c.sd]) (Lw.below_alloc (Below.refl _ _) _) (heap_alloc_new w2 _) (fun k hk => Nat.le_of_eq hk.symm)); clear hb; clear x0 x1 x2 x3 x4; obtain ⟨c0, c1, c2, c3, c4⟩ := box5 HV2.out.i0)
    | (go_at_call 8; (with_reducible refine (shown_any _).mono ?_); rintro e w1 ⟨rfl, hb⟩; have HV1 := Lib.hid (HBX.out.up hb); clear hb; obtain ⟨x0, x1, x2, x3, x4⟩ := box5 HV1.out.i0))
  obtain ⟨n, hn0⟩ : ∃ n : Nat, keys c l = (n : Int) := ⟨(keys c l).toNat, by have := exact_len HXL.out; omega⟩
  have hn1 : 1 ≤ n := by have := exact_len HXL.out; omega
  have hn8 : n ≤ 128 := by have := exact_len HXL.out; omega
  have hlb := (keys_pos.1 (exact_len HXL.out).1).2
  have hbt := (keys_pos.1 (exact_len HXL.out).1).1.2.1
  have CN := Lib.hid (fun w => enew_yes c l w HCO.out (by omega) (by omega) HXL.out)
  rw [hn0, Int.toNat_natCast] at CN
  have LR : Hid ((List.replicate n (0 : Int)).length = n) := Lib.hid (by simp)
  have CC := Lib.hid (fun p F w h => ecells_mid p F c l (List.replicate n 0) w h)
  rw [LR.out] at CC
  clear hn0 hlb hbt CA CT
  go_upto_region 8 with (first
    | (go_at_call 24; (with_reducible refine (CC.out p F _ (exI HV4.out.i0)).mono ?_); rintro e w5 ⟨g1, cap1, rfl, h1, h2, -, -, hb⟩; have HV5 := Lib.hid (HV4.out.push (midT g1 (List.replicate n 0)) hb h1 (fun k hk => by subst hk; exact h2)); clear h1 h2 hb)
    | (go_at_call 11; (with_reducible refine (CN.out _).mono ?_); rintro e w4 ⟨p, F, rfl, h1, h2, hb⟩; have HV4 := Lib.hid (HV3.out.push (exT p F c l (List.replicate n 0)) hb h1 h2); clear h1 h2 hb))
  by_cases hmn : m = n
  · have HMN := Lib.hid hmn
    have hmb : ((m : Int) == (n : Int)) = true := by rw [hmn]; simp
    clear hmn
    as_aux_lemma =>
      have CC2 := Lib.hid (fun p F w h => ecells_mid p F c l (zs.take m) w h)
      rw [LZ.out] at CC2
      have CO : Hid (∀ p F w, EX w p F c l (List.replicate n 0) → ∀ g cap, Ord.Mid w g 0 (zs.take m) → ¬ F g → Calls Try.prog 23 #[.pointer (some p), .slice (some ⟨g, 0, none⟩) m cap] w fun e w' => e = .returned (.bool true) ∧ ∃ F', EX w' p F' c l (zs.take m) ∧ Kept F w w' ∧ (∀ k, F' k → F k ∨ w.heap.size ≤ k)) := Lib.hid (fun p F w h g cap hm hg => eload_yes p F c l _ (some ⟨g, 0, none⟩) m cap (zs.take m) w h hm.rd LZ.out HZ.out (fun a ha => by injection ha with ha; subst ha; exact hg) (by rw [LR.out]; exact HMN.out))
      go_upto_region 16 with (first
        | (go_at_call 24; (with_reducible refine (CC2.out p F2 _ (exI HV9.out.i3)).mono ?_); rintro e wa ⟨g4, cap4, rfl, h1, h2, -, -, hb⟩; have HVa := Lib.hid (HV9.out.push (midT g4 (zs.take m)) hb h1 (fun k hk => by subst hk; exact h2)); clear h1 h2 hb)
        | (go_at_call 26; (with_reducible refine (rsame_any _ _ _ _ _ _ (zs.take m) (zs.take m) _ (midI HV8.out.i0).rd (midI HV8.out.i1).rd LZ.out LZ.out (by omega) (by omega)).mono ?_); rintro e w9 ⟨rfl, hb⟩; have HV9 := Lib.hid (HV8.out.up hb); clear hb)
        | (go_at_call 24; (with_reducible refine (CC2.out p F2 _ (exI HV7.out.i2)).mono ?_); rintro e w8 ⟨g3, cap3, rfl, h1, h2, -, -, hb⟩; have HV8 := Lib.hid (HV7.out.push (midT g3 (zs.take m)) hb h1 (fun k hk => by subst hk; exact h2)); clear h1 h2 hb)
        | (go_at_call 23; (with_reducible refine (CO.out p F _ (exI HV6.out.i2) g2 cap2 (midI HV6.out.i0) (mid_ap HV6.out)).mono ?_); rintro e w7 ⟨rfl, F2, h1, h2, h3⟩; have HV7 := Lib.hid (HV6.out.turn_2 (exT p F2 c l (zs.take m)) h1 h2 h3); clear h1 h2 h3)
        | (at_builtin; go_must (refine app_any .i64 rfl _ _ 46 rfl w5.heap.size 2 i0 8 i64s_u hi hz0 hz1 hz2 (.slice (some ⟨w5.heap.size, 0, none⟩) 0 0) 0 [] rfl (own_empty w5 _ _ _ (Nat.le_refl _)) (fun h => by cases h) A m cap (zs.take m) rfl hA2 LZ.out ((HR.out.take m).up (below_call HV5.out.below (by repeat' (first | (with_reducible exact Below.refl _ _) | (with_reducible assumption) | (with_reducible refine below_over ?_ _ _) | (with_reducible refine Lw.below_alloc ?_ _) | (with_reducible refine Below.drew ?_) | (with_reducible refine below_drewN ?_ _) | (with_reducible refine Below.setCell ?_ ?_ _) | go_size)) (Nat.le_refl _))) (by unfold maxLen; omega) (by omega) (by simp) ?_); intro A2 cap2 w6 hown2 hgrow2 rd2 hc2 hc3; have hb6 := app_below hgrow2 (Nat.le_refl _); rw [List.nil_append] at hown2; (try simp only [Nat.zero_add] at hown2); (try simp only [Nat.zero_add]); obtain ⟨g2, hA9, hg2, hm2⟩ := Ord.mid_own hown2; subst hA9; have HV6 := Lib.hid (HV5.out.push (midT g2 (zs.take m)) hb6 hm2 (fun k hk => by subst hk; exact hg2)); clear hown2 hgrow2 rd2 hc2 hc3 hb6 hg2 hm2))
      obtain ⟨NN, hNN⟩ : ∃ NN : List Int, (zs.take m) = NN := ⟨_, rfl⟩
      have LN := LZ
      rw [hNN] at LN HVa
      obtain ⟨gc, hgc⟩ : ∃ gc, w2.heap.size = gc := ⟨_, rfl⟩
      rw [hgc] at HVa
      have CC3 := CC2
      rw [hNN] at CC3
      have HS := Lib.hid (Nat.le_refl m)
      clear hNN hgc HV9 HV8 HV7 HV6 HV5 HV4 HV3 HV2 HV1 c0 c1 c2 c3 c4
      go_loopw [16] (fun iv wr => ∃ (j : Nat) (W : List Int), j ≤ m ∧ iv = .int .i64 j ∧ W.length = m ∧ Have w wr [midT g4 W, midT g3 NN, midT g2 NN, midT g1 (List.replicate n 0), exT p F2 c l NN, boxT gc 24 #[.int .i64 c.bt, .int .i64 c.rw, .int .i64 c.wd, .int .i64 c.md, .int .u64 c.sd], boxT w.heap.size 24 #[.int .i64 x.bt, .int .i64 x.rw, .int .i64 x.wd, .int .i64 x.md, .int .u64 x.sd]]) (fun iv _ => m - (intOf iv).toNat)
      case atStart => exact ⟨0, NN, Nat.zero_le _, rfl, LN.out, HVa.out⟩
      case round =>
        obtain ⟨j, W, hj, rfl, hw, hv⟩ := hrel
        have HVr := Lib.hid hv
        have HW := Lib.hid hw
        clear hv hw
        by_cases hlt : j < m
        · obtain ⟨x, hx⟩ : ∃ x, W[j]? = some x := ⟨_, List.getElem?_eq_getElem (by rw [HW.out]; exact hlt)⟩
          have hcl := (midI HVr.out.i0).cell hx
          have hfz := (midI HVr.out.i0).frozen (0 + j)
          have hm6 := (midI HVr.out.i0).set j (wrap64 (x + 1))
          have hk6 : Kept (fun k => k = g4) wr (wr.setCell ⟨g4, 0 + j, none⟩ (.int .i64 (wrap64 (x + 1)))) := (Kept.refl (fun k => k = g4) wr).set (.inl rfl) _ _
          obtain ⟨gad, hgad⟩ : ∃ gad : Addr, (⟨g4, 0, none⟩ : Addr) = gad := ⟨_, rfl⟩
          rw [← Ord.add_at, hgad] at hcl hfz hm6 hk6
          have HM6 := Lib.hid hm6
          have HK6 := Lib.hid hk6
          clear hm6 hk6 hx
          rw [hgad]
          go_wp2
          clear hcl hfz
          go_roundw
          case rel => exact ⟨j + 1, W.set j (wrap64 (x + 1)), by omega, by go_num, by rw [List.length_set]; exact HW.out, HVr.out.turn_0 (midT g4 _) HM6.out HK6.out (fun k hk => .inl hk)⟩
          case measure => simp [intOf]; omega
        · have e : m = j := by omega
          subst e
          obtain ⟨wo, rfl⟩ : ∃ wo, wo = wr := ⟨_, rfl⟩
          go_wp2
          go_loopw [17] (fun iv wr => ∃ (i : Nat) (V : List Int), i ≤ m ∧ iv = .int .i64 i ∧ V.length = m ∧ Have w wr [midT g4 W, midT g3 NN, midT g2 V, midT g1 (List.replicate n 0), exT p F2 c l NN, boxT gc 24 #[.int .i64 c.bt, .int .i64 c.rw, .int .i64 c.wd, .int .i64 c.md, .int .u64 c.sd], boxT w.heap.size 24 #[.int .i64 x.bt, .int .i64 x.rw, .int .i64 x.wd, .int .i64 x.md, .int .u64 x.sd]]) (fun iv _ => m - (intOf iv).toNat)
          case atStart => exact ⟨0, _, Nat.zero_le _, rfl, LN.out, HVr.out⟩
          case round =>
            obtain ⟨i, V, hi9, rfl, hw2, hv⟩ := hrel
            have HVi := Lib.hid hv
            have HW2 := Lib.hid hw2
            clear hv hw2
            by_cases hlt2 : i < m
            · obtain ⟨x, hx⟩ : ∃ x, V[i]? = some x := ⟨_, List.getElem?_eq_getElem (by rw [HW2.out]; exact hlt2)⟩
              have hcl := (midI HVi.out.i2).cell hx
              have hfz := (midI HVi.out.i2).frozen (0 + i)
              have hm6 := (midI HVi.out.i2).set i 7
              have hk6 : Kept (fun k => k = g2) wr (wr.setCell ⟨g2, 0 + i, none⟩ (.int .i64 7)) := (Kept.refl (fun k => k = g2) wr).set (.inl rfl) _ _
              obtain ⟨gad, hgad⟩ : ∃ gad : Addr, (⟨g2, 0, none⟩ : Addr) = gad := ⟨_, rfl⟩
              rw [← Ord.add_at, hgad] at hcl hfz hm6 hk6
              have HM6 := Lib.hid hm6
              have HK6 := Lib.hid hk6
              clear hm6 hk6 hx
              rw [hgad]
              go_wp2
              clear hcl hfz
              go_roundw
              case rel => exact ⟨i + 1, V.set i 7, by omega, by go_num, by rw [List.length_set]; exact HW2.out, HVi.out.turn_2 (midT g2 _) HM6.out HK6.out (fun k hk => .inl hk)⟩
              case measure => simp [intOf]; omega
            · have e : m = i := by omega
              subst e
              go_wp2_with (first
                | (go_at_call 26; (with_reducible refine (rsame_any _ _ _ _ _ _ NN NN _ (midI HVx.out.i0).rd (midI HVx.out.i2).rd LN.out LN.out (by omega) (by omega)).mono ?_); rintro e wy ⟨rfl, hb⟩; have HVy := Lib.hid (HVx.out.up hb); clear hb)
                | (go_at_call 24; (with_reducible refine (CC3.out p F2 _ (exI HVi.out.i4)).mono ?_); rintro e wx ⟨g5, cap5, rfl, h1, h2, -, -, hb⟩; have HVx := Lib.hid (HVi.out.push (midT g5 NN) hb h1 (fun k hk => by subst hk; exact h2)); clear h1 h2 hb))
              all_goals go_ret
              all_goals exact ⟨ret_bs (by first | rfl | (simp [*]; done)), HVy.out.below⟩
  · have HMN := Lib.hid hmn
    have hmb : ((m : Int) == (n : Int)) = false := by simp; omega
    clear hmn
    as_aux_lemma =>
      have CC2 := Lib.hid (fun p F w h => ecells_mid p F c l (List.replicate n 0) w h)
      rw [LR.out] at CC2
      go_upto_region 16 with (first
        | (go_at_call 24; (with_reducible refine (CC2.out p F _ (exI HV9.out.i3)).mono ?_); rintro e wa ⟨g4, cap4, rfl, h1, h2, -, -, hb⟩; have HVa := Lib.hid (HV9.out.push (midT g4 (List.replicate n 0)) hb h1 (fun k hk => by subst hk; exact h2)); clear h1 h2 hb)
        | (go_at_call 26; (with_reducible refine (rsame_any _ _ _ _ _ _ (List.replicate n 0) (List.replicate n 0) _ (midI HV8.out.i0).rd (midI HV8.out.i2).rd LR.out LR.out (by omega) (by omega)).mono ?_); rintro e w9 ⟨rfl, hb⟩; have HV9 := Lib.hid (HV8.out.up hb); clear hb)
        | (go_at_call 24; (with_reducible refine (CC2.out p F _ (exI HV7.out.i2)).mono ?_); rintro e w8 ⟨g3, cap3, rfl, h1, h2, -, -, hb⟩; have HV8 := Lib.hid (HV7.out.push (midT g3 (List.replicate n 0)) hb h1 (fun k hk => by subst hk; exact h2)); clear h1 h2 hb)
        | (go_at_call 23; (with_reducible refine (eload_no p F c l _ (some ⟨g2, 0, none⟩) m cap2 _ (exI HV6.out.i2) (by omega) (by rw [LR.out]; exact HMN.out)).mono ?_); rintro e w7 ⟨rfl, hb⟩; have HV7 := Lib.hid (HV6.out.up hb); clear hb)
        | (at_builtin; go_must (refine app_any .i64 rfl _ _ 46 rfl w5.heap.size 2 i0 8 i64s_u hi hz0 hz1 hz2 (.slice (some ⟨w5.heap.size, 0, none⟩) 0 0) 0 [] rfl (own_empty w5 _ _ _ (Nat.le_refl _)) (fun h => by cases h) A m cap (zs.take m) rfl hA2 LZ.out ((HR.out.take m).up (below_call HV5.out.below (by repeat' (first | (with_reducible exact Below.refl _ _) | (with_reducible assumption) | (with_reducible refine below_over ?_ _ _) | (with_reducible refine Lw.below_alloc ?_ _) | (with_reducible refine Below.drew ?_) | (with_reducible refine below_drewN ?_ _) | (with_reducible refine Below.setCell ?_ ?_ _) | go_size)) (Nat.le_refl _))) (by unfold maxLen; omega) (by omega) (by simp) ?_); intro A2 cap2 w6 hown2 hgrow2 rd2 hc2 hc3; have hb6 := app_below hgrow2 (Nat.le_refl _); rw [List.nil_append] at hown2; (try simp only [Nat.zero_add] at hown2); (try simp only [Nat.zero_add]); obtain ⟨g2, hA9, hg2, hm2⟩ := Ord.mid_own hown2; subst hA9; have HV6 := Lib.hid (HV5.out.push (midT g2 (zs.take m)) hb6 hm2 (fun k hk => by subst hk; exact hg2)); clear hown2 hgrow2 rd2 hc2 hc3 hb6 hg2 hm2))
      obtain ⟨NN, hNN⟩ : ∃ NN : List Int, (List.replicate n 0) = NN := ⟨_, rfl⟩
      have LN := LR
      rw [hNN] at LN HVa
      obtain ⟨gc, hgc⟩ : ∃ gc, w2.heap.size = gc := ⟨_, rfl⟩
      rw [hgc] at HVa
      have CC3 := CC2
      rw [hNN] at CC3
      have HS := Lib.hid (Nat.le_refl n)
      clear hNN hgc HV9 HV8 HV7 HV6 HV5 HV4 HV3 HV2 HV1 c0 c1 c2 c3 c4
      go_loopw [16] (fun iv wr => ∃ (j : Nat) (W : List Int), j ≤ n ∧ iv = .int .i64 j ∧ W.length = n ∧ Have w wr [midT g4 W, midT g3 NN, midT g2 (zs.take m), midT g1 NN, exT p F c l NN, boxT gc 24 #[.int .i64 c.bt, .int .i64 c.rw, .int .i64 c.wd, .int .i64 c.md, .int .u64 c.sd], boxT w.heap.size 24 #[.int .i64 x.bt, .int .i64 x.rw, .int .i64 x.wd, .int .i64 x.md, .int .u64 x.sd]]) (fun iv _ => n - (intOf iv).toNat)
      case atStart => exact ⟨0, NN, Nat.zero_le _, rfl, LN.out, HVa.out⟩
      case round =>
        obtain ⟨j, W, hj, rfl, hw, hv⟩ := hrel
        have HVr := Lib.hid hv
        have HW := Lib.hid hw
        clear hv hw
        by_cases hlt : j < n
        · obtain ⟨x, hx⟩ : ∃ x, W[j]? = some x := ⟨_, List.getElem?_eq_getElem (by rw [HW.out]; exact hlt)⟩
          have hcl := (midI HVr.out.i0).cell hx
          have hfz := (midI HVr.out.i0).frozen (0 + j)
          have hm6 := (midI HVr.out.i0).set j (wrap64 (x + 1))
          have hk6 : Kept (fun k => k = g4) wr (wr.setCell ⟨g4, 0 + j, none⟩ (.int .i64 (wrap64 (x + 1)))) := (Kept.refl (fun k => k = g4) wr).set (.inl rfl) _ _
          obtain ⟨gad, hgad⟩ : ∃ gad : Addr, (⟨g4, 0, none⟩ : Addr) = gad := ⟨_, rfl⟩
          rw [← Ord.add_at, hgad] at hcl hfz hm6 hk6
          have HM6 := Lib.hid hm6
          have HK6 := Lib.hid hk6
          clear hm6 hk6 hx
          rw [hgad]
          go_wp2
          clear hcl hfz
          go_roundw
          case rel => exact ⟨j + 1, W.set j (wrap64 (x + 1)), by omega, by go_num, by rw [List.length_set]; exact HW.out, HVr.out.turn_0 (midT g4 _) HM6.out HK6.out (fun k hk => .inl hk)⟩
          case measure => simp [intOf]; omega
        · have e : n = j := by omega
          subst e
          obtain ⟨wo, rfl⟩ : ∃ wo, wo = wr := ⟨_, rfl⟩
          go_wp2
          go_loopw [17] (fun iv wr => ∃ (i : Nat) (V : List Int), i ≤ m ∧ iv = .int .i64 i ∧ V.length = m ∧ Have w wr [midT g4 W, midT g3 NN, midT g2 V, midT g1 NN, exT p F c l NN, boxT gc 24 #[.int .i64 c.bt, .int .i64 c.rw, .int .i64 c.wd, .int .i64 c.md, .int .u64 c.sd], boxT w.heap.size 24 #[.int .i64 x.bt, .int .i64 x.rw, .int .i64 x.wd, .int .i64 x.md, .int .u64 x.sd]]) (fun iv _ => m - (intOf iv).toNat)
          case atStart => exact ⟨0, _, Nat.zero_le _, rfl, LZ.out, HVr.out⟩
          case round =>
            obtain ⟨i, V, hi9, rfl, hw2, hv⟩ := hrel
            have HVi := Lib.hid hv
            have HW2 := Lib.hid hw2
            clear hv hw2
            by_cases hlt2 : i < m
            · obtain ⟨x, hx⟩ : ∃ x, V[i]? = some x := ⟨_, List.getElem?_eq_getElem (by rw [HW2.out]; exact hlt2)⟩
              have hcl := (midI HVi.out.i2).cell hx
              have hfz := (midI HVi.out.i2).frozen (0 + i)
              have hm6 := (midI HVi.out.i2).set i 7
              have hk6 : Kept (fun k => k = g2) wr (wr.setCell ⟨g2, 0 + i, none⟩ (.int .i64 7)) := (Kept.refl (fun k => k = g2) wr).set (.inl rfl) _ _
              obtain ⟨gad, hgad⟩ : ∃ gad : Addr, (⟨g2, 0, none⟩ : Addr) = gad := ⟨_, rfl⟩
              rw [← Ord.add_at, hgad] at hcl hfz hm6 hk6
              have HM6 := Lib.hid hm6
              have HK6 := Lib.hid hk6
              clear hm6 hk6 hx
              rw [hgad]
              go_wp2
              clear hcl hfz
              go_roundw
              case rel => exact ⟨i + 1, V.set i 7, by omega, by go_num, by rw [List.length_set]; exact HW2.out, HVi.out.turn_2 (midT g2 _) HM6.out HK6.out (fun k hk => .inl hk)⟩
              case measure => simp [intOf]; omega
            · have e : m = i := by omega
              subst e
              go_wp2_with (first
                | (go_at_call 26; (with_reducible refine (rsame_any _ _ _ _ _ _ NN NN _ (midI HVx.out.i0).rd (midI HVx.out.i2).rd LN.out LN.out (by omega) (by omega)).mono ?_); rintro e wy ⟨rfl, hb⟩; have HVy := Lib.hid (HVx.out.up hb); clear hb)
                | (go_at_call 24; (with_reducible refine (CC3.out p F _ (exI HVi.out.i4)).mono ?_); rintro e wx ⟨g5, cap5, rfl, h1, h2, -, -, hb⟩; have HVx := Lib.hid (HVi.out.push (midT g5 NN) hb h1 (fun k hk => by subst hk; exact h2)); clear h1 h2 hb))
              all_goals go_ret
              all_goals exact ⟨ret_bs (by first | rfl | (simp [*]; done)), HVy.out.below⟩
namespace exactLoads
open Go.ChangeShapes Go.WideShapes Go.ChangeAt Go.Joins
set_option maxRecDepth 100000 in
theorem lifted (os : Os) (started : os.Started) (H : Type) (enc : TypeId × Value → H) :
    ReturnsInHanded {} Try.checked os 7 .any (Rows.exactLoadsSpec.pre6 enc Try.prog Try.f7 Rows.exactLoadsRow.domain false) (Rows.exactLoadsSpec.post enc Try.prog Try.f7 false true false false) := by
  refine Lw.lifted (C := Try.checked) (B := 4) (by kernel_rfl) os started (by kernel_rfl) Try.func7
    (ChangeSpec.witness6 (enc := enc) (C := Try.checked) false ⟨#[], #[.agg #[.int .i64 0, .int .i64 0, .int .i64 0, .int .i64 0, .int .u64 0], .int .i64 0, .slice none 0 0], []⟩ 8 (by kernel_rfl) (by kernel_rfl) (by kernel_rfl) (by kernel_rfl)) rfl Try.underlying4 (by kernel_rfl) (by kernel_rfl) (by kernel_rfl) ?_ ?_
  · intro ds h
    rw [Try.params7] at h
    match ds, h with
    | [_, _, _], _ => rfl
  · intro W base args ds p hval hA
    rw [Try.params7] at hA hval
    obtain ⟨v0, vs0, d0, ds0, p0, q0, hargs, rfl, rfl, h0, r0⟩ := trodAll_cons hA
    obtain ⟨v1, vs1, d1, ds1, p1, q1, rfl, rfl, rfl, h1, r1⟩ := trodAll_cons r0
    obtain ⟨v2, vs2, d2, ds2, p2, q2, rfl, rfl, rfl, h2, r2⟩ := trodAll_cons r1
    obtain ⟨rfl, rfl, rfl⟩ := trodAll_nil r2
    obtain rfl : args = #[v0, v1, v2] := by cases args; simp_all
    obtain ⟨x0_0, x0_1, x0_2, x0_3, x0_4, rfl, z0_0, z0_1, z0_2, z0_3, z0_4⟩ := open_cfg (hval 0 24 v0 rfl rfl) h0
    obtain ⟨a1, rfl, rfl, rfl, w1⟩ := open_int Try.underlying3 (hval 1 3 v1 rfl rfl) h1
    have b1 := Lw.wf_i64 w1
    obtain ⟨A2, n2, c2, zs2, rfl, hA2, hn2, hc2, hr2, hl2, hz2⟩ := open_list_int64 (hval 2 46 v2 rfl rfl) h2
    exact loads_law ⟨x0_0, x0_1, x0_2, x0_3, x0_4⟩ a1 A2 n2 c2 zs2 W ⟨z0_0.1, z0_0.2, z0_1.1, z0_1.2, z0_2.1, z0_2.2, z0_3.1, z0_3.2, z0_4.1, z0_4.2⟩ b1 hA2 hn2 hc2 hr2 hl2 hz2
theorem over : Rows.exactLoadsRow.holds Try.pinned (OpenSpec.ofChange Rows.exactLoadsSpec) :=
  OpenClaim.holds_of_wide 7 Try.f7 rfl rfl rfl rfl rfl rfl rfl ⟨rfl, rfl, rfl, rfl, rfl⟩ rfl rfl rfl rfl rfl (by kernel_rfl) Try.func7 (by kernel_rfl)
    (of_decide_eq_true (by kernel_rfl)) (by unfold Func.isWrapper; first | (rw [if_pos (by decide +kernel)]; kernel_rfl) | (rw [if_neg (by decide +kernel)]; exact ⟨rfl, rfl⟩))
    (fun os started H enc _ => lifted os started H enc)
theorem proved : Rows.ExactLoadsSaid :=
  over
#print axioms proved
end exactLoads
end Go.Proofs.Ytnhknachabephaa.Exa
