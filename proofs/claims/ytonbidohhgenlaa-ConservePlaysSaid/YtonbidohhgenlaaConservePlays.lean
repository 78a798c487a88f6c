/- The statement ConservePlays of layer 9 holds. Printed by wip/gen/con*.py. -/
import Derived.Test.YtonbidohhgenlaaConBoth
import Derived.Test.YtonbidohhgenlaaLaw
import Derived.Deep.DeepCutAuto
import Derived.Deep.CutRange
import Derived.Deep.LoopGhost
import Derived.Deep.RegionHeld3
import Derived.Deep.QuietTactic
import Derived.BigQuiet
namespace Go.Proofs.Ytonbidohhgenlaa.Con
open Go Go.RowKit Lw Grd Lin
set_option linter.unusedVariables false
set_option linter.unusedSimpArgs false
theorem dnew_mn (rows width : Int) (m n : Nat) (w : World) (hm : cl rows 8 = m) (hn : cl width 128 = n) (r0 : -9223372036854775808 ≤ rows) (r1 : rows ≤ 9223372036854775807) (c0 : -9223372036854775808 ≤ width) (c1 : width ≤ 9223372036854775807) :
    Calls Try.prog 10 #[.int .i64 rows, .int .i64 width] w fun e w' => ∃ (q : Addr) (G : Nat → Prop), e = .returned (.pointer (some q)) ∧ DG w' q G m n (zerosL m n) ∧ (∀ k, G k → w.heap.size ≤ k) ∧ Below w.heap.size w w' := by
  subst hm hn
  exact dnew_any rows width w r0 r1 c0 c1
theorem own_row2 {w : World} {B : Nat} {e : TypeId} {A : Addr} {n cap : Nat} {zs : List Int} (h : w.ownsRow B e 1 (.slice (some A) n cap) n (zs.map (Value.int .i64))) : Row1 w (some A) zs ∧ ∀ k, (rowT (some A) zs).F k → B ≤ k := by
  obtain ⟨g, rfl, hg, hm⟩ := Ord.mid_own h
  refine ⟨mid_row hm, ?_⟩
  rintro k ⟨a, ha, rfl⟩
  injection ha with ha
  subst ha
  exact hg
theorem dcells_q (q : Addr) (G : Nat → Prop) (m n z : Nat) (L : List (List Int)) (w : World) (h : DG w q G m n L) (hq : m * n = z) :
    Calls Try.prog 15 #[.pointer (some q)] w fun e w' => ∃ (A : Option Addr) (cap : Nat), e = .returned (.slice A z cap) ∧ Rd .i64 w' A L.flatten ∧ Below w.heap.size w w' := by
  subst hq
  exact (dcells_any q G m n L w h).mono fun e w' ⟨A, cap, he, hr, _, _, _, hb⟩ => ⟨some A, cap, he, hr, hb⟩
theorem praise {w0 w : World} {p : Addr} {F : Nat → Prop} {m n : Nat} {L : List (List Int)} {A : Addr} {K cap : Nat} {cols : List Int} {t : Thing} {ts : List Thing} (h : Have w0 w (rowT (some A) cols :: t :: pgT p F m n L :: ts)) (hl : cols.length = K) (hK : K ≤ 1000) (hz : In64 cols) (d : Int) (d0 : -9223372036854775808 ≤ d) (d1 : d ≤ 9223372036854775807) {c : Int} {L2 : List (List Int)} (hc : rsCode m n L cols d = c ∧ rsRes m n L cols d = L2) :
    Calls Try.prog 11 #[.pointer (some p), .slice (some A) K cap, .int .i64 d] w fun e w' => e = .returned (.int .i64 c) ∧ ∃ F', Have w0 w' (rowT (some A) cols :: t :: pgT p F' m n L2 :: ts) := by
  obtain ⟨rfl, rfl⟩ := hc
  refine (raise_any p F m n L (some A) K cap cols d w (pgI h.i2) (rowI h.i0) (fun a ha hf => h.ap02 a.block ⟨a, ha, rfl⟩ hf) hl hK hz d0 d1).mono fun e w' ⟨he, F', hnp, hnk, hnf⟩ => ?_
  exact ⟨he, F', h.turn_2 (pgT p F' m n _) hnp hnk hnf⟩
theorem draise {w0 w : World} {q : Addr} {G : Nat → Prop} {m n : Nat} {L : List (List Int)} {A : Addr} {K cap : Nat} {cols : List Int} {ts : List Thing} (h : Have w0 w (rowT (some A) cols :: dgT q G m n L :: ts)) (hl : cols.length = K) (hK : K ≤ 1000) (hz : In64 cols) (d : Int) (d0 : -9223372036854775808 ≤ d) (d1 : d ≤ 9223372036854775807) {c : Int} {L2 : List (List Int)} (hc : rsCode m n L cols d = c ∧ rsRes m n L cols d = L2) :
    Calls Try.prog 12 #[.pointer (some q), .slice (some A) K cap, .int .i64 d] w fun e w' => e = .returned (.int .i64 c) ∧ ∃ G', Have w0 w' (rowT (some A) cols :: dgT q G' m n L2 :: ts) := by
  obtain ⟨rfl, rfl⟩ := hc
  refine (rraise_any q G m n L (some A) K cap cols d w (dgI h.i1) (rowI h.i0) (fun a ha hf => h.ap01 a.block ⟨a, ha, rfl⟩ hf) hl hK hz d0 d1).mono fun e w' ⟨he, F', hnp, hnk, hnf⟩ => ?_
  exact ⟨he, F', h.turn_1 (dgT q F' m n _) hnp hnk hnf⟩
set_option maxRecDepth 100000 in
set_option maxHeartbeats 4000000 in
theorem plays_law (rows width : Int) (A : Option Addr) (n0 c0 : Nat) (qs : List StepV) (r0 : -9223372036854775808 ≤ rows ∧ rows ≤ 9223372036854775807) (u0 : -9223372036854775808 ≤ width ∧ width ≤ 9223372036854775807) (w : World) (hq : Lin.Steps w A n0 c0 qs) :
    Calls Try.prog 3 #[.agg #[.int .i64 rows, .int .i64 width, .slice A n0 c0]] w fun e w' => e = .returned (.bool true) ∧ Below w.heap.size w w' := by
  obtain ⟨i0, hi, hi0, hi1, hi2⟩ := info_parts int_info
  obtain ⟨m, hm⟩ : ∃ m, cl rows 8 = m := ⟨_, rfl⟩
  obtain ⟨n, hn⟩ : ∃ n, cl width 128 = n := ⟨_, rfl⟩
  have hm8 : m ≤ 8 := by rw [← hm]; unfold cl; omega
  have hn128 : n ≤ 128 := by rw [← hn]; unfold cl; omega
  have HM := Lib.hid hm
  have HN := Lib.hid hn
  have HQ := Lib.hid hq
  have hnc := hq.nc
  have hcm := hq.cm
  unfold maxLen at hcm
  have HL := Lib.hid hq.len
  obtain ⟨q5, hmn⟩ : ∃ q, m * n = q := ⟨_, rfl⟩
  have hq5 : q5 ≤ 1024 := by rw [← hmn]; exact Nat.mul_le_mul hm8 hn128
  have HMN := Lib.hid hmn
  have HBX : Hid (Have w (w.alloc (.cells #[.int .i64 rows, .int .i64 width, .slice A n0 c0] 24)) [boxT w.heap.size 24 #[.int .i64 rows, .int .i64 width, .slice A n0 c0]]) := Lib.hid (box_new w _ _)
  clear hm hn hq hmn
  go_enter Try.func3, Try.ntmps3
  go_wp2_with (first
    | (go_at_call 10; (with_reducible refine (dnew_mn rows width m n _ HM.out HN.out (by omega) (by omega) (by omega) (by omega)).mono ?_); rintro e w3 ⟨q0, G0, rfl, hnp, hnf, hnb⟩; have HV2 := Lib.hid (HV1.out.push (dgT q0 G0 m n (zerosL m n)) hnb hnp hnf); clear hnp hnf hnb k0 k1 k2)
    | (go_at_call 9; (with_reducible refine (new_mn rows width m n _ HM.out HN.out (by omega) (by omega) (by omega) (by omega)).mono ?_); rintro e w2 ⟨p, F0, rfl, hnp, hnf, hnb⟩; have HV1 := Lib.hid (HV0.out.push (pgT p F0 m n (zerosL m n)) hnb hnp hnf); clear k0 k1 k2; obtain ⟨k0, k1, k2⟩ := box3 HV1.out.i1; clear hnp hnf hnb)
    | (go_at_call 8; (with_reducible refine (shown_any _).mono ?_); rintro e w1 ⟨rfl, hb⟩; have HV0 := Lib.hid (HBX.out.up hb); obtain ⟨k0, k1, k2⟩ := box3 HV0.out.i0; clear hb))
  go_loopw [6] (fun iv wr => ∃ (k : Nat) (F G : Nat → Prop) (L : List (List Int)), k ≤ n0 ∧ k ≤ 100 ∧ iv = .int .i64 k ∧ Have w wr [dgT q0 G m n L, pgT p F m n L, boxT w.heap.size 24 #[.int .i64 rows, .int .i64 width, .slice A n0 c0]]) (fun iv _ => n0 - (intOf iv).toNat)
  case atStart => exact ⟨0, F0, G0, zerosL m n, Nat.zero_le _, Nat.zero_le _, rfl, HV2.out⟩
  case round =>
    obtain ⟨k, F, G, L, hk, hk1, rfl, hv⟩ := hrel
    have HV3 := Lib.hid hv
    clear hv
    have HB3 := Lib.hid HV3.out.below
    have cb := box_cell HV3.out.i2 (i := 2) (v := .slice A n0 c0) rfl
    by_cases hlt : k < n0 ∧ k < 100
    · obtain ⟨hk2, hk3⟩ := hlt
      obtain ⟨q, hq1⟩ : ∃ q, qs[k]? = some q := ⟨_, List.getElem?_eq_getElem (by rw [HL.out]; omega)⟩
      obtain ⟨a, g, o, rfl, hadd, d1w, d2w, hin⟩ := HQ.out.at hq1
      have c1 := cell_up d1w HB3.out
      have b1 := hin.db
      have IN1 := Lib.hid (hin.up HB3.out)
      have hqn := hin.nc
      have hqm := hin.cm
      unfold maxLen at hqm
      obtain ⟨K, hK⟩ : ∃ K, min q.n 20 = K := ⟨_, rfl⟩
      obtain ⟨COLS, hC⟩ : ∃ C, q.zs.take K = C := ⟨_, rfl⟩
      have HCL : Hid (COLS.length = K) := Lib.hid (by rw [← hC, List.length_take, hin.len]; omega)
      have HCZ : Hid (In64 COLS) := Lib.hid (by rw [← hC]; exact in64_take hin.zb K)
      have hK20 : K ≤ 20 := by omega
      have HC := Lib.hid hC
      have HD2 := Lib.hid d2w
      clear hq1 d1w hC d2w hin
      go_upto_region 9 with fail
      go_cut [7] from 23 to 79 (fun s7 wx => ∃ (A5 : Addr) (cap5 : Nat), s7 = .slice (some A5) K cap5 ∧ Row1 wx (some A5) COLS ∧ (∀ k, (rowT (some A5) COLS).F k → wr.heap.size ≤ k) ∧ K ≤ cap5 ∧ cap5 ≤ 9223372036854775807 ∧ Below wr.heap.size wr wx)
      case first =>
        have HZK : Hid (COLS.length = K) := HCL
        obtain ⟨qA, hqA⟩ : ∃ qA, q.A = qA := ⟨_, rfl⟩
        have HRQ : Hid (Rd .i64 wr qA (q.zs.take K)) := Lib.hid (by rw [← hqA]; exact IN1.out.rd.take K)
        have hnil := IN1.out.nil
        rw [hqA] at c1 hnil
        rw [HC.out] at HRQ
        clear hqA
        cases qA with
        | none =>
          obtain ⟨hq0, hq0c⟩ := hnil rfl
          have hK0 : K = 0 := by omega
          rw [hq0, hq0c] at c1
          have hC0 : COLS = [] := List.eq_nil_of_length_eq_zero (by rw [HCL.out, hK0])
          clear hnil hq0 hq0c hK
          subst hK0
          go_region_held3 (fun w' => Below wr.heap.size wr w' ∧ w'.cell? ⟨w.heap.size, 2, none⟩ = some (.slice (some a) n0 c0) ∧ w'.cell? ⟨g, o, none⟩ = some (.slice none 0 0)) (first | (refine ⟨?_, ?_, ?_⟩ <;> (first | (with_reducible assumption) | (with_reducible refine cell_up c1 ?_) | (with_reducible refine cell_up cb ?_) | skip) <;> (repeat' (first | (with_reducible exact Below.refl _ _) | (with_reducible assumption) | (with_reducible refine below_over ?_ _ _) | (with_reducible refine Lw.below_alloc ?_ _) | (with_reducible refine Below.drew ?_) | (with_reducible refine below_drewN ?_ _) | go_size)))) (first
            | (refine app_step .i64 rfl _ _ 30 rfl wr.heap.size 3 i0 8 ints_u hi hi0 hi1 hi2 (.slice (some ⟨wr.heap.size, 0, none⟩) 0 0) 0 [] rfl (own_empty wr.drew _ _ _ (Nat.le_refl _)) (fun h => by cases h) none 0 0 COLS rfl (fun _ => ⟨rfl, rfl⟩) HZK.out (by rw [hC0]; exact rd_nil _ _ _) (by unfold maxLen; omega) (by omega) (by simp) ?_; intro A4 cap4 w4 hown4 hgrow4 hrd4 hcap6 hcap7; have hb4 : Below wr.heap.size wr w4 := app_below2 (by repeat' (first | (with_reducible exact Below.refl _ _) | (with_reducible assumption) | (with_reducible refine below_over ?_ _ _) | (with_reducible refine Lw.below_alloc ?_ _) | (with_reducible refine Below.drew ?_) | (with_reducible refine below_drewN ?_ _) | (with_reducible refine Below.setCell ?_ ?_ _) | go_size)) hgrow4 (Nat.le_refl _); have c4 := cell_up c1 hb4; have cb4 := cell_up cb hb4; (try simp only [Nat.zero_add, List.nil_append] at hown4 hrd4 hcap6); (try simp only [Nat.zero_add])))
          all_goals go_wp2
          all_goals go_meet
          all_goals exact ⟨_, _, rfl, (own_row2 hown4).1, (own_row2 hown4).2, hcap6, by unfold maxLen at hcap7; omega, hb4⟩
        | some qa =>
          clear hnil
          by_cases h20 : q.n ≤ 20
          · have e : q.n = K := by omega
            rw [e] at c1 hqn
            clear hK e
            by_cases hqc : q.c = 0
            · have hK0 : K = 0 := by omega
              have hC0 : COLS = [] := List.eq_nil_of_length_eq_zero (by rw [HCL.out, hK0])
              rw [hqc] at c1
              subst hK0
              go_region_held3 (fun w' => Below wr.heap.size wr w' ∧ w'.cell? ⟨w.heap.size, 2, none⟩ = some (.slice (some a) n0 c0) ∧ w'.cell? ⟨g, o, none⟩ = some (.slice (some qa) 0 0)) (first | (refine ⟨?_, ?_, ?_⟩ <;> (first | (with_reducible assumption) | (with_reducible refine cell_up c1 ?_) | (with_reducible refine cell_up cb ?_) | skip) <;> (repeat' (first | (with_reducible exact Below.refl _ _) | (with_reducible assumption) | (with_reducible refine below_over ?_ _ _) | (with_reducible refine Lw.below_alloc ?_ _) | (with_reducible refine Below.drew ?_) | (with_reducible refine below_drewN ?_ _) | go_size)))) (first
                | (refine app_step .i64 rfl _ _ 30 rfl wr.heap.size 3 i0 8 ints_u hi hi0 hi1 hi2 (.slice (some ⟨wr.heap.size, 0, none⟩) 0 0) 0 [] rfl (own_empty wr.drew _ _ _ (Nat.le_refl _)) (fun h => by cases h) (some qa) 0 0 COLS rfl (by simp) HZK.out (HRQ.out.up (Lw.below_alloc (Below.drew (Below.refl _ _)) _)) (by unfold maxLen; omega) (by omega) (by simp) ?_; intro A4 cap4 w4 hown4 hgrow4 hrd4 hcap6 hcap7; have hb4 : Below wr.heap.size wr w4 := app_below2 (by repeat' (first | (with_reducible exact Below.refl _ _) | (with_reducible assumption) | (with_reducible refine below_over ?_ _ _) | (with_reducible refine Lw.below_alloc ?_ _) | (with_reducible refine Below.drew ?_) | (with_reducible refine below_drewN ?_ _) | (with_reducible refine Below.setCell ?_ ?_ _) | go_size)) hgrow4 (Nat.le_refl _); have c4 := cell_up c1 hb4; have cb4 := cell_up cb hb4; (try simp only [Nat.zero_add, List.nil_append] at hown4 hrd4 hcap6); (try simp only [Nat.zero_add])))
              all_goals go_wp2
              all_goals go_meet
              all_goals exact ⟨_, _, rfl, (own_row2 hown4).1, (own_row2 hown4).2, hcap6, by unfold maxLen at hcap7; omega, hb4⟩
            · have hs0 : (0 : Int) ≤ (K : Int) := by omega
              have hs1 : (K : Int) ≤ (q.c : Int) := by omega
              have hs2 : (K : Int) ≤ 20 := by omega
              have hs3 : ¬ (20 : Int) < (K : Int) := by omega
              go_region_held3 (fun w' => Below wr.heap.size wr w' ∧ w'.cell? ⟨w.heap.size, 2, none⟩ = some (.slice (some a) n0 c0) ∧ w'.cell? ⟨g, o, none⟩ = some (.slice (some qa) K q.c)) (first | (refine ⟨?_, ?_, ?_⟩ <;> (first | (with_reducible assumption) | (with_reducible refine cell_up c1 ?_) | (with_reducible refine cell_up cb ?_) | skip) <;> (repeat' (first | (with_reducible exact Below.refl _ _) | (with_reducible assumption) | (with_reducible refine below_over ?_ _ _) | (with_reducible refine Lw.below_alloc ?_ _) | (with_reducible refine Below.drew ?_) | (with_reducible refine below_drewN ?_ _) | go_size)))) (first
                | (refine app_step .i64 rfl _ _ 30 rfl wr.heap.size 3 i0 8 ints_u hi hi0 hi1 hi2 (.slice (some ⟨wr.heap.size, 0, none⟩) 0 0) 0 [] rfl (own_empty wr.drew _ _ _ (Nat.le_refl _)) (fun h => by cases h) (some qa) K q.c COLS rfl (by simp) HZK.out (HRQ.out.up (Lw.below_alloc (Below.drew (Below.refl _ _)) _)) (by unfold maxLen; omega) (by omega) (by simp) ?_; intro A4 cap4 w4 hown4 hgrow4 hrd4 hcap6 hcap7; have hb4 : Below wr.heap.size wr w4 := app_below2 (by repeat' (first | (with_reducible exact Below.refl _ _) | (with_reducible assumption) | (with_reducible refine below_over ?_ _ _) | (with_reducible refine Lw.below_alloc ?_ _) | (with_reducible refine Below.drew ?_) | (with_reducible refine below_drewN ?_ _) | (with_reducible refine Below.setCell ?_ ?_ _) | go_size)) hgrow4 (Nat.le_refl _); have c4 := cell_up c1 hb4; have cb4 := cell_up cb hb4; (try simp only [Nat.zero_add, List.nil_append] at hown4 hrd4 hcap6); (try simp only [Nat.zero_add])))
              all_goals go_wp2
              all_goals go_meet
              all_goals exact ⟨_, _, rfl, (own_row2 hown4).1, (own_row2 hown4).2, hcap6, by unfold maxLen at hcap7; omega, hb4⟩
          · have e : 20 = K := by omega
            subst e
            have hs0 : (20 : Int) ≤ (q.n : Int) := by omega
            have hs1 : (20 : Int) ≤ (q.c : Int) := by omega
            have hs2 : (20 : Int) < (q.n : Int) := by omega
            go_region_held3 (fun w' => Below wr.heap.size wr w' ∧ w'.cell? ⟨w.heap.size, 2, none⟩ = some (.slice (some a) n0 c0) ∧ w'.cell? ⟨g, o, none⟩ = some (.slice (some qa) q.n q.c)) (first | (refine ⟨?_, ?_, ?_⟩ <;> (first | (with_reducible assumption) | (with_reducible refine cell_up c1 ?_) | (with_reducible refine cell_up cb ?_) | skip) <;> (repeat' (first | (with_reducible exact Below.refl _ _) | (with_reducible assumption) | (with_reducible refine below_over ?_ _ _) | (with_reducible refine Lw.below_alloc ?_ _) | (with_reducible refine Below.drew ?_) | (with_reducible refine below_drewN ?_ _) | go_size)))) (first
              | (refine app_step .i64 rfl _ _ 30 rfl wr.heap.size 3 i0 8 ints_u hi hi0 hi1 hi2 (.slice (some ⟨wr.heap.size, 0, none⟩) 0 0) 0 [] rfl (own_empty wr.drew _ _ _ (Nat.le_refl _)) (fun h => by cases h) (some qa) 20 q.c COLS rfl (by simp) HZK.out (HRQ.out.up (Lw.below_alloc (Below.drew (Below.refl _ _)) _)) (by unfold maxLen; omega) (by omega) (by simp) ?_; intro A4 cap4 w4 hown4 hgrow4 hrd4 hcap6 hcap7; have hb4 : Below wr.heap.size wr w4 := app_below2 (by repeat' (first | (with_reducible exact Below.refl _ _) | (with_reducible assumption) | (with_reducible refine below_over ?_ _ _) | (with_reducible refine Lw.below_alloc ?_ _) | (with_reducible refine Below.drew ?_) | (with_reducible refine below_drewN ?_ _) | (with_reducible refine Below.setCell ?_ ?_ _) | go_size)) hgrow4 (Nat.le_refl _); have c4 := cell_up c1 hb4; have cb4 := cell_up cb hb4; (try simp only [Nat.zero_add, List.nil_append] at hown4 hrd4 hcap6); (try simp only [Nat.zero_add])))
            all_goals go_wp2
            all_goals go_meet
            all_goals exact ⟨_, _, rfl, (own_row2 hown4).1, (own_row2 hown4).2, hcap6, by unfold maxLen at hcap7; omega, hb4⟩
      case rest =>
        obtain ⟨A5, cap5, rfl, hrow5, hge5, hc5, hm5, hb5⟩ := hcut
        have HV5 := Lib.hid (HV3.out.push (rowT (some A5) COLS) hb5 hrow5 hge5)
        have d5 := cell_up HD2.out HV5.out.below
        have cb5 := box_cell HV5.out.i3 (i := 2) (v := .slice (some a) n0 c0) rfl
        obtain ⟨E, hE⟩ : ∃ E, rsCode m n L COLS q.d = E := ⟨_, rfl⟩
        obtain ⟨L2, hL2⟩ : ∃ L2, rsRes m n L COLS q.d = L2 := ⟨_, rfl⟩
        have HCH := Lib.hid (And.intro hE hL2)
        clear hrow5 hge5 hb5 hE hL2 c1 hK cb
        go_wp2_with (first
          | (go_at_call 13; (with_reducible refine (same_yes A8 A9 q5 cap8 cap9 L2.flatten _ R9.out S9.out HF8.out (by omega)).mono ?_); rintro e wa ⟨rfl, hb⟩; have HVa := Lib.hid (HV9.out.up hb); clear hb)
          | (go_at_call 15; (with_reducible refine (dcells_q q0 G7 m n q5 L2 _ (dgI HV8.out.i1) HMN.out).mono ?_); rintro e w9 ⟨A9, cap9, rfl, hr9, hb⟩; have HV9 := Lib.hid (HV8.out.up hb); have R9 := Lib.hid (R8.out.up hb); have S9 := Lib.hid hr9; clear hr9 hb)
          | (go_at_call 14; (with_reducible refine (cells_q p F6 m n q5 L2 _ (pgI HV7.out.i2) HMN.out).mono ?_); rintro e w8 ⟨A8, cap8, rfl, hr8, hc8, hd8, hn8, hb⟩; have HV8 := Lib.hid (HV7.out.up hb); have R8 := Lib.hid (Row1.rd hr8); have HF8 := Lib.hid ((flat_dims (pgI HV7.out.i2).dims).trans HMN.out); clear hr8 hn8 hb)
          | (go_at_call 12; (with_reducible refine (draise HV6.out HCL.out (by omega) HCZ.out q.d b1.1 b1.2 HCH.out).mono ?_); rintro e w7 ⟨rfl, G7, hv7⟩; have HV7 := Lib.hid hv7; clear hv7)
          | (go_at_call 11; (with_reducible refine (praise HV5.out HCL.out (by omega) HCZ.out q.d b1.1 b1.2 HCH.out).mono ?_); rintro e w6 ⟨rfl, F6, hv6⟩; have HV6 := Lib.hid hv6; have d6 := cell_up HD2.out hv6.below; have cb6 := box_cell hv6.i3 (i := 2) (v := .slice (some a) n0 c0) rfl; clear hv6))
        go_roundw
        case rel => exact ⟨k + 1, F6, G7, L2, by omega, by omega, by go_num, HVa.out.drop⟩
        case measure => simp [intOf]; omega
    · have hend : k = n0 ∨ (k = 100 ∧ k < n0) := by omega
      clear hlt
      rcases hend with rfl | ⟨rfl, hkn⟩
      · go_wp2
        go_ret
        exact ⟨rfl, HB3.out⟩
      · go_wp2
        go_ret
        exact ⟨rfl, HB3.out⟩
namespace conservePlays
open Go.ChangeShapes Go.WideShapes Go.ChangeAt Go.Joins
set_option maxRecDepth 100000 in
theorem lifted (os : Os) (started : os.Started) (H : Type) (enc : TypeId × Value → H) :
    ReturnsInHanded {} Try.checked os 3 .any (Rows.conservePlaysSpec.pre6 enc Try.prog Try.f3 Rows.conservePlaysRow.domain false) (Rows.conservePlaysSpec.post enc Try.prog Try.f3 false true false false) := by
  refine Lw.lifted (C := Try.checked) (B := 4) (by kernel_rfl) os started (by kernel_rfl) Try.func3
    (ChangeSpec.witness6 (enc := enc) (C := Try.checked) false ⟨#[], #[.agg #[.int .i64 0, .int .i64 0, .slice none 0 0]], []⟩ 8 (by kernel_rfl) (by kernel_rfl) (by kernel_rfl) (by kernel_rfl)) rfl Try.underlying4 (by kernel_rfl) (by kernel_rfl) (by kernel_rfl) ?_ ?_
  · intro ds h
    rw [Try.params3] at h
    match ds, h with
    | [_], _ => rfl
  · intro W base args ds p hval hA
    rw [Try.params3] at hA hval
    obtain ⟨v0, vs0, d0, ds0, p0, q0, hargs, rfl, rfl, h0, r0⟩ := trodAll_cons hA
    obtain ⟨rfl, rfl, rfl⟩ := trodAll_nil r0
    obtain rfl : args = #[v0] := by cases args; simp_all
    obtain ⟨y0, u0, A0, n0, c0, qs0, rfl, rb0, ub0, hq0⟩ := open_play (hval 0 24 v0 rfl rfl) h0
    exact plays_law y0 u0 A0 n0 c0 qs0 rb0 ub0 W hq0
theorem over : Rows.conservePlaysRow.holds Try.pinned (OpenSpec.ofChange Rows.conservePlaysSpec) :=
  OpenClaim.holds_of_wide 3 Try.f3 rfl rfl rfl rfl rfl rfl rfl ⟨rfl, rfl, rfl, rfl, rfl⟩ rfl rfl rfl rfl rfl (by kernel_rfl) Try.func3 (by kernel_rfl)
    (of_decide_eq_true (by kernel_rfl)) (by unfold Func.isWrapper; first | (rw [if_pos (by decide +kernel)]; kernel_rfl) | (rw [if_neg (by decide +kernel)]; exact ⟨rfl, rfl⟩))
    (fun os started H enc _ => lifted os started H enc)
theorem proved : Rows.ConservePlaysSaid :=
  over
#print axioms proved
end conservePlays
end Go.Proofs.Ytonbidohhgenlaa.Con
