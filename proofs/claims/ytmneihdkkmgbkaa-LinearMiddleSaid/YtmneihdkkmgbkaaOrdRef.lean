/- The walks of the document's own answers for layer 5: numbers put in order. Printed by wip/gen/ordref.py. -/
import Derived.Test.YtmneihdkkmgbkaaRows
import Derived.Test.YtmneihdkkmgbkaaOrdMath
import Derived.Test.YtmneihdkkmgbkaaRow
import Derived.Deep.LoopGhost
import Derived.Deep.RegionHeld3
import Derived.Deep.QuietTactic
import Derived.BigQuiet
namespace Go.Proofs.Ytmneihdkkmgbkaa.Ord
open Go Go.RowKit Lw
set_option linter.unusedVariables false
set_option linter.unusedSimpArgs false
theorem ri64_info : (Try.prog.info? 2).map (fun i => (i.zero, i.size, i.bytes)) = some (some (.int .i64 0), 1, 8) := by kernel_rfl
theorem ri64s_u : Try.prog.underlying 34 = some (.slice 2) := by kernel_rfl
theorem wrap_pred (t : Nat) (h : (t : Int) ≤ 9223372036854775806) : IntKind.i64.wrap ((t : Int) + 1 - 1) = t := by rw [IntKind.wrap_i64]; omega
theorem ret_kb {a b : Int} {p q : Bool} (h : a = b) (g : p = q) : Ending.returned (.tuple #[.int .i64 a, .bool p]) = .returned (.tuple #[.int .i64 b, .bool q]) := by rw [h, g]
set_option maxRecDepth 100000 in
theorem rmin_any (A : Option Addr) (n cap : Nat) (zs : List Int) (w : World) (hA : A = none → n = 0 ∧ cap = 0) (hn : n ≤ cap) (hcap : cap ≤ maxLen) (hr : Rd .i64 w A zs) (hl : zs.length = n) (hs : n ≤ 1000) (hz : In64 zs) :
    Calls Try.prog 36 #[.slice A n cap] w fun e w' => e = .returned (.tuple #[.int .i64 (kv zs (0)), .bool (kb zs (0))]) ∧ Below w.heap.size w w' := by
  have HR := Lib.hid hr
  have HZ := Lib.hid hz
  have HL := Lib.hid hl
  unfold maxLen at hcap
  clear hr hz hA
  by_cases h0 : n = 0
  · have e := kv_no (l := zs) (k := 0) (by omega)
    subst h0
    clear hl
    go_enter Try.func36, Try.ntmps36
    go_wp2
    go_ret2
    exact ⟨ret_kb e.1.symm e.2.symm, Below.refl _ _⟩
  · have hnz : ((n : Int) == 0) = false := by simp; omega
    have h1 : 0 < zs.length := by omega
    obtain ⟨ad, rfl⟩ := HR.out.some_of h1
    have c0 := HR.out.at (j := 0) (v := zs[0]) (List.getElem?_eq_getElem h1)
    have ca0 : ad.add 0 = ad := by unfold Addr.add; simp
    obtain ⟨f, hf⟩ : ∃ f, f = zs[0] := ⟨_, rfl⟩
    rw [← hf] at c0
    have hfm : f ∈ zs := by rw [hf]; exact List.getElem_mem h1
    have fb := HZ.out f hfm
    have HF := Lib.hid hfm
    have h0n : (0 : Int) < n := by omega
    rw [ca0] at c0
    clear hf hfm hl
    go_enter Try.func36, Try.ntmps36
    go_wp2
    go_loop [4, 5] (fun b i => ∃ (k : Nat) (x : Int), k ≤ n ∧ i = .int .i64 k ∧ b = .int .i64 x ∧ x ∈ zs ∧ ∀ y ∈ zs.take k, x ≤ y) (fun _ i => n - (intOf i).toNat)
    case atStart => exact ⟨0, f, Nat.zero_le _, rfl, rfl, HF.out, fun y hy => by simp at hy⟩
    case round =>
      obtain ⟨k, x, hk, rfl, rfl, hx, hall⟩ := hrel
      have xb := HZ.out x hx
      have HX := Lib.hid hx
      have HA := Lib.hid hall
      clear hx hall
      by_cases hlt : k < n
      · have hkl : k < zs.length := by have := HL.out; omega
        obtain ⟨v, hv⟩ : ∃ v, zs[k]? = some v := ⟨_, List.getElem?_eq_getElem hkl⟩
        have hc := HR.out.at hv
        have hvm := List.mem_of_getElem? hv
        have vb := HZ.out v hvm
        have HV := Lib.hid hvm
        have HN := Lib.hid (take_next zs k v hv)
        clear hv hvm
        by_cases h2 : v < x
        · go_wp2
          go_round
          case rel => exact ⟨k + 1, v, by omega, by go_num, rfl, HV.out, fun y hy => by rw [HN.out] at hy; rcases List.mem_append.1 hy with h3 | h3; (have := HA.out y h3; omega); (simp at h3; omega)⟩
          case measure => simp [intOf]; omega
        · go_wp2
          all_goals first | (exfalso; omega) | skip
          go_round
          case rel => exact ⟨k + 1, x, by omega, by go_num, by first | rfl | (congr 1; omega), HX.out, fun y hy => by rw [HN.out] at hy; rcases List.mem_append.1 hy with h3 | h3; (exact HA.out y h3); (simp at h3; omega)⟩
          case measure => simp [intOf]; omega
      · have e : k = n := by omega
        subst e
        have e1 := kv_yes (l := zs) (k := 0) (by omega) (by have := HL.out; omega)
        have e2 := least_eq zs x HX.out (fun y hy => HA.out y (by rw [List.take_of_length_le (by have := HL.out; omega)]; exact hy))
        have E := Lib.hid (e1.1.trans e2.symm)
        have E2 := Lib.hid e1.2
        clear e1 e2
        go_wp2
        go_ret2
        exact ⟨ret_kb E.out.symm E2.out.symm, Below.refl _ _⟩
set_option maxRecDepth 100000 in
set_option maxHeartbeats 4000000 in
theorem rsorted_any (A : Option Addr) (n cap : Nat) (zs : List Int) (w : World) (hA : A = none → n = 0 ∧ cap = 0) (hn : n ≤ cap) (hcap : cap ≤ maxLen) (hr : Rd .i64 w A zs) (hl : zs.length = n) (hs : n ≤ 1000) (hz : In64 zs) :
    Calls Try.prog 49 #[.slice A n cap] w fun e w' => ∃ (A2 : Addr) (cap2 : Nat), e = .returned (.slice (some A2) n cap2) ∧ Rd .i64 w' (some A2) (srt zs) ∧ n ≤ cap2 ∧ cap2 ≤ maxLen ∧ Below w.heap.size w w' := by
  obtain ⟨i0, hi, hz0, hz1, hz2⟩ := info_parts ri64_info
  have HR := Lib.hid hr
  have HZ := Lib.hid hz
  have HL := Lib.hid hl
  unfold maxLen at hcap
  clear hr hz hA hl
  go_enter Try.func49, Try.ntmps49
  go_wp2
  go_loopw [3, 4] (fun v i wr => ∃ (k : Nat) (ad : Addr) (cp : Nat), k ≤ n ∧ i = .int .i64 k ∧ v = .slice (some ad) k cp ∧ Rd .i64 wr (some ad) (srt (zs.take k)) ∧ k ≤ cp ∧ cp ≤ 9223372036854775807 ∧ Below w.heap.size w wr) (fun _ i _ => n - (intOf i).toNat)
  case atStart => exact ⟨0, ⟨w.heap.size, 0, none⟩, 0, Nat.zero_le _, rfl, rfl, rd_nil _ _ _, by omega, by omega, Lw.below_alloc (Below.refl _ _) _⟩
  case round =>
    obtain ⟨k, ad, cp, hk, rfl, rfl, hro, hkc, hcm, hbel⟩ := hrel
    by_cases hlt : k < n
    · have hkl : k < zs.length := by have := HL.out; omega
      obtain ⟨x, hv⟩ : ∃ x, zs[k]? = some x := ⟨_, List.getElem?_eq_getElem hkl⟩
      obtain ⟨lad, rfl, hcw⟩ := HR.out k x hv
      have hcx := cell_up hcw hbel
      have hxb := HZ.out.at hv
      have hnext : srt (zs.take (k + 1)) = put (srt (zs.take k)) x := by rw [srt_next zs k hkl]; congr 1; have := (List.getElem?_eq_some_iff.1 hv).2; exact this
      have hol : (srt (zs.take k)).length = k := by rw [srt_len, List.length_take]; omega
      have hoz : In64 (srt (zs.take k)) := fun y hy => HZ.out y (List.mem_of_mem_take ((srt_perm _).mem_iff.1 hy))
      obtain ⟨out, hout⟩ : ∃ out, srt (zs.take k) = out := ⟨_, rfl⟩
      rw [hout] at hro hnext hol hoz
      have HNX := Lib.hid hnext
      have HO := Lib.hid hol
      have HOZ := Lib.hid hoz
      have HRO := Lib.hid hro
      have HB := Lib.hid hbel
      have hpl := posN_le out x k
      obtain ⟨p, hp⟩ : ∃ p, posN out x k = p := ⟨_, rfl⟩
      rw [hp] at hpl
      have HP := Lib.hid hp
      clear hv hcw hnext hol hoz hro hbel hp hout
      go_wp2
      go_loopw [5] (fun a wi => ∃ j d : Nat, j ≤ k ∧ a = .int .i64 j ∧ posN out x j = p ∧ wi = wr.drewN d) (fun a _ => (intOf a).toNat)
      case atStart => exact ⟨k, 0, Nat.le_refl _, rfl, HP.out, rfl⟩
      case round =>
        obtain ⟨j, d, hj, rfl, hpj, rfl⟩ := hrel
        by_cases hjp : j = p
        · have hjp2 := hjp.symm
          subst hjp2
          clear hpj hjp
          by_cases hp0 : p = 0
          · have hp1 : decide (0 < p) = false := by simp; omega
            clear hp0
            go_wp2
            go_quiet (fail)
            by_cases hcp : cp = p
            · have e1 : p = k := by omega
              subst e1
              subst hcp
              go_wp2_with (at_builtin; refine app_any .i64 rfl _ _ 34 rfl wr.heap.size 2 i0 8 ri64s_u hi hz0 hz1 hz2 (.slice (some ⟨wr.heap.size, 0, none⟩) 0 0) 0 [] rfl (own_empty wr _ _ _ (Nat.le_refl _)) (fun h => by cases h) (some ad) 0 0 [] rfl (by simp) rfl (rd_nil _ _ _) (by unfold maxLen; omega) (by omega) (by simp) ?_; intro A6 cap6 w6 own6 grow6 rd6 c6 d6; have hb6 : Below wr.heap.size wr w6 := app_below2 (by (repeat' (first | (with_reducible exact Below.refl _ _) | (with_reducible assumption) | (with_reducible refine below_over ?_ _ _) | (with_reducible refine Lw.below_alloc ?_ _) | (with_reducible refine Below.drew ?_) | (with_reducible refine below_drewN ?_ _) | (with_reducible refine Below.setCell ?_ ?_ _) | go_size))) grow6 (by simp); (try simp only [Nat.zero_add, List.nil_append] at own6 rd6 c6); (try simp only [Nat.zero_add]))
              have HRO6 := Lib.hid (HRO.out.up hb6)
              have HR6 := Lib.hid rd6
              have hx6 := cell_up hcx hb6
              have HB6 := Lib.hid (below_call HB.out hb6 (Nat.le_refl _))
              unfold maxLen at d6
              clear own6 grow6 rd6 hcx hb6
              go_region_held3 (fun w' => Below w6.heap.size w6 w' ∧ w'.cell? (lad.add cp) = some (.int .i64 x)) (first | (refine ⟨?_, cell_up hx6 ?_⟩ <;> (repeat' (first | (with_reducible exact Below.refl _ _) | (with_reducible assumption) | (with_reducible refine below_over ?_ _ _) | (with_reducible refine Lw.below_alloc ?_ _) | (with_reducible refine Below.drew ?_) | (with_reducible refine below_drewN ?_ _) | (with_reducible refine Below.setCell ?_ ?_ _) | go_size)))) (first
                | (refine app_step .i64 rfl _ _ 34 rfl w6.heap.size 2 i0 8 ri64s_u hi hz0 hz1 hz2 _ 0 [] rfl (by first | exact own_empty w6 _ _ _ (Nat.le_refl _) | exact (own_empty w6 _ _ _ (Nat.le_refl _)).alloc _ | exact own_empty2 w6 _ _ _ _ (Nat.le_refl _)) (fun h => by cases h) (some ad) cp cp (out.take cp) rfl (by simp) (by have := HO.out; simp; omega) (Rd.up (Rd.take HRO6.out cp) (by (repeat' (first | (with_reducible exact Below.refl _ _) | (with_reducible assumption) | (with_reducible refine below_over ?_ _ _) | (with_reducible refine Lw.below_alloc ?_ _) | (with_reducible refine Below.drew ?_) | (with_reducible refine below_drewN ?_ _) | (with_reducible refine Below.setCell ?_ ?_ _) | go_size)))) (by unfold maxLen; omega) (by omega) (by simp <;> omega) ?_; intro A7 cap7 w7 own7 grow7 rd7 c7 d7; have hb7 : Below w6.heap.size w6 w7 := app_below2 (by (repeat' (first | (with_reducible exact Below.refl _ _) | (with_reducible assumption) | (with_reducible refine below_over ?_ _ _) | (with_reducible refine Lw.below_alloc ?_ _) | (with_reducible refine Below.drew ?_) | (with_reducible refine below_drewN ?_ _) | (with_reducible refine Below.setCell ?_ ?_ _) | go_size))) grow7 (by simp); (try simp only [Nat.zero_add, List.nil_append] at own7 rd7 c7); (try simp only [Nat.zero_add]))
                | (refine app_step .i64 rfl _ _ 34 rfl w6.heap.size 2 i0 8 ri64s_u hi hz0 hz1 hz2 (.slice (some A7) cp cap7) cp (out.take cp) rfl (by first | exact own7.alloc _ | exact own7) (fun h => by cases h) _ 1 1 [x] rfl (by simp) rfl (rd_one (by first | (simp [go_sem]; done) | exact grow7.cell (by simp [go_sem]) (by first | exact fun hne => absurd (Option.some.inj (show some (w6.heap.size + 1) = some w6.heap.size from hne)) (by omega) | exact fun hne => absurd (Option.some.inj (show some w6.heap.size = some (w6.heap.size + 1) from hne)) (by omega)))) (by unfold maxLen; omega) (by omega) (by have := hb7.size; simp <;> omega) ?_; intro A8 cap8 w8 own8 grow8 rd8 c8 d8; have hb8 : Below w6.heap.size w6 w8 := app_below3 (by (repeat' (first | (with_reducible exact Below.refl _ _) | (with_reducible assumption) | (with_reducible refine below_over ?_ _ _) | (with_reducible refine Lw.below_alloc ?_ _) | (with_reducible refine Below.drew ?_) | (with_reducible refine below_drewN ?_ _) | (with_reducible refine Below.setCell ?_ ?_ _) | go_size))) grow8 (fun q hq => own_ge own7 q hq); (try simp only [Nat.zero_add, List.nil_append] at own8 rd8 c8); (try simp only [Nat.zero_add]))
                | (refine app_step .i64 rfl _ _ 34 rfl w6.heap.size 2 i0 8 ri64s_u hi hz0 hz1 hz2 (.slice (some A8) (cp + 1) cap8) (cp + 1) (out.take cp ++ [x]) rfl own8 (fun h => by cases h) (some A6) 0 cap6 [] rfl (by simp) rfl (Rd.up HR6.out hb8) (by unfold maxLen; omega) (by omega) hb8.size ?_; intro A9 cap9 w9 own9 grow9 rd9 c9 d9; have hb9 : Below w6.heap.size w6 w9 := app_below3 (by (repeat' (first | (with_reducible exact Below.refl _ _) | (with_reducible assumption) | (with_reducible refine below_over ?_ _ _) | (with_reducible refine Lw.below_alloc ?_ _) | (with_reducible refine Below.drew ?_) | (with_reducible refine below_drewN ?_ _) | (with_reducible refine Below.setCell ?_ ?_ _) | go_size))) grow9 (fun q hq => own_ge own8 q hq); (try simp only [Nat.zero_add, List.nil_append] at own9 rd9 c9); (try simp only [Nat.zero_add])))
              all_goals go_wp2
              all_goals go_roundw
              all_goals first
                | exact ⟨cp + 1, A9, cap9, by omega, by go_num, by first | rfl | (congr 1; omega), by rw [HNX.out]; unfold put; rw [HO.out, HP.out, List.drop_of_length_le (by have := HO.out; omega)]; have h9 := rd9; simpa using h9, by omega, by unfold maxLen at d9; omega, below_call HB6.out hb9 (Nat.le_refl _)⟩
                | (simp [intOf]; omega)
            · have hs1 : ¬ ((cp : Nat) : Int) < (p : Int) := by omega
              have hs2 : ¬ ((k : Nat) : Int) < (p : Int) := by omega
              have hs4 : ¬ cp < p := by omega
              go_wp2_with (at_builtin; refine app_any .i64 rfl _ _ 34 rfl wr.heap.size 2 i0 8 ri64s_u hi hz0 hz1 hz2 (.slice (some ⟨wr.heap.size, 0, none⟩) 0 0) 0 [] rfl (own_empty wr _ _ _ (Nat.le_refl _)) (fun h => by cases h) (some (ad.add p)) (k - p) (cp - p) (out.drop p) rfl (by simp) (by have := HO.out; simp; omega) (Rd.up (Rd.drop HRO.out p) (by (repeat' (first | (with_reducible exact Below.refl _ _) | (with_reducible assumption) | (with_reducible refine below_over ?_ _ _) | (with_reducible refine Lw.below_alloc ?_ _) | (with_reducible refine Below.drew ?_) | (with_reducible refine below_drewN ?_ _) | (with_reducible refine Below.setCell ?_ ?_ _) | go_size)))) (by unfold maxLen; omega) (by omega) (by simp) ?_; intro A6 cap6 w6 own6 grow6 rd6 c6 d6; have hb6 : Below wr.heap.size wr w6 := app_below2 (by (repeat' (first | (with_reducible exact Below.refl _ _) | (with_reducible assumption) | (with_reducible refine below_over ?_ _ _) | (with_reducible refine Lw.below_alloc ?_ _) | (with_reducible refine Below.drew ?_) | (with_reducible refine below_drewN ?_ _) | (with_reducible refine Below.setCell ?_ ?_ _) | go_size))) grow6 (by simp); (try simp only [Nat.zero_add, List.nil_append] at own6 rd6 c6); (try simp only [Nat.zero_add]))
              have HRO6 := Lib.hid (HRO.out.up hb6)
              have HR6 := Lib.hid rd6
              have hx6 := cell_up hcx hb6
              have HB6 := Lib.hid (below_call HB.out hb6 (Nat.le_refl _))
              unfold maxLen at d6
              clear own6 grow6 rd6 hcx hb6
              go_region_held3 (fun w' => Below w6.heap.size w6 w' ∧ w'.cell? (lad.add k) = some (.int .i64 x)) (first | (refine ⟨?_, cell_up hx6 ?_⟩ <;> (repeat' (first | (with_reducible exact Below.refl _ _) | (with_reducible assumption) | (with_reducible refine below_over ?_ _ _) | (with_reducible refine Lw.below_alloc ?_ _) | (with_reducible refine Below.drew ?_) | (with_reducible refine below_drewN ?_ _) | (with_reducible refine Below.setCell ?_ ?_ _) | go_size)))) (first
                | (refine app_step .i64 rfl _ _ 34 rfl w6.heap.size 2 i0 8 ri64s_u hi hz0 hz1 hz2 _ 0 [] rfl (by first | exact own_empty w6 _ _ _ (Nat.le_refl _) | exact (own_empty w6 _ _ _ (Nat.le_refl _)).alloc _ | exact own_empty2 w6 _ _ _ _ (Nat.le_refl _)) (fun h => by cases h) (some ad) p cp (out.take p) rfl (by simp) (by have := HO.out; simp; omega) (Rd.up (Rd.take HRO6.out p) (by (repeat' (first | (with_reducible exact Below.refl _ _) | (with_reducible assumption) | (with_reducible refine below_over ?_ _ _) | (with_reducible refine Lw.below_alloc ?_ _) | (with_reducible refine Below.drew ?_) | (with_reducible refine below_drewN ?_ _) | (with_reducible refine Below.setCell ?_ ?_ _) | go_size)))) (by unfold maxLen; omega) (by omega) (by simp <;> omega) ?_; intro A7 cap7 w7 own7 grow7 rd7 c7 d7; have hb7 : Below w6.heap.size w6 w7 := app_below2 (by (repeat' (first | (with_reducible exact Below.refl _ _) | (with_reducible assumption) | (with_reducible refine below_over ?_ _ _) | (with_reducible refine Lw.below_alloc ?_ _) | (with_reducible refine Below.drew ?_) | (with_reducible refine below_drewN ?_ _) | (with_reducible refine Below.setCell ?_ ?_ _) | go_size))) grow7 (by simp); (try simp only [Nat.zero_add, List.nil_append] at own7 rd7 c7); (try simp only [Nat.zero_add]))
                | (refine app_step .i64 rfl _ _ 34 rfl w6.heap.size 2 i0 8 ri64s_u hi hz0 hz1 hz2 (.slice (some A7) p cap7) p (out.take p) rfl (by first | exact own7.alloc _ | exact own7) (fun h => by cases h) _ 1 1 [x] rfl (by simp) rfl (rd_one (by first | (simp [go_sem]; done) | exact grow7.cell (by simp [go_sem]) (by first | exact fun hne => absurd (Option.some.inj (show some (w6.heap.size + 1) = some w6.heap.size from hne)) (by omega) | exact fun hne => absurd (Option.some.inj (show some w6.heap.size = some (w6.heap.size + 1) from hne)) (by omega)))) (by unfold maxLen; omega) (by omega) (by have := hb7.size; simp <;> omega) ?_; intro A8 cap8 w8 own8 grow8 rd8 c8 d8; have hb8 : Below w6.heap.size w6 w8 := app_below3 (by (repeat' (first | (with_reducible exact Below.refl _ _) | (with_reducible assumption) | (with_reducible refine below_over ?_ _ _) | (with_reducible refine Lw.below_alloc ?_ _) | (with_reducible refine Below.drew ?_) | (with_reducible refine below_drewN ?_ _) | (with_reducible refine Below.setCell ?_ ?_ _) | go_size))) grow8 (fun q hq => own_ge own7 q hq); (try simp only [Nat.zero_add, List.nil_append] at own8 rd8 c8); (try simp only [Nat.zero_add]))
                | (refine app_step .i64 rfl _ _ 34 rfl w6.heap.size 2 i0 8 ri64s_u hi hz0 hz1 hz2 (.slice (some A8) (p + 1) cap8) (p + 1) (out.take p ++ [x]) rfl own8 (fun h => by cases h) (some A6) (k - p) cap6 (out.drop p) rfl (by simp) (by have := HO.out; simp; omega) (Rd.up HR6.out hb8) (by unfold maxLen; omega) (by omega) hb8.size ?_; intro A9 cap9 w9 own9 grow9 rd9 c9 d9; have hb9 : Below w6.heap.size w6 w9 := app_below3 (by (repeat' (first | (with_reducible exact Below.refl _ _) | (with_reducible assumption) | (with_reducible refine below_over ?_ _ _) | (with_reducible refine Lw.below_alloc ?_ _) | (with_reducible refine Below.drew ?_) | (with_reducible refine below_drewN ?_ _) | (with_reducible refine Below.setCell ?_ ?_ _) | go_size))) grow9 (fun q hq => own_ge own8 q hq); (try simp only [Nat.zero_add, List.nil_append] at own9 rd9 c9); (try simp only [Nat.zero_add])))
              all_goals go_wp2
              all_goals go_roundw
              all_goals first
                | exact ⟨k + 1, A9, cap9, by omega, by go_num, by first | rfl | (congr 1; omega), by rw [HNX.out]; unfold put; rw [HO.out, HP.out]; have h9 := rd9; simpa using h9, by omega, by unfold maxLen at d9; omega, below_call HB6.out hb9 (Nat.le_refl _)⟩
                | (simp [intOf]; omega)
          · obtain ⟨t, ht⟩ : ∃ t : Nat, p = t + 1 := ⟨p - 1, by omega⟩
            have htl : t < out.length := by have := HO.out; omega
            obtain ⟨y, hy⟩ : ∃ y, out[t]? = some y := ⟨_, List.getElem?_eq_getElem htl⟩
            have hcy := HRO.out.at hy
            have hyb := HOZ.out.at hy
            have hxy : ¬ x < y := by
              have h1 := posN_lo out x k (by rw [HP.out]; omega)
              rw [HP.out, ht, show t + 1 - 1 = t from rfl, hy] at h1
              have h2 : y ≤ x := h1
              omega
            have hw : IntKind.i64.wrap ((p : Int) - 1) = (t : Int) := by rw [IntKind.wrap_i64]; omega
            have hp1 : 0 < p := by omega
            have htk : (t : Int) < (k : Int) := by omega
            clear hp0 hy ht htl
            go_wp2
            go_quiet (fail)
            clear hcy hw htk hyb
            by_cases hcp : cp = p
            · have e1 : p = k := by omega
              subst e1
              subst hcp
              go_wp2_with (at_builtin; refine app_any .i64 rfl _ _ 34 rfl wr.heap.size 2 i0 8 ri64s_u hi hz0 hz1 hz2 (.slice (some ⟨wr.heap.size, 0, none⟩) 0 0) 0 [] rfl (own_empty wr _ _ _ (Nat.le_refl _)) (fun h => by cases h) (some ad) 0 0 [] rfl (by simp) rfl (rd_nil _ _ _) (by unfold maxLen; omega) (by omega) (by simp) ?_; intro A6 cap6 w6 own6 grow6 rd6 c6 d6; have hb6 : Below wr.heap.size wr w6 := app_below2 (by (repeat' (first | (with_reducible exact Below.refl _ _) | (with_reducible assumption) | (with_reducible refine below_over ?_ _ _) | (with_reducible refine Lw.below_alloc ?_ _) | (with_reducible refine Below.drew ?_) | (with_reducible refine below_drewN ?_ _) | (with_reducible refine Below.setCell ?_ ?_ _) | go_size))) grow6 (by simp); (try simp only [Nat.zero_add, List.nil_append] at own6 rd6 c6); (try simp only [Nat.zero_add]))
              have HRO6 := Lib.hid (HRO.out.up hb6)
              have HR6 := Lib.hid rd6
              have hx6 := cell_up hcx hb6
              have HB6 := Lib.hid (below_call HB.out hb6 (Nat.le_refl _))
              unfold maxLen at d6
              clear own6 grow6 rd6 hcx hb6
              go_region_held3 (fun w' => Below w6.heap.size w6 w' ∧ w'.cell? (lad.add cp) = some (.int .i64 x)) (first | (refine ⟨?_, cell_up hx6 ?_⟩ <;> (repeat' (first | (with_reducible exact Below.refl _ _) | (with_reducible assumption) | (with_reducible refine below_over ?_ _ _) | (with_reducible refine Lw.below_alloc ?_ _) | (with_reducible refine Below.drew ?_) | (with_reducible refine below_drewN ?_ _) | (with_reducible refine Below.setCell ?_ ?_ _) | go_size)))) (first
                | (refine app_step .i64 rfl _ _ 34 rfl w6.heap.size 2 i0 8 ri64s_u hi hz0 hz1 hz2 _ 0 [] rfl (by first | exact own_empty w6 _ _ _ (Nat.le_refl _) | exact (own_empty w6 _ _ _ (Nat.le_refl _)).alloc _ | exact own_empty2 w6 _ _ _ _ (Nat.le_refl _)) (fun h => by cases h) (some ad) cp cp (out.take cp) rfl (by simp) (by have := HO.out; simp; omega) (Rd.up (Rd.take HRO6.out cp) (by (repeat' (first | (with_reducible exact Below.refl _ _) | (with_reducible assumption) | (with_reducible refine below_over ?_ _ _) | (with_reducible refine Lw.below_alloc ?_ _) | (with_reducible refine Below.drew ?_) | (with_reducible refine below_drewN ?_ _) | (with_reducible refine Below.setCell ?_ ?_ _) | go_size)))) (by unfold maxLen; omega) (by omega) (by simp <;> omega) ?_; intro A7 cap7 w7 own7 grow7 rd7 c7 d7; have hb7 : Below w6.heap.size w6 w7 := app_below2 (by (repeat' (first | (with_reducible exact Below.refl _ _) | (with_reducible assumption) | (with_reducible refine below_over ?_ _ _) | (with_reducible refine Lw.below_alloc ?_ _) | (with_reducible refine Below.drew ?_) | (with_reducible refine below_drewN ?_ _) | (with_reducible refine Below.setCell ?_ ?_ _) | go_size))) grow7 (by simp); (try simp only [Nat.zero_add, List.nil_append] at own7 rd7 c7); (try simp only [Nat.zero_add]))
                | (refine app_step .i64 rfl _ _ 34 rfl w6.heap.size 2 i0 8 ri64s_u hi hz0 hz1 hz2 (.slice (some A7) cp cap7) cp (out.take cp) rfl (by first | exact own7.alloc _ | exact own7) (fun h => by cases h) _ 1 1 [x] rfl (by simp) rfl (rd_one (by first | (simp [go_sem]; done) | exact grow7.cell (by simp [go_sem]) (by first | exact fun hne => absurd (Option.some.inj (show some (w6.heap.size + 1) = some w6.heap.size from hne)) (by omega) | exact fun hne => absurd (Option.some.inj (show some w6.heap.size = some (w6.heap.size + 1) from hne)) (by omega)))) (by unfold maxLen; omega) (by omega) (by have := hb7.size; simp <;> omega) ?_; intro A8 cap8 w8 own8 grow8 rd8 c8 d8; have hb8 : Below w6.heap.size w6 w8 := app_below3 (by (repeat' (first | (with_reducible exact Below.refl _ _) | (with_reducible assumption) | (with_reducible refine below_over ?_ _ _) | (with_reducible refine Lw.below_alloc ?_ _) | (with_reducible refine Below.drew ?_) | (with_reducible refine below_drewN ?_ _) | (with_reducible refine Below.setCell ?_ ?_ _) | go_size))) grow8 (fun q hq => own_ge own7 q hq); (try simp only [Nat.zero_add, List.nil_append] at own8 rd8 c8); (try simp only [Nat.zero_add]))
                | (refine app_step .i64 rfl _ _ 34 rfl w6.heap.size 2 i0 8 ri64s_u hi hz0 hz1 hz2 (.slice (some A8) (cp + 1) cap8) (cp + 1) (out.take cp ++ [x]) rfl own8 (fun h => by cases h) (some A6) 0 cap6 [] rfl (by simp) rfl (Rd.up HR6.out hb8) (by unfold maxLen; omega) (by omega) hb8.size ?_; intro A9 cap9 w9 own9 grow9 rd9 c9 d9; have hb9 : Below w6.heap.size w6 w9 := app_below3 (by (repeat' (first | (with_reducible exact Below.refl _ _) | (with_reducible assumption) | (with_reducible refine below_over ?_ _ _) | (with_reducible refine Lw.below_alloc ?_ _) | (with_reducible refine Below.drew ?_) | (with_reducible refine below_drewN ?_ _) | (with_reducible refine Below.setCell ?_ ?_ _) | go_size))) grow9 (fun q hq => own_ge own8 q hq); (try simp only [Nat.zero_add, List.nil_append] at own9 rd9 c9); (try simp only [Nat.zero_add])))
              all_goals go_wp2
              all_goals go_roundw
              all_goals first
                | exact ⟨cp + 1, A9, cap9, by omega, by go_num, by first | rfl | (congr 1; omega), by rw [HNX.out]; unfold put; rw [HO.out, HP.out, List.drop_of_length_le (by have := HO.out; omega)]; have h9 := rd9; simpa using h9, by omega, by unfold maxLen at d9; omega, below_call HB6.out hb9 (Nat.le_refl _)⟩
                | (simp [intOf]; omega)
            · have hs1 : ¬ ((cp : Nat) : Int) < (p : Int) := by omega
              have hs2 : ¬ ((k : Nat) : Int) < (p : Int) := by omega
              have hs4 : ¬ cp < p := by omega
              go_wp2_with (at_builtin; refine app_any .i64 rfl _ _ 34 rfl wr.heap.size 2 i0 8 ri64s_u hi hz0 hz1 hz2 (.slice (some ⟨wr.heap.size, 0, none⟩) 0 0) 0 [] rfl (own_empty wr _ _ _ (Nat.le_refl _)) (fun h => by cases h) (some (ad.add p)) (k - p) (cp - p) (out.drop p) rfl (by simp) (by have := HO.out; simp; omega) (Rd.up (Rd.drop HRO.out p) (by (repeat' (first | (with_reducible exact Below.refl _ _) | (with_reducible assumption) | (with_reducible refine below_over ?_ _ _) | (with_reducible refine Lw.below_alloc ?_ _) | (with_reducible refine Below.drew ?_) | (with_reducible refine below_drewN ?_ _) | (with_reducible refine Below.setCell ?_ ?_ _) | go_size)))) (by unfold maxLen; omega) (by omega) (by simp) ?_; intro A6 cap6 w6 own6 grow6 rd6 c6 d6; have hb6 : Below wr.heap.size wr w6 := app_below2 (by (repeat' (first | (with_reducible exact Below.refl _ _) | (with_reducible assumption) | (with_reducible refine below_over ?_ _ _) | (with_reducible refine Lw.below_alloc ?_ _) | (with_reducible refine Below.drew ?_) | (with_reducible refine below_drewN ?_ _) | (with_reducible refine Below.setCell ?_ ?_ _) | go_size))) grow6 (by simp); (try simp only [Nat.zero_add, List.nil_append] at own6 rd6 c6); (try simp only [Nat.zero_add]))
              have HRO6 := Lib.hid (HRO.out.up hb6)
              have HR6 := Lib.hid rd6
              have hx6 := cell_up hcx hb6
              have HB6 := Lib.hid (below_call HB.out hb6 (Nat.le_refl _))
              unfold maxLen at d6
              clear own6 grow6 rd6 hcx hb6
              go_region_held3 (fun w' => Below w6.heap.size w6 w' ∧ w'.cell? (lad.add k) = some (.int .i64 x)) (first | (refine ⟨?_, cell_up hx6 ?_⟩ <;> (repeat' (first | (with_reducible exact Below.refl _ _) | (with_reducible assumption) | (with_reducible refine below_over ?_ _ _) | (with_reducible refine Lw.below_alloc ?_ _) | (with_reducible refine Below.drew ?_) | (with_reducible refine below_drewN ?_ _) | (with_reducible refine Below.setCell ?_ ?_ _) | go_size)))) (first
                | (refine app_step .i64 rfl _ _ 34 rfl w6.heap.size 2 i0 8 ri64s_u hi hz0 hz1 hz2 _ 0 [] rfl (by first | exact own_empty w6 _ _ _ (Nat.le_refl _) | exact (own_empty w6 _ _ _ (Nat.le_refl _)).alloc _ | exact own_empty2 w6 _ _ _ _ (Nat.le_refl _)) (fun h => by cases h) (some ad) p cp (out.take p) rfl (by simp) (by have := HO.out; simp; omega) (Rd.up (Rd.take HRO6.out p) (by (repeat' (first | (with_reducible exact Below.refl _ _) | (with_reducible assumption) | (with_reducible refine below_over ?_ _ _) | (with_reducible refine Lw.below_alloc ?_ _) | (with_reducible refine Below.drew ?_) | (with_reducible refine below_drewN ?_ _) | (with_reducible refine Below.setCell ?_ ?_ _) | go_size)))) (by unfold maxLen; omega) (by omega) (by simp <;> omega) ?_; intro A7 cap7 w7 own7 grow7 rd7 c7 d7; have hb7 : Below w6.heap.size w6 w7 := app_below2 (by (repeat' (first | (with_reducible exact Below.refl _ _) | (with_reducible assumption) | (with_reducible refine below_over ?_ _ _) | (with_reducible refine Lw.below_alloc ?_ _) | (with_reducible refine Below.drew ?_) | (with_reducible refine below_drewN ?_ _) | (with_reducible refine Below.setCell ?_ ?_ _) | go_size))) grow7 (by simp); (try simp only [Nat.zero_add, List.nil_append] at own7 rd7 c7); (try simp only [Nat.zero_add]))
                | (refine app_step .i64 rfl _ _ 34 rfl w6.heap.size 2 i0 8 ri64s_u hi hz0 hz1 hz2 (.slice (some A7) p cap7) p (out.take p) rfl (by first | exact own7.alloc _ | exact own7) (fun h => by cases h) _ 1 1 [x] rfl (by simp) rfl (rd_one (by first | (simp [go_sem]; done) | exact grow7.cell (by simp [go_sem]) (by first | exact fun hne => absurd (Option.some.inj (show some (w6.heap.size + 1) = some w6.heap.size from hne)) (by omega) | exact fun hne => absurd (Option.some.inj (show some w6.heap.size = some (w6.heap.size + 1) from hne)) (by omega)))) (by unfold maxLen; omega) (by omega) (by have := hb7.size; simp <;> omega) ?_; intro A8 cap8 w8 own8 grow8 rd8 c8 d8; have hb8 : Below w6.heap.size w6 w8 := app_below3 (by (repeat' (first | (with_reducible exact Below.refl _ _) | (with_reducible assumption) | (with_reducible refine below_over ?_ _ _) | (with_reducible refine Lw.below_alloc ?_ _) | (with_reducible refine Below.drew ?_) | (with_reducible refine below_drewN ?_ _) | (with_reducible refine Below.setCell ?_ ?_ _) | go_size))) grow8 (fun q hq => own_ge own7 q hq); (try simp only [Nat.zero_add, List.nil_append] at own8 rd8 c8); (try simp only [Nat.zero_add]))
                | (refine app_step .i64 rfl _ _ 34 rfl w6.heap.size 2 i0 8 ri64s_u hi hz0 hz1 hz2 (.slice (some A8) (p + 1) cap8) (p + 1) (out.take p ++ [x]) rfl own8 (fun h => by cases h) (some A6) (k - p) cap6 (out.drop p) rfl (by simp) (by have := HO.out; simp; omega) (Rd.up HR6.out hb8) (by unfold maxLen; omega) (by omega) hb8.size ?_; intro A9 cap9 w9 own9 grow9 rd9 c9 d9; have hb9 : Below w6.heap.size w6 w9 := app_below3 (by (repeat' (first | (with_reducible exact Below.refl _ _) | (with_reducible assumption) | (with_reducible refine below_over ?_ _ _) | (with_reducible refine Lw.below_alloc ?_ _) | (with_reducible refine Below.drew ?_) | (with_reducible refine below_drewN ?_ _) | (with_reducible refine Below.setCell ?_ ?_ _) | go_size))) grow9 (fun q hq => own_ge own8 q hq); (try simp only [Nat.zero_add, List.nil_append] at own9 rd9 c9); (try simp only [Nat.zero_add])))
              all_goals go_wp2
              all_goals go_roundw
              all_goals first
                | exact ⟨k + 1, A9, cap9, by omega, by go_num, by first | rfl | (congr 1; omega), by rw [HNX.out]; unfold put; rw [HO.out, HP.out]; have h9 := rd9; simpa using h9, by omega, by unfold maxLen at d9; omega, below_call HB6.out hb9 (Nat.le_refl _)⟩
                | (simp [intOf]; omega)
        · obtain ⟨t, rfl⟩ : ∃ t : Nat, j = t + 1 := ⟨j - 1, by have := posN_le out x j; omega⟩
          have htl : t < out.length := by have := HO.out; omega
          obtain ⟨y, hy⟩ : ∃ y, out[t]? = some y := ⟨_, List.getElem?_eq_getElem htl⟩
          have hcy := HRO.out.at hy
          have hyb := HOZ.out.at hy
          have hgd : out[t]?.getD 0 = y := by rw [hy]; rfl
          have hxy : x < y := by
            refine Decidable.by_contra fun h => hjp ?_
            rw [← hpj]; show _ = (if x < out[t]?.getD 0 then _ else _); rw [hgd, if_neg h]
          have hw := wrap_pred t (by omega)
          have ht0 : (0 : Int) < (t : Int) + 1 := by omega
          have ht1 : ((t + 1 : Nat) : Int) = (t : Int) + 1 := by omega
          have hpt : posN out x t = p := by rw [← hpj]; show posN out x t = (if x < out[t]?.getD 0 then _ else _); rw [hgd, if_pos hxy]
          have HPT := Lib.hid hpt
          rw [ht1]
          clear hpj hpt hgd hy ht1 hjp
          go_wp2
          go_quiet (fail)
          go_wp2
          go_roundw
          case rel => exact ⟨t, _, by omega, by go_num, HPT.out, rfl⟩
          case measure => simp [intOf]
    · have e : k = n := by omega
      subst e
      rw [List.take_of_length_le (by have := HL.out; omega)] at hro
      have HRO := Lib.hid hro
      have HB := Lib.hid hbel
      clear hro hbel
      go_wp2
      go_ret
      exact ⟨_, _, rfl, HRO.out, hkc, by unfold maxLen; omega, HB.out⟩
theorem kth_get (zs : List Int) (k : Nat) (h : k < zs.length) : (srt zs)[k]? = some (kth zs k) := by
  unfold kth
  rw [List.getElem?_eq_getElem (by rw [srt_len]; exact h)]
  rfl
set_option maxRecDepth 100000 in
theorem rmedian_any (A : Option Addr) (n cap : Nat) (zs : List Int) (w : World) (hA : A = none → n = 0 ∧ cap = 0) (hn : n ≤ cap) (hcap : cap ≤ maxLen) (hr : Rd .i64 w A zs) (hl : zs.length = n) (hs : n ≤ 1000) (hz : In64 zs) :
    Calls Try.prog 37 #[.slice A n cap] w fun e w' => e = .returned (.tuple #[.int .i64 (kv zs (((zs.length : Int) - 1) / 2)), .bool (kb zs (((zs.length : Int) - 1) / 2))]) ∧ Below w.heap.size w w' := by
  have HR := Lib.hid hr
  have HZ := Lib.hid hz
  have HL := Lib.hid hl
  have HA := Lib.hid hA
  unfold maxLen at hcap
  by_cases h0 : n = 0
  · have e := kv_no (l := zs) (k := ((zs.length : Int) - 1) / 2) (by omega)
    have E1 := Lib.hid e.1
    have E2 := Lib.hid e.2
    subst h0
    clear e hr hz hl hA
    go_enter Try.func37, Try.ntmps37
    go_wp2
    go_ret2
    exact ⟨ret_kb E1.out.symm E2.out.symm, Below.refl _ _⟩
  · have hnz : ((n : Int) == 0) = false := by simp; omega
    have e := kv_yes (l := zs) (k := ((zs.length : Int) - 1) / 2) (by omega) (by omega)
    obtain ⟨K, hK⟩ : ∃ K : Nat, ((n : Int) - 1) / 2 = K := ⟨(((n : Int) - 1) / 2).toNat, by omega⟩
    have hKt : Int.tdiv ((n : Int) - 1) 2 = K := by rw [Int.tdiv_eq_ediv_of_nonneg (by omega)]; exact hK
    have hKn : K < n := by omega
    have e1 : kv zs (((zs.length : Int) - 1) / 2) = kth zs K := by rw [e.1, hl, hK]; rfl
    have HK := Lib.hid (kth_get zs K (by omega))
    have E1 := Lib.hid e1
    have E2 := Lib.hid e.2
    clear e e1 hr hz hl hA
    go_enter Try.func37, Try.ntmps37
    go_wp2_with (go_at_call 49; (with_reducible refine (rsorted_any A n cap zs _ HA.out hn (by unfold maxLen; omega) HR.out HL.out hs HZ.out).mono ?_); rintro e w2 ⟨A2, cap2, rfl, hrd, hc2, hm2, hb2⟩; have hcell := hrd.at HK.out)
    go_ret2
    exact ⟨ret_kb E1.out.symm E2.out.symm, hb2⟩
end Go.Proofs.Ytmneihdkkmgbkaa.Ord
