/- The statement InnerDot of layer 11 holds: sums of products are what the document says, of any two rows of numbers (two hundred). Printed by wip/gen/innlaws.py. -/
import Derived.Test.YthecgkgnngpikaaMi
import Derived.Deep.LoopGhost
import Derived.Deep.RegionHeld3
import Derived.Deep.DeepCutAuto
import Derived.Deep.QuietTactic
import Derived.BigQuiet
namespace Go.Proofs.Ythecgkgnngpikaa.Inn
open Go Go.RowKit Lw Grd Lin Con Shp Sk
set_option linter.unusedVariables false
set_option linter.unusedSimpArgs false
set_option maxRecDepth 100000 in
set_option maxHeartbeats 4000000 in
theorem dot_law (A : Option Addr) (n cap : Nat) (zs : List Int) (B : Option Addr) (n2 cap2 : Nat) (ys : List Int) (w : World) (hA : A = none → n = 0 ∧ cap = 0) (hn : n ≤ cap) (hcap : cap ≤ maxLen) (hr : Rd .i64 w A zs) (hl : zs.length = n) (hz : In64 zs) (hB : B = none → n2 = 0 ∧ cap2 = 0) (hn2 : n2 ≤ cap2) (hcap2 : cap2 ≤ maxLen) (hr2 : Rd .i64 w B ys) (hl2 : ys.length = n2) (hzz2 : In64 ys) :
    Calls Try.prog 3 #[.slice A n cap, .slice B n2 cap2] w fun e w' => e = .returned (.bool true) ∧ Below w.heap.size w w' := by
  unfold maxLen at hcap hcap2
  obtain ⟨i0, hi, hz0, hz1, hz2⟩ := info_parts i64_info
  obtain ⟨m, hmin⟩ : ∃ m : Nat, (if (200 : Int) < n then 200 else (n : Int)) = m := ⟨min n 200, by split <;> omega⟩
  have hm1 : m ≤ 200 := by split at hmin <;> omega
  have hm2 : m ≤ n := by split at hmin <;> omega
  have hm3 : m ≤ zs.length := by omega
  have hA2 : A = none → m = 0 ∧ cap = 0 := fun h => ⟨by have := (hA h).1; omega, (hA h).2⟩
  obtain ⟨k, kmin⟩ : ∃ k : Nat, (if (200 : Int) < n2 then 200 else (n2 : Int)) = k := ⟨min n2 200, by split <;> omega⟩
  have km1 : k ≤ 200 := by split at kmin <;> omega
  have km2 : k ≤ n2 := by split at kmin <;> omega
  have km3 : k ≤ ys.length := by omega
  have hB2 : B = none → k = 0 ∧ cap2 = 0 := fun h => ⟨by have := (hB h).1; omega, (hB h).2⟩
  have HR := Lib.hid hr
  have HR2 := Lib.hid hr2
  have L1 : Hid ((zs.take m).length = m) := Lib.hid (by rw [List.length_take]; omega)
  have L2 : Hid ((ys.take k).length = k) := Lib.hid (by rw [List.length_take]; omega)
  have Z1 := Lib.hid (in64_take hz m)
  have Z2 := Lib.hid (in64_take hzz2 k)
  obtain ⟨P, hP⟩ : ∃ P, dhi (zs.take m) (ys.take k) = P := ⟨_, rfl⟩
  obtain ⟨Q, hQ⟩ : ∃ Q, dlo (zs.take m) (ys.take k) = Q := ⟨_, rfl⟩
  obtain ⟨O, hO⟩ : ∃ O, dok (zs.take m) (ys.take k) = O := ⟨_, rfl⟩
  have CD : Hid (∀ (a b : Addr) (c1 c2 : Nat) (w : World), Rd .i64 w (some a) (zs.take m) → Rd .i64 w (some b) (ys.take k) → Calls Try.prog 11 #[.slice (some a) m c1, .slice (some b) k c2] w fun e w' => e = .returned (.tuple #[.agg #[.int .i64 P, .int .u64 Q], .bool O]) ∧ Below w.heap.size w w') := Lib.hid (fun a b c1 c2 w h1 h2 => by
    rw [← hP, ← hQ, ← hO]
    exact idot_any (some a) (some b) m k c1 c2 _ _ w h1 h2 L1.out L2.out (by omega) Z1.out Z2.out)
  have CR : Hid (∀ (a b : Addr) (c1 c2 : Nat) (w : World), Rd .i64 w (some a) (zs.take m) → Rd .i64 w (some b) (ys.take k) → Calls Try.prog 12 #[.slice (some a) m c1, .slice (some b) k c2] w fun e w' => e = .returned (.tuple #[.agg #[.int .i64 P, .int .u64 Q], .bool O]) ∧ Below w.heap.size w w') := Lib.hid (fun a b c1 c2 w h1 h2 => by
    rw [← hP, ← hQ, ← hO]
    exact rdot_any (some a) (some b) m k c1 c2 _ _ w h1 h2 L1.out L2.out (by omega) Z1.out Z2.out)
  clear hr hr2 hl hl2 hz hzz2 hA hB hP hQ hO
  go_enter Try.func3, Try.ntmps3
  go_wp2_with (first
    | (go_at_call 12; (with_reducible refine (CR.out _ _ _ _ _ (HD1.out _ (by repeat' (first | (with_reducible exact Below.refl _ _) | (with_reducible assumption) | (with_reducible refine below_over ?_ _ _) | (with_reducible refine Lw.below_alloc ?_ _) | (with_reducible refine Below.drew ?_) | (with_reducible refine below_drewN ?_ _) | (with_reducible refine Below.setCell ?_ ?_ _) | go_size))) (HD2.out _ (by repeat' (first | (with_reducible exact Below.refl _ _) | (with_reducible assumption) | (with_reducible refine below_over ?_ _ _) | (with_reducible refine Lw.below_alloc ?_ _) | (with_reducible refine Below.drew ?_) | (with_reducible refine below_drewN ?_ _) | (with_reducible refine Below.setCell ?_ ?_ _) | go_size)))).mono ?_); rintro e w' ⟨rfl, hb⟩; obtain ⟨bs5, d5, rfl⟩ := below_grow hb; clear hb)
    | (go_at_call 11; (with_reducible refine (CD.out _ _ _ _ _ (HD1.out _ (by repeat' (first | (with_reducible exact Below.refl _ _) | (with_reducible assumption) | (with_reducible refine below_over ?_ _ _) | (with_reducible refine Lw.below_alloc ?_ _) | (with_reducible refine Below.drew ?_) | (with_reducible refine below_drewN ?_ _) | (with_reducible refine Below.setCell ?_ ?_ _) | go_size))) (HD2.out _ (by repeat' (first | (with_reducible exact Below.refl _ _) | (with_reducible assumption) | (with_reducible refine below_over ?_ _ _) | (with_reducible refine Lw.below_alloc ?_ _) | (with_reducible refine Below.drew ?_) | (with_reducible refine below_drewN ?_ _) | (with_reducible refine Below.setCell ?_ ?_ _) | go_size)))).mono ?_); rintro e w' ⟨rfl, hb⟩; obtain ⟨bs4, d4, rfl⟩ := below_grow hb; clear hb)
    | (at_builtin; (refine app_any .i64 rfl _ _ 22 rfl w2.heap.size 2 i0 8 i64s_u hi hz0 hz1 hz2 (.slice (some ⟨w2.heap.size, 0, none⟩) 0 0) 0 [] rfl (own_empty w2 _ _ _ (Nat.le_refl _)) (fun h => by cases h) B k cap2 (ys.take k) rfl hB2 (by simp; omega) ((HR2.out.take k).up (by repeat' (first | (with_reducible exact Below.refl _ _) | (with_reducible assumption) | (with_reducible refine below_over ?_ _ _) | (with_reducible refine Lw.below_alloc ?_ _) | (with_reducible refine Below.drew ?_) | (with_reducible refine below_drewN ?_ _) | (with_reducible refine Below.setCell ?_ ?_ _) | go_size))) (by unfold maxLen; omega) (by omega) (by simp) ?_); intro B3 cb3 w3 hown2 hgrow2 rd3 hc4 hc5; have hb3 := app_below hgrow2 (Nat.le_refl _); rw [List.nil_append] at rd3; clear hown2 hgrow2; (try simp only [Nat.zero_add] at hc4); (try simp only [Nat.zero_add]); have HD1 := Lib.hid (fun w' (h : Below w3.heap.size w3 w') => (rd2.up hb3).up h); have HD2 := Lib.hid (fun w' (h : Below w3.heap.size w3 w') => rd3.up h); have HB3 := Lib.hid (below_call HB2.out hb3 (Nat.le_refl _)); clear rd2 rd3 hb3)
    | (at_builtin; go_must (refine app_any .i64 rfl _ _ 22 rfl wS.heap.size 2 i0 8 i64s_u hi hz0 hz1 hz2 (.slice (some ⟨wS.heap.size, 0, none⟩) 0 0) 0 [] rfl (own_empty wS _ _ _ (Nat.le_refl _)) (fun h => by cases h) A m cap (zs.take m) rfl hA2 (by simp; omega) ((HR.out.take m).up (by repeat' (first | (with_reducible exact Below.refl _ _) | (with_reducible assumption) | (with_reducible refine below_over ?_ _ _) | (with_reducible refine Lw.below_alloc ?_ _) | (with_reducible refine Below.drew ?_) | (with_reducible refine below_drewN ?_ _) | (with_reducible refine Below.setCell ?_ ?_ _) | go_size))) (by unfold maxLen; omega) (by omega) (by simp) ?_); intro A2 ca2 w2 hown2 hgrow2 rd2 hc2 hc3; have hb2 := app_below hgrow2 (Nat.le_refl _); rw [List.nil_append] at rd2; clear hown2 hgrow2; (try simp only [Nat.zero_add] at hc2); (try simp only [Nat.zero_add]); have hbw2 := below_call hbS hb2 (Nat.le_refl _); have HB2 := Lib.hid hbw2; clear hb2)
    | (go_at_call 10; (with_reducible refine (shown_any _).mono ?_); rintro e wS ⟨rfl, hbS⟩))
  all_goals go_ret
  all_goals exact ⟨ret_bs (by first | rfl | (simp [*]; done)), below_call HB3.out (by repeat' (first | (with_reducible exact Below.refl _ _) | (with_reducible assumption) | (with_reducible refine below_over ?_ _ _) | (with_reducible refine Lw.below_alloc ?_ _) | (with_reducible refine Below.drew ?_) | (with_reducible refine below_drewN ?_ _) | (with_reducible refine Below.setCell ?_ ?_ _) | go_size)) (Nat.le_refl _)⟩
namespace innerDot
open Go.ChangeShapes Go.WideShapes Go.ChangeAt Go.Joins
set_option maxRecDepth 100000 in
theorem lifted (os : Os) (started : os.Started) (H : Type) (enc : TypeId × Value → H) :
    ReturnsInHanded {} Try.checked os 3 .any (Rows.innerDotSpec.pre6 enc Try.prog Try.f3 Rows.innerDotRow.domain false) (Rows.innerDotSpec.post enc Try.prog Try.f3 false true false false) := by
  refine Lw.lifted (C := Try.checked) (B := 4) (by kernel_rfl) os started (by kernel_rfl) Try.func3
    (ChangeSpec.witness6 (enc := enc) (C := Try.checked) false ⟨#[], #[.slice none 0 0, .slice none 0 0], []⟩ 8 (by kernel_rfl) (by kernel_rfl) (by kernel_rfl) (by kernel_rfl)) rfl Try.underlying4 (by kernel_rfl) (by kernel_rfl) (by kernel_rfl) ?_ ?_
  · intro ds h
    rw [Try.params3] at h
    match ds, h with
    | [_, _], _ => rfl
  · intro W base args ds p hval hA
    rw [Try.params3] at hA hval
    obtain ⟨v0, vs0, d0, ds0, p0, q0, hargs, rfl, rfl, h0, r0⟩ := trodAll_cons hA
    obtain ⟨v1, vs1, d1, ds1, p1, q1, rfl, rfl, rfl, h1, r1⟩ := trodAll_cons r0
    obtain ⟨rfl, rfl, rfl⟩ := trodAll_nil r1
    obtain rfl : args = #[v0, v1] := by cases args; simp_all
    obtain ⟨A0, n0, c0, zs0, rfl, hA0, hn0, hc0, hr0, hl0, hz0⟩ := open_list_int64 (hval 0 22 v0 rfl rfl) h0
    obtain ⟨A1, n1, c1, zs1, rfl, hA1, hn1, hc1, hr1, hl1, hz1⟩ := open_list_int64 (hval 1 22 v1 rfl rfl) h1
    exact dot_law A0 n0 c0 zs0 A1 n1 c1 zs1 W hA0 hn0 hc0 hr0 hl0 hz0 hA1 hn1 hc1 hr1 hl1 hz1
theorem over : Rows.innerDotRow.holds Try.pinned (OpenSpec.ofChange Rows.innerDotSpec) :=
  OpenClaim.holds_of_wide 3 Try.f3 rfl rfl rfl rfl rfl rfl rfl ⟨rfl, rfl, rfl, rfl, rfl⟩ rfl rfl rfl rfl rfl (by kernel_rfl) Try.func3 (by kernel_rfl)
    (of_decide_eq_true (by kernel_rfl)) (by unfold Func.isWrapper; first | (rw [if_pos (by decide +kernel)]; kernel_rfl) | (rw [if_neg (by decide +kernel)]; exact ⟨rfl, rfl⟩))
    (fun os started H enc _ => lifted os started H enc)
theorem proved : Rows.InnerDotSaid :=
  over
#print axioms proved
end innerDot
end Go.Proofs.Ythecgkgnngpikaa.Inn
