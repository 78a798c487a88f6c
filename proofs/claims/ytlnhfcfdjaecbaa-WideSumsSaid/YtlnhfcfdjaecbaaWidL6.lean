/- The statement WideSums holds: sums of sixty-four bits are what the document says, whatever stands on the way, for any numbers (a thousand). -/
import Derived.Test.YtlnhfcfdjaecbaaWidShown
import Derived.Test.YtlnhfcfdjaecbaaWidMul
import Derived.Test.YtlnhfcfdjaecbaaGrow
import Derived.Test.YtlnhfcfdjaecbaaLaw
import Derived.Test.YtlnhfcfdjaecbaaWidCut
namespace Go.Proofs.Ytlnhfcfdjaecbaa.Wid
open Go.RowKit Lw
set_option linter.unusedVariables false
theorem wide_cells : Try.prog.cellsOf 24 = 2 := by kernel_rfl
theorem wf_i64 {x : Int} (h : (Lit.int .i64 x).wf = true) : -9223372036854775808 ≤ x ∧ x ≤ 9223372036854775807 := by
  have := (Lit.wf_int_iff .i64 x).1 h
  simpa [IntKind.min, IntKind.max, IntKind.bits, IntKind.signed] using this
theorem wf_u64 {x : Int} (h : (Lit.int .u64 x).wf = true) : 0 ≤ x ∧ x ≤ 18446744073709551615 := by
  have := (Lit.wf_int_iff .u64 x).1 h
  simpa [IntKind.min, IntKind.max, IntKind.bits, IntKind.signed] using this
set_option maxRecDepth 100000 in
set_option maxHeartbeats 1000000 in
theorem sums_few (ad : Addr) (n cap : Nat) (zs : List Int) (w : World) (hn : n ≤ cap) (hcap : cap ≤ maxLen) (hr : RdI w (some ad) zs) (hl : zs.length = n) (hz : In64 zs) (hc : n ≤ 1000) :
    Calls Try.prog 6 #[.slice (some ad) n cap] w fun e w' => e = .returned (.bool true) ∧ Below w.heap.size w w' := by
  unfold maxLen at hcap
  obtain ⟨i0, hi, hz0, hz1, hz2⟩ := info_parts i64_info
  have HR := Lib.hid hr
  have HL := Lib.hid hl
  have HZ := Lib.hid hz
  have hlen : n ≤ zs.length := by omega
  have hlen2 : zs.length ≤ n := by omega
  clear hr hl hz
  go_enter Try.func6, Try.ntmps6
  go_wp2_with (first
    | (go_at_call 11; (with_reducible refine (shown_any _).mono ?_); rintro e wS ⟨rfl, hbS⟩)
    | (at_builtin; go_must (refine wpList_append_own _ rfl _ _ 44 rfl w.heap.size 2 i0 (.int .i64 0) 1 8 i64s_u hi hz0 hz1 hz2 rfl (by decide) _ 0 [] rfl (own_empty wS _ _ _ hbS.size) ad n cap ((zs.take n).map (Value.int .i64)) rfl (by simp; omega) (rd_news HR.out (below_alloc hbS _) n) (one_ints _) (by unfold maxLen; omega) (by omega) (by have := hbS.size; simp; omega) ?_); intro v' w2 hown2 hgrow2 _; have hb2 := app_below hgrow2 (Nat.le_refl _); rw [List.nil_append, Nat.zero_add] at hown2; obtain ⟨A2, cap2, rfl, hrd2, hcap2, hcap3, hnil2⟩ := own_rd hown2; clear hown2 hgrow2)
    | (go_at_call 27; (with_reducible refine (sum_any A2 _ cap2 (zs.take n) _ hrd2 (by simp; omega) (by omega) (in64_take HZ.out _)).mono ?_); rintro e w3 ⟨rfl, hb3⟩; have hrd3 := RdI.below hrd2 hb3)
    | (go_at_call 28; (with_reducible refine (rsum_any A2 _ cap2 (zs.take n) _ hrd3 (by simp; omega) (by omega) (in64_take HZ.out _)).mono ?_); rintro e w4 ⟨rfl, hb4⟩))
  go_ret
  refine ⟨rfl, ?_⟩
  repeat' (first | (with_reducible exact Below.refl _ _) | (with_reducible assumption) | (with_reducible refine below_call ?_ (by with_reducible assumption) (Nat.le_refl _)) | (with_reducible refine Lw.below_alloc ?_ _) | (with_reducible refine Below.drew ?_) | (with_reducible refine below_drewN ?_ _))
set_option maxRecDepth 100000 in
set_option maxHeartbeats 1000000 in
theorem sums_many (ad : Addr) (n cap : Nat) (zs : List Int) (w : World) (hn : n ≤ cap) (hcap : cap ≤ maxLen) (hr : RdI w (some ad) zs) (hl : zs.length = n) (hz : In64 zs) (hc : 1000 < n) :
    Calls Try.prog 6 #[.slice (some ad) n cap] w fun e w' => e = .returned (.bool true) ∧ Below w.heap.size w w' := by
  unfold maxLen at hcap
  obtain ⟨i0, hi, hz0, hz1, hz2⟩ := info_parts i64_info
  have HR := Lib.hid hr
  have HL := Lib.hid hl
  have HZ := Lib.hid hz
  have hlen : n ≤ zs.length := by omega
  have hlen2 : zs.length ≤ n := by omega
  clear hr hl hz
  go_enter Try.func6, Try.ntmps6
  go_wp2_with (first
    | (go_at_call 11; (with_reducible refine (shown_any _).mono ?_); rintro e wS ⟨rfl, hbS⟩)
    | (at_builtin; go_must (refine wpList_append_own _ rfl _ _ 44 rfl w.heap.size 2 i0 (.int .i64 0) 1 8 i64s_u hi hz0 hz1 hz2 rfl (by decide) _ 0 [] rfl (own_empty wS _ _ _ hbS.size) ad 1000 cap ((zs.take 1000).map (Value.int .i64)) rfl (by simp; omega) (rd_news HR.out (below_alloc hbS _) 1000) (one_ints _) (by unfold maxLen; omega) (by omega) (by have := hbS.size; simp; omega) ?_); intro v' w2 hown2 hgrow2 _; have hb2 := app_below hgrow2 (Nat.le_refl _); rw [List.nil_append, Nat.zero_add] at hown2; obtain ⟨A2, cap2, rfl, hrd2, hcap2, hcap3, hnil2⟩ := own_rd hown2; clear hown2 hgrow2)
    | (go_at_call 27; (with_reducible refine (sum_any A2 _ cap2 (zs.take 1000) _ hrd2 (by simp; omega) (by omega) (in64_take HZ.out _)).mono ?_); rintro e w3 ⟨rfl, hb3⟩; have hrd3 := RdI.below hrd2 hb3)
    | (go_at_call 28; (with_reducible refine (rsum_any A2 _ cap2 (zs.take 1000) _ hrd3 (by simp; omega) (by omega) (in64_take HZ.out _)).mono ?_); rintro e w4 ⟨rfl, hb4⟩))
  go_ret
  refine ⟨rfl, ?_⟩
  repeat' (first | (with_reducible exact Below.refl _ _) | (with_reducible assumption) | (with_reducible refine below_call ?_ (by with_reducible assumption) (Nat.le_refl _)) | (with_reducible refine Lw.below_alloc ?_ _) | (with_reducible refine Below.drew ?_) | (with_reducible refine below_drewN ?_ _))
set_option maxRecDepth 100000 in
theorem sums_nil (w : World) :
    Calls Try.prog 6 #[.slice none 0 0] w fun e w' => e = .returned (.bool true) ∧ Below w.heap.size w w' := by
  obtain ⟨i0, hi, hz0, hz1, hz2⟩ := info_parts i64_info
  go_enter Try.func6, Try.ntmps6
  go_wp2_with (first
    | (go_at_call 11; (with_reducible refine (shown_any _).mono ?_); rintro e wS ⟨rfl, hbS⟩)
    | (at_builtin; go_must (refine wpList_append_own_none rfl _ _ 44 rfl w.heap.size 2 i0 1 i64s_u hi _ 0 [] rfl (own_empty wS _ _ _ hbS.size) rfl ?_))
    | (go_at_call 27; (with_reducible refine (sum_any _ 0 0 [] _ (rd_nil _ _) rfl (by omega) in64_nil).mono ?_); rintro e w3 ⟨rfl, hb3⟩)
    | (go_at_call 28; (with_reducible refine (rsum_any _ 0 0 [] _ (rd_nil _ _) rfl (by omega) in64_nil).mono ?_); rintro e w4 ⟨rfl, hb4⟩))
  go_ret
  refine ⟨rfl, ?_⟩
  repeat' (first | (with_reducible exact Below.refl _ _) | (with_reducible assumption) | (with_reducible refine below_call ?_ (by with_reducible assumption) (Nat.le_refl _)) | (with_reducible refine Lw.below_alloc ?_ _) | (with_reducible refine Below.drew ?_) | (with_reducible refine below_drewN ?_ _))
theorem sums_any (A : Option Addr) (n cap : Nat) (zs : List Int) (w : World) (hA : A = none → n = 0 ∧ cap = 0) (hn : n ≤ cap) (hcap : cap ≤ maxLen) (hr : RdI w A zs) (hl : zs.length = n) (hz : In64 zs) :
    Calls Try.prog 6 #[.slice A n cap] w fun e w' => e = .returned (.bool true) ∧ Below w.heap.size w w' := by
  cases A with
  | none => obtain ⟨rfl, rfl⟩ := hA rfl; exact sums_nil w
  | some ad =>
    by_cases hc : n ≤ 1000
    · exact sums_few ad n cap zs w hn hcap hr hl hz hc
    · exact sums_many ad n cap zs w hn hcap hr hl hz (by omega)
theorem open_list {H : Type} {enc : TypeId × Value → H} {W : World} {v : Value} {d : DataW H} {p : List MemPlace} {base : Nat} (hv : Value.okWide Try.prog W .any base 44 v)
    (h : DataW.Trod enc Try.prog W 0 (fun _ => true) true 44 v d p) :
    ∃ (A : Option Addr) (n cap : Nat) (zs : List Int), v = .slice A n cap ∧ (A = none → n = 0 ∧ cap = 0) ∧ n ≤ cap ∧ cap ≤ maxLen ∧ RdI W A zs ∧ zs.length = n ∧ In64 zs := by
  obtain ⟨a0, len, cap, rfl⟩ := Go.WideShapes.okWide_slice Try.underlying44 hv
  obtain ⟨fuel, hf⟩ := h
  rcases Go.ChangeShapes.open_ints Try.underlying44 Try.underlying2 i64_c hf with ⟨hcs, _⟩ | ⟨a, len', cap', zs, hcs, _, hl, hm, hz, _, hcell, hwz⟩
  · simp [Value.cells] at hcs
    obtain ⟨rfl, rfl, rfl⟩ := hcs
    exact ⟨none, 0, 0, [], rfl, fun _ => ⟨rfl, rfl⟩, Nat.le_refl _, by simp, rd_nil _ _, rfl, in64_nil⟩
  · simp [Value.cells] at hcs
    obtain ⟨rfl, rfl, rfl⟩ := hcs
    have hz2 : zs.length = cap := by simpa using hz
    refine ⟨some a, len, cap, zs.take len, rfl, (fun h => by cases h), hl, hm, ?_, by simp; omega, ?_⟩
    · intro k v hk
      rw [List.getElem?_take] at hk
      split at hk
      · refine ⟨a, rfl, ?_⟩
        rw [hcell k (by omega)]
        simp [hk]
      · cases hk
    · intro v hv
      exact wf_i64 (hwz v (List.mem_of_mem_take hv))
namespace wideSums
open Go.ChangeShapes Go.WideShapes Go.ChangeAt Go.Joins
set_option maxRecDepth 100000 in
theorem lifted (os : Os) (started : os.Started) (H : Type) (enc : TypeId × Value → H) :
    ReturnsInHanded {} Try.checked os 6 .any (Rows.wideSumsSpec.pre6 enc Try.prog Try.f6 Rows.wideSumsRow.domain false) (Rows.wideSumsSpec.post enc Try.prog Try.f6 false true false false) := by
  refine Lw.lifted (C := Try.checked) (B := 4) (by kernel_rfl) os started (by kernel_rfl) Try.func6
    (ChangeSpec.witness6 (enc := enc) (C := Try.checked) false ⟨#[], #[.slice none 0 0], []⟩ 8 (by kernel_rfl) (by kernel_rfl) (by kernel_rfl) (by kernel_rfl)) rfl Try.underlying4 (by kernel_rfl) (by kernel_rfl) (by kernel_rfl) ?_ ?_
  · intro ds h
    rw [Try.params6] at h
    match ds, h with
    | [_], _ => rfl
  · intro W base args ds p hval hA
    rw [Try.params6] at hA hval
    obtain ⟨v0, vs0, d0, ds0, p0, q0, hargs, rfl, rfl, h0, r0⟩ := trodAll_cons hA
    obtain ⟨rfl, rfl, rfl⟩ := trodAll_nil r0
    obtain rfl : args = #[v0] := by cases args; simp_all
    exact by
      obtain ⟨A, n, cap, zs, rfl, hA2, hn, hcap, hr, hl, hz⟩ := open_list (hval 0 44 v0 rfl rfl) h0
      exact sums_any A n cap zs W hA2 hn hcap hr hl hz
theorem over : Rows.wideSumsRow.holds Try.pinned (OpenSpec.ofChange Rows.wideSumsSpec) :=
  OpenClaim.holds_of_wide 6 Try.f6 rfl rfl rfl rfl rfl rfl rfl ⟨rfl, rfl, rfl, rfl, rfl⟩ rfl rfl rfl rfl rfl (by kernel_rfl) Try.func6 (by kernel_rfl)
    (of_decide_eq_true (by kernel_rfl)) (by unfold Func.isWrapper; first | (rw [if_pos (by decide +kernel)]; kernel_rfl) | (rw [if_neg (by decide +kernel)]; exact ⟨rfl, rfl⟩))
    (fun os started H enc _ => lifted os started H enc)
theorem proved : Rows.WideSumsSaid :=
  over
#print axioms proved
end wideSums
end Go.Proofs.Ytlnhfcfdjaecbaa.Wid
