/- The walks of the document's own answers for layer 5: numbers put in order. Printed by wip/gen/ordref.py. -/
import Derived.Test.YtonbidohhgenlaaRows
import Derived.Test.YtonbidohhgenlaaOrdMath
import Derived.Test.YtonbidohhgenlaaRow
import Derived.Deep.LoopGhost
import Derived.Deep.RegionHeld3
import Derived.Deep.QuietTactic
import Derived.BigQuiet
namespace Go.Proofs.Ytonbidohhgenlaa.Ord
open Go Go.RowKit Lw
set_option linter.unusedVariables false
set_option linter.unusedSimpArgs false
theorem ri64_info : (Try.prog.info? 2).map (fun i => (i.zero, i.size, i.bytes)) = some (some (.int .i64 0), 1, 8) := by kernel_rfl
theorem ri64s_u : Try.prog.underlying 37 = some (.slice 2) := by kernel_rfl
theorem wrap_pred (t : Nat) (h : (t : Int) ≤ 9223372036854775806) : IntKind.i64.wrap ((t : Int) + 1 - 1) = t := by rw [IntKind.wrap_i64]; omega
theorem ret_kb {a b : Int} {p q : Bool} (h : a = b) (g : p = q) : Ending.returned (.tuple #[.int .i64 a, .bool p]) = .returned (.tuple #[.int .i64 b, .bool q]) := by rw [h, g]
set_option maxRecDepth 100000 in
theorem rmin_any (A : Option Addr) (n cap : Nat) (zs : List Int) (w : World) (hA : A = none → n = 0 ∧ cap = 0) (hn : n ≤ cap) (hcap : cap ≤ maxLen) (hr : Rd .i64 w A zs) (hl : zs.length = n) (hs : n ≤ 1000) (hz : In64 zs) :
    Calls Try.prog 42 #[.slice A n cap] w fun e w' => e = .returned (.tuple #[.int .i64 (kv zs (0)), .bool (kb zs (0))]) ∧ Below w.heap.size w w' := by
  have HR := Lib.hid hr
  have HZ := Lib.hid hz
  have HL := Lib.hid hl
  unfold maxLen at hcap
  clear hr hz hA
  by_cases h0 : n = 0
  · have e := kv_no (l := zs) (k := 0) (by omega)
    subst h0
    clear hl
    go_enter Try.func42, Try.ntmps42
    go_wp2
    go_ret2
    exact ⟨ret_kb e.1.symm e.2.symm, Below.refl _ _⟩
  · have hnz : ((n : Int) == 0) = false := by simp; omega
    have h1 : 0 < zs.length := by omega
    obtain ⟨ad, rfl⟩ := HR.out.some_of h1
    have c0 := HR.out.at (j := 0) (v := zs[0]) (List.getElem?_eq_getElem h1)
    have ca0 : ad.add 0 = ad := by unfold Addr.add; simp
    obtain ⟨f, hf⟩ : ∃ f, f = zs[0] := ⟨_, rfl⟩
    rw [← hf] at c0
    have hfm : f ∈ zs := by rw [hf]; exact List.getElem_mem h1
    have fb := HZ.out f hfm
    have HF := Lib.hid hfm
    have h0n : (0 : Int) < n := by omega
    rw [ca0] at c0
    clear hf hfm hl
    go_enter Try.func42, Try.ntmps42
    go_wp2
    go_loop [4, 5] (fun b i => ∃ (k : Nat) (x : Int), k ≤ n ∧ i = .int .i64 k ∧ b = .int .i64 x ∧ x ∈ zs ∧ ∀ y ∈ zs.take k, x ≤ y) (fun _ i => n - (intOf i).toNat)
    case atStart => exact ⟨0, f, Nat.zero_le _, rfl, rfl, HF.out, fun y hy => by simp at hy⟩
    case round =>
      obtain ⟨k, x, hk, rfl, rfl, hx, hall⟩ := hrel
      have xb := HZ.out x hx
      have HX := Lib.hid hx
      have HA := Lib.hid hall
      clear hx hall
      by_cases hlt : k < n
      · have hkl : k < zs.length := by have := HL.out; omega
        obtain ⟨v, hv⟩ : ∃ v, zs[k]? = some v := ⟨_, List.getElem?_eq_getElem hkl⟩
        have hc := HR.out.at hv
        have hvm := List.mem_of_getElem? hv
        have vb := HZ.out v hvm
        have HV := Lib.hid hvm
        have HN := Lib.hid (take_next zs k v hv)
        clear hv hvm
        by_cases h2 : v < x
        · go_wp2
          go_round
          case rel => exact ⟨k + 1, v, by omega, by go_num, rfl, HV.out, fun y hy => by rw [HN.out] at hy; rcases List.mem_append.1 hy with h3 | h3; (have := HA.out y h3; omega); (simp at h3; omega)⟩
          case measure => simp [intOf]; omega
        · go_wp2
          all_goals first | (exfalso; omega) | skip
          go_round
          case rel => exact ⟨k + 1, x, by omega, by go_num, by first | rfl | (congr 1; omega), HX.out, fun y hy => by rw [HN.out] at hy; rcases List.mem_append.1 hy with h3 | h3; (exact HA.out y h3); (simp at h3; omega)⟩
          case measure => simp [intOf]; omega
      · have e : k = n := by omega
        subst e
        have e1 := kv_yes (l := zs) (k := 0) (by omega) (by have := HL.out; omega)
        have e2 := least_eq zs x HX.out (fun y hy => HA.out y (by rw [List.take_of_length_le (by have := HL.out; omega)]; exact hy))
        have E := Lib.hid (e1.1.trans e2.symm)
        have E2 := Lib.hid e1.2
        clear e1 e2
        go_wp2
        go_ret2
        exact ⟨ret_kb E.out.symm E2.out.symm, Below.refl _ _⟩
theorem kth_get (zs : List Int) (k : Nat) (h : k < zs.length) : (srt zs)[k]? = some (kth zs k) := by
  unfold kth
  rw [List.getElem?_eq_getElem (by rw [srt_len]; exact h)]
  rfl
end Go.Proofs.Ytonbidohhgenlaa.Ord
