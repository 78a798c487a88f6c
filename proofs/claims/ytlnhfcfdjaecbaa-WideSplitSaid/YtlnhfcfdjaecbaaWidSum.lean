/- The walks of the sums of lists. -/
import Derived.Test.YtlnhfcfdjaecbaaWidRef2
import Derived.WalkSpells
import Derived.Deep.LoopGhost
import Derived.Deep.RegionWith
namespace Go.Proofs.Ytlnhfcfdjaecbaa.Wid
open Go.RowKit
set_option linter.unusedVariables false
def RdI (w : World) (A : Option Addr) (zs : List Int) : Prop := ∀ k v, zs[k]? = some v → ∃ ad, A = some ad ∧ w.cell? (ad.add k) = some (.int .i64 v)
def In64 (zs : List Int) : Prop := ∀ v ∈ zs, -9223372036854775808 ≤ v ∧ v ≤ 9223372036854775807
theorem cell_blt {w : World} {a : Addr} {k : Nat} {v : Value} (h : w.cell? (a.add k) = some v) : (a.add k).block < w.heap.size := cell_lt h
theorem RdI.below {w w1 : World} {A : Option Addr} {zs : List Int} (h : RdI w A zs) (hb : Below w.heap.size w w1) : RdI w1 A zs := by
  intro k v hv
  obtain ⟨ad, e, hc⟩ := h k v hv
  exact ⟨ad, e, by rw [hb.cell (cell_lt hc)]; exact hc⟩
theorem sum_snoc (l : List Int) (x : Int) : (l ++ [x]).sum = l.sum + x := by
  induction l with
  | nil => simp
  | cons a l ih => rw [List.cons_append, List.sum_cons, List.sum_cons, ih]; omega
theorem sum_next (zs : List Int) (k : Nat) (hk : k < zs.length) : (zs.take (k + 1)).sum = (zs.take k).sum + zs[k] := by
  rw [List.take_succ_eq_append_getElem hk, sum_snoc]
theorem sum_bd (zs : List Int) (h : In64 zs) : ∀ k : Nat, -9223372036854775808 * (k : Int) ≤ (zs.take k).sum ∧ (zs.take k).sum ≤ 9223372036854775807 * (k : Int) := by
  intro k
  induction k with
  | zero => simp
  | succ k ih =>
    by_cases hk : k < zs.length
    · have e : (zs.take (k + 1)).sum = (zs.take k).sum + zs[k] := sum_next zs k hk
      have hb := h zs[k] (List.getElem_mem hk)
      rw [e]; push_cast; omega
    · have e : zs.take (k + 1) = zs.take k := by rw [List.take_of_length_le (by omega), List.take_of_length_le (by omega)]
      rw [e]; push_cast; omega
theorem cell_on {wa w1 : World} {a : Addr} {v : Value} (hb : Below wa.heap.size wa w1) (h : wa.cell? a = some v) : w1.cell? a = some v := by
  rw [hb.cell (cell_lt h)]; exact h
theorem frozen_on {wa w1 : World} {a : Addr} {v : Value} {b : Bool} (hb : Below wa.heap.size wa w1) (hc : wa.cell? a = some v) (h : wa.frozen? a = b) : w1.frozen? a = b := by
  rw [hb.frozen (cell_lt hc)]; exact h
set_option maxHeartbeats 1000000 in
theorem sum_any (A : Option Addr) (n cap : Nat) (zs : List Int) (w : World) (hr : RdI w A zs) (hl : zs.length = n) (hn : n ≤ 1000) (hz : In64 zs) :
    Calls Try.prog 27 #[.slice A n cap] w fun e w' => e = .returned (.tuple #[.int .i64 (f64 zs.sum), .bool (fit64 zs.sum)]) ∧ Below w.heap.size w w' := by
  have HR := Lib.hid hr
  have HL := Lib.hid hl
  have HZ := Lib.hid hz
  clear hr hl hz
  have e00 : fh 0 = 0 := by decide
  have e01 : fl 0 = 0 := by decide
  go_enter Try.func27, Try.ntmps27
  go_wp2
  go_loopw [9] (fun i wr => ∃ k : Nat, k ≤ n ∧ i = .int .i64 k ∧ Below w.heap.size w wr ∧ wr.cell? ⟨w.heap.size, 0, none⟩ = some (.int .i64 (fh (zs.take k).sum)) ∧ wr.cell? ⟨w.heap.size, 1, none⟩ = some (.int .u64 (fl (zs.take k).sum)) ∧ wr.frozen? ⟨w.heap.size, 0, none⟩ = false ∧ wr.frozen? ⟨w.heap.size, 1, none⟩ = false) (fun i _ => n - (intOf i).toNat)
  case atStart =>
    refine ⟨0, Nat.zero_le _, rfl, by go_grown, ?_, ?_, ?_, ?_⟩
    · simp [go_sem, e00]
    · simp [go_sem, e01]
    · simp [go_sem]
    · simp [go_sem]
  case round =>
    obtain ⟨k, hk, rfl, hbel, hc0, hc1, hf0, hf1⟩ := hrel
    have hsb := sum_bd zs HZ.out k
    obtain ⟨s, hs⟩ : ∃ s, s = (zs.take k).sum := ⟨_, rfl⟩
    rw [← hs] at hc0 hc1 hsb
    have HS := Lib.hid hs
    clear hs e00 e01
    have hvs := vl_fit s (by omega) (by omega)
    by_cases hlt : k < n
    · have hk2 : k < zs.length := by have := HL.out; omega
      obtain ⟨v, hv⟩ : ∃ v, v = zs[k] := ⟨_, rfl⟩
      have hvb := HZ.out v (by rw [hv]; exact List.getElem_mem hk2)
      obtain ⟨ad, rfl, hc⟩ := HR.out k v (by rw [hv]; exact List.getElem?_eq_getElem hk2)
      have hcw : wr.cell? (ad.add k) = some (.int .i64 v) := cell_on hbel hc
      have hvv := vl_fit v (by omega) (by omega)
      have hnext : (zs.take (k + 1)).sum = s + v := by rw [HS.out, hv]; exact sum_next zs k hk2
      have hev : vl (fh s) (fl s) + vl (fh v) (fl v) = s + v := by rw [hvs, hvv]
      have HN := Lib.hid hnext
      have hz2 := cell_lt hc0
      clear hv hc hnext hvs hvv
      go_wp2_with fail
      go_region_with (first
        | (go_at_call 32; (refine (of_any _ _ (by omega) (by omega)).mono ?_); rintro e w1 ⟨rfl, hb1⟩; have h10 := cell_on hb1 hc0; have h11 := cell_on hb1 hc1; have g10 := frozen_on hb1 hc0 hf0; have g11 := frozen_on hb1 hc1 hf1)
        | (go_at_call 12; (refine (add_any _ _ _ _ _ (fh_bd _).1 (fh_bd _).2 (fl_bd _).1 (fl_bd _).2 (fh_bd _).1 (fh_bd _).2 (fl_bd _).1 (fl_bd _).2).mono ?_); rintro e w2 ⟨rfl, hb2⟩; rw [hev]; have h20 := cell_on hb2 h10; have h21 := cell_on hb2 h11; have g20 := frozen_on hb2 h10 g10; have g21 := frozen_on hb2 h11 g11))
      all_goals
        go_wp2
        go_roundw
        case rel =>
          refine ⟨k + 1, by omega, by go_num, ?_, ?_, ?_, ?_, ?_⟩
          · repeat' (first | (with_reducible exact Below.refl _ _) | (with_reducible refine below_call ?_ (by with_reducible assumption) (Nat.le_refl _)) | (with_reducible refine below_alloc ?_ _) | (with_reducible refine Below.drew ?_) | (with_reducible refine below_drewN ?_ _) | (with_reducible refine Below.setCell ?_ ?_ _) | go_size)
          · rw [HN.out]; simp [go_sem, h20]
          · rw [HN.out]; simp [go_sem, h21]
          · simp [go_sem, g20]
          · simp [go_sem, g21]
        case measure => simp [intOf]; omega
    · have e : k = n := by omega
      subst e
      have hs : s = zs.sum := by rw [HS.out, List.take_of_length_le (by have := HL.out; omega)]
      have HS2 := Lib.hid hs
      clear hs
      go_wp2_with (go_at_call 21; (refine (int_any _ _ _ (fh_bd _).1 (fh_bd _).2 (fl_bd _).1 (fl_bd _).2).mono ?_); rintro e w2 ⟨rfl, hb2⟩; rw [hvs])
      go_ret2
      refine ⟨by rw [HS2.out]; rfl, ?_⟩
      repeat' (first | (with_reducible exact Below.refl _ _) | (with_reducible refine below_call ?_ (by with_reducible assumption) (Nat.le_refl _)) | (with_reducible refine below_alloc ?_ _) | (with_reducible refine Below.drew ?_) | (with_reducible refine below_drewN ?_ _) | (with_reducible refine Below.setCell ?_ ?_ _) | go_size)
end Go.Proofs.Ytlnhfcfdjaecbaa.Wid
