/- Walks of layer 2: a text reversed; the text of a number. -/
import Derived.Test.YtlnhfcfdjaecbaaWidTxt
import Derived.Test.YtlnhfcfdjaecbaaWidDec
import Derived.Deep.LoopGhost
import Derived.Laws.IdiomStrings
import Derived.WalkSpells
namespace Go.Proofs.Ytlnhfcfdjaecbaa.Wid
open Go.RowKit
set_option linter.unusedVariables false

def ub (u : UInt8) : Value := .int .u8 (u.toNat : Int)
theorem own_below {w w1 : World} {base : Nat} {e : TypeId} {size : Nat} {v : Value} {n : Nat} {xs : List Value} (h : w.ownsRow base e size v n xs) (hb : Below w.heap.size w w1) : w1.ownsRow base e size v n xs := by
  obtain ⟨h1, h2⟩ := h
  refine ⟨h1, ?_⟩
  rcases h2 with h2 | ⟨g, cap, cur, rfl, hbase, hh, rest⟩
  · exact .inl h2
  · refine .inr ⟨g, cap, cur, rfl, hbase, ?_, rest⟩
    have hg : g < w.heap.size := by
      rcases Nat.lt_or_ge g w.heap.size with hlt | hge
      · exact hlt
      · rw [Array.getElem?_eq_none hge] at hh; cases hh
    rw [hb.block g hg]; exact hh
theorem u8_info : (Try.prog.info? 5).map (fun i => (i.zero, i.size, i.bytes)) = some (some (.int .u8 0), 1, 1) := by kernel_rfl
theorem u8s_u : Try.prog.underlying 57 = some (.slice 5) := by kernel_rfl
theorem u8_u : Try.prog.underlying 5 = some (.int .u8) := by kernel_rfl
theorem str_u : Try.prog.underlying 9 = some .string := by kernel_rfl
theorem conv_back (w : World) (a : Addr) (n cap : Nat) (l : List UInt8) (hn : l.length = n) (hc : ∀ j (hj : j < l.length), w.cell? (a.add j) = some (.int .u8 (l[j].toNat : Int))) :
    (convert 57 9 (.slice (some a) n cap)).run Try.prog w = .ok (.string ⟨l.toArray⟩) w := by
  subst hn
  exact run_convert_bytes_back w _ _ 5 a cap l u8s_u u8_u str_u hc
set_option maxHeartbeats 1000000 in
theorem reversed_any (g n cap : Nat) (ds : List UInt8) (w : World) (hl : ds.length = n) (hn : 0 < n) (hn2 : n ≤ 1000) (hg : g < w.heap.size)
    (hc : ∀ j u, ds[j]? = some u → w.cell? ⟨g, j, none⟩ = some (ub u)) :
    Calls Try.prog 38 #[.slice (some ⟨g, 0, none⟩) n cap] w fun e w' => e = .returned (.string ⟨ds.reverse.toArray⟩) ∧ Below w.heap.size w w' := by
  obtain ⟨i0, hi, hz0, hz1, hz2⟩ := info_parts u8_info
  have HL := Lib.hid hl
  have HC := Lib.hid hc
  clear hl hc
  go_enter Try.func38, Try.ntmps38
  go_wp2_with (at_make; refine wpList_make_own _ rfl _ _ 57 rfl w.heap.size 5 i0 (.int .u8 0) 1 u8s_u hi hz0 hz1 .i64 .i64 (n : Int) n rfl rfl rfl (by rw [hz2]; omega) (by unfold maxLen; omega) (Nat.le_refl _) ?_; intro w1 hown hgrow)
  go_loopw [3, 4] (fun v i wr => ∃ k : Nat, k ≤ n ∧ i = .int .i64 ((n : Int) - 1 - k) ∧ v = .slice (some ⟨w.heap.size, 0, none⟩) k n ∧ wr.ownsRow w.heap.size 5 1 (.slice (some ⟨w.heap.size, 0, none⟩) k n) k ((ds.reverse.take k).map ub) ∧ Below w.heap.size w wr) (fun _ i _ => (intOf i + 1).toNat)
  case atStart => exact ⟨0, Nat.zero_le _, by go_num, rfl, by simpa using hown, (Below.refl _ _).grown hgrow (Nat.le_refl _) (fun k h => by cases h)⟩
  case round =>
    obtain ⟨k, hk, rfl, rfl, hown', hbel⟩ := hrel
    by_cases hlt : k < n
    · obtain ⟨j, hj⟩ : ∃ j : Nat, j + (k + 1) = n := ⟨n - (k + 1), by omega⟩
      have e : ((n : Int) - 1 - k) = (j : Int) := by omega
      have hjl : j < ds.length := by have := HL.out; omega
      have hcell : wr.cell? ⟨g, j, none⟩ = some (.int .u8 (ds[j].toNat : Int)) := (hbel.cell (by exact hg)).trans (HC.out j ds[j] (List.getElem?_eq_getElem hjl))
      have hnext : (ds.reverse.take (k + 1)).map ub = (ds.reverse.take k).map ub ++ [ub ds[j]] := by
        have hk1 : k < ds.reverse.length := by have := HL.out; simp; omega
        rw [List.take_succ_eq_append_getElem hk1, List.map_append]
        have key : ds.length - 1 - k = j := by have := HL.out; omega
        simp [List.getElem_reverse, key]
      have HN := Lib.hid hnext
      have hjn : j < n := by omega
      obtain ⟨u, hu⟩ : ∃ u, u = ds[j] := ⟨_, rfl⟩
      rw [← hu] at hcell hnext
      have hu2 := u.toNat_lt
      have hnext2 := Lib.hid hnext
      clear hnext HN hu
      rw [e]
      have hj3 := Lib.hid hj
      clear hj e
      have hz := hbel.size
      go_wp2_with (at_builtin; go_must (refine wpList_append_fits _ rfl _ _ 57 rfl w.heap.size 5 i0 1 u8s_u hi hz1 w.heap.size k n _ rfl (hown'.alloc _) ⟨wr.heap.size, 0, none⟩ 1 1 [ub u] rfl rfl (cell_one_new _ _ _) (by intro x hx; simp at hx; subst hx; rfl) (by omega) ?_); intro w2 hown2 hgrow2)
      go_roundw
      case rel =>
        have h3 := hj3.out
        refine ⟨k + 1, by omega, by go_num, rfl, ?_, ?_⟩
        · rw [hnext2.out]; exact hown2
        · exact (hbel.alloc hz _).grown hgrow2 (by simp; omega) (fun x hx => by injection hx with hx; omega)
      case measure => first | (simp [intOf]; done) | (simp [intOf]; omega)
    · have e : k = n := by omega
      subst e
      have hconv := conv_back wr ⟨w.heap.size, 0, none⟩ k k ds.reverse (by simp; exact HL.out) (fun j hj => by
        have h := hown'.cells (g := w.heap.size) rfl j (ub ds.reverse[j])
        rw [List.take_of_length_le (by simp; have := HL.out; omega)] at h
        exact h (by rw [List.getElem?_map, List.getElem?_eq_getElem hj]; rfl))
      have HB := Lib.hid hbel
      clear hown' hbel
      go_wp2
      go_ret
      exact ⟨rfl, HB.out⟩
end Go.Proofs.Ytlnhfcfdjaecbaa.Wid
