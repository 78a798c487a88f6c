/- The walk of the document's own sum of a list. Printed by wip/gen/wid6.py. -/
import Derived.Test.YtlnhfcfdjaecbaaWidSum
import Derived.Test.YtlnhfcfdjaecbaaGrow
namespace Go.Proofs.Ytlnhfcfdjaecbaa.Wid
open Go.RowKit Lw
set_option linter.unusedVariables false
theorem blk_set {w : World} {b : Nat} {c : Array Value} {t : TypeId} {fr : Nat × Nat} (h : w.heap[b]? = some (.cells c t fr)) (i : Nat) (v : Value) : (w.setCell ⟨b, i, none⟩ v).heap[b]? = some (.cells (c.setIfInBounds i v) t fr) := by
  simp [World.setCell, Array.getElem?_modify, h]
theorem blk_frozen {w : World} {b : Nat} {c : Array Value} {t : TypeId} (h : w.heap[b]? = some (.cells c t (0, 0))) (i : Nat) : w.frozen? ⟨b, i, none⟩ = false := by
  simp [World.frozen?, h]
theorem blk_lt {w : World} {b : Nat} {o : Obj} (h : w.heap[b]? = some o) : b < w.heap.size := by
  rcases Nat.lt_or_ge b w.heap.size with h1 | h1
  · exact h1
  · rw [Array.getElem?_eq_none h1] at h; cases h
theorem blk_grow {w : World} {b : Nat} {o : Obj} (h : w.heap[b]? = some o) (bs : Array Obj) (d : Nat) : (grow w bs d).heap[b]? = some o := by
  rw [(grow_below w bs d).block b (blk_lt h)]; exact h
theorem blk_drew {w : World} {b : Nat} {o : Obj} (h : w.heap[b]? = some o) : w.drew.heap[b]? = some o := h
def dcells (z : Int) : Array Value := #[Value.int .i64 (dg z 0), Value.int .i64 (dg z 1), Value.int .i64 (dg z 2), Value.int .i64 (dg z 3), Value.int .i64 (dg z 4), Value.int .i64 (dg z 5), Value.int .i64 (dg z 6), Value.int .i64 (dg z 7), Value.int .i64 (dg z 8), Value.int .i64 (dg z 9)]
def LBlk (w : World) (b : Nat) (z : Int) : Prop := w.heap[b]? = some (.cells (dcells z) 30 (0, 0))
theorem LBlk.set {w : World} {b : Nat} {z : Int} (h : LBlk w b z) (y : Int) : LBlk (((((((((((w).setCell ⟨b, 0, none⟩ (.int .i64 (dg y 0))).setCell ⟨b, 1, none⟩ (.int .i64 (dg y 1))).setCell ⟨b, 2, none⟩ (.int .i64 (dg y 2))).setCell ⟨b, 3, none⟩ (.int .i64 (dg y 3))).setCell ⟨b, 4, none⟩ (.int .i64 (dg y 4))).setCell ⟨b, 5, none⟩ (.int .i64 (dg y 5))).setCell ⟨b, 6, none⟩ (.int .i64 (dg y 6))).setCell ⟨b, 7, none⟩ (.int .i64 (dg y 7))).setCell ⟨b, 8, none⟩ (.int .i64 (dg y 8))).setCell ⟨b, 9, none⟩ (.int .i64 (dg y 9))) b y := by
  have h0 : w.heap[b]? = some (.cells (dcells z) 30 (0, 0)) := h
  have h1 := blk_set h0 0 (.int .i64 (dg y 0))
  have h2 := blk_set h1 1 (.int .i64 (dg y 1))
  have h3 := blk_set h2 2 (.int .i64 (dg y 2))
  have h4 := blk_set h3 3 (.int .i64 (dg y 3))
  have h5 := blk_set h4 4 (.int .i64 (dg y 4))
  have h6 := blk_set h5 5 (.int .i64 (dg y 5))
  have h7 := blk_set h6 6 (.int .i64 (dg y 6))
  have h8 := blk_set h7 7 (.int .i64 (dg y 7))
  have h9 := blk_set h8 8 (.int .i64 (dg y 8))
  have h10 := blk_set h9 9 (.int .i64 (dg y 9))
  have e : (((((((((((dcells z).setIfInBounds 0 (.int .i64 (dg y 0))).setIfInBounds 1 (.int .i64 (dg y 1))).setIfInBounds 2 (.int .i64 (dg y 2))).setIfInBounds 3 (.int .i64 (dg y 3))).setIfInBounds 4 (.int .i64 (dg y 4))).setIfInBounds 5 (.int .i64 (dg y 5))).setIfInBounds 6 (.int .i64 (dg y 6))).setIfInBounds 7 (.int .i64 (dg y 7))).setIfInBounds 8 (.int .i64 (dg y 8))).setIfInBounds 9 (.int .i64 (dg y 9))) = dcells y := by simp [dcells]
  rw [e] at h10
  exact h10
set_option maxRecDepth 100000 in
set_option maxHeartbeats 4000000 in
theorem rsum_any (A : Option Addr) (n cap : Nat) (zs : List Int) (w : World) (hr : RdI w A zs) (hl : zs.length = n) (hn : n ≤ 1000) (hz : In64 zs) :
    Calls Try.prog 28 #[.slice A n cap] w fun e w' => e = .returned (.tuple #[.int .i64 (f64 zs.sum), .bool (fit64 zs.sum)]) ∧ Below w.heap.size w w' := by
  have HR := Lib.hid hr
  have HL := Lib.hid hl
  have HZ := Lib.hid hz
  clear hr hl hz
  go_enter Try.func28, Try.ntmps28
  go_wp2
  go_loopw [5] (fun i wr => ∃ k : Nat, k ≤ n ∧ i = .int .i64 k ∧ Below w.heap.size w wr ∧ LBlk wr w.heap.size (zs.take k).sum) (fun i _ => n - (intOf i).toNat)
  case atStart =>
    exact ⟨0, Nat.zero_le _, rfl, by go_grown, by simpa [LBlk, dcells, dg] using heap_alloc_new w _⟩
  case round =>
    obtain ⟨k, hk, rfl, hbel, hblk⟩ := hrel
    have hsb := sum_bd zs HZ.out k
    obtain ⟨s, hs⟩ : ∃ s, s = (zs.take k).sum := ⟨_, rfl⟩
    rw [← hs] at hblk hsb
    have HS := Lib.hid hs
    clear hs
    have k0 : wr.cell? ⟨w.heap.size, 0, none⟩ = some (.int .i64 (dg s 0)) := cell_of_row _ _ _ _ _ _ hblk
    have f0 := blk_frozen hblk 0
    have k1 : wr.cell? ⟨w.heap.size, 1, none⟩ = some (.int .i64 (dg s 1)) := cell_of_row _ _ _ _ _ _ hblk
    have f1 := blk_frozen hblk 1
    have k2 : wr.cell? ⟨w.heap.size, 2, none⟩ = some (.int .i64 (dg s 2)) := cell_of_row _ _ _ _ _ _ hblk
    have f2 := blk_frozen hblk 2
    have k3 : wr.cell? ⟨w.heap.size, 3, none⟩ = some (.int .i64 (dg s 3)) := cell_of_row _ _ _ _ _ _ hblk
    have f3 := blk_frozen hblk 3
    have k4 : wr.cell? ⟨w.heap.size, 4, none⟩ = some (.int .i64 (dg s 4)) := cell_of_row _ _ _ _ _ _ hblk
    have f4 := blk_frozen hblk 4
    have k5 : wr.cell? ⟨w.heap.size, 5, none⟩ = some (.int .i64 (dg s 5)) := cell_of_row _ _ _ _ _ _ hblk
    have f5 := blk_frozen hblk 5
    have k6 : wr.cell? ⟨w.heap.size, 6, none⟩ = some (.int .i64 (dg s 6)) := cell_of_row _ _ _ _ _ _ hblk
    have f6 := blk_frozen hblk 6
    have k7 : wr.cell? ⟨w.heap.size, 7, none⟩ = some (.int .i64 (dg s 7)) := cell_of_row _ _ _ _ _ _ hblk
    have f7 := blk_frozen hblk 7
    have k8 : wr.cell? ⟨w.heap.size, 8, none⟩ = some (.int .i64 (dg s 8)) := cell_of_row _ _ _ _ _ _ hblk
    have f8 := blk_frozen hblk 8
    have k9 : wr.cell? ⟨w.heap.size, 9, none⟩ = some (.int .i64 (dg s 9)) := cell_of_row _ _ _ _ _ _ hblk
    have f9 := blk_frozen hblk 9
    have hzlt := blk_lt hblk
    have HB := Lib.hid hblk
    clear hblk
    by_cases hlt : k < n
    · have hk2 : k < zs.length := by have := HL.out; omega
      obtain ⟨v, hv⟩ : ∃ v, v = zs[k] := ⟨_, rfl⟩
      have hvb := HZ.out v (by rw [hv]; exact List.getElem_mem hk2)
      obtain ⟨ad, rfl, hc⟩ := HR.out k v (by rw [hv]; exact List.getElem?_eq_getElem hk2)
      have hcw : wr.cell? (ad.add k) = some (.int .i64 v) := cell_on hbel hc
      have hcl := cell_lt hcw
      have hcg : ∀ bs d, (grow wr bs d).cell? (ad.add k) = some (.int .i64 v) := fun bs d => cell_on (grow_below wr bs d) hcw
      have hnext : (zs.take (k + 1)).sum = s + v := by rw [HS.out, hv]; exact sum_next zs k hk2
      have HN := Lib.hid hnext
      clear hv hc hnext
      go_wp2_with fail
      go_region_with (first
        | (go_at_call 20; ((with_reducible refine (rofint_any v _ hvb.1 hvb.2).mono ?_)); rintro e w' ⟨rfl, hb⟩; obtain ⟨bs, d, rfl⟩ := below_grow hb; clear hb)
        | (go_at_call 15; ((with_reducible refine (rplus_any s v _ _ _ _ _ _ _ _ _ _ _ _ _ _ _ _ _ _ _ _ _ rfl rfl).mono ?_)); rintro e w' ⟨rfl, hb⟩; obtain ⟨bs, d, rfl⟩ := below_grow hb; clear hb))
      all_goals
        go_wp2
        go_roundw
        case rel =>
          refine ⟨k + 1, by omega, by go_num, ?_, by rw [HN.out]; exact blk_grow (LBlk.set HB.out (s + v)) _ _⟩
          repeat' (first | (with_reducible exact Below.refl _ _) | (with_reducible assumption) | (with_reducible refine below_over ?_ _ _) | (with_reducible refine Lw.below_alloc ?_ _) | (with_reducible refine Below.drew ?_) | (with_reducible refine below_drewN ?_ _) | (with_reducible refine Below.setCell ?_ ?_ _) | go_size)
        case measure => simp [intOf]; omega
    · have e : k = n := by omega
      subst e
      have hs : s = zs.sum := by rw [HS.out, List.take_of_length_le (by have := HL.out; omega)]
      have HS2 := Lib.hid hs
      clear hs
      go_wp2_with (go_at_call 22; ((with_reducible refine (rint_any s _ _ _ _ _ _ _ _ _ _ _ rfl (by omega) (by omega)).mono ?_)); rintro e w' ⟨rfl, hb⟩; obtain ⟨bs, d, rfl⟩ := below_grow hb; clear hb)
      go_ret2
      refine ⟨by rw [HS2.out]; rfl, ?_⟩
      repeat' (first | (with_reducible exact Below.refl _ _) | (with_reducible assumption) | (with_reducible refine below_over ?_ _ _) | (with_reducible refine Lw.below_alloc ?_ _) | (with_reducible refine Below.drew ?_) | (with_reducible refine below_drewN ?_ _) | (with_reducible refine Below.setCell ?_ ?_ _) | go_size)
end Go.Proofs.Ytlnhfcfdjaecbaa.Wid
