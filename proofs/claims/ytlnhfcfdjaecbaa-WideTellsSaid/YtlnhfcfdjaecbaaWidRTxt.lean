/- The walk of the document's own text of a number. Printed by wip/gen/wid8.py. -/
import Derived.Test.YtlnhfcfdjaecbaaWidRSum
import Derived.Test.YtlnhfcfdjaecbaaWidDec
import Derived.Test.YtlnhfcfdjaecbaaWidTxt2
import Derived.Laws.IdiomStrings
import Derived.WalkSpells
namespace Go.Proofs.Ytlnhfcfdjaecbaa.Wid
open Go.RowKit Lw
set_option linter.unusedVariables false
def rr (m : Int) (i : Nat) : Int := m / 65536 ^ i % 10
theorem rr_bd (m : Int) (i : Nat) : 0 ≤ rr m i ∧ rr m i ≤ 9 := by unfold rr; omega
theorem rr_0 (m : Int) : rr m 0 = m % 10 := by unfold rr; rw [Int.pow_zero, Int.ediv_one]
theorem rr_10 (m : Int) (h0 : 0 ≤ m) (h1 : m < 1461501637330902918203684832716283019655932542976) : rr m 10 = 0 := by
  unfold rr; rw [show (65536 : Int) ^ 10 = 1461501637330902918203684832716283019655932542976 from by decide, Int.ediv_eq_zero_of_lt h0 h1]; rfl
theorem div_succ (m : Int) (i : Nat) : m / 65536 ^ (i + 1) = m / 65536 ^ i / 65536 := by
  rw [Int.pow_succ, Int.ediv_ediv_of_nonneg (Int.le_of_lt (b_pos i))]
theorem div_ten (m : Int) (i : Nat) : m / 10 / 65536 ^ i = m / 65536 ^ i / 10 := by
  rw [Int.ediv_ediv_of_nonneg (by decide), Int.mul_comm, ← Int.ediv_ediv_of_nonneg (Int.le_of_lt (b_pos i))]
theorem ten_mod (m : Int) (i : Nat) : (rr m (i + 1) * 65536 + dg m i) % 10 = rr m i := by
  unfold rr dg; rw [div_succ]; omega
theorem ten_div (m : Int) (i : Nat) : (rr m (i + 1) * 65536 + dg m i) / 10 = dg (m / 10) i := by
  unfold rr dg; rw [div_succ, div_ten]; omega
def txn (N : Nat) : List UInt8 := if N = 0 then [48] else (ds N).reverse
theorem conv_one (v : Int) (h0 : 0 ≤ v) (h1 : v ≤ 200) : ∀ (X : World) (g : Nat), g = X.heap.size → (convert 57 9 (.slice (some ⟨g, 0, none⟩) 1 1)).run Try.prog (X.alloc (.cells #[.int .u8 (48 + v)] 5)) = .ok (.string ⟨#[UInt8.ofNat (48 + v.toNat)]⟩) (X.alloc (.cells #[.int .u8 (48 + v)] 5)) := by
  intro X g hg
  subst hg
  exact conv_back _ _ 1 1 [UInt8.ofNat (48 + v.toNat)] rfl (fun j hj => by
    have : j = 0 := by simpa using hj
    subst this
    simp [Addr.add, go_sem]
    omega)
def strlen : Value → Nat | .string s => s.size | _ => 0
theorem txn_len (N : Nat) (h : N < 1461501637330902918203684832716283019655932542976) : (txn N).length ≤ 49 := by
  unfold txn
  split
  · simp
  · rw [List.length_reverse]
    exact ds_len 49 N (by
      have : (10 : Nat) ^ 49 = 10000000000000000000000000000000000000000000000000 := by decide
      omega)
theorem LBlk.down {w : World} {b : Nat} {z : Int} (h : LBlk w b z) (y : Int) (x0 x1 x2 x3 x4 x5 x6 x7 x8 x9 : Int) (hx : [x0, x1, x2, x3, x4, x5, x6, x7, x8, x9] = dl y) : LBlk (((((((((((w).setCell ⟨b, 9, none⟩ (.int .i64 x9)).setCell ⟨b, 8, none⟩ (.int .i64 x8)).setCell ⟨b, 7, none⟩ (.int .i64 x7)).setCell ⟨b, 6, none⟩ (.int .i64 x6)).setCell ⟨b, 5, none⟩ (.int .i64 x5)).setCell ⟨b, 4, none⟩ (.int .i64 x4)).setCell ⟨b, 3, none⟩ (.int .i64 x3)).setCell ⟨b, 2, none⟩ (.int .i64 x2)).setCell ⟨b, 1, none⟩ (.int .i64 x1)).setCell ⟨b, 0, none⟩ (.int .i64 x0)) b y := by
  have h0 : w.heap[b]? = some (.cells (dcells z) 30 (0, 0)) := h
  have h1 := blk_set h0 9 (.int .i64 x9)
  have h2 := blk_set h1 8 (.int .i64 x8)
  have h3 := blk_set h2 7 (.int .i64 x7)
  have h4 := blk_set h3 6 (.int .i64 x6)
  have h5 := blk_set h4 5 (.int .i64 x5)
  have h6 := blk_set h5 4 (.int .i64 x4)
  have h7 := blk_set h6 3 (.int .i64 x3)
  have h8 := blk_set h7 2 (.int .i64 x2)
  have h9 := blk_set h8 1 (.int .i64 x1)
  have h10 := blk_set h9 0 (.int .i64 x0)
  simp only [dl, List.cons.injEq, and_true] at hx
  obtain ⟨e0, e1, e2, e3, e4, e5, e6, e7, e8, e9⟩ := hx
  have e : (((((((((((dcells z).setIfInBounds 9 (.int .i64 x9)).setIfInBounds 8 (.int .i64 x8)).setIfInBounds 7 (.int .i64 x7)).setIfInBounds 6 (.int .i64 x6)).setIfInBounds 5 (.int .i64 x5)).setIfInBounds 4 (.int .i64 x4)).setIfInBounds 3 (.int .i64 x3)).setIfInBounds 2 (.int .i64 x2)).setIfInBounds 1 (.int .i64 x1)).setIfInBounds 0 (.int .i64 x0)) = dcells y := by simp [dcells, e0, e1, e2, e3, e4, e5, e6, e7, e8, e9]
  rw [e] at h10
  exact h10
theorem dg_zero' (j : Nat) : dg 0 j = 0 := by unfold dg; simp
theorem all_zero (m : Nat) (hm : m < 1461501637330902918203684832716283019655932542976) (y : Int) (hy : y = (m : Int) / 10) (h : dl y = [0, 0, 0, 0, 0, 0, 0, 0, 0, 0]) : m / 10 = 0 := by
  have h2 : dl y = dl 0 := by rw [h]; simp only [dl, dg_zero']
  have := dl_inj h2 (by omega) (by omega) (by decide) (by decide)
  omega
theorem blk_alloc {w : World} {b : Nat} {z : Int} (h : LBlk w b z) (o : Obj) : LBlk (w.alloc o) b z := by
  unfold LBlk at *
  rw [Below.heap_alloc _ _ _ (blk_lt h)]; exact h
theorem nil_app (S : List UInt8) : (({ data := #[] } : ByteArray) ++ { data := S.toArray }) = ⟨S.toArray⟩ := by
  apply ByteArray.ext
  simp [ByteArray.data_append]
theorem bytes_app (u : UInt8) (S : List UInt8) : (({ data := #[u] } : ByteArray) ++ { data := S.toArray }) = ⟨(u :: S).toArray⟩ := by
  apply ByteArray.ext
  simp [ByteArray.data_append]
theorem cons_bytes (m : Nat) (S : List UInt8) : Value.string ({ data := #[48 + UInt8.ofNat (rr m 0).toNat] } ++ { data := S.toArray }) = .string ⟨(UInt8.ofNat (48 + m % 10) :: S).toArray⟩ := by
  rw [bytes_app, rr_0, show ((m : Int) % 10).toNat = m % 10 by omega, UInt8.ofNat_add]; rfl
theorem len_less (m : Nat) (S : List UInt8) (h : S.length ≤ 49) : 60 - strlen (Value.string ({ data := #[48 + UInt8.ofNat (rr m 0).toNat] } ++ { data := S.toArray })) < 60 - strlen (Value.string { data := S.toArray }) := by
  rw [cons_bytes]
  have e1 : strlen (Value.string ⟨(UInt8.ofNat (48 + m % 10) :: S).toArray⟩) = S.length + 1 := by simp [strlen, ByteArray.size]
  have e2 : strlen (Value.string ⟨S.toArray⟩) = S.length := by simp [strlen, ByteArray.size]
  rw [e1, e2]; omega
def TS (w : World) (N : Nat) (s z : Value) (wr : World) : Prop := ∃ (m : Nat) (S : List UInt8) (b : Bool), s = .string ⟨S.toArray⟩ ∧ z = .bool b ∧ m < 1461501637330902918203684832716283019655932542976 ∧ LBlk wr w.heap.size m ∧ Below w.heap.size w wr ∧ (S = [] → m = N ∧ b = false) ∧ (S ≠ [] → (ds m).reverse ++ S = txn N ∧ b = decide (m = 0))
theorem TS.next {w : World} {N m : Nat} {S : List UInt8} (hm : m < 1461501637330902918203684832716283019655932542976) (h1 : S = [] → m = N) (h2 : S ≠ [] → (ds m).reverse ++ S = txn N) (hgo : S ≠ [] → m ≠ 0) {wr : World} {s z : Value} (b' : Bool)
    (hs : s = .string ⟨(UInt8.ofNat (48 + m % 10) :: S).toArray⟩) (hz : z = .bool b') (hb : b' = decide (m / 10 = 0)) (hblk : LBlk wr w.heap.size ((m : Int) / 10)) (hbel : Below w.heap.size w wr) : TS w N s z wr := by
  refine ⟨m / 10, _, b', hs, hz, by omega, by simpa using hblk, hbel, fun h => by simp at h, fun _ => ⟨?_, hb⟩⟩
  by_cases hS : S = []
  · subst hS
    obtain rfl := h1 rfl
    by_cases h0 : m = 0
    · subst h0; simp [ds_zero, txn]
    · unfold txn; rw [if_neg h0, ds_step m h0]; simp
  · have h := h2 hS
    rw [← h, ds_step m (hgo hS)]; simp
theorem rbelow_dl (z : Int) (b : Bool) (w : World) (hb : decide (z < 0) = b) (z0 : -730750818665451459101842416358141509827966271488 ≤ z) (z1 : z < 730750818665451459101842416358141509827966271488) :
    Calls Try.prog 23 #[.agg #[.int .i64 (dg z 0), .int .i64 (dg z 1), .int .i64 (dg z 2), .int .i64 (dg z 3), .int .i64 (dg z 4), .int .i64 (dg z 5), .int .i64 (dg z 6), .int .i64 (dg z 7), .int .i64 (dg z 8), .int .i64 (dg z 9)]] w fun e w' => e = .returned (.bool b) ∧ Below w.heap.size w w' := by
  have h := below_dg z z0 z1
  refine (rbelow_any _ _ _ _ _ _ _ _ _ _ w).mono ?_
  rintro e w' ⟨he, hw⟩
  rw [h, hb] at he
  exact ⟨he, hw⟩
set_option maxRecDepth 100000 in
set_option maxHeartbeats 8000000 in
theorem rtext_pos (z : Int) (x0 x1 x2 x3 x4 x5 x6 x7 x8 x9 : Int) (w : World) (hx : [x0, x1, x2, x3, x4, x5, x6, x7, x8, x9] = dl z) (z0 : -730750818665451459101842416358141509827966271488 ≤ z) (z1 : z < 730750818665451459101842416358141509827966271488) (hneg : 0 ≤ z) :
    Calls Try.prog 25 #[.agg #[.int .i64 (x0), .int .i64 (x1), .int .i64 (x2), .int .i64 (x3), .int .i64 (x4), .int .i64 (x5), .int .i64 (x6), .int .i64 (x7), .int .i64 (x8), .int .i64 (x9)]] w fun e w' => e = .returned (.string ⟨(tx z).toArray⟩) ∧ Below w.heap.size w w' := by
  simp only [dl, List.cons.injEq, and_true] at hx
  obtain ⟨rfl, rfl, rfl, rfl, rfl, rfl, rfl, rfl, rfl, rfl⟩ := hx
  obtain ⟨N, hN⟩ : ∃ N : Nat, z = N := ⟨z.toNat, by omega⟩
  have hN1 : N < 1461501637330902918203684832716283019655932542976 := by omega
  have htx : tx z = txn N := by
    have h1 : z.natAbs = N := by omega
    unfold tx txn; rw [h1, if_neg (by omega)]
    by_cases h0 : N = 0
    · rw [if_pos (by omega), if_pos h0]; rfl
    · rw [if_neg (by omega), if_neg h0]; rfl
  have HTX := Lib.hid htx
  have HLEN := Lib.hid (txn_len N hN1)
  have HZ := Lib.hid (And.intro z0 z1)
  have HD : Hid (decide (z < 0) = false) := by simp only [Hid]; rw [decide_eq_false_iff_not]; omega
  have HN1 := Lib.hid hN1
  clear htx z0 z1 hN1
  subst hN
  go_enter Try.func25, Try.ntmps25
  go_wp2_with (go_at_call 23; ((with_reducible refine (rbelow_dl N false _ HD.out HZ.out.1 HZ.out.2).mono ?_)); rintro e w' ⟨rfl, hb⟩; obtain ⟨bs, d, rfl⟩ := below_grow hb; clear hb)
  go_loopw [4, 5] (fun s z wr => TS w N s z wr) (fun s _ _ => 60 - strlen s)
  case atStart =>
    refine ⟨N, [], false, rfl, rfl, HN1.out, ?_, ?_, fun _ => ⟨rfl, rfl⟩, fun h => absurd rfl h⟩
    · exact blk_grow (by simpa [LBlk, dcells] using heap_alloc_new w _) _ _
    · repeat' (first | (with_reducible exact Below.refl _ _) | (with_reducible assumption) | (with_reducible refine below_over ?_ _ _) | (with_reducible refine Lw.below_alloc ?_ _) | (with_reducible refine Below.drew ?_) | (with_reducible refine below_drewN ?_ _) | (with_reducible refine Below.setCell ?_ ?_ _) | go_size)
  case round =>
    obtain ⟨m, S, b, rfl, rfl, hm, hblk, hbel, h1, h2⟩ := hrel
    have k0 : wr.cell? ⟨w.heap.size, 0, none⟩ = some (.int .i64 (dg m 0)) := cell_of_row _ _ _ _ _ _ hblk
    have f0 := blk_frozen hblk 0
    have k1 : wr.cell? ⟨w.heap.size, 1, none⟩ = some (.int .i64 (dg m 1)) := cell_of_row _ _ _ _ _ _ hblk
    have f1 := blk_frozen hblk 1
    have k2 : wr.cell? ⟨w.heap.size, 2, none⟩ = some (.int .i64 (dg m 2)) := cell_of_row _ _ _ _ _ _ hblk
    have f2 := blk_frozen hblk 2
    have k3 : wr.cell? ⟨w.heap.size, 3, none⟩ = some (.int .i64 (dg m 3)) := cell_of_row _ _ _ _ _ _ hblk
    have f3 := blk_frozen hblk 3
    have k4 : wr.cell? ⟨w.heap.size, 4, none⟩ = some (.int .i64 (dg m 4)) := cell_of_row _ _ _ _ _ _ hblk
    have f4 := blk_frozen hblk 4
    have k5 : wr.cell? ⟨w.heap.size, 5, none⟩ = some (.int .i64 (dg m 5)) := cell_of_row _ _ _ _ _ _ hblk
    have f5 := blk_frozen hblk 5
    have k6 : wr.cell? ⟨w.heap.size, 6, none⟩ = some (.int .i64 (dg m 6)) := cell_of_row _ _ _ _ _ _ hblk
    have f6 := blk_frozen hblk 6
    have k7 : wr.cell? ⟨w.heap.size, 7, none⟩ = some (.int .i64 (dg m 7)) := cell_of_row _ _ _ _ _ _ hblk
    have f7 := blk_frozen hblk 7
    have k8 : wr.cell? ⟨w.heap.size, 8, none⟩ = some (.int .i64 (dg m 8)) := cell_of_row _ _ _ _ _ _ hblk
    have f8 := blk_frozen hblk 8
    have k9 : wr.cell? ⟨w.heap.size, 9, none⟩ = some (.int .i64 (dg m 9)) := cell_of_row _ _ _ _ _ _ hblk
    have f9 := blk_frozen hblk 9
    have hzlt := blk_lt hblk
    have HB := Lib.hid hblk
    have HM := Lib.hid hm
    clear hm
    have H1 := Lib.hid h1
    have H2 := Lib.hid h2
    clear hblk h1 h2
    by_cases hgo : S = [] ∨ m ≠ 0
    · have hbS : b = false := by
        by_cases hS : S = []
        · exact (H1.out hS).2
        · rw [(H2.out hS).2]; simp; rcases hgo with h | h
          · exact absurd h hS
          · exact h
      have K1 := Lib.hid (fun hS : S = [] => (H1.out hS).1)
      have K2 := Lib.hid (fun hS : S ≠ [] => (H2.out hS).1)
      subst hbS
      clear H1 H2
      obtain ⟨y, hy⟩ : ∃ y : Int, y = (m : Int) / 10 := ⟨_, rfl⟩
      have r0 := rr_bd m 0
      have d0 := dg_bd m 0
      have p0 := ten_mod m 0
      have q0 := ten_div m 0
      rw [← hy] at q0
      have r1 := rr_bd m 1
      have d1 := dg_bd m 1
      have p1 := ten_mod m 1
      have q1 := ten_div m 1
      rw [← hy] at q1
      have r2 := rr_bd m 2
      have d2 := dg_bd m 2
      have p2 := ten_mod m 2
      have q2 := ten_div m 2
      rw [← hy] at q2
      have r3 := rr_bd m 3
      have d3 := dg_bd m 3
      have p3 := ten_mod m 3
      have q3 := ten_div m 3
      rw [← hy] at q3
      have r4 := rr_bd m 4
      have d4 := dg_bd m 4
      have p4 := ten_mod m 4
      have q4 := ten_div m 4
      rw [← hy] at q4
      have r5 := rr_bd m 5
      have d5 := dg_bd m 5
      have p5 := ten_mod m 5
      have q5 := ten_div m 5
      rw [← hy] at q5
      have r6 := rr_bd m 6
      have d6 := dg_bd m 6
      have p6 := ten_mod m 6
      have q6 := ten_div m 6
      rw [← hy] at q6
      have r7 := rr_bd m 7
      have d7 := dg_bd m 7
      have p7 := ten_mod m 7
      have q7 := ten_div m 7
      rw [← hy] at q7
      have r8 := rr_bd m 8
      have d8 := dg_bd m 8
      have p8 := ten_mod m 8
      have q8 := ten_div m 8
      rw [← hy] at q8
      have r9 := rr_bd m 9
      have d9 := dg_bd m 9
      have p9 := ten_mod m 9
      have q9 := ten_div m 9
      rw [← hy] at q9
      rw [rr_10 m (by omega) (by have := HM.out; omega), Int.zero_mul, Int.zero_add] at p9 q9
      simp only [Nat.reduceAdd] at p0 q0 p1 q1 p2 q2 p3 q3 p4 q4 p5 q5 p6 q6 p7 q7 p8 q8
      have HY := Lib.hid hy
      have hSl : S.length ≤ 49 := by
        by_cases hS : S = []
        · subst hS; simp
        · have h := congrArg List.length (K2.out hS)
          have := HLEN.out
          simp at h; omega
      have hconv := conv_one (rr m 0) (rr_bd m 0).1 (by have := (rr_bd m 0).2; omega)
      clear hy
      go_wp2
      by_cases n9 : dg y 9 = 0
      · have z9 := n9
        by_cases n8 : dg y 8 = 0
        · have z8 := n8
          by_cases n7 : dg y 7 = 0
          · have z7 := n7
            by_cases n6 : dg y 6 = 0
            · have z6 := n6
              by_cases n5 : dg y 5 = 0
              · have z5 := n5
                by_cases n4 : dg y 4 = 0
                · have z4 := n4
                  by_cases n3 : dg y 3 = 0
                  · have z3 := n3
                    by_cases n2 : dg y 2 = 0
                    · have z2 := n2
                      by_cases n1 : dg y 1 = 0
                      · have z1 := n1
                        by_cases n0 : dg y 0 = 0
                        · have z0 := n0
                          rw [z0] at q0
                          rw [z1] at q1
                          rw [z2] at q2
                          rw [z3] at q3
                          rw [z4] at q4
                          rw [z5] at q5
                          rw [z6] at q6
                          rw [z7] at q7
                          rw [z8] at q8
                          rw [z9] at q9
                          refine wp_loop_rounds 11 ?_
                          iterate 10 (rw [rounds_succ]; go_wp2)
                          rw [rounds_succ]; go_wp2
                          go_roundw
                          case rel =>
                            refine TS.next HM.out K1.out K2.out (by intro hS; rcases hgo with h | h; exact absurd h hS; exact h) _ (cons_bytes m S) rfl ?_ ?_ ?_
                            · refine (decide_eq_true ?_).symm; have := all_zero m HM.out y HY.out (by simp only [dl, z0, z1, z2, z3, z4, z5, z6, z7, z8, z9]); exact this
                            · rw [← HY.out]; exact blk_alloc (LBlk.down HB.out y 0 0 0 0 0 0 0 0 0 0 (by simp only [dl, z0, z1, z2, z3, z4, z5, z6, z7, z8, z9])) _
                            · repeat' (first | (with_reducible exact Below.refl _ _) | (with_reducible assumption) | (with_reducible refine below_over ?_ _ _) | (with_reducible refine Lw.below_alloc ?_ _) | (with_reducible refine Below.drew ?_) | (with_reducible refine below_drewN ?_ _) | (with_reducible refine Below.setCell ?_ ?_ _) | go_size)
                          case measure => exact len_less m S hSl
                        · rw [z1] at q1
                          rw [z2] at q2
                          rw [z3] at q3
                          rw [z4] at q4
                          rw [z5] at q5
                          rw [z6] at q6
                          rw [z7] at q7
                          rw [z8] at q8
                          rw [z9] at q9
                          have t0 : (dg y 0 == 0) = false := by rw [beq_eq_false_iff_ne]; exact n0
                          refine wp_loop_rounds 11 ?_
                          iterate 10 (rw [rounds_succ]; go_wp2)
                          rw [rounds_succ]; go_wp2
                          go_roundw
                          case rel =>
                            refine TS.next HM.out K1.out K2.out (by intro hS; rcases hgo with h | h; exact absurd h hS; exact h) _ (cons_bytes m S) rfl ?_ ?_ ?_
                            · refine (decide_eq_false fun h => n0 ?_).symm; rw [HY.out, show (m : Int) / 10 = 0 by omega]; exact dg_zero' 0
                            · rw [← HY.out]; exact blk_alloc (LBlk.down HB.out y (dg y 0) 0 0 0 0 0 0 0 0 0 (by simp only [dl, z1, z2, z3, z4, z5, z6, z7, z8, z9])) _
                            · repeat' (first | (with_reducible exact Below.refl _ _) | (with_reducible assumption) | (with_reducible refine below_over ?_ _ _) | (with_reducible refine Lw.below_alloc ?_ _) | (with_reducible refine Below.drew ?_) | (with_reducible refine below_drewN ?_ _) | (with_reducible refine Below.setCell ?_ ?_ _) | go_size)
                          case measure => exact len_less m S hSl
                      · rw [z2] at q2
                        rw [z3] at q3
                        rw [z4] at q4
                        rw [z5] at q5
                        rw [z6] at q6
                        rw [z7] at q7
                        rw [z8] at q8
                        rw [z9] at q9
                        have t1 : (dg y 1 == 0) = false := by rw [beq_eq_false_iff_ne]; exact n1
                        refine wp_loop_rounds 11 ?_
                        iterate 10 (rw [rounds_succ]; go_wp2)
                        rw [rounds_succ]; go_wp2
                        go_roundw
                        case rel =>
                          refine TS.next HM.out K1.out K2.out (by intro hS; rcases hgo with h | h; exact absurd h hS; exact h) _ (cons_bytes m S) rfl ?_ ?_ ?_
                          · refine (decide_eq_false fun h => n1 ?_).symm; rw [HY.out, show (m : Int) / 10 = 0 by omega]; exact dg_zero' 1
                          · rw [← HY.out]; exact blk_alloc (LBlk.down HB.out y (dg y 0) (dg y 1) 0 0 0 0 0 0 0 0 (by simp only [dl, z2, z3, z4, z5, z6, z7, z8, z9])) _
                          · repeat' (first | (with_reducible exact Below.refl _ _) | (with_reducible assumption) | (with_reducible refine below_over ?_ _ _) | (with_reducible refine Lw.below_alloc ?_ _) | (with_reducible refine Below.drew ?_) | (with_reducible refine below_drewN ?_ _) | (with_reducible refine Below.setCell ?_ ?_ _) | go_size)
                        case measure => exact len_less m S hSl
                    · rw [z3] at q3
                      rw [z4] at q4
                      rw [z5] at q5
                      rw [z6] at q6
                      rw [z7] at q7
                      rw [z8] at q8
                      rw [z9] at q9
                      have t2 : (dg y 2 == 0) = false := by rw [beq_eq_false_iff_ne]; exact n2
                      refine wp_loop_rounds 11 ?_
                      iterate 10 (rw [rounds_succ]; go_wp2)
                      rw [rounds_succ]; go_wp2
                      go_roundw
                      case rel =>
                        refine TS.next HM.out K1.out K2.out (by intro hS; rcases hgo with h | h; exact absurd h hS; exact h) _ (cons_bytes m S) rfl ?_ ?_ ?_
                        · refine (decide_eq_false fun h => n2 ?_).symm; rw [HY.out, show (m : Int) / 10 = 0 by omega]; exact dg_zero' 2
                        · rw [← HY.out]; exact blk_alloc (LBlk.down HB.out y (dg y 0) (dg y 1) (dg y 2) 0 0 0 0 0 0 0 (by simp only [dl, z3, z4, z5, z6, z7, z8, z9])) _
                        · repeat' (first | (with_reducible exact Below.refl _ _) | (with_reducible assumption) | (with_reducible refine below_over ?_ _ _) | (with_reducible refine Lw.below_alloc ?_ _) | (with_reducible refine Below.drew ?_) | (with_reducible refine below_drewN ?_ _) | (with_reducible refine Below.setCell ?_ ?_ _) | go_size)
                      case measure => exact len_less m S hSl
                  · rw [z4] at q4
                    rw [z5] at q5
                    rw [z6] at q6
                    rw [z7] at q7
                    rw [z8] at q8
                    rw [z9] at q9
                    have t3 : (dg y 3 == 0) = false := by rw [beq_eq_false_iff_ne]; exact n3
                    refine wp_loop_rounds 11 ?_
                    iterate 10 (rw [rounds_succ]; go_wp2)
                    rw [rounds_succ]; go_wp2
                    go_roundw
                    case rel =>
                      refine TS.next HM.out K1.out K2.out (by intro hS; rcases hgo with h | h; exact absurd h hS; exact h) _ (cons_bytes m S) rfl ?_ ?_ ?_
                      · refine (decide_eq_false fun h => n3 ?_).symm; rw [HY.out, show (m : Int) / 10 = 0 by omega]; exact dg_zero' 3
                      · rw [← HY.out]; exact blk_alloc (LBlk.down HB.out y (dg y 0) (dg y 1) (dg y 2) (dg y 3) 0 0 0 0 0 0 (by simp only [dl, z4, z5, z6, z7, z8, z9])) _
                      · repeat' (first | (with_reducible exact Below.refl _ _) | (with_reducible assumption) | (with_reducible refine below_over ?_ _ _) | (with_reducible refine Lw.below_alloc ?_ _) | (with_reducible refine Below.drew ?_) | (with_reducible refine below_drewN ?_ _) | (with_reducible refine Below.setCell ?_ ?_ _) | go_size)
                    case measure => exact len_less m S hSl
                · rw [z5] at q5
                  rw [z6] at q6
                  rw [z7] at q7
                  rw [z8] at q8
                  rw [z9] at q9
                  have t4 : (dg y 4 == 0) = false := by rw [beq_eq_false_iff_ne]; exact n4
                  refine wp_loop_rounds 11 ?_
                  iterate 10 (rw [rounds_succ]; go_wp2)
                  rw [rounds_succ]; go_wp2
                  go_roundw
                  case rel =>
                    refine TS.next HM.out K1.out K2.out (by intro hS; rcases hgo with h | h; exact absurd h hS; exact h) _ (cons_bytes m S) rfl ?_ ?_ ?_
                    · refine (decide_eq_false fun h => n4 ?_).symm; rw [HY.out, show (m : Int) / 10 = 0 by omega]; exact dg_zero' 4
                    · rw [← HY.out]; exact blk_alloc (LBlk.down HB.out y (dg y 0) (dg y 1) (dg y 2) (dg y 3) (dg y 4) 0 0 0 0 0 (by simp only [dl, z5, z6, z7, z8, z9])) _
                    · repeat' (first | (with_reducible exact Below.refl _ _) | (with_reducible assumption) | (with_reducible refine below_over ?_ _ _) | (with_reducible refine Lw.below_alloc ?_ _) | (with_reducible refine Below.drew ?_) | (with_reducible refine below_drewN ?_ _) | (with_reducible refine Below.setCell ?_ ?_ _) | go_size)
                  case measure => exact len_less m S hSl
              · rw [z6] at q6
                rw [z7] at q7
                rw [z8] at q8
                rw [z9] at q9
                have t5 : (dg y 5 == 0) = false := by rw [beq_eq_false_iff_ne]; exact n5
                refine wp_loop_rounds 11 ?_
                iterate 10 (rw [rounds_succ]; go_wp2)
                rw [rounds_succ]; go_wp2
                go_roundw
                case rel =>
                  refine TS.next HM.out K1.out K2.out (by intro hS; rcases hgo with h | h; exact absurd h hS; exact h) _ (cons_bytes m S) rfl ?_ ?_ ?_
                  · refine (decide_eq_false fun h => n5 ?_).symm; rw [HY.out, show (m : Int) / 10 = 0 by omega]; exact dg_zero' 5
                  · rw [← HY.out]; exact blk_alloc (LBlk.down HB.out y (dg y 0) (dg y 1) (dg y 2) (dg y 3) (dg y 4) (dg y 5) 0 0 0 0 (by simp only [dl, z6, z7, z8, z9])) _
                  · repeat' (first | (with_reducible exact Below.refl _ _) | (with_reducible assumption) | (with_reducible refine below_over ?_ _ _) | (with_reducible refine Lw.below_alloc ?_ _) | (with_reducible refine Below.drew ?_) | (with_reducible refine below_drewN ?_ _) | (with_reducible refine Below.setCell ?_ ?_ _) | go_size)
                case measure => exact len_less m S hSl
            · rw [z7] at q7
              rw [z8] at q8
              rw [z9] at q9
              have t6 : (dg y 6 == 0) = false := by rw [beq_eq_false_iff_ne]; exact n6
              refine wp_loop_rounds 11 ?_
              iterate 10 (rw [rounds_succ]; go_wp2)
              rw [rounds_succ]; go_wp2
              go_roundw
              case rel =>
                refine TS.next HM.out K1.out K2.out (by intro hS; rcases hgo with h | h; exact absurd h hS; exact h) _ (cons_bytes m S) rfl ?_ ?_ ?_
                · refine (decide_eq_false fun h => n6 ?_).symm; rw [HY.out, show (m : Int) / 10 = 0 by omega]; exact dg_zero' 6
                · rw [← HY.out]; exact blk_alloc (LBlk.down HB.out y (dg y 0) (dg y 1) (dg y 2) (dg y 3) (dg y 4) (dg y 5) (dg y 6) 0 0 0 (by simp only [dl, z7, z8, z9])) _
                · repeat' (first | (with_reducible exact Below.refl _ _) | (with_reducible assumption) | (with_reducible refine below_over ?_ _ _) | (with_reducible refine Lw.below_alloc ?_ _) | (with_reducible refine Below.drew ?_) | (with_reducible refine below_drewN ?_ _) | (with_reducible refine Below.setCell ?_ ?_ _) | go_size)
              case measure => exact len_less m S hSl
          · rw [z8] at q8
            rw [z9] at q9
            have t7 : (dg y 7 == 0) = false := by rw [beq_eq_false_iff_ne]; exact n7
            refine wp_loop_rounds 11 ?_
            iterate 10 (rw [rounds_succ]; go_wp2)
            rw [rounds_succ]; go_wp2
            go_roundw
            case rel =>
              refine TS.next HM.out K1.out K2.out (by intro hS; rcases hgo with h | h; exact absurd h hS; exact h) _ (cons_bytes m S) rfl ?_ ?_ ?_
              · refine (decide_eq_false fun h => n7 ?_).symm; rw [HY.out, show (m : Int) / 10 = 0 by omega]; exact dg_zero' 7
              · rw [← HY.out]; exact blk_alloc (LBlk.down HB.out y (dg y 0) (dg y 1) (dg y 2) (dg y 3) (dg y 4) (dg y 5) (dg y 6) (dg y 7) 0 0 (by simp only [dl, z8, z9])) _
              · repeat' (first | (with_reducible exact Below.refl _ _) | (with_reducible assumption) | (with_reducible refine below_over ?_ _ _) | (with_reducible refine Lw.below_alloc ?_ _) | (with_reducible refine Below.drew ?_) | (with_reducible refine below_drewN ?_ _) | (with_reducible refine Below.setCell ?_ ?_ _) | go_size)
            case measure => exact len_less m S hSl
        · rw [z9] at q9
          have t8 : (dg y 8 == 0) = false := by rw [beq_eq_false_iff_ne]; exact n8
          refine wp_loop_rounds 11 ?_
          iterate 10 (rw [rounds_succ]; go_wp2)
          rw [rounds_succ]; go_wp2
          go_roundw
          case rel =>
            refine TS.next HM.out K1.out K2.out (by intro hS; rcases hgo with h | h; exact absurd h hS; exact h) _ (cons_bytes m S) rfl ?_ ?_ ?_
            · refine (decide_eq_false fun h => n8 ?_).symm; rw [HY.out, show (m : Int) / 10 = 0 by omega]; exact dg_zero' 8
            · rw [← HY.out]; exact blk_alloc (LBlk.down HB.out y (dg y 0) (dg y 1) (dg y 2) (dg y 3) (dg y 4) (dg y 5) (dg y 6) (dg y 7) (dg y 8) 0 (by simp only [dl, z9])) _
            · repeat' (first | (with_reducible exact Below.refl _ _) | (with_reducible assumption) | (with_reducible refine below_over ?_ _ _) | (with_reducible refine Lw.below_alloc ?_ _) | (with_reducible refine Below.drew ?_) | (with_reducible refine below_drewN ?_ _) | (with_reducible refine Below.setCell ?_ ?_ _) | go_size)
          case measure => exact len_less m S hSl
      · have t9 : (dg y 9 == 0) = false := by rw [beq_eq_false_iff_ne]; exact n9
        refine wp_loop_rounds 11 ?_
        iterate 10 (rw [rounds_succ]; go_wp2)
        rw [rounds_succ]; go_wp2
        go_roundw
        case rel =>
          refine TS.next HM.out K1.out K2.out (by intro hS; rcases hgo with h | h; exact absurd h hS; exact h) _ (cons_bytes m S) rfl ?_ ?_ ?_
          · refine (decide_eq_false fun h => n9 ?_).symm; rw [HY.out, show (m : Int) / 10 = 0 by omega]; exact dg_zero' 9
          · rw [← HY.out]; exact blk_alloc (LBlk.down HB.out y (dg y 0) (dg y 1) (dg y 2) (dg y 3) (dg y 4) (dg y 5) (dg y 6) (dg y 7) (dg y 8) (dg y 9) (by simp only [dl])) _
          · repeat' (first | (with_reducible exact Below.refl _ _) | (with_reducible assumption) | (with_reducible refine below_over ?_ _ _) | (with_reducible refine Lw.below_alloc ?_ _) | (with_reducible refine Below.drew ?_) | (with_reducible refine below_drewN ?_ _) | (with_reducible refine Below.setCell ?_ ?_ _) | go_size)
        case measure => exact len_less m S hSl
    · have hS : S ≠ [] := fun h => hgo (Or.inl h)
      have hm0 : m = 0 := by
        by_cases h : m = 0
        · exact h
        · exact absurd (Or.inr h) hgo
      have hbt : b = true := by rw [(H2.out hS).2, hm0]; rfl
      have hfin : S = txn N := by have := (H2.out hS).1; rw [hm0, ds_zero] at this; simpa using this
      have hSl : S.length ≤ 49 := by rw [hfin]; exact HLEN.out
      have hSe : S.isEmpty = false := by simpa using hS
      have HF := Lib.hid hfin
      subst hbt
      clear H1 H2 hfin hS hgo hm0
      go_wp2
      go_ret
      have e : Value.string ({ data := #[] } ++ { data := S.toArray }) = .string ⟨(tx N).toArray⟩ := by rw [nil_app, HF.out, HTX.out]
      refine ⟨congrArg Ending.returned e, ?_⟩
      repeat' (first | (with_reducible exact Below.refl _ _) | (with_reducible assumption) | (with_reducible refine below_over ?_ _ _) | (with_reducible refine Lw.below_alloc ?_ _) | (with_reducible refine Below.drew ?_) | (with_reducible refine below_drewN ?_ _) | (with_reducible refine Below.setCell ?_ ?_ _) | go_size)
set_option maxRecDepth 100000 in
set_option maxHeartbeats 8000000 in
theorem rtext_neg (z : Int) (x0 x1 x2 x3 x4 x5 x6 x7 x8 x9 : Int) (w : World) (hx : [x0, x1, x2, x3, x4, x5, x6, x7, x8, x9] = dl z) (z0 : -730750818665451459101842416358141509827966271488 ≤ z) (z1 : z < 730750818665451459101842416358141509827966271488) (hneg : z < 0) :
    Calls Try.prog 25 #[.agg #[.int .i64 (x0), .int .i64 (x1), .int .i64 (x2), .int .i64 (x3), .int .i64 (x4), .int .i64 (x5), .int .i64 (x6), .int .i64 (x7), .int .i64 (x8), .int .i64 (x9)]] w fun e w' => e = .returned (.string ⟨(tx z).toArray⟩) ∧ Below w.heap.size w w' := by
  simp only [dl, List.cons.injEq, and_true] at hx
  obtain ⟨rfl, rfl, rfl, rfl, rfl, rfl, rfl, rfl, rfl, rfl⟩ := hx
  obtain ⟨N, hN⟩ : ∃ N : Nat, z = (-(N : Int)) := ⟨(-z).toNat, by omega⟩
  have hN1 : N < 1461501637330902918203684832716283019655932542976 := by omega
  have htx : tx z = 45 :: txn N := by
    have h1 : z.natAbs = N := by omega
    unfold tx txn; rw [h1, if_pos (by omega), if_neg (by omega), if_neg (by omega)]; rfl
  have HTX := Lib.hid htx
  have HLEN := Lib.hid (txn_len N hN1)
  have HZ := Lib.hid (And.intro z0 z1)
  have HD : Hid (decide (z < 0) = true) := by simp only [Hid]; rw [decide_eq_true_iff]; omega
  have HN1 := Lib.hid hN1
  clear htx z0 z1 hN1
  subst hN
  go_enter Try.func25, Try.ntmps25
  go_wp2_with (first
    | (go_at_call 23; ((with_reducible refine (rbelow_dl (-(N : Int)) true _ HD.out HZ.out.1 HZ.out.2).mono ?_)); rintro e w' ⟨rfl, hb⟩; obtain ⟨bs, d, rfl⟩ := below_grow hb; clear hb)
    | (go_at_call 17; ((with_reducible refine (rminus_any (-(N : Int)) _ _ _ _ _ _ _ _ _ _ _ rfl).mono ?_)); rintro e w' ⟨rfl, hb⟩; rw [Int.neg_neg]; obtain ⟨bs, d, rfl⟩ := below_grow hb; clear hb))
  go_loopw [4, 5] (fun s z wr => TS w N s z wr) (fun s _ _ => 60 - strlen s)
  case atStart =>
    refine ⟨N, [], false, rfl, rfl, HN1.out, ?_, ?_, fun _ => ⟨rfl, rfl⟩, fun h => absurd rfl h⟩
    · exact blk_grow (by simpa [LBlk, dcells] using heap_alloc_new w _) _ _
    · repeat' (first | (with_reducible exact Below.refl _ _) | (with_reducible assumption) | (with_reducible refine below_over ?_ _ _) | (with_reducible refine Lw.below_alloc ?_ _) | (with_reducible refine Below.drew ?_) | (with_reducible refine below_drewN ?_ _) | (with_reducible refine Below.setCell ?_ ?_ _) | go_size)
  case round =>
    obtain ⟨m, S, b, rfl, rfl, hm, hblk, hbel, h1, h2⟩ := hrel
    have k0 : wr.cell? ⟨w.heap.size, 0, none⟩ = some (.int .i64 (dg m 0)) := cell_of_row _ _ _ _ _ _ hblk
    have f0 := blk_frozen hblk 0
    have k1 : wr.cell? ⟨w.heap.size, 1, none⟩ = some (.int .i64 (dg m 1)) := cell_of_row _ _ _ _ _ _ hblk
    have f1 := blk_frozen hblk 1
    have k2 : wr.cell? ⟨w.heap.size, 2, none⟩ = some (.int .i64 (dg m 2)) := cell_of_row _ _ _ _ _ _ hblk
    have f2 := blk_frozen hblk 2
    have k3 : wr.cell? ⟨w.heap.size, 3, none⟩ = some (.int .i64 (dg m 3)) := cell_of_row _ _ _ _ _ _ hblk
    have f3 := blk_frozen hblk 3
    have k4 : wr.cell? ⟨w.heap.size, 4, none⟩ = some (.int .i64 (dg m 4)) := cell_of_row _ _ _ _ _ _ hblk
    have f4 := blk_frozen hblk 4
    have k5 : wr.cell? ⟨w.heap.size, 5, none⟩ = some (.int .i64 (dg m 5)) := cell_of_row _ _ _ _ _ _ hblk
    have f5 := blk_frozen hblk 5
    have k6 : wr.cell? ⟨w.heap.size, 6, none⟩ = some (.int .i64 (dg m 6)) := cell_of_row _ _ _ _ _ _ hblk
    have f6 := blk_frozen hblk 6
    have k7 : wr.cell? ⟨w.heap.size, 7, none⟩ = some (.int .i64 (dg m 7)) := cell_of_row _ _ _ _ _ _ hblk
    have f7 := blk_frozen hblk 7
    have k8 : wr.cell? ⟨w.heap.size, 8, none⟩ = some (.int .i64 (dg m 8)) := cell_of_row _ _ _ _ _ _ hblk
    have f8 := blk_frozen hblk 8
    have k9 : wr.cell? ⟨w.heap.size, 9, none⟩ = some (.int .i64 (dg m 9)) := cell_of_row _ _ _ _ _ _ hblk
    have f9 := blk_frozen hblk 9
    have hzlt := blk_lt hblk
    have HB := Lib.hid hblk
    have HM := Lib.hid hm
    clear hm
    have H1 := Lib.hid h1
    have H2 := Lib.hid h2
    clear hblk h1 h2
    by_cases hgo : S = [] ∨ m ≠ 0
    · have hbS : b = false := by
        by_cases hS : S = []
        · exact (H1.out hS).2
        · rw [(H2.out hS).2]; simp; rcases hgo with h | h
          · exact absurd h hS
          · exact h
      have K1 := Lib.hid (fun hS : S = [] => (H1.out hS).1)
      have K2 := Lib.hid (fun hS : S ≠ [] => (H2.out hS).1)
      subst hbS
      clear H1 H2
      obtain ⟨y, hy⟩ : ∃ y : Int, y = (m : Int) / 10 := ⟨_, rfl⟩
      have r0 := rr_bd m 0
      have d0 := dg_bd m 0
      have p0 := ten_mod m 0
      have q0 := ten_div m 0
      rw [← hy] at q0
      have r1 := rr_bd m 1
      have d1 := dg_bd m 1
      have p1 := ten_mod m 1
      have q1 := ten_div m 1
      rw [← hy] at q1
      have r2 := rr_bd m 2
      have d2 := dg_bd m 2
      have p2 := ten_mod m 2
      have q2 := ten_div m 2
      rw [← hy] at q2
      have r3 := rr_bd m 3
      have d3 := dg_bd m 3
      have p3 := ten_mod m 3
      have q3 := ten_div m 3
      rw [← hy] at q3
      have r4 := rr_bd m 4
      have d4 := dg_bd m 4
      have p4 := ten_mod m 4
      have q4 := ten_div m 4
      rw [← hy] at q4
      have r5 := rr_bd m 5
      have d5 := dg_bd m 5
      have p5 := ten_mod m 5
      have q5 := ten_div m 5
      rw [← hy] at q5
      have r6 := rr_bd m 6
      have d6 := dg_bd m 6
      have p6 := ten_mod m 6
      have q6 := ten_div m 6
      rw [← hy] at q6
      have r7 := rr_bd m 7
      have d7 := dg_bd m 7
      have p7 := ten_mod m 7
      have q7 := ten_div m 7
      rw [← hy] at q7
      have r8 := rr_bd m 8
      have d8 := dg_bd m 8
      have p8 := ten_mod m 8
      have q8 := ten_div m 8
      rw [← hy] at q8
      have r9 := rr_bd m 9
      have d9 := dg_bd m 9
      have p9 := ten_mod m 9
      have q9 := ten_div m 9
      rw [← hy] at q9
      rw [rr_10 m (by omega) (by have := HM.out; omega), Int.zero_mul, Int.zero_add] at p9 q9
      simp only [Nat.reduceAdd] at p0 q0 p1 q1 p2 q2 p3 q3 p4 q4 p5 q5 p6 q6 p7 q7 p8 q8
      have HY := Lib.hid hy
      have hSl : S.length ≤ 49 := by
        by_cases hS : S = []
        · subst hS; simp
        · have h := congrArg List.length (K2.out hS)
          have := HLEN.out
          simp at h; omega
      have hconv := conv_one (rr m 0) (rr_bd m 0).1 (by have := (rr_bd m 0).2; omega)
      clear hy
      go_wp2
      by_cases n9 : dg y 9 = 0
      · have z9 := n9
        by_cases n8 : dg y 8 = 0
        · have z8 := n8
          by_cases n7 : dg y 7 = 0
          · have z7 := n7
            by_cases n6 : dg y 6 = 0
            · have z6 := n6
              by_cases n5 : dg y 5 = 0
              · have z5 := n5
                by_cases n4 : dg y 4 = 0
                · have z4 := n4
                  by_cases n3 : dg y 3 = 0
                  · have z3 := n3
                    by_cases n2 : dg y 2 = 0
                    · have z2 := n2
                      by_cases n1 : dg y 1 = 0
                      · have z1 := n1
                        by_cases n0 : dg y 0 = 0
                        · have z0 := n0
                          rw [z0] at q0
                          rw [z1] at q1
                          rw [z2] at q2
                          rw [z3] at q3
                          rw [z4] at q4
                          rw [z5] at q5
                          rw [z6] at q6
                          rw [z7] at q7
                          rw [z8] at q8
                          rw [z9] at q9
                          refine wp_loop_rounds 11 ?_
                          iterate 10 (rw [rounds_succ]; go_wp2)
                          rw [rounds_succ]; go_wp2
                          go_roundw
                          case rel =>
                            refine TS.next HM.out K1.out K2.out (by intro hS; rcases hgo with h | h; exact absurd h hS; exact h) _ (cons_bytes m S) rfl ?_ ?_ ?_
                            · refine (decide_eq_true ?_).symm; have := all_zero m HM.out y HY.out (by simp only [dl, z0, z1, z2, z3, z4, z5, z6, z7, z8, z9]); exact this
                            · rw [← HY.out]; exact blk_alloc (LBlk.down HB.out y 0 0 0 0 0 0 0 0 0 0 (by simp only [dl, z0, z1, z2, z3, z4, z5, z6, z7, z8, z9])) _
                            · repeat' (first | (with_reducible exact Below.refl _ _) | (with_reducible assumption) | (with_reducible refine below_over ?_ _ _) | (with_reducible refine Lw.below_alloc ?_ _) | (with_reducible refine Below.drew ?_) | (with_reducible refine below_drewN ?_ _) | (with_reducible refine Below.setCell ?_ ?_ _) | go_size)
                          case measure => exact len_less m S hSl
                        · rw [z1] at q1
                          rw [z2] at q2
                          rw [z3] at q3
                          rw [z4] at q4
                          rw [z5] at q5
                          rw [z6] at q6
                          rw [z7] at q7
                          rw [z8] at q8
                          rw [z9] at q9
                          have t0 : (dg y 0 == 0) = false := by rw [beq_eq_false_iff_ne]; exact n0
                          refine wp_loop_rounds 11 ?_
                          iterate 10 (rw [rounds_succ]; go_wp2)
                          rw [rounds_succ]; go_wp2
                          go_roundw
                          case rel =>
                            refine TS.next HM.out K1.out K2.out (by intro hS; rcases hgo with h | h; exact absurd h hS; exact h) _ (cons_bytes m S) rfl ?_ ?_ ?_
                            · refine (decide_eq_false fun h => n0 ?_).symm; rw [HY.out, show (m : Int) / 10 = 0 by omega]; exact dg_zero' 0
                            · rw [← HY.out]; exact blk_alloc (LBlk.down HB.out y (dg y 0) 0 0 0 0 0 0 0 0 0 (by simp only [dl, z1, z2, z3, z4, z5, z6, z7, z8, z9])) _
                            · repeat' (first | (with_reducible exact Below.refl _ _) | (with_reducible assumption) | (with_reducible refine below_over ?_ _ _) | (with_reducible refine Lw.below_alloc ?_ _) | (with_reducible refine Below.drew ?_) | (with_reducible refine below_drewN ?_ _) | (with_reducible refine Below.setCell ?_ ?_ _) | go_size)
                          case measure => exact len_less m S hSl
                      · rw [z2] at q2
                        rw [z3] at q3
                        rw [z4] at q4
                        rw [z5] at q5
                        rw [z6] at q6
                        rw [z7] at q7
                        rw [z8] at q8
                        rw [z9] at q9
                        have t1 : (dg y 1 == 0) = false := by rw [beq_eq_false_iff_ne]; exact n1
                        refine wp_loop_rounds 11 ?_
                        iterate 10 (rw [rounds_succ]; go_wp2)
                        rw [rounds_succ]; go_wp2
                        go_roundw
                        case rel =>
                          refine TS.next HM.out K1.out K2.out (by intro hS; rcases hgo with h | h; exact absurd h hS; exact h) _ (cons_bytes m S) rfl ?_ ?_ ?_
                          · refine (decide_eq_false fun h => n1 ?_).symm; rw [HY.out, show (m : Int) / 10 = 0 by omega]; exact dg_zero' 1
                          · rw [← HY.out]; exact blk_alloc (LBlk.down HB.out y (dg y 0) (dg y 1) 0 0 0 0 0 0 0 0 (by simp only [dl, z2, z3, z4, z5, z6, z7, z8, z9])) _
                          · repeat' (first | (with_reducible exact Below.refl _ _) | (with_reducible assumption) | (with_reducible refine below_over ?_ _ _) | (with_reducible refine Lw.below_alloc ?_ _) | (with_reducible refine Below.drew ?_) | (with_reducible refine below_drewN ?_ _) | (with_reducible refine Below.setCell ?_ ?_ _) | go_size)
                        case measure => exact len_less m S hSl
                    · rw [z3] at q3
                      rw [z4] at q4
                      rw [z5] at q5
                      rw [z6] at q6
                      rw [z7] at q7
                      rw [z8] at q8
                      rw [z9] at q9
                      have t2 : (dg y 2 == 0) = false := by rw [beq_eq_false_iff_ne]; exact n2
                      refine wp_loop_rounds 11 ?_
                      iterate 10 (rw [rounds_succ]; go_wp2)
                      rw [rounds_succ]; go_wp2
                      go_roundw
                      case rel =>
                        refine TS.next HM.out K1.out K2.out (by intro hS; rcases hgo with h | h; exact absurd h hS; exact h) _ (cons_bytes m S) rfl ?_ ?_ ?_
                        · refine (decide_eq_false fun h => n2 ?_).symm; rw [HY.out, show (m : Int) / 10 = 0 by omega]; exact dg_zero' 2
                        · rw [← HY.out]; exact blk_alloc (LBlk.down HB.out y (dg y 0) (dg y 1) (dg y 2) 0 0 0 0 0 0 0 (by simp only [dl, z3, z4, z5, z6, z7, z8, z9])) _
                        · repeat' (first | (with_reducible exact Below.refl _ _) | (with_reducible assumption) | (with_reducible refine below_over ?_ _ _) | (with_reducible refine Lw.below_alloc ?_ _) | (with_reducible refine Below.drew ?_) | (with_reducible refine below_drewN ?_ _) | (with_reducible refine Below.setCell ?_ ?_ _) | go_size)
                      case measure => exact len_less m S hSl
                  · rw [z4] at q4
                    rw [z5] at q5
                    rw [z6] at q6
                    rw [z7] at q7
                    rw [z8] at q8
                    rw [z9] at q9
                    have t3 : (dg y 3 == 0) = false := by rw [beq_eq_false_iff_ne]; exact n3
                    refine wp_loop_rounds 11 ?_
                    iterate 10 (rw [rounds_succ]; go_wp2)
                    rw [rounds_succ]; go_wp2
                    go_roundw
                    case rel =>
                      refine TS.next HM.out K1.out K2.out (by intro hS; rcases hgo with h | h; exact absurd h hS; exact h) _ (cons_bytes m S) rfl ?_ ?_ ?_
                      · refine (decide_eq_false fun h => n3 ?_).symm; rw [HY.out, show (m : Int) / 10 = 0 by omega]; exact dg_zero' 3
                      · rw [← HY.out]; exact blk_alloc (LBlk.down HB.out y (dg y 0) (dg y 1) (dg y 2) (dg y 3) 0 0 0 0 0 0 (by simp only [dl, z4, z5, z6, z7, z8, z9])) _
                      · repeat' (first | (with_reducible exact Below.refl _ _) | (with_reducible assumption) | (with_reducible refine below_over ?_ _ _) | (with_reducible refine Lw.below_alloc ?_ _) | (with_reducible refine Below.drew ?_) | (with_reducible refine below_drewN ?_ _) | (with_reducible refine Below.setCell ?_ ?_ _) | go_size)
                    case measure => exact len_less m S hSl
                · rw [z5] at q5
                  rw [z6] at q6
                  rw [z7] at q7
                  rw [z8] at q8
                  rw [z9] at q9
                  have t4 : (dg y 4 == 0) = false := by rw [beq_eq_false_iff_ne]; exact n4
                  refine wp_loop_rounds 11 ?_
                  iterate 10 (rw [rounds_succ]; go_wp2)
                  rw [rounds_succ]; go_wp2
                  go_roundw
                  case rel =>
                    refine TS.next HM.out K1.out K2.out (by intro hS; rcases hgo with h | h; exact absurd h hS; exact h) _ (cons_bytes m S) rfl ?_ ?_ ?_
                    · refine (decide_eq_false fun h => n4 ?_).symm; rw [HY.out, show (m : Int) / 10 = 0 by omega]; exact dg_zero' 4
                    · rw [← HY.out]; exact blk_alloc (LBlk.down HB.out y (dg y 0) (dg y 1) (dg y 2) (dg y 3) (dg y 4) 0 0 0 0 0 (by simp only [dl, z5, z6, z7, z8, z9])) _
                    · repeat' (first | (with_reducible exact Below.refl _ _) | (with_reducible assumption) | (with_reducible refine below_over ?_ _ _) | (with_reducible refine Lw.below_alloc ?_ _) | (with_reducible refine Below.drew ?_) | (with_reducible refine below_drewN ?_ _) | (with_reducible refine Below.setCell ?_ ?_ _) | go_size)
                  case measure => exact len_less m S hSl
              · rw [z6] at q6
                rw [z7] at q7
                rw [z8] at q8
                rw [z9] at q9
                have t5 : (dg y 5 == 0) = false := by rw [beq_eq_false_iff_ne]; exact n5
                refine wp_loop_rounds 11 ?_
                iterate 10 (rw [rounds_succ]; go_wp2)
                rw [rounds_succ]; go_wp2
                go_roundw
                case rel =>
                  refine TS.next HM.out K1.out K2.out (by intro hS; rcases hgo with h | h; exact absurd h hS; exact h) _ (cons_bytes m S) rfl ?_ ?_ ?_
                  · refine (decide_eq_false fun h => n5 ?_).symm; rw [HY.out, show (m : Int) / 10 = 0 by omega]; exact dg_zero' 5
                  · rw [← HY.out]; exact blk_alloc (LBlk.down HB.out y (dg y 0) (dg y 1) (dg y 2) (dg y 3) (dg y 4) (dg y 5) 0 0 0 0 (by simp only [dl, z6, z7, z8, z9])) _
                  · repeat' (first | (with_reducible exact Below.refl _ _) | (with_reducible assumption) | (with_reducible refine below_over ?_ _ _) | (with_reducible refine Lw.below_alloc ?_ _) | (with_reducible refine Below.drew ?_) | (with_reducible refine below_drewN ?_ _) | (with_reducible refine Below.setCell ?_ ?_ _) | go_size)
                case measure => exact len_less m S hSl
            · rw [z7] at q7
              rw [z8] at q8
              rw [z9] at q9
              have t6 : (dg y 6 == 0) = false := by rw [beq_eq_false_iff_ne]; exact n6
              refine wp_loop_rounds 11 ?_
              iterate 10 (rw [rounds_succ]; go_wp2)
              rw [rounds_succ]; go_wp2
              go_roundw
              case rel =>
                refine TS.next HM.out K1.out K2.out (by intro hS; rcases hgo with h | h; exact absurd h hS; exact h) _ (cons_bytes m S) rfl ?_ ?_ ?_
                · refine (decide_eq_false fun h => n6 ?_).symm; rw [HY.out, show (m : Int) / 10 = 0 by omega]; exact dg_zero' 6
                · rw [← HY.out]; exact blk_alloc (LBlk.down HB.out y (dg y 0) (dg y 1) (dg y 2) (dg y 3) (dg y 4) (dg y 5) (dg y 6) 0 0 0 (by simp only [dl, z7, z8, z9])) _
                · repeat' (first | (with_reducible exact Below.refl _ _) | (with_reducible assumption) | (with_reducible refine below_over ?_ _ _) | (with_reducible refine Lw.below_alloc ?_ _) | (with_reducible refine Below.drew ?_) | (with_reducible refine below_drewN ?_ _) | (with_reducible refine Below.setCell ?_ ?_ _) | go_size)
              case measure => exact len_less m S hSl
          · rw [z8] at q8
            rw [z9] at q9
            have t7 : (dg y 7 == 0) = false := by rw [beq_eq_false_iff_ne]; exact n7
            refine wp_loop_rounds 11 ?_
            iterate 10 (rw [rounds_succ]; go_wp2)
            rw [rounds_succ]; go_wp2
            go_roundw
            case rel =>
              refine TS.next HM.out K1.out K2.out (by intro hS; rcases hgo with h | h; exact absurd h hS; exact h) _ (cons_bytes m S) rfl ?_ ?_ ?_
              · refine (decide_eq_false fun h => n7 ?_).symm; rw [HY.out, show (m : Int) / 10 = 0 by omega]; exact dg_zero' 7
              · rw [← HY.out]; exact blk_alloc (LBlk.down HB.out y (dg y 0) (dg y 1) (dg y 2) (dg y 3) (dg y 4) (dg y 5) (dg y 6) (dg y 7) 0 0 (by simp only [dl, z8, z9])) _
              · repeat' (first | (with_reducible exact Below.refl _ _) | (with_reducible assumption) | (with_reducible refine below_over ?_ _ _) | (with_reducible refine Lw.below_alloc ?_ _) | (with_reducible refine Below.drew ?_) | (with_reducible refine below_drewN ?_ _) | (with_reducible refine Below.setCell ?_ ?_ _) | go_size)
            case measure => exact len_less m S hSl
        · rw [z9] at q9
          have t8 : (dg y 8 == 0) = false := by rw [beq_eq_false_iff_ne]; exact n8
          refine wp_loop_rounds 11 ?_
          iterate 10 (rw [rounds_succ]; go_wp2)
          rw [rounds_succ]; go_wp2
          go_roundw
          case rel =>
            refine TS.next HM.out K1.out K2.out (by intro hS; rcases hgo with h | h; exact absurd h hS; exact h) _ (cons_bytes m S) rfl ?_ ?_ ?_
            · refine (decide_eq_false fun h => n8 ?_).symm; rw [HY.out, show (m : Int) / 10 = 0 by omega]; exact dg_zero' 8
            · rw [← HY.out]; exact blk_alloc (LBlk.down HB.out y (dg y 0) (dg y 1) (dg y 2) (dg y 3) (dg y 4) (dg y 5) (dg y 6) (dg y 7) (dg y 8) 0 (by simp only [dl, z9])) _
            · repeat' (first | (with_reducible exact Below.refl _ _) | (with_reducible assumption) | (with_reducible refine below_over ?_ _ _) | (with_reducible refine Lw.below_alloc ?_ _) | (with_reducible refine Below.drew ?_) | (with_reducible refine below_drewN ?_ _) | (with_reducible refine Below.setCell ?_ ?_ _) | go_size)
          case measure => exact len_less m S hSl
      · have t9 : (dg y 9 == 0) = false := by rw [beq_eq_false_iff_ne]; exact n9
        refine wp_loop_rounds 11 ?_
        iterate 10 (rw [rounds_succ]; go_wp2)
        rw [rounds_succ]; go_wp2
        go_roundw
        case rel =>
          refine TS.next HM.out K1.out K2.out (by intro hS; rcases hgo with h | h; exact absurd h hS; exact h) _ (cons_bytes m S) rfl ?_ ?_ ?_
          · refine (decide_eq_false fun h => n9 ?_).symm; rw [HY.out, show (m : Int) / 10 = 0 by omega]; exact dg_zero' 9
          · rw [← HY.out]; exact blk_alloc (LBlk.down HB.out y (dg y 0) (dg y 1) (dg y 2) (dg y 3) (dg y 4) (dg y 5) (dg y 6) (dg y 7) (dg y 8) (dg y 9) (by simp only [dl])) _
          · repeat' (first | (with_reducible exact Below.refl _ _) | (with_reducible assumption) | (with_reducible refine below_over ?_ _ _) | (with_reducible refine Lw.below_alloc ?_ _) | (with_reducible refine Below.drew ?_) | (with_reducible refine below_drewN ?_ _) | (with_reducible refine Below.setCell ?_ ?_ _) | go_size)
        case measure => exact len_less m S hSl
    · have hS : S ≠ [] := fun h => hgo (Or.inl h)
      have hm0 : m = 0 := by
        by_cases h : m = 0
        · exact h
        · exact absurd (Or.inr h) hgo
      have hbt : b = true := by rw [(H2.out hS).2, hm0]; rfl
      have hfin : S = txn N := by have := (H2.out hS).1; rw [hm0, ds_zero] at this; simpa using this
      have hSl : S.length ≤ 49 := by rw [hfin]; exact HLEN.out
      have hSe : S.isEmpty = false := by simpa using hS
      have HF := Lib.hid hfin
      subst hbt
      clear H1 H2 hfin hS hgo hm0
      go_wp2
      go_ret
      have e : Value.string ({ data := #[45] } ++ { data := S.toArray }) = .string ⟨(tx (-(N : Int))).toArray⟩ := by rw [bytes_app, HF.out, HTX.out]
      refine ⟨congrArg Ending.returned e, ?_⟩
      repeat' (first | (with_reducible exact Below.refl _ _) | (with_reducible assumption) | (with_reducible refine below_over ?_ _ _) | (with_reducible refine Lw.below_alloc ?_ _) | (with_reducible refine Below.drew ?_) | (with_reducible refine below_drewN ?_ _) | (with_reducible refine Below.setCell ?_ ?_ _) | go_size)
theorem rtext_any (z : Int) (x0 x1 x2 x3 x4 x5 x6 x7 x8 x9 : Int) (w : World) (hx : [x0, x1, x2, x3, x4, x5, x6, x7, x8, x9] = dl z) (z0 : -730750818665451459101842416358141509827966271488 ≤ z) (z1 : z < 730750818665451459101842416358141509827966271488) :
    Calls Try.prog 25 #[.agg #[.int .i64 (x0), .int .i64 (x1), .int .i64 (x2), .int .i64 (x3), .int .i64 (x4), .int .i64 (x5), .int .i64 (x6), .int .i64 (x7), .int .i64 (x8), .int .i64 (x9)]] w fun e w' => e = .returned (.string ⟨(tx z).toArray⟩) ∧ Below w.heap.size w w' := by
  by_cases h : z < 0
  · exact rtext_neg z x0 x1 x2 x3 x4 x5 x6 x7 x8 x9 w hx z0 z1 h
  · exact rtext_pos z x0 x1 x2 x3 x4 x5 x6 x7 x8 x9 w hx z0 z1 (by omega)
end Go.Proofs.Ytlnhfcfdjaecbaa.Wid
