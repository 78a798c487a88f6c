/- Texts that the statements of this seat lean on, put together: LinCode, LinRef, LinChg, LinLawA, LinMath, LinDone, LinPlay, LinLstM, ConDef. -/
import Derived.Test.YtiblpdjehknbcaaGreatMa
import Derived.Test.YtiblpdjehknbcaaGreatMb
import Derived.Test.YtiblpdjehknbcaaGreatMc
import Derived.Test.YtiblpdjehknbcaaGreatMd
import Derived.Deep.LoopGhost
import Derived.Deep.RegionHeld3
import Derived.Deep.QuietTactic
import Derived.BigQuiet
import Derived.Laws.Cover3
import Derived.WalkMore
import Derived.Laws.OwnMore
import Derived.WalkSpells
import Derived.Deep.DeepCutAuto
/- The walks of package linear (the code's): columns that meet a grid, the numbers that they name, a change, the least and the middle one. -/
namespace Go.Proofs.YtiblpdjehknbcaaGreat.Lin
open Go Go.RowKit Lw Grd
set_option linter.unusedVariables false
set_option linter.unusedSimpArgs false
theorem ret_b {a b : Bool} (h : a = b) : Ending.returned (.bool a) = Ending.returned (.bool b) := by rw [h]
theorem meetB_no1 {m n : Nat} {cols : List Int} (h : m = 0) : meetB m n cols = false := decide_eq_false (fun g => by have := g.1; omega)
theorem meetB_no2 {m n : Nat} {cols : List Int} (h : cols.length ≠ m) : meetB m n cols = false := decide_eq_false (fun g => h g.2.1)
theorem meetB_no3 {m n : Nat} {cols : List Int} {k : Nat} {v : Int} (hv : cols[k]? = some v) (h : v < 0 ∨ n ≤ v) : meetB m n cols = false := decide_eq_false (fun g => by have := meets_at g hv; omega)
theorem in_next {n : Nat} {cols : List Int} {k : Nat} {v : Int} (h : ∀ x ∈ cols.take k, 0 ≤ x ∧ x < n) (hv : cols[k]? = some v) (h0 : 0 ≤ v) (h1 : v < n) : ∀ x ∈ cols.take (k + 1), 0 ≤ x ∧ x < (n : Int) := by
  obtain ⟨hk, e⟩ := List.getElem?_eq_some_iff.1 hv
  rw [List.take_succ_eq_append_getElem hk, e]
  intro x hx
  rcases List.mem_append.1 hx with hx | hx
  · exact h x hx
  · simp at hx; subst hx; exact ⟨h0, h1⟩
set_option maxRecDepth 100000 in
theorem meets_eq (p : Addr) (F : Nat → Prop) (m n : Nat) (L : List (List Int)) (A : Option Addr) (N cap : Nat) (cols : List Int) (w : World) (h : PG w p F m n L) (hc : Rd .i64 w A cols) (hl : cols.length = N) (hN : N ≤ 1000) (hz : In64 cols) :
    Calls Tryz.prog 161 #[.pointer (some p), .slice A N cap] w fun e w' => e = .returned (.bool (meetB m n cols)) ∧ w' = w := by
  have HP := Lib.hid h
  have m8 := h.1.m8
  have n128 := h.1.n128
  clear h
  by_cases hm : m = 0
  · have HE := Lib.hid (meetB_no1 (n := n) (cols := cols) hm)
    have t1 : ((m : Int) == 0) = true := by simp; omega
    clear hm hc hl hz
    go_enter Tryz.func161, Tryz.ntmps161
    go_wp2_with (first
        | (go_at_call 142; (with_reducible refine (rows_eq p F m n L _ HP.out).mono ?_); rintro e wx ⟨rfl, hw⟩; subst wx)
        | (go_at_call 126; (with_reducible refine (width_eq p F m n L _ HP.out).mono ?_); rintro e wx ⟨rfl, hw⟩; subst wx))
    go_ret
    exact ⟨ret_b HE.out.symm, rfl⟩
  have t0 : ((m : Int) == 0) = false := by simp; omega
  by_cases hmn : N = m
  · have t1 : ((N : Int) != (m : Int)) = false := by simp; omega
    have HL := Lib.hid hl
    have HC := Lib.hid hc
    have HZ := Lib.hid hz
    have HM : Hid (1 ≤ m ∧ cols.length = m) := Lib.hid ⟨by omega, by omega⟩
    clear hl hc hz
    go_enter Tryz.func161, Tryz.ntmps161
    go_wp2_with (first
        | (go_at_call 142; (with_reducible refine (rows_eq p F m n L _ HP.out).mono ?_); rintro e wx ⟨rfl, hw⟩; subst wx)
        | (go_at_call 126; (with_reducible refine (width_eq p F m n L _ HP.out).mono ?_); rintro e wx ⟨rfl, hw⟩; subst wx))
    go_loopw [23] (fun i wr => ∃ (k : Nat), k ≤ N ∧ i = .int .i64 k ∧ wr = w ∧ ∀ x ∈ cols.take k, 0 ≤ x ∧ x < (n : Int)) (fun i _ => N - (intOf i).toNat)
    case atStart => exact ⟨0, Nat.zero_le _, rfl, rfl, fun x hx => by simp at hx⟩
    case round =>
      obtain ⟨k, hk, rfl, hwr, hA⟩ := hrel
      subst wr
      have HA := Lib.hid hA
      clear hA
      by_cases hlt : k < N
      · obtain ⟨v, hv⟩ : ∃ v, cols[k]? = some v := ⟨_, List.getElem?_eq_getElem (by rw [HL.out]; exact hlt)⟩
        obtain ⟨a, rfl⟩ := HC.out.some_of (by rw [HL.out]; omega)
        have hcell := HC.out.at hv
        have hvb := HZ.out.at hv
        have HV := Lib.hid hv
        clear hv
        by_cases s1 : v < 0
        · have HE := Lib.hid (meetB_no3 (m := m) (n := n) HV.out (.inl s1))
          go_wp2_with (first
        | (go_at_call 142; (with_reducible refine (rows_eq p F m n L _ HP.out).mono ?_); rintro e wx ⟨rfl, hw⟩; subst wx)
        | (go_at_call 126; (with_reducible refine (width_eq p F m n L _ HP.out).mono ?_); rintro e wx ⟨rfl, hw⟩; subst wx))
          go_ret
          exact ⟨ret_b HE.out.symm, rfl⟩
        by_cases s2 : (n : Int) ≤ v
        · have HE := Lib.hid (meetB_no3 (m := m) (n := n) HV.out (.inr s2))
          go_wp2_with (first
        | (go_at_call 142; (with_reducible refine (rows_eq p F m n L _ HP.out).mono ?_); rintro e wx ⟨rfl, hw⟩; subst wx)
        | (go_at_call 126; (with_reducible refine (width_eq p F m n L _ HP.out).mono ?_); rintro e wx ⟨rfl, hw⟩; subst wx))
          go_ret
          exact ⟨ret_b HE.out.symm, rfl⟩
        have HI := Lib.hid (in_next HA.out HV.out (by omega) (by omega))
        go_wp2_with (first
        | (go_at_call 142; (with_reducible refine (rows_eq p F m n L _ HP.out).mono ?_); rintro e wx ⟨rfl, hw⟩; subst wx)
        | (go_at_call 126; (with_reducible refine (width_eq p F m n L _ HP.out).mono ?_); rintro e wx ⟨rfl, hw⟩; subst wx))
        go_roundw
        case rel => exact ⟨k + 1, by omega, by go_num, trivial, HI.out⟩
        case measure => simp [intOf]; omega
      · have HE : Hid (meetB m n cols = true) := Lib.hid (decide_eq_true ⟨HM.out.1, HM.out.2, by have h := HA.out; rwa [List.take_of_length_le (by rw [HL.out]; omega)] at h⟩)
        go_wp2
        go_ret
        exact ⟨ret_b HE.out.symm, rfl⟩
  · have HE := Lib.hid (meetB_no2 (n := n) (cols := cols) (m := m) (by rw [hl]; exact hmn))
    have t1 : ((N : Int) != (m : Int)) = true := by simp; omega
    clear hc hl hz
    go_enter Tryz.func161, Tryz.ntmps161
    go_wp2_with (first
        | (go_at_call 142; (with_reducible refine (rows_eq p F m n L _ HP.out).mono ?_); rintro e wx ⟨rfl, hw⟩; subst wx)
        | (go_at_call 126; (with_reducible refine (width_eq p F m n L _ HP.out).mono ?_); rintro e wx ⟨rfl, hw⟩; subst wx))
    go_ret
    exact ⟨ret_b HE.out.symm, rfl⟩
theorem meets_any (p : Addr) (F : Nat → Prop) (m n : Nat) (L : List (List Int)) (A : Option Addr) (N cap : Nat) (cols : List Int) (w : World) (h : PG w p F m n L) (hc : Rd .i64 w A cols) (hl : cols.length = N) (hN : N ≤ 1000) (hz : In64 cols) (b : Bool) (hb : meetB m n cols = b) :
    Calls Tryz.prog 161 #[.pointer (some p), .slice A N cap] w fun e w' => e = .returned (.bool b) ∧ w' = w := hb ▸ meets_eq p F m n L A N cap cols w h hc hl hN hz
theorem li64_info : (Tryz.prog.info? 2).map (fun i => (i.zero, i.size, i.bytes)) = some (some (.int .i64 0), 1, 8) := by kernel_rfl
theorem li64s_u : Tryz.prog.underlying 48 = some (.slice 2) := by kernel_rfl
theorem read_no (p : Addr) (F : Nat → Prop) (m n : Nat) (L : List (List Int)) (A : Option Addr) (N cap : Nat) (cols : List Int) (w : World) (h : PG w p F m n L) (hc : Rd .i64 w A cols) (hl : cols.length = N) (hN : N ≤ 1000) (hz : In64 cols) (hm : ¬ Meets m n cols) :
    Calls Tryz.prog 154 #[.pointer (some p), .slice A N cap] w fun e w' => e = .returned (.tuple #[.slice none 0 0, .int .i64 1]) ∧ w' = w := by
  have C := Lib.hid (meets_any p F m n L A N cap cols w h hc hl hN hz false (decide_eq_false hm))
  clear h hc hl hz hm
  go_enter Tryz.func154, Tryz.ntmps154
  go_wp2_with (go_at_call 161; (with_reducible refine C.out.mono ?_); rintro e wx ⟨rfl, hw⟩; subst wx)
  go_ret2
  exact ⟨rfl, rfl⟩
theorem rd_far {w : World} {a : Addr} {zs : List Int} {g : Nat} (h : Rd .i64 w (some a) zs) (hl : 0 < zs.length) (hg : w.heap.size ≤ g) : ∀ b, some a = some b → ¬ b.block = g := by
  intro b hb e
  injection hb with hb
  subst hb
  have hc := h.at (List.getElem?_eq_getElem hl)
  have e2 : (a.add 0).block = a.block := by unfold Addr.add; split <;> rfl
  have h2 := cell_lt hc
  rw [e2] at h2
  omega
set_option maxRecDepth 100000 in
set_option maxHeartbeats 4000000 in
theorem read_yes (p : Addr) (F : Nat → Prop) (m n : Nat) (L : List (List Int)) (A : Option Addr) (N cap : Nat) (cols : List Int) (w : World) (h : PG w p F m n L) (hc : Rd .i64 w A cols) (hl : cols.length = N) (hN : N ≤ 1000) (hz : In64 cols) (hm : Meets m n cols) :
    Calls Tryz.prog 154 #[.pointer (some p), .slice A N cap] w fun e w' => ∃ g, e = .returned (.tuple #[.slice (some ⟨g, 0, none⟩) N N, .int .i64 0]) ∧ Ord.Mid w' g 0 (named L cols) ∧ w.heap.size ≤ g ∧ Below w.heap.size w w' := by
  have C := Lib.hid (meets_any p F m n L A N cap cols w h hc hl hN hz true (decide_eq_true hm))
  obtain ⟨i0, hi, hz0, hz1, hz2⟩ := info_parts li64_info
  have hmk : ∀ w, (Instr.makeSlice 48 (.int .i64 (N : Int)) (.int .i64 (N : Int))).run Tryz.prog w = .ok (.slice (some ⟨w.heap.size, 0, none⟩) N N) (w.alloc (.cells (madeCells #[.int .i64 0] N) 2)) := by
    intro w
    have h := run_make (P := Tryz.prog) w 48 2 i0 (.int .i64 0) li64s_u hi hz0 .i64 .i64 N N (by omega) (Int.le_refl _) (by rw [hz2]; omega) (by omega)
    rw [hz1] at h
    simpa [Value.cells] using h
  obtain ⟨a, rfl⟩ := hc.some_of (by have := hm.1; have := hm.2.1; omega)
  have HP := Lib.hid h
  have HL := Lib.hid hl
  have HC := Lib.hid hc
  have HZ := Lib.hid hz
  have HM := Lib.hid hm
  clear hi hz0 hz1 hz2 h hl hc hz hm
  go_enter Tryz.func154, Tryz.ntmps154
  go_wp2_with (go_at_call 161; (with_reducible refine C.out.mono ?_); rintro e wx ⟨rfl, hw⟩; subst wx)
  have HM2 := Lib.hid (mid_made w N 2)
  obtain ⟨w2, hw2⟩ : ∃ w2, w2 = w.alloc (.cells (madeCells #[.int .i64 0] N) 2) := ⟨_, rfl⟩
  rw [← hw2] at HM2 ⊢
  have HB2 : Hid (Below w.heap.size w w2) := Lib.hid (by rw [hw2]; exact Lw.below_alloc (Below.refl _ _) _)
  obtain ⟨g, hg⟩ : ∃ g, w.heap.size = g := ⟨_, rfl⟩
  have HP2 := Lib.hid (pg_up HP.out HB2.out)
  have HC2 := Lib.hid (HC.out.up HB2.out)
  have HFg : Hid (∀ k, F k → ¬ k = g) := Lib.hid (fun k hk => by have := (pgT p F m n L).lt w HP.out k hk; omega)
  have HAg := Lib.hid (rd_far HC.out (by have := HM.out.1; have := HM.out.2.1; omega) (Nat.le_of_eq hg))
  have HD := Lib.hid HP.out.dims
  have hgw : w.heap.size ≤ g := by omega
  rw [hg] at HM2 ⊢
  clear hw2 hg
  obtain ⟨gad, hgad⟩ : ∃ gad : Addr, (⟨g, 0, none⟩ : Addr) = gad := ⟨_, rfl⟩
  have HG := Lib.hid hgad
  rw [hgad]
  go_loopw [18] (fun i wr => ∃ (j : Nat), j ≤ N ∧ i = .int .i64 j ∧ Ord.Mid wr g 0 (upto2 (List.replicate N 0) (named L cols) j) ∧ Kept (fun q => q = g) w2 wr) (fun i _ => N - (intOf i).toNat)
  case atStart => exact ⟨0, Nat.zero_le _, rfl, by rw [upto2_start]; exact HM2.out, Kept.refl _ _⟩
  case round =>
    obtain ⟨j, hj, rfl, hmid, hkept⟩ := hrel
    have HMI := Lib.hid hmid
    have HK := Lib.hid hkept
    clear hmid hkept
    have hnl : (named L cols).length = N := by rw [named_len (by rw [HD.out.len]; exact HM.out.2.1), HD.out.len, ← HM.out.2.1, HL.out]
    have HNL := Lib.hid hnl
    clear hnl
    by_cases hlt : j < N
    · obtain ⟨v, hv⟩ : ∃ v, cols[j]? = some v := ⟨_, List.getElem?_eq_getElem (by rw [HL.out]; exact hlt)⟩
      have hcell := (HC2.out.keep HK.out HAg.out).at hv
      have hvb := HZ.out.at hv
      have HPr : Hid (PG wr p F m n L) := Lib.hid ((pgT p F m n L).keep w2 wr _ HP2.out HK.out HFg.out)
      have HS := Lib.hid (upto2_set (X := List.replicate N 0) (by simp) HNL.out (named_at HD.out HM.out hv))
      have c1 := HMI.out.rd.at (upto2_get (X := List.replicate N 0) (by simp) HNL.out hlt ▸ (by simp [hlt] : (List.replicate N (0 : Int))[j]? = some 0))
      rw [hgad] at c1
      have fz1 := HMI.out.frozen (0 + j)
      rw [← Ord.add_at, hgad] at fz1
      clear hv
      go_wp2_with (go_at_call 128; (with_reducible refine (at_any p F m n L j v _ HPr.out (by omega) (by omega) hvb.1 hvb.2).mono ?_); rintro e5 w5 ⟨rfl, hb5⟩; have fz5 := (HMI.out.up hb5).frozen (0 + j); rw [← Ord.add_at, hgad] at fz5; have e1 := cell_up c1 hb5; have HB5 := Lib.hid hb5; clear hb5)
      go_roundw
      case rel =>
        have hm6 := (HMI.out.up HB5.out).set j (at2 L j v)
        have hk6 : Kept (fun q => q = g) w2 (w5.setCell ⟨g, 0 + j, none⟩ (.int .i64 (at2 L j v))) := (HK.out.then HB5.out).set (.inl rfl) _ _
        rw [HS.out, ← Ord.add_at, hgad] at hm6
        rw [← Ord.add_at, hgad] at hk6
        exact ⟨j + 1, by omega, by go_num, hm6, hk6⟩
      case measure => simp [intOf]; omega
    · have e : j = N := by omega
      subst e
      have hm := HMI.out
      rw [upto2_end (X := List.replicate _ 0) (by simp) HNL.out] at hm
      have HM3 := Lib.hid hm
      clear hm
      go_wp2
      go_ret2
      exact ⟨g, by rw [hgad]; rfl, HM3.out, hgw, HK.out.low HB2.out HB2.out.size (fun q hq => by omega)⟩
theorem readOf_no {m n : Nat} {L : List (List Int)} {cols : List Int} (h : ¬ Meets m n cols) : readOf m n L cols = [] ∧ rdCode m n cols = 1 := ⟨if_neg h, if_neg h⟩
theorem readOf_yes {m n : Nat} {L : List (List Int)} {cols : List Int} (h : Meets m n cols) : readOf m n L cols = named L cols ∧ rdCode m n cols = 0 := ⟨if_pos h, if_pos h⟩
theorem read_any (p : Addr) (F : Nat → Prop) (m n : Nat) (L : List (List Int)) (A : Option Addr) (N cap : Nat) (cols : List Int) (w : World) (h : PG w p F m n L) (hc : Rd .i64 w A cols) (hl : cols.length = N) (hN : N ≤ 1000) (hz : In64 cols) :
    Calls Tryz.prog 154 #[.pointer (some p), .slice A N cap] w fun e w' => ∃ (A2 : Option Addr) (len cap2 : Nat), e = .returned (.tuple #[.slice A2 len cap2, .int .i64 (rdCode m n cols)]) ∧ Rd .i64 w' A2 (readOf m n L cols) ∧ (readOf m n L cols).length = len ∧ len ≤ cap2 ∧ cap2 ≤ maxLen ∧ (A2 = none → len = 0 ∧ cap2 = 0) ∧ (∀ a, A2 = some a → w.heap.size ≤ a.block) ∧ Below w.heap.size w w' := by
  by_cases hm : Meets m n cols
  · rw [(readOf_yes (L := L) hm).1, (readOf_yes (L := L) hm).2]
    refine (read_yes p F m n L A N cap cols w h hc hl hN hz hm).mono ?_
    rintro e w' ⟨g, rfl, hmid, hg, hb⟩
    exact ⟨some ⟨g, 0, none⟩, N, N, rfl, hmid.rd, by rw [named_len (by rw [h.1.len]; exact hm.2.1), h.1.len, ← hm.2.1, hl], Nat.le_refl _, by unfold maxLen; omega, (fun e => by cases e), (fun a e => by injection e with e; subst e; exact hg), hb⟩
  · rw [(readOf_no (L := L) hm).1, (readOf_no (L := L) hm).2]
    refine (read_no p F m n L A N cap cols w h hc hl hN hz hm).mono ?_
    rintro e w' ⟨rfl, rfl⟩
    exact ⟨none, 0, 0, rfl, rd_nil _ _ _, rfl, Nat.le_refl _, Nat.zero_le _, fun _ => ⟨rfl, rfl⟩, (fun a e => by cases e), Below.refl _ _⟩
theorem tellings_any (w : World) :
    Calls Tryz.prog 160 #[] w fun e w' => ∃ g, e = .returned (.slice (some ⟨g, 0, none⟩) 2 2) ∧ w'.cell? ⟨g, 0, none⟩ = some (.func (.func 165) #[] #[]) ∧ w'.cell? ⟨g, 1, none⟩ = some (.func (.func 166) #[] #[]) ∧ Below w.heap.size w w' := by
  go_enter Tryz.func160, Tryz.ntmps160
  go_wp2
  go_ret
  exact ⟨w.heap.size, rfl, by simp [go_sem], by simp [go_sem], Lw.below_alloc (Below.refl _ _) _⟩
theorem told_no (p : Addr) (F : Nat → Prop) (m n : Nat) (L : List (List Int)) (A : Option Addr) (N cap : Nat) (cols : List Int) (at' : Int) (w : World) (h : PG w p F m n L) (hc : Rd .i64 w A cols) (hl : cols.length = N) (hN : N ≤ 1000) (hz : In64 cols) (hm : ¬ Meets m n cols) :
    Calls Tryz.prog 153 #[.pointer (some p), .slice A N cap, .int .i64 at'] w fun e w' => e = .returned (.tuple #[.int .i64 0, .int .i64 1]) ∧ w' = w := by
  have C := Lib.hid (read_no p F m n L A N cap cols w h hc hl hN hz hm)
  clear h hc hl hz hm
  go_enter Tryz.func153, Tryz.ntmps153
  go_wp2_with (go_at_call 154; (with_reducible refine C.out.mono ?_); rintro e wx ⟨rfl, hw⟩; subst wx)
  go_ret2
  exact ⟨rfl, rfl⟩
set_option maxRecDepth 100000 in
set_option maxHeartbeats 4000000 in
theorem told_least (p : Addr) (F : Nat → Prop) (m n : Nat) (L : List (List Int)) (A : Option Addr) (N cap : Nat) (cols : List Int) (w : World) (h : PG w p F m n L) (hc : Rd .i64 w A cols) (hl : cols.length = N) (hN : N ≤ 1000) (hz : In64 cols) (hm : Meets m n cols) :
    Calls Tryz.prog 153 #[.pointer (some p), .slice A N cap, .int .i64 0] w fun e w' => e = .returned (.tuple #[.int .i64 (Ord.kv (named L cols) (0)), .int .i64 0]) ∧ Below w.heap.size w w' := by
  have C := Lib.hid (read_yes p F m n L A N cap cols w h hc hl hN hz hm)
  have HL : Hid ((named L cols).length = N) := Lib.hid (by rw [named_len (by rw [h.1.len]; exact hm.2.1), h.1.len, ← hm.2.1, hl])
  have HI : Hid (In64 (named L cols)) := Lib.hid (named_in h.1)
  clear h hc hl hz hm
  go_enter Tryz.func153, Tryz.ntmps153
  go_wp2_with (first
    | (go_at_call 154; (with_reducible refine C.out.mono ?_); rintro e w1 ⟨g1, rfl, hm1, hg1, hb1⟩; have HM1 := Lib.hid hm1; have HB1 := Lib.hid hb1; clear hm1 hb1)
    | (go_at_call 160; (with_reducible refine (tellings_any _).mono ?_); rintro e w2 ⟨g2, rfl, hf0, hf1, hb2⟩; have HB2 := Lib.hid hb2; clear hb2)
    | (go_at_call 165; (with_reducible refine (Ord.min_any (some ⟨g1, 0, none⟩) N N (named L cols) _ (fun e => by cases e) (Nat.le_refl _) (by unfold maxLen; omega) (HM1.out.rd.up HB2.out) HL.out hN HI.out).mono ?_); rintro e w3 ⟨rfl, hb3⟩; have HB3 := Lib.hid hb3; clear hb3))
  go_ret2
  exact ⟨rfl, below_call (below_call HB1.out HB2.out (Nat.le_refl _)) HB3.out (Nat.le_refl _)⟩
set_option maxRecDepth 100000 in
set_option maxHeartbeats 4000000 in
theorem told_middle (p : Addr) (F : Nat → Prop) (m n : Nat) (L : List (List Int)) (A : Option Addr) (N cap : Nat) (cols : List Int) (w : World) (h : PG w p F m n L) (hc : Rd .i64 w A cols) (hl : cols.length = N) (hN : N ≤ 1000) (hz : In64 cols) (hm : Meets m n cols) :
    Calls Tryz.prog 153 #[.pointer (some p), .slice A N cap, .int .i64 1] w fun e w' => e = .returned (.tuple #[.int .i64 (Ord.kv (named L cols) ((((named L cols).length : Int) - 1) / 2)), .int .i64 0]) ∧ Below w.heap.size w w' := by
  have C := Lib.hid (read_yes p F m n L A N cap cols w h hc hl hN hz hm)
  have HL : Hid ((named L cols).length = N) := Lib.hid (by rw [named_len (by rw [h.1.len]; exact hm.2.1), h.1.len, ← hm.2.1, hl])
  have HI : Hid (In64 (named L cols)) := Lib.hid (named_in h.1)
  clear h hc hl hz hm
  go_enter Tryz.func153, Tryz.ntmps153
  go_wp2_with (first
    | (go_at_call 154; (with_reducible refine C.out.mono ?_); rintro e w1 ⟨g1, rfl, hm1, hg1, hb1⟩; have HM1 := Lib.hid hm1; have HB1 := Lib.hid hb1; clear hm1 hb1)
    | (go_at_call 160; (with_reducible refine (tellings_any _).mono ?_); rintro e w2 ⟨g2, rfl, hf0, hf1, hb2⟩; have HB2 := Lib.hid hb2; clear hb2)
    | (go_at_call 166; (with_reducible refine (Ord.median_any (some ⟨g1, 0, none⟩) N N (named L cols) _ (fun e => by cases e) (Nat.le_refl _) (by unfold maxLen; omega) (HM1.out.rd.up HB2.out) HL.out hN HI.out).mono ?_); rintro e w3 ⟨rfl, hb3⟩; have HB3 := Lib.hid hb3; clear hb3))
  go_ret2
  exact ⟨rfl, below_call (below_call HB1.out HB2.out (Nat.le_refl _)) HB3.out (Nat.le_refl _)⟩
theorem least_any (p : Addr) (F : Nat → Prop) (m n : Nat) (L : List (List Int)) (A : Option Addr) (N cap : Nat) (cols : List Int) (w : World) (h : PG w p F m n L) (hc : Rd .i64 w A cols) (hl : cols.length = N) (hN : N ≤ 1000) (hz : In64 cols) :
    Calls Tryz.prog 146 #[.pointer (some p), .slice A N cap] w fun e w' => e = .returned (.tuple #[.int .i64 (Ord.kv (readOf m n L cols) 0), .int .i64 (rdCode m n cols)]) ∧ Below w.heap.size w w' := by
  by_cases hm : Meets m n cols
  · have C := Lib.hid (told_least p F m n L A N cap cols w h hc hl hN hz hm)
    rw [(readOf_yes (L := L) hm).1, (readOf_yes (L := L) hm).2]
    clear h hc hl hz hm
    go_enter Tryz.func146, Tryz.ntmps146
    go_wp2_with (go_at_call 153; (with_reducible refine C.out.mono ?_); rintro e w1 ⟨rfl, hb1⟩; have HB1 := Lib.hid hb1; clear hb1)
    go_ret2
    exact ⟨rfl, HB1.out⟩
  · have C := Lib.hid (told_no p F m n L A N cap cols 0 w h hc hl hN hz hm)
    rw [(readOf_no (L := L) hm).1, (readOf_no (L := L) hm).2]
    rw [(Ord.kv_no (l := []) (k := _) (by simp)).1]
    clear h hc hl hz hm
    go_enter Tryz.func146, Tryz.ntmps146
    go_wp2_with (go_at_call 153; (with_reducible refine C.out.mono ?_); rintro e wx ⟨rfl, hw⟩; subst wx)
    go_ret2
    exact ⟨rfl, Below.refl _ _⟩
theorem middle_any (p : Addr) (F : Nat → Prop) (m n : Nat) (L : List (List Int)) (A : Option Addr) (N cap : Nat) (cols : List Int) (w : World) (h : PG w p F m n L) (hc : Rd .i64 w A cols) (hl : cols.length = N) (hN : N ≤ 1000) (hz : In64 cols) :
    Calls Tryz.prog 147 #[.pointer (some p), .slice A N cap] w fun e w' => e = .returned (.tuple #[.int .i64 (Ord.kv (readOf m n L cols) ((((readOf m n L cols).length : Int) - 1) / 2)), .int .i64 (rdCode m n cols)]) ∧ Below w.heap.size w w' := by
  by_cases hm : Meets m n cols
  · have C := Lib.hid (told_middle p F m n L A N cap cols w h hc hl hN hz hm)
    rw [(readOf_yes (L := L) hm).1, (readOf_yes (L := L) hm).2]
    clear h hc hl hz hm
    go_enter Tryz.func147, Tryz.ntmps147
    go_wp2_with (go_at_call 153; (with_reducible refine C.out.mono ?_); rintro e w1 ⟨rfl, hb1⟩; have HB1 := Lib.hid hb1; clear hb1)
    go_ret2
    exact ⟨rfl, HB1.out⟩
  · have C := Lib.hid (told_no p F m n L A N cap cols 1 w h hc hl hN hz hm)
    rw [(readOf_no (L := L) hm).1, (readOf_no (L := L) hm).2]
    rw [(Ord.kv_no (l := []) (k := _) (by simp)).1]
    clear h hc hl hz hm
    go_enter Tryz.func147, Tryz.ntmps147
    go_wp2_with (go_at_call 153; (with_reducible refine C.out.mono ?_); rintro e wx ⟨rfl, hw⟩; subst wx)
    go_ret2
    exact ⟨rfl, Below.refl _ _⟩
theorem change_no (p : Addr) (F : Nat → Prop) (m n : Nat) (L : List (List Int)) (A : Option Addr) (N cap : Nat) (cols : List Int) (d : Int) (w : World) (h : PG w p F m n L) (hc : Rd .i64 w A cols) (hl : cols.length = N) (hN : N ≤ 1000) (hz : In64 cols) (hm : ¬ Meets m n cols) :
    Calls Tryz.prog 148 #[.pointer (some p), .slice A N cap, .int .i64 d] w fun e w' => e = .returned (.int .i64 1) ∧ w' = w := by
  have C := Lib.hid (read_no p F m n L A N cap cols w h hc hl hN hz hm)
  clear h hc hl hz hm
  go_enter Tryz.func148, Tryz.ntmps148
  go_wp2_with (go_at_call 154; (with_reducible refine C.out.mono ?_); rintro e wx ⟨rfl, hw⟩; subst wx)
  go_ret
  exact ⟨rfl, rfl⟩
/-- The first k sums fit. -/
def sumsFit (Z : List Int) (d : Int) (k : Nat) : Prop := ∀ x ∈ Z.take k, Wid.fit64 (x + d) = true
theorem sums_next {Z : List Int} {d : Int} {k : Nat} {x : Int} (h : sumsFit Z d k) (hx : Z[k]? = some x) (hf : Wid.fit64 (x + d) = true) : sumsFit Z d (k + 1) := by
  obtain ⟨hk, e⟩ := List.getElem?_eq_some_iff.1 hx
  unfold sumsFit
  rw [List.take_succ_eq_append_getElem hk, e]
  intro y hy
  rcases List.mem_append.1 hy with hy | hy
  · exact h y hy
  · simp at hy; subst hy; exact hf
theorem sums_no {L : List (List Int)} {cols : List Int} {d : Int} {k : Nat} {x : Int} (hx : (named L cols)[k]? = some x) (hf : Wid.fit64 (x + d) = false) : chFits L cols d = false := by
  cases h : chFits L cols d with
  | false => rfl
  | true =>
    have h2 := List.all_eq_true.1 h x (List.mem_of_getElem? hx)
    rw [hf] at h2; cases h2
theorem sums_all {L : List (List Int)} {cols : List Int} {d : Int} {k : Nat} (h : sumsFit (named L cols) d k) (hk : (named L cols).length ≤ k) : chFits L cols d = true := by
  unfold sumsFit at h
  rw [List.take_of_length_le hk] at h
  exact List.all_eq_true.2 h
theorem ch_no {m n : Nat} {L : List (List Int)} {cols : List Int} {d : Int} (h : ¬ Meets m n cols) : chCode m n L cols d = 1 ∧ chRes m n L cols d = L := ⟨if_neg h, if_neg (fun g => h g.1)⟩
theorem ch_over {m n : Nat} {L : List (List Int)} {cols : List Int} {d : Int} (h : Meets m n cols) (hf : chFits L cols d = false) : chCode m n L cols d = 4 ∧ chRes m n L cols d = L := by
  unfold chCode chRes
  rw [if_pos h, hf, if_neg (by simp), if_neg (by simp)]
  exact ⟨rfl, rfl⟩
theorem ch_yes {m n : Nat} {L : List (List Int)} {cols : List Int} {d : Int} (h : Meets m n cols) (hf : chFits L cols d = true) : chCode m n L cols d = 0 ∧ chRes m n L cols d = changed L cols d := by
  unfold chCode chRes
  rw [if_pos h, if_pos hf, if_pos ⟨h, hf⟩]
  exact ⟨rfl, rfl⟩
set_option maxRecDepth 100000 in
set_option maxHeartbeats 4000000 in
theorem change_yes (p : Addr) (F : Nat → Prop) (m n : Nat) (L : List (List Int)) (A : Option Addr) (N cap : Nat) (cols : List Int) (d : Int) (w : World) (h : PG w p F m n L) (hc : Rd .i64 w A cols) (hap : ∀ a, A = some a → ¬ F a.block) (hl : cols.length = N) (hN : N ≤ 1000) (hz : In64 cols) (d0 : -9223372036854775808 ≤ d) (d1 : d ≤ 9223372036854775807) (hm : Meets m n cols) :
    Calls Tryz.prog 148 #[.pointer (some p), .slice A N cap, .int .i64 d] w fun e w' => e = .returned (.int .i64 (chCode m n L cols d)) ∧ ∃ F', PG w' p F' m n (chRes m n L cols d) ∧ Kept F w w' ∧ (∀ k, F' k → F k ∨ w.heap.size ≤ k) := by
  have C := Lib.hid (read_yes p F m n L A N cap cols w h hc hl hN hz hm)
  obtain ⟨a, rfl⟩ := hc.some_of (by have := hm.1; have := hm.2.1; omega)
  have HP := Lib.hid h
  have HL := Lib.hid hl
  have HC := Lib.hid hc
  have HZ := Lib.hid hz
  have HM := Lib.hid hm
  have HAP := Lib.hid hap
  have HD := Lib.hid h.dims
  have HNL : Hid ((named L cols).length = N) := Lib.hid (by rw [named_len (by rw [h.1.len]; exact hm.2.1), h.1.len, ← hm.2.1, hl])
  have HNI : Hid (In64 (named L cols)) := Lib.hid (named_in h.1)
  have HSL : Hid (((named L cols).map (fun x => x + d)).length = N) := Lib.hid (by rw [List.length_map]; exact HNL.out)
  clear h hl hc hz hm hap
  go_enter Tryz.func148, Tryz.ntmps148
  go_wp2_with (go_at_call 154; (with_reducible refine C.out.mono ?_); rintro e w1 ⟨g, rfl, hm1, hg1, hb1⟩; have HM1 := Lib.hid hm1; have HB1 := Lib.hid hb1; have HG1 := Lib.hid hg1; clear hm1 hb1 hg1)
  obtain ⟨gad, hgad⟩ : ∃ gad : Addr, (⟨g, 0, none⟩ : Addr) = gad := ⟨_, rfl⟩
  rw [hgad]
  go_loopw [26] (fun i wr => ∃ (j : Nat), j ≤ N ∧ i = .int .i64 j ∧ Ord.Mid wr g 0 (upto2 (named L cols) ((named L cols).map (fun x => x + d)) j) ∧ Kept (fun q => q = g) w1 wr ∧ sumsFit (named L cols) d j) (fun i _ => N - (intOf i).toNat)
  case atStart => exact ⟨0, Nat.zero_le _, rfl, by rw [upto2_start]; exact HM1.out, Kept.refl _ _, fun x hx => by simp at hx⟩
  case round =>
    obtain ⟨j, hj, rfl, hmid, hkept, hfit⟩ := hrel
    have HMI := Lib.hid hmid
    have HK := Lib.hid hkept
    have HF := Lib.hid hfit
    clear hmid hkept hfit
    by_cases hlt : j < N
    · obtain ⟨x, hx⟩ : ∃ x, (named L cols)[j]? = some x := ⟨_, List.getElem?_eq_getElem (by rw [HNL.out]; exact hlt)⟩
      have hxb := HNI.out.at hx
      have c1 := HMI.out.rd.at ((upto2_get HNL.out HSL.out hlt).trans hx)
      rw [hgad] at c1
      have HX := Lib.hid hx
      clear hx
      cases hf : Wid.fit64 (x + d) with
      | false =>
        have HO := Lib.hid (ch_over HM.out (sums_no HX.out hf))
        go_wp2_with (go_at_call 130; (with_reducible refine (Wid.plus_any x d _ hxb.1 hxb.2 d0 d1).mono ?_); rintro e5 w5 ⟨rfl, hb5⟩; rw [hf]; have HB5 := Lib.hid hb5; clear hb5)
        go_ret
        have hbb := ((HK.out.low HB1.out HB1.out.size (fun q hq => by have := HG1.out; omega)))
        have hb6 := below_call hbb HB5.out (Nat.le_refl _)
        exact ⟨ret_i HO.out.1.symm, F, HO.out.2.symm ▸ pg_up HP.out hb6, Kept.of_below hb6, fun k hk => .inl hk⟩
      | true =>
        have HV : Hid (Wid.f64 (x + d) = x + d) := Lib.hid (if_pos hf)
        have HS := Lib.hid (upto2_set HNL.out HSL.out (k := j) (y := x + d) (by rw [List.getElem?_map, HX.out]; rfl))
        have HN := Lib.hid (sums_next HF.out HX.out hf)
        go_wp2_with (go_at_call 130; (with_reducible refine (Wid.plus_any x d _ hxb.1 hxb.2 d0 d1).mono ?_); rintro e5 w5 ⟨rfl, hb5⟩; rw [hf, HV.out]; have fz5 := (HMI.out.up hb5).frozen (0 + j); rw [← Ord.add_at, hgad] at fz5; have e1 := cell_up c1 hb5; have HB5 := Lib.hid hb5; clear hb5)
        go_roundw
        case rel =>
          have hm6 := (HMI.out.up HB5.out).set j (x + d)
          have hk6 : Kept (fun q => q = g) w1 (w5.setCell ⟨g, 0 + j, none⟩ (.int .i64 (x + d))) := (HK.out.then HB5.out).set (.inl rfl) _ _
          rw [HS.out, ← Ord.add_at, hgad] at hm6
          rw [← Ord.add_at, hgad] at hk6
          exact ⟨j + 1, by omega, by go_num, hm6, hk6, HN.out⟩
        case measure => simp [intOf]; omega
    · have e : j = N := by omega
      subst e
      have hf : chFits L cols d = true := sums_all HF.out (by rw [HNL.out]; exact Nat.le_refl _)
      have HO := Lib.hid (ch_yes HM.out hf)
      have HCF := Lib.hid hf
      have hmE := HMI.out
      rw [upto2_end HNL.out HSL.out] at hmE
      have HME := Lib.hid hmE
      clear hmE hf
      obtain ⟨wo, hwo⟩ : ∃ wo, wo = wr := ⟨_, rfl⟩
      subst wr
      have hbb := ((HK.out.low HB1.out HB1.out.size (fun q hq => by have := HG1.out; omega)))
      have HBB := Lib.hid hbb
      have HPo := Lib.hid (pg_up HP.out hbb)
      have HCo := Lib.hid (HC.out.up hbb)
      have HFg : Hid (∀ k, F k → ¬ k = g) := Lib.hid (fun k hk => by have := (pgT p F m n L).lt w HP.out k hk; have := HG1.out; omega)
      have HFl : Hid (∀ k, F k → k < wo.heap.size) := Lib.hid (fun k hk => by have := (pgT p F m n L).lt w HP.out k hk; have := hbb.size; omega)
      have HAl : Hid (∀ b, some a = some b → b.block < wo.heap.size) := Lib.hid (fun b hb => by
        have h2 := HAP.out b hb
        injection hb with hb
        subst hb
        have h1 := cell_lt (HCo.out.at (List.getElem?_eq_getElem (by have := HM.out.1; have := HM.out.2.1; omega : 0 < cols.length)))
        have e2 : (a.add 0).block = a.block := by unfold Addr.add; split <;> rfl
        rwa [e2] at h1)
      have HGl := Lib.hid HME.out.lt
      clear hbb
      go_wp2
      go_loopw [46] (fun i wr => ∃ (k : Nat) (F' : Nat → Prop), k ≤ j ∧ i = .int .i64 k ∧ PG wr p F' m n (upto2 L (changed L cols d) k) ∧ Kept F wo wr ∧ (∀ q, F' q → F q ∨ wo.heap.size ≤ q)) (fun i _ => j - (intOf i).toNat)
      case atStart => exact ⟨0, F, Nat.zero_le _, rfl, by rw [upto2_start]; exact HPo.out, Kept.refl _ _, fun q hq => .inl hq⟩
      case round =>
        obtain ⟨k, F', hk, rfl, hp, hkept, hF⟩ := hrel
        have HPk := Lib.hid hp
        have HKk := Lib.hid hkept
        have HFk := Lib.hid hF
        clear hp hkept hF
        by_cases hlt2 : k < j
        · obtain ⟨v, hv⟩ : ∃ v, cols[k]? = some v := ⟨_, List.getElem?_eq_getElem (by rw [HL.out]; exact hlt2)⟩
          have hvb := HZ.out.at hv
          have hx := named_at HD.out HM.out hv
          have c1 := (HCo.out.keep HKk.out HAP.out).at hv
          have c2 := (HME.out.keep HKk.out (fun h => HFg.out g h rfl)).rd.at (k := .i64) (j := k) (v := at2 L k v + d) (by rw [List.getElem?_map, hx]; rfl)
          rw [hgad] at c2
          have hfx : Wid.fit64 (at2 L k v + d) = true := (List.all_eq_true.1 HCF.out) _ (List.mem_of_getElem? hx)
          have hfb := of_decide_eq_true hfx
          have HPA := Lib.hid (put_at HD.out HM.out d hv HPk.out.dims)
          obtain ⟨s, hs⟩ : ∃ s, s = at2 L k v + d := ⟨_, rfl⟩
          rw [← hs] at c2 hfb HPA
          clear hv hx hfx hs
          go_wp2_with (go_at_call 127; (with_reducible refine (put_any p F' m n _ k v s _ HPk.out (by omega) (by omega) hvb.1 hvb.2 hfb.1 (by omega)).mono ?_); rintro e5 w5 ⟨rfl, F5, hp5, hk5, hf5⟩; have HP5 := Lib.hid hp5; have HK5 := Lib.hid hk5; have HF5 := Lib.hid hf5; clear hp5 hk5 hf5)
          go_roundw
          case rel => exact ⟨k + 1, F5, by omega, by go_num, HPA.out ▸ HP5.out, HKk.out.trans HK5.out (fun q hq h => (HFk.out q h).elim id (fun h2 => by omega)), fun q hq => (HF5.out q hq).elim (fun h => HFk.out q h) (fun h => .inr (by have := HKk.out.size; omega))⟩
          case measure => simp [intOf]; omega
        · have e : k = j := by omega
          subst e
          have hpe := HPk.out
          rw [upto2_end (n := k) (by rw [HD.out.len, ← HM.out.2.1]; exact HL.out) (by rw [changed_len d (by rw [HD.out.len]; exact HM.out.2.1), HD.out.len, ← HM.out.2.1]; exact HL.out)] at hpe
          have HPE := Lib.hid hpe
          clear hpe
          go_wp2
          go_ret
          exact ⟨ret_i HO.out.1.symm, F', HO.out.2.symm ▸ HPE.out, (Kept.of_below HBB.out).trans HKk.out (fun q hq h => h), fun q hq => (HFk.out q hq).elim .inl (fun h => .inr (by have := HBB.out.size; omega))⟩
theorem change_any (p : Addr) (F : Nat → Prop) (m n : Nat) (L : List (List Int)) (A : Option Addr) (N cap : Nat) (cols : List Int) (d : Int) (w : World) (h : PG w p F m n L) (hc : Rd .i64 w A cols) (hap : ∀ a, A = some a → ¬ F a.block) (hl : cols.length = N) (hN : N ≤ 1000) (hz : In64 cols) (d0 : -9223372036854775808 ≤ d) (d1 : d ≤ 9223372036854775807) :
    Calls Tryz.prog 148 #[.pointer (some p), .slice A N cap, .int .i64 d] w fun e w' => e = .returned (.int .i64 (chCode m n L cols d)) ∧ ∃ F', PG w' p F' m n (chRes m n L cols d) ∧ Kept F w w' ∧ (∀ k, F' k → F k ∨ w.heap.size ≤ k) := by
  by_cases hm : Meets m n cols
  · exact change_yes p F m n L A N cap cols d w h hc hap hl hN hz d0 d1 hm
  · rw [(ch_no hm).1, (ch_no hm).2]
    refine (change_no p F m n L A N cap cols d w h hc hl hN hz hm).mono ?_
    rintro e w' ⟨rfl, rfl⟩
    exact ⟨rfl, F, h, Kept.refl _ _, fun k hk => .inl hk⟩
end Go.Proofs.YtiblpdjehknbcaaGreat.Lin
/- The walks of the document's own answers for layer 8. Printed by wip/gen/lin.py. -/
namespace Go.Proofs.YtiblpdjehknbcaaGreat.Lin
open Go Go.RowKit Lw Grd
set_option linter.unusedVariables false
set_option linter.unusedSimpArgs false
set_option maxRecDepth 100000 in
set_option maxHeartbeats 2000000 in
theorem rmeet_any (q : Addr) (F : Nat → Prop) (m n : Nat) (L : List (List Int)) (A : Option Addr) (N cap : Nat) (cols : List Int) (w : World) (h : DG w q F m n L) (hc : Rd .i64 w A cols) (hl : cols.length = N) (hN : N ≤ 1000) (hz : In64 cols) :
    Calls Tryz.prog 83 #[.pointer (some q), .slice A N cap] w fun e w' => e = .returned (.bool (meetB m n cols)) ∧ Below w.heap.size w w' := by
  obtain ⟨b, hdr, R, rfl, hg, rfl, hG, hd⟩ := h
  have hRm : R.length = m := by rw [← nums_len]; exact hd.len
  have hm8 := hd.m8
  have hn128 := hd.n128
  obtain ⟨Ah, caph, rfl, hcaph, hAh, hcell⟩ := hg.hd
  have hb : w.cell? ⟨b, 0, none⟩ = some (.slice Ah R.length caph) := cell_of_row w b 0 _ _ _ hg.cell
  have HC := Lib.hid hc
  have HL := Lib.hid hl
  have HZ := Lib.hid hz
  have HCE := Lib.hid hcell
  have HD := Lib.hid hd
  have HR := Lib.hid hRm
  rw [hRm] at hb
  clear hc hz hcell hAh hg hG hcaph
  by_cases h0 : m = 0
  · have hr : meetB m n cols = false := decide_eq_false (fun h => by have := h.1; omega)
    subst h0
    clear hd hRm hl
    go_enter Tryz.func83, Tryz.ntmps83
    go_wp2
    go_ret
    exact ⟨ret_b hr.symm, Below.refl _ _⟩
  · have hm0 : ((m : Int) == 0) = false := by simp; omega
    by_cases h1 : N = m
    · subst h1
      have HR2 := HR
      clear hd hRm hl
      go_enter Tryz.func83, Tryz.ntmps83
      go_wp2
      go_loopw [5] (fun i wr => ∃ k d : Nat, k ≤ N ∧ i = .int .i64 k ∧ (∀ v ∈ cols.take k, 0 ≤ v ∧ v < n) ∧ wr = w.drewN d) (fun i _ => N - (intOf i).toNat)
      case atStart => exact ⟨0, 0, Nat.zero_le _, rfl, fun v hv => by simp at hv, rfl⟩
      case round =>
        obtain ⟨k, d, hk, rfl, hall, rfl⟩ := hrel
        have HA := Lib.hid hall
        clear hall
        by_cases hlt : k < N
        · have hkl : k < cols.length := by have := HL.out; omega
          obtain ⟨v, hv⟩ : ∃ v, cols[k]? = some v := ⟨_, List.getElem?_eq_getElem hkl⟩
          obtain ⟨r, hr⟩ : ∃ r, R[k]? = some r := ⟨_, List.getElem?_eq_getElem (by have := HR.out; omega)⟩
          obtain ⟨ad, rfl, hcv⟩ := HC.out k v hv
          obtain ⟨ah, rfl, hcr⟩ := HCE.out k r hr
          have hrl : r.2.2.length = n := (HD.out.rows _ (nums_mem (List.mem_of_getElem? hr))).1
          have hvz := HZ.out.at hv
          have HNO : ∀ (_ : v < 0 ∨ (n : Int) ≤ v), meetB N n cols = false := fun h => decide_eq_false (fun hm => by have := hm.2.2 v (List.mem_of_getElem? hv); omega)
          have HNX : Hid (∀ u ∈ cols.take (k + 1), (0 ≤ v ∧ v < n) → 0 ≤ u ∧ u < n) := Lib.hid (fun u hu hb => by
            rw [Ord.take_next cols k v hv] at hu
            rcases List.mem_append.1 hu with h | h
            · exact HA.out u h
            · simp at h; subst h; exact hb)
          obtain ⟨gr, gc, zs⟩ := r
          unfold rowHd at hcr
          simp only at hcr hrl
          rw [hrl] at hcr
          have HNO := Lib.hid HNO
          clear hv hr hrl
          by_cases c1 : v < 0
          · have HF := Lib.hid (HNO.out (.inl c1))
            go_wp2
            go_quiet (fail)
            go_wp2
            go_ret
            exact ⟨ret_b HF.out.symm, by (repeat' (first | (with_reducible exact Below.refl _ _) | (with_reducible assumption) | (with_reducible refine below_over ?_ _ _) | (with_reducible refine Lw.below_alloc ?_ _) | (with_reducible refine Below.drew ?_) | (with_reducible refine below_drewN ?_ _) | (with_reducible refine Below.setCell ?_ ?_ _) | go_size))⟩
          · by_cases c2 : (n : Int) ≤ v
            · have HF := Lib.hid (HNO.out (.inr c2))
              go_wp2
              go_quiet (fail)
              go_wp2
              go_ret
              exact ⟨ret_b HF.out.symm, by (repeat' (first | (with_reducible exact Below.refl _ _) | (with_reducible assumption) | (with_reducible refine below_over ?_ _ _) | (with_reducible refine Lw.below_alloc ?_ _) | (with_reducible refine Below.drew ?_) | (with_reducible refine below_drewN ?_ _) | (with_reducible refine Below.setCell ?_ ?_ _) | go_size))⟩
            · go_wp2
              go_quiet (fail)
              go_wp2
              go_roundw
              case rel => exact ⟨k + 1, _, by omega, by go_num, fun u hu => HNX.out u hu ⟨by omega, by omega⟩, rfl⟩
              case measure => simp [intOf]; omega
        · have e : k = N := by omega
          subst e
          have HT : Hid (meetB k n cols = true) := Lib.hid (decide_eq_true ⟨by omega, HL.out, fun v hv => HA.out v (by rw [List.take_of_length_le (by have := HL.out; omega)]; exact hv)⟩)
          go_wp2
          go_ret
          exact ⟨ret_b HT.out.symm, by (repeat' (first | (with_reducible exact Below.refl _ _) | (with_reducible assumption) | (with_reducible refine below_over ?_ _ _) | (with_reducible refine Lw.below_alloc ?_ _) | (with_reducible refine Below.drew ?_) | (with_reducible refine below_drewN ?_ _) | (with_reducible refine Below.setCell ?_ ?_ _) | go_size))⟩
    · have hr : meetB m n cols = false := decide_eq_false (fun h => h1 (by rw [← h.2.1]; exact hl.symm))
      have hne : ((N : Int) == m) = false := by simp; omega
      have hne2 : ((N : Int) != m) = true := by simp; omega
      clear hd hRm hl
      go_enter Tryz.func83, Tryz.ntmps83
      go_wp2
      go_ret
      exact ⟨ret_b hr.symm, Below.refl _ _⟩
theorem ret_ri {A : Option Addr} {n c : Nat} {x y : Int} (h : x = y) : Ending.returned (.tuple #[.slice A n c, .int .i64 x]) = .returned (.tuple #[.slice A n c, .int .i64 y]) := by rw [h]
theorem dg_up {w w' : World} {q : Addr} {F : Nat → Prop} {m n : Nat} {L : List (List Int)} (h : DG w q F m n L) (hb : Below w.heap.size w w') : DG w' q F m n L := (dgT q F m n L).keep w w' (fun _ => False) h (Kept.of_below hb) (fun _ _ h => h)
theorem own_up {w w' : World} {B : Nat} {e : TypeId} {v : Value} {n : Nat} {xs : List Value} (h : w.ownsRow B e 1 v n xs) (hb : Below w.heap.size w w') : w'.ownsRow B e 1 v n xs := (Kept.of_below (F := fun _ => False) hb).own h (fun _ _ h => h)
set_option maxRecDepth 100000 in
set_option maxHeartbeats 4000000 in
theorem rread_any (q : Addr) (F : Nat → Prop) (m n : Nat) (L : List (List Int)) (A : Option Addr) (N cap : Nat) (cols : List Int) (w : World) (h : DG w q F m n L) (hc : Rd .i64 w A cols) (hl : cols.length = N) (hN : N ≤ 1000) (hz : In64 cols) :
    Calls Tryz.prog 91 #[.pointer (some q), .slice A N cap] w fun e w' => ∃ (A2 : Addr) (len cap2 : Nat), e = .returned (.tuple #[.slice (some A2) len cap2, .int .i64 (rdCode m n cols)]) ∧ Rd .i64 w' (some A2) (readOf m n L cols) ∧ (readOf m n L cols).length = len ∧ len ≤ cap2 ∧ cap2 ≤ maxLen ∧ Below w.heap.size w w' := by
  obtain ⟨i0, hi, hz0, hz1, hz2⟩ := info_parts i64_info
  have HH := Lib.hid h
  have hm8 := h.dims.m8
  have hn128 := h.dims.n128
  have HC := Lib.hid hc
  have HL := Lib.hid hl
  have HZ := Lib.hid hz
  by_cases hme : Meets m n cols
  · have e1 : meetB m n cols = true := decide_eq_true hme
    have hNm : N = m := by rw [← hl]; exact hme.2.1
    subst hNm
    have HME := Lib.hid hme
    have HCD : Hid (rdCode N n cols = 0) := Lib.hid (if_pos hme)
    have HRE : Hid (readOf N n L cols = named L cols) := Lib.hid (if_pos hme)
    obtain ⟨b, hdr, R, rfl, hg, rfl, hG, hd⟩ := h
    have hRm : R.length = N := by rw [← nums_len]; exact hd.len
    have HD := Lib.hid hd
    have HR := Lib.hid hRm
    obtain ⟨Ah, caph, rfl, hcaph, hAh, hcell⟩ := hg.hd
    have hb := cell_of_row w b 0 _ _ _ hg.cell
    simp only [List.getElem?_toArray, List.getElem?_cons_zero] at hb
    rw [hRm] at hb
    have HBH := Lib.hid hb
    have HCE := Lib.hid hcell
    have HG := Lib.hid hg
    clear hc hz hcell hAh hg hG hcaph hme hd hRm hl hb
    go_enter Tryz.func91, Tryz.ntmps91
    go_wp2_with (go_at_call 83; (with_reducible refine (rmeet_any _ F N n (nums R) A N cap cols _ (dg_up HH.out (by repeat' (first | (with_reducible exact Below.refl _ _) | (with_reducible assumption) | (with_reducible refine below_over ?_ _ _) | (with_reducible refine Lw.below_alloc ?_ _) | (with_reducible refine Below.drew ?_) | (with_reducible refine below_drewN ?_ _) | (with_reducible refine Below.setCell ?_ ?_ _) | go_size))) (HC.out.up (by repeat' (first | (with_reducible exact Below.refl _ _) | (with_reducible assumption) | (with_reducible refine below_over ?_ _ _) | (with_reducible refine Lw.below_alloc ?_ _) | (with_reducible refine Below.drew ?_) | (with_reducible refine below_drewN ?_ _) | (with_reducible refine Below.setCell ?_ ?_ _) | go_size))) HL.out hN HZ.out).mono ?_); rintro e w2 ⟨rfl, hb2⟩; have HBW : Hid (Below w.heap.size w w2) := Lib.hid (below_call (by repeat' (first | (with_reducible exact Below.refl _ _) | (with_reducible assumption) | (with_reducible refine below_over ?_ _ _) | (with_reducible refine Lw.below_alloc ?_ _) | (with_reducible refine Below.drew ?_) | (with_reducible refine below_drewN ?_ _) | (with_reducible refine Below.setCell ?_ ?_ _) | go_size)) hb2 (Nat.le_refl _)); have HOW2 : Hid (w2.ownsRow w.heap.size 2 1 (.slice (some ⟨w.heap.size, 0, none⟩) 0 0) 0 (([] : List Int).map (Value.int .i64))) := Lib.hid (own_up (own_empty w _ 1 _ (Nat.le_refl _)) hb2); clear hb2)
    go_loopw [6, 7] (fun v i wr => ∃ (k : Nat) (A1 : Addr) (cp : Nat), k ≤ N ∧ i = .int .i64 k ∧ v = .slice (some A1) k cp ∧ wr.ownsRow w.heap.size 2 1 v k ((named ((nums R).take k) (cols.take k)).map (Value.int .i64)) ∧ Below w.heap.size w wr) (fun _ i _ => N - (intOf i).toNat)
    case atStart => exact ⟨0, ⟨w.heap.size, 0, none⟩, 0, Nat.zero_le _, rfl, rfl, HOW2.out, HBW.out⟩
    case round =>
      obtain ⟨k, A1, cp, hk, rfl, rfl, hown, hbel⟩ := hrel
      have HOW := Lib.hid hown
      have HBL := Lib.hid hbel
      by_cases hlt : k < N
      · obtain ⟨v, hv⟩ : ∃ v, cols[k]? = some v := ⟨_, List.getElem?_eq_getElem (by have := HL.out; omega)⟩
        obtain ⟨r, hr⟩ : ∃ r, R[k]? = some r := ⟨_, List.getElem?_eq_getElem (by have := HR.out; omega)⟩
        obtain ⟨ad, rfl, hcv⟩ := HC.out k v hv
        obtain ⟨ah, rfl, hcr⟩ := HCE.out k r hr
        have hrl : r.2.2.length = n := (HD.out.rows _ (nums_mem (List.mem_of_getElem? hr))).1
        have hrz := (HD.out.rows _ (nums_mem (List.mem_of_getElem? hr))).2
        have hvb := HME.out.2.2 v (List.mem_of_getElem? hv)
        obtain ⟨vn, rfl⟩ : ∃ vn : Nat, v = vn := ⟨v.toNat, by omega⟩
        obtain ⟨x, hx⟩ : ∃ x, r.2.2[vn]? = some x := ⟨_, List.getElem?_eq_getElem (by omega)⟩
        have hcx := HG.out.numAt (List.mem_of_getElem? hr) hx
        have hxb := hrz.at hx
        have HNX := Lib.hid (named_next (nums R) cols k r.2.2 vn (by unfold nums; rw [List.getElem?_map, hr]; rfl) hv)
        have hget : r.2.2[(vn : Int).toNat]?.getD 0 = x := by rw [show (vn : Int).toNat = vn from rfl, hx]; rfl
        rw [hget] at HNX
        obtain ⟨gr, gc, zs⟩ := r
        unfold rowHd at hcr
        simp only at hcr hrl hcx
        rw [hrl] at hcr
        obtain ⟨gad, hgad⟩ : ∃ gad : Addr, (⟨gr, 0, none⟩ : Addr) = gad := ⟨_, rfl⟩
        rw [hgad] at hcr hcx
        clear hv hr hx hrl hrz hget hgad hown hbel
        have hbs := HBL.out.size
        go_wp2
        go_region_held3 (fun w' => w'.cell? ⟨b, 0, none⟩ = some (.slice (some ah) N caph) ∧ w'.cell? (ah.add k) = some (.slice (some gad) n gc) ∧ w'.cell? (ad.add k) = some (.int .i64 vn) ∧ w'.cell? (gad.add vn) = some (.int .i64 x)) (refine ⟨cell_up HBH.out ?_, cell_up hcr ?_, cell_up hcv ?_, cell_up hcx ?_⟩ <;> (repeat' (first | (with_reducible exact Below.refl _ _) | (with_reducible assumption) | (with_reducible exact HBL.out) | (with_reducible refine below_over ?_ _ _) | (with_reducible refine Lw.below_alloc ?_ _) | (with_reducible refine Below.drew ?_) | (with_reducible refine below_drewN ?_ _) | (with_reducible refine Below.setCell ?_ ?_ _) | go_size))) (first
          | (refine app_step .i64 rfl _ _ 48 rfl w.heap.size 2 i0 8 i64s_u hi hz0 hz1 hz2 (.slice (some A1) k cp) k (named ((nums R).take k) (cols.take k)) rfl (own_up HOW.out (by repeat' (first | (with_reducible exact Below.refl _ _) | (with_reducible assumption) | (with_reducible refine below_over ?_ _ _) | (with_reducible refine Lw.below_alloc ?_ _) | (with_reducible refine Below.drew ?_) | (with_reducible refine below_drewN ?_ _) | (with_reducible refine Below.setCell ?_ ?_ _) | go_size))) (fun h => by cases h) _ 1 1 [x] rfl (by simp) rfl (rd_one (by simp [go_sem])) (by unfold maxLen; omega) (by omega) (by simp <;> omega) ?_; intro A8 cap8 w8 own8 grow8 rd8 c8 d8; have hb8 := app_below3 (w := w) (by repeat' (first | (with_reducible exact Below.refl _ _) | (with_reducible assumption) | (with_reducible exact HBL.out) | (with_reducible refine below_over ?_ _ _) | (with_reducible refine Lw.below_alloc ?_ _) | (with_reducible refine Below.drew ?_) | (with_reducible refine below_drewN ?_ _) | (with_reducible refine Below.setCell ?_ ?_ _) | go_size)) grow8 (fun q hq => own_ge HOW.out q hq)))
        all_goals go_wp2
        all_goals go_roundw
        all_goals first
          | exact ⟨k + 1, A8, cap8, by omega, by go_num, rfl, by rw [HNX.out]; exact own8, hb8⟩
          | (simp [intOf]; omega)
      · have e : k = N := by omega
        subst e
        have hfull : named ((nums R).take k) (cols.take k) = named (nums R) cols := by
          rw [List.take_of_length_le (by rw [HD.out.len]; exact Nat.le_refl _), List.take_of_length_le (by rw [HL.out]; exact Nat.le_refl _)]
        rw [hfull] at hown
        obtain ⟨A3, cp3, hv3, hrd3, h2, h3, h4⟩ := own_rd hown
        injection hv3 with hv1 hv2 hv3
        subst hv1 hv3
        have HRD := Lib.hid hrd3
        have HLN : Hid ((named (nums R) cols).length = k) := Lib.hid (by rw [named_len (by rw [HL.out, HD.out.len]), HD.out.len])
        clear hfull hown hrd3 h4 hbel
        go_wp2
        go_ret2
        exact ⟨A1, k, cp, ret_ri HCD.out.symm, by rw [HRE.out]; exact HRD.out, by rw [HRE.out]; exact HLN.out, h2, h3, HBL.out⟩
  · have e1 : meetB m n cols = false := decide_eq_false hme
    have HCD : Hid (rdCode m n cols = 1) := Lib.hid (if_neg hme)
    have HRE : Hid (readOf m n L cols = []) := Lib.hid (if_neg hme)
    clear h hc hl hz hme
    go_enter Tryz.func91, Tryz.ntmps91
    go_wp2_with (go_at_call 83; (with_reducible refine (rmeet_any q F m n L A N cap cols _ (dg_up HH.out (by repeat' (first | (with_reducible exact Below.refl _ _) | (with_reducible assumption) | (with_reducible refine below_over ?_ _ _) | (with_reducible refine Lw.below_alloc ?_ _) | (with_reducible refine Below.drew ?_) | (with_reducible refine below_drewN ?_ _) | (with_reducible refine Below.setCell ?_ ?_ _) | go_size))) (HC.out.up (by repeat' (first | (with_reducible exact Below.refl _ _) | (with_reducible assumption) | (with_reducible refine below_over ?_ _ _) | (with_reducible refine Lw.below_alloc ?_ _) | (with_reducible refine Below.drew ?_) | (with_reducible refine below_drewN ?_ _) | (with_reducible refine Below.setCell ?_ ?_ _) | go_size))) HL.out hN HZ.out).mono ?_); rintro e w2 ⟨rfl, hb2⟩; have HBW : Hid (Below w.heap.size w w2) := Lib.hid (below_call (by repeat' (first | (with_reducible exact Below.refl _ _) | (with_reducible assumption) | (with_reducible refine below_over ?_ _ _) | (with_reducible refine Lw.below_alloc ?_ _) | (with_reducible refine Below.drew ?_) | (with_reducible refine below_drewN ?_ _) | (with_reducible refine Below.setCell ?_ ?_ _) | go_size)) hb2 (Nat.le_refl _)); clear hb2)
    all_goals go_ret2
    all_goals exact ⟨⟨w.heap.size, 0, none⟩, 0, 0, ret_ri HCD.out.symm, by rw [HRE.out]; exact rd_nil _ _ _, by rw [HRE.out]; rfl, Nat.le_refl _, by simp, HBW.out⟩
theorem named_mem : ∀ {L : List (List Int)} {cols : List Int}, (∀ r ∈ L, In64 r) → In64 (named L cols)
  | [], _, _ => fun v hv => by simp [named] at hv
  | _ :: _, [], _ => fun v hv => by simp [named] at hv
  | r :: L, c :: cols, h => fun v hv => by
    unfold named at hv
    rw [List.zipWith_cons_cons] at hv
    rcases List.mem_cons.1 hv with h1 | h1
    · subst h1
      cases hx : r[c.toNat]? with
      | none => simp
      | some x => simpa using (h r (by simp)).at hx
    · exact named_mem (L := L) (cols := cols) (fun r hr => h r (by simp [hr])) v h1
theorem read_ok {m n : Nat} {L : List (List Int)} {cols : List Int} (h : Dims m n L) : In64 (readOf m n L cols) ∧ (readOf m n L cols).length ≤ 1000 := by
  unfold readOf
  split
  · refine ⟨named_mem (fun r hr => (h.rows r hr).2), ?_⟩
    unfold named
    rw [List.length_zipWith, h.len]
    have := h.m8
    omega
  · exact ⟨in64_nil, by simp⟩
set_option maxRecDepth 100000 in
theorem rleast_any (q : Addr) (F : Nat → Prop) (m n : Nat) (L : List (List Int)) (A : Option Addr) (N cap : Nat) (cols : List Int) (w : World) (h : DG w q F m n L) (hc : Rd .i64 w A cols) (hl : cols.length = N) (hN : N ≤ 1000) (hz : In64 cols) :
    Calls Tryz.prog 82 #[.pointer (some q), .slice A N cap] w fun e w' => e = .returned (.tuple #[.int .i64 (Ord.kv (readOf m n L cols) (0)), .int .i64 (rdCode m n cols)]) ∧ Below w.heap.size w w' := by
  have HH := Lib.hid h
  have HC := Lib.hid hc
  have HL := Lib.hid hl
  have HZ := Lib.hid hz
  have hin : Hid (In64 (readOf m n L cols) ∧ (readOf m n L cols).length ≤ 1000) := Lib.hid (read_ok h.dims)
  clear h hc hl hz
  go_enter Tryz.func82, Tryz.ntmps82
  go_wp2_with (first
    | (go_at_call 91; (with_reducible refine (rread_any q F m n L A N cap cols _ HH.out HC.out HL.out hN HZ.out).mono ?_); rintro e w2 ⟨A2, len, cap2, rfl, hrd, hlen, hc2, hm2, hb2⟩; have HRD := Lib.hid hrd; have HLE := Lib.hid hlen; have hle : len ≤ 1000 := (by rw [← hlen]; exact hin.out.2); have HB2 := Lib.hid hb2; clear hrd hlen hb2)
    | (go_at_call 92; (with_reducible refine (Ord.rmin_any (some A2) len cap2 (readOf m n L cols) _ (by simp) hc2 hm2 (HRD.out.up (by repeat' (first | (with_reducible exact Below.refl _ _) | (with_reducible assumption) | (with_reducible refine below_over ?_ _ _) | (with_reducible refine Lw.below_alloc ?_ _) | (with_reducible refine Below.drew ?_) | (with_reducible refine below_drewN ?_ _) | (with_reducible refine Below.setCell ?_ ?_ _) | go_size))) HLE.out hle hin.out.1).mono ?_); rintro e w3 ⟨rfl, hb3⟩; have HB3 := Lib.hid (below_call HB2.out hb3 (Nat.le_refl _)); clear hb3))
  all_goals go_ret2
  all_goals exact ⟨rfl, HB3.out⟩
set_option maxRecDepth 100000 in
theorem rmiddle_any (q : Addr) (F : Nat → Prop) (m n : Nat) (L : List (List Int)) (A : Option Addr) (N cap : Nat) (cols : List Int) (w : World) (h : DG w q F m n L) (hc : Rd .i64 w A cols) (hl : cols.length = N) (hN : N ≤ 1000) (hz : In64 cols) :
    Calls Tryz.prog 88 #[.pointer (some q), .slice A N cap] w fun e w' => e = .returned (.tuple #[.int .i64 (Ord.kv (readOf m n L cols) ((((readOf m n L cols).length : Int) - 1) / 2)), .int .i64 (rdCode m n cols)]) ∧ Below w.heap.size w w' := by
  have HH := Lib.hid h
  have HC := Lib.hid hc
  have HL := Lib.hid hl
  have HZ := Lib.hid hz
  have hin : Hid (In64 (readOf m n L cols) ∧ (readOf m n L cols).length ≤ 1000) := Lib.hid (read_ok h.dims)
  clear h hc hl hz
  go_enter Tryz.func88, Tryz.ntmps88
  go_wp2_with (first
    | (go_at_call 91; (with_reducible refine (rread_any q F m n L A N cap cols _ HH.out HC.out HL.out hN HZ.out).mono ?_); rintro e w2 ⟨A2, len, cap2, rfl, hrd, hlen, hc2, hm2, hb2⟩; have HRD := Lib.hid hrd; have HLE := Lib.hid hlen; have hle : len ≤ 1000 := (by rw [← hlen]; exact hin.out.2); have HB2 := Lib.hid hb2; clear hrd hlen hb2)
    | (go_at_call 94; (with_reducible refine (Ord.rmedian_any (some A2) len cap2 (readOf m n L cols) _ (by simp) hc2 hm2 (HRD.out.up (by repeat' (first | (with_reducible exact Below.refl _ _) | (with_reducible assumption) | (with_reducible refine below_over ?_ _ _) | (with_reducible refine Lw.below_alloc ?_ _) | (with_reducible refine Below.drew ?_) | (with_reducible refine below_drewN ?_ _) | (with_reducible refine Below.setCell ?_ ?_ _) | go_size))) HLE.out hle hin.out.1).mono ?_); rintro e w3 ⟨rfl, hb3⟩; have HB3 := Lib.hid (below_call HB2.out hb3 (Nat.le_refl _)); clear hb3))
  all_goals go_ret2
  all_goals exact ⟨rfl, HB3.out⟩
theorem int_info : (Tryz.prog.info? 3).map (fun i => (i.zero, i.size, i.bytes)) = some (some (.int .i64 0), 1, 8) := by kernel_rfl
theorem ints_u : Tryz.prog.underlying 142 = some (.slice 3) := by kernel_rfl
def cutAt (cols : List Int) (v : Nat) (r : Nat) : Int := match cols[r]? with
  | some x => x % 65536 % v
  | none => 0
def cutOf (cols : List Int) (rows v : Nat) : List Int := (List.range rows).map (cutAt cols v)
theorem cut_in (cols : List Int) (rows v : Nat) (hv : 1 ≤ v) : ∀ x ∈ cutOf cols rows v, 0 ≤ x ∧ x < v := by
  intro x hx
  obtain ⟨r, _, rfl⟩ := List.mem_map.1 hx
  unfold cutAt
  split
  · exact ⟨Int.emod_nonneg _ (by omega), Int.emod_lt_of_pos _ (by omega)⟩
  · omega
theorem cut_len (cols : List Int) (rows v : Nat) : (cutOf cols rows v).length = rows := by simp [cutOf]
end Go.Proofs.YtiblpdjehknbcaaGreat.Lin
/- The walk of the document's Change. Printed by wip/gen/lin.py. -/
namespace Go.Proofs.YtiblpdjehknbcaaGreat.Lin
open Go Go.RowKit Lw Grd
set_option linter.unusedVariables false
set_option linter.unusedSimpArgs false
theorem nums_set2 (R : List Row) (K C : Nat) (n : Int) : nums (set2 R K C n) = (nums R).modify K (fun r => r.set C n) := by
  unfold nums set2
  apply List.ext_getElem?
  intro i
  rw [List.getElem?_map, List.getElem?_modify, List.getElem?_modify, List.getElem?_map]
  cases R[i]? <;> simp
  split <;> simp
theorem RF_set2 {b : Nat} {hdr : Value} {R : List Row} {K C : Nat} {n : Int} (k : Nat) : RF b hdr (set2 R K C n) k ↔ RF b hdr R k := by
  have h := set2_bl R K C n
  unfold RF
  have e : ∀ (S : List Row), (∃ r ∈ S, r.1 = k) ↔ k ∈ S.map (·.1) := fun S => by simp [List.mem_map]
  rw [e, e, h]
theorem modify_app {α : Type} (f : α → α) (r : α) (t : List α) : ∀ (a : List α), (a ++ r :: t).modify a.length f = a ++ f r :: t
  | [] => rfl
  | x :: a => by
    have ih := modify_app f r t a
    simp only [List.cons_append, List.length_cons, List.modify_succ_cons, ih]
/-- The first k rows changed. -/
def half (L : List (List Int)) (cols : List Int) (d : Int) (k : Nat) : List (List Int) := changed (L.take k) (cols.take k) d ++ L.drop k
theorem half_zero (L : List (List Int)) (cols : List Int) (d : Int) : half L cols d 0 = L := by simp [half, changed]
theorem half_full {L : List (List Int)} {cols : List Int} (d : Int) (h : cols.length = L.length) : half L cols d L.length = changed L cols d := by
  unfold half
  rw [List.take_of_length_le (Nat.le_refl _), List.take_of_length_le (by omega), List.drop_of_length_le (Nat.le_refl _), List.append_nil]
theorem half_next {L : List (List Int)} {cols : List Int} {d : Int} {k : Nat} {r : List Int} {v : Nat} {x : Int} (h : cols.length = L.length) (hr : L[k]? = some r) (hv : cols[k]? = some (v : Int)) (hx : r[v]? = some x) :
    (half L cols d k).modify k (fun r => r.set v (x + d)) = half L cols d (k + 1) := by
  obtain ⟨h1, e1⟩ := List.getElem?_eq_some_iff.1 hr
  obtain ⟨h2, e2⟩ := List.getElem?_eq_some_iff.1 hv
  have hl : (changed (L.take k) (cols.take k) d).length = k := by unfold changed; rw [List.length_zipWith, List.length_take, List.length_take]; omega
  unfold half
  rw [List.drop_eq_getElem_cons h1, e1]
  have hm := modify_app (fun r => r.set v (x + d)) r (L.drop (k + 1)) (changed (L.take k) (cols.take k) d)
  rw [hl] at hm
  rw [hm]
  have e : changed (L.take (k + 1)) (cols.take (k + 1)) d = changed (L.take k) (cols.take k) d ++ [r.set v (x + d)] := by
    unfold changed
    rw [List.take_succ_eq_append_getElem h1, List.take_succ_eq_append_getElem h2, List.zipWith_append (by simp; omega), e1, e2]
    simp [hx]
  rw [e, List.append_assoc]
  rfl
theorem half_get {L : List (List Int)} {cols : List Int} {d : Int} {k : Nat} {r : List Int} (h : cols.length = L.length) (hr : L[k]? = some r) : (half L cols d k)[k]? = some r := by
  obtain ⟨h1, e1⟩ := List.getElem?_eq_some_iff.1 hr
  have hl : (changed (L.take k) (cols.take k) d).length = k := by unfold changed; rw [List.length_zipWith, List.length_take, List.length_take]; omega
  unfold half
  rw [List.getElem?_append_right (by omega), hl, Nat.sub_self, List.drop_eq_getElem_cons h1, e1]
  rfl
theorem map_named_next (L : List (List Int)) (cols : List Int) (d : Int) (k : Nat) (r : List Int) (v x : Int) (hr : L[k]? = some r) (hv : cols[k]? = some v) (hx : r[v.toNat]?.getD 0 = x) : (named (L.take (k + 1)) (cols.take (k + 1))).map (· + d) = (named (L.take k) (cols.take k)).map (· + d) ++ [x + d] := by
  rw [named_next L cols k r v hr hv, List.map_append, hx]
  rfl
theorem chFits_cons (r : List Int) (L : List (List Int)) (c : Int) (cols : List Int) (d : Int) : chFits (r :: L) (c :: cols) d = (Wid.fit64 (r[c.toNat]?.getD 0 + d) && chFits L cols d) := by
  unfold chFits named
  rw [List.zipWith_cons_cons, List.all_cons]
theorem changed_rows {n : Nat} : ∀ {L : List (List Int)} {cols : List Int} {d : Int}, (∀ r ∈ L, r.length = n ∧ In64 r) → chFits L cols d = true → ∀ r ∈ changed L cols d, r.length = n ∧ In64 r
  | [], _, _, _, _ => fun r hr => by simp [changed] at hr
  | _ :: _, [], _, _, _ => fun r hr => by simp [changed] at hr
  | r0 :: L, c :: cols, d, h, hf => fun r hr => by
    rw [chFits_cons, Bool.and_eq_true] at hf
    unfold changed at hr
    rw [List.zipWith_cons_cons] at hr
    rcases List.mem_cons.1 hr with h1 | h1
    · subst h1
      have h2 := h r0 (by simp)
      have h3 := fit64_in hf.1
      exact ⟨by rw [List.length_set]; exact h2.1, in64_set h2.2 _ h3.1 h3.2⟩
    · exact changed_rows (fun r hr => h r (by simp [hr])) hf.2 r h1
theorem changed_dims {m n : Nat} {L : List (List Int)} {cols : List Int} {d : Int} (h : Dims m n L) (hl : cols.length = m) (hf : chFits L cols d = true) : Dims m n (changed L cols d) :=
  ⟨by unfold changed; rw [List.length_zipWith, h.len, hl]; omega, h.m8, h.n128, changed_rows h.rows hf⟩
theorem named_take : ∀ (L : List (List Int)) (cols : List Int) (k : Nat), named (L.take k) (cols.take k) = (named L cols).take k
  | [], _, k => by simp [named]
  | _ :: _, [], k => by cases k <;> simp [named]
  | r :: L, c :: cols, 0 => by simp [named]
  | r :: L, c :: cols, k + 1 => by
    have ih := named_take L cols k
    unfold named at ih ⊢
    simp only [List.take_succ_cons, List.zipWith_cons_cons, ih]
set_option maxRecDepth 100000 in
set_option maxHeartbeats 8000000 in
theorem rchange_any (q : Addr) (F : Nat → Prop) (m n : Nat) (L : List (List Int)) (A : Option Addr) (N cap : Nat) (cols : List Int) (d : Int) (w : World) (h : DG w q F m n L) (hc : Rd .i64 w A cols) (hap : ∀ a, A = some a → ¬ F a.block) (hl : cols.length = N) (hN : N ≤ 1000) (hz : In64 cols) (d0 : -9223372036854775808 ≤ d) (d1 : d ≤ 9223372036854775807) :
    Calls Tryz.prog 74 #[.pointer (some q), .slice A N cap, .int .i64 d] w fun e w' => e = .returned (.int .i64 (chCode m n L cols d)) ∧ ∃ G', DG w' q G' m n (chRes m n L cols d) ∧ Kept F w w' ∧ (∀ k, G' k → F k ∨ w.heap.size ≤ k) := by
  obtain ⟨i0, hi, hz0, hz1, hz2⟩ := info_parts i64_info
  have HH := Lib.hid h
  have hm8 := h.dims.m8
  have hn128 := h.dims.n128
  have HC := Lib.hid hc
  have HL := Lib.hid hl
  have HZ := Lib.hid hz
  have HAP := Lib.hid hap
  by_cases hme : Meets m n cols
  · have e1 : meetB m n cols = true := decide_eq_true hme
    have hNm : N = m := by rw [← hl]; exact hme.2.1
    subst hNm
    have HME := Lib.hid hme
    have HCD : Hid (chCode N n L cols d = if chFits L cols d = true then 0 else 4) := Lib.hid (if_pos hme)
    have HCR : Hid (chRes N n L cols d = if chFits L cols d = true then changed L cols d else L) := Lib.hid (by unfold chRes; by_cases hf : chFits L cols d = true <;> simp [hme, hf])
    obtain ⟨b, hdr, R, rfl, hg, rfl, hG, hd⟩ := h
    have hRm : R.length = N := by rw [← nums_len]; exact hd.len
    have HD := Lib.hid hd
    have HR := Lib.hid hRm
    have HGF := Lib.hid hG
    obtain ⟨Ah, caph, rfl, hcaph, hAh, hcell⟩ := hg.hd
    have hb := cell_of_row w b 0 _ _ _ hg.cell
    simp only [List.getElem?_toArray, List.getElem?_cons_zero] at hb
    rw [hRm] at hb
    have HBH := Lib.hid hb
    have HCE := Lib.hid hcell
    have HG := Lib.hid hg
    clear hc hz hcell hAh hg hG hcaph hme hd hl hb hap
    go_enter Tryz.func74, Tryz.ntmps74
    go_wp2_with (go_at_call 83; (with_reducible refine (rmeet_any _ F N n (nums R) A N cap cols _ (dg_up HH.out (by repeat' (first | (with_reducible exact Below.refl _ _) | (with_reducible assumption) | (with_reducible refine below_over ?_ _ _) | (with_reducible refine Lw.below_alloc ?_ _) | (with_reducible refine Below.drew ?_) | (with_reducible refine below_drewN ?_ _) | (with_reducible refine Below.setCell ?_ ?_ _) | go_size))) (HC.out.up (by repeat' (first | (with_reducible exact Below.refl _ _) | (with_reducible assumption) | (with_reducible refine below_over ?_ _ _) | (with_reducible refine Lw.below_alloc ?_ _) | (with_reducible refine Below.drew ?_) | (with_reducible refine below_drewN ?_ _) | (with_reducible refine Below.setCell ?_ ?_ _) | go_size))) HL.out hN HZ.out).mono ?_); rintro e w2 ⟨rfl, hb2⟩; have HBW : Hid (Below w.heap.size w w2) := Lib.hid (below_call (by repeat' (first | (with_reducible exact Below.refl _ _) | (with_reducible assumption) | (with_reducible refine below_over ?_ _ _) | (with_reducible refine Lw.below_alloc ?_ _) | (with_reducible refine Below.drew ?_) | (with_reducible refine below_drewN ?_ _) | (with_reducible refine Below.setCell ?_ ?_ _) | go_size)) hb2 (Nat.le_refl _)); clear hb2)
    go_loopw [7, 8] (fun v i wr => ∃ (k : Nat) (A1 : Addr) (cp : Nat), k ≤ N ∧ i = .int .i64 k ∧ v = .slice (some A1) k cp ∧ wr.ownsRow w.heap.size 2 1 v k (((named ((nums R).take k) (cols.take k)).map (· + d)).map (Value.int .i64)) ∧ ((named ((nums R).take k) (cols.take k)).all (fun x => Wid.fit64 (x + d))) = true ∧ Below w.heap.size w wr) (fun _ i _ => N - (intOf i).toNat)
    case atStart => exact ⟨0, ⟨w2.heap.size, 0, none⟩, 0, Nat.zero_le _, rfl, rfl, by have h0 := own_empty w2 2 1 w.heap.size HBW.out.size; simpa [named] using h0, by simp [named], Lw.below_alloc HBW.out _⟩
    case round =>
      obtain ⟨k, A1, cp, hk, rfl, rfl, hown, hfit, hbel⟩ := hrel
      have HOW := Lib.hid hown
      have HFI := Lib.hid hfit
      have HBL := Lib.hid hbel
      have hbs := hbel.size
      by_cases hlt : k < N
      · obtain ⟨v, hv⟩ : ∃ v, cols[k]? = some v := ⟨_, List.getElem?_eq_getElem (by have := HL.out; omega)⟩
        obtain ⟨r, hr⟩ : ∃ r, R[k]? = some r := ⟨_, List.getElem?_eq_getElem (by have := HR.out; omega)⟩
        obtain ⟨ad, rfl, hcv⟩ := HC.out k v hv
        obtain ⟨ah, rfl, hcr⟩ := HCE.out k r hr
        have hrl : r.2.2.length = n := (HD.out.rows _ (nums_mem (List.mem_of_getElem? hr))).1
        have hrz := (HD.out.rows _ (nums_mem (List.mem_of_getElem? hr))).2
        have hvb := HME.out.2.2 v (List.mem_of_getElem? hv)
        obtain ⟨vn, rfl⟩ : ∃ vn : Nat, v = vn := ⟨v.toNat, by omega⟩
        obtain ⟨x, hx⟩ : ∃ x, r.2.2[vn]? = some x := ⟨_, List.getElem?_eq_getElem (by omega)⟩
        have hcx := HG.out.numAt (List.mem_of_getElem? hr) hx
        have hxb := hrz.at hx
        have hLk : (nums R)[k]? = some r.2.2 := by unfold nums; rw [List.getElem?_map, hr]; rfl
        have hget : r.2.2[(vn : Int).toNat]?.getD 0 = x := by rw [show (vn : Int).toNat = vn from rfl, hx]; rfl
        have HNX := Lib.hid (map_named_next (nums R) cols d k r.2.2 vn x hLk hv hget)
        have HNX2 := Lib.hid (named_next (nums R) cols k r.2.2 vn hLk hv)
        rw [hget] at HNX2
        have HNO : Hid (Wid.fit64 (x + d) = false → chFits (nums R) cols d = false) := Lib.hid (fun hf => by
          refine Bool.eq_false_iff.2 fun hall => ?_
          have hmem : x ∈ named (nums R) cols := by
            have h2 : x ∈ named ((nums R).take (k + 1)) (cols.take (k + 1)) := by rw [HNX2.out]; simp
            have e3 := named_take (nums R) cols (k + 1)
            rw [e3] at h2
            exact List.mem_of_mem_take h2
          have := List.all_eq_true.1 hall x hmem
          rw [hf] at this
          cases this)
        obtain ⟨gr, gc, zs⟩ := r
        unfold rowHd at hcr
        simp only at hcr hrl hcx
        rw [hrl] at hcr
        obtain ⟨gad, hgad⟩ : ∃ gad : Addr, (⟨gr, 0, none⟩ : Addr) = gad := ⟨_, rfl⟩
        rw [hgad] at hcr hcx
        clear hv hr hx hrl hrz hget hgad hLk hown hbel hfit
        go_wp2
        go_region_held3 (fun w' => w'.cell? ⟨b, 0, none⟩ = some (.slice (some ah) N caph) ∧ w'.cell? (ah.add k) = some (.slice (some gad) n gc) ∧ w'.cell? (ad.add k) = some (.int .i64 vn) ∧ w'.cell? (gad.add vn) = some (.int .i64 x)) (refine ⟨cell_up HBH.out ?_, cell_up hcr ?_, cell_up hcv ?_, cell_up hcx ?_⟩ <;> (repeat' (first | (with_reducible exact Below.refl _ _) | (with_reducible assumption) | (with_reducible exact HBL.out) | (with_reducible refine below_over ?_ _ _) | (with_reducible refine Lw.below_alloc ?_ _) | (with_reducible refine Below.drew ?_) | (with_reducible refine below_drewN ?_ _) | (with_reducible refine Below.setCell ?_ ?_ _) | go_size))) (first
          | (go_at_call 71; (with_reducible refine (Wid.radd_any x d _ (by omega) (by omega) d0 d1).mono ?_); rintro e w5 ⟨rfl, hb⟩; have HB5 : Hid (Below wr.heap.size wr w5) := Lib.hid (below_call (by repeat' (first | (with_reducible exact Below.refl _ _) | (with_reducible assumption) | (with_reducible refine below_over ?_ _ _) | (with_reducible refine Lw.below_alloc ?_ _) | (with_reducible refine Below.drew ?_) | (with_reducible refine below_drewN ?_ _) | (with_reducible refine Below.setCell ?_ ?_ _) | go_size)) hb (Nat.le_refl _)); have hb5 : Below w.heap.size w w5 := below_call HBL.out HB5.out (Nat.le_refl _); clear hb))
        cases hf : Wid.fit64 (x + d)
        · have HNF := Lib.hid (HNO.out hf)
          go_wp2
          go_ret
          exact ⟨ret_i (by rw [HCD.out, HNF.out]; rfl), F, by rw [HCR.out, HNF.out]; exact dg_up HH.out hb5, Kept.of_below hb5, fun k h => .inl h⟩
        · have e64 : Wid.f64 (x + d) = x + d := by unfold Wid.f64; rw [if_pos hf]
          have HF5 := Lib.hid hf
          rw [e64]
          clear hf
          go_wp2_with (at_builtin; (refine app_one .i64 rfl _ _ 48 rfl w.heap.size 2 i0 8 i64s_u hi hz0 hz1 hz2 (.slice (some A1) k cp) k ((named ((nums R).take k) (cols.take k)).map (· + d)) rfl ((own_up HOW.out HB5.out).alloc _) (x + d) w5.heap.size rfl (cell_one_new _ _ _) (by unfold maxLen; omega) (by omega) (by have := hb5.size; simp; omega) ?_); intro v1 w6 own1 grow1 oth1; obtain ⟨gg, cc, rfl, hgg, hgl⟩ := own1.form (by omega))
          go_roundw
          case rel => exact ⟨k + 1, ⟨gg, 0, none⟩, cc, by omega, by go_num, rfl, by rw [HNX.out]; exact own1, by rw [HNX2.out, List.all_append, HFI.out]; simp [HF5.out], app_below3 (Lw.below_alloc hb5 _) grow1 (fun q hq => own_ge HOW.out q hq)⟩
          case measure => simp [intOf]; omega
      · have e : k = N := by omega
        subst e
        have hf1 : (nums R).take k = nums R := List.take_of_length_le (by rw [HD.out.len]; exact Nat.le_refl _)
        have hf2 : cols.take k = cols := List.take_of_length_le (by rw [HL.out]; exact Nat.le_refl _)
        rw [hf1, hf2] at hown hfit
        have HFT : Hid (chFits (nums R) cols d = true) := Lib.hid hfit
        obtain ⟨A3, cp3, hv3, hrd3, h2, h3, h4⟩ := own_rd hown
        injection hv3 with hv1 hv2 hv3
        subst hv1 hv3
        have hge := own_ge HOW.out A1.block rfl
        have HRD := Lib.hid hrd3
        have HLT : Hid (∀ x, RF b (.slice Ah R.length caph) R x → x < w.heap.size) := Lib.hid (fun x hx => HG.out.blt hx)
        have HW3 := Lib.hid (HG.out.keep (Kept.of_below (F := fun _ => False) hbel) (fun _ _ h => h))
        have HC3 := Lib.hid (HC.out.up hbel)
        clear hf1 hf2 hown hfit hrd3 h4 hbel
        go_wp2
        obtain ⟨w3, rfl⟩ : ∃ w3, w3 = wr := ⟨_, rfl⟩
        go_loopw [11] (fun i wr => ∃ (j : Nat) (R2 : List Row), j ≤ k ∧ i = .int .i64 j ∧ RG wr b (.slice Ah R.length caph) R2 ∧ R2.length = R.length ∧ (∀ x, RF b (.slice Ah R.length caph) R2 x ↔ RF b (.slice Ah R.length caph) R x) ∧ nums R2 = half (nums R) cols d j ∧ Kept (RF b (.slice Ah R.length caph) R) w3 wr) (fun i _ => k - (intOf i).toNat)
        case atStart => exact ⟨0, R, Nat.zero_le _, rfl, HW3.out, rfl, fun x => Iff.rfl, (half_zero _ _ _).symm, Kept.refl _ _⟩
        case round =>
          obtain ⟨j, R2, hj, rfl, hg2, hlen2, hrf2, hn2, hk2⟩ := hrel
          have HG2 := Lib.hid hg2
          have HRF := Lib.hid hrf2
          have HN2 := Lib.hid hn2
          have HK2 := Lib.hid hk2
          have HLE2 := Lib.hid hlen2
          by_cases hjl : j < k
          · obtain ⟨v, hv⟩ : ∃ v, cols[j]? = some v := ⟨_, List.getElem?_eq_getElem (by have := HL.out; omega)⟩
            obtain ⟨r, hr⟩ : ∃ r, R2[j]? = some r := ⟨_, List.getElem?_eq_getElem (by have := HR.out; omega)⟩
            obtain ⟨z, hzo⟩ : ∃ z, ((named (nums R) cols).map (· + d))[j]? = some z := ⟨_, List.getElem?_eq_getElem (by rw [List.length_map, named_len (by rw [HL.out, HD.out.len]), HD.out.len]; omega)⟩
            have hjR : j < (nums R).length := by rw [HD.out.len]; exact hjl
            obtain ⟨r0, hr0⟩ : ∃ r0, (nums R)[j]? = some r0 := ⟨_, List.getElem?_eq_getElem hjR⟩
            have hcl : cols.length = (nums R).length := by rw [HL.out, HD.out.len]
            have hr2 : r.2.2 = r0 := by
              have e3 := half_get (d := d) hcl hr0
              rw [← hn2] at e3
              unfold nums at e3
              rw [List.getElem?_map, hr] at e3
              simpa using e3
            have hrl : r.2.2.length = n := by rw [hr2]; exact (HD.out.rows _ (List.mem_of_getElem? hr0)).1
            have hvb := HME.out.2.2 v (List.mem_of_getElem? hv)
            obtain ⟨vn, rfl⟩ : ∃ vn : Nat, v = vn := ⟨v.toNat, by omega⟩
            obtain ⟨x, hx⟩ : ∃ x, r.2.2[vn]? = some x := ⟨_, List.getElem?_eq_getElem (by omega)⟩
            have hz2 : z = x + d := by
              have e4 : (named (nums R) cols)[j]? = some x := by
                unfold named
                rw [List.getElem?_zipWith, hr0, hv]
                simp [← hr2, hx]
              rw [List.getElem?_map, e4] at hzo
              simpa using hzo.symm
            have hrm := List.mem_of_getElem? hr
            have hcx := hg2.numAt hrm hx
            have hfz := (hg2.rows _ hrm).frozenAt (g := r.1) (cap := r.2.1) vn
            obtain ⟨A4, cap4, he4, _, _, hcell4⟩ := hg2.hd
            injection he4 with he5 he6 he7
            subst he5 he7
            obtain ⟨ah, rfl, hcr⟩ := hcell4 j r hr
            have hb2 := cell_of_row _ b 0 _ _ _ hg2.cell
            simp only [List.getElem?_toArray, List.getElem?_cons_zero] at hb2
            rw [HR.out] at hb2
            have hkc : Rd .i64 wr A cols := HC3.out.keep hk2 (fun a ha hF => HAP.out a ha ((HGF.out _).2 hF))
            obtain ⟨ad, rfl, hcv⟩ := hkc j vn hv
            have hko : Rd .i64 wr (some A1) ((named (nums R) cols).map (· + d)) := HRD.out.keep hk2 (fun a ha hF => by injection ha with ha; subst ha; have := HLT.out _ hF; omega)
            have hcz := hko.at hzo
            have hxb := (HD.out.rows _ (List.mem_of_getElem? hr0)).2
            have hadd : (⟨r.1, 0, none⟩ : Addr).add vn = ⟨r.1, vn, none⟩ := by rw [Ord.add_at, Nat.zero_add]
            have hput := hg2.put hr vn z
            have hkp : Kept (RF b (.slice (some ah) R.length caph) R) w3 (wr.setCell ⟨r.1, vn, none⟩ (.int .i64 z)) := hk2.set (.inl ((hrf2 _).1 (.inr (.inr ⟨r, hrm, rfl⟩)))) _ _
            rw [← hadd] at hput hkp hfz
            have hnn : nums (set2 R2 j vn z) = half (nums R) cols d (j + 1) := by
              rw [nums_set2, hn2, hz2]
              exact half_next hcl hr0 hv (by rw [← hr2]; exact hx)
            have hl2 : (set2 R2 j vn z).length = R.length := by rw [set2_len]; exact hlen2
            have HNN := Lib.hid hnn
            have HLL := Lib.hid hl2
            obtain ⟨gr, gc, zs⟩ := r
            unfold rowHd at hcr
            simp only at hcr hrl hcx hput hkp hfz
            rw [hrl] at hcr
            obtain ⟨gad, hgad⟩ : ∃ gad : Addr, (⟨gr, 0, none⟩ : Addr) = gad := ⟨_, rfl⟩
            rw [hgad] at hcr hcx hput hkp hfz
            have HPU := Lib.hid hput
            have HKP := Lib.hid hkp
            clear hv hr hx hzo hr0 hr2 hrl hrm hg2 hrf2 hn2 hk2 hlen2 hkc hko hput hkp hnn hl2 hadd hcl hjR hgad hcell4 hz2 hxb
            go_wp2
            go_region
            go_wp2
            go_roundw
            case rel => exact ⟨j + 1, _, by omega, by go_num, HPU.out.keep (Kept.of_below (F := fun _ => False) (Below.drew (Below.refl _ _))) (fun _ _ h => h), HLL.out, fun x => (RF_set2 x).trans (HRF.out x), HNN.out, HKP.out.drew⟩
            case measure => simp [intOf]; omega
          · have e : j = k := by omega
            subst e
            have hfull : nums R2 = changed (nums R) cols d := by
              rw [hn2]
              have h5 := half_full (L := nums R) (cols := cols) d (by rw [HL.out, HD.out.len])
              rw [HD.out.len] at h5
              exact h5
            have HFU := Lib.hid hfull
            clear hfull hg2 hrf2 hn2 hk2 hlen2
            go_wp2
            go_ret
            refine ⟨ret_i (by rw [HCD.out, HFT.out]; rfl), F, ?_, (Kept.of_below (F := F) HBL.out).trans HK2.out (fun x hx h => (HGF.out x).2 h), fun x h => .inl h⟩
            rw [HCR.out, HFT.out]
            refine ⟨b, _, R2, rfl, HG2.out, HFU.out, fun x => (HGF.out x).trans (HRF.out x).symm, ?_⟩
            exact changed_dims HD.out HL.out HFT.out
  · have e1 : meetB m n cols = false := decide_eq_false hme
    have HCD : Hid (chCode m n L cols d = 1) := Lib.hid (if_neg hme)
    have HRE : Hid (chRes m n L cols d = L) := Lib.hid (if_neg (fun h => hme h.1))
    clear h hc hl hz hme hap
    go_enter Tryz.func74, Tryz.ntmps74
    go_wp2_with (go_at_call 83; (with_reducible refine (rmeet_any q F m n L A N cap cols _ (dg_up HH.out (by repeat' (first | (with_reducible exact Below.refl _ _) | (with_reducible assumption) | (with_reducible refine below_over ?_ _ _) | (with_reducible refine Lw.below_alloc ?_ _) | (with_reducible refine Below.drew ?_) | (with_reducible refine below_drewN ?_ _) | (with_reducible refine Below.setCell ?_ ?_ _) | go_size))) (HC.out.up (by repeat' (first | (with_reducible exact Below.refl _ _) | (with_reducible assumption) | (with_reducible refine below_over ?_ _ _) | (with_reducible refine Lw.below_alloc ?_ _) | (with_reducible refine Below.drew ?_) | (with_reducible refine below_drewN ?_ _) | (with_reducible refine Below.setCell ?_ ?_ _) | go_size))) HL.out hN HZ.out).mono ?_); rintro e w2 ⟨rfl, hb2⟩; have HBW : Hid (Below w.heap.size w w2) := Lib.hid (below_call (by repeat' (first | (with_reducible exact Below.refl _ _) | (with_reducible assumption) | (with_reducible refine below_over ?_ _ _) | (with_reducible refine Lw.below_alloc ?_ _) | (with_reducible refine Below.drew ?_) | (with_reducible refine below_drewN ?_ _) | (with_reducible refine Below.setCell ?_ ?_ _) | go_size)) hb2 (Nat.le_refl _)); clear hb2)
    all_goals go_ret
    all_goals exact ⟨ret_i HCD.out.symm, F, by rw [HRE.out]; exact dg_up HH.out HBW.out, Kept.of_below HBW.out, fun k h => .inl h⟩
end Go.Proofs.YtiblpdjehknbcaaGreat.Lin
/- What the statements of layer 8 lean on. Printed by wip/gen/linlaws.py. -/
namespace Go.Proofs.YtiblpdjehknbcaaGreat.Lin
open Go Go.RowKit Lw Grd
set_option linter.unusedVariables false
set_option linter.unusedSimpArgs false
theorem pg0 {w0 w : World} {p : Addr} {F : Nat → Prop} {m n : Nat} {L : List (List Int)} {ts : List Thing} (h : Have w0 w (pgT p F m n L :: ts)) : PG w p F m n L := h.1
theorem new_mn (rows width : Int) (m n : Nat) (w : World) (hm : cl rows 8 = m) (hn : cl width 128 = n) (r0 : -9223372036854775808 ≤ rows) (r1 : rows ≤ 9223372036854775807) (c0 : -9223372036854775808 ≤ width) (c1 : width ≤ 9223372036854775807) :
    Calls Tryz.prog 67 #[.int .i64 rows, .int .i64 width] w fun e w' => ∃ (p : Addr) (F : Nat → Prop), e = .returned (.pointer (some p)) ∧ PG w' p F m n (zerosL m n) ∧ (∀ k, F k → w.heap.size ≤ k) ∧ Below w.heap.size w w' := by
  subst hm hn
  exact new_any rows width w r0 r1 c0 c1
/-- A block that is made now is none of a thing's. -/
theorem new_apart {w0 w : World} {t : Thing} {ts : List Thing} (h : Have w0 w (t :: ts)) : ∀ a, (some (⟨w.heap.size, 0, none⟩ : Addr)) = some a → ¬ t.F a.block := by
  intro a ha hf
  injection ha with ha
  subst ha
  have := t.lt w h.1 _ hf
  simp at this
theorem c28 : cl 2 8 = 2 := by decide
theorem c3128 : cl 3 128 = 3 := by decide
def sZ : List (List Int) := zerosL 2 3
def sA : List (List Int) := chRes 2 3 sZ [0, 1] 5
def sB : List (List Int) := chRes 2 3 sA [0, 2] 7
def sC : List (List Int) := chRes 2 3 sB [0, 3] 7
theorem q1 : chCode 2 3 sZ [0, 1] 5 = 0 := by decide
theorem q2 : chCode 2 3 sA [0, 2] 7 = 0 := by decide
theorem q3 : chCode 2 3 sB [0, 3] 7 = 1 := by decide
theorem q4 : rdCode 2 3 [0, 1] = 0 := by decide
theorem q5 : rdCode 2 3 [0, 2] = 0 := by decide
theorem q6 : readOf 2 3 sC [0, 1] = [12, 5] := by decide
theorem q7 : Ord.kv (readOf 2 3 sC [0, 1]) 0 = 5 := by decide
theorem q8 : Ord.kv (readOf 2 3 sC [0, 2]) ((((readOf 2 3 sC [0, 2]).length : Int) - 1) / 2) = 7 := by decide
/-- A step: its columns and what is added. -/
structure StepV where
  A : Option Addr
  n : Nat
  c : Nat
  zs : List Int
  d : Int
structure StepV.In (s : StepV) (w : World) : Prop where
  nil : s.A = none → s.n = 0 ∧ s.c = 0
  nc : s.n ≤ s.c
  cm : s.c ≤ maxLen
  rd : Rd .i64 w s.A s.zs
  len : s.zs.length = s.n
  zb : In64 s.zs
  db : -9223372036854775808 ≤ s.d ∧ s.d ≤ 9223372036854775807
theorem step_int_c : Tryz.prog.cellsOf 3 = 1 := by kernel_rfl
theorem sized_part (x m : Int) (hm0 : 1 ≤ m) (hm1 : m ≤ 65536) : ∃ X Y, bits .and .i64 x 65535 = X ∧ 0 ≤ X ∧ X ≤ 65535 ∧ Int.tmod X m = Y ∧ x % 65536 % m = Y ∧ 0 ≤ Y ∧ Y < m :=
  ⟨x % 65536, x % 65536 % m, and16i x, by omega, by omega, Int.tmod_eq_emod_of_nonneg (by omega), rfl, Int.emod_nonneg _ (by omega), Int.emod_lt_of_pos _ (by omega)⟩
def rowsOf (x : Int) : Nat := (1 + x % 65536 % 5).toNat
def widthOf (x : Int) : Nat := (1 + x % 65536 % 9).toNat
theorem rows_bd (x : Int) : 1 ≤ rowsOf x ∧ rowsOf x ≤ 5 := by unfold rowsOf; omega
theorem width_bd (x : Int) : 1 ≤ widthOf x ∧ widthOf x ≤ 9 := by unfold widthOf; omega
end Go.Proofs.YtiblpdjehknbcaaGreat.Lin
/- Many changes of cells, in numbers: each cell is the sum of what was added by columns that name it. -/
namespace Go.Proofs.YtiblpdjehknbcaaGreat.Lin
open Go Go.RowKit Lw Grd
set_option linter.unusedVariables false
def Sz (m n : Nat) (L : List (List Int)) : Prop := L.length = m ∧ ∀ r ∈ L, r.length = n
def Within (b : Int) (L : List (List Int)) : Prop := ∀ r ∈ L, ∀ v ∈ r, -b ≤ v ∧ v ≤ b
/-- A number of a grid; 0 where there is none. -/
def cel (L : List (List Int)) (r c : Nat) : Int := ((L[r]?.getD [])[c]?).getD 0
theorem at2_cel (L : List (List Int)) (r c : Nat) : at2 L (r : Int) (c : Int) = cel L r c := by
  unfold at2 cel
  rw [if_neg (by omega)]
  simp
theorem sz_dims {m n : Nat} {L : List (List Int)} (h : Dims m n L) : Sz m n L := ⟨h.len, fun r hr => (h.rows r hr).1⟩
theorem dims_of {m n : Nat} {L : List (List Int)} {b : Int} (h : Sz m n L) (hw : Within b L) (hb : b ≤ 9223372036854775807) (m8 : m ≤ 8) (n128 : n ≤ 128) : Dims m n L :=
  ⟨h.1, m8, n128, fun r hr => ⟨h.2 r hr, fun v hv => by have := hw r hr v hv; omega⟩⟩
theorem within_mono {b c : Int} {L : List (List Int)} (h : Within b L) (hbc : b ≤ c) : Within c L := fun r hr v hv => by have := h r hr v hv; omega
theorem sz_zeros (m n : Nat) : Sz m n (zerosL m n) := ⟨by simp [zerosL], fun r hr => by rw [(List.mem_replicate.1 hr).2]; simp⟩
theorem within_zeros (m n : Nat) : Within 0 (zerosL m n) := fun r hr v hv => by
  rw [(List.mem_replicate.1 hr).2] at hv
  rw [(List.mem_replicate.1 hv).2]
  omega
theorem sz_changed {m n : Nat} {L : List (List Int)} {cols : List Int} (h : Sz m n L) (hc : cols.length = m) (d : Int) : Sz m n (changed L cols d) := by
  refine ⟨by unfold changed; rw [List.length_zipWith, h.1, hc]; omega, fun r hr => ?_⟩
  obtain ⟨a, ha, b, hb, rfl⟩ := mem_zip hr
  rw [List.length_set]
  exact h.2 a ha
theorem getD_within {b : Int} {r : List Int} (h : ∀ v ∈ r, -b ≤ v ∧ v ≤ b) (hb : 0 ≤ b) (k : Nat) : -b ≤ r[k]?.getD 0 ∧ r[k]?.getD 0 ≤ b := by
  cases hv : r[k]? with
  | none => simp; omega
  | some v => simpa using h v (List.mem_of_getElem? hv)
theorem within_changed {b c : Int} {L : List (List Int)} {cols : List Int} {d : Int} (h : Within b L) (hb : 0 ≤ b) (hd : -c ≤ d ∧ d ≤ c) : Within (b + c) (changed L cols d) := by
  intro r hr v hv
  obtain ⟨a, ha, k, hk, rfl⟩ := mem_zip hr
  rcases List.mem_or_eq_of_mem_set hv with h1 | h1
  · have := h a ha v h1; omega
  · have := getD_within (h a ha) hb k.toNat; omega
theorem fits_within {b c : Int} {L : List (List Int)} {cols : List Int} {d : Int} (h : Within b L) (hb : 0 ≤ b) (hd : -c ≤ d ∧ d ≤ c) (hbc : b + c ≤ 9223372036854775807) : chFits L cols d = true := by
  unfold chFits
  refine List.all_eq_true.2 fun x hx => ?_
  obtain ⟨a, ha, k, hk, rfl⟩ := mem_zip hx
  have := getD_within (h a ha) hb k.toNat
  exact (Wid.fit64_yes (by omega) (by omega)).1
theorem ch_ok {m n : Nat} {L : List (List Int)} {cols : List Int} {d : Int} (hm : Meets m n cols) (hf : chFits L cols d = true) : chCode m n L cols d = 0 ∧ chRes m n L cols d = changed L cols d := by
  unfold chCode chRes
  rw [if_pos hm, if_pos hf, if_pos ⟨hm, hf⟩]
  exact ⟨rfl, rfl⟩
theorem meets_get {m n : Nat} {cols : List Int} (h : Meets m n cols) {r : Nat} (hr : r < m) : ∃ v : Nat, cols[r]? = some (v : Int) ∧ v < n := by
  have hl : r < cols.length := by rw [h.2.1]; exact hr
  have hm := h.2.2 _ (List.getElem_mem hl)
  refine ⟨cols[r].toNat, ?_, by omega⟩
  rw [List.getElem?_eq_getElem hl]
  congr 1
  omega
theorem cel_changed {m n : Nat} {L : List (List Int)} {cols : List Int} (h : Sz m n L) (hc : Meets m n cols) (d : Int) {r c : Nat} (hr : r < m) (hcn : c < n) : cel (changed L cols d) r c = cel L r c + (if cols[r]? = some (c : Int) then d else 0) := by
  have hl : r < L.length := by rw [h.1]; exact hr
  obtain ⟨v, hv, hvn⟩ := meets_get hc hr
  have hrow := h.2 _ (List.getElem_mem hl)
  unfold cel changed
  rw [List.getElem?_zipWith, List.getElem?_eq_getElem hl, hv]
  simp only [Option.getD_some, Int.toNat_natCast]
  by_cases e : v = c
  · subst e
    rw [if_pos rfl, List.getElem?_set_self (by omega)]
    rfl
  · rw [if_neg (by simp; omega), List.getElem?_set_ne e]
    omega
abbrev Ops := List (List Int × Int)
def chAll (L : List (List Int)) (ops : Ops) : List (List Int) := ops.foldl (fun L o => changed L o.1 o.2) L
/-- All of them meet, and none adds more than c. -/
def OpsOk (m n : Nat) (c : Int) (ops : Ops) : Prop := ∀ o ∈ ops, Meets m n o.1 ∧ -c ≤ o.2 ∧ o.2 ≤ c
theorem opsok_take {m n : Nat} {c : Int} {ops : Ops} (h : OpsOk m n c ops) (k : Nat) : OpsOk m n c (ops.take k) := fun o ho => h o (List.mem_of_mem_take ho)
theorem chAll_next (L : List (List Int)) (ops : Ops) (k : Nat) (o : List Int × Int) (h : ops[k]? = some o) : chAll L (ops.take (k + 1)) = changed (chAll L (ops.take k)) o.1 o.2 := by
  obtain ⟨h1, h2⟩ := List.getElem?_eq_some_iff.1 h
  unfold chAll
  rw [List.take_succ_eq_append_getElem h1, List.foldl_append, h2]
  rfl
theorem chAll_sz {m n : Nat} {c : Int} : ∀ {ops : Ops} {L : List (List Int)}, Sz m n L → OpsOk m n c ops → Sz m n (chAll L ops)
  | [], L, h, _ => h
  | o :: ops, L, h, g => chAll_sz (ops := ops) (sz_changed h (g o (by simp)).1.2.1 o.2) (fun p hp => g p (by simp [hp]))
theorem chAll_within {m n : Nat} {c : Int} (hc : 0 ≤ c) : ∀ {ops : Ops} {L : List (List Int)} {b : Int}, 0 ≤ b → Within b L → OpsOk m n c ops → Within (b + ops.length * c) (chAll L ops)
  | [], L, b, hb, h, _ => by simpa [chAll] using h
  | o :: ops, L, b, hb, h, g => by
    have ih := chAll_within hc (ops := ops) (L := changed L o.1 o.2) (b := b + c) (by omega) (within_changed h hb (g o (by simp)).2) (fun p hp => g p (by simp [hp]))
    have e : b + c + (ops.length : Int) * c = b + ((o :: ops).length : Int) * c := by
      have e1 : ((o :: ops).length : Int) = (ops.length : Int) + 1 := by simp
      rw [e1, Int.add_mul, Int.one_mul]
      omega
    rw [← e]
    exact ih
/-- What ops add to the cell. -/
def hit : Ops → Nat → Nat → Int
  | [], _, _ => 0
  | o :: ops, r, c => (if o.1[r]? = some (c : Int) then o.2 else 0) + hit ops r c
theorem hit_app : ∀ (a b : Ops) (r c : Nat), hit (a ++ b) r c = hit a r c + hit b r c
  | [], b, r, c => by simp [hit]
  | o :: a, b, r, c => by
    simp only [List.cons_append, hit, hit_app a b r c]
    omega
theorem hit_rev : ∀ (a : Ops) (r c : Nat), hit a.reverse r c = hit a r c
  | [], r, c => rfl
  | o :: a, r, c => by
    rw [List.reverse_cons, hit_app, hit_rev a r c]
    simp only [hit]
    omega
theorem chAll_cel {m n : Nat} {b : Int} {r c : Nat} (hr : r < m) (hcn : c < n) : ∀ {ops : Ops} {L : List (List Int)}, Sz m n L → OpsOk m n b ops → cel (chAll L ops) r c = cel L r c + hit ops r c
  | [], L, h, _ => by simp [chAll, hit]
  | o :: ops, L, h, g => by
    have ih := chAll_cel hr hcn (ops := ops) (sz_changed h (g o (by simp)).1.2.1 o.2) (fun p hp => g p (by simp [hp]))
    have e : chAll L (o :: ops) = chAll (changed L o.1 o.2) ops := rfl
    rw [e, ih, cel_changed h (g o (by simp)).1 o.2 hr hcn]
    simp only [hit]
    omega
theorem cel_zeros (m n r c : Nat) : cel (zerosL m n) r c = 0 := by
  unfold cel zerosL
  rw [List.getElem?_replicate]
  split
  · simp only [Option.getD_some]
    rw [List.getElem?_replicate]
    split <;> rfl
  · rfl
theorem sz_ext {m n : Nat} {L M : List (List Int)} (h : Sz m n L) (g : Sz m n M) (he : ∀ r c, r < m → c < n → cel L r c = cel M r c) : L = M := by
  apply List.ext_getElem (by rw [h.1, g.1])
  intro r h1 h2
  have a1 := h.2 _ (List.getElem_mem h1)
  have a2 := g.2 _ (List.getElem_mem h2)
  apply List.ext_getElem (by rw [a1, a2])
  intro c g1 g2
  have := he r c (by rw [← h.1]; exact h1) (by rw [← a1]; exact g1)
  unfold cel at this
  rw [List.getElem?_eq_getElem h1, List.getElem?_eq_getElem h2] at this
  simp only [Option.getD_some] at this
  rw [List.getElem?_eq_getElem g1, List.getElem?_eq_getElem g2] at this
  simpa using this
theorem chAll_rev {m n : Nat} {b : Int} {ops : Ops} (h : OpsOk m n b ops) : chAll (zerosL m n) ops.reverse = chAll (zerosL m n) ops := by
  have h2 : OpsOk m n b ops.reverse := fun o ho => h o (List.mem_reverse.1 ho)
  refine sz_ext (chAll_sz (sz_zeros m n) h2) (chAll_sz (sz_zeros m n) h) fun r c hr hc => ?_
  rw [chAll_cel hr hc (sz_zeros m n) h2, chAll_cel hr hc (sz_zeros m n) h, hit_rev]
theorem named_cel {m n : Nat} {L : List (List Int)} {cols : List Int} (h : Sz m n L) (hc : Meets m n cols) {r v : Nat} (hr : r < m) (hv : cols[r]? = some (v : Int)) : (named L cols)[r]? = some (cel L r v) := by
  have hl : r < L.length := by rw [h.1]; exact hr
  unfold named cel
  rw [List.getElem?_zipWith, List.getElem?_eq_getElem hl, hv]
  simp
end Go.Proofs.YtiblpdjehknbcaaGreat.Lin
/- done of layer 8's laws: a grid that many changes were made to, and their columns. Printed by wip/gen/lindone.py. -/
namespace Go.Proofs.YtiblpdjehknbcaaGreat.Lin
open Go Go.RowKit Lw Grd
set_option linter.unusedVariables false
set_option linter.unusedSimpArgs false
structure Steps (w : World) (A : Option Addr) (n c : Nat) (qs : List StepV) : Prop where
  nil : A = none → n = 0 ∧ c = 0
  nc : n ≤ c
  cm : c ≤ maxLen
  len : qs.length = n
  each : ∀ (i : Nat) q, qs[i]? = some q → q.In w ∧ ∃ a, A = some a ∧ w.cell? (a.add (i * 2)) = some (.slice q.A q.n q.c) ∧ w.cell? (a.add (i * 2 + 1)) = some (.int .i64 q.d)
theorem StepV.In.up {q : StepV} {w w' : World} (h : q.In w) (hb : Below w.heap.size w w') : q.In w' := ⟨h.nil, h.nc, h.cm, h.rd.up hb, h.len, h.zb, h.db⟩
theorem Steps.up {w w' : World} {A : Option Addr} {n c : Nat} {qs : List StepV} (h : Steps w A n c qs) (hb : Below w.heap.size w w') : Steps w' A n c qs :=
  ⟨h.nil, h.nc, h.cm, h.len, fun i q hq => by
    obtain ⟨h1, a, e, h2, h3⟩ := h.each i q hq
    exact ⟨h1.up hb, a, e, cell_up h2 hb, cell_up h3 hb⟩⟩
theorem Steps.at {w : World} {A : Option Addr} {n c : Nat} {qs : List StepV} (h : Steps w A n c qs) {i : Nat} {q : StepV} (hq : qs[i]? = some q) : ∃ (a : Addr) (g o : Nat), A = some a ∧ a.add (i * 2) = ⟨g, o, none⟩ ∧ w.cell? ⟨g, o, none⟩ = some (.slice q.A q.n q.c) ∧ w.cell? ⟨g, o + 1, none⟩ = some (.int .i64 q.d) ∧ q.In w := by
  obtain ⟨hin, a, e, h1, h2⟩ := h.each i q hq
  rw [← add_add'] at h2
  have hs : (a.add (i * 2)).spot = none := by
    unfold World.cell? at h1
    split at h1
    · split at h1
      · cases h1
      · rename_i hs; simpa using hs
    · cases h1
  obtain ⟨ad, had⟩ : ∃ ad, a.add (i * 2) = ad := ⟨_, rfl⟩
  rw [had] at h1 h2 hs
  obtain ⟨g, o, sp⟩ := ad
  simp only at hs
  subst hs
  rw [Ord.add_at] at h2
  exact ⟨a, g, o, e, had, h1, h2, hin⟩
/-- A number cut to a small one; plain: as far from 0, above it. -/
def dv (plain : Bool) (d : Int) : Int := if plain = true then (if 0 ≤ Int.tmod d 1099511627776 then Int.tmod d 1099511627776 else -Int.tmod d 1099511627776) else Int.tmod d 1099511627776
theorem tmod_bd (d : Int) : -1099511627776 < Int.tmod d 1099511627776 ∧ Int.tmod d 1099511627776 < 1099511627776 := by
  have h1 := Int.tmod_lt_of_pos d (show (0 : Int) < 1099511627776 by omega)
  have h3 := Int.tmod_lt_of_pos (-d) (show (0 : Int) < 1099511627776 by omega)
  rw [Int.neg_tmod] at h3
  omega
theorem dv_bd (plain : Bool) (d : Int) : -1099511627776 ≤ dv plain d ∧ dv plain d ≤ 1099511627776 := by
  have := tmod_bd d
  unfold dv
  split
  · split <;> omega
  · omega
theorem dv_plain (d : Int) : 0 ≤ dv true d := by
  unfold dv
  rw [if_pos rfl]
  split <;> omega
def idx (turned : Bool) (N k : Nat) : Nat := if turned = true then N - 1 - k else k
def opsOf (turned plain : Bool) (m n : Nat) (qs : List StepV) : Ops := (if turned = true then (qs.take 60).reverse else qs.take 60).map (fun q => (cutOf q.zs m n, dv plain q.d))
theorem ops_len (turned plain : Bool) (m n : Nat) (qs : List StepV) : (opsOf turned plain m n qs).length = min 60 qs.length := by
  unfold opsOf
  cases turned <;> simp
theorem ops_get (turned plain : Bool) (m n : Nat) (qs : List StepV) {N k : Nat} (hN : N = min 60 qs.length) (hk : k < N) {q : StepV} (hq : qs[idx turned N k]? = some q) : (opsOf turned plain m n qs)[k]? = some (cutOf q.zs m n, dv plain q.d) := by
  have hl : (qs.take 60).length = N := by rw [List.length_take, hN]
  unfold opsOf
  rw [List.getElem?_map]
  cases turned with
  | false =>
    unfold idx at hq
    rw [if_neg (by decide)] at hq ⊢
    rw [List.getElem?_take, if_pos (by omega), hq]
    rfl
  | true =>
    unfold idx at hq
    rw [if_pos rfl] at hq ⊢
    rw [List.getElem?_reverse (by omega), hl, List.getElem?_take, if_pos (by omega), hq]
    rfl
theorem cut_meets (cols : List Int) {m n : Nat} (hm : 1 ≤ m) (hn : 1 ≤ n) : Meets m n (cutOf cols m n) := ⟨hm, cut_len _ _ _, cut_in _ _ _ hn⟩
theorem ops_ok (turned plain : Bool) {m n : Nat} (qs : List StepV) (hm : 1 ≤ m) (hn : 1 ≤ n) : OpsOk m n 1099511627776 (opsOf turned plain m n qs) := by
  intro o ho
  unfold opsOf at ho
  obtain ⟨q, _, rfl⟩ := List.mem_map.1 ho
  exact ⟨cut_meets _ hm hn, dv_bd _ _⟩
theorem ops_turned (plain : Bool) (m n : Nat) (qs : List StepV) : opsOf true plain m n qs = (opsOf false plain m n qs).reverse := by
  unfold opsOf
  simp
/-- What is left of a change, in the midst of all. -/
theorem step_ok {m n : Nat} {ops : Ops} (h : OpsOk m n 1099511627776 ops) (hl : ops.length ≤ 60) (m8 : m ≤ 8) (n128 : n ≤ 128) {k : Nat} {o : List Int × Int} (ho : ops[k]? = some o) :
    chCode m n (chAll (zerosL m n) (ops.take k)) o.1 o.2 = 0 ∧ chRes m n (chAll (zerosL m n) (ops.take k)) o.1 o.2 = chAll (zerosL m n) (ops.take (k + 1)) := by
  have hw := chAll_within (c := 1099511627776) (by omega) (b := 0) (Int.le_refl _) (within_zeros m n) (opsok_take h k)
  have hk : (ops.take k).length ≤ 60 := by rw [List.length_take]; omega
  have ho2 := h o (List.mem_of_getElem? ho)
  have hf := fits_within (cols := o.1) (d := o.2) (within_mono hw (c := 65970697666560) (by omega)) (by omega) ho2.2 (by omega)
  have := ch_ok ho2.1 hf
  rw [chAll_next _ _ _ _ ho]
  exact this
theorem cutrow_in {cols : List Int} {m n : Nat} (hn : 1 ≤ n) (hn2 : n ≤ 65536) : In64 (cutOf cols m n) := fun v hv => by
  have := cut_in cols m n hn v hv
  omega
theorem ints_info : (Tryz.prog.info? 142).map (fun i => (i.zero, i.size, i.bytes)) = some (some (.slice none 0 0), 1, 24) := by kernel_rfl
theorem own_block {w : World} {base : Nat} {e : TypeId} {A : Addr} {n cap : Nat} {xs : List Value} (h : w.ownsRow base e 1 (.slice (some A) n cap) n xs) : ∃ g, A = ⟨g, 0, none⟩ ∧ base ≤ g ∧ g < w.heap.size := by
  have hl := fun g hg => own_lt h (g := g) hg
  rcases h.2 with ⟨h3, _⟩ | ⟨g, cap2, cur, h3, hbase, hh, _⟩
  · cases h3
  · injection h3 with h3 h4 h5
    injection h3 with h3
    subst h3
    exact ⟨g, rfl, hbase, hl g rfl⟩
theorem hdr_apart {w0 w : World} {t : Thing} {B : Nat} {eo : TypeId} {hdr : Value} {R : List Row} {ts : List Thing} {A : Addr} {N : Nat} (h : Have w0 w (t :: rrT B eo hdr R :: ts)) (hA : ∃ g, A = ⟨g, 0, none⟩ ∧ w.heap.size ≤ g ∧ g < N) : ∀ a, some A = some a → ¬ hdr.ownBlock = some a.block := by
  intro a ha e
  injection ha with ha
  subst ha
  obtain ⟨g, rfl, h1, _⟩ := hA
  have := own_lt (rr_of h).outer e
  simp only at this
  omega
theorem pg_apart {w0 w : World} {p : Addr} {F : Nat → Prop} {m n : Nat} {L : List (List Int)} {ts : List Thing} {A : Addr} {N : Nat} (h : Have w0 w (pgT p F m n L :: ts)) (hA : ∃ g, A = ⟨g, 0, none⟩ ∧ w.heap.size ≤ g ∧ g < N) : ∀ a, some A = some a → ¬ F a.block := by
  intro a ha e
  injection ha with ha
  subst ha
  obtain ⟨g, rfl, h1, _⟩ := hA
  have := (pgT p F m n L).lt w h.1 _ e
  simp only at this
  omega
theorem done_start {w w' : World} {p : Addr} {F : Nat → Prop} {m n : Nat} {L : List (List Int)} {t : Thing} {B : Nat} {eo : TypeId} (h : Have w w' [pgT p F m n L, t]) : Have w w' [pgT p F m n L, rrT B eo (.slice none 0 0) [], t] := by
  have no : ∀ k, ¬ RRF (.slice none 0 0) [] k := fun k h2 => by
    rcases h2 with h2 | ⟨r, hr, _⟩
    · simp [Value.ownBlock] at h2
    · simp at hr
  refine ⟨h.1, h.2.1, fun u hu k h1 h2 => ?_, rr_start w' B eo, fun k h2 => (no k h2).elim, fun u hu k h2 => (no k h2).elim, h.2.2.2⟩
  simp only [List.mem_cons, List.not_mem_nil, or_false] at hu
  rcases hu with rfl | rfl
  · exact no k h2
  · exact h.2.2.1 _ (by simp) k h1 h2
end Go.Proofs.YtiblpdjehknbcaaGreat.Lin
/- The opening of a Play of layer 8's laws. Printed by wip/gen/linlaws2.py. -/
namespace Go.Proofs.YtiblpdjehknbcaaGreat.Lin
open Go Go.RowKit Lw Grd
set_option linter.unusedVariables false
set_option linter.unusedSimpArgs false
theorem box3 {w : World} {b : Nat} {e : TypeId} {v0 v1 v2 : Value} (h : (boxT b e #[v0, v1, v2]).I w) : w.cell? ⟨b, 0, none⟩ = some v0 ∧ w.cell? ⟨b, 1, none⟩ = some v1 ∧ w.cell? ⟨b, 2, none⟩ = some v2 :=
  ⟨box_cell h rfl, box_cell h rfl, box_cell h rfl⟩
/-- The columns of a step, out of all. -/
theorem row_at {w : World} {B : Nat} {eo : TypeId} {Ah : Option Addr} {N ch : Nat} {R : List Row} {qs : List StepV} {m n : Nat} (h : RR w B eo (.slice Ah N ch) R) (hR : nums R = (qs.take 60).map (fun q => cutOf q.zs m n)) {j : Nat} {q : StepV} (hj : j < 60) (hq : qs[j]? = some q) :
    ∃ (ad gad : Addr) (cap : Nat), Ah = some ad ∧ w.cell? (ad.add j) = some (.slice (some gad) m cap) ∧ m ≤ cap ∧ cap ≤ maxLen ∧ Rd .i64 w (some gad) (cutOf q.zs m n) := by
  have e1 : (nums R)[j]? = some (cutOf q.zs m n) := by
    rw [hR, List.getElem?_map, List.getElem?_take, if_pos hj, hq]
    rfl
  unfold nums at e1
  rw [List.getElem?_map] at e1
  obtain ⟨r, hr, e2⟩ := Option.map_eq_some_iff.1 e1
  obtain ⟨A, cap, e3, _, _, _, hc⟩ := h.hd
  injection e3 with e3 _ _
  subst e3
  obtain ⟨ad, hA, hcell⟩ := hc j r hr
  obtain ⟨_, _, h3, h4, _, h6⟩ := h.rows r (List.mem_of_getElem? hr)
  have hl : r.2.2.length = m := by rw [e2, cut_len]
  refine ⟨ad, ⟨r.1, 0, none⟩, r.2.1, hA, ?_, by omega, h4, by rw [← e2]; exact h6⟩
  rw [hcell]
  unfold rowHd
  rw [hl]
theorem rows_len {R : List Row} {qs : List StepV} {m n : Nat} (hR : nums R = (qs.take 60).map (fun q => cutOf q.zs m n)) : R.length = min 60 qs.length := by
  have := congrArg List.length hR
  rw [nums_len, List.length_map, List.length_take] at this
  exact this
theorem hit_next {ops : Ops} {r c k : Nat} {o : List Int × Int} (h : ops[k]? = some o) : hit (ops.take (k + 1)) r c = hit (ops.take k) r c + (if o.1[r]? = some (c : Int) then o.2 else 0) := by
  obtain ⟨h1, h2⟩ := List.getElem?_eq_some_iff.1 h
  rw [List.take_succ_eq_append_getElem h1, hit_app, h2]
  simp [hit]
theorem hit_bd {m n : Nat} {b : Int} (hb : 0 ≤ b) {r c : Nat} : ∀ {ops : Ops}, OpsOk m n b ops → -(ops.length * b) ≤ hit ops r c ∧ hit ops r c ≤ ops.length * b
  | [], _ => by simp [hit]
  | o :: ops, h => by
    have ih := hit_bd hb (r := r) (c := c) (ops := ops) (fun p hp => h p (by simp [hp]))
    have h1 := h o (by simp)
    have e1 : ((o :: ops).length : Int) * b = (ops.length : Int) * b + b := by
      have e1 : ((o :: ops).length : Int) = (ops.length : Int) + 1 := by simp
      rw [e1, Int.add_mul, Int.one_mul]
    rw [e1]
    simp only [hit]
    split <;> omega
theorem cut_get (cols : List Int) {m n r : Nat} (hr : r < m) (hn : 1 ≤ n) : ∃ v : Nat, (cutOf cols m n)[r]? = some (v : Int) ∧ v < n := by
  have hl : r < (cutOf cols m n).length := by rw [cut_len]; exact hr
  have h := cut_in cols m n hn _ (List.getElem_mem hl)
  exact ⟨((cutOf cols m n)[r]).toNat, by rw [List.getElem?_eq_getElem hl]; congr 1; omega, by omega⟩
end Go.Proofs.YtiblpdjehknbcaaGreat.Lin
/- What columns have of their own, and what others add in a row: in numbers. -/
namespace Go.Proofs.YtiblpdjehknbcaaGreat.Lin
open Go Go.RowKit Lw Grd
set_option linter.unusedVariables false
def own (cols : List Int) : Ops → Int
  | [] => 0
  | o :: ops => (if o.1 = cols then o.2 else 0) + own cols ops
def oth (cols : List Int) (r : Nat) : Ops → Int
  | [] => 0
  | o :: ops => (if o.1 = cols then 0 else if o.1[r]? = cols[r]? then o.2 else 0) + oth cols r ops
theorem own_app (cols : List Int) : ∀ a b : Ops, own cols (a ++ b) = own cols a + own cols b
  | [], b => by simp [own]
  | o :: a, b => by
    simp only [List.cons_append, own, own_app cols a b]
    omega
theorem oth_app (cols : List Int) (r : Nat) : ∀ a b : Ops, oth cols r (a ++ b) = oth cols r a + oth cols r b
  | [], b => by simp [oth]
  | o :: a, b => by
    simp only [List.cons_append, oth, oth_app cols r a b]
    omega
theorem hit_own {cols : List Int} {r c : Nat} (hc : cols[r]? = some (c : Int)) : ∀ ops : Ops, hit ops r c = own cols ops + oth cols r ops
  | [] => by simp [hit, own, oth]
  | o :: ops => by
    have ih := hit_own hc ops
    simp only [hit, own, oth, ih, ← hc]
    by_cases h1 : o.1 = cols
    · rw [if_pos h1, if_pos h1, h1, if_pos rfl]
      omega
    · rw [if_neg h1, if_neg h1]
      omega
theorem own_next {cols : List Int} {ops : Ops} {k : Nat} {o : List Int × Int} (h : ops[k]? = some o) : own cols (ops.take (k + 1)) = own cols (ops.take k) + (if o.1 = cols then o.2 else 0) := by
  obtain ⟨h1, h2⟩ := List.getElem?_eq_some_iff.1 h
  rw [List.take_succ_eq_append_getElem h1, own_app, h2]
  simp [own]
theorem oth_next {cols : List Int} {r : Nat} {ops : Ops} {k : Nat} {o : List Int × Int} (h : ops[k]? = some o) : oth cols r (ops.take (k + 1)) = oth cols r (ops.take k) + (if o.1 = cols then 0 else if o.1[r]? = cols[r]? then o.2 else 0) := by
  obtain ⟨h1, h2⟩ := List.getElem?_eq_some_iff.1 h
  rw [List.take_succ_eq_append_getElem h1, oth_app, h2]
  simp [oth]
def Plus (b : Int) (ops : Ops) : Prop := ∀ o ∈ ops, 0 ≤ o.2 ∧ o.2 ≤ b
theorem own_bd {cols : List Int} {b : Int} : ∀ {ops : Ops}, Plus b ops → 0 ≤ own cols ops ∧ own cols ops ≤ ops.length * b
  | [], _ => by simp [own]
  | o :: ops, h => by
    have ih := own_bd (cols := cols) (ops := ops) (fun p hp => h p (by simp [hp]))
    have h1 := h o (by simp)
    have e1 : ((o :: ops).length : Int) * b = (ops.length : Int) * b + b := by
      have e1 : ((o :: ops).length : Int) = (ops.length : Int) + 1 := by simp
      rw [e1, Int.add_mul, Int.one_mul]
    rw [e1]
    simp only [own]
    split <;> omega
theorem oth_bd {cols : List Int} {r : Nat} {b : Int} : ∀ {ops : Ops}, Plus b ops → 0 ≤ oth cols r ops ∧ oth cols r ops ≤ ops.length * b
  | [], _ => by simp [oth]
  | o :: ops, h => by
    have ih := oth_bd (cols := cols) (r := r) (ops := ops) (fun p hp => h p (by simp [hp]))
    have h1 := h o (by simp)
    have e1 : ((o :: ops).length : Int) * b = (ops.length : Int) * b + b := by
      have e1 : ((o :: ops).length : Int) = (ops.length : Int) + 1 := by simp
      rw [e1, Int.add_mul, Int.one_mul]
    rw [e1]
    simp only [oth]
    split
    · omega
    · split <;> omega
/-- What others have in each row, behind the first k; the first r rows already behind one more. -/
def othR (cols : List Int) (m : Nat) (ops : Ops) (k r : Nat) : List Int := (List.range m).map (fun i => if i < r then oth cols i (ops.take (k + 1)) else oth cols i (ops.take k))
theorem othR_len (cols : List Int) (m : Nat) (ops : Ops) (k r : Nat) : (othR cols m ops k r).length = m := by simp [othR]
theorem othR_zero (cols : List Int) (m : Nat) (ops : Ops) : othR cols m ops 0 0 = List.replicate m 0 := by
  unfold othR
  apply List.ext_getElem (by simp)
  intro i h1 h2
  simp [oth]
theorem othR_turn (cols : List Int) (m : Nat) (ops : Ops) (k : Nat) : othR cols m ops k m = othR cols m ops (k + 1) 0 := by
  unfold othR
  apply List.map_congr_left
  intro i hi
  rw [if_pos (List.mem_range.1 hi), if_neg (by omega)]
theorem othR_get (cols : List Int) {m : Nat} (ops : Ops) (k : Nat) {r : Nat} (hr : r < m) : (othR cols m ops k r)[r]? = some (oth cols r (ops.take k)) := by
  unfold othR
  rw [List.getElem?_map, List.getElem?_range hr]
  simp
theorem othR_yes {cols : List Int} {m : Nat} {ops : Ops} {k r : Nat} {o : List Int × Int} (hr : r < m) (h : ops[k]? = some o) (h1 : ¬ o.1 = cols) (h2 : o.1[r]? = cols[r]?) : (othR cols m ops k r).set r (oth cols r (ops.take k) + o.2) = othR cols m ops k (r + 1) := by
  have e := oth_next (cols := cols) (r := r) h
  rw [if_neg h1, if_pos h2] at e
  unfold othR
  apply List.ext_getElem (by simp)
  intro i g1 g2
  rw [List.getElem_set]
  by_cases hi : r = i
  · subst hi
    simp [e]
  · rw [if_neg hi]
    simp only [List.getElem_map, List.getElem_range]
    by_cases h3 : i < r
    · rw [if_pos h3, if_pos (by omega)]
    · rw [if_neg h3, if_neg (by omega)]
theorem othR_no {cols : List Int} {m : Nat} {ops : Ops} {k r : Nat} {o : List Int × Int} (h : ops[k]? = some o) (h2 : ¬ o.1[r]? = cols[r]?) : othR cols m ops k r = othR cols m ops k (r + 1) := by
  have h1 : ¬ o.1 = cols := fun e => h2 (by rw [e])
  have e := oth_next (cols := cols) (r := r) h
  rw [if_neg h1, if_neg h2] at e
  unfold othR
  apply List.map_congr_left
  intro i hi
  by_cases h3 : i < r
  · rw [if_pos h3, if_pos (by omega)]
  · rw [if_neg h3]
    by_cases h4 : i = r
    · subst h4
      rw [if_pos (by omega), e]
      omega
    · rw [if_neg (by omega)]
theorem othR_same {cols : List Int} {m : Nat} {ops : Ops} {k : Nat} {o : List Int × Int} (h : ops[k]? = some o) (h1 : o.1 = cols) : othR cols m ops k 0 = othR cols m ops (k + 1) 0 := by
  unfold othR
  apply List.map_congr_left
  intro i hi
  have e := oth_next (cols := cols) (r := i) h
  rw [if_pos h1] at e
  rw [if_neg (by omega), if_neg (by omega), e]
  omega
theorem othR_nn {cols : List Int} {m : Nat} {ops : Ops} {b : Int} (hp : Plus b ops) (k r : Nat) : ∀ v ∈ othR cols m ops k r, 0 ≤ v := by
  intro v hv
  unfold othR at hv
  obtain ⟨i, _, rfl⟩ := List.mem_map.1 hv
  split
  · exact (oth_bd (fun o ho => hp o (List.mem_of_mem_take ho))).1
  · exact (oth_bd (fun o ho => hp o (List.mem_of_mem_take ho))).1
/-- The least cell that columns name is what they have of their own, and the least of what others have in a row. -/
theorem least_is {m n : Nat} {cols : List Int} {ops : Ops} {b x : Int} (hok : OpsOk m n b ops) (hm : Meets m n cols) {K : Nat} (hK : ops.length = K) (hx : x ∈ othR cols m ops K 0) (hl : ∀ v ∈ othR cols m ops K 0, x ≤ v) :
    Ord.kv (named (chAll (zerosL m n) ops) cols) 0 = own cols ops + x := by
  have hsz := chAll_sz (sz_zeros m n) hok
  have hlen := named_len (L := chAll (zerosL m n) ops) (cols := cols) (by rw [hm.2.1, hsz.1])
  rw [hsz.1] at hlen
  have hget : ∀ r, r < m → (named (chAll (zerosL m n) ops) cols)[r]? = some (own cols ops + oth cols r ops) := by
    intro r hr
    obtain ⟨v, hv, hvn⟩ := meets_get hm hr
    rw [named_cel hsz hm hr hv, chAll_cel hr hvn (sz_zeros m n) hok, cel_zeros, hit_own hv]
    congr 1
    omega
  have htk : ops.take K = ops := List.take_of_length_le (by omega)
  have hmem : ∀ v, v ∈ othR cols m ops K 0 ↔ ∃ r, r < m ∧ v = oth cols r ops := by
    intro v
    unfold othR
    rw [List.mem_map]
    constructor
    · rintro ⟨r, hr, rfl⟩
      exact ⟨r, List.mem_range.1 hr, by rw [if_neg (by omega), htk]⟩
    · rintro ⟨r, hr, rfl⟩
      exact ⟨r, List.mem_range.2 hr, by rw [if_neg (by omega), htk]⟩
  have hm1 := hm.1
  rw [(Ord.kv_yes (k := 0) (by omega) (by rw [hlen]; omega)).1]
  refine (Ord.least_eq _ _ ?_ ?_).symm
  · obtain ⟨r, hr, rfl⟩ := (hmem x).1 hx
    exact List.mem_of_getElem? (hget r hr)
  · intro y hy
    obtain ⟨r, hr, e⟩ := List.mem_iff_getElem.1 hy
    have e2 := hget r (by omega)
    rw [List.getElem?_eq_getElem hr, e] at e2
    injection e2 with e2
    have := hl (oth cols r ops) ((hmem _).2 ⟨r, by omega, rfl⟩)
    omega
end Go.Proofs.YtiblpdjehknbcaaGreat.Lin
/- What a raise makes of a grid, in numbers. For stages from 9 on. -/
namespace Go.Proofs.YtiblpdjehknbcaaGreat.Con
open Go Go.RowKit Lw Grd Lin
set_option linter.unusedVariables false
/-- The least of the cells that columns name. -/
def lea (L : List (List Int)) (cols : List Int) : Int := Ord.kv (named L cols) 0
def raised (L : List (List Int)) (cols : List Int) (x : Int) : List (List Int) := List.zipWith (fun r c => r.set c.toNat (max (r[c.toNat]?.getD 0) x)) L cols
def rsCode (m n : Nat) (L : List (List Int)) (cols : List Int) (d : Int) : Int := if Meets m n cols then (if d < 0 then 3 else if Wid.fit64 (lea L cols + d) = true then 0 else 4) else 1
def rsRes (m n : Nat) (L : List (List Int)) (cols : List Int) (d : Int) : List (List Int) := if Meets m n cols ∧ 0 ≤ d ∧ Wid.fit64 (lea L cols + d) = true then raised L cols (lea L cols + d) else L
theorem rs_no {m n : Nat} {L : List (List Int)} {cols : List Int} {d : Int} (h : ¬ Meets m n cols) : rsCode m n L cols d = 1 ∧ rsRes m n L cols d = L := ⟨if_neg h, if_neg (fun g => h g.1)⟩
theorem rs_neg {m n : Nat} {L : List (List Int)} {cols : List Int} {d : Int} (h : Meets m n cols) (hd : d < 0) : rsCode m n L cols d = 3 ∧ rsRes m n L cols d = L := by
  unfold rsCode rsRes
  rw [if_pos h, if_pos hd, if_neg (fun g => by have := g.2.1; omega)]
  exact ⟨rfl, rfl⟩
theorem rs_over {m n : Nat} {L : List (List Int)} {cols : List Int} {d : Int} (h : Meets m n cols) (hd : 0 ≤ d) (hf : Wid.fit64 (lea L cols + d) = false) : rsCode m n L cols d = 4 ∧ rsRes m n L cols d = L := by
  unfold rsCode rsRes
  rw [if_pos h, if_neg (by omega), hf, if_neg (by simp), if_neg (by simp)]
  exact ⟨rfl, rfl⟩
theorem rs_yes {m n : Nat} {L : List (List Int)} {cols : List Int} {d : Int} (h : Meets m n cols) (hd : 0 ≤ d) (hf : Wid.fit64 (lea L cols + d) = true) : rsCode m n L cols d = 0 ∧ rsRes m n L cols d = raised L cols (lea L cols + d) := by
  unfold rsCode rsRes
  rw [if_pos h, if_neg (by omega), hf, if_pos rfl, if_pos ⟨h, hd, rfl⟩]
  exact ⟨rfl, rfl⟩
theorem raised_len {L : List (List Int)} {cols : List Int} (x : Int) (h : cols.length = L.length) : (raised L cols x).length = L.length := by unfold raised; rw [List.length_zipWith]; omega
theorem raised_at {m n : Nat} {L : List (List Int)} {cols : List Int} (hd : Dims m n L) (h : Meets m n cols) (x : Int) {k : Nat} {v : Int} (hv : cols[k]? = some v) : (raised L cols x)[k]? = (L[k]?.map (fun r => r.set v.toNat (max (at2 L k v) x))) := by
  have hk : k < cols.length := (List.getElem?_eq_some_iff.1 hv).1
  have hl : k < L.length := by rw [hd.len, ← h.2.1]; exact hk
  have hb := meets_at h hv
  unfold raised at2
  rw [List.getElem?_zipWith, hv, List.getElem?_eq_getElem hl, if_neg (by omega)]
  simp [List.getElem?_eq_getElem hl]
theorem upto2_mod {α : Type} {X Y : List α} {n k : Nat} {x : α} (f : α → α) (hX : X.length = n) (hY : Y.length = n) (hx : X[k]? = some x) (hy : Y[k]? = some (f x)) : (upto2 X Y k).modify k f = upto2 X Y (k + 1) := by
  have hk : k < n := by rw [← hX]; exact (List.getElem?_eq_some_iff.1 hx).1
  rw [← upto2_set hX hY hy]
  apply List.ext_getElem?
  intro i
  rw [List.getElem?_modify, List.getElem?_set, upto2_len hX hY (by omega)]
  by_cases e : k = i
  · subst e
    rw [upto2_get hX hY hk, hx, if_pos rfl, if_pos hk]
    simp
  · rw [if_neg e]
    simp [e]
theorem at2_in {m n : Nat} {L : List (List Int)} (hd : Dims m n L) (k : Nat) (v : Int) : -9223372036854775808 ≤ at2 L k v ∧ at2 L k v ≤ 9223372036854775807 := by
  unfold at2
  split
  · omega
  · cases e : L[(k : Int).toNat]? with
    | none => simp
    | some r =>
      have h2 := hd.rows r (List.mem_of_getElem? e)
      simp only [Option.getD_some]
      cases e2 : r[v.toNat]? with
      | none => simp
      | some y => simpa using h2.2 y (List.mem_of_getElem? e2)
theorem raised_dims {m n : Nat} {L : List (List Int)} {cols : List Int} {x : Int} (hd : Dims m n L) (h : Meets m n cols) (x0 : -9223372036854775808 ≤ x) (x1 : x ≤ 9223372036854775807) : Dims m n (raised L cols x) := by
  have hl : cols.length = L.length := by rw [hd.len]; exact h.2.1
  refine ⟨by rw [raised_len x hl, hd.len], hd.m8, hd.n128, fun r hr => ?_⟩
  obtain ⟨k, hk, e⟩ := List.mem_iff_getElem.1 hr
  rw [raised_len x hl] at hk
  have h2 := raised_at hd h x (k := k) (List.getElem?_eq_getElem (by omega))
  rw [List.getElem?_eq_getElem hk, List.getElem?_eq_getElem (by rw [raised_len x hl]; exact hk), e] at h2
  simp only [Option.map_some] at h2
  injection h2 with h2
  have h3 := hd.rows _ (List.getElem_mem hk)
  have h4 := at2_in hd k (cols[k]'(by omega))
  rw [h2]
  exact ⟨by rw [List.length_set]; exact h3.1, in64_set h3.2 _ (by omega) (by omega)⟩
theorem lea_in {m n : Nat} {L : List (List Int)} {cols : List Int} (hd : Dims m n L) : -9223372036854775808 ≤ lea L cols ∧ lea L cols ≤ 9223372036854775807 :=
  Ord.kv_in _ _ _ _ (by omega) (by omega) (named_in hd)
end Go.Proofs.YtiblpdjehknbcaaGreat.Con
