/- The statement LinearLeast of layer 8 holds. Printed by wip/gen/linlaws2.py. -/
import Derived.Test.YtmneihdkkmgbkaaLinLstM
import Derived.Test.YtmneihdkkmgbkaaLaw
import Derived.Deep.LoopGhost
import Derived.Deep.RegionHeld3
import Derived.Deep.QuietTactic
import Derived.BigQuiet
namespace Go.Proofs.Ytmneihdkkmgbkaa.Lin
open Go Go.RowKit Lw Grd
set_option linter.unusedVariables false
set_option linter.unusedSimpArgs false
theorem lst_int_c : Try.prog.cellsOf 3 = 1 := by kernel_rfl
theorem open_list_int {H : Type} {enc : TypeId × Value → H} {W : World} {v : Value} {d : DataW H} {p : List MemPlace} {base : Nat} (hv : Value.okWide Try.prog W .any base 28 v)
    (h : DataW.Trod enc Try.prog W 0 (fun _ => true) true 28 v d p) :
    ∃ (A : Option Addr) (n cap : Nat) (zs : List Int), v = .slice A n cap ∧ (A = none → n = 0 ∧ cap = 0) ∧ n ≤ cap ∧ cap ≤ maxLen ∧ Rd .i64 W A zs ∧ zs.length = n ∧ (∀ v ∈ zs, -9223372036854775808 ≤ v ∧ v ≤ 9223372036854775807) := by
  obtain ⟨a0, len, cap, rfl⟩ := Go.WideShapes.okWide_slice Try.underlying28 hv
  obtain ⟨fuel, hf⟩ := h
  rcases Go.ChangeShapes.open_ints Try.underlying28 Try.underlying3 lst_int_c hf with ⟨hcs, _⟩ | ⟨a, len', cap', zs, hcs, _, hl, hm, hz, _, hcell, hwz⟩
  · simp [Value.cells] at hcs
    obtain ⟨rfl, rfl, rfl⟩ := hcs
    exact ⟨none, 0, 0, [], rfl, fun _ => ⟨rfl, rfl⟩, Nat.le_refl _, by simp, rd_nil _ _ _, rfl, fun v h => by simp at h⟩
  · simp [Value.cells] at hcs
    obtain ⟨rfl, rfl, rfl⟩ := hcs
    have hz2 : zs.length = cap := by simpa using hz
    refine ⟨some a, len, cap, zs.take len, rfl, (fun h => by cases h), hl, hm, ?_, by simp; omega, ?_⟩
    · intro k v hk
      rw [List.getElem?_take] at hk
      split at hk
      · refine ⟨a, rfl, ?_⟩
        rw [hcell k (by omega)]
        simp [hk]
      · cases hk
    · intro v hv
      exact Lw.wf_i64 (hwz v (List.mem_of_mem_take hv))
theorem small_q (d : Int) (w : World) (d0 : -9223372036854775808 ≤ d) (d1 : d ≤ 9223372036854775807) :
    Calls Try.prog 25 #[.int .i64 d] w fun e w' => e = .returned (.int .i64 (Int.tmod d 1099511627776)) ∧ w' = w :=
  (small_any d w d0 d1).mono fun e w' h => ⟨h.1, h.2.symm⟩
theorem two_boxes (w : World) (e1 e2 : TypeId) (v1 v2 : Array Value) : Have w ((w.alloc (.cells v1 e1)).alloc (.cells v2 e2)) [boxT (w.heap.size + 1) e2 v2, boxT w.heap.size e1 v1] := by
  refine (box_new w e1 v1).push (boxT (w.heap.size + 1) e2 v2) (Lw.below_alloc (Below.refl _ _) _) ?_ (fun k hk => ?_)
  · have h := heap_alloc_new (w.alloc (.cells v1 e1)) (.cells v2 e2)
    rw [World.size_alloc] at h
    exact h
  · rw [World.size_alloc]
    exact Nat.le_of_eq hk.symm
theorem box2 {w : World} {b : Nat} {e : TypeId} {v0 v1 : Value} (h : (boxT b e #[v0, v1]).I w) : w.cell? ⟨b, 0, none⟩ = some v0 ∧ w.cell? ⟨b, 1, none⟩ = some v1 := ⟨box_cell h rfl, box_cell h rfl⟩
theorem read_meets {m n : Nat} {L : List (List Int)} {cols : List Int} (h : Meets m n cols) : readOf m n L cols = named L cols ∧ rdCode m n cols = 0 := by
  unfold readOf rdCode
  rw [if_pos h, if_pos h]
  exact ⟨rfl, rfl⟩
theorem named_sz {m n : Nat} {L : List (List Int)} {cols : List Int} (h : Sz m n L) (hc : Meets m n cols) : (named L cols).length = m := by rw [named_len (by rw [hc.2.1, h.1]), h.1]
theorem meets_in {m n : Nat} {cols : List Int} (h : Meets m n cols) (hn : n ≤ 1000) : In64 cols := fun v hv => by have := h.2.2 v hv; omega
/-- What Read, Least and Middle tell of columns that meet. -/
theorem read_m {p : Addr} {F : Nat → Prop} {m n : Nat} {L : List (List Int)} {A : Option Addr} {cap : Nat} {cols : List Int} {w : World} (h : PG w p F m n L) (hc : Rd .i64 w A cols) (hm : Meets m n cols) (hm5 : m ≤ 5) (hn9 : n ≤ 9) :
    Calls Try.prog 14 #[.pointer (some p), .slice A m cap] w fun e w' => ∃ (A2 : Option Addr) (cap2 : Nat), e = .returned (.tuple #[.slice A2 m cap2, .int .i64 0]) ∧ Rd .i64 w' A2 (named L cols) ∧ m ≤ cap2 ∧ cap2 ≤ maxLen ∧ Below w.heap.size w w' :=
  (read_any p F m n L A m cap cols w h hc hm.2.1 (by omega) (meets_in hm (by omega))).mono fun e w' ⟨A2, len, cap2, he, hr, hl, h1, h2, _, _, hb⟩ => by
    obtain ⟨e1, e2⟩ := read_meets (L := L) hm
    rw [e1] at hr hl
    rw [e2] at he
    rw [named_sz (sz_dims h.dims) hm] at hl
    subst hl
    exact ⟨A2, cap2, he, hr, h1, h2, hb⟩
theorem least_m {p : Addr} {F : Nat → Prop} {m n : Nat} {L : List (List Int)} {A : Option Addr} {cap : Nat} {cols : List Int} {w : World} (h : PG w p F m n L) (hc : Rd .i64 w A cols) (hm : Meets m n cols) (hm5 : m ≤ 5) (hn9 : n ≤ 9) :
    Calls Try.prog 15 #[.pointer (some p), .slice A m cap] w fun e w' => e = .returned (.tuple #[.int .i64 (Ord.kv (named L cols) 0), .int .i64 0]) ∧ Below w.heap.size w w' :=
  (least_any p F m n L A m cap cols w h hc hm.2.1 (by omega) (meets_in hm (by omega))).mono fun e w' ⟨he, hb⟩ => by
    obtain ⟨e1, e2⟩ := read_meets (L := L) hm
    rw [e1, e2] at he
    exact ⟨he, hb⟩
theorem middle_m {p : Addr} {F : Nat → Prop} {m n : Nat} {L : List (List Int)} {A : Option Addr} {cap : Nat} {cols : List Int} {w : World} (h : PG w p F m n L) (hc : Rd .i64 w A cols) (hm : Meets m n cols) (hm5 : m ≤ 5) (hn9 : n ≤ 9) :
    Calls Try.prog 16 #[.pointer (some p), .slice A m cap] w fun e w' => e = .returned (.tuple #[.int .i64 (Ord.kv (named L cols) ((((named L cols).length : Int) - 1) / 2)), .int .i64 0]) ∧ Below w.heap.size w w' :=
  (middle_any p F m n L A m cap cols w h hc hm.2.1 (by omega) (meets_in hm (by omega))).mono fun e w' ⟨he, hb⟩ => by
    obtain ⟨e1, e2⟩ := read_meets (L := L) hm
    rw [e1, e2] at he
    exact ⟨he, hb⟩
/-- A thing that is there, apart from the others. -/
theorem _root_.Go.Proofs.Ytmneihdkkmgbkaa.Lw.Have.push_at {w0 w : World} {ts : List Thing} (h : Have w0 w ts) (t : Thing) (ht : t.I w) (hn : ∀ k, t.F k → ∀ u ∈ ts, ¬ u.F k) (hw : ∀ k, t.F k → w0.heap.size ≤ k) : Have w0 w (t :: ts) :=
  ⟨ht, hw, fun u hu k hk h2 => hn k hk u hu h2, h⟩
set_option maxRecDepth 100000 in
set_option maxHeartbeats 4000000 in
theorem least_a (rows width : Int) (A : Option Addr) (n0 c0 : Nat) (qs : List StepV) (w : World) (A1 : Option Addr) (n1 c1 : Nat) (cs : List Int) (hA1 : A1 = none → n1 = 0 ∧ c1 = 0) (hn1 : n1 ≤ c1) (hc1 : c1 ≤ maxLen) (hr1 : Rd .i64 w A1 cs) (hl1 : cs.length = n1) (hz1 : In64 cs) (hq : Steps w A n0 c0 qs) (hcase : 0 < n0 ∧ n0 % 2 = 0) :
    Calls Try.prog 6 #[.agg #[.int .i64 rows, .int .i64 width, .slice A n0 c0], .slice A1 n1 c1] w fun e w' => e = .returned (.bool true) ∧ Below w.heap.size w w' := by
  obtain ⟨m, hm⟩ : ∃ m, rowsOf rows = m := ⟨_, rfl⟩
  obtain ⟨n, hn⟩ : ∃ n, widthOf width = n := ⟨_, rfl⟩
  have hmb := rows_bd rows
  have hnb := width_bd width
  rw [hm] at hmb
  rw [hn] at hnb
  have HQ := Lib.hid hq
  have HBX : Hid (Have w (w.alloc (.cells #[.int .i64 rows, .int .i64 width, .slice A n0 c0] 45)) [boxT w.heap.size 45 #[.int .i64 rows, .int .i64 width, .slice A n0 c0]]) := Lib.hid (box_new w _ _)
  have HR1 := Lib.hid hr1
  obtain ⟨i0, hi, hz0, hz1x, hz2⟩ := info_parts i64_info
  obtain ⟨ops, hops⟩ : ∃ ops, opsOf false true m n qs = ops := ⟨_, rfl⟩
  have HOK : Hid (OpsOk m n 1099511627776 ops) := Lib.hid (by rw [← hops]; exact ops_ok false true qs hmb.1 hnb.1)
  have H45 : Hid (Plus 1099511627776 ops) := Lib.hid (by
    rw [← hops]
    intro o ho
    unfold opsOf at ho
    obtain ⟨q, _, rfl⟩ := List.mem_map.1 ho
    exact ⟨dv_plain q.d, (dv_bd true q.d).2⟩)
  have HOG : Hid (∀ (k : Nat) (q : StepV), k < 60 → qs[k]? = some q → ops[k]? = some (cutOf q.zs m n, dv true q.d)) := Lib.hid (fun k q hk hq2 => by
    have h := ops_get false true m n qs rfl (k := k) (q := q) (by have := (List.getElem?_eq_some_iff.1 hq2).1; omega) (by unfold idx; rw [if_neg (by decide)]; exact hq2)
    rw [hops] at h
    exact h)
  have HOL : Hid (ops.length = min 60 n0) := Lib.hid (by rw [← hops, ops_len, hq.len])
  obtain ⟨L, hL⟩ : ∃ L, chAll (zerosL m n) ops = L := ⟨_, rfl⟩
  have HLL := Lib.hid hL
  have D1 := Lib.hid (fun w hq => done_ft rows width A n0 c0 qs m n w hm hn hq)
  rw [hops, hL] at D1
  have CS := Lib.hid (fun w => sized_any rows width A n0 c0 w)
  rw [hm, hn] at CS
  have hnc := hq.nc
  have hcm := hq.cm
  unfold maxLen at hcm
  have HL := Lib.hid hq.len
  clear hm hn hL hops hr1
  have h0 := hcase.1
  have ht : Int.tmod (n0 : Int) 2 = 0 := by rw [Int.tmod_eq_emod_of_nonneg (by omega)]; omega
  obtain ⟨q0, hq0⟩ : ∃ q, qs[0]? = some q := ⟨_, List.getElem?_eq_getElem (by rw [hq.len]; omega)⟩
  clear hcase
  clear hq
  go_enter Try.func6, Try.ntmps6
  go_wp2_with (first
    | (go_at_call 27; (with_reducible refine (rcut_any A1 n1 c1 cs m n _ (HR1.out.up HBW2.out) hl1 (Nat.le_trans hn1 hc1) (by omega) (by omega) (by omega)).mono ?_); rintro e w5 ⟨A5, cap5, rfl, own5, rd5, hc5, hm5, hb5⟩; have HV5 := Lib.hid (HV2.out.up hb5); have HBW5 := Lib.hid HV5.out.below; obtain ⟨kc0, kc1, kc2⟩ := box3 HV5.out.2.2.2.2.2.2.1; obtain ⟨ad, gad, capX, hAh, cA, hX1, hX2, rdX⟩ := row_at (rr_of HV5.out) HR.out (by omega) hq0; subst hAh; have ad0 : ad.add 0 = ad := (by unfold Addr.add; simp); rw [ad0] at cA; have RDX := Lib.hid rdX; have MX := Lib.hid (cut_meets q0.zs hmb.1 hnb.1); clear rdX; unfold maxLen at hX2; clear own5 rd5 hb5)
    | (go_at_call 24; (with_reducible refine (D1.out _ (HQ.out.up HBW1.out)).mono ?_); rintro e w2 ⟨p, F1, hdr1, R1, rfl, hv, hR⟩; have HV2' := HV1.out.join hv; simp only [List.cons_append, List.nil_append] at HV2'; have HRL := rows_len hR; rw [HL.out] at HRL; obtain ⟨Ah, ch, hh1, hh2, hh3, hh4, -⟩ := (rr_of HV2').hd; subst hh1; obtain ⟨N, hN⟩ : ∃ N, R1.length = N := ⟨_, rfl⟩; rw [hN] at HRL hh2 HV2'; simp only [hN]; have HN1 : Hid (N = min 60 n0) := Lib.hid HRL; have hN0 : N ≤ 60 ∧ N ≤ n0 ∧ (60 ≤ N ∨ n0 ≤ N) := (by omega); unfold maxLen at hh3; have HHN := Lib.hid hh4; have HV2 := Lib.hid HV2'; have HBW2 := Lib.hid HV2'.below; have HR := Lib.hid hR; clear hv hR k0 k1 k2 HV2' hh4 hN HRL)
    | (go_at_call 23; (with_reducible refine (CS.out _).mono ?_); rintro e wz ⟨rfl, hb⟩; have HV1' := Lib.hid (HV1.out.up hb); clear HV1 HBW1; have HV1 := Lib.hid HV1'.out; clear HV1'; have HBW1 := Lib.hid HV1.out.below; clear k0 k1 k2; obtain ⟨k0, k1, k2⟩ := box3 HV1.out.1; clear hb)
    | (go_at_call 9; (with_reducible refine (shown_any _).mono ?_); rintro e w1 ⟨rfl, hb⟩; have HV1 := Lib.hid (HBX.out.up hb); have HBW1 := Lib.hid HV1.out.below; obtain ⟨k0, k1, k2⟩ := box3 HV1.out.1; clear hb))
  have HAX : Hid (gad.block < w5.heap.size) := Lib.hid (by
    obtain ⟨v, hv, _⟩ := meets_get MX.out (r := 0) (by omega)
    have h := cell_lt (RDX.out.at hv)
    have e : (gad.add 0).block = gad.block := by unfold Addr.add; split <;> rfl
    rwa [e] at h)
  have hNle : N ≤ 60 := by omega
  have hNn : N ≤ n0 := by omega
  obtain ⟨N2, hN2⟩ : ∃ N2, N2 = N := ⟨_, rfl⟩
  clear hN0 hN2 kc0 kc1 kc2 hq0
  go_loopw [11, 12] (fun ot rv wr => ∃ (r : Nat), r ≤ m ∧ rv = .int .i64 r ∧ wr.ownsRow w5.heap.size 2 1 ot r ((List.replicate r (0 : Int)).map (Value.int .i64)) ∧ Below w5.heap.size w5 wr) (fun _ rv _ => m - (intOf rv).toNat)
  case atStart => exact ⟨0, Nat.zero_le _, rfl, ⟨rfl, .inl ⟨rfl, rfl⟩⟩, Below.refl _ _⟩
  case round =>
    obtain ⟨r, hr, rfl, hown, hbel⟩ := hrel
    have HOW := Lib.hid hown
    have HBE := Lib.hid hbel
    have hsz := hbel.size
    clear hown hbel
    by_cases hlt : r < m
    · have HNX : Hid (List.replicate (r + 1) (0 : Int) = List.replicate r 0 ++ [0]) := Lib.hid (rep_next r)
      go_wp2_with (at_builtin; (refine app_one .i64 rfl _ _ 34 rfl w5.heap.size 2 i0 8 i64s_u hi hz0 hz1x hz2 _ r (List.replicate r 0) rfl (HOW.out.alloc _) 0 wr.heap.size rfl (cell_one_new _ _ _) (by unfold maxLen; omega) (by omega) (by simp; omega) ?_); intro v1 w6 own6 grow6 oth6)
      go_roundw
      case rel => exact ⟨r + 1, by omega, by go_num, by rw [HNX.out]; exact own6, app_below3 (Lw.below_alloc HBE.out _) grow6 (fun q hq => own_ge HOW.out q hq)⟩
      case measure => simp [intOf]; omega
    · have e : m = r := by omega
      subst e
      obtain ⟨Ao, co, hvo, hrdo, ho1, ho2, ho3⟩ := own_rd HOW.out
      subst hvo
      obtain ⟨ao, hao⟩ : ∃ ao, Ao = some ao := by
        cases Ao with
        | none => have := (ho3 rfl).1; omega
        | some ao => exact ⟨ao, rfl⟩
      subst hao
      obtain ⟨go, rfl, hgo, hmid⟩ := Ord.mid_own HOW.out
      unfold maxLen at ho2
      have HAG : Hid (∀ a, some gad = some a → ¬ (rowT (some ⟨go, 0, none⟩) (othR (cutOf q0.zs m n) m ops 0 0)).F a.block) := Lib.hid (fun a ha hf => by
        injection ha with ha
        subst ha
        obtain ⟨b, hb, hb2⟩ := hf
        injection hb with hb
        subst hb
        have := HAX.out
        simp only at hb2
        omega)
      have HVO : Hid (Have w wr [rowT (some ⟨go, 0, none⟩) (othR (cutOf q0.zs m n) m ops 0 0), pgT p F1 m n L, rrT wz.heap.size 28 (.slice (some ad) N ch) R1, boxT w.heap.size 45 #[.int .i64 rows, .int .i64 width, .slice A n0 c0]]) := Lib.hid (by
        refine Have.push_at (HV5.out.up HBE.out) (rowT (some ⟨go, 0, none⟩) (othR (cutOf q0.zs m n) m ops 0 0)) ?_ ?_ ?_
        · show Row1 wr _ _
          rw [othR_zero]
          exact mid_row hmid
        · intro k hk u hu hu2
          obtain ⟨b, hb, hb2⟩ := hk
          injection hb with hb
          subst hb
          have h1 := u.lt w5 (HV5.out.one u hu).1 k hu2
          simp only at hb2
          omega
        · intro k hk
          obtain ⟨b, hb, hb2⟩ := hk
          injection hb with hb
          subst hb
          have h1 := HBW5.out.size
          simp only at hb2
          omega)
      have HRO : Hid (Rd .i64 wr (some gad) (cutOf q0.zs m n)) := Lib.hid (RDX.out.up HBE.out)
      clear hrdo ho3 hmid
      obtain ⟨god, hgad⟩ : ∃ god : Addr, (⟨go, 0, none⟩ : Addr) = god := ⟨_, rfl⟩
      rw [hgad] at HVO HAG ⊢
      have HBO := Lib.hid HVO.out.below
      clear hgad
      go_wp2
      go_loopw [10, 13] (fun ow iv wr => ∃ (j : Nat), j ≤ N ∧ iv = .int .i64 j ∧ ow = .int .i64 (own (cutOf q0.zs m n) (ops.take j)) ∧ Have w wr [rowT (some god) (othR (cutOf q0.zs m n) m ops j 0), pgT p F1 m n L, rrT wz.heap.size 28 (.slice (some ad) N ch) R1, boxT w.heap.size 45 #[.int .i64 rows, .int .i64 width, .slice A n0 c0]] ∧ Rd .i64 wr (some gad) (cutOf q0.zs m n)) (fun _ iv _ => N - (intOf iv).toNat)
      case atStart => exact ⟨0, Nat.zero_le _, rfl, rfl, HVO.out, HRO.out⟩
      case round =>
        obtain ⟨wo, rfl⟩ : ∃ wo, wo = wr := ⟨_, rfl⟩
        obtain ⟨j, hj, rfl, rfl, hv2, hr2⟩ := hrel
        have HVi := Lib.hid hv2
        have HRi := Lib.hid hr2
        clear hv2 hr2
        have HBi := Lib.hid HVi.out.below
        have hob := own_bd (cols := (cutOf q0.zs m n)) (fun o ho => H45.out o (List.mem_of_mem_take (i := j) ho))
        have hjl : (ops.take j).length ≤ j := by rw [List.length_take]; omega
        obtain ⟨X, hX⟩ : ∃ X, own (cutOf q0.zs m n) (ops.take j) = X := ⟨_, rfl⟩
        rw [hX] at hob ⊢
        have hob1 : 0 ≤ X ∧ X ≤ 65970697666560 := by omega
        clear hob hjl
        by_cases hjn : j < N
        · obtain ⟨q, hq1⟩ : ∃ q, qs[j]? = some q := ⟨_, List.getElem?_eq_getElem (by rw [HL.out]; omega)⟩
          have HO := Lib.hid (HOG.out j q (by omega) hq1)
          have hon := own_next (cols := (cutOf q0.zs m n)) HO.out
          rw [hX] at hon
          simp only at hon
          obtain ⟨kb0, kb1, kb2⟩ := box3 HVi.out.2.2.2.2.2.2.2.2.2.1
          obtain ⟨ad1, gad1, cap1, hA1x, cA, hcap1, hcap2, hrd⟩ := row_at (rr_of HVi.out.drop) HR.out (by omega) hq1
          injection hA1x with hA1x
          subst hA1x
          unfold maxLen at hcap2
          have RDJ := Lib.hid hrd
          obtain ⟨a, g, o, ha2, hadd, d1, d2, hin⟩ := (HQ.out.up HBi.out).at hq1
          subst ha2
          have b1 := hin.db
          have CB := Lib.hid (fun w => small_q q.d w b1.1 b1.2)
          have tb1 := tmod_bd q.d
          have HOB := Lib.hid (fun i => oth_bd (cols := (cutOf q0.zs m n)) (r := i) (fun o ho => H45.out o (List.mem_of_mem_take (i := j) ho)))
          have hjl : (ops.take j).length ≤ j := by rw [List.length_take]; omega
          have HQ1 := Lib.hid hq1
          obtain ⟨D, hD⟩ : ∃ D, dv true q.d = D := ⟨_, rfl⟩
          rw [hD] at hon HO
          obtain ⟨T, hT⟩ : ∃ T, Int.tmod q.d 1099511627776 = T := ⟨_, rfl⟩
          rw [hT] at CB tb1
          have hDT : 0 ≤ T ∧ D = T ∨ T < 0 ∧ D = -T := by
            unfold dv at hD
            rw [if_pos rfl, hT] at hD
            split at hD <;> omega
          clear hD hT hX hq1 hrd hin
          rcases hDT with ⟨hs, hD⟩ | ⟨hs, hD⟩
          · have hDb : 0 ≤ D ∧ D ≤ 1099511627776 := by omega
            by_cases hsame : cutOf q.zs m n = (cutOf q0.zs m n)
            · have e1 : own (cutOf q0.zs m n) (ops.take (j + 1)) = X + T := by rw [hon, if_pos hsame]; omega
              have E1 := Lib.hid e1
              have E2 := Lib.hid (othR_same (m := m) HO.out hsame)
              clear hon e1 hD
              go_wp2
              go_quiet (first | (go_at_call 25; with_reducible refine Calls.quiet_of_same (CB.out _)))
              go_wp2_with (go_at_call 28; (with_reducible refine (rsame8_any (some gad1) (some gad) m m cap1 capX (cutOf q.zs m n) (cutOf q0.zs m n) _ (RDJ.out.up (by repeat' (first | (with_reducible exact Below.refl _ _) | (with_reducible assumption) | (with_reducible refine below_over ?_ _ _) | (with_reducible refine Lw.below_alloc ?_ _) | (with_reducible refine Below.drew ?_) | (with_reducible refine below_drewN ?_ _) | (with_reducible refine Below.setCell ?_ ?_ _) | go_size))) (HRi.out.up (by repeat' (first | (with_reducible exact Below.refl _ _) | (with_reducible assumption) | (with_reducible refine below_over ?_ _ _) | (with_reducible refine Lw.below_alloc ?_ _) | (with_reducible refine Below.drew ?_) | (with_reducible refine below_drewN ?_ _) | (with_reducible refine Below.setCell ?_ ?_ _) | go_size))) (cut_len _ _ _) (cut_len _ _ _) (by omega) (by omega)).mono ?_); rintro e w7 ⟨he, hb⟩; rw [decide_eq_true hsame] at he; subst he; have HV7 := Lib.hid ((HVi.out.up (by repeat' (first | (with_reducible exact Below.refl _ _) | (with_reducible assumption) | (with_reducible refine below_over ?_ _ _) | (with_reducible refine Lw.below_alloc ?_ _) | (with_reducible refine Below.drew ?_) | (with_reducible refine below_drewN ?_ _) | (with_reducible refine Below.setCell ?_ ?_ _) | go_size))).up hb); have HR7 := Lib.hid ((HRi.out.up (by repeat' (first | (with_reducible exact Below.refl _ _) | (with_reducible assumption) | (with_reducible refine below_over ?_ _ _) | (with_reducible refine Lw.below_alloc ?_ _) | (with_reducible refine Below.drew ?_) | (with_reducible refine below_drewN ?_ _) | (with_reducible refine Below.setCell ?_ ?_ _) | go_size))).up hb); clear hb)
              go_roundw
              case rel => exact ⟨j + 1, by omega, by go_num, by rw [E1.out], by rw [← E2.out]; exact HV7.out, HR7.out⟩
              case measure => simp [intOf]; omega
            · have e1 : own (cutOf q0.zs m n) (ops.take (j + 1)) = X := by rw [hon, if_neg hsame]; omega
              have E1 := Lib.hid e1
              have HNS := Lib.hid hsame
              clear hon e1
              go_wp2
              go_quiet (first | (go_at_call 25; with_reducible refine Calls.quiet_of_same (CB.out _)))
              go_wp2_with (go_at_call 28; (with_reducible refine (rsame8_any (some gad1) (some gad) m m cap1 capX (cutOf q.zs m n) (cutOf q0.zs m n) _ (RDJ.out.up (by repeat' (first | (with_reducible exact Below.refl _ _) | (with_reducible assumption) | (with_reducible refine below_over ?_ _ _) | (with_reducible refine Lw.below_alloc ?_ _) | (with_reducible refine Below.drew ?_) | (with_reducible refine below_drewN ?_ _) | (with_reducible refine Below.setCell ?_ ?_ _) | go_size))) (HRi.out.up (by repeat' (first | (with_reducible exact Below.refl _ _) | (with_reducible assumption) | (with_reducible refine below_over ?_ _ _) | (with_reducible refine Lw.below_alloc ?_ _) | (with_reducible refine Below.drew ?_) | (with_reducible refine below_drewN ?_ _) | (with_reducible refine Below.setCell ?_ ?_ _) | go_size))) (cut_len _ _ _) (cut_len _ _ _) (by omega) (by omega)).mono ?_); rintro e w7 ⟨he, hb⟩; rw [decide_eq_false HNS.out] at he; subst he; have HV7 := Lib.hid ((HVi.out.up (by repeat' (first | (with_reducible exact Below.refl _ _) | (with_reducible assumption) | (with_reducible refine below_over ?_ _ _) | (with_reducible refine Lw.below_alloc ?_ _) | (with_reducible refine Below.drew ?_) | (with_reducible refine below_drewN ?_ _) | (with_reducible refine Below.setCell ?_ ?_ _) | go_size))).up hb); have HR7 := Lib.hid ((HRi.out.up (by repeat' (first | (with_reducible exact Below.refl _ _) | (with_reducible assumption) | (with_reducible refine below_over ?_ _ _) | (with_reducible refine Lw.below_alloc ?_ _) | (with_reducible refine Below.drew ?_) | (with_reducible refine below_drewN ?_ _) | (with_reducible refine Below.setCell ?_ ?_ _) | go_size))).up hb); clear hb)
              go_loopw [15] (fun rv wr => ∃ (r : Nat), r ≤ m ∧ rv = .int .i64 r ∧ Have w wr [rowT (some god) (othR (cutOf q0.zs m n) m ops j r), pgT p F1 m n L, rrT wz.heap.size 28 (.slice (some ad) N ch) R1, boxT w.heap.size 45 #[.int .i64 rows, .int .i64 width, .slice (some a) n0 c0]] ∧ Rd .i64 wr (some gad) (cutOf q0.zs m n)) (fun rv _ => m - (intOf rv).toNat)
              case atStart => exact ⟨0, Nat.zero_le _, rfl, HV7.out, HR7.out⟩
              case round =>
                obtain ⟨r, hr, rfl, hv3, hr3⟩ := hrel
                have HV3 := Lib.hid hv3
                have HR3 := Lib.hid hr3
                clear hv3 hr3
                by_cases hrm : r < m
                · obtain ⟨ad3, gad3, cap3, hA3x, cA3, hcap31, hcap32, hrd3⟩ := row_at (rr_of HV3.out.drop) HR.out (by omega) HQ1.out
                  injection hA3x with hA3x
                  subst hA3x
                  unfold maxLen at hcap32
                  obtain ⟨v1, hv1, hvn1⟩ := cut_get q.zs hrm hnb.1
                  obtain ⟨v2, hv2, hvn2⟩ := meets_get MX.out hrm
                  have cB1 := hrd3.at hv1
                  have cB2 := HR3.out.at hv2
                  by_cases hvv : v1 = v2
                  · subst hvv
                    have hob2 := HOB.out r
                    obtain ⟨x, hx⟩ : ∃ x, oth (cutOf q0.zs m n) r (ops.take j) = x := ⟨_, rfl⟩
                    have HY := othR_yes hrm HO.out HNS.out (by simp only; rw [hv1, hv2])
                    simp only at HY
                    rw [hx] at HY hob2
                    have hxb : 0 ≤ x ∧ x ≤ 65970697666560 := by omega
                    have hgx := othR_get (cutOf q0.zs m n) ops j hrm
                    rw [hx] at hgx
                    obtain ⟨a5, ha5, hc5x, hf5, hrow5, hk5⟩ := row1_at HV3.out.1 hgx (x + T)
                    injection ha5 with ha5
                    subst ha5
                    rw [show x + T = x + D from by omega, HY, show x + D = x + T from by omega] at hrow5
                    have HV8 := Lib.hid (HV3.out.turn0 (rowT (some god) (othR (cutOf q0.zs m n) m ops j (r + 1))) hrow5 hk5 (fun k hk => .inl hk))
                    have HR8 := Lib.hid (HR3.out.keep hk5 HAG.out)
                    clear hrd3 hv1 hv2 hob2 hx HY hgx hrow5 hk5
                    go_wp2
                    go_quiet (fail)
                    go_wp2
                    go_roundw
                    case rel => exact ⟨r + 1, by omega, by go_num, HV8.out.up (by repeat' (first | (with_reducible exact Below.refl _ _) | (with_reducible assumption) | (with_reducible refine below_over ?_ _ _) | (with_reducible refine Lw.below_alloc ?_ _) | (with_reducible refine Below.drew ?_) | (with_reducible refine below_drewN ?_ _) | (with_reducible refine Below.setCell ?_ ?_ _) | go_size)), HR8.out.up (by repeat' (first | (with_reducible exact Below.refl _ _) | (with_reducible assumption) | (with_reducible refine below_over ?_ _ _) | (with_reducible refine Lw.below_alloc ?_ _) | (with_reducible refine Below.drew ?_) | (with_reducible refine below_drewN ?_ _) | (with_reducible refine Below.setCell ?_ ?_ _) | go_size))⟩
                    case measure => simp [intOf]; omega
                  · have HY := Lib.hid (othR_no (m := m) HO.out (r := r) (cols := (cutOf q0.zs m n)) (by simp only; rw [hv1, hv2]; simp; omega))
                    have hvc : ((v1 : Int) == (v2 : Int)) = false := by simp; omega
                    have hvd : decide ((v1 : Int) = (v2 : Int)) = false := by simp; omega
                    clear hrd3 hv1 hv2
                    go_wp2
                    go_quiet (fail)
                    go_wp2
                    go_roundw
                    case rel => exact ⟨r + 1, by omega, by go_num, by rw [← HY.out]; exact HV3.out.up (by repeat' (first | (with_reducible exact Below.refl _ _) | (with_reducible assumption) | (with_reducible refine below_over ?_ _ _) | (with_reducible refine Lw.below_alloc ?_ _) | (with_reducible refine Below.drew ?_) | (with_reducible refine below_drewN ?_ _) | (with_reducible refine Below.setCell ?_ ?_ _) | go_size)), HR3.out.up (by repeat' (first | (with_reducible exact Below.refl _ _) | (with_reducible assumption) | (with_reducible refine below_over ?_ _ _) | (with_reducible refine Lw.below_alloc ?_ _) | (with_reducible refine Below.drew ?_) | (with_reducible refine below_drewN ?_ _) | (with_reducible refine Below.setCell ?_ ?_ _) | go_size))⟩
                    case measure => simp [intOf]; omega
                · have e : r = m := by omega
                  subst r
                  have E2 := Lib.hid (othR_turn (cutOf q0.zs m n) m ops j)
                  go_wp2
                  go_roundw
                  case rel => exact ⟨j + 1, by omega, by go_num, by rw [E1.out], by rw [← E2.out]; exact HV3.out, HR3.out⟩
                  case measure => simp [intOf]; omega
          · have hDb : 0 ≤ D ∧ D ≤ 1099511627776 := by omega
            by_cases hsame : cutOf q.zs m n = (cutOf q0.zs m n)
            · have e1 : own (cutOf q0.zs m n) (ops.take (j + 1)) = X + (-T) := by rw [hon, if_pos hsame]; omega
              have E1 := Lib.hid e1
              have E2 := Lib.hid (othR_same (m := m) HO.out hsame)
              clear hon e1 hD
              go_wp2
              go_quiet (first | (go_at_call 25; with_reducible refine Calls.quiet_of_same (CB.out _)))
              go_wp2_with (go_at_call 28; (with_reducible refine (rsame8_any (some gad1) (some gad) m m cap1 capX (cutOf q.zs m n) (cutOf q0.zs m n) _ (RDJ.out.up (by repeat' (first | (with_reducible exact Below.refl _ _) | (with_reducible assumption) | (with_reducible refine below_over ?_ _ _) | (with_reducible refine Lw.below_alloc ?_ _) | (with_reducible refine Below.drew ?_) | (with_reducible refine below_drewN ?_ _) | (with_reducible refine Below.setCell ?_ ?_ _) | go_size))) (HRi.out.up (by repeat' (first | (with_reducible exact Below.refl _ _) | (with_reducible assumption) | (with_reducible refine below_over ?_ _ _) | (with_reducible refine Lw.below_alloc ?_ _) | (with_reducible refine Below.drew ?_) | (with_reducible refine below_drewN ?_ _) | (with_reducible refine Below.setCell ?_ ?_ _) | go_size))) (cut_len _ _ _) (cut_len _ _ _) (by omega) (by omega)).mono ?_); rintro e w7 ⟨he, hb⟩; rw [decide_eq_true hsame] at he; subst he; have HV7 := Lib.hid ((HVi.out.up (by repeat' (first | (with_reducible exact Below.refl _ _) | (with_reducible assumption) | (with_reducible refine below_over ?_ _ _) | (with_reducible refine Lw.below_alloc ?_ _) | (with_reducible refine Below.drew ?_) | (with_reducible refine below_drewN ?_ _) | (with_reducible refine Below.setCell ?_ ?_ _) | go_size))).up hb); have HR7 := Lib.hid ((HRi.out.up (by repeat' (first | (with_reducible exact Below.refl _ _) | (with_reducible assumption) | (with_reducible refine below_over ?_ _ _) | (with_reducible refine Lw.below_alloc ?_ _) | (with_reducible refine Below.drew ?_) | (with_reducible refine below_drewN ?_ _) | (with_reducible refine Below.setCell ?_ ?_ _) | go_size))).up hb); clear hb)
              go_roundw
              case rel => exact ⟨j + 1, by omega, by go_num, by rw [E1.out], by rw [← E2.out]; exact HV7.out, HR7.out⟩
              case measure => simp [intOf]; omega
            · have e1 : own (cutOf q0.zs m n) (ops.take (j + 1)) = X := by rw [hon, if_neg hsame]; omega
              have E1 := Lib.hid e1
              have HNS := Lib.hid hsame
              clear hon e1
              go_wp2
              go_quiet (first | (go_at_call 25; with_reducible refine Calls.quiet_of_same (CB.out _)))
              go_wp2_with (go_at_call 28; (with_reducible refine (rsame8_any (some gad1) (some gad) m m cap1 capX (cutOf q.zs m n) (cutOf q0.zs m n) _ (RDJ.out.up (by repeat' (first | (with_reducible exact Below.refl _ _) | (with_reducible assumption) | (with_reducible refine below_over ?_ _ _) | (with_reducible refine Lw.below_alloc ?_ _) | (with_reducible refine Below.drew ?_) | (with_reducible refine below_drewN ?_ _) | (with_reducible refine Below.setCell ?_ ?_ _) | go_size))) (HRi.out.up (by repeat' (first | (with_reducible exact Below.refl _ _) | (with_reducible assumption) | (with_reducible refine below_over ?_ _ _) | (with_reducible refine Lw.below_alloc ?_ _) | (with_reducible refine Below.drew ?_) | (with_reducible refine below_drewN ?_ _) | (with_reducible refine Below.setCell ?_ ?_ _) | go_size))) (cut_len _ _ _) (cut_len _ _ _) (by omega) (by omega)).mono ?_); rintro e w7 ⟨he, hb⟩; rw [decide_eq_false HNS.out] at he; subst he; have HV7 := Lib.hid ((HVi.out.up (by repeat' (first | (with_reducible exact Below.refl _ _) | (with_reducible assumption) | (with_reducible refine below_over ?_ _ _) | (with_reducible refine Lw.below_alloc ?_ _) | (with_reducible refine Below.drew ?_) | (with_reducible refine below_drewN ?_ _) | (with_reducible refine Below.setCell ?_ ?_ _) | go_size))).up hb); have HR7 := Lib.hid ((HRi.out.up (by repeat' (first | (with_reducible exact Below.refl _ _) | (with_reducible assumption) | (with_reducible refine below_over ?_ _ _) | (with_reducible refine Lw.below_alloc ?_ _) | (with_reducible refine Below.drew ?_) | (with_reducible refine below_drewN ?_ _) | (with_reducible refine Below.setCell ?_ ?_ _) | go_size))).up hb); clear hb)
              go_loopw [15] (fun rv wr => ∃ (r : Nat), r ≤ m ∧ rv = .int .i64 r ∧ Have w wr [rowT (some god) (othR (cutOf q0.zs m n) m ops j r), pgT p F1 m n L, rrT wz.heap.size 28 (.slice (some ad) N ch) R1, boxT w.heap.size 45 #[.int .i64 rows, .int .i64 width, .slice (some a) n0 c0]] ∧ Rd .i64 wr (some gad) (cutOf q0.zs m n)) (fun rv _ => m - (intOf rv).toNat)
              case atStart => exact ⟨0, Nat.zero_le _, rfl, HV7.out, HR7.out⟩
              case round =>
                obtain ⟨r, hr, rfl, hv3, hr3⟩ := hrel
                have HV3 := Lib.hid hv3
                have HR3 := Lib.hid hr3
                clear hv3 hr3
                by_cases hrm : r < m
                · obtain ⟨ad3, gad3, cap3, hA3x, cA3, hcap31, hcap32, hrd3⟩ := row_at (rr_of HV3.out.drop) HR.out (by omega) HQ1.out
                  injection hA3x with hA3x
                  subst hA3x
                  unfold maxLen at hcap32
                  obtain ⟨v1, hv1, hvn1⟩ := cut_get q.zs hrm hnb.1
                  obtain ⟨v2, hv2, hvn2⟩ := meets_get MX.out hrm
                  have cB1 := hrd3.at hv1
                  have cB2 := HR3.out.at hv2
                  by_cases hvv : v1 = v2
                  · subst hvv
                    have hob2 := HOB.out r
                    obtain ⟨x, hx⟩ : ∃ x, oth (cutOf q0.zs m n) r (ops.take j) = x := ⟨_, rfl⟩
                    have HY := othR_yes hrm HO.out HNS.out (by simp only; rw [hv1, hv2])
                    simp only at HY
                    rw [hx] at HY hob2
                    have hxb : 0 ≤ x ∧ x ≤ 65970697666560 := by omega
                    have hgx := othR_get (cutOf q0.zs m n) ops j hrm
                    rw [hx] at hgx
                    obtain ⟨a5, ha5, hc5x, hf5, hrow5, hk5⟩ := row1_at HV3.out.1 hgx (x + (-T))
                    injection ha5 with ha5
                    subst ha5
                    rw [show x + (-T) = x + D from by omega, HY, show x + D = x + (-T) from by omega] at hrow5
                    have HV8 := Lib.hid (HV3.out.turn0 (rowT (some god) (othR (cutOf q0.zs m n) m ops j (r + 1))) hrow5 hk5 (fun k hk => .inl hk))
                    have HR8 := Lib.hid (HR3.out.keep hk5 HAG.out)
                    clear hrd3 hv1 hv2 hob2 hx HY hgx hrow5 hk5
                    go_wp2
                    go_quiet (fail)
                    go_wp2
                    go_roundw
                    case rel => exact ⟨r + 1, by omega, by go_num, HV8.out.up (by repeat' (first | (with_reducible exact Below.refl _ _) | (with_reducible assumption) | (with_reducible refine below_over ?_ _ _) | (with_reducible refine Lw.below_alloc ?_ _) | (with_reducible refine Below.drew ?_) | (with_reducible refine below_drewN ?_ _) | (with_reducible refine Below.setCell ?_ ?_ _) | go_size)), HR8.out.up (by repeat' (first | (with_reducible exact Below.refl _ _) | (with_reducible assumption) | (with_reducible refine below_over ?_ _ _) | (with_reducible refine Lw.below_alloc ?_ _) | (with_reducible refine Below.drew ?_) | (with_reducible refine below_drewN ?_ _) | (with_reducible refine Below.setCell ?_ ?_ _) | go_size))⟩
                    case measure => simp [intOf]; omega
                  · have HY := Lib.hid (othR_no (m := m) HO.out (r := r) (cols := (cutOf q0.zs m n)) (by simp only; rw [hv1, hv2]; simp; omega))
                    have hvc : ((v1 : Int) == (v2 : Int)) = false := by simp; omega
                    have hvd : decide ((v1 : Int) = (v2 : Int)) = false := by simp; omega
                    clear hrd3 hv1 hv2
                    go_wp2
                    go_quiet (fail)
                    go_wp2
                    go_roundw
                    case rel => exact ⟨r + 1, by omega, by go_num, by rw [← HY.out]; exact HV3.out.up (by repeat' (first | (with_reducible exact Below.refl _ _) | (with_reducible assumption) | (with_reducible refine below_over ?_ _ _) | (with_reducible refine Lw.below_alloc ?_ _) | (with_reducible refine Below.drew ?_) | (with_reducible refine below_drewN ?_ _) | (with_reducible refine Below.setCell ?_ ?_ _) | go_size)), HR3.out.up (by repeat' (first | (with_reducible exact Below.refl _ _) | (with_reducible assumption) | (with_reducible refine below_over ?_ _ _) | (with_reducible refine Lw.below_alloc ?_ _) | (with_reducible refine Below.drew ?_) | (with_reducible refine below_drewN ?_ _) | (with_reducible refine Below.setCell ?_ ?_ _) | go_size))⟩
                    case measure => simp [intOf]; omega
                · have e : r = m := by omega
                  subst r
                  have E2 := Lib.hid (othR_turn (cutOf q0.zs m n) m ops j)
                  go_wp2
                  go_roundw
                  case rel => exact ⟨j + 1, by omega, by go_num, by rw [E1.out], by rw [← E2.out]; exact HV3.out, HR3.out⟩
                  case measure => simp [intOf]; omega
        · have e : j = N := by omega
          have hV := fun x hx hl => least_is HOK.out MX.out (K := j) (by rw [HOL.out, ← HN1.out]; exact e.symm) (x := x) hx hl
          rw [HLL.out] at hV
          have e1 : ops.take j = ops := List.take_of_length_le (by rw [HOL.out, ← HN1.out]; omega)
          rw [e1] at hX
          rw [hX] at hV
          have HV9 := Lib.hid hV
          have HNN := Lib.hid (othR_nn (cols := (cutOf q0.zs m n)) (m := m) H45.out j 0)
          have HZL := Lib.hid (othR_len (cutOf q0.zs m n) m ops j 0)
          have HZB : Hid (∀ v ∈ othR (cutOf q0.zs m n) m ops j 0, v ≤ 65970697666560) := Lib.hid (fun v hv => by
            unfold othR at hv
            obtain ⟨i, _, rfl⟩ := List.mem_map.1 hv
            rw [if_neg (by omega)]
            have h := oth_bd (cols := (cutOf q0.zs m n)) (r := i) (fun o ho => H45.out o (List.mem_of_mem_take (i := j) ho))
            have hjl : (ops.take j).length ≤ j := by rw [List.length_take]; omega
            omega)
          have RDZ : Hid (Rd .i64 wo (some god) (othR (cutOf q0.zs m n) m ops j 0)) := Lib.hid (Row1.rd HVi.out.1)
          obtain ⟨Z, hZ⟩ : ∃ Z, othR (cutOf q0.zs m n) m ops j 0 = Z := ⟨_, rfl⟩
          rw [hZ] at HV9 HNN HZL HZB RDZ
          obtain ⟨z0, hz0⟩ : ∃ z, Z[0]? = some z := ⟨_, List.getElem?_eq_getElem (by rw [HZL.out]; omega)⟩
          have cz0 := RDZ.out.at hz0
          have g0 : god.add 0 = god := by unfold Addr.add; simp
          rw [g0] at cz0
          have hz0m := List.mem_of_getElem? hz0
          have HZ0 := Lib.hid hz0m
          clear hV hX e1 hZ hz0 hz0m g0 e
          go_wp2
          go_loop [16, 17] (fun lv rv => ∃ (r : Nat) (x : Int), r ≤ m ∧ rv = .int .i64 r ∧ lv = .int .i64 x ∧ x ∈ Z ∧ ∀ k v, k < r → Z[k]? = some v → x ≤ v) (fun _ rv => m - (intOf rv).toNat)
          case atStart => exact ⟨0, z0, Nat.zero_le _, rfl, rfl, HZ0.out, fun k v hk => by omega⟩
          case round =>
            obtain ⟨r, x, hr, rfl, rfl, hx, hl⟩ := hrel
            have HX := Lib.hid hx
            have HLx := Lib.hid hl
            have hx0 := HNN.out x hx
            clear hx hl
            by_cases hrm : r < m
            · obtain ⟨v, hv⟩ : ∃ v, Z[r]? = some v := ⟨_, List.getElem?_eq_getElem (by rw [HZL.out]; exact hrm)⟩
              have cv := RDZ.out.at hv
              have HVm := Lib.hid (List.mem_of_getElem? hv)
              have HVg := Lib.hid hv
              clear hv
              by_cases hxv : x ≤ v
              · go_wp2
                go_round
                case rel => exact ⟨r + 1, x, by omega, by go_num, rfl, HX.out, fun k u hk hu => by
                  by_cases h5 : k < r
                  · exact HLx.out k u h5 hu
                  · obtain rfl : k = r := by omega
                    rw [HVg.out] at hu
                    injection hu with hu
                    omega⟩
                case measure => simp [intOf]; omega
              · have hvx : v < x := by omega
                clear hxv
                go_wp2
                go_round
                case rel => exact ⟨r + 1, v, by omega, by go_num, rfl, HVm.out, fun k u hk hu => by
                  by_cases h5 : k < r
                  · have := HLx.out k u h5 hu
                    omega
                  · obtain rfl : k = r := by omega
                    rw [HVg.out] at hu
                    injection hu with hu
                    omega⟩
                case measure => simp [intOf]; omega
            · have hall : ∀ v ∈ Z, x ≤ v := fun v hv => by
                obtain ⟨k, hk, e5⟩ := List.mem_iff_getElem.1 hv
                exact HLx.out k v (by rw [HZL.out] at hk; omega) (by rw [List.getElem?_eq_getElem hk, e5])
              have HVV := Lib.hid (HV9.out x HX.out hall)
              have hxb : x ≤ 65970697666560 := (by
                obtain ⟨i9, h9, e9⟩ := List.mem_iff_getElem.1 HX.out
                have h10 := HZB.out x HX.out
                omega)
              have hge : X ≤ X + x := by omega
              clear hall
              go_wp2_with (go_at_call 15; (with_reducible refine (least_m (pg0 HVi.out.drop) HRi.out MX.out hmb.2 hnb.2).mono ?_); rintro e w9 ⟨he, hb⟩; rw [HVV.out] at he; subst he; have HBW9 := Lib.hid (below_call HBi.out hb (Nat.le_refl _)); clear hb)
              go_ret
              exact ⟨rfl, HBW9.out⟩
set_option maxRecDepth 100000 in
set_option maxHeartbeats 4000000 in
theorem least_b (rows width : Int) (A : Option Addr) (n0 c0 : Nat) (qs : List StepV) (w : World) (A1 : Option Addr) (n1 c1 : Nat) (cs : List Int) (hA1 : A1 = none → n1 = 0 ∧ c1 = 0) (hn1 : n1 ≤ c1) (hc1 : c1 ≤ maxLen) (hr1 : Rd .i64 w A1 cs) (hl1 : cs.length = n1) (hz1 : In64 cs) (hq : Steps w A n0 c0 qs) (hcase : n0 = 0) :
    Calls Try.prog 6 #[.agg #[.int .i64 rows, .int .i64 width, .slice A n0 c0], .slice A1 n1 c1] w fun e w' => e = .returned (.bool true) ∧ Below w.heap.size w w' := by
  obtain ⟨m, hm⟩ : ∃ m, rowsOf rows = m := ⟨_, rfl⟩
  obtain ⟨n, hn⟩ : ∃ n, widthOf width = n := ⟨_, rfl⟩
  have hmb := rows_bd rows
  have hnb := width_bd width
  rw [hm] at hmb
  rw [hn] at hnb
  have HQ := Lib.hid hq
  have HBX : Hid (Have w (w.alloc (.cells #[.int .i64 rows, .int .i64 width, .slice A n0 c0] 45)) [boxT w.heap.size 45 #[.int .i64 rows, .int .i64 width, .slice A n0 c0]]) := Lib.hid (box_new w _ _)
  have HR1 := Lib.hid hr1
  obtain ⟨i0, hi, hz0, hz1x, hz2⟩ := info_parts i64_info
  obtain ⟨ops, hops⟩ : ∃ ops, opsOf false true m n qs = ops := ⟨_, rfl⟩
  have HOK : Hid (OpsOk m n 1099511627776 ops) := Lib.hid (by rw [← hops]; exact ops_ok false true qs hmb.1 hnb.1)
  have H45 : Hid (Plus 1099511627776 ops) := Lib.hid (by
    rw [← hops]
    intro o ho
    unfold opsOf at ho
    obtain ⟨q, _, rfl⟩ := List.mem_map.1 ho
    exact ⟨dv_plain q.d, (dv_bd true q.d).2⟩)
  have HOG : Hid (∀ (k : Nat) (q : StepV), k < 60 → qs[k]? = some q → ops[k]? = some (cutOf q.zs m n, dv true q.d)) := Lib.hid (fun k q hk hq2 => by
    have h := ops_get false true m n qs rfl (k := k) (q := q) (by have := (List.getElem?_eq_some_iff.1 hq2).1; omega) (by unfold idx; rw [if_neg (by decide)]; exact hq2)
    rw [hops] at h
    exact h)
  have HOL : Hid (ops.length = min 60 n0) := Lib.hid (by rw [← hops, ops_len, hq.len])
  obtain ⟨L, hL⟩ : ∃ L, chAll (zerosL m n) ops = L := ⟨_, rfl⟩
  have HLL := Lib.hid hL
  have D1 := Lib.hid (fun w hq => done_ft rows width A n0 c0 qs m n w hm hn hq)
  rw [hops, hL] at D1
  have CS := Lib.hid (fun w => sized_any rows width A n0 c0 w)
  rw [hm, hn] at CS
  have hnc := hq.nc
  have hcm := hq.cm
  unfold maxLen at hcm
  have HL := Lib.hid hq.len
  clear hm hn hL hops hr1
  have h0 : n0 < 1 := by omega
  clear hcase
  clear hq
  go_enter Try.func6, Try.ntmps6
  go_wp2_with (first
    | (go_at_call 27; (with_reducible refine (rcut_any A1 n1 c1 cs m n _ (HR1.out.up HBW2.out) hl1 (Nat.le_trans hn1 hc1) (by omega) (by omega) (by omega)).mono ?_); rintro e w5 ⟨A5, cap5, rfl, own5, rd5, hc5, hm5, hb5⟩; have HV5 := Lib.hid (HV2.out.up hb5); have HBW5 := Lib.hid HV5.out.below; obtain ⟨kc0, kc1, kc2⟩ := box3 HV5.out.2.2.2.2.2.2.1; have RDX := Lib.hid rd5; have MX := Lib.hid (cut_meets cs hmb.1 hnb.1); have hX1 := hc5; have hX2 := hm5; unfold maxLen at hX2; clear own5 rd5 hb5)
    | (go_at_call 24; (with_reducible refine (D1.out _ (HQ.out.up HBW1.out)).mono ?_); rintro e w2 ⟨p, F1, hdr1, R1, rfl, hv, hR⟩; have HV2' := HV1.out.join hv; simp only [List.cons_append, List.nil_append] at HV2'; have HRL := rows_len hR; rw [HL.out] at HRL; obtain ⟨Ah, ch, hh1, hh2, hh3, hh4, -⟩ := (rr_of HV2').hd; subst hh1; obtain ⟨N, hN⟩ : ∃ N, R1.length = N := ⟨_, rfl⟩; rw [hN] at HRL hh2 HV2'; simp only [hN]; have HN1 : Hid (N = min 60 n0) := Lib.hid HRL; have hN0 : N ≤ 60 ∧ N ≤ n0 ∧ (60 ≤ N ∨ n0 ≤ N) := (by omega); unfold maxLen at hh3; have HHN := Lib.hid hh4; have HV2 := Lib.hid HV2'; have HBW2 := Lib.hid HV2'.below; have HR := Lib.hid hR; clear hv hR k0 k1 k2 HV2' hh4 hN HRL)
    | (go_at_call 23; (with_reducible refine (CS.out _).mono ?_); rintro e wz ⟨rfl, hb⟩; have HV1' := Lib.hid (HV1.out.up hb); clear HV1 HBW1; have HV1 := Lib.hid HV1'.out; clear HV1'; have HBW1 := Lib.hid HV1.out.below; clear k0 k1 k2; obtain ⟨k0, k1, k2⟩ := box3 HV1.out.1; clear hb)
    | (go_at_call 9; (with_reducible refine (shown_any _).mono ?_); rintro e w1 ⟨rfl, hb⟩; have HV1 := Lib.hid (HBX.out.up hb); have HBW1 := Lib.hid HV1.out.below; obtain ⟨k0, k1, k2⟩ := box3 HV1.out.1; clear hb))
  have HAX : Hid (A5.block < w5.heap.size) := Lib.hid (by
    obtain ⟨v, hv, _⟩ := meets_get MX.out (r := 0) (by omega)
    have h := cell_lt (RDX.out.at hv)
    have e : (A5.add 0).block = A5.block := by unfold Addr.add; split <;> rfl
    rwa [e] at h)
  have hNle : N ≤ 60 := by omega
  have hNn : N ≤ n0 := by omega
  obtain ⟨N2, hN2⟩ : ∃ N2, N2 = N := ⟨_, rfl⟩
  clear hN0 hN2 kc0 kc1 kc2 
  go_loopw [11, 12] (fun ot rv wr => ∃ (r : Nat), r ≤ m ∧ rv = .int .i64 r ∧ wr.ownsRow w5.heap.size 2 1 ot r ((List.replicate r (0 : Int)).map (Value.int .i64)) ∧ Below w5.heap.size w5 wr) (fun _ rv _ => m - (intOf rv).toNat)
  case atStart => exact ⟨0, Nat.zero_le _, rfl, ⟨rfl, .inl ⟨rfl, rfl⟩⟩, Below.refl _ _⟩
  case round =>
    obtain ⟨r, hr, rfl, hown, hbel⟩ := hrel
    have HOW := Lib.hid hown
    have HBE := Lib.hid hbel
    have hsz := hbel.size
    clear hown hbel
    by_cases hlt : r < m
    · have HNX : Hid (List.replicate (r + 1) (0 : Int) = List.replicate r 0 ++ [0]) := Lib.hid (rep_next r)
      go_wp2_with (at_builtin; (refine app_one .i64 rfl _ _ 34 rfl w5.heap.size 2 i0 8 i64s_u hi hz0 hz1x hz2 _ r (List.replicate r 0) rfl (HOW.out.alloc _) 0 wr.heap.size rfl (cell_one_new _ _ _) (by unfold maxLen; omega) (by omega) (by simp; omega) ?_); intro v1 w6 own6 grow6 oth6)
      go_roundw
      case rel => exact ⟨r + 1, by omega, by go_num, by rw [HNX.out]; exact own6, app_below3 (Lw.below_alloc HBE.out _) grow6 (fun q hq => own_ge HOW.out q hq)⟩
      case measure => simp [intOf]; omega
    · have e : m = r := by omega
      subst e
      obtain ⟨Ao, co, hvo, hrdo, ho1, ho2, ho3⟩ := own_rd HOW.out
      subst hvo
      obtain ⟨ao, hao⟩ : ∃ ao, Ao = some ao := by
        cases Ao with
        | none => have := (ho3 rfl).1; omega
        | some ao => exact ⟨ao, rfl⟩
      subst hao
      obtain ⟨go, rfl, hgo, hmid⟩ := Ord.mid_own HOW.out
      unfold maxLen at ho2
      have HAG : Hid (∀ a, some A5 = some a → ¬ (rowT (some ⟨go, 0, none⟩) (othR (cutOf cs m n) m ops 0 0)).F a.block) := Lib.hid (fun a ha hf => by
        injection ha with ha
        subst ha
        obtain ⟨b, hb, hb2⟩ := hf
        injection hb with hb
        subst hb
        have := HAX.out
        simp only at hb2
        omega)
      have HVO : Hid (Have w wr [rowT (some ⟨go, 0, none⟩) (othR (cutOf cs m n) m ops 0 0), pgT p F1 m n L, rrT wz.heap.size 28 (.slice Ah N ch) R1, boxT w.heap.size 45 #[.int .i64 rows, .int .i64 width, .slice A n0 c0]]) := Lib.hid (by
        refine Have.push_at (HV5.out.up HBE.out) (rowT (some ⟨go, 0, none⟩) (othR (cutOf cs m n) m ops 0 0)) ?_ ?_ ?_
        · show Row1 wr _ _
          rw [othR_zero]
          exact mid_row hmid
        · intro k hk u hu hu2
          obtain ⟨b, hb, hb2⟩ := hk
          injection hb with hb
          subst hb
          have h1 := u.lt w5 (HV5.out.one u hu).1 k hu2
          simp only at hb2
          omega
        · intro k hk
          obtain ⟨b, hb, hb2⟩ := hk
          injection hb with hb
          subst hb
          have h1 := HBW5.out.size
          simp only at hb2
          omega)
      have HRO : Hid (Rd .i64 wr (some A5) (cutOf cs m n)) := Lib.hid (RDX.out.up HBE.out)
      clear hrdo ho3 hmid
      obtain ⟨god, hgad⟩ : ∃ god : Addr, (⟨go, 0, none⟩ : Addr) = god := ⟨_, rfl⟩
      rw [hgad] at HVO HAG ⊢
      have HBO := Lib.hid HVO.out.below
      clear hgad
      go_wp2
      go_loopw [10, 13] (fun ow iv wr => ∃ (j : Nat), j ≤ N ∧ iv = .int .i64 j ∧ ow = .int .i64 (own (cutOf cs m n) (ops.take j)) ∧ Have w wr [rowT (some god) (othR (cutOf cs m n) m ops j 0), pgT p F1 m n L, rrT wz.heap.size 28 (.slice Ah N ch) R1, boxT w.heap.size 45 #[.int .i64 rows, .int .i64 width, .slice A n0 c0]] ∧ Rd .i64 wr (some A5) (cutOf cs m n)) (fun _ iv _ => N - (intOf iv).toNat)
      case atStart => exact ⟨0, Nat.zero_le _, rfl, rfl, HVO.out, HRO.out⟩
      case round =>
        obtain ⟨wo, rfl⟩ : ∃ wo, wo = wr := ⟨_, rfl⟩
        obtain ⟨j, hj, rfl, rfl, hv2, hr2⟩ := hrel
        have HVi := Lib.hid hv2
        have HRi := Lib.hid hr2
        clear hv2 hr2
        have HBi := Lib.hid HVi.out.below
        have hob := own_bd (cols := (cutOf cs m n)) (fun o ho => H45.out o (List.mem_of_mem_take (i := j) ho))
        have hjl : (ops.take j).length ≤ j := by rw [List.length_take]; omega
        obtain ⟨X, hX⟩ : ∃ X, own (cutOf cs m n) (ops.take j) = X := ⟨_, rfl⟩
        rw [hX] at hob ⊢
        have hob1 : 0 ≤ X ∧ X ≤ 65970697666560 := by omega
        clear hob hjl
        by_cases hjn : j < N
        · exfalso
          omega
        · have e : j = N := by omega
          have hV := fun x hx hl => least_is HOK.out MX.out (K := j) (by rw [HOL.out, ← HN1.out]; exact e.symm) (x := x) hx hl
          rw [HLL.out] at hV
          have e1 : ops.take j = ops := List.take_of_length_le (by rw [HOL.out, ← HN1.out]; omega)
          rw [e1] at hX
          rw [hX] at hV
          have HV9 := Lib.hid hV
          have HNN := Lib.hid (othR_nn (cols := (cutOf cs m n)) (m := m) H45.out j 0)
          have HZL := Lib.hid (othR_len (cutOf cs m n) m ops j 0)
          have HZB : Hid (∀ v ∈ othR (cutOf cs m n) m ops j 0, v ≤ 65970697666560) := Lib.hid (fun v hv => by
            unfold othR at hv
            obtain ⟨i, _, rfl⟩ := List.mem_map.1 hv
            rw [if_neg (by omega)]
            have h := oth_bd (cols := (cutOf cs m n)) (r := i) (fun o ho => H45.out o (List.mem_of_mem_take (i := j) ho))
            have hjl : (ops.take j).length ≤ j := by rw [List.length_take]; omega
            omega)
          have RDZ : Hid (Rd .i64 wo (some god) (othR (cutOf cs m n) m ops j 0)) := Lib.hid (Row1.rd HVi.out.1)
          obtain ⟨Z, hZ⟩ : ∃ Z, othR (cutOf cs m n) m ops j 0 = Z := ⟨_, rfl⟩
          rw [hZ] at HV9 HNN HZL HZB RDZ
          obtain ⟨z0, hz0⟩ : ∃ z, Z[0]? = some z := ⟨_, List.getElem?_eq_getElem (by rw [HZL.out]; omega)⟩
          have cz0 := RDZ.out.at hz0
          have g0 : god.add 0 = god := by unfold Addr.add; simp
          rw [g0] at cz0
          have hz0m := List.mem_of_getElem? hz0
          have HZ0 := Lib.hid hz0m
          clear hV hX e1 hZ hz0 hz0m g0 e
          go_wp2
          go_loop [16, 17] (fun lv rv => ∃ (r : Nat) (x : Int), r ≤ m ∧ rv = .int .i64 r ∧ lv = .int .i64 x ∧ x ∈ Z ∧ ∀ k v, k < r → Z[k]? = some v → x ≤ v) (fun _ rv => m - (intOf rv).toNat)
          case atStart => exact ⟨0, z0, Nat.zero_le _, rfl, rfl, HZ0.out, fun k v hk => by omega⟩
          case round =>
            obtain ⟨r, x, hr, rfl, rfl, hx, hl⟩ := hrel
            have HX := Lib.hid hx
            have HLx := Lib.hid hl
            have hx0 := HNN.out x hx
            clear hx hl
            by_cases hrm : r < m
            · obtain ⟨v, hv⟩ : ∃ v, Z[r]? = some v := ⟨_, List.getElem?_eq_getElem (by rw [HZL.out]; exact hrm)⟩
              have cv := RDZ.out.at hv
              have HVm := Lib.hid (List.mem_of_getElem? hv)
              have HVg := Lib.hid hv
              clear hv
              by_cases hxv : x ≤ v
              · go_wp2
                go_round
                case rel => exact ⟨r + 1, x, by omega, by go_num, rfl, HX.out, fun k u hk hu => by
                  by_cases h5 : k < r
                  · exact HLx.out k u h5 hu
                  · obtain rfl : k = r := by omega
                    rw [HVg.out] at hu
                    injection hu with hu
                    omega⟩
                case measure => simp [intOf]; omega
              · have hvx : v < x := by omega
                clear hxv
                go_wp2
                go_round
                case rel => exact ⟨r + 1, v, by omega, by go_num, rfl, HVm.out, fun k u hk hu => by
                  by_cases h5 : k < r
                  · have := HLx.out k u h5 hu
                    omega
                  · obtain rfl : k = r := by omega
                    rw [HVg.out] at hu
                    injection hu with hu
                    omega⟩
                case measure => simp [intOf]; omega
            · have hall : ∀ v ∈ Z, x ≤ v := fun v hv => by
                obtain ⟨k, hk, e5⟩ := List.mem_iff_getElem.1 hv
                exact HLx.out k v (by rw [HZL.out] at hk; omega) (by rw [List.getElem?_eq_getElem hk, e5])
              have HVV := Lib.hid (HV9.out x HX.out hall)
              have hxb : x ≤ 65970697666560 := (by
                obtain ⟨i9, h9, e9⟩ := List.mem_iff_getElem.1 HX.out
                have h10 := HZB.out x HX.out
                omega)
              have hge : X ≤ X + x := by omega
              clear hall
              go_wp2_with (go_at_call 15; (with_reducible refine (least_m (pg0 HVi.out.drop) HRi.out MX.out hmb.2 hnb.2).mono ?_); rintro e w9 ⟨he, hb⟩; rw [HVV.out] at he; subst he; have HBW9 := Lib.hid (below_call HBi.out hb (Nat.le_refl _)); clear hb)
              go_ret
              exact ⟨rfl, HBW9.out⟩
set_option maxRecDepth 100000 in
set_option maxHeartbeats 4000000 in
theorem least_c (rows width : Int) (A : Option Addr) (n0 c0 : Nat) (qs : List StepV) (w : World) (A1 : Option Addr) (n1 c1 : Nat) (cs : List Int) (hA1 : A1 = none → n1 = 0 ∧ c1 = 0) (hn1 : n1 ≤ c1) (hc1 : c1 ≤ maxLen) (hr1 : Rd .i64 w A1 cs) (hl1 : cs.length = n1) (hz1 : In64 cs) (hq : Steps w A n0 c0 qs) (hcase : 0 < n0 ∧ n0 % 2 = 1) :
    Calls Try.prog 6 #[.agg #[.int .i64 rows, .int .i64 width, .slice A n0 c0], .slice A1 n1 c1] w fun e w' => e = .returned (.bool true) ∧ Below w.heap.size w w' := by
  obtain ⟨m, hm⟩ : ∃ m, rowsOf rows = m := ⟨_, rfl⟩
  obtain ⟨n, hn⟩ : ∃ n, widthOf width = n := ⟨_, rfl⟩
  have hmb := rows_bd rows
  have hnb := width_bd width
  rw [hm] at hmb
  rw [hn] at hnb
  have HQ := Lib.hid hq
  have HBX : Hid (Have w (w.alloc (.cells #[.int .i64 rows, .int .i64 width, .slice A n0 c0] 45)) [boxT w.heap.size 45 #[.int .i64 rows, .int .i64 width, .slice A n0 c0]]) := Lib.hid (box_new w _ _)
  have HR1 := Lib.hid hr1
  obtain ⟨i0, hi, hz0, hz1x, hz2⟩ := info_parts i64_info
  obtain ⟨ops, hops⟩ : ∃ ops, opsOf false true m n qs = ops := ⟨_, rfl⟩
  have HOK : Hid (OpsOk m n 1099511627776 ops) := Lib.hid (by rw [← hops]; exact ops_ok false true qs hmb.1 hnb.1)
  have H45 : Hid (Plus 1099511627776 ops) := Lib.hid (by
    rw [← hops]
    intro o ho
    unfold opsOf at ho
    obtain ⟨q, _, rfl⟩ := List.mem_map.1 ho
    exact ⟨dv_plain q.d, (dv_bd true q.d).2⟩)
  have HOG : Hid (∀ (k : Nat) (q : StepV), k < 60 → qs[k]? = some q → ops[k]? = some (cutOf q.zs m n, dv true q.d)) := Lib.hid (fun k q hk hq2 => by
    have h := ops_get false true m n qs rfl (k := k) (q := q) (by have := (List.getElem?_eq_some_iff.1 hq2).1; omega) (by unfold idx; rw [if_neg (by decide)]; exact hq2)
    rw [hops] at h
    exact h)
  have HOL : Hid (ops.length = min 60 n0) := Lib.hid (by rw [← hops, ops_len, hq.len])
  obtain ⟨L, hL⟩ : ∃ L, chAll (zerosL m n) ops = L := ⟨_, rfl⟩
  have HLL := Lib.hid hL
  have D1 := Lib.hid (fun w hq => done_ft rows width A n0 c0 qs m n w hm hn hq)
  rw [hops, hL] at D1
  have CS := Lib.hid (fun w => sized_any rows width A n0 c0 w)
  rw [hm, hn] at CS
  have hnc := hq.nc
  have hcm := hq.cm
  unfold maxLen at hcm
  have HL := Lib.hid hq.len
  clear hm hn hL hops hr1
  have h0 := hcase.1
  have ht : Int.tmod (n0 : Int) 2 = 1 := by rw [Int.tmod_eq_emod_of_nonneg (by omega)]; omega
  clear hcase
  clear hq
  go_enter Try.func6, Try.ntmps6
  go_wp2_with (first
    | (go_at_call 27; (with_reducible refine (rcut_any A1 n1 c1 cs m n _ (HR1.out.up HBW2.out) hl1 (Nat.le_trans hn1 hc1) (by omega) (by omega) (by omega)).mono ?_); rintro e w5 ⟨A5, cap5, rfl, own5, rd5, hc5, hm5, hb5⟩; have HV5 := Lib.hid (HV2.out.up hb5); have HBW5 := Lib.hid HV5.out.below; obtain ⟨kc0, kc1, kc2⟩ := box3 HV5.out.2.2.2.2.2.2.1; have RDX := Lib.hid rd5; have MX := Lib.hid (cut_meets cs hmb.1 hnb.1); have hX1 := hc5; have hX2 := hm5; unfold maxLen at hX2; clear own5 rd5 hb5)
    | (go_at_call 24; (with_reducible refine (D1.out _ (HQ.out.up HBW1.out)).mono ?_); rintro e w2 ⟨p, F1, hdr1, R1, rfl, hv, hR⟩; have HV2' := HV1.out.join hv; simp only [List.cons_append, List.nil_append] at HV2'; have HRL := rows_len hR; rw [HL.out] at HRL; obtain ⟨Ah, ch, hh1, hh2, hh3, hh4, -⟩ := (rr_of HV2').hd; subst hh1; obtain ⟨N, hN⟩ : ∃ N, R1.length = N := ⟨_, rfl⟩; rw [hN] at HRL hh2 HV2'; simp only [hN]; have HN1 : Hid (N = min 60 n0) := Lib.hid HRL; have hN0 : N ≤ 60 ∧ N ≤ n0 ∧ (60 ≤ N ∨ n0 ≤ N) := (by omega); unfold maxLen at hh3; have HHN := Lib.hid hh4; have HV2 := Lib.hid HV2'; have HBW2 := Lib.hid HV2'.below; have HR := Lib.hid hR; clear hv hR k0 k1 k2 HV2' hh4 hN HRL)
    | (go_at_call 23; (with_reducible refine (CS.out _).mono ?_); rintro e wz ⟨rfl, hb⟩; have HV1' := Lib.hid (HV1.out.up hb); clear HV1 HBW1; have HV1 := Lib.hid HV1'.out; clear HV1'; have HBW1 := Lib.hid HV1.out.below; clear k0 k1 k2; obtain ⟨k0, k1, k2⟩ := box3 HV1.out.1; clear hb)
    | (go_at_call 9; (with_reducible refine (shown_any _).mono ?_); rintro e w1 ⟨rfl, hb⟩; have HV1 := Lib.hid (HBX.out.up hb); have HBW1 := Lib.hid HV1.out.below; obtain ⟨k0, k1, k2⟩ := box3 HV1.out.1; clear hb))
  have HAX : Hid (A5.block < w5.heap.size) := Lib.hid (by
    obtain ⟨v, hv, _⟩ := meets_get MX.out (r := 0) (by omega)
    have h := cell_lt (RDX.out.at hv)
    have e : (A5.add 0).block = A5.block := by unfold Addr.add; split <;> rfl
    rwa [e] at h)
  have hNle : N ≤ 60 := by omega
  have hNn : N ≤ n0 := by omega
  obtain ⟨N2, hN2⟩ : ∃ N2, N2 = N := ⟨_, rfl⟩
  clear hN0 hN2 kc0 kc1 kc2 
  go_loopw [11, 12] (fun ot rv wr => ∃ (r : Nat), r ≤ m ∧ rv = .int .i64 r ∧ wr.ownsRow w5.heap.size 2 1 ot r ((List.replicate r (0 : Int)).map (Value.int .i64)) ∧ Below w5.heap.size w5 wr) (fun _ rv _ => m - (intOf rv).toNat)
  case atStart => exact ⟨0, Nat.zero_le _, rfl, ⟨rfl, .inl ⟨rfl, rfl⟩⟩, Below.refl _ _⟩
  case round =>
    obtain ⟨r, hr, rfl, hown, hbel⟩ := hrel
    have HOW := Lib.hid hown
    have HBE := Lib.hid hbel
    have hsz := hbel.size
    clear hown hbel
    by_cases hlt : r < m
    · have HNX : Hid (List.replicate (r + 1) (0 : Int) = List.replicate r 0 ++ [0]) := Lib.hid (rep_next r)
      go_wp2_with (at_builtin; (refine app_one .i64 rfl _ _ 34 rfl w5.heap.size 2 i0 8 i64s_u hi hz0 hz1x hz2 _ r (List.replicate r 0) rfl (HOW.out.alloc _) 0 wr.heap.size rfl (cell_one_new _ _ _) (by unfold maxLen; omega) (by omega) (by simp; omega) ?_); intro v1 w6 own6 grow6 oth6)
      go_roundw
      case rel => exact ⟨r + 1, by omega, by go_num, by rw [HNX.out]; exact own6, app_below3 (Lw.below_alloc HBE.out _) grow6 (fun q hq => own_ge HOW.out q hq)⟩
      case measure => simp [intOf]; omega
    · have e : m = r := by omega
      subst e
      obtain ⟨Ao, co, hvo, hrdo, ho1, ho2, ho3⟩ := own_rd HOW.out
      subst hvo
      obtain ⟨ao, hao⟩ : ∃ ao, Ao = some ao := by
        cases Ao with
        | none => have := (ho3 rfl).1; omega
        | some ao => exact ⟨ao, rfl⟩
      subst hao
      obtain ⟨go, rfl, hgo, hmid⟩ := Ord.mid_own HOW.out
      unfold maxLen at ho2
      have HAG : Hid (∀ a, some A5 = some a → ¬ (rowT (some ⟨go, 0, none⟩) (othR (cutOf cs m n) m ops 0 0)).F a.block) := Lib.hid (fun a ha hf => by
        injection ha with ha
        subst ha
        obtain ⟨b, hb, hb2⟩ := hf
        injection hb with hb
        subst hb
        have := HAX.out
        simp only at hb2
        omega)
      have HVO : Hid (Have w wr [rowT (some ⟨go, 0, none⟩) (othR (cutOf cs m n) m ops 0 0), pgT p F1 m n L, rrT wz.heap.size 28 (.slice Ah N ch) R1, boxT w.heap.size 45 #[.int .i64 rows, .int .i64 width, .slice A n0 c0]]) := Lib.hid (by
        refine Have.push_at (HV5.out.up HBE.out) (rowT (some ⟨go, 0, none⟩) (othR (cutOf cs m n) m ops 0 0)) ?_ ?_ ?_
        · show Row1 wr _ _
          rw [othR_zero]
          exact mid_row hmid
        · intro k hk u hu hu2
          obtain ⟨b, hb, hb2⟩ := hk
          injection hb with hb
          subst hb
          have h1 := u.lt w5 (HV5.out.one u hu).1 k hu2
          simp only at hb2
          omega
        · intro k hk
          obtain ⟨b, hb, hb2⟩ := hk
          injection hb with hb
          subst hb
          have h1 := HBW5.out.size
          simp only at hb2
          omega)
      have HRO : Hid (Rd .i64 wr (some A5) (cutOf cs m n)) := Lib.hid (RDX.out.up HBE.out)
      clear hrdo ho3 hmid
      obtain ⟨god, hgad⟩ : ∃ god : Addr, (⟨go, 0, none⟩ : Addr) = god := ⟨_, rfl⟩
      rw [hgad] at HVO HAG ⊢
      have HBO := Lib.hid HVO.out.below
      clear hgad
      go_wp2
      go_loopw [10, 13] (fun ow iv wr => ∃ (j : Nat), j ≤ N ∧ iv = .int .i64 j ∧ ow = .int .i64 (own (cutOf cs m n) (ops.take j)) ∧ Have w wr [rowT (some god) (othR (cutOf cs m n) m ops j 0), pgT p F1 m n L, rrT wz.heap.size 28 (.slice Ah N ch) R1, boxT w.heap.size 45 #[.int .i64 rows, .int .i64 width, .slice A n0 c0]] ∧ Rd .i64 wr (some A5) (cutOf cs m n)) (fun _ iv _ => N - (intOf iv).toNat)
      case atStart => exact ⟨0, Nat.zero_le _, rfl, rfl, HVO.out, HRO.out⟩
      case round =>
        obtain ⟨wo, rfl⟩ : ∃ wo, wo = wr := ⟨_, rfl⟩
        obtain ⟨j, hj, rfl, rfl, hv2, hr2⟩ := hrel
        have HVi := Lib.hid hv2
        have HRi := Lib.hid hr2
        clear hv2 hr2
        have HBi := Lib.hid HVi.out.below
        have hob := own_bd (cols := (cutOf cs m n)) (fun o ho => H45.out o (List.mem_of_mem_take (i := j) ho))
        have hjl : (ops.take j).length ≤ j := by rw [List.length_take]; omega
        obtain ⟨X, hX⟩ : ∃ X, own (cutOf cs m n) (ops.take j) = X := ⟨_, rfl⟩
        rw [hX] at hob ⊢
        have hob1 : 0 ≤ X ∧ X ≤ 65970697666560 := by omega
        clear hob hjl
        by_cases hjn : j < N
        · obtain ⟨q, hq1⟩ : ∃ q, qs[j]? = some q := ⟨_, List.getElem?_eq_getElem (by rw [HL.out]; omega)⟩
          have HO := Lib.hid (HOG.out j q (by omega) hq1)
          have hon := own_next (cols := (cutOf cs m n)) HO.out
          rw [hX] at hon
          simp only at hon
          obtain ⟨kb0, kb1, kb2⟩ := box3 HVi.out.2.2.2.2.2.2.2.2.2.1
          obtain ⟨ad1, gad1, cap1, hA1x, cA, hcap1, hcap2, hrd⟩ := row_at (rr_of HVi.out.drop) HR.out (by omega) hq1
          subst hA1x
          unfold maxLen at hcap2
          have RDJ := Lib.hid hrd
          obtain ⟨a, g, o, ha2, hadd, d1, d2, hin⟩ := (HQ.out.up HBi.out).at hq1
          subst ha2
          have b1 := hin.db
          have CB := Lib.hid (fun w => small_q q.d w b1.1 b1.2)
          have tb1 := tmod_bd q.d
          have HOB := Lib.hid (fun i => oth_bd (cols := (cutOf cs m n)) (r := i) (fun o ho => H45.out o (List.mem_of_mem_take (i := j) ho)))
          have hjl : (ops.take j).length ≤ j := by rw [List.length_take]; omega
          have HQ1 := Lib.hid hq1
          obtain ⟨D, hD⟩ : ∃ D, dv true q.d = D := ⟨_, rfl⟩
          rw [hD] at hon HO
          obtain ⟨T, hT⟩ : ∃ T, Int.tmod q.d 1099511627776 = T := ⟨_, rfl⟩
          rw [hT] at CB tb1
          have hDT : 0 ≤ T ∧ D = T ∨ T < 0 ∧ D = -T := by
            unfold dv at hD
            rw [if_pos rfl, hT] at hD
            split at hD <;> omega
          clear hD hT hX hq1 hrd hin
          rcases hDT with ⟨hs, hD⟩ | ⟨hs, hD⟩
          · have hDb : 0 ≤ D ∧ D ≤ 1099511627776 := by omega
            by_cases hsame : cutOf q.zs m n = (cutOf cs m n)
            · have e1 : own (cutOf cs m n) (ops.take (j + 1)) = X + T := by rw [hon, if_pos hsame]; omega
              have E1 := Lib.hid e1
              have E2 := Lib.hid (othR_same (m := m) HO.out hsame)
              clear hon e1 hD
              go_wp2
              go_quiet (first | (go_at_call 25; with_reducible refine Calls.quiet_of_same (CB.out _)))
              go_wp2_with (go_at_call 28; (with_reducible refine (rsame8_any (some gad1) (some A5) m m cap1 cap5 (cutOf q.zs m n) (cutOf cs m n) _ (RDJ.out.up (by repeat' (first | (with_reducible exact Below.refl _ _) | (with_reducible assumption) | (with_reducible refine below_over ?_ _ _) | (with_reducible refine Lw.below_alloc ?_ _) | (with_reducible refine Below.drew ?_) | (with_reducible refine below_drewN ?_ _) | (with_reducible refine Below.setCell ?_ ?_ _) | go_size))) (HRi.out.up (by repeat' (first | (with_reducible exact Below.refl _ _) | (with_reducible assumption) | (with_reducible refine below_over ?_ _ _) | (with_reducible refine Lw.below_alloc ?_ _) | (with_reducible refine Below.drew ?_) | (with_reducible refine below_drewN ?_ _) | (with_reducible refine Below.setCell ?_ ?_ _) | go_size))) (cut_len _ _ _) (cut_len _ _ _) (by omega) (by omega)).mono ?_); rintro e w7 ⟨he, hb⟩; rw [decide_eq_true hsame] at he; subst he; have HV7 := Lib.hid ((HVi.out.up (by repeat' (first | (with_reducible exact Below.refl _ _) | (with_reducible assumption) | (with_reducible refine below_over ?_ _ _) | (with_reducible refine Lw.below_alloc ?_ _) | (with_reducible refine Below.drew ?_) | (with_reducible refine below_drewN ?_ _) | (with_reducible refine Below.setCell ?_ ?_ _) | go_size))).up hb); have HR7 := Lib.hid ((HRi.out.up (by repeat' (first | (with_reducible exact Below.refl _ _) | (with_reducible assumption) | (with_reducible refine below_over ?_ _ _) | (with_reducible refine Lw.below_alloc ?_ _) | (with_reducible refine Below.drew ?_) | (with_reducible refine below_drewN ?_ _) | (with_reducible refine Below.setCell ?_ ?_ _) | go_size))).up hb); clear hb)
              go_roundw
              case rel => exact ⟨j + 1, by omega, by go_num, by rw [E1.out], by rw [← E2.out]; exact HV7.out, HR7.out⟩
              case measure => simp [intOf]; omega
            · have e1 : own (cutOf cs m n) (ops.take (j + 1)) = X := by rw [hon, if_neg hsame]; omega
              have E1 := Lib.hid e1
              have HNS := Lib.hid hsame
              clear hon e1
              go_wp2
              go_quiet (first | (go_at_call 25; with_reducible refine Calls.quiet_of_same (CB.out _)))
              go_wp2_with (go_at_call 28; (with_reducible refine (rsame8_any (some gad1) (some A5) m m cap1 cap5 (cutOf q.zs m n) (cutOf cs m n) _ (RDJ.out.up (by repeat' (first | (with_reducible exact Below.refl _ _) | (with_reducible assumption) | (with_reducible refine below_over ?_ _ _) | (with_reducible refine Lw.below_alloc ?_ _) | (with_reducible refine Below.drew ?_) | (with_reducible refine below_drewN ?_ _) | (with_reducible refine Below.setCell ?_ ?_ _) | go_size))) (HRi.out.up (by repeat' (first | (with_reducible exact Below.refl _ _) | (with_reducible assumption) | (with_reducible refine below_over ?_ _ _) | (with_reducible refine Lw.below_alloc ?_ _) | (with_reducible refine Below.drew ?_) | (with_reducible refine below_drewN ?_ _) | (with_reducible refine Below.setCell ?_ ?_ _) | go_size))) (cut_len _ _ _) (cut_len _ _ _) (by omega) (by omega)).mono ?_); rintro e w7 ⟨he, hb⟩; rw [decide_eq_false HNS.out] at he; subst he; have HV7 := Lib.hid ((HVi.out.up (by repeat' (first | (with_reducible exact Below.refl _ _) | (with_reducible assumption) | (with_reducible refine below_over ?_ _ _) | (with_reducible refine Lw.below_alloc ?_ _) | (with_reducible refine Below.drew ?_) | (with_reducible refine below_drewN ?_ _) | (with_reducible refine Below.setCell ?_ ?_ _) | go_size))).up hb); have HR7 := Lib.hid ((HRi.out.up (by repeat' (first | (with_reducible exact Below.refl _ _) | (with_reducible assumption) | (with_reducible refine below_over ?_ _ _) | (with_reducible refine Lw.below_alloc ?_ _) | (with_reducible refine Below.drew ?_) | (with_reducible refine below_drewN ?_ _) | (with_reducible refine Below.setCell ?_ ?_ _) | go_size))).up hb); clear hb)
              go_loopw [15] (fun rv wr => ∃ (r : Nat), r ≤ m ∧ rv = .int .i64 r ∧ Have w wr [rowT (some god) (othR (cutOf cs m n) m ops j r), pgT p F1 m n L, rrT wz.heap.size 28 (.slice (some ad1) N ch) R1, boxT w.heap.size 45 #[.int .i64 rows, .int .i64 width, .slice (some a) n0 c0]] ∧ Rd .i64 wr (some A5) (cutOf cs m n)) (fun rv _ => m - (intOf rv).toNat)
              case atStart => exact ⟨0, Nat.zero_le _, rfl, HV7.out, HR7.out⟩
              case round =>
                obtain ⟨r, hr, rfl, hv3, hr3⟩ := hrel
                have HV3 := Lib.hid hv3
                have HR3 := Lib.hid hr3
                clear hv3 hr3
                by_cases hrm : r < m
                · obtain ⟨ad3, gad3, cap3, hA3x, cA3, hcap31, hcap32, hrd3⟩ := row_at (rr_of HV3.out.drop) HR.out (by omega) HQ1.out
                  injection hA3x with hA3x
                  subst hA3x
                  unfold maxLen at hcap32
                  obtain ⟨v1, hv1, hvn1⟩ := cut_get q.zs hrm hnb.1
                  obtain ⟨v2, hv2, hvn2⟩ := meets_get MX.out hrm
                  have cB1 := hrd3.at hv1
                  have cB2 := HR3.out.at hv2
                  by_cases hvv : v1 = v2
                  · subst hvv
                    have hob2 := HOB.out r
                    obtain ⟨x, hx⟩ : ∃ x, oth (cutOf cs m n) r (ops.take j) = x := ⟨_, rfl⟩
                    have HY := othR_yes hrm HO.out HNS.out (by simp only; rw [hv1, hv2])
                    simp only at HY
                    rw [hx] at HY hob2
                    have hxb : 0 ≤ x ∧ x ≤ 65970697666560 := by omega
                    have hgx := othR_get (cutOf cs m n) ops j hrm
                    rw [hx] at hgx
                    obtain ⟨a5, ha5, hc5x, hf5, hrow5, hk5⟩ := row1_at HV3.out.1 hgx (x + T)
                    injection ha5 with ha5
                    subst ha5
                    rw [show x + T = x + D from by omega, HY, show x + D = x + T from by omega] at hrow5
                    have HV8 := Lib.hid (HV3.out.turn0 (rowT (some god) (othR (cutOf cs m n) m ops j (r + 1))) hrow5 hk5 (fun k hk => .inl hk))
                    have HR8 := Lib.hid (HR3.out.keep hk5 HAG.out)
                    clear hrd3 hv1 hv2 hob2 hx HY hgx hrow5 hk5
                    go_wp2
                    go_quiet (fail)
                    go_wp2
                    go_roundw
                    case rel => exact ⟨r + 1, by omega, by go_num, HV8.out.up (by repeat' (first | (with_reducible exact Below.refl _ _) | (with_reducible assumption) | (with_reducible refine below_over ?_ _ _) | (with_reducible refine Lw.below_alloc ?_ _) | (with_reducible refine Below.drew ?_) | (with_reducible refine below_drewN ?_ _) | (with_reducible refine Below.setCell ?_ ?_ _) | go_size)), HR8.out.up (by repeat' (first | (with_reducible exact Below.refl _ _) | (with_reducible assumption) | (with_reducible refine below_over ?_ _ _) | (with_reducible refine Lw.below_alloc ?_ _) | (with_reducible refine Below.drew ?_) | (with_reducible refine below_drewN ?_ _) | (with_reducible refine Below.setCell ?_ ?_ _) | go_size))⟩
                    case measure => simp [intOf]; omega
                  · have HY := Lib.hid (othR_no (m := m) HO.out (r := r) (cols := (cutOf cs m n)) (by simp only; rw [hv1, hv2]; simp; omega))
                    have hvc : ((v1 : Int) == (v2 : Int)) = false := by simp; omega
                    have hvd : decide ((v1 : Int) = (v2 : Int)) = false := by simp; omega
                    clear hrd3 hv1 hv2
                    go_wp2
                    go_quiet (fail)
                    go_wp2
                    go_roundw
                    case rel => exact ⟨r + 1, by omega, by go_num, by rw [← HY.out]; exact HV3.out.up (by repeat' (first | (with_reducible exact Below.refl _ _) | (with_reducible assumption) | (with_reducible refine below_over ?_ _ _) | (with_reducible refine Lw.below_alloc ?_ _) | (with_reducible refine Below.drew ?_) | (with_reducible refine below_drewN ?_ _) | (with_reducible refine Below.setCell ?_ ?_ _) | go_size)), HR3.out.up (by repeat' (first | (with_reducible exact Below.refl _ _) | (with_reducible assumption) | (with_reducible refine below_over ?_ _ _) | (with_reducible refine Lw.below_alloc ?_ _) | (with_reducible refine Below.drew ?_) | (with_reducible refine below_drewN ?_ _) | (with_reducible refine Below.setCell ?_ ?_ _) | go_size))⟩
                    case measure => simp [intOf]; omega
                · have e : r = m := by omega
                  subst r
                  have E2 := Lib.hid (othR_turn (cutOf cs m n) m ops j)
                  go_wp2
                  go_roundw
                  case rel => exact ⟨j + 1, by omega, by go_num, by rw [E1.out], by rw [← E2.out]; exact HV3.out, HR3.out⟩
                  case measure => simp [intOf]; omega
          · have hDb : 0 ≤ D ∧ D ≤ 1099511627776 := by omega
            by_cases hsame : cutOf q.zs m n = (cutOf cs m n)
            · have e1 : own (cutOf cs m n) (ops.take (j + 1)) = X + (-T) := by rw [hon, if_pos hsame]; omega
              have E1 := Lib.hid e1
              have E2 := Lib.hid (othR_same (m := m) HO.out hsame)
              clear hon e1 hD
              go_wp2
              go_quiet (first | (go_at_call 25; with_reducible refine Calls.quiet_of_same (CB.out _)))
              go_wp2_with (go_at_call 28; (with_reducible refine (rsame8_any (some gad1) (some A5) m m cap1 cap5 (cutOf q.zs m n) (cutOf cs m n) _ (RDJ.out.up (by repeat' (first | (with_reducible exact Below.refl _ _) | (with_reducible assumption) | (with_reducible refine below_over ?_ _ _) | (with_reducible refine Lw.below_alloc ?_ _) | (with_reducible refine Below.drew ?_) | (with_reducible refine below_drewN ?_ _) | (with_reducible refine Below.setCell ?_ ?_ _) | go_size))) (HRi.out.up (by repeat' (first | (with_reducible exact Below.refl _ _) | (with_reducible assumption) | (with_reducible refine below_over ?_ _ _) | (with_reducible refine Lw.below_alloc ?_ _) | (with_reducible refine Below.drew ?_) | (with_reducible refine below_drewN ?_ _) | (with_reducible refine Below.setCell ?_ ?_ _) | go_size))) (cut_len _ _ _) (cut_len _ _ _) (by omega) (by omega)).mono ?_); rintro e w7 ⟨he, hb⟩; rw [decide_eq_true hsame] at he; subst he; have HV7 := Lib.hid ((HVi.out.up (by repeat' (first | (with_reducible exact Below.refl _ _) | (with_reducible assumption) | (with_reducible refine below_over ?_ _ _) | (with_reducible refine Lw.below_alloc ?_ _) | (with_reducible refine Below.drew ?_) | (with_reducible refine below_drewN ?_ _) | (with_reducible refine Below.setCell ?_ ?_ _) | go_size))).up hb); have HR7 := Lib.hid ((HRi.out.up (by repeat' (first | (with_reducible exact Below.refl _ _) | (with_reducible assumption) | (with_reducible refine below_over ?_ _ _) | (with_reducible refine Lw.below_alloc ?_ _) | (with_reducible refine Below.drew ?_) | (with_reducible refine below_drewN ?_ _) | (with_reducible refine Below.setCell ?_ ?_ _) | go_size))).up hb); clear hb)
              go_roundw
              case rel => exact ⟨j + 1, by omega, by go_num, by rw [E1.out], by rw [← E2.out]; exact HV7.out, HR7.out⟩
              case measure => simp [intOf]; omega
            · have e1 : own (cutOf cs m n) (ops.take (j + 1)) = X := by rw [hon, if_neg hsame]; omega
              have E1 := Lib.hid e1
              have HNS := Lib.hid hsame
              clear hon e1
              go_wp2
              go_quiet (first | (go_at_call 25; with_reducible refine Calls.quiet_of_same (CB.out _)))
              go_wp2_with (go_at_call 28; (with_reducible refine (rsame8_any (some gad1) (some A5) m m cap1 cap5 (cutOf q.zs m n) (cutOf cs m n) _ (RDJ.out.up (by repeat' (first | (with_reducible exact Below.refl _ _) | (with_reducible assumption) | (with_reducible refine below_over ?_ _ _) | (with_reducible refine Lw.below_alloc ?_ _) | (with_reducible refine Below.drew ?_) | (with_reducible refine below_drewN ?_ _) | (with_reducible refine Below.setCell ?_ ?_ _) | go_size))) (HRi.out.up (by repeat' (first | (with_reducible exact Below.refl _ _) | (with_reducible assumption) | (with_reducible refine below_over ?_ _ _) | (with_reducible refine Lw.below_alloc ?_ _) | (with_reducible refine Below.drew ?_) | (with_reducible refine below_drewN ?_ _) | (with_reducible refine Below.setCell ?_ ?_ _) | go_size))) (cut_len _ _ _) (cut_len _ _ _) (by omega) (by omega)).mono ?_); rintro e w7 ⟨he, hb⟩; rw [decide_eq_false HNS.out] at he; subst he; have HV7 := Lib.hid ((HVi.out.up (by repeat' (first | (with_reducible exact Below.refl _ _) | (with_reducible assumption) | (with_reducible refine below_over ?_ _ _) | (with_reducible refine Lw.below_alloc ?_ _) | (with_reducible refine Below.drew ?_) | (with_reducible refine below_drewN ?_ _) | (with_reducible refine Below.setCell ?_ ?_ _) | go_size))).up hb); have HR7 := Lib.hid ((HRi.out.up (by repeat' (first | (with_reducible exact Below.refl _ _) | (with_reducible assumption) | (with_reducible refine below_over ?_ _ _) | (with_reducible refine Lw.below_alloc ?_ _) | (with_reducible refine Below.drew ?_) | (with_reducible refine below_drewN ?_ _) | (with_reducible refine Below.setCell ?_ ?_ _) | go_size))).up hb); clear hb)
              go_loopw [15] (fun rv wr => ∃ (r : Nat), r ≤ m ∧ rv = .int .i64 r ∧ Have w wr [rowT (some god) (othR (cutOf cs m n) m ops j r), pgT p F1 m n L, rrT wz.heap.size 28 (.slice (some ad1) N ch) R1, boxT w.heap.size 45 #[.int .i64 rows, .int .i64 width, .slice (some a) n0 c0]] ∧ Rd .i64 wr (some A5) (cutOf cs m n)) (fun rv _ => m - (intOf rv).toNat)
              case atStart => exact ⟨0, Nat.zero_le _, rfl, HV7.out, HR7.out⟩
              case round =>
                obtain ⟨r, hr, rfl, hv3, hr3⟩ := hrel
                have HV3 := Lib.hid hv3
                have HR3 := Lib.hid hr3
                clear hv3 hr3
                by_cases hrm : r < m
                · obtain ⟨ad3, gad3, cap3, hA3x, cA3, hcap31, hcap32, hrd3⟩ := row_at (rr_of HV3.out.drop) HR.out (by omega) HQ1.out
                  injection hA3x with hA3x
                  subst hA3x
                  unfold maxLen at hcap32
                  obtain ⟨v1, hv1, hvn1⟩ := cut_get q.zs hrm hnb.1
                  obtain ⟨v2, hv2, hvn2⟩ := meets_get MX.out hrm
                  have cB1 := hrd3.at hv1
                  have cB2 := HR3.out.at hv2
                  by_cases hvv : v1 = v2
                  · subst hvv
                    have hob2 := HOB.out r
                    obtain ⟨x, hx⟩ : ∃ x, oth (cutOf cs m n) r (ops.take j) = x := ⟨_, rfl⟩
                    have HY := othR_yes hrm HO.out HNS.out (by simp only; rw [hv1, hv2])
                    simp only at HY
                    rw [hx] at HY hob2
                    have hxb : 0 ≤ x ∧ x ≤ 65970697666560 := by omega
                    have hgx := othR_get (cutOf cs m n) ops j hrm
                    rw [hx] at hgx
                    obtain ⟨a5, ha5, hc5x, hf5, hrow5, hk5⟩ := row1_at HV3.out.1 hgx (x + (-T))
                    injection ha5 with ha5
                    subst ha5
                    rw [show x + (-T) = x + D from by omega, HY, show x + D = x + (-T) from by omega] at hrow5
                    have HV8 := Lib.hid (HV3.out.turn0 (rowT (some god) (othR (cutOf cs m n) m ops j (r + 1))) hrow5 hk5 (fun k hk => .inl hk))
                    have HR8 := Lib.hid (HR3.out.keep hk5 HAG.out)
                    clear hrd3 hv1 hv2 hob2 hx HY hgx hrow5 hk5
                    go_wp2
                    go_quiet (fail)
                    go_wp2
                    go_roundw
                    case rel => exact ⟨r + 1, by omega, by go_num, HV8.out.up (by repeat' (first | (with_reducible exact Below.refl _ _) | (with_reducible assumption) | (with_reducible refine below_over ?_ _ _) | (with_reducible refine Lw.below_alloc ?_ _) | (with_reducible refine Below.drew ?_) | (with_reducible refine below_drewN ?_ _) | (with_reducible refine Below.setCell ?_ ?_ _) | go_size)), HR8.out.up (by repeat' (first | (with_reducible exact Below.refl _ _) | (with_reducible assumption) | (with_reducible refine below_over ?_ _ _) | (with_reducible refine Lw.below_alloc ?_ _) | (with_reducible refine Below.drew ?_) | (with_reducible refine below_drewN ?_ _) | (with_reducible refine Below.setCell ?_ ?_ _) | go_size))⟩
                    case measure => simp [intOf]; omega
                  · have HY := Lib.hid (othR_no (m := m) HO.out (r := r) (cols := (cutOf cs m n)) (by simp only; rw [hv1, hv2]; simp; omega))
                    have hvc : ((v1 : Int) == (v2 : Int)) = false := by simp; omega
                    have hvd : decide ((v1 : Int) = (v2 : Int)) = false := by simp; omega
                    clear hrd3 hv1 hv2
                    go_wp2
                    go_quiet (fail)
                    go_wp2
                    go_roundw
                    case rel => exact ⟨r + 1, by omega, by go_num, by rw [← HY.out]; exact HV3.out.up (by repeat' (first | (with_reducible exact Below.refl _ _) | (with_reducible assumption) | (with_reducible refine below_over ?_ _ _) | (with_reducible refine Lw.below_alloc ?_ _) | (with_reducible refine Below.drew ?_) | (with_reducible refine below_drewN ?_ _) | (with_reducible refine Below.setCell ?_ ?_ _) | go_size)), HR3.out.up (by repeat' (first | (with_reducible exact Below.refl _ _) | (with_reducible assumption) | (with_reducible refine below_over ?_ _ _) | (with_reducible refine Lw.below_alloc ?_ _) | (with_reducible refine Below.drew ?_) | (with_reducible refine below_drewN ?_ _) | (with_reducible refine Below.setCell ?_ ?_ _) | go_size))⟩
                    case measure => simp [intOf]; omega
                · have e : r = m := by omega
                  subst r
                  have E2 := Lib.hid (othR_turn (cutOf cs m n) m ops j)
                  go_wp2
                  go_roundw
                  case rel => exact ⟨j + 1, by omega, by go_num, by rw [E1.out], by rw [← E2.out]; exact HV3.out, HR3.out⟩
                  case measure => simp [intOf]; omega
        · have e : j = N := by omega
          have hV := fun x hx hl => least_is HOK.out MX.out (K := j) (by rw [HOL.out, ← HN1.out]; exact e.symm) (x := x) hx hl
          rw [HLL.out] at hV
          have e1 : ops.take j = ops := List.take_of_length_le (by rw [HOL.out, ← HN1.out]; omega)
          rw [e1] at hX
          rw [hX] at hV
          have HV9 := Lib.hid hV
          have HNN := Lib.hid (othR_nn (cols := (cutOf cs m n)) (m := m) H45.out j 0)
          have HZL := Lib.hid (othR_len (cutOf cs m n) m ops j 0)
          have HZB : Hid (∀ v ∈ othR (cutOf cs m n) m ops j 0, v ≤ 65970697666560) := Lib.hid (fun v hv => by
            unfold othR at hv
            obtain ⟨i, _, rfl⟩ := List.mem_map.1 hv
            rw [if_neg (by omega)]
            have h := oth_bd (cols := (cutOf cs m n)) (r := i) (fun o ho => H45.out o (List.mem_of_mem_take (i := j) ho))
            have hjl : (ops.take j).length ≤ j := by rw [List.length_take]; omega
            omega)
          have RDZ : Hid (Rd .i64 wo (some god) (othR (cutOf cs m n) m ops j 0)) := Lib.hid (Row1.rd HVi.out.1)
          obtain ⟨Z, hZ⟩ : ∃ Z, othR (cutOf cs m n) m ops j 0 = Z := ⟨_, rfl⟩
          rw [hZ] at HV9 HNN HZL HZB RDZ
          obtain ⟨z0, hz0⟩ : ∃ z, Z[0]? = some z := ⟨_, List.getElem?_eq_getElem (by rw [HZL.out]; omega)⟩
          have cz0 := RDZ.out.at hz0
          have g0 : god.add 0 = god := by unfold Addr.add; simp
          rw [g0] at cz0
          have hz0m := List.mem_of_getElem? hz0
          have HZ0 := Lib.hid hz0m
          clear hV hX e1 hZ hz0 hz0m g0 e
          go_wp2
          go_loop [16, 17] (fun lv rv => ∃ (r : Nat) (x : Int), r ≤ m ∧ rv = .int .i64 r ∧ lv = .int .i64 x ∧ x ∈ Z ∧ ∀ k v, k < r → Z[k]? = some v → x ≤ v) (fun _ rv => m - (intOf rv).toNat)
          case atStart => exact ⟨0, z0, Nat.zero_le _, rfl, rfl, HZ0.out, fun k v hk => by omega⟩
          case round =>
            obtain ⟨r, x, hr, rfl, rfl, hx, hl⟩ := hrel
            have HX := Lib.hid hx
            have HLx := Lib.hid hl
            have hx0 := HNN.out x hx
            clear hx hl
            by_cases hrm : r < m
            · obtain ⟨v, hv⟩ : ∃ v, Z[r]? = some v := ⟨_, List.getElem?_eq_getElem (by rw [HZL.out]; exact hrm)⟩
              have cv := RDZ.out.at hv
              have HVm := Lib.hid (List.mem_of_getElem? hv)
              have HVg := Lib.hid hv
              clear hv
              by_cases hxv : x ≤ v
              · go_wp2
                go_round
                case rel => exact ⟨r + 1, x, by omega, by go_num, rfl, HX.out, fun k u hk hu => by
                  by_cases h5 : k < r
                  · exact HLx.out k u h5 hu
                  · obtain rfl : k = r := by omega
                    rw [HVg.out] at hu
                    injection hu with hu
                    omega⟩
                case measure => simp [intOf]; omega
              · have hvx : v < x := by omega
                clear hxv
                go_wp2
                go_round
                case rel => exact ⟨r + 1, v, by omega, by go_num, rfl, HVm.out, fun k u hk hu => by
                  by_cases h5 : k < r
                  · have := HLx.out k u h5 hu
                    omega
                  · obtain rfl : k = r := by omega
                    rw [HVg.out] at hu
                    injection hu with hu
                    omega⟩
                case measure => simp [intOf]; omega
            · have hall : ∀ v ∈ Z, x ≤ v := fun v hv => by
                obtain ⟨k, hk, e5⟩ := List.mem_iff_getElem.1 hv
                exact HLx.out k v (by rw [HZL.out] at hk; omega) (by rw [List.getElem?_eq_getElem hk, e5])
              have HVV := Lib.hid (HV9.out x HX.out hall)
              have hxb : x ≤ 65970697666560 := (by
                obtain ⟨i9, h9, e9⟩ := List.mem_iff_getElem.1 HX.out
                have h10 := HZB.out x HX.out
                omega)
              have hge : X ≤ X + x := by omega
              clear hall
              go_wp2_with (go_at_call 15; (with_reducible refine (least_m (pg0 HVi.out.drop) HRi.out MX.out hmb.2 hnb.2).mono ?_); rintro e w9 ⟨he, hb⟩; rw [HVV.out] at he; subst he; have HBW9 := Lib.hid (below_call HBi.out hb (Nat.le_refl _)); clear hb)
              go_ret
              exact ⟨rfl, HBW9.out⟩
theorem least_law (rows width : Int) (A : Option Addr) (n0 c0 : Nat) (qs : List StepV) (w : World) (A1 : Option Addr) (n1 c1 : Nat) (cs : List Int) (hA1 : A1 = none → n1 = 0 ∧ c1 = 0) (hn1 : n1 ≤ c1) (hc1 : c1 ≤ maxLen) (hr1 : Rd .i64 w A1 cs) (hl1 : cs.length = n1) (hz1 : In64 cs) (hq : Steps w A n0 c0 qs) :
    Calls Try.prog 6 #[.agg #[.int .i64 rows, .int .i64 width, .slice A n0 c0], .slice A1 n1 c1] w fun e w' => e = .returned (.bool true) ∧ Below w.heap.size w w' := by
  by_cases h0 : n0 = 0
  · exact least_b rows width A n0 c0 qs w A1 n1 c1 cs hA1 hn1 hc1 hr1 hl1 hz1 hq h0
  · by_cases h2 : n0 % 2 = 0
    · exact least_a rows width A n0 c0 qs w A1 n1 c1 cs hA1 hn1 hc1 hr1 hl1 hz1 hq ⟨by omega, h2⟩
    · exact least_c rows width A n0 c0 qs w A1 n1 c1 cs hA1 hn1 hc1 hr1 hl1 hz1 hq ⟨by omega, by omega⟩
namespace linearLeast
open Go.ChangeShapes Go.WideShapes Go.ChangeAt Go.Joins
set_option maxRecDepth 100000 in
theorem lifted (os : Os) (started : os.Started) (H : Type) (enc : TypeId × Value → H) :
    ReturnsInHanded {} Try.checked os 6 .any (Rows.linearLeastSpec.pre6 enc Try.prog Try.f6 Rows.linearLeastRow.domain false) (Rows.linearLeastSpec.post enc Try.prog Try.f6 false true false false) := by
  refine Lw.lifted (C := Try.checked) (B := 4) (by kernel_rfl) os started (by kernel_rfl) Try.func6
    (ChangeSpec.witness6 (enc := enc) (C := Try.checked) false ⟨#[], #[.agg #[.int .i64 0, .int .i64 0, .slice none 0 0], .slice none 0 0], []⟩ 8 (by kernel_rfl) (by kernel_rfl) (by kernel_rfl) (by kernel_rfl)) rfl Try.underlying4 (by kernel_rfl) (by kernel_rfl) (by kernel_rfl) ?_ ?_
  · intro ds h
    rw [Try.params6] at h
    match ds, h with
    | [_, _], _ => rfl
  · intro W base args ds p hval hA
    rw [Try.params6] at hA hval
    obtain ⟨v0, vs0, d0, ds0, p0, q0, hargs, rfl, rfl, h0, r0⟩ := trodAll_cons hA
    obtain ⟨v1, vs1, d1, ds1, p1, q1, rfl, rfl, rfl, h1, r1⟩ := trodAll_cons r0
    obtain ⟨rfl, rfl, rfl⟩ := trodAll_nil r1
    obtain rfl : args = #[v0, v1] := by cases args; simp_all
    obtain ⟨y0, u0, A0, n0, c0, qs0, rfl, rb0, ub0, hq0⟩ := open_play (hval 0 45 v0 rfl rfl) h0
    obtain ⟨A1, n1, c1, zs1, rfl, hA1, hn1, hc1, hr1, hl1, hz1⟩ := open_list_int (hval 1 28 v1 rfl rfl) h1
    exact least_law y0 u0 A0 n0 c0 qs0 W A1 n1 c1 zs1 hA1 hn1 hc1 hr1 hl1 hz1 hq0
theorem over : Rows.linearLeastRow.holds Try.pinned (OpenSpec.ofChange Rows.linearLeastSpec) :=
  OpenClaim.holds_of_wide 6 Try.f6 rfl rfl rfl rfl rfl rfl rfl ⟨rfl, rfl, rfl, rfl, rfl⟩ rfl rfl rfl rfl rfl (by kernel_rfl) Try.func6 (by kernel_rfl)
    (of_decide_eq_true (by kernel_rfl)) (by unfold Func.isWrapper; first | (rw [if_pos (by decide +kernel)]; kernel_rfl) | (rw [if_neg (by decide +kernel)]; exact ⟨rfl, rfl⟩))
    (fun os started H enc _ => lifted os started H enc)
theorem proved : Rows.LinearLeastSaid :=
  over
#print axioms proved
end linearLeast
end Go.Proofs.Ytmneihdkkmgbkaa.Lin
