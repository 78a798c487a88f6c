/- The statement LinearMiddle of layer 8 holds. Printed by wip/gen/linlaws2.py. -/
import Derived.Test.YtmneihdkkmgbkaaLinPlay
import Derived.Test.YtmneihdkkmgbkaaLaw
import Derived.Deep.LoopGhost
import Derived.Deep.RegionHeld3
import Derived.Deep.QuietTactic
import Derived.BigQuiet
namespace Go.Proofs.Ytmneihdkkmgbkaa.Lin
open Go Go.RowKit Lw Grd
set_option linter.unusedVariables false
set_option linter.unusedSimpArgs false
theorem arr2_int64_u : Try.prog.underlying 57 = some (.array 2 2) := by kernel_rfl
theorem arr2_int64_c : Try.prog.cellsOf 57 = 2 := by kernel_rfl
theorem arr2_int64_e : Try.prog.cellsOf 2 = 1 := by kernel_rfl
theorem arr2_int64_k : Try.prog.underlying 2 = some (.int .i64) := by kernel_rfl
theorem arr2_int64_l {α : Type} (T : Array α) (h : T.size = 2) : ∃ x0 x1 : α, T = #[x0, x1] := by
  obtain ⟨l⟩ := T
  match l, h with
  | [x0, x1], _ => exact ⟨x0, x1, rfl⟩
theorem open_arr2_int64 {H : Type} {enc : TypeId × Value → H} {W : World} {v : Value} {d : DataW H} {p : List MemPlace} {base : Nat} (hv : Value.okWide Try.prog W .any base 57 v)
    (h : DataW.Trod enc Try.prog W 0 (fun _ => true) true 57 v d p) :
    ∃ x0 x1 : Int, v = .agg #[.int .i64 x0, .int .i64 x1] ∧ (-9223372036854775808 ≤ x0 ∧ x0 ≤ 9223372036854775807) ∧ (-9223372036854775808 ≤ x1 ∧ x1 ≤ 9223372036854775807) := by
  have hcs : ∃ cs : Array Value, v = .agg cs ∧ cs.size = Try.prog.cellsOf 57 := by
    simp only [Value.okWide, arr2_int64_u] at hv
    obtain ⟨cs, h1, h2, _⟩ := hv
    exact ⟨cs, h1, h2⟩
  obtain ⟨cs, rfl, hsz⟩ := hcs
  obtain ⟨c0, c1, rfl⟩ := arr2_int64_l _ (hsz.trans arr2_int64_c)
  obtain ⟨fuel, hf⟩ := h
  obtain ⟨xs, m, _, _, _, hlen, hg⟩ := DataW.trod_array arr2_int64_u hf
  have g0 := hg 0 (by omega)
  have g1 := hg 1 (by omega)
  rw [arr2_int64_e] at g0 g1
  match xs, hlen with
  | [y0, y1], _ =>
    simp [Value.cells] at g0 g1
    obtain ⟨x0, e0, _, w0⟩ := DataW.trod_int arr2_int64_k g0
    obtain ⟨x1, e1, _, w1⟩ := DataW.trod_int arr2_int64_k g1
    simp at e0 e1
    subst e0 e1
    exact ⟨x0, x1, rfl, Lw.wf_i64 w0, Lw.wf_i64 w1⟩
theorem lst_int_c : Try.prog.cellsOf 3 = 1 := by kernel_rfl
theorem open_list_int {H : Type} {enc : TypeId × Value → H} {W : World} {v : Value} {d : DataW H} {p : List MemPlace} {base : Nat} (hv : Value.okWide Try.prog W .any base 28 v)
    (h : DataW.Trod enc Try.prog W 0 (fun _ => true) true 28 v d p) :
    ∃ (A : Option Addr) (n cap : Nat) (zs : List Int), v = .slice A n cap ∧ (A = none → n = 0 ∧ cap = 0) ∧ n ≤ cap ∧ cap ≤ maxLen ∧ Rd .i64 W A zs ∧ zs.length = n ∧ (∀ v ∈ zs, -9223372036854775808 ≤ v ∧ v ≤ 9223372036854775807) := by
  obtain ⟨a0, len, cap, rfl⟩ := Go.WideShapes.okWide_slice Try.underlying28 hv
  obtain ⟨fuel, hf⟩ := h
  rcases Go.ChangeShapes.open_ints Try.underlying28 Try.underlying3 lst_int_c hf with ⟨hcs, _⟩ | ⟨a, len', cap', zs, hcs, _, hl, hm, hz, _, hcell, hwz⟩
  · simp [Value.cells] at hcs
    obtain ⟨rfl, rfl, rfl⟩ := hcs
    exact ⟨none, 0, 0, [], rfl, fun _ => ⟨rfl, rfl⟩, Nat.le_refl _, by simp, rd_nil _ _ _, rfl, fun v h => by simp at h⟩
  · simp [Value.cells] at hcs
    obtain ⟨rfl, rfl, rfl⟩ := hcs
    have hz2 : zs.length = cap := by simpa using hz
    refine ⟨some a, len, cap, zs.take len, rfl, (fun h => by cases h), hl, hm, ?_, by simp; omega, ?_⟩
    · intro k v hk
      rw [List.getElem?_take] at hk
      split at hk
      · refine ⟨a, rfl, ?_⟩
        rw [hcell k (by omega)]
        simp [hk]
      · cases hk
    · intro v hv
      exact Lw.wf_i64 (hwz v (List.mem_of_mem_take hv))
theorem small_q (d : Int) (w : World) (d0 : -9223372036854775808 ≤ d) (d1 : d ≤ 9223372036854775807) :
    Calls Try.prog 25 #[.int .i64 d] w fun e w' => e = .returned (.int .i64 (Int.tmod d 1099511627776)) ∧ w' = w :=
  (small_any d w d0 d1).mono fun e w' h => ⟨h.1, h.2.symm⟩
theorem two_boxes (w : World) (e1 e2 : TypeId) (v1 v2 : Array Value) : Have w ((w.alloc (.cells v1 e1)).alloc (.cells v2 e2)) [boxT (w.heap.size + 1) e2 v2, boxT w.heap.size e1 v1] := by
  refine (box_new w e1 v1).push (boxT (w.heap.size + 1) e2 v2) (Lw.below_alloc (Below.refl _ _) _) ?_ (fun k hk => ?_)
  · have h := heap_alloc_new (w.alloc (.cells v1 e1)) (.cells v2 e2)
    rw [World.size_alloc] at h
    exact h
  · rw [World.size_alloc]
    exact Nat.le_of_eq hk.symm
theorem box2 {w : World} {b : Nat} {e : TypeId} {v0 v1 : Value} (h : (boxT b e #[v0, v1]).I w) : w.cell? ⟨b, 0, none⟩ = some v0 ∧ w.cell? ⟨b, 1, none⟩ = some v1 := ⟨box_cell h rfl, box_cell h rfl⟩
theorem read_meets {m n : Nat} {L : List (List Int)} {cols : List Int} (h : Meets m n cols) : readOf m n L cols = named L cols ∧ rdCode m n cols = 0 := by
  unfold readOf rdCode
  rw [if_pos h, if_pos h]
  exact ⟨rfl, rfl⟩
theorem named_sz {m n : Nat} {L : List (List Int)} {cols : List Int} (h : Sz m n L) (hc : Meets m n cols) : (named L cols).length = m := by rw [named_len (by rw [hc.2.1, h.1]), h.1]
theorem meets_in {m n : Nat} {cols : List Int} (h : Meets m n cols) (hn : n ≤ 1000) : In64 cols := fun v hv => by have := h.2.2 v hv; omega
/-- What Read, Least and Middle tell of columns that meet. -/
theorem read_m {p : Addr} {F : Nat → Prop} {m n : Nat} {L : List (List Int)} {A : Option Addr} {cap : Nat} {cols : List Int} {w : World} (h : PG w p F m n L) (hc : Rd .i64 w A cols) (hm : Meets m n cols) (hm5 : m ≤ 5) (hn9 : n ≤ 9) :
    Calls Try.prog 14 #[.pointer (some p), .slice A m cap] w fun e w' => ∃ (A2 : Option Addr) (cap2 : Nat), e = .returned (.tuple #[.slice A2 m cap2, .int .i64 0]) ∧ Rd .i64 w' A2 (named L cols) ∧ m ≤ cap2 ∧ cap2 ≤ maxLen ∧ Below w.heap.size w w' :=
  (read_any p F m n L A m cap cols w h hc hm.2.1 (by omega) (meets_in hm (by omega))).mono fun e w' ⟨A2, len, cap2, he, hr, hl, h1, h2, _, _, hb⟩ => by
    obtain ⟨e1, e2⟩ := read_meets (L := L) hm
    rw [e1] at hr hl
    rw [e2] at he
    rw [named_sz (sz_dims h.dims) hm] at hl
    subst hl
    exact ⟨A2, cap2, he, hr, h1, h2, hb⟩
theorem least_m {p : Addr} {F : Nat → Prop} {m n : Nat} {L : List (List Int)} {A : Option Addr} {cap : Nat} {cols : List Int} {w : World} (h : PG w p F m n L) (hc : Rd .i64 w A cols) (hm : Meets m n cols) (hm5 : m ≤ 5) (hn9 : n ≤ 9) :
    Calls Try.prog 15 #[.pointer (some p), .slice A m cap] w fun e w' => e = .returned (.tuple #[.int .i64 (Ord.kv (named L cols) 0), .int .i64 0]) ∧ Below w.heap.size w w' :=
  (least_any p F m n L A m cap cols w h hc hm.2.1 (by omega) (meets_in hm (by omega))).mono fun e w' ⟨he, hb⟩ => by
    obtain ⟨e1, e2⟩ := read_meets (L := L) hm
    rw [e1, e2] at he
    exact ⟨he, hb⟩
theorem middle_m {p : Addr} {F : Nat → Prop} {m n : Nat} {L : List (List Int)} {A : Option Addr} {cap : Nat} {cols : List Int} {w : World} (h : PG w p F m n L) (hc : Rd .i64 w A cols) (hm : Meets m n cols) (hm5 : m ≤ 5) (hn9 : n ≤ 9) :
    Calls Try.prog 16 #[.pointer (some p), .slice A m cap] w fun e w' => e = .returned (.tuple #[.int .i64 (Ord.kv (named L cols) ((((named L cols).length : Int) - 1) / 2)), .int .i64 0]) ∧ Below w.heap.size w w' :=
  (middle_any p F m n L A m cap cols w h hc hm.2.1 (by omega) (meets_in hm (by omega))).mono fun e w' ⟨he, hb⟩ => by
    obtain ⟨e1, e2⟩ := read_meets (L := L) hm
    rw [e1, e2] at he
    exact ⟨he, hb⟩
set_option maxRecDepth 100000 in
set_option maxHeartbeats 4000000 in
theorem middle_a (rows width : Int) (A : Option Addr) (n0 c0 : Nat) (qs : List StepV) (w : World) (A1 : Option Addr) (n1 c1 : Nat) (cs : List Int) (hA1 : A1 = none → n1 = 0 ∧ c1 = 0) (hn1 : n1 ≤ c1) (hc1 : c1 ≤ maxLen) (hr1 : Rd .i64 w A1 cs) (hl1 : cs.length = n1) (hz1 : In64 cs) (na nb : Int) (na0 : -9223372036854775808 ≤ na ∧ na ≤ 9223372036854775807) (nb0 : -9223372036854775808 ≤ nb ∧ nb ≤ 9223372036854775807) (hq : Steps w A n0 c0 qs) (hcase : 0 < n0 ∧ n0 % 2 = 0) :
    Calls Try.prog 7 #[.agg #[.int .i64 rows, .int .i64 width, .slice A n0 c0], .slice A1 n1 c1, .agg #[.int .i64 na, .int .i64 nb]] w fun e w' => e = .returned (.bool true) ∧ Below w.heap.size w w' := by
  obtain ⟨m, hm⟩ : ∃ m, rowsOf rows = m := ⟨_, rfl⟩
  obtain ⟨n, hn⟩ : ∃ n, widthOf width = n := ⟨_, rfl⟩
  have hmb := rows_bd rows
  have hnb := width_bd width
  rw [hm] at hmb
  rw [hn] at hnb
  have HQ := Lib.hid hq
  have HBX : Hid (Have w (w.alloc (.cells #[.int .i64 rows, .int .i64 width, .slice A n0 c0] 45)) [boxT w.heap.size 45 #[.int .i64 rows, .int .i64 width, .slice A n0 c0]]) := Lib.hid (box_new w _ _)
  have HR1 := Lib.hid hr1
  obtain ⟨L, hL⟩ : ∃ L, chAll (zerosL m n) (opsOf false false m n qs) = L := ⟨_, rfl⟩
  have HSZ : Hid (Sz m n L) := Lib.hid (by rw [← hL]; exact chAll_sz (sz_zeros m n) (ops_ok false false qs hmb.1 hnb.1))
  have D1 := Lib.hid (fun w hq => done_ff rows width A n0 c0 qs m n w hm hn hq)
  rw [hL] at D1
  have CS := Lib.hid (fun w => sized_any rows width A n0 c0 w)
  rw [hm, hn] at CS
  have hnc := hq.nc
  have hcm := hq.cm
  unfold maxLen at hcm
  have HL := Lib.hid hq.len
  clear hm hn hL hr1
  have h0 := hcase.1
  have ht : Int.tmod (n0 : Int) 2 = 0 := by rw [Int.tmod_eq_emod_of_nonneg (by omega)]; omega
  obtain ⟨q0, hq0⟩ : ∃ q, qs[0]? = some q := ⟨_, List.getElem?_eq_getElem (by rw [hq.len]; omega)⟩
  clear hcase
  have tb0 := tmod_bd na
  have tb1 := tmod_bd nb
  obtain ⟨at0, hat⟩ : ∃ a, Int.tmod na 1099511627776 = a := ⟨_, rfl⟩
  obtain ⟨t1, ht1⟩ : ∃ a, Int.tmod nb 1099511627776 = a := ⟨_, rfl⟩
  have CA := Lib.hid (fun w => small_q na w na0.1 na0.2)
  have CB := Lib.hid (fun w => small_q nb w nb0.1 nb0.2)
  rw [hat] at CA tb0
  rw [ht1] at CB tb1
  obtain ⟨Z, hZ⟩ : ∃ Z, named L (cutOf q0.zs m n) = Z := ⟨_, rfl⟩
  have HZL : Hid (Z.length = m) := Lib.hid (by rw [← hZ]; exact named_sz HSZ.out (cut_meets _ hmb.1 hnb.1))
  obtain ⟨V, hV⟩ : ∃ V, Ord.kv Z (((Z.length : Int) - 1) / 2) = V := ⟨_, rfl⟩
  have HZ := Lib.hid hZ
  have HVV := Lib.hid hV
  clear hat ht1 hq hZ hV
  have HBX2 : Hid (Have w ((w.alloc (.cells #[.int .i64 rows, .int .i64 width, .slice A n0 c0] 45)).alloc (.cells #[.int .i64 na, .int .i64 nb] 57)) [boxT (w.heap.size + 1) 57 #[.int .i64 na, .int .i64 nb], boxT w.heap.size 45 #[.int .i64 rows, .int .i64 width, .slice A n0 c0]]) := Lib.hid (two_boxes w _ _ _ _)
  go_enter Try.func7, Try.ntmps7
  go_wp2_with (first
    | (go_at_call 25; (with_reducible refine (CA.out _).mono ?_); rintro e w' ⟨rfl, rfl⟩)
    | (go_at_call 27; (with_reducible refine (rcut_any A1 n1 c1 cs m n _ (HR1.out.up HBW2.out) hl1 (Nat.le_trans hn1 hc1) (by omega) (by omega) (by omega)).mono ?_); rintro e w5 ⟨A5, cap5, rfl, own5, rd5, hc5, hm5, hb5⟩; have HV5 := Lib.hid (HV2.out.up hb5); have HBW5 := Lib.hid HV5.out.below; obtain ⟨kc0, kc1, kc2⟩ := box3 HV5.out.2.2.2.2.2.2.2.2.2.1; obtain ⟨kn0, kn1⟩ := box2 HV5.out.2.2.2.2.2.2.1; obtain ⟨ad, gad, capX, hAh, cA, hX1, hX2, rdX⟩ := row_at (rr_of HV5.out) HR.out (by omega) hq0; subst hAh; have ad0 : ad.add 0 = ad := (by unfold Addr.add; simp); rw [ad0] at cA; have RDX := Lib.hid rdX; have MX := Lib.hid (cut_meets q0.zs hmb.1 hnb.1); clear rdX; unfold maxLen at hX2; clear own5 rd5 hb5)
    | (go_at_call 24; (with_reducible refine (D1.out _ (HQ.out.up HBW1.out)).mono ?_); rintro e w2 ⟨p, F1, hdr1, R1, rfl, hv, hR⟩; have HV2' := HV1.out.join hv; simp only [List.cons_append, List.nil_append] at HV2'; have HRL := rows_len hR; rw [HL.out] at HRL; obtain ⟨Ah, ch, hh1, hh2, hh3, hh4, -⟩ := (rr_of HV2').hd; subst hh1; obtain ⟨N, hN⟩ : ∃ N, R1.length = N := ⟨_, rfl⟩; rw [hN] at HRL hh2 HV2'; simp only [hN]; have hN0 : N = min 60 n0 := HRL; unfold maxLen at hh3; have HHN := Lib.hid hh4; have HV2 := Lib.hid HV2'; have HBW2 := Lib.hid HV2'.below; have HR := Lib.hid hR; clear hv hR k0 k1 k2 HV2' hh4 hN HRL)
    | (go_at_call 23; (with_reducible refine (CS.out _).mono ?_); rintro e wz ⟨rfl, hb⟩; have HV1' := Lib.hid (HV1.out.up hb); clear HV1 HBW1; have HV1 := Lib.hid HV1'.out; clear HV1'; have HBW1 := Lib.hid HV1.out.below; clear k0 k1 k2; obtain ⟨k0, k1, k2⟩ := box3 HV1.out.2.2.2.1; clear hb)
    | (go_at_call 9; (with_reducible refine (shown_any _).mono ?_); rintro e w1 ⟨rfl, hb⟩; have HV1 := Lib.hid (HBX2.out.up hb); have HBW1 := Lib.hid HV1.out.below; obtain ⟨k0, k1, k2⟩ := box3 HV1.out.2.2.2.1; clear hb))
  by_cases hs : 0 ≤ t1
  · obtain ⟨lo, hlo⟩ : ∃ lo, at0 - t1 = lo := ⟨_, rfl⟩
    obtain ⟨hi, hhi⟩ : ∃ hi, at0 + t1 = hi := ⟨_, rfl⟩
    have hlb : -3298534883328 ≤ lo ∧ lo ≤ 3298534883328 := by omega
    have hhb : -3298534883328 ≤ hi ∧ hi ≤ 3298534883328 := by omega
    go_quiet (first | (go_at_call 25; with_reducible refine Calls.quiet_of_same (CB.out _)))
    go_wp2_with (go_at_call 14; ((with_reducible refine (read_m (pg_up (pg0 HV5.out) (by repeat' (first | (with_reducible exact Below.refl _ _) | (with_reducible assumption) | (with_reducible refine below_over ?_ _ _) | (with_reducible refine Lw.below_alloc ?_ _) | (with_reducible refine Below.drew ?_) | (with_reducible refine below_drewN ?_ _) | (with_reducible refine Below.setCell ?_ ?_ _) | go_size))) (RDX.out.up (by repeat' (first | (with_reducible exact Below.refl _ _) | (with_reducible assumption) | (with_reducible refine below_over ?_ _ _) | (with_reducible refine Lw.below_alloc ?_ _) | (with_reducible refine Below.drew ?_) | (with_reducible refine below_drewN ?_ _) | (with_reducible refine Below.setCell ?_ ?_ _) | go_size))) MX.out hmb.2 hnb.2).mono ?_); rintro e w6 ⟨A6, cap6, rfl, rd6, hc6, hm6, hb⟩; rw [HZ.out] at rd6; have RD6 := Lib.hid rd6; have HV6 := Lib.hid ((HV5.out.up (by repeat' (first | (with_reducible exact Below.refl _ _) | (with_reducible assumption) | (with_reducible refine below_over ?_ _ _) | (with_reducible refine Lw.below_alloc ?_ _) | (with_reducible refine Below.drew ?_) | (with_reducible refine below_drewN ?_ _) | (with_reducible refine Below.setCell ?_ ?_ _) | go_size))).up hb); have RDX6 := Lib.hid ((RDX.out.up (by repeat' (first | (with_reducible exact Below.refl _ _) | (with_reducible assumption) | (with_reducible refine below_over ?_ _ _) | (with_reducible refine Lw.below_alloc ?_ _) | (with_reducible refine Below.drew ?_) | (with_reducible refine below_drewN ?_ _) | (with_reducible refine Below.setCell ?_ ?_ _) | go_size))).up hb); clear rd6 hb))
    go_loop [16, 17] (fun s i => ∃ j : Nat, j ≤ m ∧ i = .int .i64 j ∧ s = .int .i64 (Ord.near (Z.take j) lo hi : Nat)) (fun _ i => m - (intOf i).toNat)
    case atStart => exact ⟨0, Nat.zero_le _, rfl, rfl⟩
    case round =>
      obtain ⟨j, hj, rfl, rfl⟩ := hrel
      have hnl := Ord.near_len Z lo hi j
      by_cases hlt : j < m
      · obtain ⟨v, hv⟩ : ∃ v, Z[j]? = some v := ⟨_, List.getElem?_eq_getElem (by rw [HZL.out]; exact hlt)⟩
        obtain ⟨ad6, rfl, hc⟩ := RD6.out j v hv
        have HNX := Lib.hid (Ord.near_next Z lo hi j v hv)
        obtain ⟨s0, hs0⟩ : ∃ s0, Ord.near (Z.take j) lo hi = s0 := ⟨_, rfl⟩
        rw [hs0] at HNX hnl ⊢
        clear hv hs0
        by_cases g1 : lo ≤ v
        · by_cases g2 : v ≤ hi
          · have e1 : Ord.near (Z.take (j + 1)) lo hi = s0 + 1 := by rw [HNX.out, if_pos ⟨g1, g2⟩]
            have E1 := Lib.hid e1
            clear e1 HNX
            go_wp2
            go_round
            case rel => exact ⟨j + 1, by omega, by go_num, by rw [E1.out]; rfl⟩
            case measure => simp [intOf]; omega
          · have e1 : Ord.near (Z.take (j + 1)) lo hi = s0 := by rw [HNX.out, if_neg (by omega)]; rfl
            have E1 := Lib.hid e1
            clear e1 HNX
            go_wp2
            go_round
            case rel => exact ⟨j + 1, by omega, by go_num, by rw [E1.out]⟩
            case measure => simp [intOf]; omega
        · have e1 : Ord.near (Z.take (j + 1)) lo hi = s0 := by rw [HNX.out, if_neg (by omega)]; rfl
          have E1 := Lib.hid e1
          clear e1 HNX
          go_wp2
          go_round
          case rel => exact ⟨j + 1, by omega, by go_num, by rw [E1.out]⟩
          case measure => simp [intOf]; omega
      · have e : j = m := by omega
        have e1 : Z.take j = Z := List.take_of_length_le (by rw [HZL.out]; omega)
        rw [e1] at hnl ⊢
        have hmed := fun h => Ord.near_median2 Z lo hi h
        rw [HZL.out] at hmed
        have hVV := HVV.out
        rw [HZL.out] at hVV
        rw [hVV] at hmed
        obtain ⟨M, hM⟩ : ∃ M, Ord.near Z lo hi = M := ⟨_, rfl⟩
        rw [hM] at hnl hmed ⊢
        subst e
        clear e1 hVV hM
        by_cases hmany : 2 * (M : Int) ≤ j
        · clear hmed
          go_wp2_with (go_at_call 16; (with_reducible refine (middle_m (pg0 HV6.out) RDX6.out MX.out hmb.2 hnb.2).mono ?_); rintro e w7 ⟨he, hb⟩; rw [HZ.out, HVV.out] at he; subst he; have HBW7 := Lib.hid (below_call HV6.out.below hb (Nat.le_refl _)); clear hb)
          go_ret
          exact ⟨rfl, HBW7.out⟩
        · obtain ⟨-, g1, g2⟩ := hmed (by omega)
          go_wp2_with (go_at_call 16; (with_reducible refine (middle_m (pg0 HV6.out) RDX6.out MX.out hmb.2 hnb.2).mono ?_); rintro e w7 ⟨he, hb⟩; rw [HZ.out, HVV.out] at he; subst he; have HBW7 := Lib.hid (below_call HV6.out.below hb (Nat.le_refl _)); clear hb)
          go_ret
          exact ⟨rfl, HBW7.out⟩
  · obtain ⟨lo, hlo⟩ : ∃ lo, at0 - (-t1) = lo := ⟨_, rfl⟩
    obtain ⟨hi, hhi⟩ : ∃ hi, at0 + (-t1) = hi := ⟨_, rfl⟩
    have hlb : -3298534883328 ≤ lo ∧ lo ≤ 3298534883328 := by omega
    have hhb : -3298534883328 ≤ hi ∧ hi ≤ 3298534883328 := by omega
    go_quiet (first | (go_at_call 25; with_reducible refine Calls.quiet_of_same (CB.out _)))
    go_wp2_with (go_at_call 14; ((with_reducible refine (read_m (pg_up (pg0 HV5.out) (by repeat' (first | (with_reducible exact Below.refl _ _) | (with_reducible assumption) | (with_reducible refine below_over ?_ _ _) | (with_reducible refine Lw.below_alloc ?_ _) | (with_reducible refine Below.drew ?_) | (with_reducible refine below_drewN ?_ _) | (with_reducible refine Below.setCell ?_ ?_ _) | go_size))) (RDX.out.up (by repeat' (first | (with_reducible exact Below.refl _ _) | (with_reducible assumption) | (with_reducible refine below_over ?_ _ _) | (with_reducible refine Lw.below_alloc ?_ _) | (with_reducible refine Below.drew ?_) | (with_reducible refine below_drewN ?_ _) | (with_reducible refine Below.setCell ?_ ?_ _) | go_size))) MX.out hmb.2 hnb.2).mono ?_); rintro e w6 ⟨A6, cap6, rfl, rd6, hc6, hm6, hb⟩; rw [HZ.out] at rd6; have RD6 := Lib.hid rd6; have HV6 := Lib.hid ((HV5.out.up (by repeat' (first | (with_reducible exact Below.refl _ _) | (with_reducible assumption) | (with_reducible refine below_over ?_ _ _) | (with_reducible refine Lw.below_alloc ?_ _) | (with_reducible refine Below.drew ?_) | (with_reducible refine below_drewN ?_ _) | (with_reducible refine Below.setCell ?_ ?_ _) | go_size))).up hb); have RDX6 := Lib.hid ((RDX.out.up (by repeat' (first | (with_reducible exact Below.refl _ _) | (with_reducible assumption) | (with_reducible refine below_over ?_ _ _) | (with_reducible refine Lw.below_alloc ?_ _) | (with_reducible refine Below.drew ?_) | (with_reducible refine below_drewN ?_ _) | (with_reducible refine Below.setCell ?_ ?_ _) | go_size))).up hb); clear rd6 hb))
    go_loop [16, 17] (fun s i => ∃ j : Nat, j ≤ m ∧ i = .int .i64 j ∧ s = .int .i64 (Ord.near (Z.take j) lo hi : Nat)) (fun _ i => m - (intOf i).toNat)
    case atStart => exact ⟨0, Nat.zero_le _, rfl, rfl⟩
    case round =>
      obtain ⟨j, hj, rfl, rfl⟩ := hrel
      have hnl := Ord.near_len Z lo hi j
      by_cases hlt : j < m
      · obtain ⟨v, hv⟩ : ∃ v, Z[j]? = some v := ⟨_, List.getElem?_eq_getElem (by rw [HZL.out]; exact hlt)⟩
        obtain ⟨ad6, rfl, hc⟩ := RD6.out j v hv
        have HNX := Lib.hid (Ord.near_next Z lo hi j v hv)
        obtain ⟨s0, hs0⟩ : ∃ s0, Ord.near (Z.take j) lo hi = s0 := ⟨_, rfl⟩
        rw [hs0] at HNX hnl ⊢
        clear hv hs0
        by_cases g1 : lo ≤ v
        · by_cases g2 : v ≤ hi
          · have e1 : Ord.near (Z.take (j + 1)) lo hi = s0 + 1 := by rw [HNX.out, if_pos ⟨g1, g2⟩]
            have E1 := Lib.hid e1
            clear e1 HNX
            go_wp2
            go_round
            case rel => exact ⟨j + 1, by omega, by go_num, by rw [E1.out]; rfl⟩
            case measure => simp [intOf]; omega
          · have e1 : Ord.near (Z.take (j + 1)) lo hi = s0 := by rw [HNX.out, if_neg (by omega)]; rfl
            have E1 := Lib.hid e1
            clear e1 HNX
            go_wp2
            go_round
            case rel => exact ⟨j + 1, by omega, by go_num, by rw [E1.out]⟩
            case measure => simp [intOf]; omega
        · have e1 : Ord.near (Z.take (j + 1)) lo hi = s0 := by rw [HNX.out, if_neg (by omega)]; rfl
          have E1 := Lib.hid e1
          clear e1 HNX
          go_wp2
          go_round
          case rel => exact ⟨j + 1, by omega, by go_num, by rw [E1.out]⟩
          case measure => simp [intOf]; omega
      · have e : j = m := by omega
        have e1 : Z.take j = Z := List.take_of_length_le (by rw [HZL.out]; omega)
        rw [e1] at hnl ⊢
        have hmed := fun h => Ord.near_median2 Z lo hi h
        rw [HZL.out] at hmed
        have hVV := HVV.out
        rw [HZL.out] at hVV
        rw [hVV] at hmed
        obtain ⟨M, hM⟩ : ∃ M, Ord.near Z lo hi = M := ⟨_, rfl⟩
        rw [hM] at hnl hmed ⊢
        subst e
        clear e1 hVV hM
        by_cases hmany : 2 * (M : Int) ≤ j
        · clear hmed
          go_wp2_with (go_at_call 16; (with_reducible refine (middle_m (pg0 HV6.out) RDX6.out MX.out hmb.2 hnb.2).mono ?_); rintro e w7 ⟨he, hb⟩; rw [HZ.out, HVV.out] at he; subst he; have HBW7 := Lib.hid (below_call HV6.out.below hb (Nat.le_refl _)); clear hb)
          go_ret
          exact ⟨rfl, HBW7.out⟩
        · obtain ⟨-, g1, g2⟩ := hmed (by omega)
          go_wp2_with (go_at_call 16; (with_reducible refine (middle_m (pg0 HV6.out) RDX6.out MX.out hmb.2 hnb.2).mono ?_); rintro e w7 ⟨he, hb⟩; rw [HZ.out, HVV.out] at he; subst he; have HBW7 := Lib.hid (below_call HV6.out.below hb (Nat.le_refl _)); clear hb)
          go_ret
          exact ⟨rfl, HBW7.out⟩
set_option maxRecDepth 100000 in
set_option maxHeartbeats 4000000 in
theorem middle_b (rows width : Int) (A : Option Addr) (n0 c0 : Nat) (qs : List StepV) (w : World) (A1 : Option Addr) (n1 c1 : Nat) (cs : List Int) (hA1 : A1 = none → n1 = 0 ∧ c1 = 0) (hn1 : n1 ≤ c1) (hc1 : c1 ≤ maxLen) (hr1 : Rd .i64 w A1 cs) (hl1 : cs.length = n1) (hz1 : In64 cs) (na nb : Int) (na0 : -9223372036854775808 ≤ na ∧ na ≤ 9223372036854775807) (nb0 : -9223372036854775808 ≤ nb ∧ nb ≤ 9223372036854775807) (hq : Steps w A n0 c0 qs) (hcase : n0 = 0) :
    Calls Try.prog 7 #[.agg #[.int .i64 rows, .int .i64 width, .slice A n0 c0], .slice A1 n1 c1, .agg #[.int .i64 na, .int .i64 nb]] w fun e w' => e = .returned (.bool true) ∧ Below w.heap.size w w' := by
  obtain ⟨m, hm⟩ : ∃ m, rowsOf rows = m := ⟨_, rfl⟩
  obtain ⟨n, hn⟩ : ∃ n, widthOf width = n := ⟨_, rfl⟩
  have hmb := rows_bd rows
  have hnb := width_bd width
  rw [hm] at hmb
  rw [hn] at hnb
  have HQ := Lib.hid hq
  have HBX : Hid (Have w (w.alloc (.cells #[.int .i64 rows, .int .i64 width, .slice A n0 c0] 45)) [boxT w.heap.size 45 #[.int .i64 rows, .int .i64 width, .slice A n0 c0]]) := Lib.hid (box_new w _ _)
  have HR1 := Lib.hid hr1
  obtain ⟨L, hL⟩ : ∃ L, chAll (zerosL m n) (opsOf false false m n qs) = L := ⟨_, rfl⟩
  have HSZ : Hid (Sz m n L) := Lib.hid (by rw [← hL]; exact chAll_sz (sz_zeros m n) (ops_ok false false qs hmb.1 hnb.1))
  have D1 := Lib.hid (fun w hq => done_ff rows width A n0 c0 qs m n w hm hn hq)
  rw [hL] at D1
  have CS := Lib.hid (fun w => sized_any rows width A n0 c0 w)
  rw [hm, hn] at CS
  have hnc := hq.nc
  have hcm := hq.cm
  unfold maxLen at hcm
  have HL := Lib.hid hq.len
  clear hm hn hL hr1
  have h0 : n0 < 1 := by omega
  clear hcase
  have tb0 := tmod_bd na
  have tb1 := tmod_bd nb
  obtain ⟨at0, hat⟩ : ∃ a, Int.tmod na 1099511627776 = a := ⟨_, rfl⟩
  obtain ⟨t1, ht1⟩ : ∃ a, Int.tmod nb 1099511627776 = a := ⟨_, rfl⟩
  have CA := Lib.hid (fun w => small_q na w na0.1 na0.2)
  have CB := Lib.hid (fun w => small_q nb w nb0.1 nb0.2)
  rw [hat] at CA tb0
  rw [ht1] at CB tb1
  obtain ⟨Z, hZ⟩ : ∃ Z, named L (cutOf cs m n) = Z := ⟨_, rfl⟩
  have HZL : Hid (Z.length = m) := Lib.hid (by rw [← hZ]; exact named_sz HSZ.out (cut_meets _ hmb.1 hnb.1))
  obtain ⟨V, hV⟩ : ∃ V, Ord.kv Z (((Z.length : Int) - 1) / 2) = V := ⟨_, rfl⟩
  have HZ := Lib.hid hZ
  have HVV := Lib.hid hV
  clear hat ht1 hq hZ hV
  have HBX2 : Hid (Have w ((w.alloc (.cells #[.int .i64 rows, .int .i64 width, .slice A n0 c0] 45)).alloc (.cells #[.int .i64 na, .int .i64 nb] 57)) [boxT (w.heap.size + 1) 57 #[.int .i64 na, .int .i64 nb], boxT w.heap.size 45 #[.int .i64 rows, .int .i64 width, .slice A n0 c0]]) := Lib.hid (two_boxes w _ _ _ _)
  go_enter Try.func7, Try.ntmps7
  go_wp2_with (first
    | (go_at_call 25; (with_reducible refine (CA.out _).mono ?_); rintro e w' ⟨rfl, rfl⟩)
    | (go_at_call 27; (with_reducible refine (rcut_any A1 n1 c1 cs m n _ (HR1.out.up HBW2.out) hl1 (Nat.le_trans hn1 hc1) (by omega) (by omega) (by omega)).mono ?_); rintro e w5 ⟨A5, cap5, rfl, own5, rd5, hc5, hm5, hb5⟩; have HV5 := Lib.hid (HV2.out.up hb5); have HBW5 := Lib.hid HV5.out.below; obtain ⟨kc0, kc1, kc2⟩ := box3 HV5.out.2.2.2.2.2.2.2.2.2.1; obtain ⟨kn0, kn1⟩ := box2 HV5.out.2.2.2.2.2.2.1; have RDX := Lib.hid rd5; have MX := Lib.hid (cut_meets cs hmb.1 hnb.1); have hX1 := hc5; have hX2 := hm5; unfold maxLen at hX2; clear own5 rd5 hb5)
    | (go_at_call 24; (with_reducible refine (D1.out _ (HQ.out.up HBW1.out)).mono ?_); rintro e w2 ⟨p, F1, hdr1, R1, rfl, hv, hR⟩; have HV2' := HV1.out.join hv; simp only [List.cons_append, List.nil_append] at HV2'; have HRL := rows_len hR; rw [HL.out] at HRL; obtain ⟨Ah, ch, hh1, hh2, hh3, hh4, -⟩ := (rr_of HV2').hd; subst hh1; obtain ⟨N, hN⟩ : ∃ N, R1.length = N := ⟨_, rfl⟩; rw [hN] at HRL hh2 HV2'; simp only [hN]; have hN0 : N = min 60 n0 := HRL; unfold maxLen at hh3; have HHN := Lib.hid hh4; have HV2 := Lib.hid HV2'; have HBW2 := Lib.hid HV2'.below; have HR := Lib.hid hR; clear hv hR k0 k1 k2 HV2' hh4 hN HRL)
    | (go_at_call 23; (with_reducible refine (CS.out _).mono ?_); rintro e wz ⟨rfl, hb⟩; have HV1' := Lib.hid (HV1.out.up hb); clear HV1 HBW1; have HV1 := Lib.hid HV1'.out; clear HV1'; have HBW1 := Lib.hid HV1.out.below; clear k0 k1 k2; obtain ⟨k0, k1, k2⟩ := box3 HV1.out.2.2.2.1; clear hb)
    | (go_at_call 9; (with_reducible refine (shown_any _).mono ?_); rintro e w1 ⟨rfl, hb⟩; have HV1 := Lib.hid (HBX2.out.up hb); have HBW1 := Lib.hid HV1.out.below; obtain ⟨k0, k1, k2⟩ := box3 HV1.out.2.2.2.1; clear hb))
  by_cases hs : 0 ≤ t1
  · obtain ⟨lo, hlo⟩ : ∃ lo, at0 - t1 = lo := ⟨_, rfl⟩
    obtain ⟨hi, hhi⟩ : ∃ hi, at0 + t1 = hi := ⟨_, rfl⟩
    have hlb : -3298534883328 ≤ lo ∧ lo ≤ 3298534883328 := by omega
    have hhb : -3298534883328 ≤ hi ∧ hi ≤ 3298534883328 := by omega
    go_quiet (first | (go_at_call 25; with_reducible refine Calls.quiet_of_same (CB.out _)))
    go_wp2_with (go_at_call 14; ((with_reducible refine (read_m (pg_up (pg0 HV5.out) (by repeat' (first | (with_reducible exact Below.refl _ _) | (with_reducible assumption) | (with_reducible refine below_over ?_ _ _) | (with_reducible refine Lw.below_alloc ?_ _) | (with_reducible refine Below.drew ?_) | (with_reducible refine below_drewN ?_ _) | (with_reducible refine Below.setCell ?_ ?_ _) | go_size))) (RDX.out.up (by repeat' (first | (with_reducible exact Below.refl _ _) | (with_reducible assumption) | (with_reducible refine below_over ?_ _ _) | (with_reducible refine Lw.below_alloc ?_ _) | (with_reducible refine Below.drew ?_) | (with_reducible refine below_drewN ?_ _) | (with_reducible refine Below.setCell ?_ ?_ _) | go_size))) MX.out hmb.2 hnb.2).mono ?_); rintro e w6 ⟨A6, cap6, rfl, rd6, hc6, hm6, hb⟩; rw [HZ.out] at rd6; have RD6 := Lib.hid rd6; have HV6 := Lib.hid ((HV5.out.up (by repeat' (first | (with_reducible exact Below.refl _ _) | (with_reducible assumption) | (with_reducible refine below_over ?_ _ _) | (with_reducible refine Lw.below_alloc ?_ _) | (with_reducible refine Below.drew ?_) | (with_reducible refine below_drewN ?_ _) | (with_reducible refine Below.setCell ?_ ?_ _) | go_size))).up hb); have RDX6 := Lib.hid ((RDX.out.up (by repeat' (first | (with_reducible exact Below.refl _ _) | (with_reducible assumption) | (with_reducible refine below_over ?_ _ _) | (with_reducible refine Lw.below_alloc ?_ _) | (with_reducible refine Below.drew ?_) | (with_reducible refine below_drewN ?_ _) | (with_reducible refine Below.setCell ?_ ?_ _) | go_size))).up hb); clear rd6 hb))
    go_loop [16, 17] (fun s i => ∃ j : Nat, j ≤ m ∧ i = .int .i64 j ∧ s = .int .i64 (Ord.near (Z.take j) lo hi : Nat)) (fun _ i => m - (intOf i).toNat)
    case atStart => exact ⟨0, Nat.zero_le _, rfl, rfl⟩
    case round =>
      obtain ⟨j, hj, rfl, rfl⟩ := hrel
      have hnl := Ord.near_len Z lo hi j
      by_cases hlt : j < m
      · obtain ⟨v, hv⟩ : ∃ v, Z[j]? = some v := ⟨_, List.getElem?_eq_getElem (by rw [HZL.out]; exact hlt)⟩
        obtain ⟨ad6, rfl, hc⟩ := RD6.out j v hv
        have HNX := Lib.hid (Ord.near_next Z lo hi j v hv)
        obtain ⟨s0, hs0⟩ : ∃ s0, Ord.near (Z.take j) lo hi = s0 := ⟨_, rfl⟩
        rw [hs0] at HNX hnl ⊢
        clear hv hs0
        by_cases g1 : lo ≤ v
        · by_cases g2 : v ≤ hi
          · have e1 : Ord.near (Z.take (j + 1)) lo hi = s0 + 1 := by rw [HNX.out, if_pos ⟨g1, g2⟩]
            have E1 := Lib.hid e1
            clear e1 HNX
            go_wp2
            go_round
            case rel => exact ⟨j + 1, by omega, by go_num, by rw [E1.out]; rfl⟩
            case measure => simp [intOf]; omega
          · have e1 : Ord.near (Z.take (j + 1)) lo hi = s0 := by rw [HNX.out, if_neg (by omega)]; rfl
            have E1 := Lib.hid e1
            clear e1 HNX
            go_wp2
            go_round
            case rel => exact ⟨j + 1, by omega, by go_num, by rw [E1.out]⟩
            case measure => simp [intOf]; omega
        · have e1 : Ord.near (Z.take (j + 1)) lo hi = s0 := by rw [HNX.out, if_neg (by omega)]; rfl
          have E1 := Lib.hid e1
          clear e1 HNX
          go_wp2
          go_round
          case rel => exact ⟨j + 1, by omega, by go_num, by rw [E1.out]⟩
          case measure => simp [intOf]; omega
      · have e : j = m := by omega
        have e1 : Z.take j = Z := List.take_of_length_le (by rw [HZL.out]; omega)
        rw [e1] at hnl ⊢
        have hmed := fun h => Ord.near_median2 Z lo hi h
        rw [HZL.out] at hmed
        have hVV := HVV.out
        rw [HZL.out] at hVV
        rw [hVV] at hmed
        obtain ⟨M, hM⟩ : ∃ M, Ord.near Z lo hi = M := ⟨_, rfl⟩
        rw [hM] at hnl hmed ⊢
        subst e
        clear e1 hVV hM
        by_cases hmany : 2 * (M : Int) ≤ j
        · clear hmed
          go_wp2_with (go_at_call 16; (with_reducible refine (middle_m (pg0 HV6.out) RDX6.out MX.out hmb.2 hnb.2).mono ?_); rintro e w7 ⟨he, hb⟩; rw [HZ.out, HVV.out] at he; subst he; have HBW7 := Lib.hid (below_call HV6.out.below hb (Nat.le_refl _)); clear hb)
          go_ret
          exact ⟨rfl, HBW7.out⟩
        · obtain ⟨-, g1, g2⟩ := hmed (by omega)
          go_wp2_with (go_at_call 16; (with_reducible refine (middle_m (pg0 HV6.out) RDX6.out MX.out hmb.2 hnb.2).mono ?_); rintro e w7 ⟨he, hb⟩; rw [HZ.out, HVV.out] at he; subst he; have HBW7 := Lib.hid (below_call HV6.out.below hb (Nat.le_refl _)); clear hb)
          go_ret
          exact ⟨rfl, HBW7.out⟩
  · obtain ⟨lo, hlo⟩ : ∃ lo, at0 - (-t1) = lo := ⟨_, rfl⟩
    obtain ⟨hi, hhi⟩ : ∃ hi, at0 + (-t1) = hi := ⟨_, rfl⟩
    have hlb : -3298534883328 ≤ lo ∧ lo ≤ 3298534883328 := by omega
    have hhb : -3298534883328 ≤ hi ∧ hi ≤ 3298534883328 := by omega
    go_quiet (first | (go_at_call 25; with_reducible refine Calls.quiet_of_same (CB.out _)))
    go_wp2_with (go_at_call 14; ((with_reducible refine (read_m (pg_up (pg0 HV5.out) (by repeat' (first | (with_reducible exact Below.refl _ _) | (with_reducible assumption) | (with_reducible refine below_over ?_ _ _) | (with_reducible refine Lw.below_alloc ?_ _) | (with_reducible refine Below.drew ?_) | (with_reducible refine below_drewN ?_ _) | (with_reducible refine Below.setCell ?_ ?_ _) | go_size))) (RDX.out.up (by repeat' (first | (with_reducible exact Below.refl _ _) | (with_reducible assumption) | (with_reducible refine below_over ?_ _ _) | (with_reducible refine Lw.below_alloc ?_ _) | (with_reducible refine Below.drew ?_) | (with_reducible refine below_drewN ?_ _) | (with_reducible refine Below.setCell ?_ ?_ _) | go_size))) MX.out hmb.2 hnb.2).mono ?_); rintro e w6 ⟨A6, cap6, rfl, rd6, hc6, hm6, hb⟩; rw [HZ.out] at rd6; have RD6 := Lib.hid rd6; have HV6 := Lib.hid ((HV5.out.up (by repeat' (first | (with_reducible exact Below.refl _ _) | (with_reducible assumption) | (with_reducible refine below_over ?_ _ _) | (with_reducible refine Lw.below_alloc ?_ _) | (with_reducible refine Below.drew ?_) | (with_reducible refine below_drewN ?_ _) | (with_reducible refine Below.setCell ?_ ?_ _) | go_size))).up hb); have RDX6 := Lib.hid ((RDX.out.up (by repeat' (first | (with_reducible exact Below.refl _ _) | (with_reducible assumption) | (with_reducible refine below_over ?_ _ _) | (with_reducible refine Lw.below_alloc ?_ _) | (with_reducible refine Below.drew ?_) | (with_reducible refine below_drewN ?_ _) | (with_reducible refine Below.setCell ?_ ?_ _) | go_size))).up hb); clear rd6 hb))
    go_loop [16, 17] (fun s i => ∃ j : Nat, j ≤ m ∧ i = .int .i64 j ∧ s = .int .i64 (Ord.near (Z.take j) lo hi : Nat)) (fun _ i => m - (intOf i).toNat)
    case atStart => exact ⟨0, Nat.zero_le _, rfl, rfl⟩
    case round =>
      obtain ⟨j, hj, rfl, rfl⟩ := hrel
      have hnl := Ord.near_len Z lo hi j
      by_cases hlt : j < m
      · obtain ⟨v, hv⟩ : ∃ v, Z[j]? = some v := ⟨_, List.getElem?_eq_getElem (by rw [HZL.out]; exact hlt)⟩
        obtain ⟨ad6, rfl, hc⟩ := RD6.out j v hv
        have HNX := Lib.hid (Ord.near_next Z lo hi j v hv)
        obtain ⟨s0, hs0⟩ : ∃ s0, Ord.near (Z.take j) lo hi = s0 := ⟨_, rfl⟩
        rw [hs0] at HNX hnl ⊢
        clear hv hs0
        by_cases g1 : lo ≤ v
        · by_cases g2 : v ≤ hi
          · have e1 : Ord.near (Z.take (j + 1)) lo hi = s0 + 1 := by rw [HNX.out, if_pos ⟨g1, g2⟩]
            have E1 := Lib.hid e1
            clear e1 HNX
            go_wp2
            go_round
            case rel => exact ⟨j + 1, by omega, by go_num, by rw [E1.out]; rfl⟩
            case measure => simp [intOf]; omega
          · have e1 : Ord.near (Z.take (j + 1)) lo hi = s0 := by rw [HNX.out, if_neg (by omega)]; rfl
            have E1 := Lib.hid e1
            clear e1 HNX
            go_wp2
            go_round
            case rel => exact ⟨j + 1, by omega, by go_num, by rw [E1.out]⟩
            case measure => simp [intOf]; omega
        · have e1 : Ord.near (Z.take (j + 1)) lo hi = s0 := by rw [HNX.out, if_neg (by omega)]; rfl
          have E1 := Lib.hid e1
          clear e1 HNX
          go_wp2
          go_round
          case rel => exact ⟨j + 1, by omega, by go_num, by rw [E1.out]⟩
          case measure => simp [intOf]; omega
      · have e : j = m := by omega
        have e1 : Z.take j = Z := List.take_of_length_le (by rw [HZL.out]; omega)
        rw [e1] at hnl ⊢
        have hmed := fun h => Ord.near_median2 Z lo hi h
        rw [HZL.out] at hmed
        have hVV := HVV.out
        rw [HZL.out] at hVV
        rw [hVV] at hmed
        obtain ⟨M, hM⟩ : ∃ M, Ord.near Z lo hi = M := ⟨_, rfl⟩
        rw [hM] at hnl hmed ⊢
        subst e
        clear e1 hVV hM
        by_cases hmany : 2 * (M : Int) ≤ j
        · clear hmed
          go_wp2_with (go_at_call 16; (with_reducible refine (middle_m (pg0 HV6.out) RDX6.out MX.out hmb.2 hnb.2).mono ?_); rintro e w7 ⟨he, hb⟩; rw [HZ.out, HVV.out] at he; subst he; have HBW7 := Lib.hid (below_call HV6.out.below hb (Nat.le_refl _)); clear hb)
          go_ret
          exact ⟨rfl, HBW7.out⟩
        · obtain ⟨-, g1, g2⟩ := hmed (by omega)
          go_wp2_with (go_at_call 16; (with_reducible refine (middle_m (pg0 HV6.out) RDX6.out MX.out hmb.2 hnb.2).mono ?_); rintro e w7 ⟨he, hb⟩; rw [HZ.out, HVV.out] at he; subst he; have HBW7 := Lib.hid (below_call HV6.out.below hb (Nat.le_refl _)); clear hb)
          go_ret
          exact ⟨rfl, HBW7.out⟩
set_option maxRecDepth 100000 in
set_option maxHeartbeats 4000000 in
theorem middle_c (rows width : Int) (A : Option Addr) (n0 c0 : Nat) (qs : List StepV) (w : World) (A1 : Option Addr) (n1 c1 : Nat) (cs : List Int) (hA1 : A1 = none → n1 = 0 ∧ c1 = 0) (hn1 : n1 ≤ c1) (hc1 : c1 ≤ maxLen) (hr1 : Rd .i64 w A1 cs) (hl1 : cs.length = n1) (hz1 : In64 cs) (na nb : Int) (na0 : -9223372036854775808 ≤ na ∧ na ≤ 9223372036854775807) (nb0 : -9223372036854775808 ≤ nb ∧ nb ≤ 9223372036854775807) (hq : Steps w A n0 c0 qs) (hcase : 0 < n0 ∧ n0 % 2 = 1) :
    Calls Try.prog 7 #[.agg #[.int .i64 rows, .int .i64 width, .slice A n0 c0], .slice A1 n1 c1, .agg #[.int .i64 na, .int .i64 nb]] w fun e w' => e = .returned (.bool true) ∧ Below w.heap.size w w' := by
  obtain ⟨m, hm⟩ : ∃ m, rowsOf rows = m := ⟨_, rfl⟩
  obtain ⟨n, hn⟩ : ∃ n, widthOf width = n := ⟨_, rfl⟩
  have hmb := rows_bd rows
  have hnb := width_bd width
  rw [hm] at hmb
  rw [hn] at hnb
  have HQ := Lib.hid hq
  have HBX : Hid (Have w (w.alloc (.cells #[.int .i64 rows, .int .i64 width, .slice A n0 c0] 45)) [boxT w.heap.size 45 #[.int .i64 rows, .int .i64 width, .slice A n0 c0]]) := Lib.hid (box_new w _ _)
  have HR1 := Lib.hid hr1
  obtain ⟨L, hL⟩ : ∃ L, chAll (zerosL m n) (opsOf false false m n qs) = L := ⟨_, rfl⟩
  have HSZ : Hid (Sz m n L) := Lib.hid (by rw [← hL]; exact chAll_sz (sz_zeros m n) (ops_ok false false qs hmb.1 hnb.1))
  have D1 := Lib.hid (fun w hq => done_ff rows width A n0 c0 qs m n w hm hn hq)
  rw [hL] at D1
  have CS := Lib.hid (fun w => sized_any rows width A n0 c0 w)
  rw [hm, hn] at CS
  have hnc := hq.nc
  have hcm := hq.cm
  unfold maxLen at hcm
  have HL := Lib.hid hq.len
  clear hm hn hL hr1
  have h0 := hcase.1
  have ht : Int.tmod (n0 : Int) 2 = 1 := by rw [Int.tmod_eq_emod_of_nonneg (by omega)]; omega
  clear hcase
  have tb0 := tmod_bd na
  have tb1 := tmod_bd nb
  obtain ⟨at0, hat⟩ : ∃ a, Int.tmod na 1099511627776 = a := ⟨_, rfl⟩
  obtain ⟨t1, ht1⟩ : ∃ a, Int.tmod nb 1099511627776 = a := ⟨_, rfl⟩
  have CA := Lib.hid (fun w => small_q na w na0.1 na0.2)
  have CB := Lib.hid (fun w => small_q nb w nb0.1 nb0.2)
  rw [hat] at CA tb0
  rw [ht1] at CB tb1
  obtain ⟨Z, hZ⟩ : ∃ Z, named L (cutOf cs m n) = Z := ⟨_, rfl⟩
  have HZL : Hid (Z.length = m) := Lib.hid (by rw [← hZ]; exact named_sz HSZ.out (cut_meets _ hmb.1 hnb.1))
  obtain ⟨V, hV⟩ : ∃ V, Ord.kv Z (((Z.length : Int) - 1) / 2) = V := ⟨_, rfl⟩
  have HZ := Lib.hid hZ
  have HVV := Lib.hid hV
  clear hat ht1 hq hZ hV
  have HBX2 : Hid (Have w ((w.alloc (.cells #[.int .i64 rows, .int .i64 width, .slice A n0 c0] 45)).alloc (.cells #[.int .i64 na, .int .i64 nb] 57)) [boxT (w.heap.size + 1) 57 #[.int .i64 na, .int .i64 nb], boxT w.heap.size 45 #[.int .i64 rows, .int .i64 width, .slice A n0 c0]]) := Lib.hid (two_boxes w _ _ _ _)
  go_enter Try.func7, Try.ntmps7
  go_wp2_with (first
    | (go_at_call 25; (with_reducible refine (CA.out _).mono ?_); rintro e w' ⟨rfl, rfl⟩)
    | (go_at_call 27; (with_reducible refine (rcut_any A1 n1 c1 cs m n _ (HR1.out.up HBW2.out) hl1 (Nat.le_trans hn1 hc1) (by omega) (by omega) (by omega)).mono ?_); rintro e w5 ⟨A5, cap5, rfl, own5, rd5, hc5, hm5, hb5⟩; have HV5 := Lib.hid (HV2.out.up hb5); have HBW5 := Lib.hid HV5.out.below; obtain ⟨kc0, kc1, kc2⟩ := box3 HV5.out.2.2.2.2.2.2.2.2.2.1; obtain ⟨kn0, kn1⟩ := box2 HV5.out.2.2.2.2.2.2.1; have RDX := Lib.hid rd5; have MX := Lib.hid (cut_meets cs hmb.1 hnb.1); have hX1 := hc5; have hX2 := hm5; unfold maxLen at hX2; clear own5 rd5 hb5)
    | (go_at_call 24; (with_reducible refine (D1.out _ (HQ.out.up HBW1.out)).mono ?_); rintro e w2 ⟨p, F1, hdr1, R1, rfl, hv, hR⟩; have HV2' := HV1.out.join hv; simp only [List.cons_append, List.nil_append] at HV2'; have HRL := rows_len hR; rw [HL.out] at HRL; obtain ⟨Ah, ch, hh1, hh2, hh3, hh4, -⟩ := (rr_of HV2').hd; subst hh1; obtain ⟨N, hN⟩ : ∃ N, R1.length = N := ⟨_, rfl⟩; rw [hN] at HRL hh2 HV2'; simp only [hN]; have hN0 : N = min 60 n0 := HRL; unfold maxLen at hh3; have HHN := Lib.hid hh4; have HV2 := Lib.hid HV2'; have HBW2 := Lib.hid HV2'.below; have HR := Lib.hid hR; clear hv hR k0 k1 k2 HV2' hh4 hN HRL)
    | (go_at_call 23; (with_reducible refine (CS.out _).mono ?_); rintro e wz ⟨rfl, hb⟩; have HV1' := Lib.hid (HV1.out.up hb); clear HV1 HBW1; have HV1 := Lib.hid HV1'.out; clear HV1'; have HBW1 := Lib.hid HV1.out.below; clear k0 k1 k2; obtain ⟨k0, k1, k2⟩ := box3 HV1.out.2.2.2.1; clear hb)
    | (go_at_call 9; (with_reducible refine (shown_any _).mono ?_); rintro e w1 ⟨rfl, hb⟩; have HV1 := Lib.hid (HBX2.out.up hb); have HBW1 := Lib.hid HV1.out.below; obtain ⟨k0, k1, k2⟩ := box3 HV1.out.2.2.2.1; clear hb))
  by_cases hs : 0 ≤ t1
  · obtain ⟨lo, hlo⟩ : ∃ lo, at0 - t1 = lo := ⟨_, rfl⟩
    obtain ⟨hi, hhi⟩ : ∃ hi, at0 + t1 = hi := ⟨_, rfl⟩
    have hlb : -3298534883328 ≤ lo ∧ lo ≤ 3298534883328 := by omega
    have hhb : -3298534883328 ≤ hi ∧ hi ≤ 3298534883328 := by omega
    go_quiet (first | (go_at_call 25; with_reducible refine Calls.quiet_of_same (CB.out _)))
    go_wp2_with (go_at_call 14; ((with_reducible refine (read_m (pg_up (pg0 HV5.out) (by repeat' (first | (with_reducible exact Below.refl _ _) | (with_reducible assumption) | (with_reducible refine below_over ?_ _ _) | (with_reducible refine Lw.below_alloc ?_ _) | (with_reducible refine Below.drew ?_) | (with_reducible refine below_drewN ?_ _) | (with_reducible refine Below.setCell ?_ ?_ _) | go_size))) (RDX.out.up (by repeat' (first | (with_reducible exact Below.refl _ _) | (with_reducible assumption) | (with_reducible refine below_over ?_ _ _) | (with_reducible refine Lw.below_alloc ?_ _) | (with_reducible refine Below.drew ?_) | (with_reducible refine below_drewN ?_ _) | (with_reducible refine Below.setCell ?_ ?_ _) | go_size))) MX.out hmb.2 hnb.2).mono ?_); rintro e w6 ⟨A6, cap6, rfl, rd6, hc6, hm6, hb⟩; rw [HZ.out] at rd6; have RD6 := Lib.hid rd6; have HV6 := Lib.hid ((HV5.out.up (by repeat' (first | (with_reducible exact Below.refl _ _) | (with_reducible assumption) | (with_reducible refine below_over ?_ _ _) | (with_reducible refine Lw.below_alloc ?_ _) | (with_reducible refine Below.drew ?_) | (with_reducible refine below_drewN ?_ _) | (with_reducible refine Below.setCell ?_ ?_ _) | go_size))).up hb); have RDX6 := Lib.hid ((RDX.out.up (by repeat' (first | (with_reducible exact Below.refl _ _) | (with_reducible assumption) | (with_reducible refine below_over ?_ _ _) | (with_reducible refine Lw.below_alloc ?_ _) | (with_reducible refine Below.drew ?_) | (with_reducible refine below_drewN ?_ _) | (with_reducible refine Below.setCell ?_ ?_ _) | go_size))).up hb); clear rd6 hb))
    go_loop [16, 17] (fun s i => ∃ j : Nat, j ≤ m ∧ i = .int .i64 j ∧ s = .int .i64 (Ord.near (Z.take j) lo hi : Nat)) (fun _ i => m - (intOf i).toNat)
    case atStart => exact ⟨0, Nat.zero_le _, rfl, rfl⟩
    case round =>
      obtain ⟨j, hj, rfl, rfl⟩ := hrel
      have hnl := Ord.near_len Z lo hi j
      by_cases hlt : j < m
      · obtain ⟨v, hv⟩ : ∃ v, Z[j]? = some v := ⟨_, List.getElem?_eq_getElem (by rw [HZL.out]; exact hlt)⟩
        obtain ⟨ad6, rfl, hc⟩ := RD6.out j v hv
        have HNX := Lib.hid (Ord.near_next Z lo hi j v hv)
        obtain ⟨s0, hs0⟩ : ∃ s0, Ord.near (Z.take j) lo hi = s0 := ⟨_, rfl⟩
        rw [hs0] at HNX hnl ⊢
        clear hv hs0
        by_cases g1 : lo ≤ v
        · by_cases g2 : v ≤ hi
          · have e1 : Ord.near (Z.take (j + 1)) lo hi = s0 + 1 := by rw [HNX.out, if_pos ⟨g1, g2⟩]
            have E1 := Lib.hid e1
            clear e1 HNX
            go_wp2
            go_round
            case rel => exact ⟨j + 1, by omega, by go_num, by rw [E1.out]; rfl⟩
            case measure => simp [intOf]; omega
          · have e1 : Ord.near (Z.take (j + 1)) lo hi = s0 := by rw [HNX.out, if_neg (by omega)]; rfl
            have E1 := Lib.hid e1
            clear e1 HNX
            go_wp2
            go_round
            case rel => exact ⟨j + 1, by omega, by go_num, by rw [E1.out]⟩
            case measure => simp [intOf]; omega
        · have e1 : Ord.near (Z.take (j + 1)) lo hi = s0 := by rw [HNX.out, if_neg (by omega)]; rfl
          have E1 := Lib.hid e1
          clear e1 HNX
          go_wp2
          go_round
          case rel => exact ⟨j + 1, by omega, by go_num, by rw [E1.out]⟩
          case measure => simp [intOf]; omega
      · have e : j = m := by omega
        have e1 : Z.take j = Z := List.take_of_length_le (by rw [HZL.out]; omega)
        rw [e1] at hnl ⊢
        have hmed := fun h => Ord.near_median2 Z lo hi h
        rw [HZL.out] at hmed
        have hVV := HVV.out
        rw [HZL.out] at hVV
        rw [hVV] at hmed
        obtain ⟨M, hM⟩ : ∃ M, Ord.near Z lo hi = M := ⟨_, rfl⟩
        rw [hM] at hnl hmed ⊢
        subst e
        clear e1 hVV hM
        by_cases hmany : 2 * (M : Int) ≤ j
        · clear hmed
          go_wp2_with (go_at_call 16; (with_reducible refine (middle_m (pg0 HV6.out) RDX6.out MX.out hmb.2 hnb.2).mono ?_); rintro e w7 ⟨he, hb⟩; rw [HZ.out, HVV.out] at he; subst he; have HBW7 := Lib.hid (below_call HV6.out.below hb (Nat.le_refl _)); clear hb)
          go_ret
          exact ⟨rfl, HBW7.out⟩
        · obtain ⟨-, g1, g2⟩ := hmed (by omega)
          go_wp2_with (go_at_call 16; (with_reducible refine (middle_m (pg0 HV6.out) RDX6.out MX.out hmb.2 hnb.2).mono ?_); rintro e w7 ⟨he, hb⟩; rw [HZ.out, HVV.out] at he; subst he; have HBW7 := Lib.hid (below_call HV6.out.below hb (Nat.le_refl _)); clear hb)
          go_ret
          exact ⟨rfl, HBW7.out⟩
  · obtain ⟨lo, hlo⟩ : ∃ lo, at0 - (-t1) = lo := ⟨_, rfl⟩
    obtain ⟨hi, hhi⟩ : ∃ hi, at0 + (-t1) = hi := ⟨_, rfl⟩
    have hlb : -3298534883328 ≤ lo ∧ lo ≤ 3298534883328 := by omega
    have hhb : -3298534883328 ≤ hi ∧ hi ≤ 3298534883328 := by omega
    go_quiet (first | (go_at_call 25; with_reducible refine Calls.quiet_of_same (CB.out _)))
    go_wp2_with (go_at_call 14; ((with_reducible refine (read_m (pg_up (pg0 HV5.out) (by repeat' (first | (with_reducible exact Below.refl _ _) | (with_reducible assumption) | (with_reducible refine below_over ?_ _ _) | (with_reducible refine Lw.below_alloc ?_ _) | (with_reducible refine Below.drew ?_) | (with_reducible refine below_drewN ?_ _) | (with_reducible refine Below.setCell ?_ ?_ _) | go_size))) (RDX.out.up (by repeat' (first | (with_reducible exact Below.refl _ _) | (with_reducible assumption) | (with_reducible refine below_over ?_ _ _) | (with_reducible refine Lw.below_alloc ?_ _) | (with_reducible refine Below.drew ?_) | (with_reducible refine below_drewN ?_ _) | (with_reducible refine Below.setCell ?_ ?_ _) | go_size))) MX.out hmb.2 hnb.2).mono ?_); rintro e w6 ⟨A6, cap6, rfl, rd6, hc6, hm6, hb⟩; rw [HZ.out] at rd6; have RD6 := Lib.hid rd6; have HV6 := Lib.hid ((HV5.out.up (by repeat' (first | (with_reducible exact Below.refl _ _) | (with_reducible assumption) | (with_reducible refine below_over ?_ _ _) | (with_reducible refine Lw.below_alloc ?_ _) | (with_reducible refine Below.drew ?_) | (with_reducible refine below_drewN ?_ _) | (with_reducible refine Below.setCell ?_ ?_ _) | go_size))).up hb); have RDX6 := Lib.hid ((RDX.out.up (by repeat' (first | (with_reducible exact Below.refl _ _) | (with_reducible assumption) | (with_reducible refine below_over ?_ _ _) | (with_reducible refine Lw.below_alloc ?_ _) | (with_reducible refine Below.drew ?_) | (with_reducible refine below_drewN ?_ _) | (with_reducible refine Below.setCell ?_ ?_ _) | go_size))).up hb); clear rd6 hb))
    go_loop [16, 17] (fun s i => ∃ j : Nat, j ≤ m ∧ i = .int .i64 j ∧ s = .int .i64 (Ord.near (Z.take j) lo hi : Nat)) (fun _ i => m - (intOf i).toNat)
    case atStart => exact ⟨0, Nat.zero_le _, rfl, rfl⟩
    case round =>
      obtain ⟨j, hj, rfl, rfl⟩ := hrel
      have hnl := Ord.near_len Z lo hi j
      by_cases hlt : j < m
      · obtain ⟨v, hv⟩ : ∃ v, Z[j]? = some v := ⟨_, List.getElem?_eq_getElem (by rw [HZL.out]; exact hlt)⟩
        obtain ⟨ad6, rfl, hc⟩ := RD6.out j v hv
        have HNX := Lib.hid (Ord.near_next Z lo hi j v hv)
        obtain ⟨s0, hs0⟩ : ∃ s0, Ord.near (Z.take j) lo hi = s0 := ⟨_, rfl⟩
        rw [hs0] at HNX hnl ⊢
        clear hv hs0
        by_cases g1 : lo ≤ v
        · by_cases g2 : v ≤ hi
          · have e1 : Ord.near (Z.take (j + 1)) lo hi = s0 + 1 := by rw [HNX.out, if_pos ⟨g1, g2⟩]
            have E1 := Lib.hid e1
            clear e1 HNX
            go_wp2
            go_round
            case rel => exact ⟨j + 1, by omega, by go_num, by rw [E1.out]; rfl⟩
            case measure => simp [intOf]; omega
          · have e1 : Ord.near (Z.take (j + 1)) lo hi = s0 := by rw [HNX.out, if_neg (by omega)]; rfl
            have E1 := Lib.hid e1
            clear e1 HNX
            go_wp2
            go_round
            case rel => exact ⟨j + 1, by omega, by go_num, by rw [E1.out]⟩
            case measure => simp [intOf]; omega
        · have e1 : Ord.near (Z.take (j + 1)) lo hi = s0 := by rw [HNX.out, if_neg (by omega)]; rfl
          have E1 := Lib.hid e1
          clear e1 HNX
          go_wp2
          go_round
          case rel => exact ⟨j + 1, by omega, by go_num, by rw [E1.out]⟩
          case measure => simp [intOf]; omega
      · have e : j = m := by omega
        have e1 : Z.take j = Z := List.take_of_length_le (by rw [HZL.out]; omega)
        rw [e1] at hnl ⊢
        have hmed := fun h => Ord.near_median2 Z lo hi h
        rw [HZL.out] at hmed
        have hVV := HVV.out
        rw [HZL.out] at hVV
        rw [hVV] at hmed
        obtain ⟨M, hM⟩ : ∃ M, Ord.near Z lo hi = M := ⟨_, rfl⟩
        rw [hM] at hnl hmed ⊢
        subst e
        clear e1 hVV hM
        by_cases hmany : 2 * (M : Int) ≤ j
        · clear hmed
          go_wp2_with (go_at_call 16; (with_reducible refine (middle_m (pg0 HV6.out) RDX6.out MX.out hmb.2 hnb.2).mono ?_); rintro e w7 ⟨he, hb⟩; rw [HZ.out, HVV.out] at he; subst he; have HBW7 := Lib.hid (below_call HV6.out.below hb (Nat.le_refl _)); clear hb)
          go_ret
          exact ⟨rfl, HBW7.out⟩
        · obtain ⟨-, g1, g2⟩ := hmed (by omega)
          go_wp2_with (go_at_call 16; (with_reducible refine (middle_m (pg0 HV6.out) RDX6.out MX.out hmb.2 hnb.2).mono ?_); rintro e w7 ⟨he, hb⟩; rw [HZ.out, HVV.out] at he; subst he; have HBW7 := Lib.hid (below_call HV6.out.below hb (Nat.le_refl _)); clear hb)
          go_ret
          exact ⟨rfl, HBW7.out⟩
theorem middle_law (rows width : Int) (A : Option Addr) (n0 c0 : Nat) (qs : List StepV) (w : World) (A1 : Option Addr) (n1 c1 : Nat) (cs : List Int) (hA1 : A1 = none → n1 = 0 ∧ c1 = 0) (hn1 : n1 ≤ c1) (hc1 : c1 ≤ maxLen) (hr1 : Rd .i64 w A1 cs) (hl1 : cs.length = n1) (hz1 : In64 cs) (na nb : Int) (na0 : -9223372036854775808 ≤ na ∧ na ≤ 9223372036854775807) (nb0 : -9223372036854775808 ≤ nb ∧ nb ≤ 9223372036854775807) (hq : Steps w A n0 c0 qs) :
    Calls Try.prog 7 #[.agg #[.int .i64 rows, .int .i64 width, .slice A n0 c0], .slice A1 n1 c1, .agg #[.int .i64 na, .int .i64 nb]] w fun e w' => e = .returned (.bool true) ∧ Below w.heap.size w w' := by
  by_cases h0 : n0 = 0
  · exact middle_b rows width A n0 c0 qs w A1 n1 c1 cs hA1 hn1 hc1 hr1 hl1 hz1 na nb na0 nb0 hq h0
  · by_cases h2 : n0 % 2 = 0
    · exact middle_a rows width A n0 c0 qs w A1 n1 c1 cs hA1 hn1 hc1 hr1 hl1 hz1 na nb na0 nb0 hq ⟨by omega, h2⟩
    · exact middle_c rows width A n0 c0 qs w A1 n1 c1 cs hA1 hn1 hc1 hr1 hl1 hz1 na nb na0 nb0 hq ⟨by omega, by omega⟩
namespace linearMiddle
open Go.ChangeShapes Go.WideShapes Go.ChangeAt Go.Joins
set_option maxRecDepth 100000 in
theorem lifted (os : Os) (started : os.Started) (H : Type) (enc : TypeId × Value → H) :
    ReturnsInHanded {} Try.checked os 7 .any (Rows.linearMiddleSpec.pre6 enc Try.prog Try.f7 Rows.linearMiddleRow.domain false) (Rows.linearMiddleSpec.post enc Try.prog Try.f7 false true false false) := by
  refine Lw.lifted (C := Try.checked) (B := 4) (by kernel_rfl) os started (by kernel_rfl) Try.func7
    (ChangeSpec.witness6 (enc := enc) (C := Try.checked) false ⟨#[], #[.agg #[.int .i64 0, .int .i64 0, .slice none 0 0], .slice none 0 0, .agg #[.int .i64 0, .int .i64 0]], []⟩ 8 (by kernel_rfl) (by kernel_rfl) (by kernel_rfl) (by kernel_rfl)) rfl Try.underlying4 (by kernel_rfl) (by kernel_rfl) (by kernel_rfl) ?_ ?_
  · intro ds h
    rw [Try.params7] at h
    match ds, h with
    | [_, _, _], _ => rfl
  · intro W base args ds p hval hA
    rw [Try.params7] at hA hval
    obtain ⟨v0, vs0, d0, ds0, p0, q0, hargs, rfl, rfl, h0, r0⟩ := trodAll_cons hA
    obtain ⟨v1, vs1, d1, ds1, p1, q1, rfl, rfl, rfl, h1, r1⟩ := trodAll_cons r0
    obtain ⟨v2, vs2, d2, ds2, p2, q2, rfl, rfl, rfl, h2, r2⟩ := trodAll_cons r1
    obtain ⟨rfl, rfl, rfl⟩ := trodAll_nil r2
    obtain rfl : args = #[v0, v1, v2] := by cases args; simp_all
    obtain ⟨y0, u0, A0, n0, c0, qs0, rfl, rb0, ub0, hq0⟩ := open_play (hval 0 45 v0 rfl rfl) h0
    obtain ⟨A1, n1, c1, zs1, rfl, hA1, hn1, hc1, hr1, hl1, hz1⟩ := open_list_int (hval 1 28 v1 rfl rfl) h1
    obtain ⟨x2_0, x2_1, rfl, z2_0, z2_1⟩ := open_arr2_int64 (hval 2 57 v2 rfl rfl) h2
    exact middle_law y0 u0 A0 n0 c0 qs0 W A1 n1 c1 zs1 hA1 hn1 hc1 hr1 hl1 hz1 x2_0 x2_1 z2_0 z2_1 hq0
theorem over : Rows.linearMiddleRow.holds Try.pinned (OpenSpec.ofChange Rows.linearMiddleSpec) :=
  OpenClaim.holds_of_wide 7 Try.f7 rfl rfl rfl rfl rfl rfl rfl ⟨rfl, rfl, rfl, rfl, rfl⟩ rfl rfl rfl rfl rfl (by kernel_rfl) Try.func7 (by kernel_rfl)
    (of_decide_eq_true (by kernel_rfl)) (by unfold Func.isWrapper; first | (rw [if_pos (by decide +kernel)]; kernel_rfl) | (rw [if_neg (by decide +kernel)]; exact ⟨rfl, rfl⟩))
    (fun os started H enc _ => lifted os started H enc)
theorem proved : Rows.LinearMiddleSaid :=
  over
#print axioms proved
end linearMiddle
end Go.Proofs.Ytmneihdkkmgbkaa.Lin
