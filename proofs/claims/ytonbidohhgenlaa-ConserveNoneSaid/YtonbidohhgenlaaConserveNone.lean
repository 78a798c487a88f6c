/- The statement ConserveNone of layer 9 holds. Printed by wip/gen/con*.py. -/
import Derived.Test.YtonbidohhgenlaaConBoth
import Derived.Test.YtonbidohhgenlaaLaw
import Derived.Deep.LoopGhost
import Derived.Deep.RegionHeld3
import Derived.Deep.QuietTactic
import Derived.BigQuiet
namespace Go.Proofs.Ytonbidohhgenlaa.Con
open Go Go.RowKit Lw Grd Lin
set_option linter.unusedVariables false
set_option linter.unusedSimpArgs false
theorem lst_int_c : Try.prog.cellsOf 3 = 1 := by kernel_rfl
set_option maxRecDepth 100000 in
theorem open_list_int {H : Type} {enc : TypeId × Value → H} {W : World} {v : Value} {d : DataW H} {p : List MemPlace} {base : Nat} (hv : Value.okWide Try.prog W .any base 30 v)
    (h : DataW.Trod enc Try.prog W 0 (fun _ => true) true 30 v d p) :
    ∃ (A : Option Addr) (n cap : Nat) (zs : List Int), v = .slice A n cap ∧ (A = none → n = 0 ∧ cap = 0) ∧ n ≤ cap ∧ cap ≤ maxLen ∧ Rd .i64 W A zs ∧ zs.length = n ∧ (∀ v ∈ zs, -9223372036854775808 ≤ v ∧ v ≤ 9223372036854775807) := by
  obtain ⟨a0, len, cap, rfl⟩ := Go.WideShapes.okWide_slice Try.underlying30 hv
  obtain ⟨fuel, hf⟩ := h
  rcases Go.ChangeShapes.open_ints Try.underlying30 Try.underlying3 lst_int_c hf with ⟨hcs, _⟩ | ⟨a, len', cap', zs, hcs, _, hl, hm, hz, _, hcell, hwz⟩
  · simp [Value.cells] at hcs
    obtain ⟨rfl, rfl, rfl⟩ := hcs
    exact ⟨none, 0, 0, [], rfl, fun _ => ⟨rfl, rfl⟩, Nat.le_refl _, by simp, rd_nil _ _ _, rfl, fun v h => by simp at h⟩
  · simp [Value.cells] at hcs
    obtain ⟨rfl, rfl, rfl⟩ := hcs
    have hz2 : zs.length = cap := by simpa using hz
    refine ⟨some a, len, cap, zs.take len, rfl, (fun h => by cases h), hl, hm, ?_, by simp; omega, ?_⟩
    · intro k v hk
      rw [List.getElem?_take] at hk
      split at hk
      · refine ⟨a, rfl, ?_⟩
        rw [hcell k (by omega)]
        simp [hk]
      · cases hk
    · intro v hv
      exact Lw.wf_i64 (hwz v (List.mem_of_mem_take hv))
theorem own_row2 {w : World} {B : Nat} {e : TypeId} {A : Addr} {n cap : Nat} {zs : List Int} (h : w.ownsRow B e 1 (.slice (some A) n cap) n (zs.map (Value.int .i64))) : Row1 w (some A) zs ∧ ∀ k, (rowT (some A) zs).F k → B ≤ k := by
  obtain ⟨g, rfl, hg, hm⟩ := Ord.mid_own h
  refine ⟨mid_row hm, ?_⟩
  rintro k ⟨a, ha, rfl⟩
  injection ha with ha
  subst ha
  exact hg
theorem box_set {w : World} {b : Nat} {e : TypeId} {vs : Array Value} (h : (boxT b e vs).I w) (i : Nat) (v : Value) : (boxT b e (vs.setIfInBounds i v)).I (w.setCell ⟨b, i, none⟩ v) := by
  have h1 : w.heap[b]? = some (.cells vs e (0, 0)) := h
  show (w.setCell ⟨b, i, none⟩ v).heap[b]? = _
  simp [World.setCell, Array.getElem?_modify, h1]
theorem box_frozen {w : World} {b : Nat} {e : TypeId} {vs : Array Value} (h : (boxT b e vs).I w) (i : Nat) : w.frozen? ⟨b, i, none⟩ = false := by
  have h1 : w.heap[b]? = some (.cells vs e (0, 0)) := h
  simp [World.frozen?, h1]
theorem box_set0 {w0 w : World} {b : Nat} {e : TypeId} {v0 v1 v2 : Value} {ts : List Thing} (h : Have w0 w (boxT b e #[v0, v1, v2] :: ts)) (v : Value) : Have w0 (w.setCell ⟨b, 0, none⟩ v) (boxT b e #[v, v1, v2] :: ts) :=
  h.turn_0 (boxT b e #[v, v1, v2]) (box_set h.i0 0 v) ((Kept.refl (boxT b e #[v0, v1, v2]).F w).set (g := b) (.inl rfl) 0 v) (fun k hk => .inl hk)
theorem cut1_any (A : Option Addr) (N cap : Nat) (cols : List Int) (n : Nat) (w : World) (hc : Rd .i64 w A cols) (hl : cols.length = N) (hN : N ≤ maxLen) (h1 : 1 ≤ n) (h2 : n ≤ 65536) :
    Calls Try.prog 18 #[.slice A N cap, .int .i64 1, .int .i64 n] w fun e w' => ∃ (A2 : Addr) (cap2 : Nat), e = .returned (.slice (some A2) 1 cap2) ∧ w'.ownsRow w.heap.size 3 1 (.slice (some A2) 1 cap2) 1 ((cutOf cols 1 n).map (Value.int .i64)) ∧ Rd .i64 w' (some A2) (cutOf cols 1 n) ∧ 1 ≤ cap2 ∧ cap2 ≤ maxLen ∧ Below w.heap.size w w' :=
  rcut_any A N cap cols 1 n w hc hl hN (by omega) h1 h2
theorem raise_4 {w0 w : World} {p : Addr} {F : Nat → Prop} {m n : Nat} {L : List (List Int)} {A : Addr} {K cap : Nat} {cols : List Int} {t1 t2 t3 : Thing} {ts : List Thing} (h : Have w0 w (rowT (some A) cols :: t1 :: t2 :: t3 :: pgT p F m n L :: ts)) (hl : cols.length = K) (hK : K ≤ 1000) (hz : In64 cols) (d : Int) (d0 : -9223372036854775808 ≤ d) (d1 : d ≤ 9223372036854775807) {c : Int} {L2 : List (List Int)} (hc : rsCode m n L cols d = c ∧ rsRes m n L cols d = L2) :
    Calls Try.prog 11 #[.pointer (some p), .slice (some A) K cap, .int .i64 d] w fun e w' => e = .returned (.int .i64 c) ∧ ∃ F', Have w0 w' (rowT (some A) cols :: t1 :: t2 :: t3 :: pgT p F' m n L2 :: ts) := by
  obtain ⟨rfl, rfl⟩ := hc
  refine (raise_any p F m n L (some A) K cap cols d w (pgI h.i4) (rowI h.i0) (fun a ha hf => h.ap04 a.block ⟨a, ha, rfl⟩ hf) hl hK hz d0 d1).mono fun e w' ⟨he, F', hnp, hnk, hnf⟩ => ?_
  exact ⟨he, F', h.turn_4 (pgT p F' m n _) hnp hnk hnf⟩
set_option maxRecDepth 100000 in
set_option maxHeartbeats 4000000 in
theorem none_law (rows width : Int) (A : Option Addr) (n0 c0 : Nat) (qs : List StepV) (w : World) (A1 : Option Addr) (n1 c1 : Nat) (cs : List Int) (hA1 : A1 = none → n1 = 0 ∧ c1 = 0) (hn1 : n1 ≤ c1) (hc1 : c1 ≤ maxLen) (hr1 : Rd .i64 w A1 cs) (hl1 : cs.length = n1) (hz1 : In64 cs) (hq : Lin.Steps w A n0 c0 qs) :
    Calls Try.prog 7 #[.agg #[.int .i64 rows, .int .i64 width, .slice A n0 c0], .slice A1 n1 c1] w fun e w' => e = .returned (.bool true) ∧ Below w.heap.size w w' := by
  obtain ⟨n, hn⟩ : ∃ n, widthOf width = n := ⟨_, rfl⟩
  have hm : rowsOf 0 = 1 := by decide
  have hnb := width_bd width
  rw [hn] at hnb
  have HQ := Lib.hid hq
  have HR1 := Lib.hid hr1
  have hok := opsK_ok 60 0 60 (m := 1) (n := n) qs (by omega) hnb.1
  have D1 := Lib.hid (fun w hq => both_any 0 width A n0 c0 qs 1 n 0 60 0 60 w hm hn hq rfl rfl (by omega) (by omega))
  rw [opsB_K, one_row hok.1 hok.2 (sz_zeros 1 n)] at D1
  obtain ⟨L, hL⟩ : ∃ L, chAll (zerosL 1 n) (opsK 60 0 60 1 n qs) = L := ⟨_, rfl⟩
  have hsz : Sz 1 n L := by rw [← hL]; exact chAll_sz (sz_zeros 1 n) hok.1
  have hw : Within 65970697666560 L := by rw [← hL]; exact (rose_dims hok.1 hok.2 (opsK_len _ _ _ _ _ _)).1
  have hdm : Dims 1 n L := dims_of hsz hw (by omega) (by omega) (by omega)
  have HFL : Hid (L.flatten.length = n) := Lib.hid (by rw [flat_dims hdm, Nat.one_mul])
  have hmc : Meets 1 n (cutOf cs 1 n) := cut_meets cs (by omega) hnb.1
  have hz := zero_row hsz hmc
  have hl0 := lea_in (cols := cutOf cs 1 n) hdm
  have HST := Lib.hid (rs_yes (L := L) (d := 0) hmc (Int.le_refl _) (Wid.fit64_yes (by omega) (by omega)).1)
  rw [hz] at HST
  rw [hL] at D1
  have CS := Lib.hid (fun w => sized_any 0 width A n0 c0 w)
  rw [hm, hn] at CS
  have HBX : Hid (Have w (w.alloc (.cells #[.int .i64 rows, .int .i64 width, .slice A n0 c0] 24)) [boxT w.heap.size 24 #[.int .i64 rows, .int .i64 width, .slice A n0 c0]]) := Lib.hid (box_new w _ _)
  clear hm hn hL hr1 hq hok hsz hw hdm hmc hz hl0
  go_enter Try.func7, Try.ntmps7
  go_wp2_with (first
    | (go_at_call 13; (with_reducible refine (same_yes Aa A7 n capa cap7 L.flatten _ Ra.out (rowI HVa.out.i1) HFL.out (by omega)).mono ?_); rintro e wb ⟨rfl, hb⟩; have HVb := Lib.hid (HVa.out.up hb); clear hb)
    | (go_at_call 14; (with_reducible refine (cells_q p F9 1 n n L _ G19.out (Nat.one_mul n)).mono ?_); rintro e wa ⟨Aa, capa, rfl, hra, hca, hda, hna, hb⟩; have HVa := Lib.hid (HV9.out.up hb); have Ra := Lib.hid (Row1.rd hra); clear hra hna hb)
    | (go_at_call 11; (with_reducible refine (raise_4 HV8.out (cut_len _ _ _) (by omega) (cutrow_in hnb.1 (by omega)) 0 (by omega) (by omega) HST.out).mono ?_); rintro e w9 ⟨rfl, F9, hv9⟩; have HV9 := Lib.hid hv9; have G19 := Lib.hid (pgI HV9.out.i4); clear hv9)
    | (go_at_call 18; (with_reducible refine (cut1_any A1 n1 c1 cs n _ (HR1.out.up HBW7.out) hl1 (Nat.le_trans hn1 hc1) (by omega) (by omega)).mono ?_); rintro e w8 ⟨A8, cap8, rfl, own8, rd8, hc8, hm8, hb8⟩; have HV8 := Lib.hid (HV7.out.push (rowT (some A8) (cutOf cs 1 n)) hb8 (own_row2 own8).1 (own_row2 own8).2); clear own8 rd8 hb8)
    | (go_at_call 14; (with_reducible refine (cells_q p F 1 n n L _ G16.out (Nat.one_mul n)).mono ?_); rintro e w7 ⟨A7, cap7, rfl, hr7, hc7, hd7, hn7, hb⟩; have HV7 := Lib.hid (HV6.out.push (rowT A7 L.flatten) hb hr7 (fun k hk => by obtain ⟨a, ha, rfl⟩ := hk; exact hn7 a ha)); have HBW7 := Lib.hid HV7.out.below; clear hr7 hn7 hb)
    | (go_at_call 13; (with_reducible refine (same_yes A4 A5 n cap4 cap5 L.flatten _ R45.out R5.out HFL.out (by omega)).mono ?_); rintro e w6 ⟨rfl, hb⟩; have HV6 := Lib.hid (HV5.out.up hb); have G16 := Lib.hid (pgI HV6.out.i2); clear hb)
    | (go_at_call 14; (with_reducible refine (cells_q p2 F2 1 n n L _ G24.out (Nat.one_mul n)).mono ?_); rintro e w5 ⟨A5, cap5, rfl, hr5, hc5, hd5, hn5, hb⟩; have HV5 := Lib.hid (HV4.out.up hb); have R5 := Lib.hid (Row1.rd hr5); have R45 := Lib.hid (R4.out.up hb); clear hr5 hn5 hb)
    | (go_at_call 14; (with_reducible refine (cells_q p F 1 n n L _ G1.out (Nat.one_mul n)).mono ?_); rintro e w4 ⟨A4, cap4, rfl, hr4, hc4, hd4, hn4, hb⟩; have HV4 := Lib.hid (HV3.out.up hb); have R4 := Lib.hid (Row1.rd hr4); have G24 := Lib.hid (pgI HV4.out.i0); clear hr4 hn4 hb)
    | (go_at_call 17; (with_reducible refine (D1.out _ (HQ.out.up HBW2.out)).mono ?_); rintro e w3 ⟨p, p2, F, F2, hdr, R, rfl, hv, hR⟩; have HV3 := Lib.hid (HV2.out.join hv); simp only [List.cons_append, List.nil_append] at HV3; have G1 := Lib.hid (pgI HV3.out.i2); have G2 := Lib.hid (pgI HV3.out.i0); clear hv hR k0 k1 k2)
    | (go_at_call 16; (with_reducible refine (CS.out _).mono ?_); rintro e w2 ⟨rfl, hb⟩; have HV2 := Lib.hid (HVS.out.up hb); clear k0 k1 k2; obtain ⟨k0, k1, k2⟩ := box3 HV2.out.i0; have HBW2 := Lib.hid HV2.out.below; clear hb)
    | (go_at_call 8; (with_reducible refine (shown_any _).mono ?_); rintro e w1 ⟨rfl, hb⟩; have HV1 := Lib.hid (HBX.out.up hb); have fz := box_frozen HV1.out.i0 0; have kz := (box3 HV1.out.i0).1; have HVS := Lib.hid (box_set0 HV1.out (.int .i64 0)); obtain ⟨k0, k1, k2⟩ := box3 HVS.out.i0; clear hb))
  go_ret
  exact ⟨rfl, HVb.out.below⟩
namespace conserveNone
open Go.ChangeShapes Go.WideShapes Go.ChangeAt Go.Joins
set_option maxRecDepth 100000 in
theorem lifted (os : Os) (started : os.Started) (H : Type) (enc : TypeId × Value → H) :
    ReturnsInHanded {} Try.checked os 7 .any (Rows.conserveNoneSpec.pre6 enc Try.prog Try.f7 Rows.conserveNoneRow.domain false) (Rows.conserveNoneSpec.post enc Try.prog Try.f7 false true false false) := by
  refine Lw.lifted (C := Try.checked) (B := 4) (by kernel_rfl) os started (by kernel_rfl) Try.func7
    (ChangeSpec.witness6 (enc := enc) (C := Try.checked) false ⟨#[], #[.agg #[.int .i64 0, .int .i64 0, .slice none 0 0], .slice none 0 0], []⟩ 8 (by kernel_rfl) (by kernel_rfl) (by kernel_rfl) (by kernel_rfl)) rfl Try.underlying4 (by kernel_rfl) (by kernel_rfl) (by kernel_rfl) ?_ ?_
  · intro ds h
    rw [Try.params7] at h
    match ds, h with
    | [_, _], _ => rfl
  · intro W base args ds p hval hA
    rw [Try.params7] at hA hval
    obtain ⟨v0, vs0, d0, ds0, p0, q0, hargs, rfl, rfl, h0, r0⟩ := trodAll_cons hA
    obtain ⟨v1, vs1, d1, ds1, p1, q1, rfl, rfl, rfl, h1, r1⟩ := trodAll_cons r0
    obtain ⟨rfl, rfl, rfl⟩ := trodAll_nil r1
    obtain rfl : args = #[v0, v1] := by cases args; simp_all
    obtain ⟨y0, u0, A0, n0, c0, qs0, rfl, rb0, ub0, hq0⟩ := open_play (hval 0 24 v0 rfl rfl) h0
    obtain ⟨A1, n1, c1, zs1, rfl, hA1, hn1, hc1, hr1, hl1, hz1⟩ := open_list_int (hval 1 30 v1 rfl rfl) h1
    exact none_law y0 u0 A0 n0 c0 qs0 W A1 n1 c1 zs1 hA1 hn1 hc1 hr1 hl1 hz1 hq0
theorem over : Rows.conserveNoneRow.holds Try.pinned (OpenSpec.ofChange Rows.conserveNoneSpec) :=
  OpenClaim.holds_of_wide 7 Try.f7 rfl rfl rfl rfl rfl rfl rfl ⟨rfl, rfl, rfl, rfl, rfl⟩ rfl rfl rfl rfl rfl (by kernel_rfl) Try.func7 (by kernel_rfl)
    (of_decide_eq_true (by kernel_rfl)) (by unfold Func.isWrapper; first | (rw [if_pos (by decide +kernel)]; kernel_rfl) | (rw [if_neg (by decide +kernel)]; exact ⟨rfl, rfl⟩))
    (fun os started H enc _ => lifted os started H enc)
theorem proved : Rows.ConserveNoneSaid :=
  over
#print axioms proved
end conserveNone
end Go.Proofs.Ytonbidohhgenlaa.Con
