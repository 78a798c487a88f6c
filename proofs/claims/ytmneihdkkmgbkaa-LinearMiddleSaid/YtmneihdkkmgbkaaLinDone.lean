/- done of layer 8's laws: a grid that many changes were made to, and their columns. Printed by wip/gen/lindone.py. -/
import Derived.Test.YtmneihdkkmgbkaaLinLawA
import Derived.Test.YtmneihdkkmgbkaaLinMath
import Derived.Test.YtmneihdkkmgbkaaRows2
import Derived.Deep.LoopGhost
import Derived.Deep.RegionHeld3
import Derived.Deep.QuietTactic
import Derived.BigQuiet
namespace Go.Proofs.Ytmneihdkkmgbkaa.Lin
open Go Go.RowKit Lw Grd
set_option linter.unusedVariables false
set_option linter.unusedSimpArgs false
structure Steps (w : World) (A : Option Addr) (n c : Nat) (qs : List StepV) : Prop where
  nil : A = none → n = 0 ∧ c = 0
  nc : n ≤ c
  cm : c ≤ maxLen
  len : qs.length = n
  each : ∀ (i : Nat) q, qs[i]? = some q → q.In w ∧ ∃ a, A = some a ∧ w.cell? (a.add (i * 2)) = some (.slice q.A q.n q.c) ∧ w.cell? (a.add (i * 2 + 1)) = some (.int .i64 q.d)
theorem StepV.In.up {q : StepV} {w w' : World} (h : q.In w) (hb : Below w.heap.size w w') : q.In w' := ⟨h.nil, h.nc, h.cm, h.rd.up hb, h.len, h.zb, h.db⟩
theorem Steps.up {w w' : World} {A : Option Addr} {n c : Nat} {qs : List StepV} (h : Steps w A n c qs) (hb : Below w.heap.size w w') : Steps w' A n c qs :=
  ⟨h.nil, h.nc, h.cm, h.len, fun i q hq => by
    obtain ⟨h1, a, e, h2, h3⟩ := h.each i q hq
    exact ⟨h1.up hb, a, e, cell_up h2 hb, cell_up h3 hb⟩⟩
theorem Steps.at {w : World} {A : Option Addr} {n c : Nat} {qs : List StepV} (h : Steps w A n c qs) {i : Nat} {q : StepV} (hq : qs[i]? = some q) : ∃ (a : Addr) (g o : Nat), A = some a ∧ a.add (i * 2) = ⟨g, o, none⟩ ∧ w.cell? ⟨g, o, none⟩ = some (.slice q.A q.n q.c) ∧ w.cell? ⟨g, o + 1, none⟩ = some (.int .i64 q.d) ∧ q.In w := by
  obtain ⟨hin, a, e, h1, h2⟩ := h.each i q hq
  rw [← add_add'] at h2
  have hs : (a.add (i * 2)).spot = none := by
    unfold World.cell? at h1
    split at h1
    · split at h1
      · cases h1
      · rename_i hs; simpa using hs
    · cases h1
  obtain ⟨ad, had⟩ : ∃ ad, a.add (i * 2) = ad := ⟨_, rfl⟩
  rw [had] at h1 h2 hs
  obtain ⟨g, o, sp⟩ := ad
  simp only at hs
  subst hs
  rw [Ord.add_at] at h2
  exact ⟨a, g, o, e, had, h1, h2, hin⟩
/-- A number cut to a small one; plain: as far from 0, above it. -/
def dv (plain : Bool) (d : Int) : Int := if plain = true then (if 0 ≤ Int.tmod d 1099511627776 then Int.tmod d 1099511627776 else -Int.tmod d 1099511627776) else Int.tmod d 1099511627776
theorem tmod_bd (d : Int) : -1099511627776 < Int.tmod d 1099511627776 ∧ Int.tmod d 1099511627776 < 1099511627776 := by
  have h1 := Int.tmod_lt_of_pos d (show (0 : Int) < 1099511627776 by omega)
  have h3 := Int.tmod_lt_of_pos (-d) (show (0 : Int) < 1099511627776 by omega)
  rw [Int.neg_tmod] at h3
  omega
theorem dv_bd (plain : Bool) (d : Int) : -1099511627776 ≤ dv plain d ∧ dv plain d ≤ 1099511627776 := by
  have := tmod_bd d
  unfold dv
  split
  · split <;> omega
  · omega
theorem dv_plain (d : Int) : 0 ≤ dv true d := by
  unfold dv
  rw [if_pos rfl]
  split <;> omega
def idx (turned : Bool) (N k : Nat) : Nat := if turned = true then N - 1 - k else k
def opsOf (turned plain : Bool) (m n : Nat) (qs : List StepV) : Ops := (if turned = true then (qs.take 60).reverse else qs.take 60).map (fun q => (cutOf q.zs m n, dv plain q.d))
theorem ops_len (turned plain : Bool) (m n : Nat) (qs : List StepV) : (opsOf turned plain m n qs).length = min 60 qs.length := by
  unfold opsOf
  cases turned <;> simp
theorem ops_get (turned plain : Bool) (m n : Nat) (qs : List StepV) {N k : Nat} (hN : N = min 60 qs.length) (hk : k < N) {q : StepV} (hq : qs[idx turned N k]? = some q) : (opsOf turned plain m n qs)[k]? = some (cutOf q.zs m n, dv plain q.d) := by
  have hl : (qs.take 60).length = N := by rw [List.length_take, hN]
  unfold opsOf
  rw [List.getElem?_map]
  cases turned with
  | false =>
    unfold idx at hq
    rw [if_neg (by decide)] at hq ⊢
    rw [List.getElem?_take, if_pos (by omega), hq]
    rfl
  | true =>
    unfold idx at hq
    rw [if_pos rfl] at hq ⊢
    rw [List.getElem?_reverse (by omega), hl, List.getElem?_take, if_pos (by omega), hq]
    rfl
theorem cut_meets (cols : List Int) {m n : Nat} (hm : 1 ≤ m) (hn : 1 ≤ n) : Meets m n (cutOf cols m n) := ⟨hm, cut_len _ _ _, cut_in _ _ _ hn⟩
theorem ops_ok (turned plain : Bool) {m n : Nat} (qs : List StepV) (hm : 1 ≤ m) (hn : 1 ≤ n) : OpsOk m n 1099511627776 (opsOf turned plain m n qs) := by
  intro o ho
  unfold opsOf at ho
  obtain ⟨q, _, rfl⟩ := List.mem_map.1 ho
  exact ⟨cut_meets _ hm hn, dv_bd _ _⟩
theorem ops_turned (plain : Bool) (m n : Nat) (qs : List StepV) : opsOf true plain m n qs = (opsOf false plain m n qs).reverse := by
  unfold opsOf
  simp
/-- What is left of a change, in the midst of all. -/
theorem step_ok {m n : Nat} {ops : Ops} (h : OpsOk m n 1099511627776 ops) (hl : ops.length ≤ 60) (m8 : m ≤ 8) (n128 : n ≤ 128) {k : Nat} {o : List Int × Int} (ho : ops[k]? = some o) :
    chCode m n (chAll (zerosL m n) (ops.take k)) o.1 o.2 = 0 ∧ chRes m n (chAll (zerosL m n) (ops.take k)) o.1 o.2 = chAll (zerosL m n) (ops.take (k + 1)) := by
  have hw := chAll_within (c := 1099511627776) (by omega) (b := 0) (Int.le_refl _) (within_zeros m n) (opsok_take h k)
  have hk : (ops.take k).length ≤ 60 := by rw [List.length_take]; omega
  have ho2 := h o (List.mem_of_getElem? ho)
  have hf := fits_within (cols := o.1) (d := o.2) (within_mono hw (c := 65970697666560) (by omega)) (by omega) ho2.2 (by omega)
  have := ch_ok ho2.1 hf
  rw [chAll_next _ _ _ _ ho]
  exact this
theorem cutrow_in {cols : List Int} {m n : Nat} (hn : 1 ≤ n) (hn2 : n ≤ 65536) : In64 (cutOf cols m n) := fun v hv => by
  have := cut_in cols m n hn v hv
  omega
theorem ints_info : (Try.prog.info? 28).map (fun i => (i.zero, i.size, i.bytes)) = some (some (.slice none 0 0), 1, 24) := by kernel_rfl
theorem intss_u : Try.prog.underlying 48 = some (.slice 28) := by kernel_rfl
theorem own_block {w : World} {base : Nat} {e : TypeId} {A : Addr} {n cap : Nat} {xs : List Value} (h : w.ownsRow base e 1 (.slice (some A) n cap) n xs) : ∃ g, A = ⟨g, 0, none⟩ ∧ base ≤ g ∧ g < w.heap.size := by
  have hl := fun g hg => own_lt h (g := g) hg
  rcases h.2 with ⟨h3, _⟩ | ⟨g, cap2, cur, h3, hbase, hh, _⟩
  · cases h3
  · injection h3 with h3 h4 h5
    injection h3 with h3
    subst h3
    exact ⟨g, rfl, hbase, hl g rfl⟩
theorem hdr_apart {w0 w : World} {t : Thing} {B : Nat} {eo : TypeId} {hdr : Value} {R : List Row} {ts : List Thing} {A : Addr} {N : Nat} (h : Have w0 w (t :: rrT B eo hdr R :: ts)) (hA : ∃ g, A = ⟨g, 0, none⟩ ∧ w.heap.size ≤ g ∧ g < N) : ∀ a, some A = some a → ¬ hdr.ownBlock = some a.block := by
  intro a ha e
  injection ha with ha
  subst ha
  obtain ⟨g, rfl, h1, _⟩ := hA
  have := own_lt (rr_of h).outer e
  simp only at this
  omega
theorem pg_apart {w0 w : World} {p : Addr} {F : Nat → Prop} {m n : Nat} {L : List (List Int)} {ts : List Thing} {A : Addr} {N : Nat} (h : Have w0 w (pgT p F m n L :: ts)) (hA : ∃ g, A = ⟨g, 0, none⟩ ∧ w.heap.size ≤ g ∧ g < N) : ∀ a, some A = some a → ¬ F a.block := by
  intro a ha e
  injection ha with ha
  subst ha
  obtain ⟨g, rfl, h1, _⟩ := hA
  have := (pgT p F m n L).lt w h.1 _ e
  simp only at this
  omega
theorem done_start {w w' : World} {p : Addr} {F : Nat → Prop} {m n : Nat} {L : List (List Int)} {t : Thing} {B : Nat} {eo : TypeId} (h : Have w w' [pgT p F m n L, t]) : Have w w' [pgT p F m n L, rrT B eo (.slice none 0 0) [], t] := by
  have no : ∀ k, ¬ RRF (.slice none 0 0) [] k := fun k h2 => by
    rcases h2 with h2 | ⟨r, hr, _⟩
    · simp [Value.ownBlock] at h2
    · simp at hr
  refine ⟨h.1, h.2.1, fun u hu k h1 h2 => ?_, rr_start w' B eo, fun k h2 => (no k h2).elim, fun u hu k h2 => (no k h2).elim, h.2.2.2⟩
  simp only [List.mem_cons, List.not_mem_nil, or_false] at hu
  rcases hu with rfl | rfl
  · exact no k h2
  · exact h.2.2.1 _ (by simp) k h1 h2
set_option maxRecDepth 100000 in
set_option maxHeartbeats 4000000 in
theorem done_ff (rows width : Int) (A : Option Addr) (n0 c0 : Nat) (qs : List StepV) (m n : Nat) (w : World) (hm : rowsOf rows = m) (hn : widthOf width = n) (hq : Steps w A n0 c0 qs) :
    Calls Try.prog 24 #[.agg #[.int .i64 rows, .int .i64 width, .slice A n0 c0], .bool false, .bool false] w fun e w' => ∃ (p : Addr) (F : Nat → Prop) (hdr : Value) (R : List Row), e = .returned (.tuple #[.pointer (some p), hdr]) ∧ Have w w' [pgT p F m n (chAll (zerosL m n) (opsOf false false m n qs)), rrT w.heap.size 28 hdr R] ∧ nums R = (qs.take 60).map (fun q => cutOf q.zs m n) := by
  obtain ⟨j0, hj, hj0, hj1, hj2⟩ := info_parts ints_info
  have hmb := rows_bd rows
  have hnb := width_bd width
  have CS := Lib.hid (fun w => sized_any rows width A n0 c0 w)
  rw [hm] at hmb CS
  rw [hn] at hnb CS
  clear hm hn
  have e8 : cl (m : Int) 8 = m := by unfold cl; omega
  have e128 : cl (n : Int) 128 = n := by unfold cl; omega
  have CN := Lib.hid (fun w => new_mn m n m n w e8 e128 (by omega) (by omega) (by omega) (by omega))
  have HQ := Lib.hid hq
  have hnc := hq.nc
  have hcm := hq.cm
  unfold maxLen at hcm
  have HL := Lib.hid hq.len
  have HOK : Hid (OpsOk m n 1099511627776 (opsOf false false m n qs)) := Lib.hid (ops_ok _ _ qs hmb.1 hnb.1)
  have HOL : Hid ((opsOf false false m n qs).length = min 60 n0) := Lib.hid (by rw [ops_len, hq.len])
  have HBX : Hid (Have w (w.alloc (.cells #[.int .i64 rows, .int .i64 width, .slice A n0 c0] 45)) [boxT w.heap.size 45 #[.int .i64 rows, .int .i64 width, .slice A n0 c0]]) := Lib.hid (box_new w _ _)
  clear hq e8 e128
  by_cases h60 : n0 ≤ 60
  · go_enter Try.func24, Try.ntmps24
    go_wp2_with (first
      | (go_at_call 10; (with_reducible refine (CN.out _).mono ?_); rintro e w' ⟨p, F0, rfl, hnp, hnf, hnb4⟩; have HV2 := Lib.hid (HV1.out.push (pgT p F0 m n (zerosL m n)) hnb4 hnp hnf); have hcb := box_cell HV2.out.2.2.2.1 (i := 2) (v := .slice A n0 c0) rfl; clear hnp hnf hnb4)
      | (go_at_call 23; (with_reducible refine (CS.out _).mono ?_); rintro e w' ⟨rfl, hb⟩; have HV1 := Lib.hid (HBX.out.up hb); clear hb))
    clear hcb
    have HOL2 : Hid (n0 = min 60 qs.length) := Lib.hid (by rw [HL.out]; omega)
    go_loopw [11, 13] (fun all i wr => ∃ (k : Nat) (F : Nat → Prop) (hdr : Value) (R : List Row), k ≤ n0 ∧ i = .int .i64 k ∧ hdr = all ∧ Have w wr [pgT p F m n (chAll (zerosL m n) ((opsOf false false m n qs).take k)), rrT w.heap.size 28 hdr R, boxT w.heap.size 45 #[.int .i64 rows, .int .i64 width, .slice A n0 c0]] ∧ nums R = (qs.take k).map (fun q => cutOf q.zs m n)) (fun _ i _ => n0 - (intOf i).toNat)
    case atStart => exact ⟨0, F0, .slice none 0 0, [], Nat.zero_le _, rfl, rfl, done_start HV2.out, rfl⟩
    case round =>
      obtain ⟨k, F, hdr, R, hk, rfl, rfl, hhv, hR⟩ := hrel
      have HV3 := Lib.hid hhv
      have HR := Lib.hid hR
      have hRl : R.length = k := by
        have := congrArg List.length hR
        rw [nums_len, List.length_map, List.length_take, HL.out] at this
        omega
      clear hhv hR
      by_cases hlt : k < n0
      · have cb := box_cell HV3.out.2.2.2.2.2.2.1 (i := 2) (v := .slice A n0 c0) rfl
        have hwb := HV3.out.below
        obtain ⟨q1, hq1⟩ : ∃ q1, qs[k]? = some q1 := ⟨_, List.getElem?_eq_getElem (by rw [HL.out]; omega)⟩
        have hop := ops_get false false m n qs HOL2.out hlt (q := q1) (by unfold idx; rw [if_neg (by decide)]; exact hq1)
        have hq2b := hq1
        have HST := Lib.hid (step_ok HOK.out (by rw [HOL.out]; omega) (by omega) (by omega) hop)
        simp only at HST
        obtain ⟨a, g, o, rfl, hadd, c1, c2, hin⟩ := (HQ.out.up hwb).at hq1
        have IN1 := Lib.hid hin
        have b1 := hin.db
        have tb1 := tmod_bd q1.d
        have CL6 := Lib.hid (cut_len q1.zs m n)
        have HNX : Hid ((qs.take (k + 1)).map (fun q => cutOf q.zs m n) = (qs.take k).map (fun q => cutOf q.zs m n) ++ [cutOf q1.zs m n]) := Lib.hid (by
          obtain ⟨h1, h2⟩ := List.getElem?_eq_some_iff.1 hq2b
          rw [List.take_succ_eq_append_getElem h1, List.map_append, h2]
          rfl)
        clear hq1 hop hin hq2b hwb
        have hdv : dv false q1.d = Int.tmod q1.d 1099511627776 := by unfold dv; rw [if_neg (by decide)]
        rw [hdv] at HST
        go_wp2_with (first
          | (go_at_call 12; (with_reducible refine (change_any p F m n _ (some A5) m cap5 (cutOf q1.zs m n) (Int.tmod q1.d 1099511627776) _ (pg0 HV7.out) ((RD5.out.up HB6.out).keep K7.out (hdr_apart HV3.out OW5.out)) (pg_apart HV3.out OW5.out) (cut_len _ _ _) (by omega) (cutrow_in (by omega) (by omega)) (by omega) (by omega)).mono ?_); rintro e w8 ⟨he, F8, hnp, hnk, hnf⟩; rw [HST.out.1] at he; subst he; rw [HST.out.2] at hnp; have HV8 := Lib.hid (HV7.out.turn0 (pgT p F8 m n _) hnp hnk hnf); clear hnp hnk hnf)
          | (at_builtin; (refine app_val rfl _ _ 48 rfl w.heap.size 28 j0 (.slice none 0 0) 24 intss_u hj hj0 hj1 hj2 (by decide) hdr R.length (R.map rowHd) rfl ((rr_up (rr_of HV5.out) HB6.out).outer.alloc _) (.slice (some ⟨g6, 0, none⟩) m cap6) w6.heap.size rfl (cell_one_new _ _ _) rfl (by unfold maxLen; omega) (by omega) (by simp; omega) ?_); intro g7 cap7 w7 own7 grow7 hg7 hlt7; have hx7 := HV5.out.row_push HB6.out hs5 hg6 hl6 CL6.out hc6 hm6 RD6.out own7 grow7 hg7; rw [hRl] at hx7; have HV7 := Lib.hid hx7.1; have K7 := Lib.hid hx7.2; clear hx7 own7 grow7 hg7)
          | (go_at_call 27; (with_reducible refine (rcut_any q1.A q1.n q1.c q1.zs m n _ ((IN1.out.up HB5.out).rd) IN1.out.len (Nat.le_trans IN1.out.nc IN1.out.cm) (by omega) (by omega) (by omega)).mono ?_); rintro e w6 ⟨A6, cap6, rfl, own6, rd6, hc6, hm6, hb6⟩; obtain ⟨g6, rfl, hg6, hl6⟩ := own_block own6; have RD6 := Lib.hid rd6; have HB6 := Lib.hid hb6; have hs5 := HV5.out.below.size; have hs6 : w.heap.size ≤ w6.heap.size := Nat.le_trans hs5 HB6.out.size; clear own6 rd6 hb6)
          | (go_at_call 27; (with_reducible refine (rcut_any q1.A q1.n q1.c q1.zs m n _ IN1.out.rd IN1.out.len (Nat.le_trans IN1.out.nc IN1.out.cm) (by omega) (by omega) (by omega)).mono ?_); rintro e w5 ⟨A5, cap5, rfl, own5, rd5, hc5, hm5, hb5⟩; have cb5 := cell_up cb hb5; have cc5 := cell_up c1 hb5; have HV5 := Lib.hid (HV3.out.up hb5); have OW5 := Lib.hid (own_block own5); have RD5 := Lib.hid rd5; have HB5 := Lib.hid hb5; clear own5 rd5 hb5)
          | (go_at_call 25; (with_reducible refine (small_any q1.d _ b1.1 b1.2).mono ?_); rintro e w' ⟨rfl, rfl⟩; skip))
        go_roundw
        case rel => exact ⟨k + 1, F8, _, R ++ [(g6, cap6, cutOf q1.zs m n)], by omega, by go_num, rfl, HV8.out, by rw [HNX.out, ← HR.out]; simp [nums]⟩
        case measure => simp [intOf]; omega
      · have e : k = n0 := by omega
        have e1 : (opsOf false false m n qs).take k = opsOf false false m n qs := List.take_of_length_le (by rw [HOL.out]; omega)
        have e2 : qs.take k = qs.take 60 := List.take_eq_take_iff.2 (by rw [HL.out]; omega)
        have HV4 := HV3.out.erase2
        have HR4 := HR.out
        rw [e1] at HV4
        rw [e2] at HR4
        have HV9 := Lib.hid HV4
        have HR9 := Lib.hid HR4
        clear HV4 HR4 e1 e2
        go_wp2
        go_ret2
        exact ⟨p, F, hdr, R, rfl, HV9.out, HR9.out⟩
  · go_enter Try.func24, Try.ntmps24
    go_wp2_with (first
      | (go_at_call 10; (with_reducible refine (CN.out _).mono ?_); rintro e w' ⟨p, F0, rfl, hnp, hnf, hnb4⟩; have HV2 := Lib.hid (HV1.out.push (pgT p F0 m n (zerosL m n)) hnb4 hnp hnf); have hcb := box_cell HV2.out.2.2.2.1 (i := 2) (v := .slice A n0 c0) rfl; clear hnp hnf hnb4)
      | (go_at_call 23; (with_reducible refine (CS.out _).mono ?_); rintro e w' ⟨rfl, hb⟩; have HV1 := Lib.hid (HBX.out.up hb); clear hb))
    clear hcb
    obtain ⟨N, hN⟩ : ∃ N : Nat, (60 : Int) = N := ⟨60, rfl⟩
    rw [hN]
    have HOL2 : Hid (N = min 60 qs.length) := Lib.hid (by rw [HL.out]; omega)
    go_loopw [11, 13] (fun all i wr => ∃ (k : Nat) (F : Nat → Prop) (hdr : Value) (R : List Row), k ≤ N ∧ i = .int .i64 k ∧ hdr = all ∧ Have w wr [pgT p F m n (chAll (zerosL m n) ((opsOf false false m n qs).take k)), rrT w.heap.size 28 hdr R, boxT w.heap.size 45 #[.int .i64 rows, .int .i64 width, .slice A n0 c0]] ∧ nums R = (qs.take k).map (fun q => cutOf q.zs m n)) (fun _ i _ => N - (intOf i).toNat)
    case atStart => exact ⟨0, F0, .slice none 0 0, [], Nat.zero_le _, rfl, rfl, done_start HV2.out, rfl⟩
    case round =>
      obtain ⟨k, F, hdr, R, hk, rfl, rfl, hhv, hR⟩ := hrel
      have HV3 := Lib.hid hhv
      have HR := Lib.hid hR
      have hRl : R.length = k := by
        have := congrArg List.length hR
        rw [nums_len, List.length_map, List.length_take, HL.out] at this
        omega
      clear hhv hR
      by_cases hlt : k < N
      · have cb := box_cell HV3.out.2.2.2.2.2.2.1 (i := 2) (v := .slice A n0 c0) rfl
        have hwb := HV3.out.below
        obtain ⟨q1, hq1⟩ : ∃ q1, qs[k]? = some q1 := ⟨_, List.getElem?_eq_getElem (by rw [HL.out]; omega)⟩
        have hop := ops_get false false m n qs HOL2.out hlt (q := q1) (by unfold idx; rw [if_neg (by decide)]; exact hq1)
        have hq2b := hq1
        have HST := Lib.hid (step_ok HOK.out (by rw [HOL.out]; omega) (by omega) (by omega) hop)
        simp only at HST
        obtain ⟨a, g, o, rfl, hadd, c1, c2, hin⟩ := (HQ.out.up hwb).at hq1
        have IN1 := Lib.hid hin
        have b1 := hin.db
        have tb1 := tmod_bd q1.d
        have CL6 := Lib.hid (cut_len q1.zs m n)
        have HNX : Hid ((qs.take (k + 1)).map (fun q => cutOf q.zs m n) = (qs.take k).map (fun q => cutOf q.zs m n) ++ [cutOf q1.zs m n]) := Lib.hid (by
          obtain ⟨h1, h2⟩ := List.getElem?_eq_some_iff.1 hq2b
          rw [List.take_succ_eq_append_getElem h1, List.map_append, h2]
          rfl)
        clear hq1 hop hin hq2b hwb
        have hdv : dv false q1.d = Int.tmod q1.d 1099511627776 := by unfold dv; rw [if_neg (by decide)]
        rw [hdv] at HST
        go_wp2_with (first
          | (go_at_call 12; (with_reducible refine (change_any p F m n _ (some A5) m cap5 (cutOf q1.zs m n) (Int.tmod q1.d 1099511627776) _ (pg0 HV7.out) ((RD5.out.up HB6.out).keep K7.out (hdr_apart HV3.out OW5.out)) (pg_apart HV3.out OW5.out) (cut_len _ _ _) (by omega) (cutrow_in (by omega) (by omega)) (by omega) (by omega)).mono ?_); rintro e w8 ⟨he, F8, hnp, hnk, hnf⟩; rw [HST.out.1] at he; subst he; rw [HST.out.2] at hnp; have HV8 := Lib.hid (HV7.out.turn0 (pgT p F8 m n _) hnp hnk hnf); clear hnp hnk hnf)
          | (at_builtin; (refine app_val rfl _ _ 48 rfl w.heap.size 28 j0 (.slice none 0 0) 24 intss_u hj hj0 hj1 hj2 (by decide) hdr R.length (R.map rowHd) rfl ((rr_up (rr_of HV5.out) HB6.out).outer.alloc _) (.slice (some ⟨g6, 0, none⟩) m cap6) w6.heap.size rfl (cell_one_new _ _ _) rfl (by unfold maxLen; omega) (by omega) (by simp; omega) ?_); intro g7 cap7 w7 own7 grow7 hg7 hlt7; have hx7 := HV5.out.row_push HB6.out hs5 hg6 hl6 CL6.out hc6 hm6 RD6.out own7 grow7 hg7; rw [hRl] at hx7; have HV7 := Lib.hid hx7.1; have K7 := Lib.hid hx7.2; clear hx7 own7 grow7 hg7)
          | (go_at_call 27; (with_reducible refine (rcut_any q1.A q1.n q1.c q1.zs m n _ ((IN1.out.up HB5.out).rd) IN1.out.len (Nat.le_trans IN1.out.nc IN1.out.cm) (by omega) (by omega) (by omega)).mono ?_); rintro e w6 ⟨A6, cap6, rfl, own6, rd6, hc6, hm6, hb6⟩; obtain ⟨g6, rfl, hg6, hl6⟩ := own_block own6; have RD6 := Lib.hid rd6; have HB6 := Lib.hid hb6; have hs5 := HV5.out.below.size; have hs6 : w.heap.size ≤ w6.heap.size := Nat.le_trans hs5 HB6.out.size; clear own6 rd6 hb6)
          | (go_at_call 27; (with_reducible refine (rcut_any q1.A q1.n q1.c q1.zs m n _ IN1.out.rd IN1.out.len (Nat.le_trans IN1.out.nc IN1.out.cm) (by omega) (by omega) (by omega)).mono ?_); rintro e w5 ⟨A5, cap5, rfl, own5, rd5, hc5, hm5, hb5⟩; have cb5 := cell_up cb hb5; have cc5 := cell_up c1 hb5; have HV5 := Lib.hid (HV3.out.up hb5); have OW5 := Lib.hid (own_block own5); have RD5 := Lib.hid rd5; have HB5 := Lib.hid hb5; clear own5 rd5 hb5)
          | (go_at_call 25; (with_reducible refine (small_any q1.d _ b1.1 b1.2).mono ?_); rintro e w' ⟨rfl, rfl⟩; skip))
        go_roundw
        case rel => exact ⟨k + 1, F8, _, R ++ [(g6, cap6, cutOf q1.zs m n)], by omega, by go_num, rfl, HV8.out, by rw [HNX.out, ← HR.out]; simp [nums]⟩
        case measure => simp [intOf]; omega
      · have e : k = N := by omega
        have e1 : (opsOf false false m n qs).take k = opsOf false false m n qs := List.take_of_length_le (by rw [HOL.out]; omega)
        have e2 : qs.take k = qs.take 60 := List.take_eq_take_iff.2 (by rw [HL.out]; omega)
        have HV4 := HV3.out.erase2
        have HR4 := HR.out
        rw [e1] at HV4
        rw [e2] at HR4
        have HV9 := Lib.hid HV4
        have HR9 := Lib.hid HR4
        clear HV4 HR4 e1 e2
        go_wp2
        go_ret2
        exact ⟨p, F, hdr, R, rfl, HV9.out, HR9.out⟩
set_option maxRecDepth 100000 in
set_option maxHeartbeats 4000000 in
theorem done_tf (rows width : Int) (A : Option Addr) (n0 c0 : Nat) (qs : List StepV) (m n : Nat) (w : World) (hm : rowsOf rows = m) (hn : widthOf width = n) (hq : Steps w A n0 c0 qs) :
    Calls Try.prog 24 #[.agg #[.int .i64 rows, .int .i64 width, .slice A n0 c0], .bool true, .bool false] w fun e w' => ∃ (p : Addr) (F : Nat → Prop) (hdr : Value) (R : List Row), e = .returned (.tuple #[.pointer (some p), hdr]) ∧ Have w w' [pgT p F m n (chAll (zerosL m n) (opsOf true false m n qs)), rrT w.heap.size 28 hdr R] ∧ nums R = (qs.take 60).map (fun q => cutOf q.zs m n) := by
  obtain ⟨j0, hj, hj0, hj1, hj2⟩ := info_parts ints_info
  have hmb := rows_bd rows
  have hnb := width_bd width
  have CS := Lib.hid (fun w => sized_any rows width A n0 c0 w)
  rw [hm] at hmb CS
  rw [hn] at hnb CS
  clear hm hn
  have e8 : cl (m : Int) 8 = m := by unfold cl; omega
  have e128 : cl (n : Int) 128 = n := by unfold cl; omega
  have CN := Lib.hid (fun w => new_mn m n m n w e8 e128 (by omega) (by omega) (by omega) (by omega))
  have HQ := Lib.hid hq
  have hnc := hq.nc
  have hcm := hq.cm
  unfold maxLen at hcm
  have HL := Lib.hid hq.len
  have HOK : Hid (OpsOk m n 1099511627776 (opsOf true false m n qs)) := Lib.hid (ops_ok _ _ qs hmb.1 hnb.1)
  have HOL : Hid ((opsOf true false m n qs).length = min 60 n0) := Lib.hid (by rw [ops_len, hq.len])
  have HBX : Hid (Have w (w.alloc (.cells #[.int .i64 rows, .int .i64 width, .slice A n0 c0] 45)) [boxT w.heap.size 45 #[.int .i64 rows, .int .i64 width, .slice A n0 c0]]) := Lib.hid (box_new w _ _)
  clear hq e8 e128
  by_cases h60 : n0 ≤ 60
  · go_enter Try.func24, Try.ntmps24
    go_wp2_with (first
      | (go_at_call 10; (with_reducible refine (CN.out _).mono ?_); rintro e w' ⟨p, F0, rfl, hnp, hnf, hnb4⟩; have HV2 := Lib.hid (HV1.out.push (pgT p F0 m n (zerosL m n)) hnb4 hnp hnf); have hcb := box_cell HV2.out.2.2.2.1 (i := 2) (v := .slice A n0 c0) rfl; clear hnp hnf hnb4)
      | (go_at_call 23; (with_reducible refine (CS.out _).mono ?_); rintro e w' ⟨rfl, hb⟩; have HV1 := Lib.hid (HBX.out.up hb); clear hb))
    clear hcb
    have HOL2 : Hid (n0 = min 60 qs.length) := Lib.hid (by rw [HL.out]; omega)
    go_loopw [11, 13] (fun all i wr => ∃ (k : Nat) (F : Nat → Prop) (hdr : Value) (R : List Row), k ≤ n0 ∧ i = .int .i64 k ∧ hdr = all ∧ Have w wr [pgT p F m n (chAll (zerosL m n) ((opsOf true false m n qs).take k)), rrT w.heap.size 28 hdr R, boxT w.heap.size 45 #[.int .i64 rows, .int .i64 width, .slice A n0 c0]] ∧ nums R = (qs.take k).map (fun q => cutOf q.zs m n)) (fun _ i _ => n0 - (intOf i).toNat)
    case atStart => exact ⟨0, F0, .slice none 0 0, [], Nat.zero_le _, rfl, rfl, done_start HV2.out, rfl⟩
    case round =>
      obtain ⟨k, F, hdr, R, hk, rfl, rfl, hhv, hR⟩ := hrel
      have HV3 := Lib.hid hhv
      have HR := Lib.hid hR
      have hRl : R.length = k := by
        have := congrArg List.length hR
        rw [nums_len, List.length_map, List.length_take, HL.out] at this
        omega
      clear hhv hR
      by_cases hlt : k < n0
      · have cb := box_cell HV3.out.2.2.2.2.2.2.1 (i := 2) (v := .slice A n0 c0) rfl
        have hwb := HV3.out.below
        obtain ⟨K1, hK1⟩ : ∃ K1 : Nat, K1 = n0 - 1 - k := ⟨_, rfl⟩
        have hK2 : (n0 : Int) - 1 - k = K1 := by omega
        obtain ⟨q1, hq1⟩ : ∃ q1, qs[K1]? = some q1 := ⟨_, List.getElem?_eq_getElem (by rw [HL.out]; omega)⟩
        obtain ⟨q2, hq2⟩ : ∃ q2, qs[k]? = some q2 := ⟨_, List.getElem?_eq_getElem (by rw [HL.out]; omega)⟩
        have hop := ops_get true false m n qs HOL2.out hlt (q := q1) (by unfold idx; rw [if_pos rfl, ← hK1]; exact hq1)
        have hq2b := hq2
        have HST := Lib.hid (step_ok HOK.out (by rw [HOL.out]; omega) (by omega) (by omega) hop)
        simp only at HST
        obtain ⟨a, g, o, rfl, hadd, c1, c2, hin⟩ := (HQ.out.up hwb).at hq1
        have IN1 := Lib.hid hin
        have b1 := hin.db
        have tb1 := tmod_bd q1.d
        have CL6 := Lib.hid (cut_len q2.zs m n)
        obtain ⟨a2, g2, o2, ha2, hadd2, d1, d2, hin2⟩ := (HQ.out.up hwb).at hq2
        injection ha2 with ha2
        subst ha2
        have IN2 := Lib.hid hin2
        have hK3 : K1 < n0 := by omega
        clear hq2 hin2 hK1
        have HNX : Hid ((qs.take (k + 1)).map (fun q => cutOf q.zs m n) = (qs.take k).map (fun q => cutOf q.zs m n) ++ [cutOf q2.zs m n]) := Lib.hid (by
          obtain ⟨h1, h2⟩ := List.getElem?_eq_some_iff.1 hq2b
          rw [List.take_succ_eq_append_getElem h1, List.map_append, h2]
          rfl)
        clear hop hin hq2b hwb
        have hdv : dv false q1.d = Int.tmod q1.d 1099511627776 := by unfold dv; rw [if_neg (by decide)]
        rw [hdv] at HST
        go_wp2_with (first
          | (go_at_call 12; (with_reducible refine (change_any p F m n _ (some A5) m cap5 (cutOf q1.zs m n) (Int.tmod q1.d 1099511627776) _ (pg0 HV7.out) ((RD5.out.up HB6.out).keep K7.out (hdr_apart HV3.out OW5.out)) (pg_apart HV3.out OW5.out) (cut_len _ _ _) (by omega) (cutrow_in (by omega) (by omega)) (by omega) (by omega)).mono ?_); rintro e w8 ⟨he, F8, hnp, hnk, hnf⟩; rw [HST.out.1] at he; subst he; rw [HST.out.2] at hnp; have HV8 := Lib.hid (HV7.out.turn0 (pgT p F8 m n _) hnp hnk hnf); clear hnp hnk hnf)
          | (at_builtin; (refine app_val rfl _ _ 48 rfl w.heap.size 28 j0 (.slice none 0 0) 24 intss_u hj hj0 hj1 hj2 (by decide) hdr R.length (R.map rowHd) rfl ((rr_up (rr_of HV5.out) HB6.out).outer.alloc _) (.slice (some ⟨g6, 0, none⟩) m cap6) w6.heap.size rfl (cell_one_new _ _ _) rfl (by unfold maxLen; omega) (by omega) (by simp; omega) ?_); intro g7 cap7 w7 own7 grow7 hg7 hlt7; have hx7 := HV5.out.row_push HB6.out hs5 hg6 hl6 CL6.out hc6 hm6 RD6.out own7 grow7 hg7; rw [hRl] at hx7; have HV7 := Lib.hid hx7.1; have K7 := Lib.hid hx7.2; clear hx7 own7 grow7 hg7)
          | (go_at_call 27; (with_reducible refine (rcut_any q2.A q2.n q2.c q2.zs m n _ ((IN2.out.up HB5.out).rd) IN2.out.len (Nat.le_trans IN2.out.nc IN2.out.cm) (by omega) (by omega) (by omega)).mono ?_); rintro e w6 ⟨A6, cap6, rfl, own6, rd6, hc6, hm6, hb6⟩; obtain ⟨g6, rfl, hg6, hl6⟩ := own_block own6; have RD6 := Lib.hid rd6; have HB6 := Lib.hid hb6; have hs5 := HV5.out.below.size; have hs6 : w.heap.size ≤ w6.heap.size := Nat.le_trans hs5 HB6.out.size; clear own6 rd6 hb6)
          | (go_at_call 27; (with_reducible refine (rcut_any q1.A q1.n q1.c q1.zs m n _ IN1.out.rd IN1.out.len (Nat.le_trans IN1.out.nc IN1.out.cm) (by omega) (by omega) (by omega)).mono ?_); rintro e w5 ⟨A5, cap5, rfl, own5, rd5, hc5, hm5, hb5⟩; have cb5 := cell_up cb hb5; have cc5 := cell_up d1 hb5; have HV5 := Lib.hid (HV3.out.up hb5); have OW5 := Lib.hid (own_block own5); have RD5 := Lib.hid rd5; have HB5 := Lib.hid hb5; clear own5 rd5 hb5)
          | (go_at_call 25; (with_reducible refine (small_any q1.d _ b1.1 b1.2).mono ?_); rintro e w' ⟨rfl, rfl⟩; skip))
        go_roundw
        case rel => exact ⟨k + 1, F8, _, R ++ [(g6, cap6, cutOf q2.zs m n)], by omega, by go_num, rfl, HV8.out, by rw [HNX.out, ← HR.out]; simp [nums]⟩
        case measure => simp [intOf]; omega
      · have e : k = n0 := by omega
        have e1 : (opsOf true false m n qs).take k = opsOf true false m n qs := List.take_of_length_le (by rw [HOL.out]; omega)
        have e2 : qs.take k = qs.take 60 := List.take_eq_take_iff.2 (by rw [HL.out]; omega)
        have HV4 := HV3.out.erase2
        have HR4 := HR.out
        rw [e1] at HV4
        rw [e2] at HR4
        have HV9 := Lib.hid HV4
        have HR9 := Lib.hid HR4
        clear HV4 HR4 e1 e2
        go_wp2
        go_ret2
        exact ⟨p, F, hdr, R, rfl, HV9.out, HR9.out⟩
  · go_enter Try.func24, Try.ntmps24
    go_wp2_with (first
      | (go_at_call 10; (with_reducible refine (CN.out _).mono ?_); rintro e w' ⟨p, F0, rfl, hnp, hnf, hnb4⟩; have HV2 := Lib.hid (HV1.out.push (pgT p F0 m n (zerosL m n)) hnb4 hnp hnf); have hcb := box_cell HV2.out.2.2.2.1 (i := 2) (v := .slice A n0 c0) rfl; clear hnp hnf hnb4)
      | (go_at_call 23; (with_reducible refine (CS.out _).mono ?_); rintro e w' ⟨rfl, hb⟩; have HV1 := Lib.hid (HBX.out.up hb); clear hb))
    clear hcb
    obtain ⟨N, hN⟩ : ∃ N : Nat, (60 : Int) = N := ⟨60, rfl⟩
    rw [hN]
    have HOL2 : Hid (N = min 60 qs.length) := Lib.hid (by rw [HL.out]; omega)
    go_loopw [11, 13] (fun all i wr => ∃ (k : Nat) (F : Nat → Prop) (hdr : Value) (R : List Row), k ≤ N ∧ i = .int .i64 k ∧ hdr = all ∧ Have w wr [pgT p F m n (chAll (zerosL m n) ((opsOf true false m n qs).take k)), rrT w.heap.size 28 hdr R, boxT w.heap.size 45 #[.int .i64 rows, .int .i64 width, .slice A n0 c0]] ∧ nums R = (qs.take k).map (fun q => cutOf q.zs m n)) (fun _ i _ => N - (intOf i).toNat)
    case atStart => exact ⟨0, F0, .slice none 0 0, [], Nat.zero_le _, rfl, rfl, done_start HV2.out, rfl⟩
    case round =>
      obtain ⟨k, F, hdr, R, hk, rfl, rfl, hhv, hR⟩ := hrel
      have HV3 := Lib.hid hhv
      have HR := Lib.hid hR
      have hRl : R.length = k := by
        have := congrArg List.length hR
        rw [nums_len, List.length_map, List.length_take, HL.out] at this
        omega
      clear hhv hR
      by_cases hlt : k < N
      · have cb := box_cell HV3.out.2.2.2.2.2.2.1 (i := 2) (v := .slice A n0 c0) rfl
        have hwb := HV3.out.below
        obtain ⟨K1, hK1⟩ : ∃ K1 : Nat, K1 = N - 1 - k := ⟨_, rfl⟩
        have hK2 : (N : Int) - 1 - k = K1 := by omega
        obtain ⟨q1, hq1⟩ : ∃ q1, qs[K1]? = some q1 := ⟨_, List.getElem?_eq_getElem (by rw [HL.out]; omega)⟩
        obtain ⟨q2, hq2⟩ : ∃ q2, qs[k]? = some q2 := ⟨_, List.getElem?_eq_getElem (by rw [HL.out]; omega)⟩
        have hop := ops_get true false m n qs HOL2.out hlt (q := q1) (by unfold idx; rw [if_pos rfl, ← hK1]; exact hq1)
        have hq2b := hq2
        have HST := Lib.hid (step_ok HOK.out (by rw [HOL.out]; omega) (by omega) (by omega) hop)
        simp only at HST
        obtain ⟨a, g, o, rfl, hadd, c1, c2, hin⟩ := (HQ.out.up hwb).at hq1
        have IN1 := Lib.hid hin
        have b1 := hin.db
        have tb1 := tmod_bd q1.d
        have CL6 := Lib.hid (cut_len q2.zs m n)
        obtain ⟨a2, g2, o2, ha2, hadd2, d1, d2, hin2⟩ := (HQ.out.up hwb).at hq2
        injection ha2 with ha2
        subst ha2
        have IN2 := Lib.hid hin2
        have hK3 : K1 < n0 := by omega
        clear hq2 hin2 hK1
        have HNX : Hid ((qs.take (k + 1)).map (fun q => cutOf q.zs m n) = (qs.take k).map (fun q => cutOf q.zs m n) ++ [cutOf q2.zs m n]) := Lib.hid (by
          obtain ⟨h1, h2⟩ := List.getElem?_eq_some_iff.1 hq2b
          rw [List.take_succ_eq_append_getElem h1, List.map_append, h2]
          rfl)
        clear hop hin hq2b hwb
        have hdv : dv false q1.d = Int.tmod q1.d 1099511627776 := by unfold dv; rw [if_neg (by decide)]
        rw [hdv] at HST
        go_wp2_with (first
          | (go_at_call 12; (with_reducible refine (change_any p F m n _ (some A5) m cap5 (cutOf q1.zs m n) (Int.tmod q1.d 1099511627776) _ (pg0 HV7.out) ((RD5.out.up HB6.out).keep K7.out (hdr_apart HV3.out OW5.out)) (pg_apart HV3.out OW5.out) (cut_len _ _ _) (by omega) (cutrow_in (by omega) (by omega)) (by omega) (by omega)).mono ?_); rintro e w8 ⟨he, F8, hnp, hnk, hnf⟩; rw [HST.out.1] at he; subst he; rw [HST.out.2] at hnp; have HV8 := Lib.hid (HV7.out.turn0 (pgT p F8 m n _) hnp hnk hnf); clear hnp hnk hnf)
          | (at_builtin; (refine app_val rfl _ _ 48 rfl w.heap.size 28 j0 (.slice none 0 0) 24 intss_u hj hj0 hj1 hj2 (by decide) hdr R.length (R.map rowHd) rfl ((rr_up (rr_of HV5.out) HB6.out).outer.alloc _) (.slice (some ⟨g6, 0, none⟩) m cap6) w6.heap.size rfl (cell_one_new _ _ _) rfl (by unfold maxLen; omega) (by omega) (by simp; omega) ?_); intro g7 cap7 w7 own7 grow7 hg7 hlt7; have hx7 := HV5.out.row_push HB6.out hs5 hg6 hl6 CL6.out hc6 hm6 RD6.out own7 grow7 hg7; rw [hRl] at hx7; have HV7 := Lib.hid hx7.1; have K7 := Lib.hid hx7.2; clear hx7 own7 grow7 hg7)
          | (go_at_call 27; (with_reducible refine (rcut_any q2.A q2.n q2.c q2.zs m n _ ((IN2.out.up HB5.out).rd) IN2.out.len (Nat.le_trans IN2.out.nc IN2.out.cm) (by omega) (by omega) (by omega)).mono ?_); rintro e w6 ⟨A6, cap6, rfl, own6, rd6, hc6, hm6, hb6⟩; obtain ⟨g6, rfl, hg6, hl6⟩ := own_block own6; have RD6 := Lib.hid rd6; have HB6 := Lib.hid hb6; have hs5 := HV5.out.below.size; have hs6 : w.heap.size ≤ w6.heap.size := Nat.le_trans hs5 HB6.out.size; clear own6 rd6 hb6)
          | (go_at_call 27; (with_reducible refine (rcut_any q1.A q1.n q1.c q1.zs m n _ IN1.out.rd IN1.out.len (Nat.le_trans IN1.out.nc IN1.out.cm) (by omega) (by omega) (by omega)).mono ?_); rintro e w5 ⟨A5, cap5, rfl, own5, rd5, hc5, hm5, hb5⟩; have cb5 := cell_up cb hb5; have cc5 := cell_up d1 hb5; have HV5 := Lib.hid (HV3.out.up hb5); have OW5 := Lib.hid (own_block own5); have RD5 := Lib.hid rd5; have HB5 := Lib.hid hb5; clear own5 rd5 hb5)
          | (go_at_call 25; (with_reducible refine (small_any q1.d _ b1.1 b1.2).mono ?_); rintro e w' ⟨rfl, rfl⟩; skip))
        go_roundw
        case rel => exact ⟨k + 1, F8, _, R ++ [(g6, cap6, cutOf q2.zs m n)], by omega, by go_num, rfl, HV8.out, by rw [HNX.out, ← HR.out]; simp [nums]⟩
        case measure => simp [intOf]; omega
      · have e : k = N := by omega
        have e1 : (opsOf true false m n qs).take k = opsOf true false m n qs := List.take_of_length_le (by rw [HOL.out]; omega)
        have e2 : qs.take k = qs.take 60 := List.take_eq_take_iff.2 (by rw [HL.out]; omega)
        have HV4 := HV3.out.erase2
        have HR4 := HR.out
        rw [e1] at HV4
        rw [e2] at HR4
        have HV9 := Lib.hid HV4
        have HR9 := Lib.hid HR4
        clear HV4 HR4 e1 e2
        go_wp2
        go_ret2
        exact ⟨p, F, hdr, R, rfl, HV9.out, HR9.out⟩
set_option maxRecDepth 100000 in
set_option maxHeartbeats 4000000 in
theorem done_ft (rows width : Int) (A : Option Addr) (n0 c0 : Nat) (qs : List StepV) (m n : Nat) (w : World) (hm : rowsOf rows = m) (hn : widthOf width = n) (hq : Steps w A n0 c0 qs) :
    Calls Try.prog 24 #[.agg #[.int .i64 rows, .int .i64 width, .slice A n0 c0], .bool false, .bool true] w fun e w' => ∃ (p : Addr) (F : Nat → Prop) (hdr : Value) (R : List Row), e = .returned (.tuple #[.pointer (some p), hdr]) ∧ Have w w' [pgT p F m n (chAll (zerosL m n) (opsOf false true m n qs)), rrT w.heap.size 28 hdr R] ∧ nums R = (qs.take 60).map (fun q => cutOf q.zs m n) := by
  obtain ⟨j0, hj, hj0, hj1, hj2⟩ := info_parts ints_info
  have hmb := rows_bd rows
  have hnb := width_bd width
  have CS := Lib.hid (fun w => sized_any rows width A n0 c0 w)
  rw [hm] at hmb CS
  rw [hn] at hnb CS
  clear hm hn
  have e8 : cl (m : Int) 8 = m := by unfold cl; omega
  have e128 : cl (n : Int) 128 = n := by unfold cl; omega
  have CN := Lib.hid (fun w => new_mn m n m n w e8 e128 (by omega) (by omega) (by omega) (by omega))
  have HQ := Lib.hid hq
  have hnc := hq.nc
  have hcm := hq.cm
  unfold maxLen at hcm
  have HL := Lib.hid hq.len
  have HOK : Hid (OpsOk m n 1099511627776 (opsOf false true m n qs)) := Lib.hid (ops_ok _ _ qs hmb.1 hnb.1)
  have HOL : Hid ((opsOf false true m n qs).length = min 60 n0) := Lib.hid (by rw [ops_len, hq.len])
  have HBX : Hid (Have w (w.alloc (.cells #[.int .i64 rows, .int .i64 width, .slice A n0 c0] 45)) [boxT w.heap.size 45 #[.int .i64 rows, .int .i64 width, .slice A n0 c0]]) := Lib.hid (box_new w _ _)
  clear hq e8 e128
  by_cases h60 : n0 ≤ 60
  · go_enter Try.func24, Try.ntmps24
    go_wp2_with (first
      | (go_at_call 10; (with_reducible refine (CN.out _).mono ?_); rintro e w' ⟨p, F0, rfl, hnp, hnf, hnb4⟩; have HV2 := Lib.hid (HV1.out.push (pgT p F0 m n (zerosL m n)) hnb4 hnp hnf); have hcb := box_cell HV2.out.2.2.2.1 (i := 2) (v := .slice A n0 c0) rfl; clear hnp hnf hnb4)
      | (go_at_call 23; (with_reducible refine (CS.out _).mono ?_); rintro e w' ⟨rfl, hb⟩; have HV1 := Lib.hid (HBX.out.up hb); clear hb))
    clear hcb
    have HOL2 : Hid (n0 = min 60 qs.length) := Lib.hid (by rw [HL.out]; omega)
    go_loopw [11, 13] (fun all i wr => ∃ (k : Nat) (F : Nat → Prop) (hdr : Value) (R : List Row), k ≤ n0 ∧ i = .int .i64 k ∧ hdr = all ∧ Have w wr [pgT p F m n (chAll (zerosL m n) ((opsOf false true m n qs).take k)), rrT w.heap.size 28 hdr R, boxT w.heap.size 45 #[.int .i64 rows, .int .i64 width, .slice A n0 c0]] ∧ nums R = (qs.take k).map (fun q => cutOf q.zs m n)) (fun _ i _ => n0 - (intOf i).toNat)
    case atStart => exact ⟨0, F0, .slice none 0 0, [], Nat.zero_le _, rfl, rfl, done_start HV2.out, rfl⟩
    case round =>
      obtain ⟨k, F, hdr, R, hk, rfl, rfl, hhv, hR⟩ := hrel
      have HV3 := Lib.hid hhv
      have HR := Lib.hid hR
      have hRl : R.length = k := by
        have := congrArg List.length hR
        rw [nums_len, List.length_map, List.length_take, HL.out] at this
        omega
      clear hhv hR
      by_cases hlt : k < n0
      · have cb := box_cell HV3.out.2.2.2.2.2.2.1 (i := 2) (v := .slice A n0 c0) rfl
        have hwb := HV3.out.below
        obtain ⟨q1, hq1⟩ : ∃ q1, qs[k]? = some q1 := ⟨_, List.getElem?_eq_getElem (by rw [HL.out]; omega)⟩
        have hop := ops_get false true m n qs HOL2.out hlt (q := q1) (by unfold idx; rw [if_neg (by decide)]; exact hq1)
        have hq2b := hq1
        have HST := Lib.hid (step_ok HOK.out (by rw [HOL.out]; omega) (by omega) (by omega) hop)
        simp only at HST
        obtain ⟨a, g, o, rfl, hadd, c1, c2, hin⟩ := (HQ.out.up hwb).at hq1
        have IN1 := Lib.hid hin
        have b1 := hin.db
        have tb1 := tmod_bd q1.d
        have CL6 := Lib.hid (cut_len q1.zs m n)
        have HNX : Hid ((qs.take (k + 1)).map (fun q => cutOf q.zs m n) = (qs.take k).map (fun q => cutOf q.zs m n) ++ [cutOf q1.zs m n]) := Lib.hid (by
          obtain ⟨h1, h2⟩ := List.getElem?_eq_some_iff.1 hq2b
          rw [List.take_succ_eq_append_getElem h1, List.map_append, h2]
          rfl)
        clear hq1 hop hin hq2b hwb
        by_cases hs : 0 ≤ Int.tmod q1.d 1099511627776
        · have hdv : dv true q1.d = Int.tmod q1.d 1099511627776 := by unfold dv; rw [if_pos rfl, if_pos hs]
          rw [hdv] at HST
          go_wp2_with (first
            | (go_at_call 12; (with_reducible refine (change_any p F m n _ (some A5) m cap5 (cutOf q1.zs m n) (Int.tmod q1.d 1099511627776) _ (pg0 HV7.out) ((RD5.out.up HB6.out).keep K7.out (hdr_apart HV3.out OW5.out)) (pg_apart HV3.out OW5.out) (cut_len _ _ _) (by omega) (cutrow_in (by omega) (by omega)) (by omega) (by omega)).mono ?_); rintro e w8 ⟨he, F8, hnp, hnk, hnf⟩; rw [HST.out.1] at he; subst he; rw [HST.out.2] at hnp; have HV8 := Lib.hid (HV7.out.turn0 (pgT p F8 m n _) hnp hnk hnf); clear hnp hnk hnf)
            | (at_builtin; (refine app_val rfl _ _ 48 rfl w.heap.size 28 j0 (.slice none 0 0) 24 intss_u hj hj0 hj1 hj2 (by decide) hdr R.length (R.map rowHd) rfl ((rr_up (rr_of HV5.out) HB6.out).outer.alloc _) (.slice (some ⟨g6, 0, none⟩) m cap6) w6.heap.size rfl (cell_one_new _ _ _) rfl (by unfold maxLen; omega) (by omega) (by simp; omega) ?_); intro g7 cap7 w7 own7 grow7 hg7 hlt7; have hx7 := HV5.out.row_push HB6.out hs5 hg6 hl6 CL6.out hc6 hm6 RD6.out own7 grow7 hg7; rw [hRl] at hx7; have HV7 := Lib.hid hx7.1; have K7 := Lib.hid hx7.2; clear hx7 own7 grow7 hg7)
            | (go_at_call 27; (with_reducible refine (rcut_any q1.A q1.n q1.c q1.zs m n _ ((IN1.out.up HB5.out).rd) IN1.out.len (Nat.le_trans IN1.out.nc IN1.out.cm) (by omega) (by omega) (by omega)).mono ?_); rintro e w6 ⟨A6, cap6, rfl, own6, rd6, hc6, hm6, hb6⟩; obtain ⟨g6, rfl, hg6, hl6⟩ := own_block own6; have RD6 := Lib.hid rd6; have HB6 := Lib.hid hb6; have hs5 := HV5.out.below.size; have hs6 : w.heap.size ≤ w6.heap.size := Nat.le_trans hs5 HB6.out.size; clear own6 rd6 hb6)
            | (go_at_call 27; (with_reducible refine (rcut_any q1.A q1.n q1.c q1.zs m n _ IN1.out.rd IN1.out.len (Nat.le_trans IN1.out.nc IN1.out.cm) (by omega) (by omega) (by omega)).mono ?_); rintro e w5 ⟨A5, cap5, rfl, own5, rd5, hc5, hm5, hb5⟩; have cb5 := cell_up cb hb5; have cc5 := cell_up c1 hb5; have HV5 := Lib.hid (HV3.out.up hb5); have OW5 := Lib.hid (own_block own5); have RD5 := Lib.hid rd5; have HB5 := Lib.hid hb5; clear own5 rd5 hb5)
            | (go_at_call 25; (with_reducible refine (small_any q1.d _ b1.1 b1.2).mono ?_); rintro e w' ⟨rfl, rfl⟩; skip))
          go_roundw
          case rel => exact ⟨k + 1, F8, _, R ++ [(g6, cap6, cutOf q1.zs m n)], by omega, by go_num, rfl, HV8.out, by rw [HNX.out, ← HR.out]; simp [nums]⟩
          case measure => simp [intOf]; omega
        · have hdv : dv true q1.d = -Int.tmod q1.d 1099511627776 := by unfold dv; rw [if_pos rfl, if_neg hs]
          rw [hdv] at HST
          go_wp2_with (first
            | (go_at_call 12; (with_reducible refine (change_any p F m n _ (some A5) m cap5 (cutOf q1.zs m n) (-Int.tmod q1.d 1099511627776) _ (pg0 HV7.out) ((RD5.out.up HB6.out).keep K7.out (hdr_apart HV3.out OW5.out)) (pg_apart HV3.out OW5.out) (cut_len _ _ _) (by omega) (cutrow_in (by omega) (by omega)) (by omega) (by omega)).mono ?_); rintro e w8 ⟨he, F8, hnp, hnk, hnf⟩; rw [HST.out.1] at he; subst he; rw [HST.out.2] at hnp; have HV8 := Lib.hid (HV7.out.turn0 (pgT p F8 m n _) hnp hnk hnf); clear hnp hnk hnf)
            | (at_builtin; (refine app_val rfl _ _ 48 rfl w.heap.size 28 j0 (.slice none 0 0) 24 intss_u hj hj0 hj1 hj2 (by decide) hdr R.length (R.map rowHd) rfl ((rr_up (rr_of HV5.out) HB6.out).outer.alloc _) (.slice (some ⟨g6, 0, none⟩) m cap6) w6.heap.size rfl (cell_one_new _ _ _) rfl (by unfold maxLen; omega) (by omega) (by simp; omega) ?_); intro g7 cap7 w7 own7 grow7 hg7 hlt7; have hx7 := HV5.out.row_push HB6.out hs5 hg6 hl6 CL6.out hc6 hm6 RD6.out own7 grow7 hg7; rw [hRl] at hx7; have HV7 := Lib.hid hx7.1; have K7 := Lib.hid hx7.2; clear hx7 own7 grow7 hg7)
            | (go_at_call 27; (with_reducible refine (rcut_any q1.A q1.n q1.c q1.zs m n _ ((IN1.out.up HB5.out).rd) IN1.out.len (Nat.le_trans IN1.out.nc IN1.out.cm) (by omega) (by omega) (by omega)).mono ?_); rintro e w6 ⟨A6, cap6, rfl, own6, rd6, hc6, hm6, hb6⟩; obtain ⟨g6, rfl, hg6, hl6⟩ := own_block own6; have RD6 := Lib.hid rd6; have HB6 := Lib.hid hb6; have hs5 := HV5.out.below.size; have hs6 : w.heap.size ≤ w6.heap.size := Nat.le_trans hs5 HB6.out.size; clear own6 rd6 hb6)
            | (go_at_call 27; (with_reducible refine (rcut_any q1.A q1.n q1.c q1.zs m n _ IN1.out.rd IN1.out.len (Nat.le_trans IN1.out.nc IN1.out.cm) (by omega) (by omega) (by omega)).mono ?_); rintro e w5 ⟨A5, cap5, rfl, own5, rd5, hc5, hm5, hb5⟩; have cb5 := cell_up cb hb5; have cc5 := cell_up c1 hb5; have HV5 := Lib.hid (HV3.out.up hb5); have OW5 := Lib.hid (own_block own5); have RD5 := Lib.hid rd5; have HB5 := Lib.hid hb5; clear own5 rd5 hb5)
            | (go_at_call 25; (with_reducible refine (small_any q1.d _ b1.1 b1.2).mono ?_); rintro e w' ⟨rfl, rfl⟩; skip))
          go_roundw
          case rel => exact ⟨k + 1, F8, _, R ++ [(g6, cap6, cutOf q1.zs m n)], by omega, by go_num, rfl, HV8.out, by rw [HNX.out, ← HR.out]; simp [nums]⟩
          case measure => simp [intOf]; omega
      · have e : k = n0 := by omega
        have e1 : (opsOf false true m n qs).take k = opsOf false true m n qs := List.take_of_length_le (by rw [HOL.out]; omega)
        have e2 : qs.take k = qs.take 60 := List.take_eq_take_iff.2 (by rw [HL.out]; omega)
        have HV4 := HV3.out.erase2
        have HR4 := HR.out
        rw [e1] at HV4
        rw [e2] at HR4
        have HV9 := Lib.hid HV4
        have HR9 := Lib.hid HR4
        clear HV4 HR4 e1 e2
        go_wp2
        go_ret2
        exact ⟨p, F, hdr, R, rfl, HV9.out, HR9.out⟩
  · go_enter Try.func24, Try.ntmps24
    go_wp2_with (first
      | (go_at_call 10; (with_reducible refine (CN.out _).mono ?_); rintro e w' ⟨p, F0, rfl, hnp, hnf, hnb4⟩; have HV2 := Lib.hid (HV1.out.push (pgT p F0 m n (zerosL m n)) hnb4 hnp hnf); have hcb := box_cell HV2.out.2.2.2.1 (i := 2) (v := .slice A n0 c0) rfl; clear hnp hnf hnb4)
      | (go_at_call 23; (with_reducible refine (CS.out _).mono ?_); rintro e w' ⟨rfl, hb⟩; have HV1 := Lib.hid (HBX.out.up hb); clear hb))
    clear hcb
    obtain ⟨N, hN⟩ : ∃ N : Nat, (60 : Int) = N := ⟨60, rfl⟩
    rw [hN]
    have HOL2 : Hid (N = min 60 qs.length) := Lib.hid (by rw [HL.out]; omega)
    go_loopw [11, 13] (fun all i wr => ∃ (k : Nat) (F : Nat → Prop) (hdr : Value) (R : List Row), k ≤ N ∧ i = .int .i64 k ∧ hdr = all ∧ Have w wr [pgT p F m n (chAll (zerosL m n) ((opsOf false true m n qs).take k)), rrT w.heap.size 28 hdr R, boxT w.heap.size 45 #[.int .i64 rows, .int .i64 width, .slice A n0 c0]] ∧ nums R = (qs.take k).map (fun q => cutOf q.zs m n)) (fun _ i _ => N - (intOf i).toNat)
    case atStart => exact ⟨0, F0, .slice none 0 0, [], Nat.zero_le _, rfl, rfl, done_start HV2.out, rfl⟩
    case round =>
      obtain ⟨k, F, hdr, R, hk, rfl, rfl, hhv, hR⟩ := hrel
      have HV3 := Lib.hid hhv
      have HR := Lib.hid hR
      have hRl : R.length = k := by
        have := congrArg List.length hR
        rw [nums_len, List.length_map, List.length_take, HL.out] at this
        omega
      clear hhv hR
      by_cases hlt : k < N
      · have cb := box_cell HV3.out.2.2.2.2.2.2.1 (i := 2) (v := .slice A n0 c0) rfl
        have hwb := HV3.out.below
        obtain ⟨q1, hq1⟩ : ∃ q1, qs[k]? = some q1 := ⟨_, List.getElem?_eq_getElem (by rw [HL.out]; omega)⟩
        have hop := ops_get false true m n qs HOL2.out hlt (q := q1) (by unfold idx; rw [if_neg (by decide)]; exact hq1)
        have hq2b := hq1
        have HST := Lib.hid (step_ok HOK.out (by rw [HOL.out]; omega) (by omega) (by omega) hop)
        simp only at HST
        obtain ⟨a, g, o, rfl, hadd, c1, c2, hin⟩ := (HQ.out.up hwb).at hq1
        have IN1 := Lib.hid hin
        have b1 := hin.db
        have tb1 := tmod_bd q1.d
        have CL6 := Lib.hid (cut_len q1.zs m n)
        have HNX : Hid ((qs.take (k + 1)).map (fun q => cutOf q.zs m n) = (qs.take k).map (fun q => cutOf q.zs m n) ++ [cutOf q1.zs m n]) := Lib.hid (by
          obtain ⟨h1, h2⟩ := List.getElem?_eq_some_iff.1 hq2b
          rw [List.take_succ_eq_append_getElem h1, List.map_append, h2]
          rfl)
        clear hq1 hop hin hq2b hwb
        by_cases hs : 0 ≤ Int.tmod q1.d 1099511627776
        · have hdv : dv true q1.d = Int.tmod q1.d 1099511627776 := by unfold dv; rw [if_pos rfl, if_pos hs]
          rw [hdv] at HST
          go_wp2_with (first
            | (go_at_call 12; (with_reducible refine (change_any p F m n _ (some A5) m cap5 (cutOf q1.zs m n) (Int.tmod q1.d 1099511627776) _ (pg0 HV7.out) ((RD5.out.up HB6.out).keep K7.out (hdr_apart HV3.out OW5.out)) (pg_apart HV3.out OW5.out) (cut_len _ _ _) (by omega) (cutrow_in (by omega) (by omega)) (by omega) (by omega)).mono ?_); rintro e w8 ⟨he, F8, hnp, hnk, hnf⟩; rw [HST.out.1] at he; subst he; rw [HST.out.2] at hnp; have HV8 := Lib.hid (HV7.out.turn0 (pgT p F8 m n _) hnp hnk hnf); clear hnp hnk hnf)
            | (at_builtin; (refine app_val rfl _ _ 48 rfl w.heap.size 28 j0 (.slice none 0 0) 24 intss_u hj hj0 hj1 hj2 (by decide) hdr R.length (R.map rowHd) rfl ((rr_up (rr_of HV5.out) HB6.out).outer.alloc _) (.slice (some ⟨g6, 0, none⟩) m cap6) w6.heap.size rfl (cell_one_new _ _ _) rfl (by unfold maxLen; omega) (by omega) (by simp; omega) ?_); intro g7 cap7 w7 own7 grow7 hg7 hlt7; have hx7 := HV5.out.row_push HB6.out hs5 hg6 hl6 CL6.out hc6 hm6 RD6.out own7 grow7 hg7; rw [hRl] at hx7; have HV7 := Lib.hid hx7.1; have K7 := Lib.hid hx7.2; clear hx7 own7 grow7 hg7)
            | (go_at_call 27; (with_reducible refine (rcut_any q1.A q1.n q1.c q1.zs m n _ ((IN1.out.up HB5.out).rd) IN1.out.len (Nat.le_trans IN1.out.nc IN1.out.cm) (by omega) (by omega) (by omega)).mono ?_); rintro e w6 ⟨A6, cap6, rfl, own6, rd6, hc6, hm6, hb6⟩; obtain ⟨g6, rfl, hg6, hl6⟩ := own_block own6; have RD6 := Lib.hid rd6; have HB6 := Lib.hid hb6; have hs5 := HV5.out.below.size; have hs6 : w.heap.size ≤ w6.heap.size := Nat.le_trans hs5 HB6.out.size; clear own6 rd6 hb6)
            | (go_at_call 27; (with_reducible refine (rcut_any q1.A q1.n q1.c q1.zs m n _ IN1.out.rd IN1.out.len (Nat.le_trans IN1.out.nc IN1.out.cm) (by omega) (by omega) (by omega)).mono ?_); rintro e w5 ⟨A5, cap5, rfl, own5, rd5, hc5, hm5, hb5⟩; have cb5 := cell_up cb hb5; have cc5 := cell_up c1 hb5; have HV5 := Lib.hid (HV3.out.up hb5); have OW5 := Lib.hid (own_block own5); have RD5 := Lib.hid rd5; have HB5 := Lib.hid hb5; clear own5 rd5 hb5)
            | (go_at_call 25; (with_reducible refine (small_any q1.d _ b1.1 b1.2).mono ?_); rintro e w' ⟨rfl, rfl⟩; skip))
          go_roundw
          case rel => exact ⟨k + 1, F8, _, R ++ [(g6, cap6, cutOf q1.zs m n)], by omega, by go_num, rfl, HV8.out, by rw [HNX.out, ← HR.out]; simp [nums]⟩
          case measure => simp [intOf]; omega
        · have hdv : dv true q1.d = -Int.tmod q1.d 1099511627776 := by unfold dv; rw [if_pos rfl, if_neg hs]
          rw [hdv] at HST
          go_wp2_with (first
            | (go_at_call 12; (with_reducible refine (change_any p F m n _ (some A5) m cap5 (cutOf q1.zs m n) (-Int.tmod q1.d 1099511627776) _ (pg0 HV7.out) ((RD5.out.up HB6.out).keep K7.out (hdr_apart HV3.out OW5.out)) (pg_apart HV3.out OW5.out) (cut_len _ _ _) (by omega) (cutrow_in (by omega) (by omega)) (by omega) (by omega)).mono ?_); rintro e w8 ⟨he, F8, hnp, hnk, hnf⟩; rw [HST.out.1] at he; subst he; rw [HST.out.2] at hnp; have HV8 := Lib.hid (HV7.out.turn0 (pgT p F8 m n _) hnp hnk hnf); clear hnp hnk hnf)
            | (at_builtin; (refine app_val rfl _ _ 48 rfl w.heap.size 28 j0 (.slice none 0 0) 24 intss_u hj hj0 hj1 hj2 (by decide) hdr R.length (R.map rowHd) rfl ((rr_up (rr_of HV5.out) HB6.out).outer.alloc _) (.slice (some ⟨g6, 0, none⟩) m cap6) w6.heap.size rfl (cell_one_new _ _ _) rfl (by unfold maxLen; omega) (by omega) (by simp; omega) ?_); intro g7 cap7 w7 own7 grow7 hg7 hlt7; have hx7 := HV5.out.row_push HB6.out hs5 hg6 hl6 CL6.out hc6 hm6 RD6.out own7 grow7 hg7; rw [hRl] at hx7; have HV7 := Lib.hid hx7.1; have K7 := Lib.hid hx7.2; clear hx7 own7 grow7 hg7)
            | (go_at_call 27; (with_reducible refine (rcut_any q1.A q1.n q1.c q1.zs m n _ ((IN1.out.up HB5.out).rd) IN1.out.len (Nat.le_trans IN1.out.nc IN1.out.cm) (by omega) (by omega) (by omega)).mono ?_); rintro e w6 ⟨A6, cap6, rfl, own6, rd6, hc6, hm6, hb6⟩; obtain ⟨g6, rfl, hg6, hl6⟩ := own_block own6; have RD6 := Lib.hid rd6; have HB6 := Lib.hid hb6; have hs5 := HV5.out.below.size; have hs6 : w.heap.size ≤ w6.heap.size := Nat.le_trans hs5 HB6.out.size; clear own6 rd6 hb6)
            | (go_at_call 27; (with_reducible refine (rcut_any q1.A q1.n q1.c q1.zs m n _ IN1.out.rd IN1.out.len (Nat.le_trans IN1.out.nc IN1.out.cm) (by omega) (by omega) (by omega)).mono ?_); rintro e w5 ⟨A5, cap5, rfl, own5, rd5, hc5, hm5, hb5⟩; have cb5 := cell_up cb hb5; have cc5 := cell_up c1 hb5; have HV5 := Lib.hid (HV3.out.up hb5); have OW5 := Lib.hid (own_block own5); have RD5 := Lib.hid rd5; have HB5 := Lib.hid hb5; clear own5 rd5 hb5)
            | (go_at_call 25; (with_reducible refine (small_any q1.d _ b1.1 b1.2).mono ?_); rintro e w' ⟨rfl, rfl⟩; skip))
          go_roundw
          case rel => exact ⟨k + 1, F8, _, R ++ [(g6, cap6, cutOf q1.zs m n)], by omega, by go_num, rfl, HV8.out, by rw [HNX.out, ← HR.out]; simp [nums]⟩
          case measure => simp [intOf]; omega
      · have e : k = N := by omega
        have e1 : (opsOf false true m n qs).take k = opsOf false true m n qs := List.take_of_length_le (by rw [HOL.out]; omega)
        have e2 : qs.take k = qs.take 60 := List.take_eq_take_iff.2 (by rw [HL.out]; omega)
        have HV4 := HV3.out.erase2
        have HR4 := HR.out
        rw [e1] at HV4
        rw [e2] at HR4
        have HV9 := Lib.hid HV4
        have HR9 := Lib.hid HR4
        clear HV4 HR4 e1 e2
        go_wp2
        go_ret2
        exact ⟨p, F, hdr, R, rfl, HV9.out, HR9.out⟩
end Go.Proofs.Ytmneihdkkmgbkaa.Lin
