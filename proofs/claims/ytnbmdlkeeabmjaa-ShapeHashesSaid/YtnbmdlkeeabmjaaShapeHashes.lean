/- The statement ShapeHashes of layer 7 holds. Printed by wip/gen/shplaws.py. -/
import Derived.Test.YtnbmdlkeeabmjaaShpLawA
import Derived.Test.YtnbmdlkeeabmjaaSedOne
import Derived.Deep.LoopGhost
import Derived.Deep.RegionHeld3
import Derived.Deep.MidRow
import Derived.Deep.DeepCutAuto
import Derived.Deep.QuietTactic
import Derived.BigQuiet
namespace Go.Proofs.Ytnbmdlkeeabmjaa.Shp
open Go Go.RowKit Lw
set_option linter.unusedVariables false
set_option linter.unusedSimpArgs false
theorem open_ask_c : Try.prog.cellsOf 36 = 8 := by kernel_rfl
theorem open_ask {H : Type} {enc : TypeId × Value → H} {w : World} {v : Value} {d : DataW H} {p : List MemPlace} {base : Nat} (hv : Value.okWide Try.prog w .any base 36 v)
    (h : DataW.Trod enc Try.prog w 0 (fun _ => true) true 36 v d p) :
    ∃ (x0 x1 x2 x3 x4 x5 x6 x7 : Int), v = .agg #[.int .i64 x0, .int .i64 x1, .int .i64 x2, .int .i64 x3, .int .u64 x4, .int .i64 x5, .int .u64 x6, .int .i64 x7] ∧ (⟨x0, x1, x2, x3, x4⟩ : Cfg).Ok ∧ (-9223372036854775808 ≤ x5 ∧ x5 ≤ 9223372036854775807) ∧ (0 ≤ x6 ∧ x6 ≤ 18446744073709551615) ∧ (-9223372036854775808 ≤ x7 ∧ x7 ≤ 9223372036854775807) := by
  have hcs : ∃ cs : Array Value, v = .agg cs ∧ cs.size = Try.prog.cellsOf 36 := by
    simp only [Value.okWide, Try.underlying36] at hv
    obtain ⟨cs, h1, h2, _⟩ := hv
    exact ⟨cs, h1, h2⟩
  obtain ⟨⟨l⟩, rfl, hsz⟩ := hcs
  rw [open_ask_c] at hsz
  obtain ⟨fuel, hf0⟩ := h
  obtain ⟨xs, k, _, _, _, hxl, hf⟩ := DataW.trod_struct Try.underlying36 hf0
  match xs, hxl, l, hsz with
  | [y0, y1, y2, y3], _, [v0, v1, v2, v3, v4, v5, v6, v7], _ =>
    have g0 := hf 0 _ rfl
    have g1 := hf 1 _ rfl
    have g2 := hf 2 _ rfl
    have g3 := hf 3 _ rfl
    simp [Value.cells, show Try.prog.cellsOf 3 = 1 from by kernel_rfl, show Try.prog.cellsOf 22 = 1 from by kernel_rfl, show Try.prog.cellsOf 24 = 5 from by kernel_rfl] at g0 g1 g2 g3
    obtain ⟨x5, f5, _, w5⟩ := DataW.trod_int (show Try.prog.underlying 3 = some (.int .i64) by kernel_rfl) g1
    obtain ⟨x6, f6, _, w6⟩ := DataW.trod_int (show Try.prog.underlying 22 = some (.int .u64) by kernel_rfl) g2
    obtain ⟨x7, f7, _, w7⟩ := DataW.trod_int (show Try.prog.underlying 3 = some (.int .i64) by kernel_rfl) g3
    simp at f5 f6 f7
    subst f5 f6 f7
    obtain ⟨zs, k2, _, _, _, hzl, hg⟩ := DataW.trod_struct Try.underlying24 g0
    match zs, hzl with
    | [z0, z1, z2, z3, z4], _ =>
      have e0 := hg 0 _ rfl
      have e1 := hg 1 _ rfl
      have e2 := hg 2 _ rfl
      have e3 := hg 3 _ rfl
      have e4 := hg 4 _ rfl
      simp [Value.cells, show Try.prog.cellsOf 3 = 1 from by kernel_rfl, show Try.prog.cellsOf 22 = 1 from by kernel_rfl] at e0 e1 e2 e3 e4
      obtain ⟨x0, f0, _, w0⟩ := DataW.trod_int (show Try.prog.underlying 3 = some (.int .i64) by kernel_rfl) e0
      obtain ⟨x1, f1, _, w1⟩ := DataW.trod_int (show Try.prog.underlying 3 = some (.int .i64) by kernel_rfl) e1
      obtain ⟨x2, f2, _, w2⟩ := DataW.trod_int (show Try.prog.underlying 3 = some (.int .i64) by kernel_rfl) e2
      obtain ⟨x3, f3, _, w3⟩ := DataW.trod_int (show Try.prog.underlying 3 = some (.int .i64) by kernel_rfl) e3
      obtain ⟨x4, f4, _, w4⟩ := DataW.trod_int (show Try.prog.underlying 22 = some (.int .u64) by kernel_rfl) e4
      simp at f0 f1 f2 f3 f4
      subst f0 f1 f2 f3 f4
      exact ⟨x0, x1, x2, x3, x4, x5, x6, x7, rfl, ⟨(Lw.wf_i64 w0).1, (Lw.wf_i64 w0).2, (Lw.wf_i64 w1).1, (Lw.wf_i64 w1).2, (Lw.wf_i64 w2).1, (Lw.wf_i64 w2).2, (Lw.wf_i64 w3).1, (Lw.wf_i64 w3).2, (Lw.wf_u64 w4).1, (Lw.wf_u64 w4).2⟩, Lw.wf_i64 w5, Lw.wf_u64 w6, Lw.wf_i64 w7⟩
set_option maxRecDepth 100000 in
set_option maxHeartbeats 4000000 in
theorem hashes_law (c : Cfg) (l k r : Int) (w : World) (h : c.Ok) (l0 : -9223372036854775808 ≤ l) (l1 : l ≤ 9223372036854775807) (k0 : 0 ≤ k) (k1 : k ≤ 18446744073709551615) (r0 : -9223372036854775808 ≤ r) (r1 : r ≤ 9223372036854775807) :
    Calls Try.prog 5 #[.agg #[.int .i64 c.bt, .int .i64 c.rw, .int .i64 c.wd, .int .i64 c.md, .int .u64 c.sd, .int .i64 l, .int .u64 k, .int .i64 r]] w fun e w' => e = .returned (.bool true) ∧ Below w.heap.size w w' := by
  have HO := Lib.hid h
  obtain ⟨C, hC⟩ : ∃ C, anyC c 59 128 = C := ⟨_, rfl⟩
  have hr : IsRight C := by rw [← hC]; exact any_right c 59 128 (by omega) (by omega) (by omega) (by omega)
  have hok : C.Ok := by rw [← hC]; exact any_ok c h 59 128 (by omega) (by omega) (by omega) (by omega)
  have HC := Lib.hid hC
  have HK := Lib.hid hok
  have HRI := Lib.hid hr
  obtain ⟨q1, q2, q3, q4, q5, q6, q7, q8⟩ := hr
  clear hC h hok
  obtain ⟨X, L, a1, a2, a3, a4, a5, a6⟩ := level_of l (C.bt + 1) (by omega) (by omega)
  obtain ⟨Y, R, d1, d2, d3, d4, d5, d6⟩ := level_of r C.rw q3 (by omega)
  obtain ⟨Rn, rfl⟩ : ∃ Rn : Nat, R = Rn := ⟨R.toNat, by omega⟩
  have g0 := keys_pos.2 ⟨HRI.out, a5, (by omega : L ≤ C.bt)⟩
  have g1 := keys_bd C L
  have HQ1 := Lib.hid (Int.emod_nonneg k (show keys C L ≠ 0 by omega))
  have HQ2 := Lib.hid (Int.emod_lt_of_pos k (show 0 < keys C L by omega))
  have HQ3 : Hid (Int.tmod k (keys C L) = k % keys C L) := Lib.hid (Int.tmod_eq_emod_of_nonneg k0)
  have HQ5 : Hid ((cols C L (k % keys C L)).length = C.rw.toNat) := Lib.hid (by rw [cols_len, if_pos HQ2.out])
  have HQ6 : Hid (cols C L (k % keys C L) = (List.range C.rw.toNat).map (col C L (k % keys C L))) := Lib.hid (if_pos HQ2.out)
  obtain ⟨K, hK⟩ : ∃ K, keys C L = K := ⟨_, rfl⟩
  obtain ⟨Q, hQ⟩ : ∃ Q, k % K = Q := ⟨_, rfl⟩
  rw [hK, hQ] at HQ1 HQ3 HQ5 HQ6
  rw [hK, hQ] at HQ2
  rw [hK] at g0 g1
  have t1 := HQ1.out
  have t2 := HQ2.out
  have t3 := HQ3.out
  have hK0 : ¬ K = 0 := by omega
  obtain ⟨n, hn⟩ : ∃ n : Nat, C.rw.toNat = n := ⟨_, rfl⟩
  have hn2 : C.rw = (n : Int) := by omega
  have hrn : (Rn : Int) < n := by omega
  obtain ⟨V, hV⟩ : ∃ V, col C L Q Rn = V := ⟨_, rfl⟩
  have hvb := col_range HRI.out L Q Rn
  rw [hV] at hvb
  have HGET : Hid ((cols C L Q)[Rn]? = some V) := Lib.hid (by
    rw [HQ6.out, List.getElem?_map, List.getElem?_range (by omega)]
    show some (col C L Q Rn) = some V
    rw [hV])
  rw [hn] at HQ5
  obtain ⟨pa, hpa⟩ : ∃ pa, Sed.pairA C.sd L Rn = pa := ⟨_, rfl⟩
  obtain ⟨pb, hpb⟩ : ∃ pb, Sed.pairB C.sd L Rn = pb := ⟨_, rfl⟩
  have hokr : Sed.okRow L Rn := ⟨a5, by omega, by omega, by omega⟩
  have ba := Sed.pairA_bd C.sd L Rn hokr
  have bb := Sed.pairB_bd C.sd L Rn hokr
  rw [hpa] at ba
  rw [hpb] at bb
  have hbk : Hsh.buck pa pb Q C.wd = V := by rw [← hV, ← hpa, ← hpb]; rfl
  have HBK := Lib.hid hbk
  have HPA := Lib.hid hpa
  have HPB := Lib.hid hpb
  have HKK := Lib.hid hK
  have HNR := Lib.hid hn2
  have heq : ((n : Int) == C.rw) = true := by simp [hn2]
  have u1 : IntKind.i64.wrap (C.bt + 1) = C.bt + 1 := IntWalk.i64_in _ ⟨by omega, by omega⟩
  have nb : ¬ C.bt + 1 = 0 := by omega
  have nr : ¬ C.rw = 0 := by omega
  clear hV hbk hpa hpb hK hn2 hn hokr g0
  go_enter Try.func5, Try.ntmps5
  go_wp2_with (first
    | (go_at_call 9; (with_reducible refine (shown_any _).mono ?_); rintro e w1 ⟨rfl, hb⟩; have HV := Lib.hid ((box_new w _ _).up hb); clear hb; have x0 := box_cell (bx0 HV.out) (i := 0) rfl; have x1 := box_cell (bx0 HV.out) (i := 1) rfl; have x2 := box_cell (bx0 HV.out) (i := 2) rfl; have x3 := box_cell (bx0 HV.out) (i := 3) rfl; have x4 := box_cell (bx0 HV.out) (i := 4) rfl; have x5 := box_cell (bx0 HV.out) (i := 5) rfl; have x6 := box_cell (bx0 HV.out) (i := 6) rfl; have x7 := box_cell (bx0 HV.out) (i := 7) rfl; have hlt : w.heap.size < w1.heap.size := box_lt (bx0 HV.out))
    | (go_at_call 21; (with_reducible refine (rany_at c 59 128 C _ HO.out (by omega) (by omega) (by omega) (by omega) HC.out).mono ?_); rintro e w2 ⟨rfl, hb⟩; have HV2 := Lib.hid (HV.out.up (below_call (by repeat' (first | (with_reducible exact Below.refl _ _) | (with_reducible assumption) | (with_reducible refine below_over ?_ _ _) | (with_reducible refine Lw.below_alloc ?_ _) | (with_reducible refine Below.drew ?_) | (with_reducible refine below_drewN ?_ _) | (with_reducible refine Below.setCell ?_ ?_ _) | go_size)) hb (Nat.le_refl _))); have HBW : Hid (Below w1.heap.size w1 w2) := Lib.hid (below_call (by repeat' (first | (with_reducible exact Below.refl _ _) | (with_reducible assumption) | (with_reducible refine below_over ?_ _ _) | (with_reducible refine Lw.below_alloc ?_ _) | (with_reducible refine Below.drew ?_) | (with_reducible refine below_drewN ?_ _) | (with_reducible refine Below.setCell ?_ ?_ _) | go_size)) hb (Nat.le_refl _)); clear hb; have HV3 := Lib.hid (HV2.out.push (boxT w2.heap.size 24 #[.int .i64 C.bt, .int .i64 C.rw, .int .i64 C.wd, .int .i64 C.md, .int .u64 C.sd]) (Lw.below_alloc (Below.refl _ _) (.cells #[.int .i64 C.bt, .int .i64 C.rw, .int .i64 C.wd, .int .i64 C.md, .int .u64 C.sd] 24)) (heap_alloc_new w2 _) (fun k hk => Nat.le_of_eq hk.symm)); have y0 := box_cell (bx0 HV3.out) (i := 0) rfl; have y1 := box_cell (bx0 HV3.out) (i := 1) rfl; have y2 := box_cell (bx0 HV3.out) (i := 2) rfl; have y3 := box_cell (bx0 HV3.out) (i := 3) rfl; have y4 := box_cell (bx0 HV3.out) (i := 4) rfl; have x5b := box_cell (bx1 HV3.out) (i := 5) rfl; have x6b := box_cell (bx1 HV3.out) (i := 6) rfl; have x7b := box_cell (bx1 HV3.out) (i := 7) rfl; have hlt3 : w.heap.size < w2.heap.size := box_lt (bx0 HV2.out)))
  go_region_held3 (fun w' => w'.cell? ⟨w2.heap.size, 0, none⟩ = some (.int .i64 C.bt) ∧ w'.cell? ⟨w2.heap.size, 1, none⟩ = some (.int .i64 C.rw) ∧ w'.cell? ⟨w2.heap.size, 2, none⟩ = some (.int .i64 C.wd) ∧ w'.cell? ⟨w2.heap.size, 3, none⟩ = some (.int .i64 C.md) ∧ w'.cell? ⟨w2.heap.size, 4, none⟩ = some (.int .u64 C.sd) ∧ w'.cell? ⟨w.heap.size, 6, none⟩ = some (.int .u64 k)) (refine ⟨cell_up y0 ?_, cell_up y1 ?_, cell_up y2 ?_, cell_up y3 ?_, cell_up y4 ?_, cell_up x6b ?_⟩ <;> (repeat' (first | (with_reducible exact Below.refl _ _) | (with_reducible assumption) | (with_reducible refine below_over ?_ _ _) | (with_reducible refine Lw.below_alloc ?_ _) | (with_reducible refine Below.drew ?_) | (with_reducible refine below_drewN ?_ _) | (with_reducible refine Below.setCell ?_ ?_ _) | go_size))) (first
      | (go_at_call 13; (with_reducible refine (rkeys_any C L _ HK.out (by omega) (by omega)).mono ?_); rintro e w3 ⟨he, hb⟩; rw [HKK.out] at he; subst he; have HV4 := Lib.hid (HV3.out.up (below_call (by repeat' (first | (with_reducible exact Below.refl _ _) | (with_reducible assumption) | (with_reducible refine below_over ?_ _ _) | (with_reducible refine Lw.below_alloc ?_ _) | (with_reducible refine Below.drew ?_) | (with_reducible refine below_drewN ?_ _) | (with_reducible refine Below.setCell ?_ ?_ _) | go_size)) hb (Nat.le_refl _))); have HB4 := Lib.hid hb; obtain ⟨bs, d, rfl⟩ := below_grow hb; clear hb))
  go_wp2_with (first
    | (go_at_call 19; (with_reducible refine (columns_at C L Q n _ HQ5.out HK.out (by omega) (by omega) (by omega) (by omega)).mono ?_); rintro e w5 ⟨A5, cap5, rfl, hr5, hc5, hm5, hb⟩; have HV5 := Lib.hid (HV3.out.up (below_call (by repeat' (first | (with_reducible exact Below.refl _ _) | (with_reducible assumption) | (with_reducible refine below_over ?_ _ _) | (with_reducible refine Lw.below_alloc ?_ _) | (with_reducible refine Below.drew ?_) | (with_reducible refine below_drewN ?_ _) | (with_reducible refine Below.setCell ?_ ?_ _) | go_size)) hb (Nat.le_refl _))); have HBW5 := Lib.hid hb; clear hb; obtain ⟨ad, rfl, hcl⟩ := hr5 Rn V HGET.out; clear hr5; have v0 := box_cell (bx0 HV5.out) (i := 0) rfl; have v1 := box_cell (bx0 HV5.out) (i := 1) rfl; have v2 := box_cell (bx0 HV5.out) (i := 2) rfl; have v3 := box_cell (bx0 HV5.out) (i := 3) rfl; have v4 := box_cell (bx0 HV5.out) (i := 4) rfl; have hlt5 : w2.heap.size < w5.heap.size := box_lt (bx0 HV5.out))
    | (go_at_call 22; (with_reducible refine (Sed.pair_any C.sd L Rn _ (by omega) (by omega) (by omega) (by omega)).mono ?_); rintro e w' ⟨he, hb⟩; rw [HPA.out, HPB.out] at he; subst he; obtain ⟨bs, d, rfl⟩ := below_grow hb; clear hb))
  go_region_held3 (fun w' => w'.cell? ⟨w2.heap.size, 0, none⟩ = some (.int .i64 C.bt) ∧ w'.cell? ⟨w2.heap.size, 1, none⟩ = some (.int .i64 C.rw) ∧ w'.cell? ⟨w2.heap.size, 2, none⟩ = some (.int .i64 C.wd) ∧ w'.cell? ⟨w2.heap.size, 3, none⟩ = some (.int .i64 C.md) ∧ w'.cell? ⟨w2.heap.size, 4, none⟩ = some (.int .u64 C.sd) ∧ w'.cell? (ad.add Rn) = some (.int .i64 V)) (refine ⟨cell_up v0 ?_, cell_up v1 ?_, cell_up v2 ?_, cell_up v3 ?_, cell_up v4 ?_, cell_up hcl ?_⟩ <;> (repeat' (first | (with_reducible exact Below.refl _ _) | (with_reducible assumption) | (with_reducible refine below_over ?_ _ _) | (with_reducible refine Lw.below_alloc ?_ _) | (with_reducible refine Below.drew ?_) | (with_reducible refine below_drewN ?_ _) | (with_reducible refine Below.setCell ?_ ?_ _) | go_size))) (first
      | (go_at_call 23; (with_reducible refine (Hsh.bucket_any pa pb Q C.wd _ (by omega) (by omega) (by omega) (by omega) (by omega) (by omega) (by omega) (by omega)).mono ?_); rintro e w' ⟨he, hb⟩; rw [HBK.out] at he; subst he; obtain ⟨bs, d, rfl⟩ := below_grow hb; clear hb))
  all_goals go_wp2
  all_goals go_ret
  all_goals exact ⟨ret_b (by first | rfl | (simp [*]; done)), below_call HV5.out.below (by repeat' (first | (with_reducible exact Below.refl _ _) | (with_reducible assumption) | (with_reducible refine below_over ?_ _ _) | (with_reducible refine Lw.below_alloc ?_ _) | (with_reducible refine Below.drew ?_) | (with_reducible refine below_drewN ?_ _) | (with_reducible refine Below.setCell ?_ ?_ _) | go_size)) (Nat.le_refl _)⟩
namespace shapeHashes
open Go.ChangeShapes Go.WideShapes Go.ChangeAt Go.Joins
set_option maxRecDepth 100000 in
theorem lifted (os : Os) (started : os.Started) (H : Type) (enc : TypeId × Value → H) :
    ReturnsInHanded {} Try.checked os 5 .any (Rows.shapeHashesSpec.pre6 enc Try.prog Try.f5 Rows.shapeHashesRow.domain false) (Rows.shapeHashesSpec.post enc Try.prog Try.f5 false true false false) := by
  refine Lw.lifted (C := Try.checked) (B := 4) (by kernel_rfl) os started (by kernel_rfl) Try.func5
    (ChangeSpec.witness6 (enc := enc) (C := Try.checked) false ⟨#[], #[.agg #[.int .i64 0, .int .i64 0, .int .i64 0, .int .i64 0, .int .u64 0, .int .i64 0, .int .u64 0, .int .i64 0]], []⟩ 8 (by kernel_rfl) (by kernel_rfl) (by kernel_rfl) (by kernel_rfl)) rfl Try.underlying4 (by kernel_rfl) (by kernel_rfl) (by kernel_rfl) ?_ ?_
  · intro ds h
    rw [Try.params5] at h
    match ds, h with
    | [_], _ => rfl
  · intro W base args ds p hval hA
    rw [Try.params5] at hA hval
    obtain ⟨v0, vs0, d0, ds0, p0, q0, hargs, rfl, rfl, h0, r0⟩ := trodAll_cons hA
    obtain ⟨rfl, rfl, rfl⟩ := trodAll_nil r0
    obtain rfl : args = #[v0] := by cases args; simp_all
    obtain ⟨x0, x1, x2, x3, x4, x5, x6, x7, rfl, zo, z5, z6, z7⟩ := open_ask (hval 0 36 v0 rfl rfl) h0
    exact hashes_law ⟨x0, x1, x2, x3, x4⟩ x5 x6 x7 W zo z5.1 z5.2 z6.1 z6.2 z7.1 z7.2
theorem over : Rows.shapeHashesRow.holds Try.pinned (OpenSpec.ofChange Rows.shapeHashesSpec) :=
  OpenClaim.holds_of_wide 5 Try.f5 rfl rfl rfl rfl rfl rfl rfl ⟨rfl, rfl, rfl, rfl, rfl⟩ rfl rfl rfl rfl rfl (by kernel_rfl) Try.func5 (by kernel_rfl)
    (of_decide_eq_true (by kernel_rfl)) (by unfold Func.isWrapper; first | (rw [if_pos (by decide +kernel)]; kernel_rfl) | (rw [if_neg (by decide +kernel)]; exact ⟨rfl, rfl⟩))
    (fun os started H enc _ => lifted os started H enc)
theorem proved : Rows.ShapeHashesSaid :=
  over
#print axioms proved
end shapeHashes
end Go.Proofs.Ytnbmdlkeeabmjaa.Shp
