/- Texts that the statements of this seat lean on, put together: SkLawA, SkMath, SkOth, SkFed, SkShown, SkPtA, SkOne. -/
import Derived.Test.YtahgkiceifblmaaMa
import Derived.Test.YtahgkiceifblmaaMd
import Derived.Test.YtahgkiceifblmaaMe
import Derived.Test.YtahgkiceifblmaaMf
import Derived.Deep.LoopGhost
import Derived.Deep.RegionHeld3
import Derived.Deep.DeepCutAuto
import Derived.Deep.QuietTactic
import Derived.BigQuiet
/- What the statements of layer 10 lean on. Printed by wip/gen/sklaws.py. -/
namespace Go.Proofs.Ytahgkiceifblmaa.Sk
open Go Go.RowKit Lw Grd Lin Con Shp
set_option linter.unusedVariables false
set_option linter.unusedSimpArgs false
theorem ret_bs {a b : Bool} (h : a = b) : Ending.returned (.bool a) = Ending.returned (.bool b) := by rw [h]
theorem ret_is {k : IntKind} {a b : Int} (h : a = b) : Ending.returned (.int k a) = .returned (.int k b) := by rw [h]
set_option maxRecDepth 100000 in
theorem open_cfg_c : Try.prog.cellsOf 24 = 5 := by kernel_rfl
set_option maxRecDepth 100000 in
theorem open_cfg {H : Type} {enc : TypeId × Value → H} {w : World} {v : Value} {d : DataW H} {p : List MemPlace} {base : Nat} (hv : Value.okWide Try.prog w .any base 24 v)
    (h : DataW.Trod enc Try.prog w 0 (fun _ => true) true 24 v d p) :
    ∃ (x0 : Int) (x1 : Int) (x2 : Int) (x3 : Int) (x4 : Int), v = .agg #[.int .i64 x0, .int .i64 x1, .int .i64 x2, .int .i64 x3, .int .u64 x4] ∧ (-9223372036854775808 ≤ x0 ∧ x0 ≤ 9223372036854775807) ∧ (-9223372036854775808 ≤ x1 ∧ x1 ≤ 9223372036854775807) ∧ (-9223372036854775808 ≤ x2 ∧ x2 ≤ 9223372036854775807) ∧ (-9223372036854775808 ≤ x3 ∧ x3 ≤ 9223372036854775807) ∧ (0 ≤ x4 ∧ x4 ≤ 18446744073709551615) := by
  have hcs : ∃ cs : Array Value, v = .agg cs ∧ cs.size = Try.prog.cellsOf 24 := by
    simp only [Value.okWide, Try.underlying24] at hv
    obtain ⟨cs, h1, h2, _⟩ := hv
    exact ⟨cs, h1, h2⟩
  obtain ⟨⟨l⟩, rfl, hsz⟩ := hcs
  rw [open_cfg_c] at hsz
  obtain ⟨fuel, hf0⟩ := h
  obtain ⟨xs, k, _, _, _, hxl, hf⟩ := DataW.trod_struct Try.underlying24 hf0
  match xs, hxl, l, hsz with
  | [y0, y1, y2, y3, y4], _, [v0, v1, v2, v3, v4], _ =>
    have g0 := hf 0 _ rfl
    have g1 := hf 1 _ rfl
    have g2 := hf 2 _ rfl
    have g3 := hf 3 _ rfl
    have g4 := hf 4 _ rfl
    simp [Value.cells, show Try.prog.cellsOf 3 = 1 from by kernel_rfl, show Try.prog.cellsOf 22 = 1 from by kernel_rfl] at g0 g1 g2 g3 g4
    obtain ⟨x0, f0, _, w0⟩ := DataW.trod_int (show Try.prog.underlying 3 = some (.int .i64) by kernel_rfl) g0
    simp at f0
    subst f0
    obtain ⟨x1, f1, _, w1⟩ := DataW.trod_int (show Try.prog.underlying 3 = some (.int .i64) by kernel_rfl) g1
    simp at f1
    subst f1
    obtain ⟨x2, f2, _, w2⟩ := DataW.trod_int (show Try.prog.underlying 3 = some (.int .i64) by kernel_rfl) g2
    simp at f2
    subst f2
    obtain ⟨x3, f3, _, w3⟩ := DataW.trod_int (show Try.prog.underlying 3 = some (.int .i64) by kernel_rfl) g3
    simp at f3
    subst f3
    obtain ⟨x4, f4, _, w4⟩ := DataW.trod_int (show Try.prog.underlying 22 = some (.int .u64) by kernel_rfl) g4
    simp at f4
    subst f4
    exact ⟨x0, x1, x2, x3, x4, rfl, Lw.wf_i64 w0, Lw.wf_i64 w1, Lw.wf_i64 w2, Lw.wf_i64 w3, Lw.wf_u64 w4⟩
theorem open_upds_u : Try.prog.underlying 25 = some (.slice 34) := by kernel_rfl
theorem open_upds_c : Try.prog.cellsOf 34 = 2 := by kernel_rfl
set_option maxRecDepth 100000 in
theorem open_upds {H : Type} {enc : TypeId × Value → H} {w : World} {base fuel : Nat} {spare : Nat → Bool} {held : Bool} {cs : List Value} {x : DataW H × List MemPlace} (h : DataW.trod enc Try.prog w base spare held fuel 25 cs = some x) :
    ∃ (A : Option Addr) (len cap : Nat) (qs : List (Int × Int)), cs = [.slice A len cap] ∧ (A = none → len = 0 ∧ cap = 0) ∧ len ≤ cap ∧ cap ≤ maxLen ∧ qs.length = len ∧ ∀ (i : Nat) q, qs[i]? = some q → ∃ a, A = some a ∧ w.cell? (a.add (i * 2)) = some (.int .u64 (q.1)) ∧ w.cell? (a.add (i * 2 + 1)) = some (.int .i64 (q.2)) ∧ (0 ≤ (q.1) ∧ (q.1) ≤ 18446744073709551615) ∧ (-9223372036854775808 ≤ (q.2) ∧ (q.2) ≤ 9223372036854775807) := by
  rcases Go.Deep.open_slice open_upds_u h with ⟨rfl, _⟩ | ⟨a, len, cap, m, n, D, Pl, rfl, hb, hl, hm, hmm, _, hx⟩
  · exact ⟨none, 0, 0, [], rfl, fun _ => ⟨rfl, rfl⟩, Nat.le_refl _, by simp, rfl, fun i q hq => by simp at hq⟩
  have hlm : len ≤ m := by rw [hmm]; split <;> omega
  have each : ∀ i, i < len → ∃ q : Int × Int, w.cell? (a.add (i * 2)) = some (.int .u64 (q.1)) ∧ w.cell? (a.add (i * 2 + 1)) = some (.int .i64 (q.2)) ∧ (0 ≤ (q.1) ∧ (q.1) ≤ 18446744073709551615) ∧ (-9223372036854775808 ≤ (q.2) ∧ (q.2) ≤ 9223372036854775807) := by
    intro i hi
    obtain ⟨cs', h1, h2⟩ := hx i (by omega)
    rw [open_upds_c] at h1
    obtain ⟨_, hlen, hcell⟩ := World.cells?_some h1
    obtain ⟨xs, k, _, _, _, hxl, hf⟩ := DataW.trod_struct Try.underlying34 h2
    match xs, hxl, cs', hlen with
    | [y0, y1], _, [v0, v1], _ =>
      have g0 := hf 0 _ rfl
      have g1 := hf 1 _ rfl
      have e0 := hcell 0 (by omega)
      have e1 := hcell 1 (by omega)
      rw [add_add'] at e0 e1
      simp [show Try.prog.cellsOf 22 = 1 from by kernel_rfl, show Try.prog.cellsOf 2 = 1 from by kernel_rfl] at g0 g1
      obtain ⟨x0, f0, _, w0⟩ := DataW.trod_int (show Try.prog.underlying 22 = some (.int .u64) by kernel_rfl) g0
      obtain ⟨x1, f1, _, w1⟩ := DataW.trod_int (show Try.prog.underlying 2 = some (.int .i64) by kernel_rfl) g1
      simp at f0 f1
      subst f0 f1
      exact ⟨(x0, x1), by simpa using e0, by simpa using e1, Lw.wf_u64 w0, Lw.wf_i64 w1⟩
  have each2 : ∀ i, ∃ q : Int × Int, i < len → (w.cell? (a.add (i * 2)) = some (.int .u64 (q.1)) ∧ w.cell? (a.add (i * 2 + 1)) = some (.int .i64 (q.2)) ∧ (0 ≤ (q.1) ∧ (q.1) ≤ 18446744073709551615) ∧ (-9223372036854775808 ≤ (q.2) ∧ (q.2) ≤ 9223372036854775807)) := fun i => by
    by_cases hi : i < len
    · obtain ⟨q, hq⟩ := each i hi
      exact ⟨q, fun _ => hq⟩
    · exact ⟨(0, 0), fun h => absurd h hi⟩
  refine ⟨some a, len, cap, (List.range len).map fun i => Classical.choose (each2 i), rfl, (fun h => by cases h), hl, hm, by simp, ?_⟩
  intro i q hq
  rw [List.getElem?_map] at hq
  obtain ⟨j, hj, rfl⟩ := Option.map_eq_some_iff.1 hq
  have hj2 := List.getElem?_eq_some_iff.1 hj
  obtain ⟨hj3, hj4⟩ := hj2
  simp at hj3 hj4
  subst hj4
  exact ⟨a, rfl, Classical.choose_spec (each2 i) hj3⟩
/-- A row of updates, handed in. -/
structure UpdV (w : World) (A : Option Addr) (n c : Nat) (qs : Ups) : Prop where
  nil : A = none → n = 0 ∧ c = 0
  nc : n ≤ c
  cm : c ≤ maxLen
  len : qs.length = n
  each : ∀ (i : Nat) q, qs[i]? = some q → ∃ a, A = some a ∧ w.cell? (a.add (i * 2)) = some (.int .u64 (q.1)) ∧ w.cell? (a.add (i * 2 + 1)) = some (.int .i64 (q.2)) ∧ (0 ≤ (q.1) ∧ (q.1) ≤ 18446744073709551615) ∧ (-9223372036854775808 ≤ (q.2) ∧ (q.2) ≤ 9223372036854775807)
theorem UpdV.up {w w' : World} {A : Option Addr} {n c : Nat} {qs : Ups} (h : UpdV w A n c qs) (hb : Below w.heap.size w w') : UpdV w' A n c qs :=
  ⟨h.nil, h.nc, h.cm, h.len, fun i q hq => by
    obtain ⟨a, e, h1, h2, h3⟩ := h.each i q hq
    exact ⟨a, e, cell_up h1 hb, cell_up h2 hb, h3⟩⟩
theorem UpdV.at {w : World} {A : Option Addr} {n c : Nat} {qs : Ups} (h : UpdV w A n c qs) {i : Nat} {q : Int × Int} (hq : qs[i]? = some q) : ∃ (a : Addr) (g o : Nat), A = some a ∧ a.add (i * 2) = ⟨g, o, none⟩ ∧ w.cell? ⟨g, o, none⟩ = some (.int .u64 q.1) ∧ w.cell? ⟨g, o + 1, none⟩ = some (.int .i64 q.2) ∧ (0 ≤ q.1 ∧ q.1 ≤ 18446744073709551615) ∧ (-9223372036854775808 ≤ q.2 ∧ q.2 ≤ 9223372036854775807) := by
  obtain ⟨a, e, h1, h2, h3, h4⟩ := h.each i q hq
  rw [← add_add'] at h2
  have hs : (a.add (i * 2)).spot = none := by
    unfold World.cell? at h1
    split at h1
    · split at h1
      · cases h1
      · rename_i hs; simpa using hs
    · cases h1
  obtain ⟨ad, had⟩ : ∃ ad, a.add (i * 2) = ad := ⟨_, rfl⟩
  rw [had] at h1 h2 hs
  obtain ⟨g, o, sp⟩ := ad
  simp only at hs
  subst hs
  rw [Ord.add_at] at h2
  exact ⟨a, g, o, e, had, h1, h2, h3, h4⟩
theorem open_playS_c : Try.prog.cellsOf 27 = 7 := by kernel_rfl
set_option maxRecDepth 100000 in
theorem open_playS {H : Type} {enc : TypeId × Value → H} {w : World} {v : Value} {d : DataW H} {p : List MemPlace} {base : Nat} (hv : Value.okWide Try.prog w .any base 27 v)
    (h : DataW.Trod enc Try.prog w 0 (fun _ => true) true 27 v d p) :
    ∃ (c : Cfg) (lv : Int) (A : Option Addr) (n k : Nat) (qs : Ups), v = .agg #[.int .i64 c.bt, .int .i64 c.rw, .int .i64 c.wd, .int .i64 c.md, .int .u64 c.sd, .int .i64 lv, .slice A n k] ∧ c.Ok ∧ (-9223372036854775808 ≤ lv ∧ lv ≤ 9223372036854775807) ∧ UpdV w A n k qs := by
  have hcs : ∃ cs : Array Value, v = .agg cs ∧ cs.size = Try.prog.cellsOf 27 := by
    simp only [Value.okWide, Try.underlying27] at hv
    obtain ⟨cs, h1, h2, _⟩ := hv
    exact ⟨cs, h1, h2⟩
  obtain ⟨⟨l⟩, rfl, hsz⟩ := hcs
  rw [open_playS_c] at hsz
  obtain ⟨fuel, hf0⟩ := h
  obtain ⟨xs, k, _, _, _, hxl, hf⟩ := DataW.trod_struct Try.underlying27 hf0
  match xs, hxl, l, hsz with
  | [y0, y1, y2], _, [v0, v1, v2, v3, v4, v5, v6], _ =>
    have g0 := hf 0 _ rfl
    have g1 := hf 1 _ rfl
    have g2 := hf 2 _ rfl
    simp [Value.cells, show Try.prog.cellsOf 3 = 1 from by kernel_rfl, show Try.prog.cellsOf 24 = 5 from by kernel_rfl, show Try.prog.cellsOf 25 = 1 from by kernel_rfl] at g0 g1 g2
    obtain ⟨zs, k2, _, _, _, hzl, hz⟩ := DataW.trod_struct Try.underlying24 g0
    match zs, hzl with
    | [z0, z1, z2, z3, z4], _ =>
      have c0 := hz 0 _ rfl
      have c1 := hz 1 _ rfl
      have c2 := hz 2 _ rfl
      have c3 := hz 3 _ rfl
      have c4 := hz 4 _ rfl
      simp [show Try.prog.cellsOf 3 = 1 from by kernel_rfl, show Try.prog.cellsOf 22 = 1 from by kernel_rfl] at c0 c1 c2 c3 c4
      obtain ⟨x0, f0, _, w0⟩ := DataW.trod_int (show Try.prog.underlying 3 = some (.int .i64) by kernel_rfl) c0
      simp at f0
      subst f0
      obtain ⟨x1, f1, _, w1⟩ := DataW.trod_int (show Try.prog.underlying 3 = some (.int .i64) by kernel_rfl) c1
      simp at f1
      subst f1
      obtain ⟨x2, f2, _, w2⟩ := DataW.trod_int (show Try.prog.underlying 3 = some (.int .i64) by kernel_rfl) c2
      simp at f2
      subst f2
      obtain ⟨x3, f3, _, w3⟩ := DataW.trod_int (show Try.prog.underlying 3 = some (.int .i64) by kernel_rfl) c3
      simp at f3
      subst f3
      obtain ⟨x4, f4, _, w4⟩ := DataW.trod_int (show Try.prog.underlying 22 = some (.int .u64) by kernel_rfl) c4
      simp at f4
      subst f4
      obtain ⟨x5, f5, _, w5⟩ := DataW.trod_int (show Try.prog.underlying 3 = some (.int .i64) by kernel_rfl) g1
      simp at f5
      subst f5
      obtain ⟨A, n, cp, qs, f6, h0, h1, h2, h3, h4⟩ := open_upds g2
      simp at f6
      subst f6
      have b0 := Lw.wf_i64 w0
      have b1 := Lw.wf_i64 w1
      have b2 := Lw.wf_i64 w2
      have b3 := Lw.wf_i64 w3
      have b4 := Lw.wf_u64 w4
      exact ⟨⟨x0, x1, x2, x3, x4⟩, x5, A, n, cp, qs, rfl, ⟨b0.1, b0.2, b1.1, b1.2, b2.1, b2.2, b3.1, b3.2, b4.1, b4.2⟩, Lw.wf_i64 w5, ⟨h0, h1, h2, h3, h4⟩⟩
theorem rem_key (k K : Int) (k0 : 0 ≤ k) (k1 : k ≤ 18446744073709551615) (hK : 1 ≤ K) : Int.tmod k K = k % K ∧ 0 ≤ k % K ∧ k % K ≤ 18446744073709551615 := by
  have h1 := Int.emod_nonneg k (show K ≠ 0 by omega)
  have h2 : k % K ≤ k := by
    have h3 := Int.mul_ediv_add_emod k K
    have h4 := Int.mul_nonneg (show (0 : Int) ≤ K by omega) (Int.ediv_nonneg k0 (show (0 : Int) ≤ K by omega))
    omega
  exact ⟨Int.tmod_eq_emod_of_nonneg k0, h1, by omega⟩
set_option maxRecDepth 100000 in
set_option maxHeartbeats 4000000 in
theorem rcut10_any (c : Cfg) (l k d : Int) (w : World) (h : c.Ok) (l0 : -9223372036854775808 ≤ l) (l1 : l ≤ 9223372036854775807) (k0 : 0 ≤ k) (k1 : k ≤ 18446744073709551615) (d0 : -9223372036854775808 ≤ d) (d1 : d ≤ 9223372036854775807) (hK : 1 ≤ keys c l) :
    Calls Try.prog 28 #[.agg #[.int .i64 c.bt, .int .i64 c.rw, .int .i64 c.wd, .int .i64 c.md, .int .u64 c.sd], .int .i64 l, .agg #[.int .u64 k, .int .i64 d]] w fun e w' => e = .returned (.agg #[.int .u64 (cutU c l (k, d)).1, .int .i64 (cutU c l (k, d)).2]) ∧ Below w.heap.size w w' := by
  have HO := Lib.hid h
  obtain ⟨K, hKK⟩ : ∃ K, keys c l = K := ⟨_, rfl⟩
  have CK := Lib.hid (fun w => rkeys_any c l w h l0 l1)
  rw [hKK] at CK hK
  obtain ⟨r1, r2, r3⟩ := rem_key k K k0 k1 hK
  have hKn : ¬ K = 0 := by omega
  have h1 := tmod_bd d
  obtain ⟨t, ht⟩ : ∃ t, Int.tmod d 1099511627776 = t := ⟨_, rfl⟩
  have hdv : (cutU c l (k, d)).2 = if c.md = 2 ∧ t < 0 then -t else t := by
    unfold cutU dv
    simp only [decide_eq_true_eq, ht]
    split <;> split <;> first | rfl | omega
  have hck : (cutU c l (k, d)).1 = k % K := by unfold cutU; rw [hKK]
  obtain ⟨R, hR⟩ : ∃ R, k % K = R := ⟨_, rfl⟩
  rw [hR] at r1 r2 r3 hck
  rw [hck]
  rw [ht] at h1
  obtain ⟨D, hD⟩ : ∃ D, (cutU c l (k, d)).2 = D := ⟨_, rfl⟩
  rw [hD] at hdv ⊢
  clear hKK hck hR hD h
  have go : ∀ b : Bool, (c.md == 2) = b → ∀ (s : Bool), decide (t < 0) = s → D = (if b = true ∧ s = true then -t else t) → Calls Try.prog 28 #[.agg #[.int .i64 c.bt, .int .i64 c.rw, .int .i64 c.wd, .int .i64 c.md, .int .u64 c.sd], .int .i64 l, .agg #[.int .u64 k, .int .i64 d]] w fun e w' => e = .returned (.agg #[.int .u64 R, .int .i64 D]) ∧ Below w.heap.size w w' := by
    clear hdv
    intro b hb s hs hd
    have HD := Lib.hid hd
    clear hd
    have hts : (s = true ∧ t < 0 ∧ t ≤ -t) ∨ (s = false ∧ 0 ≤ t ∧ -t ≤ t) := by
      cases s with
      | true => left; have := of_decide_eq_true hs; exact ⟨rfl, this, by omega⟩
      | false => right; have := of_decide_eq_false hs; exact ⟨rfl, by omega, by omega⟩
    clear hs
    cases b with
    | false =>
      go_enter Try.func28, Try.ntmps28
      go_wp2
      go_region_held3 (fun w' => w'.cell? ⟨w.heap.size, 0, none⟩ = some (.int .i64 c.bt) ∧ w'.cell? ⟨w.heap.size, 1, none⟩ = some (.int .i64 c.rw) ∧ w'.cell? ⟨w.heap.size, 2, none⟩ = some (.int .i64 c.wd) ∧ w'.cell? ⟨w.heap.size, 3, none⟩ = some (.int .i64 c.md) ∧ w'.cell? ⟨w.heap.size, 4, none⟩ = some (.int .u64 c.sd) ∧ w'.cell? ⟨w.heap.size + 1, 0, none⟩ = some (.int .u64 k)) (simp [go_sem]) (first | (go_at_call 16; (with_reducible refine (CK.out _).mono ?_); rintro e w' ⟨rfl, hb⟩; obtain ⟨bs, dd, rfl⟩ := below_grow hb; clear hb))
      go_wp2
      go_returns
      exact ⟨by rw [HD.out]; rfl, (by repeat' (first | (with_reducible exact Below.refl _ _) | (with_reducible assumption) | (with_reducible refine below_over ?_ _ _) | (with_reducible refine Lw.below_alloc ?_ _) | (with_reducible refine Below.drew ?_) | (with_reducible refine below_drewN ?_ _) | (with_reducible refine Below.setCell ?_ ?_ _) | go_size))⟩
    | true =>
      rcases hts with ⟨rfl, ht0, ht1⟩ | ⟨rfl, ht0, ht1⟩
      · skip
        go_enter Try.func28, Try.ntmps28
        go_wp2
        go_region_held3 (fun w' => w'.cell? ⟨w.heap.size, 0, none⟩ = some (.int .i64 c.bt) ∧ w'.cell? ⟨w.heap.size, 1, none⟩ = some (.int .i64 c.rw) ∧ w'.cell? ⟨w.heap.size, 2, none⟩ = some (.int .i64 c.wd) ∧ w'.cell? ⟨w.heap.size, 3, none⟩ = some (.int .i64 c.md) ∧ w'.cell? ⟨w.heap.size, 4, none⟩ = some (.int .u64 c.sd) ∧ w'.cell? ⟨w.heap.size + 1, 0, none⟩ = some (.int .u64 k)) (simp [go_sem]) (first | (go_at_call 16; (with_reducible refine (CK.out _).mono ?_); rintro e w' ⟨rfl, hb⟩; obtain ⟨bs, dd, rfl⟩ := below_grow hb; clear hb))
        go_wp2
        go_returns
        exact ⟨by rw [HD.out]; rfl, (by repeat' (first | (with_reducible exact Below.refl _ _) | (with_reducible assumption) | (with_reducible refine below_over ?_ _ _) | (with_reducible refine Lw.below_alloc ?_ _) | (with_reducible refine Below.drew ?_) | (with_reducible refine below_drewN ?_ _) | (with_reducible refine Below.setCell ?_ ?_ _) | go_size))⟩
      · skip
        go_enter Try.func28, Try.ntmps28
        go_wp2
        go_region_held3 (fun w' => w'.cell? ⟨w.heap.size, 0, none⟩ = some (.int .i64 c.bt) ∧ w'.cell? ⟨w.heap.size, 1, none⟩ = some (.int .i64 c.rw) ∧ w'.cell? ⟨w.heap.size, 2, none⟩ = some (.int .i64 c.wd) ∧ w'.cell? ⟨w.heap.size, 3, none⟩ = some (.int .i64 c.md) ∧ w'.cell? ⟨w.heap.size, 4, none⟩ = some (.int .u64 c.sd) ∧ w'.cell? ⟨w.heap.size + 1, 0, none⟩ = some (.int .u64 k)) (simp [go_sem]) (first | (go_at_call 16; (with_reducible refine (CK.out _).mono ?_); rintro e w' ⟨rfl, hb⟩; obtain ⟨bs, dd, rfl⟩ := below_grow hb; clear hb))
        go_wp2
        go_returns
        exact ⟨by rw [HD.out]; rfl, (by repeat' (first | (with_reducible exact Below.refl _ _) | (with_reducible assumption) | (with_reducible refine below_over ?_ _ _) | (with_reducible refine Lw.below_alloc ?_ _) | (with_reducible refine Below.drew ?_) | (with_reducible refine below_drewN ?_ _) | (with_reducible refine Below.setCell ?_ ?_ _) | go_size))⟩
  refine go (c.md == 2) rfl (decide (t < 0)) rfl ?_
  rw [hdv]
  simp

set_option maxRecDepth 100000 in
set_option maxHeartbeats 4000000 in
theorem cut_any (c : Cfg) (l k d : Int) (w : World) (h : c.Ok) (l0 : -9223372036854775808 ≤ l) (l1 : l ≤ 9223372036854775807) (k0 : 0 ≤ k) (k1 : k ≤ 18446744073709551615) (d0 : -9223372036854775808 ≤ d) (d1 : d ≤ 9223372036854775807) (hK : 1 ≤ keys c l) :
    Calls Try.prog 12 #[.agg #[.int .i64 c.bt, .int .i64 c.rw, .int .i64 c.wd, .int .i64 c.md, .int .u64 c.sd], .int .i64 l, .agg #[.int .u64 k, .int .i64 d]] w fun e w' => e = .returned (.agg #[.int .u64 (cutU c l (k, d)).1, .int .i64 (cutU c l (k, d)).2]) ∧ Below w.heap.size w w' := by
  have C := Lib.hid (fun w => rcut10_any c l k d w h l0 l1 k0 k1 d0 d1 hK)
  obtain ⟨U, hU⟩ : ∃ U, (cutU c l (k, d)).1 = U := ⟨_, rfl⟩
  obtain ⟨D, hD⟩ : ∃ D, (cutU c l (k, d)).2 = D := ⟨_, rfl⟩
  rw [hU, hD] at C ⊢
  clear hU hD h hK
  go_enter Try.func12, Try.ntmps12
  go_wp2_with (go_at_call 28; (with_reducible refine (C.out _).mono ?_); rintro e w' ⟨rfl, hb⟩; obtain ⟨bs, dd, rfl⟩ := below_grow hb; clear hb)
  go_returns
  exact ⟨rfl, (by repeat' (first | (with_reducible exact Below.refl _ _) | (with_reducible assumption) | (with_reducible refine below_over ?_ _ _) | (with_reducible refine Lw.below_alloc ?_ _) | (with_reducible refine Below.drew ?_) | (with_reducible refine below_drewN ?_ _) | (with_reducible refine Below.setCell ?_ ?_ _) | go_size))⟩
/-- The updates, cut: sixty of them. -/
def upsA (c : Cfg) (l : Int) (qs : Ups) : Ups := (qs.take 60).map (cutU c l)
theorem upsA_get {c : Cfg} {l : Int} {qs : Ups} {k : Nat} {q : Int × Int} (hk : k < 60) (hq : qs[k]? = some q) : (upsA c l qs)[k]? = some (cutU c l q) := by
  unfold upsA
  rw [List.getElem?_map, List.getElem?_take, if_pos hk, hq]
  rfl
theorem upsA_all {c : Cfg} {l : Int} {qs : Ups} {k : Nat} (h : k = qs.length ∨ k = 60) (hk : k ≤ 60) : (upsA c l qs).take k = upsA c l qs := by
  refine List.take_of_length_le ?_
  unfold upsA
  rw [List.length_map, List.length_take]
  omega
theorem upsA_bd {c : Cfg} {l : Int} (qs : Ups) (hK : 1 ≤ keys c l) (k : Nat) : ∀ u ∈ (upsA c l qs).take k, -1099511627776 ≤ u.2 ∧ u.2 ≤ 1099511627776 := by
  intro u hu
  have h1 := List.mem_of_mem_take hu
  unfold upsA at h1
  obtain ⟨v, _, rfl⟩ := List.mem_map.1 h1
  have := cutU_ok hK v
  exact ⟨this.2.2.1, this.2.2.2.1⟩
set_option maxRecDepth 100000 in
set_option maxHeartbeats 4000000 in
theorem has_any (x : Cfg) (lv : Int) (A : Option Addr) (n0 k0 : Nat) (qs : Ups) (c : Cfg) (l key : Int) (w : World) (hq : UpdV w A n0 k0 qs) (h : c.Ok) (l0 : -9223372036854775808 ≤ l) (l1 : l ≤ 9223372036854775807) (hK : 1 ≤ keys c l) :
    Calls Try.prog 18 #[.agg #[.int .i64 x.bt, .int .i64 x.rw, .int .i64 x.wd, .int .i64 x.md, .int .u64 x.sd, .int .i64 lv, .slice A n0 k0], .agg #[.int .i64 c.bt, .int .i64 c.rw, .int .i64 c.wd, .int .i64 c.md, .int .u64 c.sd], .int .i64 l, .int .u64 key] w fun e w' => e = .returned (.int .i64 (hasK key (upsA c l qs))) ∧ Below w.heap.size w w' := by
  have HQ := Lib.hid hq
  have HL := Lib.hid hq.len
  have hnc := hq.nc
  have hcm := hq.cm
  unfold maxLen at hcm
  have C := Lib.hid (fun w k d h0 h1 h2 h3 => cut_any c l k d w h l0 l1 h0 h1 h2 h3 hK)
  have HG := Lib.hid (fun k q (h1 : k < 60) (h2 : qs[k]? = some q) => upsA_get (c := c) (l := l) h1 h2)
  have HBD := Lib.hid (upsA_bd (c := c) (l := l) qs hK)
  have HAL := Lib.hid (fun k (h1 : k = qs.length ∨ k = 60) (h2 : k ≤ 60) => upsA_all (c := c) (l := l) (qs := qs) h1 h2)
  obtain ⟨us, hus⟩ : ∃ us, upsA c l qs = us := ⟨_, rfl⟩
  rw [hus] at HG HBD HAL ⊢
  obtain ⟨W, hW⟩ : ∃ W, W = (w.alloc (.cells #[.int .i64 x.bt, .int .i64 x.rw, .int .i64 x.wd, .int .i64 x.md, .int .u64 x.sd, .int .i64 lv, .slice A n0 k0] 27)).alloc (.cells #[.int .i64 c.bt, .int .i64 c.rw, .int .i64 c.wd, .int .i64 c.md, .int .u64 c.sd] 24) := ⟨_, rfl⟩
  have m0 : W.cell? ⟨w.heap.size, 6, none⟩ = some (.slice A n0 k0) := by rw [hW]; simp [go_sem]
  have m1 : W.cell? ⟨w.heap.size + 1, 0, none⟩ = some (.int .i64 c.bt) := by rw [hW]; simp [go_sem]
  have m2 : W.cell? ⟨w.heap.size + 1, 1, none⟩ = some (.int .i64 c.rw) := by rw [hW]; simp [go_sem]
  have m3 : W.cell? ⟨w.heap.size + 1, 2, none⟩ = some (.int .i64 c.wd) := by rw [hW]; simp [go_sem]
  have m4 : W.cell? ⟨w.heap.size + 1, 3, none⟩ = some (.int .i64 c.md) := by rw [hW]; simp [go_sem]
  have m5 : W.cell? ⟨w.heap.size + 1, 4, none⟩ = some (.int .u64 c.sd) := by rw [hW]; simp [go_sem]
  have HBW : Hid (Below w.heap.size w W) := Lib.hid (by rw [hW]; exact (by repeat' (first | (with_reducible exact Below.refl _ _) | (with_reducible assumption) | (with_reducible refine below_over ?_ _ _) | (with_reducible refine Lw.below_alloc ?_ _) | (with_reducible refine Below.drew ?_) | (with_reducible refine below_drewN ?_ _) | (with_reducible refine Below.setCell ?_ ?_ _) | go_size)))
  have HWW := Lib.hid hW
  clear hus hq h
  go_enter Try.func18, Try.ntmps18
  go_wp2
  rw [← HWW.out]
  clear hW
  go_loopw [9, 10] (fun sv iv wr => ∃ (j : Nat), j ≤ n0 ∧ j ≤ 60 ∧ iv = .int .i64 j ∧ sv = .int .i64 (hasK key (us.take j)) ∧ Below W.heap.size W wr) (fun _ iv _ => n0 - (intOf iv).toNat)
  case atStart => exact ⟨0, Nat.zero_le _, Nat.zero_le _, rfl, rfl, Below.refl _ _⟩
  case round =>
    obtain ⟨j, hj, hj6, rfl, rfl, hbw⟩ := hrel
    have HBL := Lib.hid hbw
    have c0 := cell_up m0 hbw
    have hob := hasK_bd (k := key) (b := 1099511627776) (by omega) (HBD.out j)
    have hjl : (us.take j).length ≤ j := by rw [List.length_take]; omega
    obtain ⟨X, hX⟩ : ∃ X, hasK key (us.take j) = X := ⟨_, rfl⟩
    have HX := Lib.hid hX
    rw [hX] at hob ⊢
    have hob1 : -65970697666560 ≤ X ∧ X ≤ 65970697666560 := by omega
    clear hob hjl hX
    by_cases hlt : j < n0 ∧ j < 60
    · obtain ⟨hj1, hj2⟩ := hlt
      obtain ⟨q, hq1⟩ : ∃ q, qs[j]? = some q := ⟨_, List.getElem?_eq_getElem (by rw [HL.out]; omega)⟩
      have hon := hasK_next (k := key) (HG.out j q hj2 hq1)
      rw [HX.out] at hon
      have hcu := cutU_ok hK q
      obtain ⟨a, g, o, rfl, hadd, d1w, d2w, kb, db⟩ := HQ.out.at hq1
      obtain ⟨qk, qd⟩ := q
      simp only at d1w d2w kb db
      have d1 := cell_up d1w (below_call HBW.out hbw (Nat.le_refl _))
      have d2 := cell_up d2w (below_call HBW.out hbw (Nat.le_refl _))
      have e1 := cell_up m1 hbw
      have e2 := cell_up m2 hbw
      have e3 := cell_up m3 hbw
      have e4 := cell_up m4 hbw
      have e5 := cell_up m5 hbw
      have CC := Lib.hid (fun w => C.out w qk qd kb.1 kb.2 db.1 db.2)
      obtain ⟨U, hU⟩ : ∃ U, (cutU c l (qk, qd)).1 = U := ⟨_, rfl⟩
      obtain ⟨D, hD⟩ : ∃ D, (cutU c l (qk, qd)).2 = D := ⟨_, rfl⟩
      rw [hU, hD] at CC hcu hon
      have hdb : -1099511627776 ≤ D ∧ D ≤ 1099511627776 := ⟨hcu.2.2.1, hcu.2.2.2.1⟩
      clear hq1 hU hD hcu d1w d2w hbw
      by_cases hke : U = key
      · rw [if_pos hke] at hon
        have HON := Lib.hid hon
        have hkeb : (U == key) = true := by simp [hke]
        have HKE := Lib.hid hke
        clear hon hke
        go_upto_region 5 with fail
        go_region_held3 (fun w' => w'.cell? ⟨w.heap.size + 1, 0, none⟩ = some (.int .i64 c.bt) ∧ w'.cell? ⟨w.heap.size + 1, 1, none⟩ = some (.int .i64 c.rw) ∧ w'.cell? ⟨w.heap.size + 1, 2, none⟩ = some (.int .i64 c.wd) ∧ w'.cell? ⟨w.heap.size + 1, 3, none⟩ = some (.int .i64 c.md) ∧ w'.cell? ⟨w.heap.size + 1, 4, none⟩ = some (.int .u64 c.sd) ∧ w'.cell? ⟨w.heap.size, 6, none⟩ = some (.slice (some a) n0 k0) ∧ w'.cell? ⟨g, o, none⟩ = some (.int .u64 qk) ∧ w'.cell? ⟨g, o + 1, none⟩ = some (.int .i64 qd)) (first | (refine ⟨?_, ?_, ?_, ?_, ?_, ?_, ?_, ?_⟩ <;> (first | (with_reducible assumption) | (with_reducible refine cell_up e1 ?_) | (with_reducible refine cell_up e2 ?_) | (with_reducible refine cell_up e3 ?_) | (with_reducible refine cell_up e4 ?_) | (with_reducible refine cell_up e5 ?_) | (with_reducible refine cell_up c0 ?_) | (with_reducible refine cell_up d1 ?_) | (with_reducible refine cell_up d2 ?_)) <;> repeat' (first | (with_reducible exact Below.refl _ _) | (with_reducible assumption) | (with_reducible refine below_over ?_ _ _) | (with_reducible refine Lw.below_alloc ?_ _) | (with_reducible refine Below.drew ?_) | (with_reducible refine below_drewN ?_ _) | (with_reducible refine Below.setCell ?_ ?_ _) | go_size))) (first | (go_at_call 12; (with_reducible refine (CC.out _).mono ?_); rintro e w' ⟨rfl, hb⟩; obtain ⟨bs, dd, rfl⟩ := below_grow hb; clear hb))
        all_goals go_wp2
        all_goals go_roundw
        all_goals first
          | exact ⟨j + 1, by omega, by omega, by go_num, by rw [HON.out], below_call HBL.out (by repeat' (first | (with_reducible exact Below.refl _ _) | (with_reducible assumption) | (with_reducible refine below_over ?_ _ _) | (with_reducible refine Lw.below_alloc ?_ _) | (with_reducible refine Below.drew ?_) | (with_reducible refine below_drewN ?_ _) | (with_reducible refine Below.setCell ?_ ?_ _) | go_size)) (Nat.le_refl _)⟩
          | (simp [intOf]; omega)
      · rw [if_neg hke] at hon
        have hon2 : hasK key (us.take (j + 1)) = X := by omega
        have HON := Lib.hid hon2
        have hkeb : (U == key) = false := by simp [hke]
        have hkeb2 : decide (U = key) = false := by simp [hke]
        clear hon hon2
        go_upto_region 5 with fail
        go_region_held3 (fun w' => w'.cell? ⟨w.heap.size + 1, 0, none⟩ = some (.int .i64 c.bt) ∧ w'.cell? ⟨w.heap.size + 1, 1, none⟩ = some (.int .i64 c.rw) ∧ w'.cell? ⟨w.heap.size + 1, 2, none⟩ = some (.int .i64 c.wd) ∧ w'.cell? ⟨w.heap.size + 1, 3, none⟩ = some (.int .i64 c.md) ∧ w'.cell? ⟨w.heap.size + 1, 4, none⟩ = some (.int .u64 c.sd) ∧ w'.cell? ⟨w.heap.size, 6, none⟩ = some (.slice (some a) n0 k0) ∧ w'.cell? ⟨g, o, none⟩ = some (.int .u64 qk) ∧ w'.cell? ⟨g, o + 1, none⟩ = some (.int .i64 qd)) (first | (refine ⟨?_, ?_, ?_, ?_, ?_, ?_, ?_, ?_⟩ <;> (first | (with_reducible assumption) | (with_reducible refine cell_up e1 ?_) | (with_reducible refine cell_up e2 ?_) | (with_reducible refine cell_up e3 ?_) | (with_reducible refine cell_up e4 ?_) | (with_reducible refine cell_up e5 ?_) | (with_reducible refine cell_up c0 ?_) | (with_reducible refine cell_up d1 ?_) | (with_reducible refine cell_up d2 ?_)) <;> repeat' (first | (with_reducible exact Below.refl _ _) | (with_reducible assumption) | (with_reducible refine below_over ?_ _ _) | (with_reducible refine Lw.below_alloc ?_ _) | (with_reducible refine Below.drew ?_) | (with_reducible refine below_drewN ?_ _) | (with_reducible refine Below.setCell ?_ ?_ _) | go_size))) (first | (go_at_call 12; (with_reducible refine (CC.out _).mono ?_); rintro e w' ⟨rfl, hb⟩; obtain ⟨bs, dd, rfl⟩ := below_grow hb; clear hb))
        all_goals go_wp2
        all_goals go_roundw
        all_goals first
          | exact ⟨j + 1, by omega, by omega, by go_num, by rw [HON.out], below_call HBL.out (by repeat' (first | (with_reducible exact Below.refl _ _) | (with_reducible assumption) | (with_reducible refine below_over ?_ _ _) | (with_reducible refine Lw.below_alloc ?_ _) | (with_reducible refine Below.drew ?_) | (with_reducible refine below_drewN ?_ _) | (with_reducible refine Below.setCell ?_ ?_ _) | go_size)) (Nat.le_refl _)⟩
          | (simp [intOf]; omega)
    · have hend : j = n0 ∨ (j = 60 ∧ j < n0) := by omega
      have hta := HAL.out j (by rw [HL.out]; omega) hj6
      have hX := HX.out
      rw [hta] at hX
      have HX2 := Lib.hid hX
      clear hlt hta hX
      rcases hend with hkn0 | ⟨rfl, hkn⟩
      · have hkn1 : n0 = j := hkn0.symm
        subst hkn1
        clear hkn0
        go_wp2
        go_ret
        exact ⟨ret_is HX2.out.symm, below_call HBW.out HBL.out (Nat.le_refl _)⟩
      · go_wp2
        go_ret
        exact ⟨ret_is HX2.out.symm, below_call HBW.out HBL.out (Nat.le_refl _)⟩
end Go.Proofs.Ytahgkiceifblmaa.Sk
/- What sketches tell, in numbers: Point, the middle one, two that are merged. For stages from 10 on. -/
namespace Go.Proofs.Ytahgkiceifblmaa.Sk
open Go Go.RowKit Lw Grd Lin Con Shp
set_option linter.unusedVariables false
theorem pt_ok {c : Cfg} {l k : Int} (hk : k < keys c l) : ptCode c l k = 0 := if_neg (by omega)
theorem pt_least {c : Cfg} {l k : Int} {L : List (List Int)} (hk : k < keys c l) (hm : c.md ≠ 3) : ptVal c l L k = lea L (cols c l k) := by
  unfold ptVal
  rw [if_neg (by omega), if_neg hm]
theorem pt_middle {c : Cfg} {l k : Int} {L : List (List Int)} (hk : k < keys c l) (hm : c.md = 3) : ptVal c l L k = Ord.kv (named L (cols c l k)) ((((named L (cols c l k)).length : Int) - 1) / 2) := by
  unfold ptVal
  rw [if_neg (by omega), if_pos hm]
theorem cells_lin {c : Cfg} {l : Int} {us : Ups} (hm : c.md ≠ 2) : cells c l us = chAll (zerosL (rws c) (wds c)) (opsU c l us) := if_neg hm
theorem cells_con {c : Cfg} {l : Int} {us : Ups} (hm : c.md = 2) : cells c l us = rsAll (zerosL (rws c) (wds c)) (opsU c l us) := if_pos hm
/-- What others have in a key's column, row by row. -/
def othR (c : Cfg) (l k : Int) (us : Ups) : List Int := (List.range (rws c)).map (fun r => othK c l k r us)
theorem othR_get {c : Cfg} {l k : Int} {us : Ups} {r : Nat} (hr : r < rws c) : (othR c l k us)[r]? = some (othK c l k r us) := by
  unfold othR
  rw [List.getElem?_map, List.getElem?_range hr]
  rfl
theorem othR_len (c : Cfg) (l k : Int) (us : Ups) : (othR c l k us).length = rws c := by simp [othR]
theorem named_oth {c : Cfg} {l k b : Int} {us : Ups} (h : UpsOk c l b us) (k0 : 0 ≤ k) (hk : k < keys c l) :
    named (chAll (zerosL (rws c) (wds c)) (opsU c l us)) (cols c l k) = (othR c l k us).map (fun v => v + hasK k us) := by
  have hsz := chAll_sz (sz_zeros (rws c) (wds c)) (opsU_ok h)
  have hlen := named_klen hsz.1 k0 hk
  apply List.ext_getElem?
  intro r
  rw [List.getElem?_map]
  by_cases hr : r < rws c
  · rw [named_key h k0 hk hr, othR_get hr]
    simp
    omega
  · rw [List.getElem?_eq_none (by rw [hlen]; omega), List.getElem?_eq_none (by rw [othR_len]; omega)]
    rfl
/-- If more than half of the rows are not farther than so much from 0, Point is not from what the key has. -/
theorem median_near {c : Cfg} {l k b far : Int} {us : Ups} (hr : IsRight c) (h : UpsOk c l b us) (k0 : 0 ≤ k) (hk : k < keys c l) (hm : c.md = 3) (hn : (rws c : Int) < 2 * (Ord.near (othR c l k us) (-far) far : Int)) :
    hasK k us - far ≤ ptVal c l (cells c l us) k ∧ ptVal c l (cells c l us) k ≤ hasK k us + far := by
  rw [pt_middle hk hm, cells_lin (by omega), named_oth h k0 hk]
  have hl : 0 < (othR c l k us).length := by rw [othR_len]; exact (rws_bd hr).1
  have h1 := (Ord.moves (othR c l k us) (hasK k us) hl).1
  rw [h1]
  have h2 := Ord.near_median2 (othR c l k us) (-far) far (by rw [othR_len]; exact hn)
  omega
/-- Merged, two sketches of the modes Linear and Median are one that was fed all. -/
theorem merge_lin {c : Cfg} {l : Int} {us vs : Ups} (hr : IsRight c) (hm : c.md ≠ 2) (hu : UpsOk c l 1099511627776 us) (hv : UpsOk c l 1099511627776 vs) (hlu : us.length ≤ 60) (hlv : vs.length ≤ 60) :
    mgCode 1 c c l l (cells c l us) (cells c l vs) = 0 ∧ mgRes 1 c c l l (cells c l us) (cells c l vs) = cells c l (us ++ vs) := by
  have h1 := opsU_ok hu
  have h2 := opsU_ok hv
  have w1 := within_mono (chAll_within (c := 1099511627776) (by omega) (b := 0) (Int.le_refl _) (within_zeros (rws c) (wds c)) h1) (c := 65970697666560) (by rw [opsU_len]; omega)
  have w2 := within_mono (chAll_within (c := 1099511627776) (by omega) (b := 0) (Int.le_refl _) (within_zeros (rws c) (wds c)) h2) (c := 65970697666560) (by rw [opsU_len]; omega)
  have hj := jcode_yes (s := 1) (m := rws c) (n := wds c) (join_fits (m := rws c) (n := wds c) w1 w2)
  have hs1 := chAll_sz (sz_zeros (rws c) (wds c)) h1
  have hs2 := chAll_sz (sz_zeros (rws c) (wds c)) h2
  have h3 : OpsOk (rws c) (wds c) 1099511627776 (opsU c l (us ++ vs)) := opsU_ok (fun u hq => (List.mem_append.1 hq).elim (hu u) (hv u))
  have hs3 := chAll_sz (sz_zeros (rws c) (wds c)) h3
  have hce : cfgE c c = true := decide_eq_true ⟨rfl, rfl, rfl, rfl, rfl⟩
  have e : gridS 1 (chAll (zerosL (rws c) (wds c)) (opsU c l us)) (chAll (zerosL (rws c) (wds c)) (opsU c l vs)) = chAll (zerosL (rws c) (wds c)) (opsU c l (us ++ vs)) := by
    have key : Sz (rws c) (wds c) (gridS 1 (chAll (zerosL (rws c) (wds c)) (opsU c l us)) (chAll (zerosL (rws c) (wds c)) (opsU c l vs))) := by
      refine ⟨by unfold gridS; rw [List.length_zipWith, hs1.1, hs2.1]; omega, fun r hr => ?_⟩
      obtain ⟨a, g1, b, g2, rfl⟩ := mem_zip hr
      unfold rowS
      rw [List.length_zipWith, hs1.2 a g1, hs2.2 b g2]
      omega
    refine sz_ext key hs3 fun r q hrm hqn => ?_
    rw [chAll_cel hrm hqn (sz_zeros _ _) h3, opsU_app, hit_app, cel_zeros]
    have c1 := chAll_cel hrm hqn (sz_zeros (rws c) (wds c)) h1
    have c2 := chAll_cel hrm hqn (sz_zeros (rws c) (wds c)) h2
    rw [cel_zeros] at c1 c2
    have g1 : r < (chAll (zerosL (rws c) (wds c)) (opsU c l us)).length := by rw [hs1.1]; exact hrm
    have g2 : r < (chAll (zerosL (rws c) (wds c)) (opsU c l vs)).length := by rw [hs2.1]; exact hrm
    have g3 := hs1.2 _ (List.getElem_mem g1)
    have g4 := hs2.2 _ (List.getElem_mem g2)
    have c3 : cel (gridS 1 (chAll (zerosL (rws c) (wds c)) (opsU c l us)) (chAll (zerosL (rws c) (wds c)) (opsU c l vs))) r q = cel (chAll (zerosL (rws c) (wds c)) (opsU c l us)) r q + cel (chAll (zerosL (rws c) (wds c)) (opsU c l vs)) r q := by
      unfold cel gridS
      rw [List.getElem?_zipWith, List.getElem?_eq_getElem g1, List.getElem?_eq_getElem g2]
      simp only [Option.getD_some]
      unfold rowS
      rw [List.getElem?_zipWith, List.getElem?_eq_getElem (by omega), List.getElem?_eq_getElem (by omega)]
      simp
    rw [c3, c1, c2]
    omega
  unfold mgCode mgRes
  have hs1x : ¬ ((1 : Int) = -1 ∧ c.md = 2) := by omega
  rw [if_pos (show cfgE c c = true ∧ l = l from ⟨hce, rfl⟩), if_pos (show cfgE c c = true ∧ l = l from ⟨hce, rfl⟩), if_neg hs1x, if_neg hs1x]
  simp only [cells_lin hm]
  rw [← e]
  exact hj
/-- In the mode Conservative, parted and merged: Point is between what the key has and what it would be told in the mode Linear. -/
theorem merge_con {c d : Cfg} {l k : Int} {us vs : Ups} (hr : IsRight c) (hm : c.md = 2) (hd : d.md = 1) (hrd : rws d = rws c) (hwd : wds d = wds c) (hcols : ∀ q, cols d l q = cols c l q) (hkd : keys d l = keys c l)
    (hu : UpsIn c l us) (hv : UpsIn c l vs) (hlu : us.length ≤ 60) (hlv : vs.length ≤ 60) (k0 : 0 ≤ k) (hk : k < keys c l) :
    mgCode 1 c c l l (cells c l us) (cells c l vs) = 0 ∧ hasK k (us ++ vs) ≤ ptVal c l (mgRes 1 c c l l (cells c l us) (cells c l vs)) k ∧ ptVal c l (mgRes 1 c c l l (cells c l us) (cells c l vs)) k ≤ ptVal d l (cells d l (us ++ vs)) k := by
  have h1 := opsU_ok hu.1
  have h2 := opsU_ok hv.1
  have r1 := rose_all (rose_zero (rws c) (wds c)) h1 (plus_of hu hm)
  have r2 := rose_all (rose_zero (rws c) (wds c)) h2 (plus_of hv hm)
  have d1 := rose_dims h1 (plus_of hu hm) (by rw [opsU_len]; exact hlu)
  have d2 := rose_dims h2 (plus_of hv hm) (by rw [opsU_len]; exact hlv)
  have hj := jcode_yes (s := 1) (m := rws c) (n := wds c) (join_fits (m := rws c) (n := wds c) d1.2 d2.2)
  have hce : cfgE c c = true := decide_eq_true ⟨rfl, rfl, rfl, rfl, rfl⟩
  have hrj := r1.join r2
  rw [List.nil_append, List.nil_append, ← opsU_app] at hrj
  have hlo := hrj.lea_own (cols_meet k0 hk)
  have hall : UpsOk c l 1099511627776 (us ++ vs) := fun u hq => (List.mem_append.1 hq).elim (hu.1 u) (hv.1 u)
  have hpl : ∀ u ∈ us ++ vs, 0 ≤ u.2 := fun u hq => (List.mem_append.1 hq).elim (hu.2 hm u) (hv.2 hm u)
  have hown := hasK_own (k := k) hall hpl
  have hops : opsU d l (us ++ vs) = opsU c l (us ++ vs) := by unfold opsU; simp only [hcols]
  have hmg : mgCode 1 c c l l (cells c l us) (cells c l vs) = 0 ∧ mgRes 1 c c l l (cells c l us) (cells c l vs) = gridS 1 (cells c l us) (cells c l vs) := by
    unfold mgCode mgRes
    have hs1x : ¬ ((1 : Int) = -1 ∧ c.md = 2) := by omega
    rw [if_pos (show cfgE c c = true ∧ l = l from ⟨hce, rfl⟩), if_pos (show cfgE c c = true ∧ l = l from ⟨hce, rfl⟩), if_neg hs1x, if_neg hs1x]
    simp only [cells_con hm]
    exact hj
  refine ⟨hmg.1, ?_, ?_⟩
  · rw [hmg.2, pt_least hk (by omega), cells_con hm, cells_con hm]
    omega
  · rw [hmg.2, pt_least hk (by omega), pt_least (by rw [hkd]; exact hk) (by omega), cells_con hm, cells_con hm, cells_lin (by omega), hrd, hwd, hops, hcols]
    have hlin : gridS 1 (chAll (zerosL (rws c) (wds c)) (opsU c l us)) (chAll (zerosL (rws c) (wds c)) (opsU c l vs)) = chAll (zerosL (rws c) (wds c)) (opsU c l (us ++ vs)) := by
      have hx : ({ c with md := 1 } : Cfg).md ≠ 2 := by simp
      have hrx : IsRight { c with md := 1 } := ⟨hr.1, hr.2.1, hr.2.2.1, hr.2.2.2.1, hr.2.2.2.2.1, hr.2.2.2.2.2.1, by simp, by simp⟩
      have hkx : keys { c with md := 1 } l = keys c l := by
        unfold keys
        by_cases hl : 0 ≤ l ∧ l ≤ c.bt
        · rw [if_pos ⟨hrx, hl⟩, if_pos ⟨hr, hl⟩]
        · rw [if_neg (fun g => hl g.2), if_neg (fun g => hl g.2)]
      have hox : ∀ ws : Ups, opsU { c with md := 1 } l ws = opsU c l ws := fun ws => by
        unfold opsU cols
        rw [hkx]
        rfl
      have hux : UpsOk { c with md := 1 } l 1099511627776 us := fun u hq => by have := hu.1 u hq; rw [hkx]; exact this
      have hvx : UpsOk { c with md := 1 } l 1099511627776 vs := fun u hq => by have := hv.1 u hq; rw [hkx]; exact this
      have hmx := merge_lin hrx hx hux hvx hlu hlv
      rw [cells_lin hx, cells_lin hx, cells_lin hx, hox, hox, hox] at hmx
      have hw1 := join_fits (m := rws c) (n := wds c) d1.1 d2.1
      have e2 : mgRes 1 { c with md := 1 } { c with md := 1 } l l (chAll (zerosL (rws c) (wds c)) (opsU c l us)) (chAll (zerosL (rws c) (wds c)) (opsU c l vs)) = gridS 1 (chAll (zerosL (rws c) (wds c)) (opsU c l us)) (chAll (zerosL (rws c) (wds c)) (opsU c l vs)) := by
        unfold mgRes
        have hcx : cfgE { c with md := 1 } { c with md := 1 } = true := decide_eq_true ⟨rfl, rfl, rfl, rfl, rfl⟩
        rw [if_pos (show cfgE { c with md := 1 } { c with md := 1 } = true ∧ l = l from ⟨hcx, rfl⟩), if_neg (show ¬ ((1 : Int) = -1 ∧ ({ c with md := 1 } : Cfg).md = 2) from fun h => by have := h.1; omega)]
        exact (jcode_yes hw1).2
      exact e2.symm.trans hmx.2
    rw [← hlin]
    exact hlo.2.1
end Go.Proofs.Ytahgkiceifblmaa.Sk
/- others of layer 10's laws. Printed by wip/gen/skfed.py. -/
namespace Go.Proofs.Ytahgkiceifblmaa.Sk
open Go Go.RowKit Lw Grd Lin Con Shp
set_option linter.unusedVariables false
set_option linter.unusedSimpArgs false
theorem scols_any (c : Cfg) (l k : Int) (m : Nat) (w : World) (h : c.Ok) (l0 : -9223372036854775808 ≤ l) (l1 : l ≤ 9223372036854775807) (k0 : 0 ≤ k) (k1 : k ≤ 18446744073709551615) (hk : k < keys c l) (hm : rws c = m) :
    Calls Try.prog 13 #[.agg #[.int .i64 c.bt, .int .i64 c.rw, .int .i64 c.wd, .int .i64 c.md, .int .u64 c.sd], .int .i64 l, .int .u64 k] w fun e w' => ∃ (A : Addr) (cap : Nat), e = .returned (.slice (some A) m cap) ∧ Rd .i64 w' (some A) (cols c l k) ∧ Below w.heap.size w w' := by
  subst hm
  have hl : (cols c l k).length = rws c := by rw [cols_len, if_pos hk]; rfl
  refine (columns_any c l k w h l0 l1 k0 k1).mono fun e w' ⟨A, cap, he, hr, _, _, hb⟩ => ?_
  obtain ⟨a, rfl⟩ := hr.some_of (by rw [hl]; exact (rws_bd (keys_right k0 hk).1).1)
  rw [hl] at he
  exact ⟨a, cap, he, hr, hb⟩
set_option maxRecDepth 100000 in
set_option maxHeartbeats 8000000 in
theorem others_any (x : Cfg) (lv : Int) (A : Option Addr) (n0 k0 : Nat) (qs : Ups) (c : Cfg) (l key : Int) (row m : Nat) (w : World) (hq : UpdV w A n0 k0 qs) (h : c.Ok) (l0 : -9223372036854775808 ≤ l) (l1 : l ≤ 9223372036854775807) (hK0 : 0 ≤ key) (hK : key < keys c l) (hm : rws c = m) (hrow : row < m) :
    Calls Try.prog 17 #[.agg #[.int .i64 x.bt, .int .i64 x.rw, .int .i64 x.wd, .int .i64 x.md, .int .u64 x.sd, .int .i64 lv, .slice A n0 k0], .agg #[.int .i64 c.bt, .int .i64 c.rw, .int .i64 c.wd, .int .i64 c.md, .int .u64 c.sd], .int .i64 l, .int .u64 key, .int .i64 row] w fun e w' => e = .returned (.int .i64 (othK c l key row (upsA c l qs))) ∧ Below w.heap.size w w' := by
  have HQ := Lib.hid hq
  have HL := Lib.hid hq.len
  have hnc := hq.nc
  have hcm := hq.cm
  unfold maxLen at hcm
  have hkb := keys_bd c l
  have hrt := (keys_right hK0 hK).1
  have hm8 : 1 ≤ m ∧ m ≤ 8 := by have := rws_bd hrt; rw [hm] at this; exact ⟨this.1, this.2.1⟩
  have C := Lib.hid (fun w k d h0 h1 h2 h3 => cut_any c l k d w h l0 l1 h0 h1 h2 h3 (by omega))
  have CO := Lib.hid (fun w => scols_any c l key m w h l0 l1 hK0 (by omega) hK hm)
  have CB := Lib.hid (fun k w h0 h1 h2 => scols_any c l k m w h l0 l1 h0 h1 h2 hm)
  have HCA := Lib.hid (fun k (h2 : k < keys c l) => cols_at (c := c) (l := l) (k := k) h2 (r := row) (by rw [hm]; exact hrow))
  have HG := Lib.hid (fun k q (h1 : k < 60) (h2 : qs[k]? = some q) => upsA_get (c := c) (l := l) h1 h2)
  have HBD := Lib.hid (upsA_bd (c := c) (l := l) qs (by omega))
  have HAL := Lib.hid (fun k (h1 : k = qs.length ∨ k = 60) (h2 : k ≤ 60) => upsA_all (c := c) (l := l) (qs := qs) h1 h2)
  have HCUT := Lib.hid (fun q => cutU_ok (c := c) (l := l) (by omega) q)
  obtain ⟨us, hus⟩ : ∃ us, upsA c l qs = us := ⟨_, rfl⟩
  rw [hus] at HG HBD HAL ⊢
  clear hus hq h hrt hm
  go_enter Try.func17, Try.ntmps17
  go_wp2_with (go_at_call 13; (with_reducible refine (CO.out _).mono ?_); rintro e W ⟨Ao, capo, rfl, rdo, hb⟩; have RDO := Lib.hid rdo; have HBX := Lib.hid hb; clear rdo hb)
  have HBW : Hid (Below w.heap.size w W) := Lib.hid (below_call (by repeat' (first | (with_reducible exact Below.refl _ _) | (with_reducible assumption) | (with_reducible refine below_over ?_ _ _) | (with_reducible refine Lw.below_alloc ?_ _) | (with_reducible refine Below.drew ?_) | (with_reducible refine below_drewN ?_ _) | (with_reducible refine Below.setCell ?_ ?_ _) | go_size)) HBX.out (Nat.le_refl _))
  have m0 : W.cell? ⟨w.heap.size, 6, none⟩ = some (.slice A n0 k0) := cell_up (by simp [go_sem]) HBX.out
  have m1 : W.cell? ⟨w.heap.size + 1, 0, none⟩ = some (.int .i64 c.bt) := cell_up (by simp [go_sem]) HBX.out
  have m2 : W.cell? ⟨w.heap.size + 1, 1, none⟩ = some (.int .i64 c.rw) := cell_up (by simp [go_sem]) HBX.out
  have m3 : W.cell? ⟨w.heap.size + 1, 2, none⟩ = some (.int .i64 c.wd) := cell_up (by simp [go_sem]) HBX.out
  have m4 : W.cell? ⟨w.heap.size + 1, 3, none⟩ = some (.int .i64 c.md) := cell_up (by simp [go_sem]) HBX.out
  have m5 : W.cell? ⟨w.heap.size + 1, 4, none⟩ = some (.int .u64 c.sd) := cell_up (by simp [go_sem]) HBX.out
  clear HBX
  go_loopw [11, 13] (fun sv iv wr => ∃ (j : Nat), j ≤ n0 ∧ j ≤ 60 ∧ iv = .int .i64 j ∧ sv = .int .i64 (othK c l key row (us.take j)) ∧ Below W.heap.size W wr) (fun _ iv _ => n0 - (intOf iv).toNat)
  case atStart => exact ⟨0, Nat.zero_le _, Nat.zero_le _, rfl, rfl, Below.refl _ _⟩
  case round =>
    obtain ⟨j, hj, hj6, rfl, rfl, hbw⟩ := hrel
    have HBL := Lib.hid hbw
    have c0 := cell_up m0 hbw
    have hob := othK_bd (c := c) (l := l) (k := key) (r := row) (b := 1099511627776) (by omega) (HBD.out j)
    have hjl : (us.take j).length ≤ j := by rw [List.length_take]; omega
    obtain ⟨X, hX⟩ : ∃ X, othK c l key row (us.take j) = X := ⟨_, rfl⟩
    have HX := Lib.hid hX
    rw [hX] at hob ⊢
    have hob1 : -65970697666560 ≤ X ∧ X ≤ 65970697666560 := by omega
    clear hob hjl hX
    by_cases hlt : j < n0 ∧ j < 60
    · obtain ⟨hj1, hj2⟩ := hlt
      obtain ⟨q, hq1⟩ : ∃ q, qs[j]? = some q := ⟨_, List.getElem?_eq_getElem (by rw [HL.out]; omega)⟩
      have hon := othK_next (c := c) (l := l) (k := key) (r := row) (HG.out j q hj2 hq1)
      rw [HX.out] at hon
      have hcu := HCUT.out q
      obtain ⟨a, g, o, rfl, hadd, d1w, d2w, kb, db⟩ := HQ.out.at hq1
      obtain ⟨qk, qd⟩ := q
      simp only at d1w d2w kb db
      have d1 := cell_up d1w (below_call HBW.out hbw (Nat.le_refl _))
      have d2 := cell_up d2w (below_call HBW.out hbw (Nat.le_refl _))
      have e1 := cell_up m1 hbw
      have e2 := cell_up m2 hbw
      have e3 := cell_up m3 hbw
      have e4 := cell_up m4 hbw
      have e5 := cell_up m5 hbw
      have CC := Lib.hid (fun w => C.out w qk qd kb.1 kb.2 db.1 db.2)
      obtain ⟨U, hU⟩ : ∃ U, (cutU c l (qk, qd)).1 = U := ⟨_, rfl⟩
      obtain ⟨D, hD⟩ : ∃ D, (cutU c l (qk, qd)).2 = D := ⟨_, rfl⟩
      rw [hU, hD] at CC hcu hon
      have hdb : -1099511627776 ≤ D ∧ D ≤ 1099511627776 := ⟨hcu.2.2.1, hcu.2.2.2.1⟩
      have hub : 0 ≤ U ∧ U ≤ 18446744073709551615 := ⟨hcu.1, by have := hcu.2.1; omega⟩
      have CU := Lib.hid (fun w => CB.out U w hub.1 hub.2 hcu.2.1)
      have hP := HCA.out U hcu.2.1
      have hQo := HCA.out key hK
      obtain ⟨P, hPP⟩ : ∃ P, col c l U row = P := ⟨_, rfl⟩
      obtain ⟨Q, hQQ⟩ : ∃ Q, col c l key row = Q := ⟨_, rfl⟩
      rw [hPP] at hP hon
      rw [hQQ] at hQo hon
      have cO := cell_up (RDO.out.at hQo) hbw
      have HPG := Lib.hid hP
      have hr0 : (0 : Int) ≤ (row : Int) := by omega
      have hr1 : (row : Int) < (m : Int) := by omega
      clear hq1 hU hD hcu d1w d2w hbw hPP hQQ hQo hP
      by_cases hke : U = key
      · rw [if_neg (by simp [hke])] at hon
        have hon2 : othK c l key row (us.take (j + 1)) = X := by omega
        have HON := Lib.hid hon2
        clear hon hon2
        subst hke
        go_upto_region 6 with fail
        go_region_held3 (fun w' => w'.cell? ⟨w.heap.size + 1, 0, none⟩ = some (.int .i64 c.bt) ∧ w'.cell? ⟨w.heap.size + 1, 1, none⟩ = some (.int .i64 c.rw) ∧ w'.cell? ⟨w.heap.size + 1, 2, none⟩ = some (.int .i64 c.wd) ∧ w'.cell? ⟨w.heap.size + 1, 3, none⟩ = some (.int .i64 c.md) ∧ w'.cell? ⟨w.heap.size + 1, 4, none⟩ = some (.int .u64 c.sd) ∧ w'.cell? ⟨w.heap.size, 6, none⟩ = some (.slice (some a) n0 k0) ∧ w'.cell? ⟨g, o, none⟩ = some (.int .u64 qk) ∧ w'.cell? ⟨g, o + 1, none⟩ = some (.int .i64 qd)) (first | (refine ⟨?_, ?_, ?_, ?_, ?_, ?_, ?_, ?_⟩ <;> (first | (with_reducible assumption) | (with_reducible refine cell_up e1 ?_) | (with_reducible refine cell_up e2 ?_) | (with_reducible refine cell_up e3 ?_) | (with_reducible refine cell_up e4 ?_) | (with_reducible refine cell_up e5 ?_) | (with_reducible refine cell_up c0 ?_) | (with_reducible refine cell_up d1 ?_) | (with_reducible refine cell_up d2 ?_)) <;> repeat' (first | (with_reducible exact Below.refl _ _) | (with_reducible assumption) | (with_reducible refine below_over ?_ _ _) | (with_reducible refine Lw.below_alloc ?_ _) | (with_reducible refine Below.drew ?_) | (with_reducible refine below_drewN ?_ _) | (with_reducible refine Below.setCell ?_ ?_ _) | go_size))) (first | (go_at_call 12; (with_reducible refine (CC.out _).mono ?_); rintro e w' ⟨rfl, hb⟩; obtain ⟨bs, dd, rfl⟩ := below_grow hb; clear hb))
        all_goals go_wp2_with (go_at_call 13; (with_reducible refine (CU.out _).mono ?_); rintro e w7 ⟨A7, cap7, rfl, rd7, hb⟩; have RD7 := Lib.hid rd7; have UP := (fun (b : Addr) (v : Value) h => cell_up (a := b) (v := v) h hb); have cO7 := UP _ _ (cell_up cO (by repeat' (first | (with_reducible exact Below.refl _ _) | (with_reducible assumption) | (with_reducible refine below_over ?_ _ _) | (with_reducible refine Lw.below_alloc ?_ _) | (with_reducible refine Below.drew ?_) | (with_reducible refine below_drewN ?_ _) | (with_reducible refine Below.setCell ?_ ?_ _) | go_size))); (first | (have u0 := UP ⟨wr.heap.size + bs.size, 0, none⟩ (.int .u64 U) (by simp [go_sem]; done); have u1 := UP ⟨wr.heap.size + bs.size, 1, none⟩ (.int .i64 D) (by simp [go_sem]; done)) | (have u0 := UP ⟨wr.heap.size, 0, none⟩ (.int .u64 U) (by simp [go_sem]; done); have u1 := UP ⟨wr.heap.size, 1, none⟩ (.int .i64 D) (by simp [go_sem]; done))); clear UP; have HB7 := Lib.hid (below_call (w1 := w7) (show Below wr.heap.size wr _ by repeat' (first | (with_reducible exact Below.refl _ _) | (with_reducible assumption) | (with_reducible refine below_over ?_ _ _) | (with_reducible refine Lw.below_alloc ?_ _) | (with_reducible refine Below.drew ?_) | (with_reducible refine below_drewN ?_ _) | (with_reducible refine Below.setCell ?_ ?_ _) | go_size)) hb (Nat.le_refl _)); clear hb rd7)
        all_goals go_quiet (fail)
        all_goals go_wp2
        all_goals go_roundw
        all_goals first
          | exact ⟨j + 1, by omega, by omega, by go_num, by rw [HON.out], below_call HBL.out (below_call HB7.out (by repeat' (first | (with_reducible exact Below.refl _ _) | (with_reducible assumption) | (with_reducible refine below_over ?_ _ _) | (with_reducible refine Lw.below_alloc ?_ _) | (with_reducible refine Below.drew ?_) | (with_reducible refine below_drewN ?_ _) | (with_reducible refine Below.setCell ?_ ?_ _) | go_size)) (Nat.le_refl _)) (Nat.le_refl _)⟩
          | (simp [intOf]; omega)
      · have hkeb : (U != key) = true := by simp [hke]
        have hkeb2 : (U == key) = false := by simp [hke]
        by_cases hpq : P = Q
        · rw [if_pos ⟨hke, hpq⟩] at hon
          have HON := Lib.hid hon
          subst hpq
          clear hon hke
          go_upto_region 6 with fail
          go_region_held3 (fun w' => w'.cell? ⟨w.heap.size + 1, 0, none⟩ = some (.int .i64 c.bt) ∧ w'.cell? ⟨w.heap.size + 1, 1, none⟩ = some (.int .i64 c.rw) ∧ w'.cell? ⟨w.heap.size + 1, 2, none⟩ = some (.int .i64 c.wd) ∧ w'.cell? ⟨w.heap.size + 1, 3, none⟩ = some (.int .i64 c.md) ∧ w'.cell? ⟨w.heap.size + 1, 4, none⟩ = some (.int .u64 c.sd) ∧ w'.cell? ⟨w.heap.size, 6, none⟩ = some (.slice (some a) n0 k0) ∧ w'.cell? ⟨g, o, none⟩ = some (.int .u64 qk) ∧ w'.cell? ⟨g, o + 1, none⟩ = some (.int .i64 qd)) (first | (refine ⟨?_, ?_, ?_, ?_, ?_, ?_, ?_, ?_⟩ <;> (first | (with_reducible assumption) | (with_reducible refine cell_up e1 ?_) | (with_reducible refine cell_up e2 ?_) | (with_reducible refine cell_up e3 ?_) | (with_reducible refine cell_up e4 ?_) | (with_reducible refine cell_up e5 ?_) | (with_reducible refine cell_up c0 ?_) | (with_reducible refine cell_up d1 ?_) | (with_reducible refine cell_up d2 ?_)) <;> repeat' (first | (with_reducible exact Below.refl _ _) | (with_reducible assumption) | (with_reducible refine below_over ?_ _ _) | (with_reducible refine Lw.below_alloc ?_ _) | (with_reducible refine Below.drew ?_) | (with_reducible refine below_drewN ?_ _) | (with_reducible refine Below.setCell ?_ ?_ _) | go_size))) (first | (go_at_call 12; (with_reducible refine (CC.out _).mono ?_); rintro e w' ⟨rfl, hb⟩; obtain ⟨bs, dd, rfl⟩ := below_grow hb; clear hb))
          all_goals go_wp2_with (go_at_call 13; (with_reducible refine (CU.out _).mono ?_); rintro e w7 ⟨A7, cap7, rfl, rd7, hb⟩; have RD7 := Lib.hid rd7; have UP := (fun (b : Addr) (v : Value) h => cell_up (a := b) (v := v) h hb); have cO7 := UP _ _ (cell_up cO (by repeat' (first | (with_reducible exact Below.refl _ _) | (with_reducible assumption) | (with_reducible refine below_over ?_ _ _) | (with_reducible refine Lw.below_alloc ?_ _) | (with_reducible refine Below.drew ?_) | (with_reducible refine below_drewN ?_ _) | (with_reducible refine Below.setCell ?_ ?_ _) | go_size))); (first | (have u0 := UP ⟨wr.heap.size + bs.size, 0, none⟩ (.int .u64 U) (by simp [go_sem]; done); have u1 := UP ⟨wr.heap.size + bs.size, 1, none⟩ (.int .i64 D) (by simp [go_sem]; done)) | (have u0 := UP ⟨wr.heap.size, 0, none⟩ (.int .u64 U) (by simp [go_sem]; done); have u1 := UP ⟨wr.heap.size, 1, none⟩ (.int .i64 D) (by simp [go_sem]; done))); clear UP; have HB7 := Lib.hid (below_call (w1 := w7) (show Below wr.heap.size wr _ by repeat' (first | (with_reducible exact Below.refl _ _) | (with_reducible assumption) | (with_reducible refine below_over ?_ _ _) | (with_reducible refine Lw.below_alloc ?_ _) | (with_reducible refine Below.drew ?_) | (with_reducible refine below_drewN ?_ _) | (with_reducible refine Below.setCell ?_ ?_ _) | go_size)) hb (Nat.le_refl _)); clear hb rd7)
          all_goals have cU := RD7.out.at HPG.out
          all_goals go_quiet (fail)
          all_goals go_wp2
          all_goals go_roundw
          all_goals first
            | exact ⟨j + 1, by omega, by omega, by go_num, by rw [HON.out], below_call HBL.out (below_call HB7.out (by repeat' (first | (with_reducible exact Below.refl _ _) | (with_reducible assumption) | (with_reducible refine below_over ?_ _ _) | (with_reducible refine Lw.below_alloc ?_ _) | (with_reducible refine Below.drew ?_) | (with_reducible refine below_drewN ?_ _) | (with_reducible refine Below.setCell ?_ ?_ _) | go_size)) (Nat.le_refl _)) (Nat.le_refl _)⟩
            | (simp [intOf]; omega)
        · rw [if_neg (fun h => hpq h.2)] at hon
          have hon2 : othK c l key row (us.take (j + 1)) = X := by omega
          have HON := Lib.hid hon2
          have hpqb : (P == Q) = false := by simp [hpq]
          have hpqd : decide (P = Q) = false := by simp [hpq]
          clear hon hon2 hke hpq
          go_upto_region 6 with fail
          go_region_held3 (fun w' => w'.cell? ⟨w.heap.size + 1, 0, none⟩ = some (.int .i64 c.bt) ∧ w'.cell? ⟨w.heap.size + 1, 1, none⟩ = some (.int .i64 c.rw) ∧ w'.cell? ⟨w.heap.size + 1, 2, none⟩ = some (.int .i64 c.wd) ∧ w'.cell? ⟨w.heap.size + 1, 3, none⟩ = some (.int .i64 c.md) ∧ w'.cell? ⟨w.heap.size + 1, 4, none⟩ = some (.int .u64 c.sd) ∧ w'.cell? ⟨w.heap.size, 6, none⟩ = some (.slice (some a) n0 k0) ∧ w'.cell? ⟨g, o, none⟩ = some (.int .u64 qk) ∧ w'.cell? ⟨g, o + 1, none⟩ = some (.int .i64 qd)) (first | (refine ⟨?_, ?_, ?_, ?_, ?_, ?_, ?_, ?_⟩ <;> (first | (with_reducible assumption) | (with_reducible refine cell_up e1 ?_) | (with_reducible refine cell_up e2 ?_) | (with_reducible refine cell_up e3 ?_) | (with_reducible refine cell_up e4 ?_) | (with_reducible refine cell_up e5 ?_) | (with_reducible refine cell_up c0 ?_) | (with_reducible refine cell_up d1 ?_) | (with_reducible refine cell_up d2 ?_)) <;> repeat' (first | (with_reducible exact Below.refl _ _) | (with_reducible assumption) | (with_reducible refine below_over ?_ _ _) | (with_reducible refine Lw.below_alloc ?_ _) | (with_reducible refine Below.drew ?_) | (with_reducible refine below_drewN ?_ _) | (with_reducible refine Below.setCell ?_ ?_ _) | go_size))) (first | (go_at_call 12; (with_reducible refine (CC.out _).mono ?_); rintro e w' ⟨rfl, hb⟩; obtain ⟨bs, dd, rfl⟩ := below_grow hb; clear hb))
          all_goals go_wp2_with (go_at_call 13; (with_reducible refine (CU.out _).mono ?_); rintro e w7 ⟨A7, cap7, rfl, rd7, hb⟩; have RD7 := Lib.hid rd7; have UP := (fun (b : Addr) (v : Value) h => cell_up (a := b) (v := v) h hb); have cO7 := UP _ _ (cell_up cO (by repeat' (first | (with_reducible exact Below.refl _ _) | (with_reducible assumption) | (with_reducible refine below_over ?_ _ _) | (with_reducible refine Lw.below_alloc ?_ _) | (with_reducible refine Below.drew ?_) | (with_reducible refine below_drewN ?_ _) | (with_reducible refine Below.setCell ?_ ?_ _) | go_size))); (first | (have u0 := UP ⟨wr.heap.size + bs.size, 0, none⟩ (.int .u64 U) (by simp [go_sem]; done); have u1 := UP ⟨wr.heap.size + bs.size, 1, none⟩ (.int .i64 D) (by simp [go_sem]; done)) | (have u0 := UP ⟨wr.heap.size, 0, none⟩ (.int .u64 U) (by simp [go_sem]; done); have u1 := UP ⟨wr.heap.size, 1, none⟩ (.int .i64 D) (by simp [go_sem]; done))); clear UP; have HB7 := Lib.hid (below_call (w1 := w7) (show Below wr.heap.size wr _ by repeat' (first | (with_reducible exact Below.refl _ _) | (with_reducible assumption) | (with_reducible refine below_over ?_ _ _) | (with_reducible refine Lw.below_alloc ?_ _) | (with_reducible refine Below.drew ?_) | (with_reducible refine below_drewN ?_ _) | (with_reducible refine Below.setCell ?_ ?_ _) | go_size)) hb (Nat.le_refl _)); clear hb rd7)
          all_goals have cU := RD7.out.at HPG.out
          all_goals go_quiet (fail)
          all_goals go_wp2
          all_goals go_roundw
          all_goals first
            | exact ⟨j + 1, by omega, by omega, by go_num, by rw [HON.out], below_call HBL.out (below_call HB7.out (by repeat' (first | (with_reducible exact Below.refl _ _) | (with_reducible assumption) | (with_reducible refine below_over ?_ _ _) | (with_reducible refine Lw.below_alloc ?_ _) | (with_reducible refine Below.drew ?_) | (with_reducible refine below_drewN ?_ _) | (with_reducible refine Below.setCell ?_ ?_ _) | go_size)) (Nat.le_refl _)) (Nat.le_refl _)⟩
            | (simp [intOf]; omega)
    · have hend : j = n0 ∨ (j = 60 ∧ j < n0) := by omega
      have hta := HAL.out j (by rw [HL.out]; omega) hj6
      have hX := HX.out
      rw [hta] at hX
      have HX2 := Lib.hid hX
      clear hlt hta hX
      rcases hend with hkn0 | ⟨rfl, hkn⟩
      · have hkn1 : n0 = j := hkn0.symm
        subst hkn1
        clear hkn0
        go_wp2
        go_ret
        exact ⟨ret_is HX2.out.symm, below_call HBW.out HBL.out (Nat.le_refl _)⟩
      · go_wp2
        go_ret
        exact ⟨ret_is HX2.out.symm, below_call HBW.out HBL.out (Nat.le_refl _)⟩
end Go.Proofs.Ytahgkiceifblmaa.Sk
/- fed of layer 10's laws. Printed by wip/gen/skfed2.py. -/
namespace Go.Proofs.Ytahgkiceifblmaa.Sk
open Go Go.RowKit Lw Grd Lin Con Shp
set_option linter.unusedVariables false
set_option linter.unusedSimpArgs false
/-- The updates from the one place to the other, cut. -/
def upsR (c : Cfg) (l : Int) (qs : Ups) (f t : Nat) : Ups := ((qs.take t).drop f).map (cutU c l)
theorem upsR_zero (c : Cfg) (l : Int) (qs : Ups) (f : Nat) : upsR c l qs f f = [] := by
  unfold upsR
  rw [List.drop_of_length_le (by rw [List.length_take]; omega)]
  rfl
theorem upsR_next {c : Cfg} {l : Int} {qs : Ups} {f k : Nat} {q : Int × Int} (hq : qs[k]? = some q) (hf : f ≤ k) : upsR c l qs f (k + 1) = upsR c l qs f k ++ [cutU c l q] := by
  obtain ⟨h1, h2⟩ := List.getElem?_eq_some_iff.1 hq
  unfold upsR
  rw [List.take_succ_eq_append_getElem h1, List.drop_append_of_le_length (by rw [List.length_take]; omega), List.map_append, h2]
  rfl
theorem upsR_len (c : Cfg) (l : Int) (qs : Ups) (f t : Nat) : (upsR c l qs f t).length ≤ t := by
  unfold upsR
  rw [List.length_map, List.length_drop, List.length_take]
  omega
theorem upsR_in {c : Cfg} {l : Int} (hk : 1 ≤ keys c l) (qs : Ups) (f t : Nat) : UpsIn c l (upsR c l qs f t) := upsIn_cut hk _
theorem upsR_end {c : Cfg} {l : Int} {qs : Ups} {f k t : Nat} (hk : k ≤ t) (h : k = t ∨ qs.length ≤ k) : upsR c l qs f k = upsR c l qs f t := by
  unfold upsR
  rcases h with rfl | h
  · rfl
  · rw [List.take_of_length_le h, List.take_of_length_le (by omega)]
theorem skI {w : World} {p : Addr} {F : Nat → Prop} {c : Cfg} {l : Int} {L : List (List Int)} (h : (skT p F c l L).I w) : SK w p F c l L := h
theorem two_boxs (w : World) (e1 e2 : TypeId) (v1 v2 : Array Value) : Have w ((w.alloc (.cells v1 e1)).alloc (.cells v2 e2)) [boxT (w.heap.size + 1) e2 v2, boxT w.heap.size e1 v1] := by
  refine (box_new w e1 v1).push (boxT (w.heap.size + 1) e2 v2) (Lw.below_alloc (Below.refl _ _) _) ?_ (fun k hk => ?_)
  · have h := heap_alloc_new (w.alloc (.cells v1 e1)) (.cells v2 e2)
    rw [World.size_alloc] at h
    exact h
  · rw [World.size_alloc]
    exact Nat.le_of_eq hk.symm
theorem box5 {w : World} {b : Nat} {e : TypeId} {v0 v1 v2 v3 v4 : Value} (h : (boxT b e #[v0, v1, v2, v3, v4]).I w) : w.cell? ⟨b, 0, none⟩ = some v0 ∧ w.cell? ⟨b, 1, none⟩ = some v1 ∧ w.cell? ⟨b, 2, none⟩ = some v2 ∧ w.cell? ⟨b, 3, none⟩ = some v3 ∧ w.cell? ⟨b, 4, none⟩ = some v4 :=
  ⟨box_cell h rfl, box_cell h rfl, box_cell h rfl, box_cell h rfl, box_cell h rfl⟩
theorem box7 {w : World} {b : Nat} {e : TypeId} {v0 v1 v2 v3 v4 v5 v6 : Value} (h : (boxT b e #[v0, v1, v2, v3, v4, v5, v6]).I w) : w.cell? ⟨b, 0, none⟩ = some v0 ∧ w.cell? ⟨b, 1, none⟩ = some v1 ∧ w.cell? ⟨b, 2, none⟩ = some v2 ∧ w.cell? ⟨b, 3, none⟩ = some v3 ∧ w.cell? ⟨b, 4, none⟩ = some v4 ∧ w.cell? ⟨b, 5, none⟩ = some v5 ∧ w.cell? ⟨b, 6, none⟩ = some v6 :=
  ⟨box_cell h rfl, box_cell h rfl, box_cell h rfl, box_cell h rfl, box_cell h rfl, box_cell h rfl, box_cell h rfl⟩
theorem boxs_frozen {w : World} {b : Nat} {e : TypeId} {vs : Array Value} (h : (boxT b e vs).I w) (i : Nat) : w.frozen? ⟨b, i, none⟩ = false := by
  have h1 : w.heap[b]? = some (.cells vs e (0, 0)) := h
  simp [World.frozen?, h1]
theorem boxs_set {w : World} {b : Nat} {e : TypeId} {vs : Array Value} (h : (boxT b e vs).I w) (i : Nat) (v : Value) : (boxT b e (vs.setIfInBounds i v)).I (w.setCell ⟨b, i, none⟩ v) := by
  have h1 : w.heap[b]? = some (.cells vs e (0, 0)) := h
  show (w.setCell ⟨b, i, none⟩ v).heap[b]? = _
  simp [World.setCell, Array.getElem?_modify, h1]
theorem store5 {w : World} {b : Nat} {e : TypeId} {u0 u1 u2 u3 u4 : Value} (h : (boxT b e #[u0, u1, u2, u3, u4]).I w) (v0 v1 v2 v3 v4 : Value) :
    (boxT b e #[v0, v1, v2, v3, v4]).I ((((((w.setCell ⟨b, 0, none⟩ v0).setCell ⟨b, 1, none⟩ v1).setCell ⟨b, 2, none⟩ v2).setCell ⟨b, 3, none⟩ v3).setCell ⟨b, 4, none⟩ v4).drew) := by
  have q := boxs_set (boxs_set (boxs_set (boxs_set (boxs_set h 0 v0) 1 v1) 2 v2) 3 v3) 4 v4
  exact (boxT b e #[v0, v1, v2, v3, v4]).keep _ _ (fun _ => False) q (Kept.of_below (Below.drew (Below.refl _ _))) (fun _ _ h => h)
theorem store_have {w0 w w' : World} {t0 t1 : Thing} {b : Nat} {e : TypeId} {vs : Array Value} {ts : List Thing} (h : Have w0 w (t0 :: t1 :: boxT b e vs :: ts)) (hk : Kept (fun k => k = b) w w') : Have w0 w' [t0] := by
  have hb : Below w0.heap.size w0 w' := hk.low h.below h.below.size (fun q hq => by subst hq; exact h.f2 q rfl)
  have h2 : Have w0 w [t0] := ⟨h.i0, h.f0, fun u hu => by simp at hu, h.below⟩
  exact Have.keep hk hb h2 (fun t ht k h3 h4 => by simp at ht; subst ht; exact h.ap02 k h3 h4)
/-- The config of a Play of layer 10, of a mode. -/
def cfgP (x : Cfg) (md : Int) : Cfg := { anyC x 8 9 with md := md }
theorem cfgP_right (x : Cfg) (md : Int) (h0 : 1 ≤ md) (h1 : md ≤ 3) : IsRight (cfgP x md) ∧ (cfgP x md).bt ≤ 8 := by
  have h := any_right x 8 9 (by omega) (by omega) (by omega) (by omega)
  refine ⟨⟨h.1, h.2.1, h.2.2.1, h.2.2.2.1, h.2.2.2.2.1, h.2.2.2.2.2.1, h0, h1⟩, ?_⟩
  show 1 + x.bt % 65536 % 8 ≤ 8
  omega
theorem cfgP_ok (x : Cfg) (hx : x.Ok) (md : Int) (h0 : 1 ≤ md) (h1 : md ≤ 3) : (cfgP x md).Ok := by
  have h := any_ok x hx 8 9 (by omega) (by omega) (by omega) (by omega)
  exact ⟨h.b0, h.b1, h.r0, h.r1, h.w0, h.w1, by show -9223372036854775808 ≤ md; omega, by show md ≤ 9223372036854775807; omega, h.s0, h.s1⟩
set_option maxRecDepth 100000 in
set_option maxHeartbeats 8000000 in
theorem fed_any (x : Cfg) (lv : Int) (A : Option Addr) (n0 k0 : Nat) (qs : Ups) (md f0 t0 : Int) (f t : Nat) (c : Cfg) (l : Int) (w : World) (hx : x.Ok) (hlv : -9223372036854775808 ≤ lv ∧ lv ≤ 9223372036854775807) (hq : UpdV w A n0 k0 qs) (hm0 : 1 ≤ md) (hm1 : md ≤ 3) (hf0 : f0 = f) (ht0 : t0 = t) (hft : f ≤ t) (ht : t ≤ 60) (hC : cfgP x md = c) (hl : lv % 65536 % (c.bt + 1) = l) :
    Calls Try.prog 11 #[.agg #[.int .i64 x.bt, .int .i64 x.rw, .int .i64 x.wd, .int .i64 x.md, .int .u64 x.sd, .int .i64 lv, .slice A n0 k0], .int .i64 md, .int .i64 f0, .int .i64 t0] w fun e w' => ∃ (p : Addr) (F : Nat → Prop), e = .returned (.tuple #[.pointer (some p), .agg #[.int .i64 c.bt, .int .i64 c.rw, .int .i64 c.wd, .int .i64 c.md, .int .u64 c.sd], .int .i64 l]) ∧ Have w w' [skT p F c l (cells c l (upsR c l qs f t))] := by
  subst hf0 ht0
  have hr := cfgP_right x md hm0 hm1
  have hco := cfgP_ok x hx md hm0 hm1
  rw [hC] at hr hco
  obtain ⟨C, hCC⟩ : ∃ C, anyC x 8 9 = C := ⟨_, rfl⟩
  have h1 : C.bt = c.bt ∧ C.rw = c.rw ∧ C.wd = c.wd ∧ C.sd = c.sd ∧ c.md = md := by rw [← hC, ← hCC]; exact ⟨rfl, rfl, rfl, rfl, rfl⟩
  have CA := Lib.hid (fun w => rany_at x 8 9 C w hx (by omega) (by omega) (by omega) (by omega) hCC)
  rw [h1.1, h1.2.1, h1.2.2.1, h1.2.2.2.1] at CA
  have hmd := h1.2.2.2.2
  obtain ⟨X, Y, a1, b1, c1, dd1, ee1, ff1⟩ := level_of lv (c.bt + 1) (by have := hr.1.1; omega) (by omega)
  have hYl : Y = l := by
    rw [← hl, ← dd1, ← a1, and16i, Int.tmod_eq_emod_of_nonneg (by omega)]
  subst hYl
  have hbt := hr.1.1
  have hbt8 := hr.2
  have hkeys : 1 ≤ keys c Y := keys_pos.2 ⟨hr.1, by omega, by omega⟩
  have CNW := Lib.hid (fun w => snew_yes c Y w hco (by omega) (by omega) hkeys)
  have HQ := Lib.hid hq
  have HL := Lib.hid hq.len
  have hnc := hq.nc
  have hcm := hq.cm
  unfold maxLen at hcm
  have HMD := Lib.hid hmd
  have HR := Lib.hid hr.1
  have HKY := Lib.hid hkeys
  have CC0 := Lib.hid (fun w k d h0 h1 h2 h3 => cut_any c Y k d w hco (by omega) (by omega) h0 h1 h2 h3 hkeys)
  have HBX : Hid (Have w ((w.alloc (.cells #[.int .i64 x.bt, .int .i64 x.rw, .int .i64 x.wd, .int .i64 x.md, .int .u64 x.sd, .int .i64 lv, .slice A n0 k0] 27)).alloc (.cells #[.int .i64 0, .int .i64 0, .int .i64 0, .int .i64 0, .int .u64 0] 24)) [boxT (w.heap.size + 1) 24 #[.int .i64 0, .int .i64 0, .int .i64 0, .int .i64 0, .int .u64 0], boxT w.heap.size 27 #[.int .i64 x.bt, .int .i64 x.rw, .int .i64 x.wd, .int .i64 x.md, .int .u64 x.sd, .int .i64 lv, .slice A n0 k0]]) := Lib.hid (two_boxs w _ _ _ _)
  rw [hmd] at CNW CC0 ⊢
  have hw1 : IntKind.i64.wrap (c.bt + 1) = c.bt + 1 := IntWalk.i64_in _ ⟨by omega, by omega⟩
  have hbn : ¬ c.bt + 1 = 0 := by omega
  clear hC hCC h1 hmd hq hr hkeys hco hx hl
  go_enter Try.func11, Try.ntmps11
  go_wp2_with (first
    | (go_at_call 23; (with_reducible refine (CNW.out _).mono ?_); rintro e w4 ⟨p, F, rfl, hsk, hfr, hb⟩; have HV4 := Lib.hid (HV2.out.push (skT p F c Y (zerosL (rws c) (wds c))) hb hsk hfr); clear hsk hfr hb)
    | (go_at_call 22; (with_reducible refine (CA.out _).mono ?_); rintro e w1 ⟨rfl, hb⟩; have HV1 := Lib.hid (HBX.out.up hb); obtain ⟨x0, x1, x2, x3, x4, x5, x6⟩ := box7 HV1.out.i1; have hl0 := box_lt HV1.out.i1; have hl1 := box_lt HV1.out.i0; have HV2 := Lib.hid (HV1.out.push (boxT w1.heap.size 24 #[.int .i64 c.bt, .int .i64 c.rw, .int .i64 c.wd, .int .i64 md, .int .u64 c.sd]) (Lw.below_alloc (Below.refl _ _) _) (heap_alloc_new w1 _) (fun k hk => Nat.le_of_eq hk.symm)); clear hb))
  obtain ⟨g1, hg1⟩ : ∃ g1, w1.heap.size = g1 := ⟨_, rfl⟩
  rw [hg1] at HV4 ⊢
  clear hg1 hl0 hl1 x0 x1 x2 x3 x4 x5 x6
  go_loopw [15] (fun iv wr => ∃ (k : Nat) (F : Nat → Prop), f ≤ k ∧ k ≤ t ∧ (k ≤ n0 ∨ k = f) ∧ iv = .int .i64 k ∧ Have w wr [skT p F c Y (cells c Y (upsR c Y qs f k)), boxT g1 24 #[.int .i64 c.bt, .int .i64 c.rw, .int .i64 c.wd, .int .i64 md, .int .u64 c.sd], boxT (w.heap.size + 1) 24 #[.int .i64 0, .int .i64 0, .int .i64 0, .int .i64 0, .int .u64 0], boxT w.heap.size 27 #[.int .i64 x.bt, .int .i64 x.rw, .int .i64 x.wd, .int .i64 x.md, .int .u64 x.sd, .int .i64 lv, .slice A n0 k0]]) (fun iv _ => t - (intOf iv).toNat)
  case atStart => exact ⟨f, F, Nat.le_refl _, hft, .inr rfl, rfl, by rw [upsR_zero, cells_nil]; exact HV4.out⟩
  case round =>
    obtain ⟨k, F, hk0, hk1, hk2, rfl, hv⟩ := hrel
    have HVr := Lib.hid hv
    have hwb := hv.below
    have HWB := Lib.hid hwb
    clear hv
    obtain ⟨x0, x1, x2, x3, x4, x5, c0⟩ := box7 HVr.out.i3
    by_cases hlt : k < n0 ∧ k < t
    · obtain ⟨hj1, hj2⟩ := hlt
      obtain ⟨q, hq1⟩ : ∃ q, qs[k]? = some q := ⟨_, List.getElem?_eq_getElem (by rw [HL.out]; omega)⟩
      have hnx := upsR_next (c := c) (l := Y) hq1 hk0
      have hst := up_ok HR.out (upsR_in HKY.out qs f k) (by have := upsR_len c Y qs f k; omega) (upsIn_cut HKY.out [q])
      have hcu := cutU_ok HKY.out q
      obtain ⟨a, g, o, rfl, hadd, d1w, d2w, kb, db⟩ := HQ.out.at hq1
      obtain ⟨qk, qd⟩ := q
      simp only at d1w d2w kb db
      have d1 := cell_up d1w hwb
      have d2 := cell_up d2w hwb
      obtain ⟨e1, e2, e3, e4, e5⟩ := box5 HVr.out.i1
      have CC := Lib.hid (fun w => CC0.out w qk qd kb.1 kb.2 db.1 db.2)
      obtain ⟨us, hus⟩ : ∃ us, cells c Y (upsR c Y qs f k) = us := ⟨_, rfl⟩
      obtain ⟨us2, hus2⟩ : ∃ us2, cells c Y (upsR c Y qs f (k + 1)) = us2 := ⟨_, rfl⟩
      rw [hus] at HVr hst
      rw [hnx] at hus2
      rw [hus2] at hst
      have HNX : Hid (cells c Y (upsR c Y qs f (k + 1)) = us2) := Lib.hid (by rw [hnx]; exact hus2)
      obtain ⟨U, hU⟩ : ∃ U, (cutU c Y (qk, qd)).1 = U := ⟨_, rfl⟩
      obtain ⟨D, hD⟩ : ∃ D, (cutU c Y (qk, qd)).2 = D := ⟨_, rfl⟩
      rw [hU, hD] at CC hst hcu
      have HST := Lib.hid hst
      have hkk := keys_bd c Y
      have hub : 0 ≤ U ∧ U ≤ 18446744073709551615 := ⟨hcu.1, by have := hcu.2.1; omega⟩
      have hdb : -9223372036854775808 ≤ D ∧ D ≤ 9223372036854775807 := ⟨by have := hcu.2.2.1; omega, by have := hcu.2.2.2.1; omega⟩
      clear hq1 hnx hst hcu hus hus2 hU hD d1w d2w hwb
      go_upto_region 10 with fail
      go_region_held3 (fun w' => w'.cell? ⟨g1, 0, none⟩ = some (.int .i64 c.bt) ∧ w'.cell? ⟨g1, 1, none⟩ = some (.int .i64 c.rw) ∧ w'.cell? ⟨g1, 2, none⟩ = some (.int .i64 c.wd) ∧ w'.cell? ⟨g1, 3, none⟩ = some (.int .i64 md) ∧ w'.cell? ⟨g1, 4, none⟩ = some (.int .u64 c.sd) ∧ w'.cell? ⟨w.heap.size, 6, none⟩ = some (.slice (some a) n0 k0) ∧ w'.cell? ⟨g, o, none⟩ = some (.int .u64 qk) ∧ w'.cell? ⟨g, o + 1, none⟩ = some (.int .i64 qd)) (first | (refine ⟨?_, ?_, ?_, ?_, ?_, ?_, ?_, ?_⟩ <;> (first | (with_reducible assumption) | (with_reducible refine cell_up e1 ?_) | (with_reducible refine cell_up e2 ?_) | (with_reducible refine cell_up e3 ?_) | (with_reducible refine cell_up e4 ?_) | (with_reducible refine cell_up e5 ?_) | (with_reducible refine cell_up c0 ?_) | (with_reducible refine cell_up d1 ?_) | (with_reducible refine cell_up d2 ?_)) <;> repeat' (first | (with_reducible exact Below.refl _ _) | (with_reducible assumption) | (with_reducible refine below_over ?_ _ _) | (with_reducible refine Lw.below_alloc ?_ _) | (with_reducible refine Below.drew ?_) | (with_reducible refine below_drewN ?_ _) | (with_reducible refine Below.setCell ?_ ?_ _) | go_size))) (first | (go_at_call 12; (with_reducible refine (CC.out _).mono ?_); rintro e w' ⟨rfl, hb⟩; obtain ⟨bs, dd, rfl⟩ := below_grow hb; clear hb))
      all_goals go_wp2_with (go_at_call 24; (with_reducible refine (supd_any p F c Y us U D _ (skI (HVr.out.up (by repeat' (first | (with_reducible exact Below.refl _ _) | (with_reducible assumption) | (with_reducible refine below_over ?_ _ _) | (with_reducible refine Lw.below_alloc ?_ _) | (with_reducible refine Below.drew ?_) | (with_reducible refine below_drewN ?_ _) | (with_reducible refine Below.setCell ?_ ?_ _) | go_size))).i0) hub.1 hub.2 hdb.1 hdb.2).mono ?_); rintro e w8 ⟨he, F8, hnp, hnk, hnf⟩; rw [HST.out.1] at he; subst he; rw [HST.out.2] at hnp; have HV8 := Lib.hid ((HVr.out.up (by repeat' (first | (with_reducible exact Below.refl _ _) | (with_reducible assumption) | (with_reducible refine below_over ?_ _ _) | (with_reducible refine Lw.below_alloc ?_ _) | (with_reducible refine Below.drew ?_) | (with_reducible refine below_drewN ?_ _) | (with_reducible refine Below.setCell ?_ ?_ _) | go_size))).turn_0 (skT p F8 c Y us2) hnp hnk hnf); clear hnp hnk hnf)
      all_goals go_roundw
      all_goals first
        | exact ⟨k + 1, F8, by omega, by omega, .inl (by omega), by go_num, by rw [HNX.out]; exact HV8.out⟩
        | (simp [intOf]; omega)
    · have hend : upsR c Y qs f k = upsR c Y qs f t := by
        rcases hk2 with h9 | h9
        · exact upsR_end hk1 (by rw [HL.out]; omega)
        · subst h9
          exact upsR_end hk1 (by rw [HL.out]; omega)
      rw [hend] at HVr
      have HVE := Lib.hid HVr.out
      obtain ⟨e1, e2, e3, e4, e5⟩ := box5 HVr.out.i1
      obtain ⟨y1, y2, y3, y4, y5⟩ := box5 HVr.out.i2
      have z1 := boxs_frozen HVr.out.i2 0
      have z2 := boxs_frozen HVr.out.i2 1
      have z3 := boxs_frozen HVr.out.i2 2
      have z4 := boxs_frozen HVr.out.i2 3
      have z5 := boxs_frozen HVr.out.i2 4
      clear hend hk2
      by_cases hkn : k < n0
      · have hkt : t ≤ k := by omega
        clear hlt
        go_wp2
        have h5 := box5 (store5 HVE.out.i2 (.int .i64 c.bt) (.int .i64 c.rw) (.int .i64 c.wd) (.int .i64 md) (.int .u64 c.sd))
        have hkp := store_have (w' := (((((wr.setCell ⟨w.heap.size + 1, 0, none⟩ (.int .i64 c.bt)).setCell ⟨w.heap.size + 1, 1, none⟩ (.int .i64 c.rw)).setCell ⟨w.heap.size + 1, 2, none⟩ (.int .i64 c.wd)).setCell ⟨w.heap.size + 1, 3, none⟩ (.int .i64 md)).setCell ⟨w.heap.size + 1, 4, none⟩ (.int .u64 c.sd)).drew) HVE.out (by repeat' (first | (with_reducible exact Kept.refl _ _) | (with_reducible refine Kept.drew ?_) | (refine Kept.set (F := fun k => k = w.heap.size + 1) ?_ (.inl rfl) _ _)))
        go_region
        obtain ⟨wz, hwz⟩ : ∃ wz, wz = (((((wr.setCell ⟨w.heap.size + 1, 0, none⟩ (.int .i64 c.bt)).setCell ⟨w.heap.size + 1, 1, none⟩ (.int .i64 c.rw)).setCell ⟨w.heap.size + 1, 2, none⟩ (.int .i64 c.wd)).setCell ⟨w.heap.size + 1, 3, none⟩ (.int .i64 md)).setCell ⟨w.heap.size + 1, 4, none⟩ (.int .u64 c.sd)).drew := ⟨_, rfl⟩
        rw [← hwz] at h5 hkp ⊢
        have HKP := Lib.hid hkp
        obtain ⟨r1, r2, r3, r4, r5⟩ := h5
        clear hwz hkp e1 e2 e3 e4 e5 y1 y2 y3 y4 y5 z1 z2 z3 z4 z5
        go_wp2
        refine bodyPost_ret (v := .tuple #[.pointer (some p), .agg #[.int .i64 c.bt, .int .i64 c.rw, .int .i64 c.wd, .int .i64 md, .int .u64 c.sd], .int .i64 Y]) (by simp [results, Try.results11, go_sem, r1, r2, r3, r4, r5]) rfl ?_
        exact ⟨p, F, rfl, HKP.out⟩
      · have hkn2 : n0 ≤ k := by omega
        clear hlt hkn
        go_wp2
        have h5 := box5 (store5 HVE.out.i2 (.int .i64 c.bt) (.int .i64 c.rw) (.int .i64 c.wd) (.int .i64 md) (.int .u64 c.sd))
        have hkp := store_have (w' := (((((wr.setCell ⟨w.heap.size + 1, 0, none⟩ (.int .i64 c.bt)).setCell ⟨w.heap.size + 1, 1, none⟩ (.int .i64 c.rw)).setCell ⟨w.heap.size + 1, 2, none⟩ (.int .i64 c.wd)).setCell ⟨w.heap.size + 1, 3, none⟩ (.int .i64 md)).setCell ⟨w.heap.size + 1, 4, none⟩ (.int .u64 c.sd)).drew) HVE.out (by repeat' (first | (with_reducible exact Kept.refl _ _) | (with_reducible refine Kept.drew ?_) | (refine Kept.set (F := fun k => k = w.heap.size + 1) ?_ (.inl rfl) _ _)))
        go_region
        obtain ⟨wz, hwz⟩ : ∃ wz, wz = (((((wr.setCell ⟨w.heap.size + 1, 0, none⟩ (.int .i64 c.bt)).setCell ⟨w.heap.size + 1, 1, none⟩ (.int .i64 c.rw)).setCell ⟨w.heap.size + 1, 2, none⟩ (.int .i64 c.wd)).setCell ⟨w.heap.size + 1, 3, none⟩ (.int .i64 md)).setCell ⟨w.heap.size + 1, 4, none⟩ (.int .u64 c.sd)).drew := ⟨_, rfl⟩
        rw [← hwz] at h5 hkp ⊢
        have HKP := Lib.hid hkp
        obtain ⟨r1, r2, r3, r4, r5⟩ := h5
        clear hwz hkp e1 e2 e3 e4 e5 y1 y2 y3 y4 y5 z1 z2 z3 z4 z5
        go_wp2
        refine bodyPost_ret (v := .tuple #[.pointer (some p), .agg #[.int .i64 c.bt, .int .i64 c.rw, .int .i64 c.wd, .int .i64 md, .int .u64 c.sd], .int .i64 Y]) (by simp [results, Try.results11, go_sem, r1, r2, r3, r4, r5]) rfl ?_
        exact ⟨p, F, rfl, HKP.out⟩
end Go.Proofs.Ytahgkiceifblmaa.Sk
/- shown of layer 10's laws. Printed by wip/gen/skshown.py. -/
namespace Go.Proofs.Ytahgkiceifblmaa.Sk
open Go Go.RowKit Lw Grd Lin Con Shp
set_option linter.unusedVariables false
set_option linter.unusedSimpArgs false
def sA : Cfg := ⟨3, 2, 1, 1, 0⟩
theorem sA_ok : sA.Ok := by constructor <;> decide
theorem sA_r : IsRight sA := by decide
theorem sA_rw : rws sA = 2 := rfl
theorem sA_wd : wds sA = 1 := rfl
theorem sA_k0 : keys sA 0 = 8 := by decide
theorem sA_k4 : keys sA 4 = 0 := by decide
theorem sA_cols {k : Int} (h1 : k < 8) : cols sA 0 k = [0, 0] := by
  have h : ∀ r, col sA 0 k r = 0 := fun r => by
    have h2 := col_range sA_r 0 k r
    have e : sA.wd = 1 := rfl
    omega
  rw [cols_yes (by rw [sA_k0]; exact h1)]
  show (List.range 2).map (col sA 0 k) = [0, 0]
  simp [List.range, List.range.loop, h]
def sB : List (List Int) := [[5], [5]]
def sD : List (List Int) := [[7], [7]]
theorem u1 : upCode sA 0 (zerosL 2 1) 0 5 = 0 ∧ upRes sA 0 (zerosL 2 1) 0 5 = sB := by
  unfold upCode upRes
  rw [sA_cols (by omega), sA_k0, if_neg (by omega), if_neg (by decide), if_neg (by omega), if_neg (by decide)]
  decide
theorem u2 : upCode sA 0 sB 1 2 = 0 ∧ upRes sA 0 sB 1 2 = sD := by
  unfold upCode upRes
  rw [sA_cols (by omega), sA_k0, if_neg (by omega), if_neg (by decide), if_neg (by omega), if_neg (by decide)]
  decide
theorem u3 : upCode sA 0 sD 8 2 = 2 ∧ upRes sA 0 sD 8 2 = sD := by
  unfold upCode upRes
  rw [sA_k0, if_pos (by omega), if_pos (by omega)]
  exact ⟨rfl, rfl⟩
theorem p1 : ptVal sA 0 sD 0 = 7 ∧ ptCode sA 0 0 = 0 := by
  unfold ptVal ptCode
  rw [sA_cols (by omega), sA_k0, if_neg (by omega), if_neg (by decide), if_neg (by omega)]
  refine ⟨?_, rfl⟩
  unfold lea
  rw [(Ord.kv_yes (k := 0) (by omega) (by decide)).1]
  exact (Ord.least_eq _ 7 (by decide) (by decide)).symm
theorem n_yes (w : World) : Calls Try.prog 23 #[.agg #[.int .i64 3, .int .i64 2, .int .i64 1, .int .i64 1, .int .u64 0], .int .i64 0] w fun e w' => ∃ (p : Addr) (F : Nat → Prop), e = .returned (.tuple #[.pointer (some p), .int .i64 0]) ∧ SK w' p F sA 0 (zerosL 2 1) ∧ (∀ k, F k → w.heap.size ≤ k) ∧ Below w.heap.size w w' := snew_yes sA 0 w sA_ok (by omega) (by omega) (by rw [sA_k0]; omega)
theorem n_no (w : World) : Calls Try.prog 23 #[.agg #[.int .i64 3, .int .i64 2, .int .i64 1, .int .i64 1, .int .u64 0], .int .i64 4] w fun e w' => e = .returned (.tuple #[.pointer none, .int .i64 1]) ∧ Below w.heap.size w w' := snew_no sA 4 w sA_ok (by omega) (by omega) sA_k4
theorem c_any (p : Addr) (F : Nat → Prop) (w : World) (h : SK w p F sA 0 sD) : Calls Try.prog 27 #[.pointer (some p)] w fun e w' => e = .returned (.agg #[.int .i64 3, .int .i64 2, .int .i64 1, .int .i64 1, .int .u64 0]) ∧ Below w.heap.size w w' := sconfig_any p F sA 0 sD w h
theorem l_any (p : Addr) (F : Nat → Prop) (w : World) (h : SK w p F sA 0 sD) : Calls Try.prog 15 #[.pointer (some p)] w fun e w' => ∃ (g : Nat) (cap : Nat), e = .returned (.slice (some ⟨g, 0, none⟩) 2 cap) ∧ w'.cell? ⟨g, 1, none⟩ = some (.int .i64 7) ∧ (2 : Int) ≤ cap ∧ Below w.heap.size w w' :=
  (scells_mid p F sA 0 sD w h).mono fun e w' ⟨g, cap, e1, h1, _, h2, _, h5⟩ => ⟨g, cap, e1, (h1.cell (j := 1) (v := 7) rfl), by have : 2 ≤ cap := h2; omega, h5⟩
theorem up_any (p : Addr) (F : Nat → Prop) (L M : List (List Int)) (k d x : Int) (w : World) (h : SK w p F sA 0 L) (k0 : 0 ≤ k) (k1 : k ≤ 18446744073709551615) (d0 : -9223372036854775808 ≤ d) (d1 : d ≤ 9223372036854775807) (hu : upCode sA 0 L k d = x ∧ upRes sA 0 L k d = M) :
    Calls Try.prog 24 #[.pointer (some p), .int .u64 k, .int .i64 d] w fun e w' => e = .returned (.int .i64 x) ∧ ∃ F', SK w' p F' sA 0 M ∧ Kept F w w' ∧ (∀ q, F' q → F q ∨ w.heap.size ≤ q) := by
  have C := supd_any p F sA 0 L k d w h k0 k1 d0 d1
  rw [hu.1, hu.2] at C
  exact C
theorem pt_any (p : Addr) (F : Nat → Prop) (w : World) (h : SK w p F sA 0 sD) : Calls Try.prog 19 #[.pointer (some p), .int .u64 0] w fun e w' => e = .returned (.tuple #[.int .i64 7, .int .i64 0]) ∧ Below w.heap.size w w' := by
  have C := spoint_any p F sA 0 sD 0 w h (by omega) (by omega)
  rw [p1.1, p1.2] at C
  exact C
set_option maxRecDepth 100000 in
set_option maxHeartbeats 4000000 in
theorem shown_any (w : World) : Calls Try.prog 10 #[] w fun e w' => e = .returned (.bool true) ∧ Below w.heap.size w w' := by
  have HV0 : Hid (Have w w []) := Lib.hid (Have.nil w)
  have hfd : ∀ w : World, (Instr.field 24 (.agg #[.int .i64 3, .int .i64 2, .int .i64 1, .int .i64 1, .int .u64 0]) 1).run Try.prog w = .ok (.int .i64 2) w := fun _ => by kernel_rfl
  go_enter Try.func10, Try.ntmps10
  go_wp2_with (first
    | (go_at_call 27; (with_reducible refine (c_any p F4 _ (skI HV8.out.i0)).mono ?_); rintro e w9 ⟨rfl, hb⟩; have HV9 := Lib.hid (HV8.out.up hb); clear hb)
    | (go_at_call 26; (with_reducible refine (slevel_any p F4 sA 0 sD _ (skI HV7.out.i0)).mono ?_); rintro e w8 ⟨rfl, hb⟩; have HV8 := Lib.hid (HV7.out.up hb); clear hb)
    | (go_at_call 15; (with_reducible refine (l_any p F4 _ (skI HV6.out.i0)).mono ?_); rintro e w7 ⟨a7, cap7, rfl, c7, hc7, hb⟩; have HV7 := Lib.hid (HV6.out.up hb); clear hb)
    | (go_at_call 19; (with_reducible refine (pt_any p F4 _ (skI HV5.out.i0)).mono ?_); rintro e w6 ⟨rfl, hb⟩; have HV6 := Lib.hid (HV5.out.up hb); clear hb)
    | (go_at_call 24; (with_reducible refine (up_any p F3 sD sD 8 2 2 _ (skI HV4.out.i0) (by omega) (by omega) (by omega) (by omega) u3).mono ?_); rintro e w5 ⟨rfl, F4, h1, h2, h3⟩; have HV5 := Lib.hid (HV4.out.turn_0 (skT p F4 sA 0 sD) h1 h2 h3); clear h1 h2 h3)
    | (go_at_call 24; (with_reducible refine (up_any p F2 sB sD 1 2 0 _ (skI HV3.out.i0) (by omega) (by omega) (by omega) (by omega) u2).mono ?_); rintro e w4 ⟨rfl, F3, h1, h2, h3⟩; have HV4 := Lib.hid (HV3.out.turn_0 (skT p F3 sA 0 sD) h1 h2 h3); clear h1 h2 h3)
    | (go_at_call 24; (with_reducible refine (up_any p F1 (zerosL 2 1) sB 0 5 0 _ (skI HV2.out.i0) (by omega) (by omega) (by omega) (by omega) u1).mono ?_); rintro e w3 ⟨rfl, F2, h1, h2, h3⟩; have HV3 := Lib.hid (HV2.out.turn_0 (skT p F2 sA 0 sB) h1 h2 h3); clear h1 h2 h3)
    | (go_at_call 23; (with_reducible refine (n_no _).mono ?_); rintro e w2 ⟨rfl, hb⟩; have HV2 := Lib.hid (HV1.out.up hb); clear hb)
    | (go_at_call 23; (with_reducible refine (n_yes _).mono ?_); rintro e w1 ⟨p, F1, rfl, h1, h2, hb⟩; have HV1 := Lib.hid (HV0.out.push (skT p F1 sA 0 (zerosL 2 1)) hb h1 h2); clear h1 h2 hb))
  all_goals go_ret
  all_goals exact ⟨ret_bs (by first | rfl | (simp [*]; done)), HV9.out.below⟩
end Go.Proofs.Ytahgkiceifblmaa.Sk
/- What SketchPoint and SketchMedian lean on. Printed by wip/gen/skpoint.py. -/
namespace Go.Proofs.Ytahgkiceifblmaa.Sk
open Go Go.RowKit Lw Grd Lin Con Shp
set_option linter.unusedVariables false
set_option linter.unusedSimpArgs false
theorem others0 (x : Cfg) (lv : Int) (A : Option Addr) (n0 k0 : Nat) (qs : Ups) (c : Cfg) (l key : Int) (m : Nat) (w : World) (hq : UpdV w A n0 k0 qs) (h : c.Ok) (l0 : -9223372036854775808 ≤ l) (l1 : l ≤ 9223372036854775807) (hK0 : 0 ≤ key) (hK : key < keys c l) (hm : rws c = m) (hrow : 0 < m) :
    Calls Try.prog 17 #[.agg #[.int .i64 x.bt, .int .i64 x.rw, .int .i64 x.wd, .int .i64 x.md, .int .u64 x.sd, .int .i64 lv, .slice A n0 k0], .agg #[.int .i64 c.bt, .int .i64 c.rw, .int .i64 c.wd, .int .i64 c.md, .int .u64 c.sd], .int .i64 l, .int .u64 key, .int .i64 0] w fun e w' => e = .returned (.int .i64 (othK c l key 0 (upsA c l qs))) ∧ Below w.heap.size w w' :=
  others_any x lv A n0 k0 qs c l key 0 m w hq h l0 l1 hK0 hK hm hrow
theorem upsA_R (c : Cfg) (l : Int) (qs : Ups) : upsA c l qs = upsR c l qs 0 60 := by unfold upsA upsR; rw [List.drop_zero]
end Go.Proofs.Ytahgkiceifblmaa.Sk
/- One update of a fresh sketch; what it is merged into changes; rows of numbers as things. Printed by wip/gen/skunl.py. -/
namespace Go.Proofs.Ytahgkiceifblmaa.Sk
open Go Go.RowKit Lw Grd Lin Con Shp
set_option linter.unusedVariables false
set_option linter.unusedSimpArgs false
/-- A row of numbers in a block of its own. -/
def midT (g : Nat) (zs : List Int) : Thing where
  I := fun w => Ord.Mid w g 0 zs
  F := fun k => k = g
  keep := fun w w' H h hk hf => h.keep hk (hf g rfl)
  lt := fun w h k hk => by subst hk; exact h.lt
theorem midI {w : World} {g : Nat} {zs : List Int} (h : (midT g zs).I w) : Ord.Mid w g 0 zs := h
theorem one_in {c : Cfg} {l d : Int} (hk : 1 ≤ keys c l) (d0 : 0 ≤ d) (d1 : d ≤ 1099511627776) : UpsIn c l [(0, d)] := by
  refine ⟨fun u hu => ?_, fun _ u hu => ?_⟩
  · simp at hu
    subst hu
    exact ⟨by omega, by show (0 : Int) < keys c l; omega, by show -1099511627776 ≤ d; omega, d1⟩
  · simp at hu
    subst hu
    exact d0
theorem one_up {c : Cfg} {l d : Int} (hr : IsRight c) (hk : 1 ≤ keys c l) (d0 : 0 ≤ d) (d1 : d ≤ 1099511627776) : upCode c l (zerosL (rws c) (wds c)) 0 d = 0 ∧ upRes c l (zerosL (rws c) (wds c)) 0 d = cells c l [(0, d)] := by
  have hn : UpsIn c l [] := ⟨fun u hu => by simp at hu, fun _ u hu => by simp at hu⟩
  have h := up_ok hr hn (by simp) (one_in hk d0 d1)
  rw [cells_nil] at h
  exact h
theorem one_least {c : Cfg} {l d : Int} (hk : 1 ≤ keys c l) (d0 : 0 ≤ d) (d1 : d ≤ 1099511627776) {q : Nat} (hq : col c l 0 0 = q) : d ≤ cel (cells c l [(0, d)]) 0 q := by
  have hin := one_in hk d0 d1
  have hr := (keys_pos.1 hk).1
  have h0 := (rws_bd hr).1
  have hkk : (0 : Int) < keys c l := by omega
  have hok := opsU_ok hin.1
  have hm := cols_meet (c := c) (l := l) (k := 0) (Int.le_refl _) hkk
  by_cases h2 : c.md = 2
  · have hro := rose_all (rose_zero (rws c) (wds c)) hok (plus_of hin h2)
    rw [List.nil_append] at hro
    have hown : Lin.own (cols c l 0) (opsU c l [(0, d)]) = d := by simp [opsU, Lin.own]
    have hcr := col_range hr l 0 0
    have hwd := wds_bd hr
    have ho := hro.ow (cols c l 0) hm 0 q (by omega) (by omega) (by rw [cols_at hkk (by omega), hq])
    rw [cells_con h2]
    omega
  · rw [cells_lin h2]
    have hsz := chAll_sz (sz_zeros (rws c) (wds c)) hok
    have hn := named_cel hsz hm (r := 0) (v := q) (by omega) (by rw [cols_at hkk (by omega), hq])
    have hk2 := named_key hin.1 (Int.le_refl _) hkk (r := 0) (by omega)
    rw [hn] at hk2
    injection hk2 with hk2
    rw [hk2]
    simp [hasK, othK]
theorem cel_sum {m n : Nat} {L M : List (List Int)} (hL : Sz m n L) (hM : Sz m n M) {r q : Nat} (hr : r < m) (hq : q < n) : cel (gridS 1 L M) r q = cel L r q + cel M r q := by
  have g1 : r < L.length := by rw [hL.1]; exact hr
  have g2 : r < M.length := by rw [hM.1]; exact hr
  have g3 := hL.2 _ (List.getElem_mem g1)
  have g4 := hM.2 _ (List.getElem_mem g2)
  unfold cel gridS
  rw [List.getElem?_zipWith, List.getElem?_eq_getElem g1, List.getElem?_eq_getElem g2]
  simp only [Option.getD_some]
  unfold rowS
  rw [List.getElem?_zipWith, List.getElem?_eq_getElem (by omega), List.getElem?_eq_getElem (by omega)]
  simp
theorem sz_of_dims {m n : Nat} {L : List (List Int)} (h : Dims m n L) : Sz m n L := ⟨h.len, fun r hr => (h.rows r hr).1⟩
theorem cel_flat {m n : Nat} {L : List (List Int)} (h : Sz m n L) {r q : Nat} (hr : r < m) (hq : q < n) : cel L r q = (L.flatten[r * n + q]?).getD 0 := by
  rw [flat_get r q h.2 (by rw [h.1]; exact hr) hq]
  rfl
theorem cells_sz {c : Cfg} {l : Int} {us : Ups} (h : UpsIn c l us) : Sz (rws c) (wds c) (cells c l us) := by
  have hok := opsU_ok h.1
  by_cases h2 : c.md = 2
  · rw [cells_con h2]
    have hro := rose_all (rose_zero (rws c) (wds c)) hok (plus_of h h2)
    exact hro.sg
  · rw [cells_lin h2]
    exact chAll_sz (sz_zeros (rws c) (wds c)) hok
/-- What has something is merged in: some cell is another one. -/
theorem one_merge {c : Cfg} {l a b : Int} (hk : 1 ≤ keys c l) (a0 : 0 ≤ a) (a1 : a ≤ 1099511627776) (b0 : 1 ≤ b) (b1 : b ≤ 1099511627776) :
    mgCode 1 c c l l (cells c l [(0, a)]) (cells c l [(0, b)]) = 0 ∧ (mgRes 1 c c l l (cells c l [(0, a)]) (cells c l [(0, b)])).flatten ≠ (cells c l [(0, a)]).flatten := by
  have hia := one_in hk a0 a1
  have hib := one_in (d := b) hk (by omega) b1
  have hr := (keys_pos.1 hk).1
  have hs1 := cells_sz hia
  have hs2 := cells_sz hib
  have hf : fitsAll (gridS 1 (cells c l [(0, a)]) (cells c l [(0, b)])) = true := by
    have h1 := opsU_ok hia.1
    have h2 := opsU_ok hib.1
    by_cases hm : c.md = 2
    · rw [cells_con hm, cells_con hm]
      exact join_fits (m := rws c) (n := wds c) (rose_dims h1 (plus_of hia hm) (by rw [opsU_len]; simp)).2 (rose_dims h2 (plus_of hib hm) (by rw [opsU_len]; simp)).2
    · rw [cells_lin hm, cells_lin hm]
      exact join_fits (m := rws c) (n := wds c) (within_mono (chAll_within (c := 1099511627776) (by omega) (b := 0) (Int.le_refl _) (within_zeros (rws c) (wds c)) h1) (c := 65970697666560) (by rw [opsU_len]; simp)) (within_mono (chAll_within (c := 1099511627776) (by omega) (b := 0) (Int.le_refl _) (within_zeros (rws c) (wds c)) h2) (c := 65970697666560) (by rw [opsU_len]; simp))
  have hj := jcode_yes (s := 1) (m := rws c) (n := wds c) hf
  have hce : cfgE c c = true := decide_eq_true ⟨rfl, rfl, rfl, rfl, rfl⟩
  have hs1x : ¬ ((1 : Int) = -1 ∧ c.md = 2) := by omega
  unfold mgCode mgRes
  rw [if_pos (show cfgE c c = true ∧ l = l from ⟨hce, rfl⟩), if_pos (show cfgE c c = true ∧ l = l from ⟨hce, rfl⟩), if_neg hs1x, if_neg hs1x]
  refine ⟨hj.1, ?_⟩
  rw [hj.2]
  intro he
  have hw := rws_bd hr
  have hv := wds_bd hr
  have hcr := col_range hr l 0 0
  obtain ⟨q, hq⟩ : ∃ q : Nat, col c l 0 0 = q := ⟨(col c l 0 0).toNat, by omega⟩
  have hqn : q < wds c := by omega
  have hsg : Sz (rws c) (wds c) (gridS 1 (cells c l [(0, a)]) (cells c l [(0, b)])) := by
    refine ⟨by unfold gridS; rw [List.length_zipWith, hs1.1, hs2.1]; omega, fun r hr => ?_⟩
    obtain ⟨x, g1, y, g2, rfl⟩ := mem_zip hr
    unfold rowS
    rw [List.length_zipWith, hs1.2 x g1, hs2.2 y g2]
    omega
  have e1 := cel_sum hs1 hs2 (r := 0) (q := q) (by omega) hqn
  have e2 := cel_flat hsg (r := 0) (q := q) (by omega) hqn
  have e3 := cel_flat hs1 (r := 0) (q := q) (by omega) hqn
  rw [he] at e2
  have e4 := one_least (c := c) (l := l) (d := b) hk (by omega) b1 hq
  omega
end Go.Proofs.Ytahgkiceifblmaa.Sk
