/- Texts that statements lean on, put together: Thing, Things, SkFed, QntMath, QntPt, HvyCut, SmrCuts, HvyRef, SmrFed. -/
import Derived.Test.YtkflggojiiebeaaGreatVaj
namespace Go.Proofs.YtkflggojiiebeaaGreat.Lw
open Go Go.RowKit
set_option linter.unusedVariables false
/-- Things that a call made behind w are things behind w0, beside those that were there. -/
theorem Have.join {w0 w w' : World} {us : List Thing} (h : Have w0 w us) : ∀ {ts : List Thing}, Have w w' ts → Have w0 w' (ts ++ us)
  | [], g => h.up g
  | t :: ts, g => by
    refine ⟨g.1, fun k hk => Nat.le_trans h.below.size (g.2.1 k hk), fun u hu k hk hu2 => ?_, Have.join h (ts := ts) g.2.2.2⟩
    rcases List.mem_append.1 hu with h1 | h1
    · exact g.2.2.1 u h1 k hk hu2
    · have h2 := u.lt w (h.one u h1).1 k hu2
      have h3 := g.2.1 k hk
      omega
end Go.Proofs.YtkflggojiiebeaaGreat.Lw

namespace Go.Proofs.YtkflggojiiebeaaGreat.Lw
open Go Go.RowKit
set_option linter.unusedVariables false
theorem Have.turn_1 {w0 w w' : World} {t0 t1 : Thing} {ts : List Thing} (h : Have w0 w (t0 :: t1 :: ts)) (t' : Thing) (ht : t'.I w') (hk : Kept t1.F w w') (hF : ∀ k, t'.F k → t1.F k ∨ w.heap.size ≤ k) : Have w0 w' (t0 :: t' :: ts) := Have.turnX (fs := [t0]) t' ht hk hF h
theorem Have.i5 {w0 w : World} {t0 t1 t2 t3 t4 t5 : Thing} {ts : List Thing} (h : Have w0 w (t0 :: t1 :: t2 :: t3 :: t4 :: t5 :: ts)) : t5.I w := (h.one t5 (by simp)).1
theorem Have.f8 {w0 w : World} {t0 t1 t2 t3 t4 t5 t6 t7 t8 : Thing} {ts : List Thing} (h : Have w0 w (t0 :: t1 :: t2 :: t3 :: t4 :: t5 :: t6 :: t7 :: t8 :: ts)) : ∀ k, t8.F k → w0.heap.size ≤ k := (h.one t8 (by simp)).2
theorem Have.ap02 {w0 w : World} {t0 t1 t2 : Thing} {ts : List Thing} (h : Have w0 w (t0 :: t1 :: t2 :: ts)) : ∀ k, t0.F k → ¬ t2.F k := h.2.2.1 t2 (by simp)
end Go.Proofs.YtkflggojiiebeaaGreat.Lw

namespace Go.Proofs.YtkflggojiiebeaaGreat.Sk
open Go Go.RowKit Lw Grd Lin Con Shp
set_option linter.unusedVariables false
set_option linter.unusedSimpArgs false
theorem two_boxs (w : World) (e1 e2 : TypeId) (v1 v2 : Array Value) : Have w ((w.alloc (.cells v1 e1)).alloc (.cells v2 e2)) [boxT (w.heap.size + 1) e2 v2, boxT w.heap.size e1 v1] := by
  refine (box_new w e1 v1).push (boxT (w.heap.size + 1) e2 v2) (Lw.below_alloc (Below.refl _ _) _) ?_ (fun k hk => ?_)
  · have h := heap_alloc_new (w.alloc (.cells v1 e1)) (.cells v2 e2)
    rw [World.size_alloc] at h
    exact h
  · rw [World.size_alloc]
    exact Nat.le_of_eq hk.symm
theorem boxs_frozen {w : World} {b : Nat} {e : TypeId} {vs : Array Value} (h : (boxT b e vs).I w) (i : Nat) : w.frozen? ⟨b, i, none⟩ = false := by
  have h1 : w.heap[b]? = some (.cells vs e (0, 0)) := h
  simp [World.frozen?, h1]
theorem boxs_set {w : World} {b : Nat} {e : TypeId} {vs : Array Value} (h : (boxT b e vs).I w) (i : Nat) (v : Value) : (boxT b e (vs.setIfInBounds i v)).I (w.setCell ⟨b, i, none⟩ v) := by
  have h1 : w.heap[b]? = some (.cells vs e (0, 0)) := h
  show (w.setCell ⟨b, i, none⟩ v).heap[b]? = _
  simp [World.setCell, Array.getElem?_modify, h1]
theorem store5 {w : World} {b : Nat} {e : TypeId} {u0 u1 u2 u3 u4 : Value} (h : (boxT b e #[u0, u1, u2, u3, u4]).I w) (v0 v1 v2 v3 v4 : Value) :
    (boxT b e #[v0, v1, v2, v3, v4]).I ((((((w.setCell ⟨b, 0, none⟩ v0).setCell ⟨b, 1, none⟩ v1).setCell ⟨b, 2, none⟩ v2).setCell ⟨b, 3, none⟩ v3).setCell ⟨b, 4, none⟩ v4).drew) := by
  have q := boxs_set (boxs_set (boxs_set (boxs_set (boxs_set h 0 v0) 1 v1) 2 v2) 3 v3) 4 v4
  exact (boxT b e #[v0, v1, v2, v3, v4]).keep _ _ (fun _ => False) q (Kept.of_below (Below.drew (Below.refl _ _))) (fun _ _ h => h)
theorem store_have {w0 w w' : World} {t0 t1 : Thing} {b : Nat} {e : TypeId} {vs : Array Value} {ts : List Thing} (h : Have w0 w (t0 :: t1 :: boxT b e vs :: ts)) (hk : Kept (fun k => k = b) w w') : Have w0 w' [t0] := by
  have hb : Below w0.heap.size w0 w' := hk.low h.below h.below.size (fun q hq => by subst hq; exact h.f2 q rfl)
  have h2 : Have w0 w [t0] := ⟨h.i0, h.f0, fun u hu => by simp at hu, h.below⟩
  exact Have.keep hk hb h2 (fun t ht k h3 h4 => by simp at ht; subst ht; exact h.ap02 k h3 h4)
end Go.Proofs.YtkflggojiiebeaaGreat.Sk

namespace Go.Proofs.YtkflggojiiebeaaGreat.Qnt
open Go Go.RowKit Lw Grd Lin Con Shp Sk Exa Lev Stk Pcs Spn
set_option linter.unusedVariables false
/-- The rank always fits, where no more than M is told of any piece. -/
theorem way_fits {pt : Nat → Int → Int} {B : Nat} {M : Int} (hM : 0 ≤ M) (hp : ∀ (L i : Nat), L ≤ B → i < 2 ^ (B - L) → -M ≤ pt L ((i : Nat) : Int)) : ∀ {L i : Nat} {k : Int}, L ≤ B → i < 2 ^ (B - L) → 1 ≤ k → k + M * L ≤ 4611686018427387904 → ∃ l, wayQ pt L i k = some l
  | 0, i, k, _, _, _, _ => ⟨_, rfl⟩
  | L + 1, i, k, hL, hi, k1, hk => by
    have hpw : 2 ^ (B - L) = 2 * 2 ^ (B - (L + 1)) := by
      have e : B - L = B - (L + 1) + 1 := by omega
      rw [e, Nat.pow_succ, Nat.mul_comm]
    have e : M * ((L + 1 : Nat) : Int) = M * (L : Int) + M := by rw [Int.natCast_add, Int.mul_add]; simp
    have hML : 0 ≤ M * (L : Int) := Int.mul_nonneg hM (by omega)
    have h2 := hp L (2 * i) (by omega) (by omega)
    rw [e] at hk
    by_cases h1 : k ≤ pt L ((2 * i : Nat) : Int)
    · obtain ⟨l, hl⟩ := way_fits hM hp (L := L) (i := 2 * i) (k := k) (by omega) (by omega) k1 (by omega)
      exact ⟨_, by rw [wayQ_left h1, hl]; rfl⟩
    · have hf : Wid.fit64 (k - pt L ((2 * i : Nat) : Int)) = true := decide_eq_true (by omega)
      obtain ⟨l, hl⟩ := way_fits hM hp (L := L) (i := 2 * i + 1) (k := k - pt L ((2 * i : Nat) : Int)) (by omega) (by omega) (by omega) (by omega)
      exact ⟨_, by rw [wayQ_right h1 hf, hl]; rfl⟩
end Go.Proofs.YtkflggojiiebeaaGreat.Qnt

namespace Go.Proofs.YtkflggojiiebeaaGreat.Qnt
open Go Go.RowKit Lw Grd Lin Con Shp Sk Exa Lev Stk Pcs Spn
set_option linter.unusedVariables false
/-- What a stack that was fed tells of a piece. -/
abbrev ptU (c : Cfg) (us : Ups) : Nat → Int → Int := fun L i => spV c (stsOf c us) (L : Int) i
theorem bt_nat {c : Cfg} (hr : IsRight c) : ((c.bt.toNat : Nat) : Int) = c.bt := by have := hr.1; omega
theorem piece_key {c : Cfg} (hr : IsRight c) {L i : Nat} (hL : L ≤ c.bt.toNat) (hi : i < 2 ^ (c.bt.toNat - L)) : ((i : Nat) : Int) < keys c L := by
  have hb := hr.1
  have e1 : keys c L = 2 ^ (c.bt - L).toNat := keys_yes hr (by omega) (by omega)
  have e2 : (c.bt - L).toNat = c.bt.toNat - L := by omega
  rw [e1, e2]
  have h5 : ((2 ^ (c.bt.toNat - L) : Nat) : Int) = 2 ^ (c.bt.toNat - L) := by simp
  omega
theorem ptU_at {c : Cfg} (hr : IsRight c) (us : Ups) {L : Nat} (hL : L ≤ c.bt.toNat) (i : Int) : ptU c us L i = lsPtV c L (stOf c us L) i := (sp_at hr us (n := L) (by have := hr.1; omega) i).1
theorem ptU_bd {c : Cfg} (hr : IsRight c) {us : Ups} (h : UpsIn c 0 us) (hl : us.length ≤ 60) {L i : Nat} (hL : L ≤ c.bt.toNat) (hi : i < 2 ^ (c.bt.toNat - L)) : -65970697666560 ≤ ptU c us L ((i : Nat) : Int) ∧ ptU c us L ((i : Nat) : Int) ≤ 65970697666560 := by
  rw [ptU_at hr us hL]
  exact pt_bd hr h hl (n := L) (by have := hr.1; omega) (by omega) (piece_key hr hL hi)
theorem has_all {c : Cfg} (hr : IsRight c) (us : Ups) : spV c (stsOf c us) c.bt 0 = ptU c us c.bt.toNat 0 := by
  show _ = spV c (stsOf c us) ((c.bt.toNat : Nat) : Int) 0
  rw [bt_nat hr]
/-- Each rank that there is leads to a key. -/
theorem way_fed {c : Cfg} (hr : IsRight c) {us : Ups} (h : UpsIn c 0 us) (hl : us.length ≤ 60) {k : Int} (k1 : 1 ≤ k) (k2 : k ≤ ptU c us c.bt.toNat 0) : ∃ l, wayQ (ptU c us) c.bt.toNat 0 k = some l ∧ Path c.bt.toNat 0 l ∧ ((keyQ l : Nat) : Int) < keys c 0 := by
  have hb := hr.1
  have hb2 := hr.2.1
  have htop := ptU_bd hr h hl (L := c.bt.toNat) (i := 0) (Nat.le_refl _) (by rw [Nat.sub_self]; decide)
  have htop2 : ptU c us c.bt.toNat 0 ≤ 65970697666560 := htop.2
  obtain ⟨l, hl2⟩ := way_fits (pt := ptU c us) (B := c.bt.toNat) (M := 65970697666560) (by omega) (fun L i hL hi => (ptU_bd hr h hl hL hi).1) (L := c.bt.toNat) (i := 0) (k := k) (Nat.le_refl _) (Nat.two_pow_pos _) k1 (by omega)
  refine ⟨l, hl2, wayQ_path hl2, ?_⟩
  have h3 := (wayQ_path hl2).in
  rw [Nat.zero_add, Nat.one_mul] at h3
  exact piece_key hr (L := 0) (Nat.zero_le _) (by rw [Nat.sub_zero]; exact h3.2)
end Go.Proofs.YtkflggojiiebeaaGreat.Qnt

namespace Go.Proofs.YtkflggojiiebeaaGreat.Hvy
open Go Go.RowKit Lw Grd Lin Con Shp Sk Exa Lev Stk Pcs Spn Qnt
set_option linter.unusedVariables false
set_option linter.unusedSimpArgs false
theorem any_bt (x : Cfg) (b v : Int) (hb0 : 1 ≤ b) : (anyC x b v).bt ≤ b := by
  have h2 := Int.emod_lt_of_pos (x.bt % 65536) (show 0 < b by omega)
  show 1 + x.bt % 65536 % b ≤ b
  omega
end Go.Proofs.YtkflggojiiebeaaGreat.Hvy

namespace Go.Proofs.YtkflggojiiebeaaGreat.Smr
open Go Go.RowKit Lw Grd Lin Con Shp Sk Exa Lev Stk Pcs Spn Qnt Hvy
set_option linter.unusedVariables false
set_option linter.unusedSimpArgs false
theorem rank_nums {T v : Int} (t1 : 1 ≤ T) (t2 : T ≤ 65970697666560) (v1 : 0 ≤ v) : ∃ R K : Int, IntKind.u64.wrap T = T ∧ ¬ T = 0 ∧ Int.tmod v T = R ∧ v % T = R ∧ IntKind.u64.wrap R = R ∧ IntKind.i64.wrap R = R ∧ wrap64 R = R ∧ wrap64 (1 + R) = K ∧ IntKind.i64.wrap (1 + R) = K ∧ 1 ≤ K ∧ K ≤ T := by
  have m0 := Int.emod_nonneg v (show T ≠ 0 by omega)
  have m1 := Int.emod_lt_of_pos v (show 0 < T by omega)
  have e4 : Int.tmod v T = v % T := Int.tmod_eq_emod_of_nonneg v1
  obtain ⟨R, hR⟩ : ∃ r, v % T = r := ⟨_, rfl⟩
  rw [hR] at e4 m0 m1
  exact ⟨R, 1 + R, by rw [IntKind.wrap_u64]; omega, by omega, e4, hR, by rw [IntKind.wrap_u64]; omega, IntWalk.i64_in _ ⟨by omega, by omega⟩, IntWalk.wrap64_in _ ⟨by omega, by omega⟩, IntWalk.wrap64_in _ ⟨by omega, by omega⟩, IntWalk.i64_in _ ⟨by omega, by omega⟩, by omega, by omega⟩
end Go.Proofs.YtkflggojiiebeaaGreat.Smr

namespace Go.Proofs.YtkflggojiiebeaaGreat.Hvy
open Go Go.RowKit Lw Grd Lin Con Shp Sk Exa Lev Stk Pcs Spn Qnt
set_option linter.unusedVariables false
set_option linter.unusedSimpArgs false
theorem turn1K {w0 w w' : World} {t0 : Thing} {B K n g m cap : Nat} {e : TypeId} {v : Value} {cs ds : List Value} {ts : List Thing} (h : Have w0 w (t0 :: ownK B e K v n cs :: ts)) (hown : w'.ownsRow B e K (.slice (some ⟨g, 0, none⟩) m cap) m ds) (hg : w.grownBy w' v.ownBlock) (hat : v.ownBlock = some g ∨ g = w.heap.size) : Have w0 w' (t0 :: ownK B e K (.slice (some ⟨g, 0, none⟩) m cap) m ds :: ts) := h.turn_1 _ hown (kept_grownK hg) (okF hat)
end Go.Proofs.YtkflggojiiebeaaGreat.Hvy

namespace Go.Proofs.YtkflggojiiebeaaGreat.Smr
open Go Go.RowKit Lw Grd Lin Con Shp Sk Exa Lev Stk
set_option linter.unusedVariables false
set_option linter.unusedSimpArgs false
set_option maxRecDepth 100000 in
set_option maxHeartbeats 8000000 in
theorem fed_z (x : Cfg) (A : Option Addr) (n0 k0 : Nat) (qs : Ups) (c : Cfg) (w : World) (hx : x.Ok) (hq : UpdV w A n0 k0 qs) (hC : anyC x 10 9 = c) :
    Calls Tryz.prog 36 #[.agg #[.int .i64 x.bt, .int .i64 x.rw, .int .i64 x.wd, .int .i64 x.md, .int .u64 x.sd, .slice A n0 k0], .int .i64 10] w fun e w' => ∃ (p : Addr) (F : Nat → Prop), e = .returned (.tuple #[.pointer (some p), .agg #[.int .i64 c.bt, .int .i64 c.rw, .int .i64 c.wd, .int .i64 c.md, .int .u64 c.sd]]) ∧ Have w w' [stT p F c (stsOf c (upsR c 0 qs 0 60))] := by
  have hr0 := any_right x 10 9 (by omega) (by omega) (by omega) (by omega)
  have hco0 := any_ok x hx 10 9 (by omega) (by omega) (by omega) (by omega)
  rw [hC] at hr0 hco0
  have hr := hr0
  have hco := hco0
  have CA := Lib.hid (fun w => rany_at x 10 9 c w hx (by omega) (by omega) (by omega) (by omega) hC)
  have hbt := hr.1
  have hkeys : 1 ≤ keys c 0 := keys_pos.2 ⟨hr, by omega, by omega⟩
  have CNW := Lib.hid (fun w => cs_new c w hco hr)
  obtain ⟨Z, hZ⟩ : ∃ Z, stsOf c [] = Z := ⟨_, rfl⟩
  rw [hZ] at CNW
  have hst0 : stsOf c (upsR c 0 qs 0 0) = Z := by rw [upsR_zero]; exact hZ
  have HQ := Lib.hid hq
  have HL := Lib.hid hq.len
  have hnc := hq.nc
  have hcm := hq.cm
  unfold maxLen at hcm
  have HR := Lib.hid hr
  have HKY := Lib.hid hkeys
  have CC0 := Lib.hid (fun w k d h0 h1 h2 h3 => rcut15_any c k d w hco h0 h1 h2 h3 hkeys)
  have HBX : Hid (Have w ((w.alloc (.cells #[.int .i64 x.bt, .int .i64 x.rw, .int .i64 x.wd, .int .i64 x.md, .int .u64 x.sd, .slice A n0 k0] 63)).alloc (.cells #[.int .i64 0, .int .i64 0, .int .i64 0, .int .i64 0, .int .u64 0] 24)) [boxT (w.heap.size + 1) 24 #[.int .i64 0, .int .i64 0, .int .i64 0, .int .i64 0, .int .u64 0], boxT w.heap.size 63 #[.int .i64 x.bt, .int .i64 x.rw, .int .i64 x.wd, .int .i64 x.md, .int .u64 x.sd, .slice A n0 k0]]) := Lib.hid (two_boxs w _ _ _ _)
  clear hC hq hr hkeys hco hx hZ hr0 hco0
  go_enter Tryz.func36, Tryz.ntmps36
  go_wp2_with (first
    | (go_at_call 13; (with_reducible refine (CNW.out _).mono ?_); rintro e w4 ⟨p, F, rfl, hsk, hfr, hb⟩; have HV4 := Lib.hid (HV2.out.push (stT p F c Z) hb hsk hfr); clear hsk hfr hb)
    | (go_at_call 12; (with_reducible refine (CA.out _).mono ?_); rintro e w1 ⟨rfl, hb⟩; have HV1 := Lib.hid (HBX.out.up hb); obtain ⟨x0, x1, x2, x3, x4, x5⟩ := box6 HV1.out.i1; have hl0 := box_lt HV1.out.i1; have hl1 := box_lt HV1.out.i0; have HV2 := Lib.hid (HV1.out.push (boxT w1.heap.size 24 #[.int .i64 c.bt, .int .i64 c.rw, .int .i64 c.wd, .int .i64 c.md, .int .u64 c.sd]) (Lw.below_alloc (Below.refl _ _) _) (heap_alloc_new w1 _) (fun k hk => Nat.le_of_eq hk.symm)); clear hb))
  obtain ⟨g1, hg1⟩ : ∃ g1, w1.heap.size = g1 := ⟨_, rfl⟩
  rw [hg1] at HV4 ⊢
  clear hg1 hl0 hl1 x0 x1 x2 x3 x4 x5
  go_loopw [9] (fun iv wr => ∃ (k : Nat) (F : Nat → Prop), k ≤ 60 ∧ (k ≤ n0 ∨ k = 0) ∧ iv = .int .i64 k ∧ Have w wr [stT p F c (stsOf c (upsR c 0 qs 0 k)), boxT g1 24 #[.int .i64 c.bt, .int .i64 c.rw, .int .i64 c.wd, .int .i64 c.md, .int .u64 c.sd], boxT (w.heap.size + 1) 24 #[.int .i64 0, .int .i64 0, .int .i64 0, .int .i64 0, .int .u64 0], boxT w.heap.size 63 #[.int .i64 x.bt, .int .i64 x.rw, .int .i64 x.wd, .int .i64 x.md, .int .u64 x.sd, .slice A n0 k0]]) (fun iv _ => 60 - (intOf iv).toNat)
  case atStart => exact ⟨0, F, Nat.zero_le _, .inr rfl, rfl, by rw [hst0]; exact HV4.out⟩
  case round =>
    obtain ⟨k, F, hk1, hk2, rfl, hv⟩ := hrel
    have HVr := Lib.hid hv
    have hwb := hv.below
    clear hv hst0
    obtain ⟨x0, x1, x2, x3, x4, c0⟩ := box6 HVr.out.i3
    by_cases hlt : k < n0 ∧ k < 60
    · obtain ⟨hj1, hj2⟩ := hlt
      obtain ⟨q, hq1⟩ : ∃ q, qs[k]? = some q := ⟨_, List.getElem?_eq_getElem (by rw [HL.out]; omega)⟩
      have hnx := upsR_next (c := c) (l := 0) hq1 (Nat.zero_le k)
      have hst := stsOf_step HR.out (upsR_in HKY.out qs 0 k) (by have := upsR_len c 0 qs 0 k; omega) (upsIn_cut HKY.out [q])
      have hcu := cutU_ok HKY.out q
      obtain ⟨aa, g, o, rfl, hadd, d1w, d2w, kb, db⟩ := HQ.out.at hq1
      obtain ⟨qk, qd⟩ := q
      simp only at d1w d2w kb db
      have d1 := cell_up d1w hwb
      have d2 := cell_up d2w hwb
      obtain ⟨e1, e2, e3, e4, e5⟩ := box5 HVr.out.i1
      have CC := Lib.hid (fun w => CC0.out w qk qd kb.1 kb.2 db.1 db.2)
      obtain ⟨us, hus⟩ : ∃ us, stsOf c (upsR c 0 qs 0 k) = us := ⟨_, rfl⟩
      obtain ⟨us2, hus2⟩ : ∃ us2, stsOf c (upsR c 0 qs 0 (k + 1)) = us2 := ⟨_, rfl⟩
      rw [hus] at HVr hst
      rw [hnx] at hus2
      rw [hus2] at hst
      have HNX : Hid (stsOf c (upsR c 0 qs 0 (k + 1)) = us2) := Lib.hid (by rw [hnx]; exact hus2)
      obtain ⟨U, hU⟩ : ∃ U, (cutU c 0 (qk, qd)).1 = U := ⟨_, rfl⟩
      obtain ⟨D, hD⟩ : ∃ D, (cutU c 0 (qk, qd)).2 = D := ⟨_, rfl⟩
      rw [hU, hD] at CC hst hcu
      have HST := Lib.hid hst
      have hkk := keys_bd c 0
      have hub : 0 ≤ U ∧ U ≤ 18446744073709551615 := ⟨hcu.1, by have := hcu.2.1; omega⟩
      have hdb : -9223372036854775808 ≤ D ∧ D ≤ 9223372036854775807 := ⟨by have := hcu.2.2.1; omega, by have := hcu.2.2.2.1; omega⟩
      clear hq1 hnx hst hcu hus hus2 hU hD d1w d2w hwb
      go_upto_region 8 with fail
      go_region_held3 (fun w' => w'.cell? ⟨g1, 0, none⟩ = some (.int .i64 c.bt) ∧ w'.cell? ⟨g1, 1, none⟩ = some (.int .i64 c.rw) ∧ w'.cell? ⟨g1, 2, none⟩ = some (.int .i64 c.wd) ∧ w'.cell? ⟨g1, 3, none⟩ = some (.int .i64 c.md) ∧ w'.cell? ⟨g1, 4, none⟩ = some (.int .u64 c.sd) ∧ w'.cell? ⟨w.heap.size, 5, none⟩ = some (.slice (some aa) n0 k0) ∧ w'.cell? ⟨g, o, none⟩ = some (.int .u64 qk) ∧ w'.cell? ⟨g, o + 1, none⟩ = some (.int .i64 qd)) (first | (refine ⟨?_, ?_, ?_, ?_, ?_, ?_, ?_, ?_⟩ <;> (first | (with_reducible assumption) | (with_reducible refine cell_up e1 ?_) | (with_reducible refine cell_up e2 ?_) | (with_reducible refine cell_up e3 ?_) | (with_reducible refine cell_up e4 ?_) | (with_reducible refine cell_up e5 ?_) | (with_reducible refine cell_up c0 ?_) | (with_reducible refine cell_up d1 ?_) | (with_reducible refine cell_up d2 ?_)) <;> repeat' (first | (with_reducible first | exact Below.refl _ _ | assumption | refine below_over ?_ _ _ | refine Lw.below_alloc ?_ _ | refine Below.drew ?_ | refine below_drewN ?_ _ | refine Below.setCell ?_ ?_ _) | go_size))) (first | (go_at_call 41; (with_reducible refine (CC.out _).mono ?_); rintro e w' ⟨rfl, hb⟩; obtain ⟨bs, dd, rfl⟩ := below_grow hb; clear hb))
      all_goals go_wp2_with (go_at_call 15; (with_reducible refine (cs_upd p F c us U D _ (stI (HVr.out.up (by repeat' (first | (with_reducible first | exact Below.refl _ _ | assumption | refine below_over ?_ _ _ | refine Lw.below_alloc ?_ _ | refine Below.drew ?_ | refine below_drewN ?_ _ | refine Below.setCell ?_ ?_ _) | go_size))).i0) hub.1 hub.2 hdb.1 hdb.2).mono ?_); rintro e w8 ⟨he, F8, hnp, hnk, hnf⟩; rw [HST.out.1] at he; subst he; rw [HST.out.2] at hnp; have HV8 := Lib.hid ((HVr.out.up (by repeat' (first | (with_reducible first | exact Below.refl _ _ | assumption | refine below_over ?_ _ _ | refine Lw.below_alloc ?_ _ | refine Below.drew ?_ | refine below_drewN ?_ _ | refine Below.setCell ?_ ?_ _) | go_size))).turn_0 (stT p F8 c us2) hnp hnk hnf); clear hnp hnk hnf)
      all_goals go_roundw
      all_goals first
        | exact ⟨k + 1, F8, by omega, .inl (by omega), by go_num, by rw [HNX.out]; exact HV8.out⟩
        | (simp [intOf]; omega)
    · have hend : upsR c 0 qs 0 k = upsR c 0 qs 0 60 := upsR_end hk1 (by rw [HL.out]; omega)
      rw [hend] at HVr
      have HVE := Lib.hid HVr.out
      obtain ⟨e1, e2, e3, e4, e5⟩ := box5 HVr.out.i1
      obtain ⟨y1, y2, y3, y4, y5⟩ := box5 HVr.out.i2
      have z1 := boxs_frozen HVr.out.i2 0
      have z2 := boxs_frozen HVr.out.i2 1
      have z3 := boxs_frozen HVr.out.i2 2
      have z4 := boxs_frozen HVr.out.i2 3
      have z5 := boxs_frozen HVr.out.i2 4
      clear hend hk2
      by_cases hkn : k < n0
      · have hkt : 60 ≤ k := by omega
        clear hlt
        go_wp2
        have h5 := box5 (store5 HVE.out.i2 (.int .i64 c.bt) (.int .i64 c.rw) (.int .i64 c.wd) (.int .i64 c.md) (.int .u64 c.sd))
        have hkp := store_have (w' := (((((wr.setCell ⟨w.heap.size + 1, 0, none⟩ (.int .i64 c.bt)).setCell ⟨w.heap.size + 1, 1, none⟩ (.int .i64 c.rw)).setCell ⟨w.heap.size + 1, 2, none⟩ (.int .i64 c.wd)).setCell ⟨w.heap.size + 1, 3, none⟩ (.int .i64 c.md)).setCell ⟨w.heap.size + 1, 4, none⟩ (.int .u64 c.sd)).drew) HVE.out (by repeat' (first | (with_reducible exact Kept.refl _ _) | (with_reducible refine Kept.drew ?_) | (refine Kept.set (F := fun k => k = w.heap.size + 1) ?_ (.inl rfl) _ _)))
        go_region
        all_goals (
          obtain ⟨wz, hwz⟩ : ∃ wz, wz = (((((wr.setCell ⟨w.heap.size + 1, 0, none⟩ (.int .i64 c.bt)).setCell ⟨w.heap.size + 1, 1, none⟩ (.int .i64 c.rw)).setCell ⟨w.heap.size + 1, 2, none⟩ (.int .i64 c.wd)).setCell ⟨w.heap.size + 1, 3, none⟩ (.int .i64 c.md)).setCell ⟨w.heap.size + 1, 4, none⟩ (.int .u64 c.sd)).drew := ⟨_, rfl⟩
          rw [← hwz] at h5 hkp ⊢
          have HKP := Lib.hid hkp
          obtain ⟨r1, r2, r3, r4, r5⟩ := h5
          clear hwz hkp e1 e2 e3 e4 e5 y1 y2 y3 y4 y5 z1 z2 z3 z4 z5
          go_wp2
          all_goals refine bodyPost_ret (v := .tuple #[.pointer (some p), .agg #[.int .i64 c.bt, .int .i64 c.rw, .int .i64 c.wd, .int .i64 c.md, .int .u64 c.sd]]) (by simp [results, Tryz.results36, go_sem, r1, r2, r3, r4, r5]) rfl ?_
          all_goals exact ⟨p, F, rfl, HKP.out⟩)
      · have hkn2 : n0 ≤ k := by omega
        clear hlt hkn
        go_wp2
        have h5 := box5 (store5 HVE.out.i2 (.int .i64 c.bt) (.int .i64 c.rw) (.int .i64 c.wd) (.int .i64 c.md) (.int .u64 c.sd))
        have hkp := store_have (w' := (((((wr.setCell ⟨w.heap.size + 1, 0, none⟩ (.int .i64 c.bt)).setCell ⟨w.heap.size + 1, 1, none⟩ (.int .i64 c.rw)).setCell ⟨w.heap.size + 1, 2, none⟩ (.int .i64 c.wd)).setCell ⟨w.heap.size + 1, 3, none⟩ (.int .i64 c.md)).setCell ⟨w.heap.size + 1, 4, none⟩ (.int .u64 c.sd)).drew) HVE.out (by repeat' (first | (with_reducible exact Kept.refl _ _) | (with_reducible refine Kept.drew ?_) | (refine Kept.set (F := fun k => k = w.heap.size + 1) ?_ (.inl rfl) _ _)))
        go_region
        all_goals (
          obtain ⟨wz, hwz⟩ : ∃ wz, wz = (((((wr.setCell ⟨w.heap.size + 1, 0, none⟩ (.int .i64 c.bt)).setCell ⟨w.heap.size + 1, 1, none⟩ (.int .i64 c.rw)).setCell ⟨w.heap.size + 1, 2, none⟩ (.int .i64 c.wd)).setCell ⟨w.heap.size + 1, 3, none⟩ (.int .i64 c.md)).setCell ⟨w.heap.size + 1, 4, none⟩ (.int .u64 c.sd)).drew := ⟨_, rfl⟩
          rw [← hwz] at h5 hkp ⊢
          have HKP := Lib.hid hkp
          obtain ⟨r1, r2, r3, r4, r5⟩ := h5
          clear hwz hkp e1 e2 e3 e4 e5 y1 y2 y3 y4 y5 z1 z2 z3 z4 z5
          go_wp2
          all_goals refine bodyPost_ret (v := .tuple #[.pointer (some p), .agg #[.int .i64 c.bt, .int .i64 c.rw, .int .i64 c.wd, .int .i64 c.md, .int .u64 c.sd]]) (by simp [results, Tryz.results36, go_sem, r1, r2, r3, r4, r5]) rfl ?_
          all_goals exact ⟨p, F, rfl, HKP.out⟩)
end Go.Proofs.YtkflggojiiebeaaGreat.Smr

