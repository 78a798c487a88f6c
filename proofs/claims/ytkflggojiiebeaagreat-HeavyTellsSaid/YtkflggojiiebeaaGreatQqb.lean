import Derived.Test.YtkflggojiiebeaaGreatQla
import Derived.Test.YtkflggojiiebeaaGreatQqa
namespace Go.Proofs.YtkflggojiiebeaaGreat.Hvy
open Go Go.RowKit Lw Grd Lin Con Shp Sk Exa Lev Stk Pcs Spn Qnt
set_option linter.unusedVariables false
set_option linter.unusedSimpArgs false
set_option linter.unusedSimpArgs false
theorem rr_info : (Tryz.prog.info? 128).map (fun i => (i.zero, i.size, i.bytes)) = some (some (.agg #[.int .i64 0, .int .u64 0, .int .i64 0, .int .i64 0]), 4, 32) := by kernel_rfl
theorem rrs_u : Tryz.prog.underlying 48 = some (.slice 128) := by kernel_rfl
theorem st_at {α : Type} {K : Nat} {enc : α → List Value} {w : World} {a : Addr} {n c : Nat} {qs : List α} (h : StV K enc w (some a) n c qs) {i : Nat} {q : α} (hq : qs[i]? = some q) {g o : Nat} (had : a.add (i * K) = ⟨g, o, none⟩) : ∀ (j : Nat) v, (enc q)[j]? = some v → w.cell? ⟨g, o + j, none⟩ = some v := by
  intro j v hv
  obtain ⟨a2, e, h1⟩ := h.each i q hq
  injection e with e
  subst e
  have h2 := h1 j v hv
  rw [← add_add', had, Ord.add_at] at h2
  exact h2
theorem trip3 {w : World} {a : Addr} {n c : Nat} {qs : List ((Nat × Nat) × Int)} (h : StV 3 encF w (some a) n c qs) {i : Nat} {q : (Nat × Nat) × Int} (hq : qs[i]? = some q) {g o : Nat} (had : a.add (i * 3) = ⟨g, o, none⟩) : w.cell? ⟨g, o, none⟩ = some (.int .i64 (q.1.1 : Int)) ∧ w.cell? ⟨g, o + 1, none⟩ = some (.int .u64 (q.1.2 : Int)) ∧ w.cell? ⟨g, o + 2, none⟩ = some (.int .i64 q.2) := by
  have h2 := st_at h hq had
  exact ⟨h2 0 _ rfl, h2 1 _ rfl, h2 2 _ rfl⟩
theorem quadR {w : World} {a : Addr} {n c : Nat} {qs : List Kp} (h : StV 4 encR w (some a) n c qs) {i : Nat} {q : Kp} (hq : qs[i]? = some q) {g o : Nat} (had : a.add (i * 4) = ⟨g, o, none⟩) : w.cell? ⟨g, o, none⟩ = some (.int .i64 (q.1.1 : Int)) ∧ w.cell? ⟨g, o + 1, none⟩ = some (.int .u64 (q.1.2 : Int)) ∧ w.cell? ⟨g, o + 2, none⟩ = some (.int .i64 q.2.1) ∧ w.cell? ⟨g, o + 3, none⟩ = some (.int .i64 q.2.2) := by
  have h2 := st_at h hq had
  exact ⟨h2 0 _ rfl, h2 1 _ rfl, h2 2 _ rfl, h2 3 _ rfl⟩
theorem st_row {w : World} {base : Nat} {e : TypeId} {A : Option Addr} {n c : Nat} {qs : List Kp} (h : w.ownsRow base e 4 (.slice A n c) n (qs.flatMap encR)) (hl : qs.length = n) : StV 4 encR w A n c qs := by
  obtain ⟨A2, c2, e2, h2, -⟩ := st_own encR_len h hl
  injection e2 with e3 e4 e5
  subst e3 e5
  exact strI h2
theorem enc_oneH (a b x y : Int) : ∀ u ∈ ([.int .i64 a, .int .u64 b, .int .i64 x, .int .i64 y] : List Value), u.oneCell' = true := by
  intro u hu
  simp at hu
  rcases hu with rfl | rfl | rfl | rfl <;> rfl
theorem turnR {w0 w w' : World} {B K n g m cap : Nat} {e : TypeId} {v : Value} {cs ds : List Value} {ts : List Thing} (h : Have w0 w (ownK B e K v n cs :: ts)) (hown : w'.ownsRow B e K (.slice (some ⟨g, 0, none⟩) m cap) m ds) (hg : w.grownBy w' v.ownBlock) (hat : v.ownBlock = some g ∨ g = w.heap.size) : Have w0 w' (ownK B e K (.slice (some ⟨g, 0, none⟩) m cap) m ds :: ts) := h.turn0 _ hown (kept_grownK hg) (okF hat)
theorem own_far {w0 w : World} {B K n cap n2 c2 : Nat} {e : TypeId} {A : Option Addr} {cs : List Value} {ts : List Thing} {α : Type} {K2 : Nat} {enc : α → List Value} {qs : List α} {a : Addr} {j g o : Nat} (h : Have w0 w (ownK B e K (.slice A n cap) n cs :: stRowT K2 enc (some a) n2 c2 qs :: ts)) (had : a.add j = ⟨g, o, none⟩) : (Value.slice A n cap).ownBlock ≠ some g := fun e9 => by
  have h1 := h.2.2.1 (stRowT K2 enc (some a) n2 c2 qs) (by simp) g e9
  refine h1 ⟨a, rfl, ?_⟩
  have h2 := add_block' a j
  rw [had] at h2
  exact h2.symm
theorem long_put {w0 w : World} {B : Nat} {z : Int} {ts : List Thing} (h : Have w0 w (boxT B 125 #[.int .i64 (Wid.dg (z) 0), .int .i64 (Wid.dg (z) 1), .int .i64 (Wid.dg (z) 2), .int .i64 (Wid.dg (z) 3), .int .i64 (Wid.dg (z) 4), .int .i64 (Wid.dg (z) 5), .int .i64 (Wid.dg (z) 6), .int .i64 (Wid.dg (z) 7), .int .i64 (Wid.dg (z) 8), .int .i64 (Wid.dg (z) 9)] :: ts)) (z2 : Int) (bs : Array Obj) (d : Nat) : Have w0 (grow (((((((((((w).setCell ⟨B, 0, none⟩ (.int .i64 (Wid.dg z2 0))).setCell ⟨B, 1, none⟩ (.int .i64 (Wid.dg z2 1))).setCell ⟨B, 2, none⟩ (.int .i64 (Wid.dg z2 2))).setCell ⟨B, 3, none⟩ (.int .i64 (Wid.dg z2 3))).setCell ⟨B, 4, none⟩ (.int .i64 (Wid.dg z2 4))).setCell ⟨B, 5, none⟩ (.int .i64 (Wid.dg z2 5))).setCell ⟨B, 6, none⟩ (.int .i64 (Wid.dg z2 6))).setCell ⟨B, 7, none⟩ (.int .i64 (Wid.dg z2 7))).setCell ⟨B, 8, none⟩ (.int .i64 (Wid.dg z2 8))).setCell ⟨B, 9, none⟩ (.int .i64 (Wid.dg z2 9))) bs d) (boxT B 125 #[.int .i64 (Wid.dg (z2) 0), .int .i64 (Wid.dg (z2) 1), .int .i64 (Wid.dg (z2) 2), .int .i64 (Wid.dg (z2) 3), .int .i64 (Wid.dg (z2) 4), .int .i64 (Wid.dg (z2) 5), .int .i64 (Wid.dg (z2) 6), .int .i64 (Wid.dg (z2) 7), .int .i64 (Wid.dg (z2) 8), .int .i64 (Wid.dg (z2) 9)] :: ts) := by
  have h0 : Wid.LBlk w B z := h.1
  exact h.turn0 (boxT B 125 #[.int .i64 (Wid.dg (z2) 0), .int .i64 (Wid.dg (z2) 1), .int .i64 (Wid.dg (z2) 2), .int .i64 (Wid.dg (z2) 3), .int .i64 (Wid.dg (z2) 4), .int .i64 (Wid.dg (z2) 5), .int .i64 (Wid.dg (z2) 6), .int .i64 (Wid.dg (z2) 7), .int .i64 (Wid.dg (z2) 8), .int .i64 (Wid.dg (z2) 9)]) (Wid.blk_grow (Wid.LBlk.set h0 z2) bs d) ((((((((((((Kept.refl (fun k => k = B) w).set (.inl rfl) 0 _).set (.inl rfl) 1 _).set (.inl rfl) 2 _).set (.inl rfl) 3 _).set (.inl rfl) 4 _).set (.inl rfl) 5 _).set (.inl rfl) 6 _).set (.inl rfl) 7 _).set (.inl rfl) 8 _).set (.inl rfl) 9 _).over bs d) (fun k hk => .inl hk)
theorem have_to {w0 w X Y : World} {ts : List Thing} {row : Option Nat} (h : Have w0 w ts) (hg : X.grownBy Y row) (hb : Below w.heap.size w X) : Have w0 X ts := h.up hb
theorem rest_big {K : List Kp} {p : Nat × Nat} {N : Int} (n0 : -9223372036854775808 ≤ N) (n1 : N ≤ 9223372036854775807) (hs : Small 9223372036854775808 K) {k : Nat} (hk : k ≤ 5000) : -730750818665451459101842416358141509827966271488 ≤ N - wsumQ K p k ∧ N - wsumQ K p k < 730750818665451459101842416358141509827966271488 := by
  have h1 := wsumQ_bd (by decide) hs p k
  omega
theorem hv_zero' {c : Cfg} {pt : Nat → Int → Int} {least bud : Int} (h : hvC c pt least bud = 0) : bud ≤ 4096 ∧ ((countQ pt least c.bt.toNat (c.bt.toNat + 1) : Nat) : Int) ≤ bud ∧ hvL c pt least bud = foundQ pt least c.bt.toNat (c.bt.toNat + 1) := by
  have h1 : ¬ (least < 1 ∨ 4096 < bud) := fun h2 => by rw [(hv_arg h2).1] at h; cases h
  have h2 : ¬ bud < ((countQ pt least c.bt.toNat (c.bt.toNat + 1) : Nat) : Int) := fun h3 => by rw [(hv_over (by omega) (by omega) h3).1] at h; cases h
  exact ⟨by omega, by omega, (hv_yes (by omega) (by omega) (by omega)).2⟩
set_option maxRecDepth 100000 in
set_option maxHeartbeats 4000000 in
theorem rhier_n (r : Addr) (F : Nat → Prop) (c : Cfg) (sts : List LS) (least bud : Int) (w : World) (h : DK w r F c sts) (hin : ∀ n i : Int, -9223372036854775808 ≤ spV c sts n i ∧ spV c sts n i ≤ 9223372036854775807) (l0 : -9223372036854775808 ≤ least) (l1 : least ≤ 9223372036854775807) (u0 : -9223372036854775808 ≤ bud) (u1 : bud ≤ 9223372036854775807) (hc : hvC c (fun L i => spV c sts (L : Int) i) least bud ≠ 0) :
    Calls Tryz.prog 20 #[.pointer (some r), .int .i64 least, .int .i64 bud] w fun e w' => ∃ (A : Option Addr) (n cap : Nat), e = .returned (.tuple #[.slice A n cap, .int .i64 (hrC c (fun L i => spV c sts (L : Int) i) least bud)]) ∧ (stRowT 4 encR A n cap (hrL c (fun L i => spV c sts (L : Int) i) least bud)).I w' ∧ (∀ q, (stRowT 4 encR A n cap (hrL c (fun L i => spV c sts (L : Int) i) least bud)).F q → w.heap.size ≤ q) ∧ Below w.heap.size w w' := by
  have CH := Lib.hid (rheavy_any r F c sts least bud w h hin l0 l1 u0 u1)
  obtain ⟨y1, y2⟩ := hr_no hc
  rw [y1, y2]
  obtain ⟨HC, hHC⟩ : ∃ x, hvC c (fun L i => spV c sts (L : Int) i) least bud = x := ⟨_, rfl⟩
  rw [hHC] at CH hc
  rw [hHC]
  clear h y1 y2 hHC l0 l1 u0 u1 hin
  go_enter Tryz.func20, Tryz.ntmps20
  go_wp2_with (go_at_call 18; (with_reducible refine CH.out.mono ?_); rintro e w1 ⟨A, n, cap, rfl, hI, hF, hb⟩; have HB1 := Lib.hid hb; clear hI hF hb)
  refine bodyPost_ret (v := .tuple #[.slice none 0 0, .int .i64 HC]) (by simp [results, Tryz.results20, go_sem]) rfl ?_
  exact ⟨none, 0, 0, rfl, st_nil 4 encR _, (fun q hq => by obtain ⟨a, e, _⟩ := hq; cases e), HB1.out⟩
set_option maxRecDepth 100000 in
set_option maxHeartbeats 16000000 in
theorem rhier_y (r : Addr) (F : Nat → Prop) (c : Cfg) (sts : List LS) (least bud : Int) (w : World) (h : DK w r F c sts) (hin : ∀ n i : Int, -9223372036854775808 ≤ spV c sts n i ∧ spV c sts n i ≤ 9223372036854775807) (l0 : -9223372036854775808 ≤ least) (l1 : least ≤ 9223372036854775807) (u0 : -9223372036854775808 ≤ bud) (u1 : bud ≤ 9223372036854775807) (hc : hvC c (fun L i => spV c sts (L : Int) i) least bud = 0) :
    Calls Tryz.prog 20 #[.pointer (some r), .int .i64 least, .int .i64 bud] w fun e w' => ∃ (A : Option Addr) (n cap : Nat), e = .returned (.tuple #[.slice A n cap, .int .i64 (hrC c (fun L i => spV c sts (L : Int) i) least bud)]) ∧ (stRowT 4 encR A n cap (hrL c (fun L i => spV c sts (L : Int) i) least bud)).I w' ∧ (∀ q, (stRowT 4 encR A n cap (hrL c (fun L i => spV c sts (L : Int) i) least bud)).F q → w.heap.size ≤ q) ∧ Below w.heap.size w w' := by
  have CH := Lib.hid (rheavy_any r F c sts least bud w h hin l0 l1 u0 u1)
  have hr := h.1
  have hbt := hr.1
  have hbt2 := hr.2.1
  obtain ⟨b, rfl, d0, dlt⟩ := dk_bt h
  have HD := Lib.hid h
  obtain ⟨BB, hBB⟩ : ∃ B, c.bt.toNat = B := ⟨_, rfl⟩
  have hcb : c.bt = (BB : Int) := by omega
  obtain ⟨hu, hcnt, hfo⟩ := hv_zero' hc
  have hle := foundQ_le (fun L i => spV c sts (L : Int) i) least c.bt.toNat (c.bt.toNat + 1)
  have HQN := Lib.hid (fun (hk : hierQ c (fun L i => spV c sts (L : Int) i) least = none) => hr_over hc hk)
  have HQY := Lib.hid (fun (K : List Kp) (hk : hierQ c (fun L i => spV c sts (L : Int) i) least = some K) => hr_yes hc hk)
  have hqd : hierQ c (fun L i => spV c sts (L : Int) i) least = hierF least (orderQ c.bt.toNat (foundQ (fun L i => spV c sts (L : Int) i) least c.bt.toNat (c.bt.toNat + 1))) [] := rfl
  rw [hc, hfo] at CH
  rw [hBB] at hqd hle hcnt
  rw [hBB] at CH
  have hpt : ∀ q ∈ foundQ (fun L i => spV c sts (L : Int) i) least BB (BB + 1), (q.1.1 ≤ BB ∧ q.1.2 < 2 ^ 59) ∧ -9223372036854775808 ≤ q.2 ∧ q.2 ≤ 9223372036854775807 := fun q hq => by
    obtain ⟨e, he, h1, h2, h3, h4⟩ := mem_foundQ.1 hq
    have h5 := askQ_lt h2
    refine ⟨⟨by omega, Nat.lt_of_lt_of_le h5 (Nat.pow_le_pow_right (by omega) (by omega))⟩, ?_⟩
    rw [h4]
    exact hin _ _
  obtain ⟨QL, hQL⟩ : ∃ l, foundQ (fun L i => spV c sts (L : Int) i) least BB (BB + 1) = l := ⟨_, rfl⟩
  rw [hQL] at hqd hle hpt CH
  have hll : QL.length ≤ 4096 := by omega
  rw [hqd] at HQN HQY
  obtain ⟨HC_, hHC⟩ : ∃ x, hrC c (fun L i => spV c sts (L : Int) i) least bud = x := ⟨_, rfl⟩
  obtain ⟨HL_, hHL⟩ : ∃ x, hrL c (fun L i => spV c sts (L : Int) i) least bud = x := ⟨_, rfl⟩
  rw [hHC, hHL] at HQN HQY
  rw [hHC, hHL]
  have HPT := Lib.hid hpt
  have HLL := Lib.hid hll
  have HB59 : Hid (BB ≤ 59) := Lib.hid (by omega)
  rw [hcb] at d0
  have D0 := Lib.hid d0
  have HLEAST := Lib.hid (And.intro l0 l1)
  obtain ⟨j0, hj_, hy0, hy1, hy2⟩ := info_parts rr_info
  clear h hr hbt hbt2 hBB hcb hu hcnt hfo hle hqd hpt hQL hll hHC hHL hc l0 l1 u0 u1 hin d0
  go_enter Tryz.func20, Tryz.ntmps20
  go_upto_region 6 with (go_at_call 18; (with_reducible refine CH.out.mono ?_); rintro e w1 ⟨A4, LN, cap4, rfl, hI, hF, hb⟩; have hln := (strI hI).len; have HLN := Lib.hid hln; have HV1 := Lib.hid ((Have.nil w).push (stRowT 3 encF A4 LN cap4 QL) hb hI hF); clear hI hF hb hln)
  have HV2 := Lib.hid (HV1.out.push (ownK w.heap.size 128 4 (.slice (some ⟨w1.heap.size, 0, none⟩) 0 0) 0 []) (Lw.below_alloc (Below.refl _ _) (.cells #[] 128)) (World.ownsRow_made w1 #[] 0 HV1.out.below.size (by decide) rfl) (fun k hk => by have : some w1.heap.size = some k := hk; injection this with this; omega))
  go_loopw [10, 11] (fun ov iv wr => ∃ (v : Nat) (K : List Kp), v ≤ BB + 1 ∧ iv = .int .i64 (v : Int) ∧ hierF least (rowO QL v 0) [] = some K ∧ Have w wr [ownK w.heap.size 128 4 ov K.length (K.flatMap encR), stRowT 3 encF A4 LN cap4 QL]) (fun _ iv _ => 100 - (intOf iv).toNat)
  case atStart => exact ⟨0, [], Nat.zero_le _, rfl, by rw [rowO_00]; rfl, HV2.out⟩
  case round =>
    obtain ⟨v, K0, hv, rfl, hk0, hh⟩ := hrel
    have HVr := Lib.hid hh
    have HK0 := Lib.hid hk0
    have d1 := cell_up D0.out HVr.out.below
    clear hh hk0
    by_cases hmore : v ≤ BB
    · have lt1 : (v : Int) ≤ (BB : Int) := by omega
      have hv59 : v ≤ 59 := by have := HB59.out; omega
      go_upto_region 9 with fail
      go_loopw [10, 12] (fun ov iv wq => ∃ (i : Nat) (K : List Kp), i ≤ LN ∧ iv = .int .i64 (i : Int) ∧ hierF least (rowO QL v i) [] = some K ∧ Have w wq [ownK w.heap.size 128 4 ov K.length (K.flatMap encR), stRowT 3 encF A4 LN cap4 QL]) (fun _ iv _ => 5000 - (intOf iv).toNat)
      case atStart => exact ⟨0, K0, Nat.zero_le _, rfl, HK0.out, HVr.out.up (by repeat' (first | (with_reducible exact Below.refl _ _) | (with_reducible assumption) | (with_reducible refine below_over ?_ _ _) | (with_reducible refine Lw.below_alloc ?_ _) | (with_reducible refine Below.drew ?_) | (with_reducible refine below_drewN ?_ _) | (with_reducible exact below_sgrow _ _ _) | (with_reducible refine Below.setCell ?_ ?_ _) | go_size))⟩
      case round =>
        obtain ⟨i, K, hi, rfl, hk, hh⟩ := hrel
        have HVs := Lib.hid hh
        have HK := Lib.hid hk
        obtain ⟨kl1, kl2⟩ := hier_kept hk
        have hrl := rowO_len (l := QL) (v := v) (i := i)
        have HSM : Hid (Small 9223372036854775808 K) := Lib.hid (fun x hx => by
          have h5 := (HPT.out _ (rowO_in _ (kl2 x hx))).2
          simp only at h5
          omega)
        have HKB : Hid (∀ x ∈ K, -9223372036854775808 ≤ x.2.1 ∧ x.2.1 ≤ 9223372036854775807) := Lib.hid (fun x hx => by
          have h5 := (HPT.out _ (rowO_in _ (kl2 x hx))).2
          simp only at h5
          exact h5)
        have HK59 : Hid (∀ x ∈ K, x.1.1 ≤ 59) := Lib.hid (fun x hx => by
          have h5 := (HPT.out _ (rowO_in _ (kl2 x hx))).1.1
          have h6 := HB59.out
          simp only at h5
          omega)
        obtain ⟨KN, hKN⟩ : ∃ n, K.length = n := ⟨_, rfl⟩
        have hkn : KN ≤ 4096 := by have h6 := HLL.out; omega
        rw [hKN] at HVs
        have HKN := Lib.hid hKN
        obtain ⟨-, A5, cap5, rfl⟩ := own_formK (okI HVs.out.i0)
        clear hh hk kl1 kl2 hrl hKN
        have hln4 : LN ≤ 4096 := by rw [← HLN.out]; exact HLL.out
        by_cases hil : i < LN
        · have li0 : (0 : Int) ≤ (i : Int) := by omega
          have li1 : (i : Int) < (LN : Int) := by omega
          obtain ⟨q, hq⟩ : ∃ q, QL[i]? = some q := ⟨_, List.getElem?_eq_getElem (by rw [HLN.out]; exact hil)⟩
          obtain ⟨LX, IX, NX, hqq⟩ : ∃ (a b : Nat) (z : Int), q = ((a, b), z) := ⟨_, _, _, rfl⟩
          subst hqq
          have hp := HPT.out _ (List.mem_of_getElem? hq)
          simp only at hp
          obtain ⟨-, nx0, nx1⟩ := hp
          obtain ⟨a4, g4, o4, ee, had4, -⟩ := (strI HVs.out.i1).at hq (v0 := .int .i64 (LX : Int)) rfl
          subst ee
          obtain ⟨r0, r1, r2⟩ := trip3 (strI HVs.out.i1) hq had4
          simp only at r0 r1 r2
          have HQ := Lib.hid hq
          clear hq
          by_cases hlv : LX = v
          · obtain rfl : v = LX := hlv.symm
            clear hlv
            have CO := Lib.hid (fun w => Wid.rofint_any NX w nx0 nx1)
            go_upto_region 13 with (go_at_call 58; (with_reducible refine (CO.out _).mono ?_); rintro e w5 ⟨rfl, hb⟩; have HV5 := Lib.hid (HVs.out.up hb); clear hb)
            have HV13 := Lib.hid (HV5.out.push (boxT w5.heap.size 125 #[.int .i64 (Wid.dg (NX) 0), .int .i64 (Wid.dg (NX) 1), .int .i64 (Wid.dg (NX) 2), .int .i64 (Wid.dg (NX) 3), .int .i64 (Wid.dg (NX) 4), .int .i64 (Wid.dg (NX) 5), .int .i64 (Wid.dg (NX) 6), .int .i64 (Wid.dg (NX) 7), .int .i64 (Wid.dg (NX) 8), .int .i64 (Wid.dg (NX) 9)]) (Lw.below_alloc (Below.refl _ _) _) (heap_alloc_new w5 _) (fun k hk => Nat.le_of_eq hk.symm))
            obtain ⟨B13, hB13⟩ : ∃ k, w5.heap.size = k := ⟨_, rfl⟩
            obtain ⟨W13, hW13⟩ : ∃ X, w5.alloc (.cells #[.int .i64 (Wid.dg (NX) 0), .int .i64 (Wid.dg (NX) 1), .int .i64 (Wid.dg (NX) 2), .int .i64 (Wid.dg (NX) 3), .int .i64 (Wid.dg (NX) 4), .int .i64 (Wid.dg (NX) 5), .int .i64 (Wid.dg (NX) 6), .int .i64 (Wid.dg (NX) 7), .int .i64 (Wid.dg (NX) 8), .int .i64 (Wid.dg (NX) 9)] 125) = X := ⟨_, rfl⟩
            rw [hW13] at HV13 ⊢
            rw [hB13] at HV13 ⊢
            clear hW13 hB13 r0 r1 r2
            go_upto_region 14 with fail
            go_loopw [14] (fun kv ws => ∃ (k : Nat) (z : Int), k ≤ KN ∧ kv = .int .i64 (k : Int) ∧ z = NX - wsumQ K (v, IX) k ∧ Have w ws [boxT B13 125 #[.int .i64 (Wid.dg (z) 0), .int .i64 (Wid.dg (z) 1), .int .i64 (Wid.dg (z) 2), .int .i64 (Wid.dg (z) 3), .int .i64 (Wid.dg (z) 4), .int .i64 (Wid.dg (z) 5), .int .i64 (Wid.dg (z) 6), .int .i64 (Wid.dg (z) 7), .int .i64 (Wid.dg (z) 8), .int .i64 (Wid.dg (z) 9)], ownK w.heap.size 128 4 (.slice A5 KN cap5) KN (K.flatMap encR), stRowT 3 encF (some a4) LN cap4 QL]) (fun kv _ => 5000 - (intOf kv).toNat)
            case atStart => exact ⟨0, NX, Nat.zero_le _, rfl, by rw [wsumQ_0]; omega, HV13.out⟩
            case round =>
              obtain ⟨k, z, hk, rfl, hz, hh⟩ := hrel
              have HVk := Lib.hid hh
              have HZ := Lib.hid hz
              have hzb := rest_big (K := K) (p := (v, IX)) nx0 nx1 HSM.out (k := k) (by omega)
              rw [← hz] at hzb
              have HZB := Lib.hid hzb
              clear hh hz hzb
              by_cases hkk : k < KN
              · have kz0 : (0 : Int) ≤ (k : Int) := by omega
                have kz1 : (k : Int) < (KN : Int) := by omega
                obtain ⟨q, hx⟩ : ∃ q, K[k]? = some q := ⟨_, List.getElem?_eq_getElem (by rw [HKN.out]; exact hkk)⟩
                obtain ⟨LK, IK, NK, RK, hqq⟩ : ∃ (a b : Nat) (v z : Int), q = ((a, b), v, z) := ⟨_, _, _, _, rfl⟩
                subst hqq
                have lk59 : LK ≤ 59 := HK59.out _ (List.mem_of_getElem? hx)
                obtain ⟨nk0, nk1⟩ := HKB.out _ (List.mem_of_getElem? hx)
                simp only at nk0 nk1
                have HST := Lib.hid (st_row (okI HVk.out.i1) HKN.out)
                obtain ⟨a5, g5, o5, ee, had5, -⟩ := HST.out.at hx (v0 := .int .i64 (LK : Int)) rfl
                subst ee
                obtain ⟨s0, s1, s2, s3⟩ := quadR HST.out hx had5
                obtain ⟨r0, r1, r2⟩ := trip3 (strI HVk.out.i2) HQ.out had4
                simp only at s0 s1 s2 r0 r1
                have HX := Lib.hid hx
                obtain ⟨b0, hb0⟩ : ∃ b, inQ (LK, IK) (v, IX) = b := ⟨_, rfl⟩
                have HB0 := Lib.hid hb0
                have hmo : Tryz.prog.follows .mixedOrders = true := by kernel_rfl
                have ss0 := cell_sgrow s0
                have ss1 := cell_sgrow s1
                have rr0 := cell_sgrow r0
                have rr1 := cell_sgrow r1
                clear hx s3 r2
                cases b0 with
                | false =>
                  as_aux_lemma =>
                  have HWN : Hid (z = NX - wsumQ K (v, IX) (k + 1)) := Lib.hid (by rw [wsumQ_next, alnQ_out HX.out HB0.out, HZ.out]; simp)
                  go_upto_region 16 with fail
                  go_quiet_grown (first | (go_at_call 59; refine rin_grown LK IK v IX _ _ _ (by omega) (by omega) hb0))
                  go_wp2
                  go_roundw
                  case rel => exact ⟨k + 1, z, by omega, by go_num, HWN.out, HVk.out.up (by repeat' (first | (with_reducible exact Below.refl _ _) | (with_reducible assumption) | (with_reducible refine below_over ?_ _ _) | (with_reducible refine Lw.below_alloc ?_ _) | (with_reducible refine Below.drew ?_) | (with_reducible refine below_drewN ?_ _) | (with_reducible exact below_sgrow _ _ _) | (with_reducible refine Below.setCell ?_ ?_ _) | go_size))⟩
                  case measure => simp [intOf]; omega
                | true =>
                  as_aux_lemma =>
                  go_upto_region 16 with fail
                  go_quiet_grown (first | (go_at_call 59; refine rin_grown LK IK v IX _ _ _ (by omega) (by omega) hb0))
                  go_wp2
                  have HVy := Lib.hid (HVk.out.up (below_sgrow _ nq osq))
                  clear s0 s1 s2 r0 r1 ss0 ss1 rr0 rr1
                  go_loopw [15, 16] (fun av mv wm => ∃ (m : Nat) (b : Bool), m ≤ KN ∧ mv = .int .i64 (m : Int) ∧ av = .bool b ∧ alnQ K k (v, IX) m = b ∧ Have w wm [boxT B13 125 #[.int .i64 (Wid.dg (z) 0), .int .i64 (Wid.dg (z) 1), .int .i64 (Wid.dg (z) 2), .int .i64 (Wid.dg (z) 3), .int .i64 (Wid.dg (z) 4), .int .i64 (Wid.dg (z) 5), .int .i64 (Wid.dg (z) 6), .int .i64 (Wid.dg (z) 7), .int .i64 (Wid.dg (z) 8), .int .i64 (Wid.dg (z) 9)], ownK w.heap.size 128 4 (.slice (some a5) KN cap5) KN (K.flatMap encR), stRowT 3 encF (some a4) LN cap4 QL]) (fun _ mv _ => 5000 - (intOf mv).toNat)
                  case atStart => exact ⟨0, true, Nat.zero_le _, rfl, rfl, (alnQ_first HX.out).trans HB0.out, HVy.out.up (by repeat' (first | (with_reducible exact Below.refl _ _) | (with_reducible assumption) | (with_reducible refine below_over ?_ _ _) | (with_reducible refine Lw.below_alloc ?_ _) | (with_reducible refine Below.drew ?_) | (with_reducible refine below_drewN ?_ _) | (with_reducible exact below_sgrow _ _ _) | (with_reducible refine Below.setCell ?_ ?_ _) | go_size))⟩
                  case round =>
                    obtain ⟨m, b, hm, rfl, rfl, halt, hh⟩ := hrel
                    have HVz := Lib.hid hh
                    have HALT := Lib.hid halt
                    have HSTz := Lib.hid (st_row (okI HVz.out.i1) HKN.out)
                    clear hh halt
                    by_cases hmm : m < KN
                    · have mz0 : (0 : Int) ≤ (m : Int) := by omega
                      have mz1 : (m : Int) < (KN : Int) := by omega
                      obtain ⟨q, hy⟩ : ∃ q, K[m]? = some q := ⟨_, List.getElem?_eq_getElem (by rw [HKN.out]; exact hmm)⟩
                      obtain ⟨LY, IY, NY, RY, hqq⟩ : ∃ (a b : Nat) (v z : Int), q = ((a, b), v, z) := ⟨_, _, _, _, rfl⟩
                      subst hqq
                      have ly59 : LY ≤ 59 := HK59.out _ (List.mem_of_getElem? hy)
                      have hax := alnQ_next (p := (v, IX)) HX.out hy
                      rw [HALT.out] at hax
                      by_cases hmk : m = k
                      · subst hmk
                        have hax2 : alnQ K m (v, IX) (m + 1) = b := by rw [hax]; simp
                        have HAX := Lib.hid hax2
                        clear hax hax2 hy
                        go_upto_region 21 with fail
                        go_quiet (fail)
                        go_wp2
                        go_roundw
                        case rel => exact ⟨m + 1, b, by omega, by go_num, rfl, HAX.out, HVz.out.up (by repeat' (first | (with_reducible exact Below.refl _ _) | (with_reducible assumption) | (with_reducible refine below_over ?_ _ _) | (with_reducible refine Lw.below_alloc ?_ _) | (with_reducible refine Below.drew ?_) | (with_reducible refine below_drewN ?_ _) | (with_reducible exact below_sgrow _ _ _) | (with_reducible refine Below.setCell ?_ ?_ _) | go_size))⟩
                        case measure => simp [intOf]; omega
                      · have ge : ((m : Int) == (k : Int)) = false := by simp; omega
                        have gn : ¬ (m : Int) = (k : Int) := by omega
                        have gk : (m == k) = false := by simpa using hmk
                        have gb : ((m : Int) != (k : Int)) = true := by simp; omega
                        have gd : decide (m = k) = false := decide_eq_false hmk
                        have gd2 : decide ((m : Int) = (k : Int)) = false := decide_eq_false gn
                        obtain ⟨a7, g7, o7, ee, had7, -⟩ := HSTz.out.at hy (v0 := .int .i64 (LY : Int)) rfl
                        injection ee with ee
                        subst ee
                        obtain ⟨s0, s1, s2, s3⟩ := quadR HSTz.out HX.out had5
                        obtain ⟨t0, t1, t2, t3⟩ := quadR HSTz.out hy had7
                        obtain ⟨v0, v1, v2⟩ := trip3 (strI HVz.out.i2) HQ.out had4
                        simp only at s0 s1 t0 t1 v0 v1
                        obtain ⟨b1, hb1⟩ : ∃ b, inQ (LK, IK) (LY, IY) = b := ⟨_, rfl⟩
                        obtain ⟨b2, hb2⟩ : ∃ b, inQ (LY, IY) (v, IX) = b := ⟨_, rfl⟩
                        simp only at hax
                        rw [hb1, hb2, gk, Bool.false_or] at hax
                        have HAX := Lib.hid hax
                        have CI1 := Lib.hid (fun w => rin_any LK IK LY IY w (by omega) (by omega))
                        have CI2 := Lib.hid (fun w => rin_any LY IY v IX w (by omega) (by omega))
                        rw [hb1] at CI1
                        rw [hb2] at CI2
                        clear hax hy s2 s3 t2 t3 v2
                        cases b1 with
                        | false =>
                          as_aux_lemma =>
                          go_upto_region 21 with fail
                          refine wp_region_held_drew (S := (fun w' => w'.cell? ⟨g5, o5, none⟩ = some (.int .i64 (LK : Int)) ∧ w'.cell? ⟨g5, o5 + 1, none⟩ = some (.int .u64 (IK : Int)) ∧ w'.cell? ⟨g7, o7, none⟩ = some (.int .i64 (LY : Int)) ∧ w'.cell? ⟨g7, o7 + 1, none⟩ = some (.int .u64 (IY : Int)) ∧ w'.cell? ⟨g4, o4, none⟩ = some (.int .i64 (v : Int)) ∧ w'.cell? ⟨g4, o4 + 1, none⟩ = some (.int .u64 (IX : Int)))) (by kernel_rfl) (by (first | (refine ⟨?_, ?_, ?_, ?_, ?_, ?_⟩ <;> (first | (with_reducible assumption) | (with_reducible refine cell_up s0 ?_) | (with_reducible refine cell_up s1 ?_) | (with_reducible refine cell_up t0 ?_) | (with_reducible refine cell_up t1 ?_) | (with_reducible refine cell_up v0 ?_) | (with_reducible refine cell_up v1 ?_)) <;> (repeat' (first | (with_reducible first | exact Below.refl _ _ | assumption | refine below_over ?_ _ _ | refine Lw.below_alloc ?_ _ | refine Below.drew ?_ | refine below_drewN ?_ _ | refine Below.setCell ?_ ?_ _) | go_size))))) (fun hHeld => ?_)
                          refine wpAnyH_take (i := 0) (v := ?_) rfl (by kernel_rfl) (by kernel_rfl) (by kernel_rfl) (fun _ _ _ h => h) (Or.inl ⟨by rfl, ?_⟩) hHeld ?_
                          rotate_left
                          · intro w hSw; (try dsimp only at hSw); go_simp; (try with_reducible rfl)
                          (try simp only [List.getElem_toArray, List.getElem_cons_zero, List.getElem_cons_succ, Act.put, List.setIfInBounds_toArray, List.set_cons_zero, List.set_cons_succ])
                          refine wpAnyH_take (i := 1) (v := ?_) rfl (by kernel_rfl) (by kernel_rfl) (by kernel_rfl) (fun _ _ _ h => h) (Or.inl ⟨by rfl, ?_⟩) hHeld ?_
                          rotate_left
                          · intro w hSw; (try dsimp only at hSw); go_simp; (try with_reducible rfl)
                          (try simp only [List.getElem_toArray, List.getElem_cons_zero, List.getElem_cons_succ, Act.put, List.setIfInBounds_toArray, List.set_cons_zero, List.set_cons_succ])
                          refine wpAnyH_take (i := 2) (v := ?_) rfl (by kernel_rfl) (by kernel_rfl) (by kernel_rfl) (fun _ _ _ h => h) (Or.inl ⟨by rfl, ?_⟩) hHeld ?_
                          rotate_left
                          · intro w hSw; (try dsimp only at hSw); go_simp; (try with_reducible rfl)
                          (try simp only [List.getElem_toArray, List.getElem_cons_zero, List.getElem_cons_succ, Act.put, List.setIfInBounds_toArray, List.set_cons_zero, List.set_cons_succ])
                          refine wpAnyH_take (i := 3) (v := ?_) rfl (by kernel_rfl) (by kernel_rfl) (by kernel_rfl) (fun _ _ _ h => h) (Or.inl ⟨by rfl, ?_⟩) hHeld ?_
                          rotate_left
                          · intro w hSw; (try dsimp only at hSw); go_simp; (try with_reducible rfl)
                          (try simp only [List.getElem_toArray, List.getElem_cons_zero, List.getElem_cons_succ, Act.put, List.setIfInBounds_toArray, List.set_cons_zero, List.set_cons_succ])
                          refine wpAnyH_take (i := 4) (v := ?_) rfl (by kernel_rfl) (by kernel_rfl) (by kernel_rfl) (fun _ _ _ h => h) (Or.inl ⟨by rfl, ?_⟩) hHeld ?_
                          rotate_left
                          · intro w hSw; (try dsimp only at hSw); go_simp; (try with_reducible rfl)
                          (try simp only [List.getElem_toArray, List.getElem_cons_zero, List.getElem_cons_succ, Act.put, List.setIfInBounds_toArray, List.set_cons_zero, List.set_cons_succ])
                          refine wpAnyH_take (i := 5) (v := ?_) rfl (by kernel_rfl) (by kernel_rfl) (by kernel_rfl) (fun _ _ _ h => h) (Or.inl ⟨by rfl, ?_⟩) hHeld ?_
                          rotate_left
                          · intro w hSw; (try dsimp only at hSw); go_simp; (try with_reducible rfl)
                          (try simp only [List.getElem_toArray, List.getElem_cons_zero, List.getElem_cons_succ, Act.put, List.setIfInBounds_toArray, List.set_cons_zero, List.set_cons_succ])
                          refine wpAnyH_take (i := 6) (v := ?_) rfl (by kernel_rfl) (by kernel_rfl) (by kernel_rfl) (fun _ _ _ h => h) (Or.inl ⟨by rfl, ?_⟩) hHeld ?_
                          rotate_left
                          · intro w hSw; (try dsimp only at hSw); go_simp; (try with_reducible rfl)
                          (try simp only [List.getElem_toArray, List.getElem_cons_zero, List.getElem_cons_succ, Act.put, List.setIfInBounds_toArray, List.set_cons_zero, List.set_cons_succ])
                          refine wpAnyH_take (i := 7) (v := ?_) rfl (by kernel_rfl) (by kernel_rfl) (by kernel_rfl) (fun _ _ _ h => h) (Or.inl ⟨by rfl, ?_⟩) hHeld ?_
                          rotate_left
                          · intro w hSw; (try dsimp only at hSw); go_simp; (try with_reducible rfl)
                          (try simp only [List.getElem_toArray, List.getElem_cons_zero, List.getElem_cons_succ, Act.put, List.setIfInBounds_toArray, List.set_cons_zero, List.set_cons_succ])
                          refine wpAnyH_take (i := 8) (v := ?_) rfl (by kernel_rfl) (by kernel_rfl) (by kernel_rfl) (fun _ _ _ h => h) (Or.inl ⟨by rfl, ?_⟩) hHeld ?_
                          rotate_left
                          · intro w hSw; (try dsimp only at hSw); go_simp; (try with_reducible rfl)
                          (try simp only [List.getElem_toArray, List.getElem_cons_zero, List.getElem_cons_succ, Act.put, List.setIfInBounds_toArray, List.set_cons_zero, List.set_cons_succ])
                          refine wpAnyH_take (i := 9) (v := ?_) rfl (by kernel_rfl) (by kernel_rfl) (by kernel_rfl) (fun _ _ _ h => h) (Or.inl ⟨by rfl, ?_⟩) hHeld ?_
                          rotate_left
                          · intro w hSw; (try dsimp only at hSw); go_simp; (try with_reducible rfl)
                          (try simp only [List.getElem_toArray, List.getElem_cons_zero, List.getElem_cons_succ, Act.put, List.setIfInBounds_toArray, List.set_cons_zero, List.set_cons_succ])
                          refine wpAnyH_take (i := 10) (v := ?_) rfl (by kernel_rfl) (by kernel_rfl) (by kernel_rfl) (fun _ _ _ h => h) (Or.inl ⟨by rfl, ?_⟩) hHeld ?_
                          rotate_left
                          · intro w hSw; (try dsimp only at hSw); go_simp; (try with_reducible rfl)
                          (try simp only [List.getElem_toArray, List.getElem_cons_zero, List.getElem_cons_succ, Act.put, List.setIfInBounds_toArray, List.set_cons_zero, List.set_cons_succ])
                          refine wpAnyH_take (i := 11) (v := ?_) rfl (by kernel_rfl) (by kernel_rfl) (by kernel_rfl) (fun _ _ _ h => h) (Or.inl ⟨by rfl, ?_⟩) hHeld ?_
                          rotate_left
                          · intro w hSw; (try dsimp only at hSw); go_simp; (try with_reducible rfl)
                          (try simp only [List.getElem_toArray, List.getElem_cons_zero, List.getElem_cons_succ, Act.put, List.setIfInBounds_toArray, List.set_cons_zero, List.set_cons_succ])
                          refine wpAnyH_take (i := 12) (v := ?_) rfl (by kernel_rfl) (by kernel_rfl) (by kernel_rfl) (fun _ _ _ h => h) (Or.inl ⟨by rfl, ?_⟩) hHeld ?_
                          rotate_left
                          · intro w hSw; (try dsimp only at hSw); go_simp; (try with_reducible rfl)
                          (try simp only [List.getElem_toArray, List.getElem_cons_zero, List.getElem_cons_succ, Act.put, List.setIfInBounds_toArray, List.set_cons_zero, List.set_cons_succ])
                          refine wpAnyH_take (i := 13) (v := ?_) rfl (by kernel_rfl) (by kernel_rfl) (by kernel_rfl) (fun _ _ _ h => h) (Or.inl ⟨by rfl, ?_⟩) hHeld ?_
                          rotate_left
                          · intro w hSw; (try dsimp only at hSw); go_simp; (try with_reducible rfl)
                          (try simp only [List.getElem_toArray, List.getElem_cons_zero, List.getElem_cons_succ, Act.put, List.setIfInBounds_toArray, List.set_cons_zero, List.set_cons_succ])
                          refine wpAnyH_ready (rs := [14]) (by kernel_rfl) (by simp) ?_
                          refine AllReadyH.cons rfl (fun K hK => ?_) AllReadyH.nil
                          go_simp
                          (first | (go_at_call 59; (with_reducible refine (CI1.out _).mono ?_); rintro e w' ⟨rfl, hb⟩; obtain ⟨bs1, d1, rfl⟩ := below_grow hb; clear hb) | (go_at_call 59; (with_reducible refine (CI2.out _).mono ?_); rintro e w' ⟨rfl, hb⟩; obtain ⟨bs2, d2, rfl⟩ := below_grow hb; clear hb))
                          refine hK.out _ _ (by (first | (refine ⟨?_, ?_, ?_, ?_, ?_, ?_⟩ <;> (first | (with_reducible assumption) | (with_reducible refine cell_up s0 ?_) | (with_reducible refine cell_up s1 ?_) | (with_reducible refine cell_up t0 ?_) | (with_reducible refine cell_up t1 ?_) | (with_reducible refine cell_up v0 ?_) | (with_reducible refine cell_up v1 ?_)) <;> (repeat' (first | (with_reducible first | exact Below.refl _ _ | assumption | refine below_over ?_ _ _ | refine Lw.below_alloc ?_ _ | refine Below.drew ?_ | refine below_drewN ?_ _ | refine Below.setCell ?_ ?_ _) | go_size))))) (fun hHeld => ?_)
                          clear hK K
                          (try simp only [List.getElem_toArray, List.getElem_cons_zero, List.getElem_cons_succ, Act.put, List.setIfInBounds_toArray, List.set_cons_zero, List.set_cons_succ])
                          refine wpAnyH_take (i := 15) (v := ?_) rfl (by kernel_rfl) (by kernel_rfl) (by kernel_rfl) (fun _ _ _ h => h) (Or.inl ⟨by rfl, ?_⟩) hHeld ?_
                          rotate_left
                          · intro w hSw; (try dsimp only at hSw); go_simp; (try with_reducible rfl)
                          (try simp only [List.getElem_toArray, List.getElem_cons_zero, List.getElem_cons_succ, Act.put, List.setIfInBounds_toArray, List.set_cons_zero, List.set_cons_succ])
                          refine wpAnyH_take (i := 16) (v := ?_) rfl (by kernel_rfl) (by kernel_rfl) (by kernel_rfl) (fun _ _ _ h => h) (Or.inl ⟨by rfl, ?_⟩) hHeld ?_
                          rotate_left
                          · intro w hSw; (try dsimp only at hSw); go_simp; (try with_reducible rfl)
                          (try simp only [List.getElem_toArray, List.getElem_cons_zero, List.getElem_cons_succ, Act.put, List.setIfInBounds_toArray, List.set_cons_zero, List.set_cons_succ])
                          refine wpAnyH_take (i := 17) (v := undef) rfl (by kernel_rfl) (by kernel_rfl) (by kernel_rfl) (fun _ _ _ h => h) (Or.inr ⟨by rfl, rfl⟩) hHeld ?_
                          (try simp only [List.getElem_toArray, List.getElem_cons_zero, List.getElem_cons_succ, Act.put, List.setIfInBounds_toArray, List.set_cons_zero, List.set_cons_succ])
                          refine wpAnyH_take (i := 18) (v := undef) rfl (by kernel_rfl) (by kernel_rfl) (by kernel_rfl) (fun _ _ _ h => h) (Or.inr ⟨by rfl, rfl⟩) hHeld ?_
                          (try simp only [List.getElem_toArray, List.getElem_cons_zero, List.getElem_cons_succ, Act.put, List.setIfInBounds_toArray, List.set_cons_zero, List.set_cons_succ])
                          refine wpAnyH_take (i := 19) (v := undef) rfl (by kernel_rfl) (by kernel_rfl) (by kernel_rfl) (fun _ _ _ h => h) (Or.inr ⟨by rfl, rfl⟩) hHeld ?_
                          (try simp only [List.getElem_toArray, List.getElem_cons_zero, List.getElem_cons_succ, Act.put, List.setIfInBounds_toArray, List.set_cons_zero, List.set_cons_succ])
                          refine wpAnyH_take (i := 20) (v := undef) rfl (by kernel_rfl) (by kernel_rfl) (by kernel_rfl) (fun _ _ _ h => h) (Or.inr ⟨by rfl, rfl⟩) hHeld ?_
                          (try simp only [List.getElem_toArray, List.getElem_cons_zero, List.getElem_cons_succ, Act.put, List.setIfInBounds_toArray, List.set_cons_zero, List.set_cons_succ])
                          refine wpAnyH_take (i := 21) (v := undef) rfl (by kernel_rfl) (by kernel_rfl) (by kernel_rfl) (fun _ _ _ h => h) (Or.inr ⟨by rfl, rfl⟩) hHeld ?_
                          (try simp only [List.getElem_toArray, List.getElem_cons_zero, List.getElem_cons_succ, Act.put, List.setIfInBounds_toArray, List.set_cons_zero, List.set_cons_succ])
                          refine wpAnyH_take (i := 22) (v := undef) rfl (by kernel_rfl) (by kernel_rfl) (by kernel_rfl) (fun _ _ _ h => h) (Or.inr ⟨by rfl, rfl⟩) hHeld ?_
                          (try simp only [List.getElem_toArray, List.getElem_cons_zero, List.getElem_cons_succ, Act.put, List.setIfInBounds_toArray, List.set_cons_zero, List.set_cons_succ])
                          refine wpAnyH_take (i := 23) (v := undef) rfl (by kernel_rfl) (by kernel_rfl) (by kernel_rfl) (fun _ _ _ h => h) (Or.inr ⟨by rfl, rfl⟩) hHeld ?_
                          (try simp only [List.getElem_toArray, List.getElem_cons_zero, List.getElem_cons_succ, Act.put, List.setIfInBounds_toArray, List.set_cons_zero, List.set_cons_succ])
                          refine wpAnyH_take (i := 24) (v := undef) rfl (by kernel_rfl) (by kernel_rfl) (by kernel_rfl) (fun _ _ _ h => h) (Or.inr ⟨by rfl, rfl⟩) hHeld ?_
                          (try simp only [List.getElem_toArray, List.getElem_cons_zero, List.getElem_cons_succ, Act.put, List.setIfInBounds_toArray, List.set_cons_zero, List.set_cons_succ])
                          refine wpAnyH_take (i := 25) (v := undef) rfl (by kernel_rfl) (by kernel_rfl) (by kernel_rfl) (fun _ _ _ h => h) (Or.inr ⟨by rfl, rfl⟩) hHeld ?_
                          (try simp only [List.getElem_toArray, List.getElem_cons_zero, List.getElem_cons_succ, Act.put, List.setIfInBounds_toArray, List.set_cons_zero, List.set_cons_succ])
                          refine wpAnyH_take (i := 26) (v := undef) rfl (by kernel_rfl) (by kernel_rfl) (by kernel_rfl) (fun _ _ _ h => h) (Or.inr ⟨by rfl, rfl⟩) hHeld ?_
                          (try simp only [List.getElem_toArray, List.getElem_cons_zero, List.getElem_cons_succ, Act.put, List.setIfInBounds_toArray, List.set_cons_zero, List.set_cons_succ])
                          refine wpAnyH_ready (rs := [27]) (by kernel_rfl) (by simp) ?_
                          refine AllReadyH.cons rfl (fun K hK => ?_) AllReadyH.nil
                          go_simp
                          refine hK.out _ _ (by (first | (refine ⟨?_, ?_, ?_, ?_, ?_, ?_⟩ <;> (first | (with_reducible assumption) | (with_reducible refine cell_up s0 ?_) | (with_reducible refine cell_up s1 ?_) | (with_reducible refine cell_up t0 ?_) | (with_reducible refine cell_up t1 ?_) | (with_reducible refine cell_up v0 ?_) | (with_reducible refine cell_up v1 ?_)) <;> (repeat' (first | (with_reducible first | exact Below.refl _ _ | assumption | refine below_over ?_ _ _ | refine Lw.below_alloc ?_ _ | refine Below.drew ?_ | refine below_drewN ?_ _ | refine Below.setCell ?_ ?_ _) | go_size))))) (fun hHeld => ?_)
                          clear hK K
                          (try simp only [List.getElem_toArray, List.getElem_cons_zero, List.getElem_cons_succ, Act.put, List.setIfInBounds_toArray, List.set_cons_zero, List.set_cons_succ])
                          refine wpAnyH_take (i := 28) (v := ?_) rfl (by kernel_rfl) (by kernel_rfl) (by kernel_rfl) (fun _ _ _ h => h) (Or.inl ⟨by rfl, ?_⟩) hHeld ?_
                          rotate_left
                          · intro w hSw; (try dsimp only at hSw); go_simp; (try with_reducible rfl)
                          (try simp only [List.getElem_toArray, List.getElem_cons_zero, List.getElem_cons_succ, Act.put, List.setIfInBounds_toArray, List.set_cons_zero, List.set_cons_succ])
                          refine wpAnyH_done (by kernel_rfl) ?_ _
                          go_wp2
                          go_roundw
                          case rel => exact ⟨m + 1, b, by omega, by go_num, rfl, (by rw [HAX.out]; cases b <;> rfl), HVz.out.up (by repeat' (first | (with_reducible exact Below.refl _ _) | (with_reducible assumption) | (with_reducible refine below_over ?_ _ _) | (with_reducible refine Lw.below_alloc ?_ _) | (with_reducible refine Below.drew ?_) | (with_reducible refine below_drewN ?_ _) | (with_reducible exact below_sgrow _ _ _) | (with_reducible refine Below.setCell ?_ ?_ _) | go_size))⟩
                          case measure => simp [intOf]; omega
                        | true =>
                          cases b2 with
                          | false =>
                            as_aux_lemma =>
                            go_upto_region 21 with fail
                            refine wp_region_held_drew (S := (fun w' => w'.cell? ⟨g5, o5, none⟩ = some (.int .i64 (LK : Int)) ∧ w'.cell? ⟨g5, o5 + 1, none⟩ = some (.int .u64 (IK : Int)) ∧ w'.cell? ⟨g7, o7, none⟩ = some (.int .i64 (LY : Int)) ∧ w'.cell? ⟨g7, o7 + 1, none⟩ = some (.int .u64 (IY : Int)) ∧ w'.cell? ⟨g4, o4, none⟩ = some (.int .i64 (v : Int)) ∧ w'.cell? ⟨g4, o4 + 1, none⟩ = some (.int .u64 (IX : Int)))) (by kernel_rfl) (by (first | (refine ⟨?_, ?_, ?_, ?_, ?_, ?_⟩ <;> (first | (with_reducible assumption) | (with_reducible refine cell_up s0 ?_) | (with_reducible refine cell_up s1 ?_) | (with_reducible refine cell_up t0 ?_) | (with_reducible refine cell_up t1 ?_) | (with_reducible refine cell_up v0 ?_) | (with_reducible refine cell_up v1 ?_)) <;> (repeat' (first | (with_reducible first | exact Below.refl _ _ | assumption | refine below_over ?_ _ _ | refine Lw.below_alloc ?_ _ | refine Below.drew ?_ | refine below_drewN ?_ _ | refine Below.setCell ?_ ?_ _) | go_size))))) (fun hHeld => ?_)
                            refine wpAnyH_take (i := 0) (v := ?_) rfl (by kernel_rfl) (by kernel_rfl) (by kernel_rfl) (fun _ _ _ h => h) (Or.inl ⟨by rfl, ?_⟩) hHeld ?_
                            rotate_left
                            · intro w hSw; (try dsimp only at hSw); go_simp; (try with_reducible rfl)
                            (try simp only [List.getElem_toArray, List.getElem_cons_zero, List.getElem_cons_succ, Act.put, List.setIfInBounds_toArray, List.set_cons_zero, List.set_cons_succ])
                            refine wpAnyH_take (i := 1) (v := ?_) rfl (by kernel_rfl) (by kernel_rfl) (by kernel_rfl) (fun _ _ _ h => h) (Or.inl ⟨by rfl, ?_⟩) hHeld ?_
                            rotate_left
                            · intro w hSw; (try dsimp only at hSw); go_simp; (try with_reducible rfl)
                            (try simp only [List.getElem_toArray, List.getElem_cons_zero, List.getElem_cons_succ, Act.put, List.setIfInBounds_toArray, List.set_cons_zero, List.set_cons_succ])
                            refine wpAnyH_take (i := 2) (v := ?_) rfl (by kernel_rfl) (by kernel_rfl) (by kernel_rfl) (fun _ _ _ h => h) (Or.inl ⟨by rfl, ?_⟩) hHeld ?_
                            rotate_left
                            · intro w hSw; (try dsimp only at hSw); go_simp; (try with_reducible rfl)
                            (try simp only [List.getElem_toArray, List.getElem_cons_zero, List.getElem_cons_succ, Act.put, List.setIfInBounds_toArray, List.set_cons_zero, List.set_cons_succ])
                            refine wpAnyH_take (i := 3) (v := ?_) rfl (by kernel_rfl) (by kernel_rfl) (by kernel_rfl) (fun _ _ _ h => h) (Or.inl ⟨by rfl, ?_⟩) hHeld ?_
                            rotate_left
                            · intro w hSw; (try dsimp only at hSw); go_simp; (try with_reducible rfl)
                            (try simp only [List.getElem_toArray, List.getElem_cons_zero, List.getElem_cons_succ, Act.put, List.setIfInBounds_toArray, List.set_cons_zero, List.set_cons_succ])
                            refine wpAnyH_take (i := 4) (v := ?_) rfl (by kernel_rfl) (by kernel_rfl) (by kernel_rfl) (fun _ _ _ h => h) (Or.inl ⟨by rfl, ?_⟩) hHeld ?_
                            rotate_left
                            · intro w hSw; (try dsimp only at hSw); go_simp; (try with_reducible rfl)
                            (try simp only [List.getElem_toArray, List.getElem_cons_zero, List.getElem_cons_succ, Act.put, List.setIfInBounds_toArray, List.set_cons_zero, List.set_cons_succ])
                            refine wpAnyH_take (i := 5) (v := ?_) rfl (by kernel_rfl) (by kernel_rfl) (by kernel_rfl) (fun _ _ _ h => h) (Or.inl ⟨by rfl, ?_⟩) hHeld ?_
                            rotate_left
                            · intro w hSw; (try dsimp only at hSw); go_simp; (try with_reducible rfl)
                            (try simp only [List.getElem_toArray, List.getElem_cons_zero, List.getElem_cons_succ, Act.put, List.setIfInBounds_toArray, List.set_cons_zero, List.set_cons_succ])
                            refine wpAnyH_take (i := 6) (v := ?_) rfl (by kernel_rfl) (by kernel_rfl) (by kernel_rfl) (fun _ _ _ h => h) (Or.inl ⟨by rfl, ?_⟩) hHeld ?_
                            rotate_left
                            · intro w hSw; (try dsimp only at hSw); go_simp; (try with_reducible rfl)
                            (try simp only [List.getElem_toArray, List.getElem_cons_zero, List.getElem_cons_succ, Act.put, List.setIfInBounds_toArray, List.set_cons_zero, List.set_cons_succ])
                            refine wpAnyH_take (i := 7) (v := ?_) rfl (by kernel_rfl) (by kernel_rfl) (by kernel_rfl) (fun _ _ _ h => h) (Or.inl ⟨by rfl, ?_⟩) hHeld ?_
                            rotate_left
                            · intro w hSw; (try dsimp only at hSw); go_simp; (try with_reducible rfl)
                            (try simp only [List.getElem_toArray, List.getElem_cons_zero, List.getElem_cons_succ, Act.put, List.setIfInBounds_toArray, List.set_cons_zero, List.set_cons_succ])
                            refine wpAnyH_take (i := 8) (v := ?_) rfl (by kernel_rfl) (by kernel_rfl) (by kernel_rfl) (fun _ _ _ h => h) (Or.inl ⟨by rfl, ?_⟩) hHeld ?_
                            rotate_left
                            · intro w hSw; (try dsimp only at hSw); go_simp; (try with_reducible rfl)
                            (try simp only [List.getElem_toArray, List.getElem_cons_zero, List.getElem_cons_succ, Act.put, List.setIfInBounds_toArray, List.set_cons_zero, List.set_cons_succ])
                            refine wpAnyH_take (i := 9) (v := ?_) rfl (by kernel_rfl) (by kernel_rfl) (by kernel_rfl) (fun _ _ _ h => h) (Or.inl ⟨by rfl, ?_⟩) hHeld ?_
                            rotate_left
                            · intro w hSw; (try dsimp only at hSw); go_simp; (try with_reducible rfl)
                            (try simp only [List.getElem_toArray, List.getElem_cons_zero, List.getElem_cons_succ, Act.put, List.setIfInBounds_toArray, List.set_cons_zero, List.set_cons_succ])
                            refine wpAnyH_take (i := 10) (v := ?_) rfl (by kernel_rfl) (by kernel_rfl) (by kernel_rfl) (fun _ _ _ h => h) (Or.inl ⟨by rfl, ?_⟩) hHeld ?_
                            rotate_left
                            · intro w hSw; (try dsimp only at hSw); go_simp; (try with_reducible rfl)
                            (try simp only [List.getElem_toArray, List.getElem_cons_zero, List.getElem_cons_succ, Act.put, List.setIfInBounds_toArray, List.set_cons_zero, List.set_cons_succ])
                            refine wpAnyH_take (i := 11) (v := ?_) rfl (by kernel_rfl) (by kernel_rfl) (by kernel_rfl) (fun _ _ _ h => h) (Or.inl ⟨by rfl, ?_⟩) hHeld ?_
                            rotate_left
                            · intro w hSw; (try dsimp only at hSw); go_simp; (try with_reducible rfl)
                            (try simp only [List.getElem_toArray, List.getElem_cons_zero, List.getElem_cons_succ, Act.put, List.setIfInBounds_toArray, List.set_cons_zero, List.set_cons_succ])
                            refine wpAnyH_take (i := 12) (v := ?_) rfl (by kernel_rfl) (by kernel_rfl) (by kernel_rfl) (fun _ _ _ h => h) (Or.inl ⟨by rfl, ?_⟩) hHeld ?_
                            rotate_left
                            · intro w hSw; (try dsimp only at hSw); go_simp; (try with_reducible rfl)
                            (try simp only [List.getElem_toArray, List.getElem_cons_zero, List.getElem_cons_succ, Act.put, List.setIfInBounds_toArray, List.set_cons_zero, List.set_cons_succ])
                            refine wpAnyH_take (i := 13) (v := ?_) rfl (by kernel_rfl) (by kernel_rfl) (by kernel_rfl) (fun _ _ _ h => h) (Or.inl ⟨by rfl, ?_⟩) hHeld ?_
                            rotate_left
                            · intro w hSw; (try dsimp only at hSw); go_simp; (try with_reducible rfl)
                            (try simp only [List.getElem_toArray, List.getElem_cons_zero, List.getElem_cons_succ, Act.put, List.setIfInBounds_toArray, List.set_cons_zero, List.set_cons_succ])
                            refine wpAnyH_ready (rs := [14]) (by kernel_rfl) (by simp) ?_
                            refine AllReadyH.cons rfl (fun K hK => ?_) AllReadyH.nil
                            go_simp
                            (first | (go_at_call 59; (with_reducible refine (CI1.out _).mono ?_); rintro e w' ⟨rfl, hb⟩; obtain ⟨bs1, d1, rfl⟩ := below_grow hb; clear hb) | (go_at_call 59; (with_reducible refine (CI2.out _).mono ?_); rintro e w' ⟨rfl, hb⟩; obtain ⟨bs2, d2, rfl⟩ := below_grow hb; clear hb))
                            refine hK.out _ _ (by (first | (refine ⟨?_, ?_, ?_, ?_, ?_, ?_⟩ <;> (first | (with_reducible assumption) | (with_reducible refine cell_up s0 ?_) | (with_reducible refine cell_up s1 ?_) | (with_reducible refine cell_up t0 ?_) | (with_reducible refine cell_up t1 ?_) | (with_reducible refine cell_up v0 ?_) | (with_reducible refine cell_up v1 ?_)) <;> (repeat' (first | (with_reducible first | exact Below.refl _ _ | assumption | refine below_over ?_ _ _ | refine Lw.below_alloc ?_ _ | refine Below.drew ?_ | refine below_drewN ?_ _ | refine Below.setCell ?_ ?_ _) | go_size))))) (fun hHeld => ?_)
                            clear hK K
                            (try simp only [List.getElem_toArray, List.getElem_cons_zero, List.getElem_cons_succ, Act.put, List.setIfInBounds_toArray, List.set_cons_zero, List.set_cons_succ])
                            refine wpAnyH_take (i := 15) (v := ?_) rfl (by kernel_rfl) (by kernel_rfl) (by kernel_rfl) (fun _ _ _ h => h) (Or.inl ⟨by rfl, ?_⟩) hHeld ?_
                            rotate_left
                            · intro w hSw; (try dsimp only at hSw); go_simp; (try with_reducible rfl)
                            (try simp only [List.getElem_toArray, List.getElem_cons_zero, List.getElem_cons_succ, Act.put, List.setIfInBounds_toArray, List.set_cons_zero, List.set_cons_succ])
                            refine wpAnyH_take (i := 16) (v := ?_) rfl (by kernel_rfl) (by kernel_rfl) (by kernel_rfl) (fun _ _ _ h => h) (Or.inl ⟨by rfl, ?_⟩) hHeld ?_
                            rotate_left
                            · intro w hSw; (try dsimp only at hSw); go_simp; (try with_reducible rfl)
                            (try simp only [List.getElem_toArray, List.getElem_cons_zero, List.getElem_cons_succ, Act.put, List.setIfInBounds_toArray, List.set_cons_zero, List.set_cons_succ])
                            refine wpAnyH_take (i := 17) (v := ?_) rfl (by kernel_rfl) (by kernel_rfl) (by kernel_rfl) (fun _ _ _ h => h) (Or.inl ⟨by rfl, ?_⟩) hHeld ?_
                            rotate_left
                            · intro w hSw; (try dsimp only at hSw); go_simp; (try with_reducible rfl)
                            (try simp only [List.getElem_toArray, List.getElem_cons_zero, List.getElem_cons_succ, Act.put, List.setIfInBounds_toArray, List.set_cons_zero, List.set_cons_succ])
                            refine wpAnyH_take (i := 18) (v := ?_) rfl (by kernel_rfl) (by kernel_rfl) (by kernel_rfl) (fun _ _ _ h => h) (Or.inl ⟨by rfl, ?_⟩) hHeld ?_
                            rotate_left
                            · intro w hSw; (try dsimp only at hSw); go_simp; (try with_reducible rfl)
                            (try simp only [List.getElem_toArray, List.getElem_cons_zero, List.getElem_cons_succ, Act.put, List.setIfInBounds_toArray, List.set_cons_zero, List.set_cons_succ])
                            refine wpAnyH_take (i := 19) (v := ?_) rfl (by kernel_rfl) (by kernel_rfl) (by kernel_rfl) (fun _ _ _ h => h) (Or.inl ⟨by rfl, ?_⟩) hHeld ?_
                            rotate_left
                            · intro w hSw; (try dsimp only at hSw); go_simp; (try with_reducible rfl)
                            (try simp only [List.getElem_toArray, List.getElem_cons_zero, List.getElem_cons_succ, Act.put, List.setIfInBounds_toArray, List.set_cons_zero, List.set_cons_succ])
                            refine wpAnyH_take (i := 20) (v := ?_) rfl (by kernel_rfl) (by kernel_rfl) (by kernel_rfl) (fun _ _ _ h => h) (Or.inl ⟨by rfl, ?_⟩) hHeld ?_
                            rotate_left
                            · intro w hSw; (try dsimp only at hSw); go_simp; (try with_reducible rfl)
                            (try simp only [List.getElem_toArray, List.getElem_cons_zero, List.getElem_cons_succ, Act.put, List.setIfInBounds_toArray, List.set_cons_zero, List.set_cons_succ])
                            refine wpAnyH_take (i := 21) (v := ?_) rfl (by kernel_rfl) (by kernel_rfl) (by kernel_rfl) (fun _ _ _ h => h) (Or.inl ⟨by rfl, ?_⟩) hHeld ?_
                            rotate_left
                            · intro w hSw; (try dsimp only at hSw); go_simp; (try with_reducible rfl)
                            (try simp only [List.getElem_toArray, List.getElem_cons_zero, List.getElem_cons_succ, Act.put, List.setIfInBounds_toArray, List.set_cons_zero, List.set_cons_succ])
                            refine wpAnyH_take (i := 22) (v := ?_) rfl (by kernel_rfl) (by kernel_rfl) (by kernel_rfl) (fun _ _ _ h => h) (Or.inl ⟨by rfl, ?_⟩) hHeld ?_
                            rotate_left
                            · intro w hSw; (try dsimp only at hSw); go_simp; (try with_reducible rfl)
                            (try simp only [List.getElem_toArray, List.getElem_cons_zero, List.getElem_cons_succ, Act.put, List.setIfInBounds_toArray, List.set_cons_zero, List.set_cons_succ])
                            refine wpAnyH_take (i := 23) (v := ?_) rfl (by kernel_rfl) (by kernel_rfl) (by kernel_rfl) (fun _ _ _ h => h) (Or.inl ⟨by rfl, ?_⟩) hHeld ?_
                            rotate_left
                            · intro w hSw; (try dsimp only at hSw); go_simp; (try with_reducible rfl)
                            (try simp only [List.getElem_toArray, List.getElem_cons_zero, List.getElem_cons_succ, Act.put, List.setIfInBounds_toArray, List.set_cons_zero, List.set_cons_succ])
                            refine wpAnyH_take (i := 24) (v := ?_) rfl (by kernel_rfl) (by kernel_rfl) (by kernel_rfl) (fun _ _ _ h => h) (Or.inl ⟨by rfl, ?_⟩) hHeld ?_
                            rotate_left
                            · intro w hSw; (try dsimp only at hSw); go_simp; (try with_reducible rfl)
                            (try simp only [List.getElem_toArray, List.getElem_cons_zero, List.getElem_cons_succ, Act.put, List.setIfInBounds_toArray, List.set_cons_zero, List.set_cons_succ])
                            refine wpAnyH_take (i := 25) (v := ?_) rfl (by kernel_rfl) (by kernel_rfl) (by kernel_rfl) (fun _ _ _ h => h) (Or.inl ⟨by rfl, ?_⟩) hHeld ?_
                            rotate_left
                            · intro w hSw; (try dsimp only at hSw); go_simp; (try with_reducible rfl)
                            (try simp only [List.getElem_toArray, List.getElem_cons_zero, List.getElem_cons_succ, Act.put, List.setIfInBounds_toArray, List.set_cons_zero, List.set_cons_succ])
                            refine wpAnyH_take (i := 26) (v := ?_) rfl (by kernel_rfl) (by kernel_rfl) (by kernel_rfl) (fun _ _ _ h => h) (Or.inl ⟨by rfl, ?_⟩) hHeld ?_
                            rotate_left
                            · intro w hSw; (try dsimp only at hSw); go_simp; (try with_reducible rfl)
                            (try simp only [List.getElem_toArray, List.getElem_cons_zero, List.getElem_cons_succ, Act.put, List.setIfInBounds_toArray, List.set_cons_zero, List.set_cons_succ])
                            refine wpAnyH_ready (rs := [27]) (by kernel_rfl) (by simp) ?_
                            refine AllReadyH.cons rfl (fun K hK => ?_) AllReadyH.nil
                            go_simp
                            (first | (go_at_call 59; (with_reducible refine (CI1.out _).mono ?_); rintro e w' ⟨rfl, hb⟩; obtain ⟨bs1, d1, rfl⟩ := below_grow hb; clear hb) | (go_at_call 59; (with_reducible refine (CI2.out _).mono ?_); rintro e w' ⟨rfl, hb⟩; obtain ⟨bs2, d2, rfl⟩ := below_grow hb; clear hb))
                            refine hK.out _ _ (by (first | (refine ⟨?_, ?_, ?_, ?_, ?_, ?_⟩ <;> (first | (with_reducible assumption) | (with_reducible refine cell_up s0 ?_) | (with_reducible refine cell_up s1 ?_) | (with_reducible refine cell_up t0 ?_) | (with_reducible refine cell_up t1 ?_) | (with_reducible refine cell_up v0 ?_) | (with_reducible refine cell_up v1 ?_)) <;> (repeat' (first | (with_reducible first | exact Below.refl _ _ | assumption | refine below_over ?_ _ _ | refine Lw.below_alloc ?_ _ | refine Below.drew ?_ | refine below_drewN ?_ _ | refine Below.setCell ?_ ?_ _) | go_size))))) (fun hHeld => ?_)
                            clear hK K
                            (try simp only [List.getElem_toArray, List.getElem_cons_zero, List.getElem_cons_succ, Act.put, List.setIfInBounds_toArray, List.set_cons_zero, List.set_cons_succ])
                            refine wpAnyH_take (i := 28) (v := ?_) rfl (by kernel_rfl) (by kernel_rfl) (by kernel_rfl) (fun _ _ _ h => h) (Or.inl ⟨by rfl, ?_⟩) hHeld ?_
                            rotate_left
                            · intro w hSw; (try dsimp only at hSw); go_simp; (try with_reducible rfl)
                            (try simp only [List.getElem_toArray, List.getElem_cons_zero, List.getElem_cons_succ, Act.put, List.setIfInBounds_toArray, List.set_cons_zero, List.set_cons_succ])
                            refine wpAnyH_done (by kernel_rfl) ?_ _
                            go_wp2
                            go_roundw
                            case rel => exact ⟨m + 1, b, by omega, by go_num, rfl, (by rw [HAX.out]; cases b <;> rfl), HVz.out.up (by repeat' (first | (with_reducible exact Below.refl _ _) | (with_reducible assumption) | (with_reducible refine below_over ?_ _ _) | (with_reducible refine Lw.below_alloc ?_ _) | (with_reducible refine Below.drew ?_) | (with_reducible refine below_drewN ?_ _) | (with_reducible exact below_sgrow _ _ _) | (with_reducible refine Below.setCell ?_ ?_ _) | go_size))⟩
                            case measure => simp [intOf]; omega
                          | true =>
                            as_aux_lemma =>
                            go_upto_region 21 with fail
                            refine wp_region_held_drew (S := (fun w' => w'.cell? ⟨g5, o5, none⟩ = some (.int .i64 (LK : Int)) ∧ w'.cell? ⟨g5, o5 + 1, none⟩ = some (.int .u64 (IK : Int)) ∧ w'.cell? ⟨g7, o7, none⟩ = some (.int .i64 (LY : Int)) ∧ w'.cell? ⟨g7, o7 + 1, none⟩ = some (.int .u64 (IY : Int)) ∧ w'.cell? ⟨g4, o4, none⟩ = some (.int .i64 (v : Int)) ∧ w'.cell? ⟨g4, o4 + 1, none⟩ = some (.int .u64 (IX : Int)))) (by kernel_rfl) (by (first | (refine ⟨?_, ?_, ?_, ?_, ?_, ?_⟩ <;> (first | (with_reducible assumption) | (with_reducible refine cell_up s0 ?_) | (with_reducible refine cell_up s1 ?_) | (with_reducible refine cell_up t0 ?_) | (with_reducible refine cell_up t1 ?_) | (with_reducible refine cell_up v0 ?_) | (with_reducible refine cell_up v1 ?_)) <;> (repeat' (first | (with_reducible first | exact Below.refl _ _ | assumption | refine below_over ?_ _ _ | refine Lw.below_alloc ?_ _ | refine Below.drew ?_ | refine below_drewN ?_ _ | refine Below.setCell ?_ ?_ _) | go_size))))) (fun hHeld => ?_)
                            refine wpAnyH_take (i := 0) (v := ?_) rfl (by kernel_rfl) (by kernel_rfl) (by kernel_rfl) (fun _ _ _ h => h) (Or.inl ⟨by rfl, ?_⟩) hHeld ?_
                            rotate_left
                            · intro w hSw; (try dsimp only at hSw); go_simp; (try with_reducible rfl)
                            (try simp only [List.getElem_toArray, List.getElem_cons_zero, List.getElem_cons_succ, Act.put, List.setIfInBounds_toArray, List.set_cons_zero, List.set_cons_succ])
                            refine wpAnyH_take (i := 1) (v := ?_) rfl (by kernel_rfl) (by kernel_rfl) (by kernel_rfl) (fun _ _ _ h => h) (Or.inl ⟨by rfl, ?_⟩) hHeld ?_
                            rotate_left
                            · intro w hSw; (try dsimp only at hSw); go_simp; (try with_reducible rfl)
                            (try simp only [List.getElem_toArray, List.getElem_cons_zero, List.getElem_cons_succ, Act.put, List.setIfInBounds_toArray, List.set_cons_zero, List.set_cons_succ])
                            refine wpAnyH_take (i := 2) (v := ?_) rfl (by kernel_rfl) (by kernel_rfl) (by kernel_rfl) (fun _ _ _ h => h) (Or.inl ⟨by rfl, ?_⟩) hHeld ?_
                            rotate_left
                            · intro w hSw; (try dsimp only at hSw); go_simp; (try with_reducible rfl)
                            (try simp only [List.getElem_toArray, List.getElem_cons_zero, List.getElem_cons_succ, Act.put, List.setIfInBounds_toArray, List.set_cons_zero, List.set_cons_succ])
                            refine wpAnyH_take (i := 3) (v := ?_) rfl (by kernel_rfl) (by kernel_rfl) (by kernel_rfl) (fun _ _ _ h => h) (Or.inl ⟨by rfl, ?_⟩) hHeld ?_
                            rotate_left
                            · intro w hSw; (try dsimp only at hSw); go_simp; (try with_reducible rfl)
                            (try simp only [List.getElem_toArray, List.getElem_cons_zero, List.getElem_cons_succ, Act.put, List.setIfInBounds_toArray, List.set_cons_zero, List.set_cons_succ])
                            refine wpAnyH_take (i := 4) (v := ?_) rfl (by kernel_rfl) (by kernel_rfl) (by kernel_rfl) (fun _ _ _ h => h) (Or.inl ⟨by rfl, ?_⟩) hHeld ?_
                            rotate_left
                            · intro w hSw; (try dsimp only at hSw); go_simp; (try with_reducible rfl)
                            (try simp only [List.getElem_toArray, List.getElem_cons_zero, List.getElem_cons_succ, Act.put, List.setIfInBounds_toArray, List.set_cons_zero, List.set_cons_succ])
                            refine wpAnyH_take (i := 5) (v := ?_) rfl (by kernel_rfl) (by kernel_rfl) (by kernel_rfl) (fun _ _ _ h => h) (Or.inl ⟨by rfl, ?_⟩) hHeld ?_
                            rotate_left
                            · intro w hSw; (try dsimp only at hSw); go_simp; (try with_reducible rfl)
                            (try simp only [List.getElem_toArray, List.getElem_cons_zero, List.getElem_cons_succ, Act.put, List.setIfInBounds_toArray, List.set_cons_zero, List.set_cons_succ])
                            refine wpAnyH_take (i := 6) (v := ?_) rfl (by kernel_rfl) (by kernel_rfl) (by kernel_rfl) (fun _ _ _ h => h) (Or.inl ⟨by rfl, ?_⟩) hHeld ?_
                            rotate_left
                            · intro w hSw; (try dsimp only at hSw); go_simp; (try with_reducible rfl)
                            (try simp only [List.getElem_toArray, List.getElem_cons_zero, List.getElem_cons_succ, Act.put, List.setIfInBounds_toArray, List.set_cons_zero, List.set_cons_succ])
                            refine wpAnyH_take (i := 7) (v := ?_) rfl (by kernel_rfl) (by kernel_rfl) (by kernel_rfl) (fun _ _ _ h => h) (Or.inl ⟨by rfl, ?_⟩) hHeld ?_
                            rotate_left
                            · intro w hSw; (try dsimp only at hSw); go_simp; (try with_reducible rfl)
                            (try simp only [List.getElem_toArray, List.getElem_cons_zero, List.getElem_cons_succ, Act.put, List.setIfInBounds_toArray, List.set_cons_zero, List.set_cons_succ])
                            refine wpAnyH_take (i := 8) (v := ?_) rfl (by kernel_rfl) (by kernel_rfl) (by kernel_rfl) (fun _ _ _ h => h) (Or.inl ⟨by rfl, ?_⟩) hHeld ?_
                            rotate_left
                            · intro w hSw; (try dsimp only at hSw); go_simp; (try with_reducible rfl)
                            (try simp only [List.getElem_toArray, List.getElem_cons_zero, List.getElem_cons_succ, Act.put, List.setIfInBounds_toArray, List.set_cons_zero, List.set_cons_succ])
                            refine wpAnyH_take (i := 9) (v := ?_) rfl (by kernel_rfl) (by kernel_rfl) (by kernel_rfl) (fun _ _ _ h => h) (Or.inl ⟨by rfl, ?_⟩) hHeld ?_
                            rotate_left
                            · intro w hSw; (try dsimp only at hSw); go_simp; (try with_reducible rfl)
                            (try simp only [List.getElem_toArray, List.getElem_cons_zero, List.getElem_cons_succ, Act.put, List.setIfInBounds_toArray, List.set_cons_zero, List.set_cons_succ])
                            refine wpAnyH_take (i := 10) (v := ?_) rfl (by kernel_rfl) (by kernel_rfl) (by kernel_rfl) (fun _ _ _ h => h) (Or.inl ⟨by rfl, ?_⟩) hHeld ?_
                            rotate_left
                            · intro w hSw; (try dsimp only at hSw); go_simp; (try with_reducible rfl)
                            (try simp only [List.getElem_toArray, List.getElem_cons_zero, List.getElem_cons_succ, Act.put, List.setIfInBounds_toArray, List.set_cons_zero, List.set_cons_succ])
                            refine wpAnyH_take (i := 11) (v := ?_) rfl (by kernel_rfl) (by kernel_rfl) (by kernel_rfl) (fun _ _ _ h => h) (Or.inl ⟨by rfl, ?_⟩) hHeld ?_
                            rotate_left
                            · intro w hSw; (try dsimp only at hSw); go_simp; (try with_reducible rfl)
                            (try simp only [List.getElem_toArray, List.getElem_cons_zero, List.getElem_cons_succ, Act.put, List.setIfInBounds_toArray, List.set_cons_zero, List.set_cons_succ])
                            refine wpAnyH_take (i := 12) (v := ?_) rfl (by kernel_rfl) (by kernel_rfl) (by kernel_rfl) (fun _ _ _ h => h) (Or.inl ⟨by rfl, ?_⟩) hHeld ?_
                            rotate_left
                            · intro w hSw; (try dsimp only at hSw); go_simp; (try with_reducible rfl)
                            (try simp only [List.getElem_toArray, List.getElem_cons_zero, List.getElem_cons_succ, Act.put, List.setIfInBounds_toArray, List.set_cons_zero, List.set_cons_succ])
                            refine wpAnyH_take (i := 13) (v := ?_) rfl (by kernel_rfl) (by kernel_rfl) (by kernel_rfl) (fun _ _ _ h => h) (Or.inl ⟨by rfl, ?_⟩) hHeld ?_
                            rotate_left
                            · intro w hSw; (try dsimp only at hSw); go_simp; (try with_reducible rfl)
                            (try simp only [List.getElem_toArray, List.getElem_cons_zero, List.getElem_cons_succ, Act.put, List.setIfInBounds_toArray, List.set_cons_zero, List.set_cons_succ])
                            refine wpAnyH_ready (rs := [14]) (by kernel_rfl) (by simp) ?_
                            refine AllReadyH.cons rfl (fun K hK => ?_) AllReadyH.nil
                            go_simp
                            (first | (go_at_call 59; (with_reducible refine (CI1.out _).mono ?_); rintro e w' ⟨rfl, hb⟩; obtain ⟨bs1, d1, rfl⟩ := below_grow hb; clear hb) | (go_at_call 59; (with_reducible refine (CI2.out _).mono ?_); rintro e w' ⟨rfl, hb⟩; obtain ⟨bs2, d2, rfl⟩ := below_grow hb; clear hb))
                            refine hK.out _ _ (by (first | (refine ⟨?_, ?_, ?_, ?_, ?_, ?_⟩ <;> (first | (with_reducible assumption) | (with_reducible refine cell_up s0 ?_) | (with_reducible refine cell_up s1 ?_) | (with_reducible refine cell_up t0 ?_) | (with_reducible refine cell_up t1 ?_) | (with_reducible refine cell_up v0 ?_) | (with_reducible refine cell_up v1 ?_)) <;> (repeat' (first | (with_reducible first | exact Below.refl _ _ | assumption | refine below_over ?_ _ _ | refine Lw.below_alloc ?_ _ | refine Below.drew ?_ | refine below_drewN ?_ _ | refine Below.setCell ?_ ?_ _) | go_size))))) (fun hHeld => ?_)
                            clear hK K
                            (try simp only [List.getElem_toArray, List.getElem_cons_zero, List.getElem_cons_succ, Act.put, List.setIfInBounds_toArray, List.set_cons_zero, List.set_cons_succ])
                            refine wpAnyH_take (i := 15) (v := ?_) rfl (by kernel_rfl) (by kernel_rfl) (by kernel_rfl) (fun _ _ _ h => h) (Or.inl ⟨by rfl, ?_⟩) hHeld ?_
                            rotate_left
                            · intro w hSw; (try dsimp only at hSw); go_simp; (try with_reducible rfl)
                            (try simp only [List.getElem_toArray, List.getElem_cons_zero, List.getElem_cons_succ, Act.put, List.setIfInBounds_toArray, List.set_cons_zero, List.set_cons_succ])
                            refine wpAnyH_take (i := 16) (v := ?_) rfl (by kernel_rfl) (by kernel_rfl) (by kernel_rfl) (fun _ _ _ h => h) (Or.inl ⟨by rfl, ?_⟩) hHeld ?_
                            rotate_left
                            · intro w hSw; (try dsimp only at hSw); go_simp; (try with_reducible rfl)
                            (try simp only [List.getElem_toArray, List.getElem_cons_zero, List.getElem_cons_succ, Act.put, List.setIfInBounds_toArray, List.set_cons_zero, List.set_cons_succ])
                            refine wpAnyH_take (i := 17) (v := ?_) rfl (by kernel_rfl) (by kernel_rfl) (by kernel_rfl) (fun _ _ _ h => h) (Or.inl ⟨by rfl, ?_⟩) hHeld ?_
                            rotate_left
                            · intro w hSw; (try dsimp only at hSw); go_simp; (try with_reducible rfl)
                            (try simp only [List.getElem_toArray, List.getElem_cons_zero, List.getElem_cons_succ, Act.put, List.setIfInBounds_toArray, List.set_cons_zero, List.set_cons_succ])
                            refine wpAnyH_take (i := 18) (v := ?_) rfl (by kernel_rfl) (by kernel_rfl) (by kernel_rfl) (fun _ _ _ h => h) (Or.inl ⟨by rfl, ?_⟩) hHeld ?_
                            rotate_left
                            · intro w hSw; (try dsimp only at hSw); go_simp; (try with_reducible rfl)
                            (try simp only [List.getElem_toArray, List.getElem_cons_zero, List.getElem_cons_succ, Act.put, List.setIfInBounds_toArray, List.set_cons_zero, List.set_cons_succ])
                            refine wpAnyH_take (i := 19) (v := ?_) rfl (by kernel_rfl) (by kernel_rfl) (by kernel_rfl) (fun _ _ _ h => h) (Or.inl ⟨by rfl, ?_⟩) hHeld ?_
                            rotate_left
                            · intro w hSw; (try dsimp only at hSw); go_simp; (try with_reducible rfl)
                            (try simp only [List.getElem_toArray, List.getElem_cons_zero, List.getElem_cons_succ, Act.put, List.setIfInBounds_toArray, List.set_cons_zero, List.set_cons_succ])
                            refine wpAnyH_take (i := 20) (v := ?_) rfl (by kernel_rfl) (by kernel_rfl) (by kernel_rfl) (fun _ _ _ h => h) (Or.inl ⟨by rfl, ?_⟩) hHeld ?_
                            rotate_left
                            · intro w hSw; (try dsimp only at hSw); go_simp; (try with_reducible rfl)
                            (try simp only [List.getElem_toArray, List.getElem_cons_zero, List.getElem_cons_succ, Act.put, List.setIfInBounds_toArray, List.set_cons_zero, List.set_cons_succ])
                            refine wpAnyH_take (i := 21) (v := ?_) rfl (by kernel_rfl) (by kernel_rfl) (by kernel_rfl) (fun _ _ _ h => h) (Or.inl ⟨by rfl, ?_⟩) hHeld ?_
                            rotate_left
                            · intro w hSw; (try dsimp only at hSw); go_simp; (try with_reducible rfl)
                            (try simp only [List.getElem_toArray, List.getElem_cons_zero, List.getElem_cons_succ, Act.put, List.setIfInBounds_toArray, List.set_cons_zero, List.set_cons_succ])
                            refine wpAnyH_take (i := 22) (v := ?_) rfl (by kernel_rfl) (by kernel_rfl) (by kernel_rfl) (fun _ _ _ h => h) (Or.inl ⟨by rfl, ?_⟩) hHeld ?_
                            rotate_left
                            · intro w hSw; (try dsimp only at hSw); go_simp; (try with_reducible rfl)
                            (try simp only [List.getElem_toArray, List.getElem_cons_zero, List.getElem_cons_succ, Act.put, List.setIfInBounds_toArray, List.set_cons_zero, List.set_cons_succ])
                            refine wpAnyH_take (i := 23) (v := ?_) rfl (by kernel_rfl) (by kernel_rfl) (by kernel_rfl) (fun _ _ _ h => h) (Or.inl ⟨by rfl, ?_⟩) hHeld ?_
                            rotate_left
                            · intro w hSw; (try dsimp only at hSw); go_simp; (try with_reducible rfl)
                            (try simp only [List.getElem_toArray, List.getElem_cons_zero, List.getElem_cons_succ, Act.put, List.setIfInBounds_toArray, List.set_cons_zero, List.set_cons_succ])
                            refine wpAnyH_take (i := 24) (v := ?_) rfl (by kernel_rfl) (by kernel_rfl) (by kernel_rfl) (fun _ _ _ h => h) (Or.inl ⟨by rfl, ?_⟩) hHeld ?_
                            rotate_left
                            · intro w hSw; (try dsimp only at hSw); go_simp; (try with_reducible rfl)
                            (try simp only [List.getElem_toArray, List.getElem_cons_zero, List.getElem_cons_succ, Act.put, List.setIfInBounds_toArray, List.set_cons_zero, List.set_cons_succ])
                            refine wpAnyH_take (i := 25) (v := ?_) rfl (by kernel_rfl) (by kernel_rfl) (by kernel_rfl) (fun _ _ _ h => h) (Or.inl ⟨by rfl, ?_⟩) hHeld ?_
                            rotate_left
                            · intro w hSw; (try dsimp only at hSw); go_simp; (try with_reducible rfl)
                            (try simp only [List.getElem_toArray, List.getElem_cons_zero, List.getElem_cons_succ, Act.put, List.setIfInBounds_toArray, List.set_cons_zero, List.set_cons_succ])
                            refine wpAnyH_take (i := 26) (v := ?_) rfl (by kernel_rfl) (by kernel_rfl) (by kernel_rfl) (fun _ _ _ h => h) (Or.inl ⟨by rfl, ?_⟩) hHeld ?_
                            rotate_left
                            · intro w hSw; (try dsimp only at hSw); go_simp; (try with_reducible rfl)
                            (try simp only [List.getElem_toArray, List.getElem_cons_zero, List.getElem_cons_succ, Act.put, List.setIfInBounds_toArray, List.set_cons_zero, List.set_cons_succ])
                            refine wpAnyH_ready (rs := [27]) (by kernel_rfl) (by simp) ?_
                            refine AllReadyH.cons rfl (fun K hK => ?_) AllReadyH.nil
                            go_simp
                            (first | (go_at_call 59; (with_reducible refine (CI1.out _).mono ?_); rintro e w' ⟨rfl, hb⟩; obtain ⟨bs1, d1, rfl⟩ := below_grow hb; clear hb) | (go_at_call 59; (with_reducible refine (CI2.out _).mono ?_); rintro e w' ⟨rfl, hb⟩; obtain ⟨bs2, d2, rfl⟩ := below_grow hb; clear hb))
                            refine hK.out _ _ (by (first | (refine ⟨?_, ?_, ?_, ?_, ?_, ?_⟩ <;> (first | (with_reducible assumption) | (with_reducible refine cell_up s0 ?_) | (with_reducible refine cell_up s1 ?_) | (with_reducible refine cell_up t0 ?_) | (with_reducible refine cell_up t1 ?_) | (with_reducible refine cell_up v0 ?_) | (with_reducible refine cell_up v1 ?_)) <;> (repeat' (first | (with_reducible first | exact Below.refl _ _ | assumption | refine below_over ?_ _ _ | refine Lw.below_alloc ?_ _ | refine Below.drew ?_ | refine below_drewN ?_ _ | refine Below.setCell ?_ ?_ _) | go_size))))) (fun hHeld => ?_)
                            clear hK K
                            (try simp only [List.getElem_toArray, List.getElem_cons_zero, List.getElem_cons_succ, Act.put, List.setIfInBounds_toArray, List.set_cons_zero, List.set_cons_succ])
                            refine wpAnyH_take (i := 28) (v := ?_) rfl (by kernel_rfl) (by kernel_rfl) (by kernel_rfl) (fun _ _ _ h => h) (Or.inl ⟨by rfl, ?_⟩) hHeld ?_
                            rotate_left
                            · intro w hSw; (try dsimp only at hSw); go_simp; (try with_reducible rfl)
                            (try simp only [List.getElem_toArray, List.getElem_cons_zero, List.getElem_cons_succ, Act.put, List.setIfInBounds_toArray, List.set_cons_zero, List.set_cons_succ])
                            refine wpAnyH_done (by kernel_rfl) ?_ _
                            go_wp2
                            go_roundw
                            case rel => exact ⟨m + 1, false, by omega, by go_num, rfl, (by rw [HAX.out]; cases b <;> rfl), HVz.out.up (by repeat' (first | (with_reducible exact Below.refl _ _) | (with_reducible assumption) | (with_reducible refine below_over ?_ _ _) | (with_reducible refine Lw.below_alloc ?_ _) | (with_reducible refine Below.drew ?_) | (with_reducible refine below_drewN ?_ _) | (with_reducible exact below_sgrow _ _ _) | (with_reducible refine Below.setCell ?_ ?_ _) | go_size))⟩
                            case measure => simp [intOf]; omega
                    · have em : m = KN := by omega
                      subst em
                      have lm1 : ¬ (m : Int) < (m : Int) := by omega
                      have hal : aloneQ K k (v, IX) = b := by
                        have h5 := HALT.out
                        rw [← HKN.out, alnQ_end] at h5
                        exact h5
                      have hwn := wsumQ_next K (v, IX) k
                      rw [hal] at hwn
                      have hnk : numK K k = NK := by unfold numK; rw [HX.out]; rfl
                      rw [hnk] at hwn
                      cases b with
                      | false =>
                        as_aux_lemma =>
                        have HWN : Hid (z = NX - wsumQ K (v, IX) (k + 1)) := Lib.hid (by rw [hwn, HZ.out]; simp)
                        clear hwn hal hnk
                        go_wp2
                        go_roundw
                        case rel => exact ⟨k + 1, z, by omega, by go_num, HWN.out, HVz.out.up (by repeat' (first | (with_reducible exact Below.refl _ _) | (with_reducible assumption) | (with_reducible refine below_over ?_ _ _) | (with_reducible refine Lw.below_alloc ?_ _) | (with_reducible refine Below.drew ?_) | (with_reducible refine below_drewN ?_ _) | (with_reducible exact below_sgrow _ _ _) | (with_reducible refine Below.setCell ?_ ?_ _) | go_size))⟩
                        case measure => simp [intOf]; omega
                      | true =>
                        as_aux_lemma =>
                        obtain ⟨z2, hz2⟩ : ∃ z2, z + -NK = z2 := ⟨_, rfl⟩
                        have HWN : Hid (z2 = NX - wsumQ K (v, IX) (k + 1)) := Lib.hid (by rw [hwn, ← hz2, HZ.out, if_pos rfl]; omega)
                        obtain ⟨s0, s1, s2, s3⟩ := quadR HSTz.out HX.out had5
                        simp only at s2
                        have CM1 := Lib.hid (fun w => Wid.rofint_any NK w nk0 nk1)
                        have CM2 := Lib.hid (fun w => Wid.rminus_any NK _ _ _ _ _ _ _ _ _ _ w rfl)
                        have CM3 := Lib.hid (fun w => Wid.rplus_any z (-NK) _ _ _ _ _ _ _ _ _ _ _ _ _ _ _ _ _ _ _ _ w rfl rfl)
                        rw [hz2] at CM3
                        have hblk : Wid.LBlk wr B13 z := HVz.out.i0
                        have hzlt := Wid.blk_lt hblk
                        have k0 := box_cell HVz.out.i0 (i := 0) rfl
                        have k1 := box_cell HVz.out.i0 (i := 1) rfl
                        have k2 := box_cell HVz.out.i0 (i := 2) rfl
                        have k3 := box_cell HVz.out.i0 (i := 3) rfl
                        have k4 := box_cell HVz.out.i0 (i := 4) rfl
                        have k5 := box_cell HVz.out.i0 (i := 5) rfl
                        have k6 := box_cell HVz.out.i0 (i := 6) rfl
                        have k7 := box_cell HVz.out.i0 (i := 7) rfl
                        have k8 := box_cell HVz.out.i0 (i := 8) rfl
                        have k9 := box_cell HVz.out.i0 (i := 9) rfl
                        have hR := box_range (e := 125) (vs := [.int .i64 (Wid.dg (z) 0), .int .i64 (Wid.dg (z) 1), .int .i64 (Wid.dg (z) 2), .int .i64 (Wid.dg (z) 3), .int .i64 (Wid.dg (z) 4), .int .i64 (Wid.dg (z) 5), .int .i64 (Wid.dg (z) 6), .int .i64 (Wid.dg (z) 7), .int .i64 (Wid.dg (z) 8), .int .i64 (Wid.dg (z) 9)]) HVz.out.i0
                        have f0 := Wid.blk_frozen hblk 0
                        have f1 := Wid.blk_frozen hblk 1
                        have f2 := Wid.blk_frozen hblk 2
                        have f3 := Wid.blk_frozen hblk 3
                        have f4 := Wid.blk_frozen hblk 4
                        have f5 := Wid.blk_frozen hblk 5
                        have f6 := Wid.blk_frozen hblk 6
                        have f7 := Wid.blk_frozen hblk 7
                        have f8 := Wid.blk_frozen hblk 8
                        have f9 := Wid.blk_frozen hblk 9
                        have gs : ∀ bs d, (grow wr bs d).cell? ⟨g5, o5 + 2, none⟩ = some (.int .i64 NK) := fun bs d => cell_up s2 (grow_below wr bs d)
                        clear hblk hwn hal hnk hz2 s0 s1 s3 nk0 nk1
                        go_upto_region 24 with fail
                        go_region_with (first
                          | (go_at_call 58; (with_reducible refine (CM1.out _).mono ?_); rintro e w' ⟨rfl, hb⟩; obtain ⟨bs, d, rfl⟩ := below_grow hb; clear hb)
                          | (go_at_call 61; (with_reducible refine (CM2.out _).mono ?_); rintro e w' ⟨rfl, hb⟩; obtain ⟨bs2, d2, rfl⟩ := below_grow hb; clear hb)
                          | (go_at_call 60; (with_reducible refine (CM3.out _).mono ?_); rintro e w' ⟨rfl, hb⟩; obtain ⟨bs3, d3, rfl⟩ := below_grow hb; clear hb))
                        all_goals go_wp2
                        all_goals go_roundw
                        all_goals first
                          | (simp [intOf]; omega)
                          | exact ⟨k + 1, z2, by omega, by go_num, HWN.out, long_put HVz.out z2 _ _⟩
                          | exact ⟨k + 1, z2, by omega, by go_num, HWN.out, (long_put HVz.out z2 _ _).up (by repeat' (first | (with_reducible exact Below.refl _ _) | (with_reducible assumption) | (with_reducible refine below_over ?_ _ _) | (with_reducible refine Lw.below_alloc ?_ _) | (with_reducible refine Below.drew ?_) | (with_reducible refine below_drewN ?_ _) | (with_reducible exact below_sgrow _ _ _) | (with_reducible refine Below.setCell ?_ ?_ _) | go_size))⟩
              · have ek : k = KN := by omega
                subst ek
                have lk1 : ¬ (k : Int) < (k : Int) := by omega
                have hze : z = restQ K ((v, IX), NX) := by
                  have h5 := HZ.out
                  rw [← HKN.out, wsumQ_end] at h5
                  exact h5
                have HZE := Lib.hid hze
                have k0 := box_cell HVk.out.i0 (i := 0) rfl
                have k1 := box_cell HVk.out.i0 (i := 1) rfl
                have k2 := box_cell HVk.out.i0 (i := 2) rfl
                have k3 := box_cell HVk.out.i0 (i := 3) rfl
                have k4 := box_cell HVk.out.i0 (i := 4) rfl
                have k5 := box_cell HVk.out.i0 (i := 5) rfl
                have k6 := box_cell HVk.out.i0 (i := 6) rfl
                have k7 := box_cell HVk.out.i0 (i := 7) rfl
                have k8 := box_cell HVk.out.i0 (i := 8) rfl
                have k9 := box_cell HVk.out.i0 (i := 9) rfl
                have hR := box_range (e := 125) (vs := [.int .i64 (Wid.dg (z) 0), .int .i64 (Wid.dg (z) 1), .int .i64 (Wid.dg (z) 2), .int .i64 (Wid.dg (z) 3), .int .i64 (Wid.dg (z) 4), .int .i64 (Wid.dg (z) 5), .int .i64 (Wid.dg (z) 6), .int .i64 (Wid.dg (z) 7), .int .i64 (Wid.dg (z) 8), .int .i64 (Wid.dg (z) 9)]) HVk.out.i0
                have CI := Lib.hid (fun w => Wid.rint_any z _ _ _ _ _ _ _ _ _ _ w rfl HZB.out.1 HZB.out.2)
                clear hze
                by_cases hf : Wid.fit64 z = true
                · have hfz : Wid.f64 z = z := by unfold Wid.f64; rw [if_pos hf]
                  have HF := Lib.hid hf
                  rw [hf, hfz] at CI
                  clear hf hfz
                  have HST := Lib.hid (hier_step HK.out (q := ((v, IX), NX)) (by rw [← HZE.out]; exact HF.out))
                  by_cases hl : least ≤ z
                  · have g0 : decide (least ≤ z) = true := decide_eq_true hl
                    have HKN2 : Hid (hierF least (rowO QL v (i + 1)) [] = some (K ++ [((v, IX), NX, z)])) := Lib.hid (by rw [rowO_yes HQ.out rfl, HST.out, ← HZE.out, if_pos hl])
                    go_upto_region 29 with (go_at_call 62; (with_reducible refine (CI.out _).mono ?_); rintro e w6 ⟨rfl, hb⟩; have HV6 := Lib.hid (HVk.out.drop_0.up hb); clear hb)
                    clear k0 k1 k2 k3 k4 k5 k6 k7 k8 k9 hR
                    obtain ⟨r0, r1, r2⟩ := trip3 (strI HV6.out.i1) HQ.out had4
                    simp only at r0 r1 r2
                    have HNB := Lib.hid (own_far HV6.out had4)
                    go_region_held3 (fun w' => w'.cell? ⟨g4, o4, none⟩ = some (.int .i64 (v : Int)) ∧ w'.cell? ⟨g4, o4 + 1, none⟩ = some (.int .u64 (IX : Int)) ∧ w'.cell? ⟨g4, o4 + 2, none⟩ = some (.int .i64 NX)) (first | (exact ⟨x0, x1, x2⟩) | (exact ⟨cell_up r0 (by repeat' (first | (with_reducible exact Below.refl _ _) | (with_reducible assumption) | (with_reducible refine below_over ?_ _ _) | (with_reducible refine Lw.below_alloc ?_ _) | (with_reducible refine Below.drew ?_) | (with_reducible refine below_drewN ?_ _) | (with_reducible exact below_sgrow _ _ _) | (with_reducible refine Below.setCell ?_ ?_ _) | go_size)), cell_up r1 (by repeat' (first | (with_reducible exact Below.refl _ _) | (with_reducible assumption) | (with_reducible refine below_over ?_ _ _) | (with_reducible refine Lw.below_alloc ?_ _) | (with_reducible refine Below.drew ?_) | (with_reducible refine below_drewN ?_ _) | (with_reducible exact below_sgrow _ _ _) | (with_reducible refine Below.setCell ?_ ?_ _) | go_size)), cell_up r2 (by repeat' (first | (with_reducible exact Below.refl _ _) | (with_reducible assumption) | (with_reducible refine below_over ?_ _ _) | (with_reducible refine Lw.below_alloc ?_ _) | (with_reducible refine Below.drew ?_) | (with_reducible refine below_drewN ?_ _) | (with_reducible exact below_sgrow _ _ _) | (with_reducible refine Below.setCell ?_ ?_ _) | go_size))⟩))
                      ((refine step_append_lies _ (by rfl) _ _ 48 (by rfl) w.heap.size 128 j0 (.agg #[.int .i64 0, .int .u64 0, .int .i64 0, .int .i64 0]) 4 32 rrs_u hj_ hy0 hy1 hy2 (by rfl) (by decide) (.slice A5 k cap5) k (K.flatMap encR) (by rfl) ((Kept.of_below (F := fun _ => False) (by repeat' (first | (with_reducible exact Below.refl _ _) | (with_reducible assumption) | (with_reducible refine below_over ?_ _ _) | (with_reducible refine Lw.below_alloc ?_ _) | (with_reducible refine Below.drew ?_) | (with_reducible refine below_drewN ?_ _) | (with_reducible exact below_sgrow _ _ _) | (with_reducible refine Below.setCell ?_ ?_ _) | go_size))).own (okI HV6.out.i0) (fun _ _ h => h)) ⟨_, 0, none⟩ 1 1 [.int .i64 (v : Int), .int .u64 (IX : Int), .int .i64 NX, .int .i64 z] (by rfl) (by rfl) (World.news_of_block (heap_alloc_new _ _)) (enc_oneH _ _ _ _) (by decide) (by unfold maxLen; omega) (by omega) (by have := HV6.out.below.size; simp; omega) _ (by rfl) ?_; intro g7 cap7 w7 hown7 hgrow7 hat7 hlt7; have HVX := Lib.hid (have_to HV6.out hgrow7 (by repeat' (first | (with_reducible exact Below.refl _ _) | (with_reducible assumption) | (with_reducible refine below_over ?_ _ _) | (with_reducible refine Lw.below_alloc ?_ _) | (with_reducible refine Below.drew ?_) | (with_reducible refine below_drewN ?_ _) | (with_reducible exact below_sgrow _ _ _) | (with_reducible refine Below.setCell ?_ ?_ _) | go_size))); have x0 := hgrow7.cell (cell_up r0 (by repeat' (first | (with_reducible exact Below.refl _ _) | (with_reducible assumption) | (with_reducible refine below_over ?_ _ _) | (with_reducible refine Lw.below_alloc ?_ _) | (with_reducible refine Below.drew ?_) | (with_reducible refine below_drewN ?_ _) | (with_reducible exact below_sgrow _ _ _) | (with_reducible refine Below.setCell ?_ ?_ _) | go_size))) (fun e => HNB.out e.symm); have x1 := hgrow7.cell (cell_up r1 (by repeat' (first | (with_reducible exact Below.refl _ _) | (with_reducible assumption) | (with_reducible refine below_over ?_ _ _) | (with_reducible refine Lw.below_alloc ?_ _) | (with_reducible refine Below.drew ?_) | (with_reducible refine below_drewN ?_ _) | (with_reducible exact below_sgrow _ _ _) | (with_reducible refine Below.setCell ?_ ?_ _) | go_size))) (fun e => HNB.out e.symm); have x2 := hgrow7.cell (cell_up r2 (by repeat' (first | (with_reducible exact Below.refl _ _) | (with_reducible assumption) | (with_reducible refine below_over ?_ _ _) | (with_reducible refine Lw.below_alloc ?_ _) | (with_reducible refine Below.drew ?_) | (with_reducible refine below_drewN ?_ _) | (with_reducible exact below_sgrow _ _ _) | (with_reducible refine Below.setCell ?_ ?_ _) | go_size))) (fun e => HNB.out e.symm); have HW7 := Lib.hid hown7; have HG7 := Lib.hid hgrow7; have HA7 := Lib.hid hat7; clear hown7 hgrow7 hat7 hlt7))
                    have HV7 := Lib.hid (turnR HVX.out HW7.out HG7.out HA7.out)
                    clear r0 r1 r2 x0 x1 x2
                    go_wp2
                    go_roundw
                    case rel => exact ⟨i + 1, _, by omega, by go_num, HKN2.out, by rw [List.length_append, HKN.out, flat_snoc]; exact HV7.out.up (by repeat' (first | (with_reducible exact Below.refl _ _) | (with_reducible assumption) | (with_reducible refine below_over ?_ _ _) | (with_reducible refine Lw.below_alloc ?_ _) | (with_reducible refine Below.drew ?_) | (with_reducible refine below_drewN ?_ _) | (with_reducible exact below_sgrow _ _ _) | (with_reducible refine Below.setCell ?_ ?_ _) | go_size))⟩
                    case measure => simp [intOf]; omega
                  · have g0 : decide (least ≤ z) = false := decide_eq_false hl
                    have HKN2 : Hid (hierF least (rowO QL v (i + 1)) [] = some K) := Lib.hid (by rw [rowO_yes HQ.out rfl, HST.out, ← HZE.out, if_neg hl])
                    go_wp2_with (go_at_call 62; (with_reducible refine (CI.out _).mono ?_); rintro e w6 ⟨rfl, hb⟩; have HV6 := Lib.hid (HVk.out.drop_0.up hb); clear hb)
                    go_roundw
                    case rel => exact ⟨i + 1, K, by omega, by go_num, HKN2.out, by rw [HKN.out]; exact HV6.out.up (by repeat' (first | (with_reducible exact Below.refl _ _) | (with_reducible assumption) | (with_reducible refine below_over ?_ _ _) | (with_reducible refine Lw.below_alloc ?_ _) | (with_reducible refine Below.drew ?_) | (with_reducible refine below_drewN ?_ _) | (with_reducible exact below_sgrow _ _ _) | (with_reducible refine Below.setCell ?_ ?_ _) | go_size))⟩
                    case measure => simp [intOf]; omega
                · have HF : Hid (¬ Wid.fit64 z = true) := Lib.hid hf
                  have hff : Wid.fit64 z = false := by simpa using hf
                  have hfz : Wid.f64 z = 0 := by unfold Wid.f64; rw [if_neg hf]
                  rw [hff, hfz] at CI
                  have HNO : Hid (HC_ = 4 ∧ HL_ = []) := Lib.hid (HQN.out (by
                    obtain ⟨rr, hrr⟩ := rowO_ahead (B := BB) (l := QL) (i := i + 1) hmore
                    rw [hrr, rowO_yes HQ.out rfl]
                    exact hier_none HK.out (by rw [← HZE.out]; exact HF.out)))
                  clear hf hff hfz
                  go_wp2_with (go_at_call 62; (with_reducible refine (CI.out _).mono ?_); rintro e w6 ⟨rfl, hb⟩; have HV6 := Lib.hid (HVk.out.up hb); clear hb)
                  refine bodyPost_ret (v := .tuple #[.slice none 0 0, .int .i64 4]) (by simp [results, Tryz.results20, go_sem]) rfl ?_
                  rw [HNO.out.1, HNO.out.2]
                  exact ⟨none, 0, 0, rfl, st_nil 4 encR _, (fun q hq => by obtain ⟨a, e, _⟩ := hq; cases e), HV6.out.below⟩
          · have g0 : ((LX : Int) == (v : Int)) = false := by simp; omega
            have g1 : ¬ (LX : Int) = (v : Int) := by omega
            have HKN2 : Hid (hierF least (rowO QL v (i + 1)) [] = some K) := Lib.hid (by rw [rowO_no HQ.out (by simpa using hlv)]; exact HK.out)
            go_wp2
            go_roundw
            case rel => exact ⟨i + 1, K, by omega, by go_num, HKN2.out, by rw [HKN.out]; exact HVs.out.up (by repeat' (first | (with_reducible exact Below.refl _ _) | (with_reducible assumption) | (with_reducible refine below_over ?_ _ _) | (with_reducible refine Lw.below_alloc ?_ _) | (with_reducible refine Below.drew ?_) | (with_reducible refine below_drewN ?_ _) | (with_reducible exact below_sgrow _ _ _) | (with_reducible refine Below.setCell ?_ ?_ _) | go_size))⟩
            case measure => simp [intOf]; omega
        · have li1 : ¬ (i : Int) < (LN : Int) := by omega
          have ei : i = QL.length := by rw [HLN.out]; omega
          have hk := HK.out
          rw [ei, rowO_up] at hk
          have HKU := Lib.hid hk
          clear hk ei
          go_wp2
          go_roundw
          case rel => exact ⟨v + 1, K, by omega, by go_num, HKU.out, by rw [HKN.out]; exact HVs.out.up (by repeat' (first | (with_reducible exact Below.refl _ _) | (with_reducible assumption) | (with_reducible refine below_over ?_ _ _) | (with_reducible refine Lw.below_alloc ?_ _) | (with_reducible refine Below.drew ?_) | (with_reducible refine below_drewN ?_ _) | (with_reducible exact below_sgrow _ _ _) | (with_reducible refine Below.setCell ?_ ?_ _) | go_size))⟩
          case measure => simp [intOf]; omega
    · have lt1 : ¬ (v : Int) ≤ (BB : Int) := by omega
      have ev : v = BB + 1 := by omega
      subst ev
      have hk := HK0.out
      rw [rowO_end] at hk
      have HZ := Lib.hid (HQY.out K0 hk)
      obtain ⟨KN, hKN⟩ : ∃ n, K0.length = n := ⟨_, rfl⟩
      rw [hKN] at HVr
      obtain ⟨-, AO, capO, rfl⟩ := own_formK (okI HVr.out.i0)
      obtain ⟨AO2, capO2, e2, hso, hsf⟩ := st_own encR_len (okI HVr.out.i0) hKN
      injection e2 with e2a e2b e2c
      subst e2a e2c
      have HSO := Lib.hid hso
      have HSF := Lib.hid hsf
      clear hso hsf hKN hk
      go_wp2
      refine bodyPost_ret (v := .tuple #[.slice AO KN capO, .int .i64 0]) (by simp [results, Tryz.results20, go_sem]) rfl ?_
      rw [HZ.out.1, HZ.out.2]
      exact ⟨AO, KN, capO, rfl, HSO.out, HSF.out, HVr.out.below⟩
theorem rhier_any (r : Addr) (F : Nat → Prop) (c : Cfg) (sts : List LS) (least bud : Int) (w : World) (h : DK w r F c sts) (hin : ∀ n i : Int, -9223372036854775808 ≤ spV c sts n i ∧ spV c sts n i ≤ 9223372036854775807) (l0 : -9223372036854775808 ≤ least) (l1 : least ≤ 9223372036854775807) (u0 : -9223372036854775808 ≤ bud) (u1 : bud ≤ 9223372036854775807) :
    Calls Tryz.prog 20 #[.pointer (some r), .int .i64 least, .int .i64 bud] w fun e w' => ∃ (A : Option Addr) (n cap : Nat), e = .returned (.tuple #[.slice A n cap, .int .i64 (hrC c (fun L i => spV c sts (L : Int) i) least bud)]) ∧ (stRowT 4 encR A n cap (hrL c (fun L i => spV c sts (L : Int) i) least bud)).I w' ∧ (∀ q, (stRowT 4 encR A n cap (hrL c (fun L i => spV c sts (L : Int) i) least bud)).F q → w.heap.size ≤ q) ∧ Below w.heap.size w w' := by
  by_cases hc : hvC c (fun L i => spV c sts (L : Int) i) least bud = 0
  · exact rhier_y r F c sts least bud w h hin l0 l1 u0 u1 hc
  · exact rhier_n r F c sts least bud w h hin l0 l1 u0 u1 hc
end Go.Proofs.YtkflggojiiebeaaGreat.Hvy
