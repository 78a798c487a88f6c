/- Texts that statements lean on, put together: HvyHeavy, HvyMap, HvyGK, SpnCode, SmrGat, SmrCmp, SmrDel. -/
import Derived.Test.YtkflggojiiebeaaGreatVah
import Derived.Lib.AppendZerosOnto
namespace Go.Proofs.YtkflggojiiebeaaGreat.Hvy
open Go Go.RowKit Lw Grd Lin Con Shp Sk Exa Lev Stk Pcs Spn Qnt
set_option linter.unusedVariables false
set_option linter.unusedSimpArgs false
set_option linter.unusedSimpArgs false
theorem cfg_bt (c : Cfg) (w : World) : (Instr.field 24 (.agg #[.int .i64 c.bt, .int .i64 c.rw, .int .i64 c.wd, .int .i64 c.md, .int .u64 c.sd]) 0).run Tryz.prog w = .ok (.int .i64 c.bt) w := by kernel_rfl
theorem appn_list {P : Program} {w : World} {ops : Array Oper} {rest : List Oper} {o : Oper} {a : Act} {Q : Exit → Act → World → Prop} (hgd : o.guard = none) (s x : Operand) (t : TypeId)
    (ho : o.op = .call { callee := .builtin .append, args := #[s, x], argTypes := #[t, t] }) (base : Nat) (e : TypeId) (i : TypeInfo) (size : Nat) (ht : P.underlying t = some (.slice e)) (hi : P.info? e = some i)
    (v : Value) (n : Nat) (xs : List Value) (hs : a.eval s = v) (hown : w.ownsRow base e size v n xs) (hx : a.eval x = .slice none 0 0) (h : wpList P ops Q rest (a.put o.dst v) w) : wpList P ops Q (o :: rest) a w :=
  wpList_plain hgd fun _ hK => by
    have hrun := run_append_owned_none (P := P) (w := w) base t o.type e i size ht hi v n _ hown
    have hh := hK _ _ h
    unfold Oper.wp
    simp [execOp, ho, resolve, invoke, builtin, hs, hx, hrun, Result.andThen]
    exact hh
theorem own_base {w : World} {b0 b1 : Nat} {e : TypeId} {K : Nat} {v : Value} {n : Nat} {xs : List Value} (h : w.ownsRow b1 e K v n xs) (hb : b0 ≤ b1) : w.ownsRow b0 e K v n xs := by
  refine ⟨h.1, ?_⟩
  rcases h.2 with h2 | ⟨g, cap, cur, h1, h2, h3⟩
  · exact .inl h2
  · exact .inr ⟨g, cap, cur, h1, Nat.le_trans hb h2, h3⟩
theorem enc_oneF {us : List ((Nat × Nat) × Int)} : ∀ u ∈ us.flatMap encF, u.oneCell' = true := by
  intro u hu
  obtain ⟨q, -, h2⟩ := List.mem_flatMap.1 hu
  simp [encF] at h2
  rcases h2 with rfl | rfl | rfl <;> rfl
theorem own_pc1c (X : World) (U D : Int) (base : Nat) (hb : base ≤ X.heap.size) : (X.alloc (.cells #[.int .i64 U, .int .u64 D] 82)).ownsRow base 82 2 (.slice (some ⟨X.heap.size, 0, none⟩) 1 1) 1 [.int .i64 U, .int .u64 D] :=
  ⟨rfl, .inr ⟨X.heap.size, 1, _, rfl, hb, heap_alloc_new X _, Nat.le_refl _, by decide, rfl, rfl⟩⟩
theorem turn2C {w0 w w' : World} {t0 t1 : Thing} {B K n g m cap : Nat} {e : TypeId} {v : Value} {cs ds : List Value} {ts : List Thing} (h : Have w0 w (t0 :: t1 :: ownK B e K v n cs :: ts)) (hown : w'.ownsRow B e K (.slice (some ⟨g, 0, none⟩) m cap) m ds) (hg : w.grownBy w' v.ownBlock) (hat : v.ownBlock = some g ∨ g = w.heap.size) : Have w0 w' (t0 :: t1 :: ownK B e K (.slice (some ⟨g, 0, none⟩) m cap) m ds :: ts) := h.turn_2 _ hown (kept_grownK hg) (okF hat)
/-- What is asked of one level, as pieces; behind the last level nothing. -/
def askP (pt : Nat → Int → Int) (least : Int) (B d : Nat) : List (Nat × Nat) := if d ≤ B then (askQ pt least B d).map (fun i => (B - d, i)) else []
theorem askP_at {pt : Nat → Int → Int} {least : Int} {B d : Nat} (h : d ≤ B) : askP pt least B d = (askQ pt least B d).map (fun i => (B - d, i)) := if_pos h
theorem askP_next {pt : Nat → Int → Int} {least : Int} {B d LM : Nat} (h : B - d = LM + 1) : askP pt least B (d + 1) = (hvs (tellQ pt least (LM + 1) (askQ pt least B d))).map (fun i => (LM, i)) := by
  have e : B - (d + 1) = LM := by omega
  rw [askP, if_pos (by omega), e, hvs_tell, ← h]
  rfl
theorem askP_last {pt : Nat → Int → Int} {least : Int} {B : Nat} : askP pt least B (B + 1) = [] := if_neg (by omega)
theorem found_next (pt : Nat → Int → Int) (least : Int) (B d : Nat) : foundQ pt least B (d + 1) = foundQ pt least B d ++ tellQ pt least (B - d) (askQ pt least B d) := rfl
theorem own_some {w : World} {base : Nat} {e : TypeId} {K : Nat} {A : Option Addr} {n cap : Nat} {xs : List Value} (h : w.ownsRow base e K (.slice A n cap) n xs) (hn : 0 < n) : ∃ g, A = some ⟨g, 0, none⟩ := by
  rcases h.2 with ⟨h1, h2⟩ | ⟨g, cap, cur, h1, -⟩
  · omega
  · injection h1 with h1
    exact ⟨g, h1⟩
theorem lv_bd {l : List Nat} {d L : Nat} (h : ∀ i ∈ l, i < 2 ^ d) (hd : d ≤ 59) (hL : L ≤ 59) : ∀ u ∈ ints (l.map (fun i => (L, i))), (-9223372036854775808 ≤ u.1 ∧ u.1 ≤ 9223372036854775807) ∧ (0 ≤ u.2 ∧ u.2 ≤ 18446744073709551615) := by
  intro u hu
  obtain ⟨p, hp, rfl⟩ := List.mem_map.1 hu
  obtain ⟨i, hi, rfl⟩ := List.mem_map.1 hp
  have h2 := h i hi
  have h3 : 2 ^ d ≤ 2 ^ 59 := Nat.pow_le_pow_right (by omega) hd
  have e59 : (2 : Nat) ^ 59 = 576460752303423488 := rfl
  refine ⟨⟨?_, ?_⟩, ?_, ?_⟩
  · show -9223372036854775808 ≤ (L : Int); omega
  · show (L : Int) ≤ 9223372036854775807; omega
  · show 0 ≤ (i : Int); omega
  · show (i : Int) ≤ 18446744073709551615; omega
set_option maxRecDepth 100000 in
set_option maxHeartbeats 4000000 in
theorem heavy_a (p : Addr) (F : Nat → Prop) (c : Cfg) (sts : List LS) (least bud : Int) (w : World) (h : ST w p F c sts) (l0 : -9223372036854775808 ≤ least) (l1 : least ≤ 9223372036854775807) (u0 : -9223372036854775808 ≤ bud) (u1 : bud ≤ 9223372036854775807) (h1 : least < 1 ∨ 4096 < bud) :
    Calls Tryz.prog 17 #[.pointer (some p), .int .i64 least, .int .i64 bud] w fun e w' => ∃ (A : Option Addr) (n cap : Nat), e = .returned (.tuple #[.slice A n cap, .int .i64 (hvC c (fun L i => spV c sts (L : Int) i) least bud)]) ∧ w'.ownsRow w.heap.size 85 3 (.slice A n cap) n ((hvL c (fun L i => spV c sts (L : Int) i) least bud).flatMap encF) ∧ (hvL c (fun L i => spV c sts (L : Int) i) least bud).length = n ∧ Below w.heap.size w w' := by
  have hq := hv_arg (c := c) (pt := (fun L i => spV c sts (L : Int) i)) h1
  rw [hq.1, hq.2]
  by_cases h2 : least < 1
  · have f1 : decide (least < 1) = true := decide_eq_true h2
    clear h l0 l1 u0 u1 h1 hq
    go_enter Tryz.func17, Tryz.ntmps17
    go_wp2
    refine bodyPost_ret (v := .tuple #[.slice none 0 0, .int .i64 1]) (by simp [results, Tryz.results17, go_sem]) rfl ?_
    exact ⟨none, 0, 0, rfl, World.ownsRow_nil _ _ _ _, rfl, Below.refl _ _⟩
  · have h3 : 4096 < bud := by omega
    have f1 : decide (least < 1) = false := decide_eq_false h2
    have f2 : decide (4096 < bud) = true := decide_eq_true h3
    clear h l0 l1 u0 u1 h1 hq
    go_enter Tryz.func17, Tryz.ntmps17
    go_wp2
    refine bodyPost_ret (v := .tuple #[.slice none 0 0, .int .i64 1]) (by simp [results, Tryz.results17, go_sem]) rfl ?_
    exact ⟨none, 0, 0, rfl, World.ownsRow_nil _ _ _ _, rfl, Below.refl _ _⟩
set_option maxRecDepth 100000 in
set_option maxHeartbeats 8000000 in
theorem heavy_m (p : Addr) (F : Nat → Prop) (c : Cfg) (sts : List LS) (least bud : Int) (w : World) (h : ST w p F c sts) (l0 : -9223372036854775808 ≤ least) (l1 : least ≤ 9223372036854775807) (u0 : -9223372036854775808 ≤ bud) (u1 : bud ≤ 9223372036854775807) (h1 : 1 ≤ least) (h2 : bud ≤ 4096) :
    Calls Tryz.prog 17 #[.pointer (some p), .int .i64 least, .int .i64 bud] w fun e w' => ∃ (A : Option Addr) (n cap : Nat), e = .returned (.tuple #[.slice A n cap, .int .i64 (hvC c (fun L i => spV c sts (L : Int) i) least bud)]) ∧ w'.ownsRow w.heap.size 85 3 (.slice A n cap) n ((hvL c (fun L i => spV c sts (L : Int) i) least bud).flatMap encF) ∧ (hvL c (fun L i => spV c sts (L : Int) i) least bud).length = n ∧ Below w.heap.size w w' := by
  have hbt := h.1.1
  have hbt2 := h.1.2.1
  have HOV := Lib.hid (fun hh => hv_over (c := c) (pt := (fun L i => spV c sts (L : Int) i)) (least := least) (bud := bud) h1 h2 hh)
  have HYES := Lib.hid (fun hh => hv_yes (c := c) (pt := (fun L i => spV c sts (L : Int) i)) (least := least) (bud := bud) h1 h2 hh)
  have CC := Lib.hid (fun w hs => cs_config p F c sts w hs)
  have HD := Lib.hid h
  obtain ⟨BB, hBB⟩ : ∃ B, c.bt.toNat = B := ⟨_, rfl⟩
  rw [hBB] at HOV HYES
  have hcb : c.bt = (BB : Int) := by omega
  have hfd : ∀ w, (Instr.field 24 (.agg #[.int .i64 c.bt, .int .i64 c.rw, .int .i64 c.wd, .int .i64 c.md, .int .u64 c.sd]) 0).run Tryz.prog w = .ok (.int .i64 (BB : Int)) w := fun w => by
    have h5 := cfg_bt c w
    rw [h5, hcb]
  have HB59 : Hid (BB ≤ 59) := Lib.hid (by omega)
  have f1 : decide (least < 1) = false := decide_eq_false (by omega)
  have f2 : decide (4096 < bud) = false := decide_eq_false (by omega)
  have f3 : ¬ least < 1 := by omega
  have f4 : ¬ 4096 < bud := by omega
  obtain ⟨i0, hi_, hz0, hz1, hz2⟩ := info_parts pc_info
  obtain ⟨j0, hj_, hy0, hy1, hy2⟩ := info_parts cfd_info
  have HU := Lib.hid (And.intro h2 (And.intro u0 (And.intro l0 l1)))
  have wB : wrap64 ((BB : Int) + 1) = (BB : Int) + 1 := IntWalk.wrap64_in _ ⟨by omega, by omega⟩
  clear h hbt hbt2 hBB hcb h1 l0 l1 u0 u1 h2
  go_enter Tryz.func17, Tryz.ntmps17
  go_wp2_with (go_at_call 53; (with_reducible refine (CC.out _ HD.out).mono ?_); rintro e w1 ⟨rfl, hb⟩; have HB1 := Lib.hid hb; clear hb)
  have HV1 := Lib.hid ((((Have.nil w).up HB1.out).push (ownK w.heap.size 85 3 (.slice none 0 0) 0 []) (Below.refl _ _) (World.ownsRow_nil _ _ _ _) (fun k hk => by cases hk)).push (ownK w.heap.size 82 2 (.slice (some ⟨w1.heap.size, 0, none⟩) 1 1) 1 [.int .i64 (BB : Int), .int .u64 0]) (Lw.below_alloc (Below.refl _ _) _) (own_pc1c w1 (BB : Int) 0 w.heap.size HB1.out.size) (fun k hk => by have : some w1.heap.size = some k := hk; injection this with this; omega))
  clear f1 f2 f3 f4
  rw [wB]
  go_loopw [2, 9, 10, 26] (fun bv av ov iv wr => ∃ (d : Nat), d ≤ BB + 1 ∧ iv = .int .i64 (d : Int) ∧ bv = .int .i64 (bud - (((countQ (fun L i => spV c sts (L : Int) i) least BB d) : Nat) : Int)) ∧ (d = 0 ∨ (((countQ (fun L i => spV c sts (L : Int) i) least BB d) : Nat) : Int) ≤ bud) ∧ ((foundQ (fun L i => spV c sts (L : Int) i) least BB d).length = 0 → ov = .slice none 0 0) ∧ Have w wr [ownK w.heap.size 82 2 av (askP (fun L i => spV c sts (L : Int) i) least BB d).length (flatP (ints (askP (fun L i => spV c sts (L : Int) i) least BB d))), ownK w.heap.size 85 3 ov (foundQ (fun L i => spV c sts (L : Int) i) least BB d).length ((foundQ (fun L i => spV c sts (L : Int) i) least BB d).flatMap encF)]) (fun _ _ _ iv _ => 100 - (intOf iv).toNat)
  case atStart => exact ⟨0, Nat.zero_le _, rfl, by show Value.int .i64 bud = .int .i64 (bud - 0); rw [Int.sub_zero], .inl rfl, fun _ => rfl, HV1.out⟩
  case round =>
    obtain ⟨d, hd, rfl, rfl, hbc, hnil, hv⟩ := hrel
    have HVr := Lib.hid hv
    have HNIL := Lib.hid hnil
    have HBC := Lib.hid hbc
    clear hv hnil hbc
    by_cases hmore : d ≤ BB
    · have lt1 : (d : Int) < (BB : Int) + 1 := by omega
      have hd59 : d ≤ 59 := by have := HB59.out; omega
      obtain ⟨l, hl⟩ : ∃ l, askQ (fun L i => spV c sts (L : Int) i) least BB d = l := ⟨_, rfl⟩
      obtain ⟨LV, hLV⟩ : ∃ n, BB - d = n := ⟨_, rfl⟩
      have haP : (askP (fun L i => spV c sts (L : Int) i) least BB d) = l.map (fun i => (LV, i)) := by rw [askP_at hmore, hl, hLV]
      have hfn : (foundQ (fun L i => spV c sts (L : Int) i) least BB (d + 1)) = (foundQ (fun L i => spV c sts (L : Int) i) least BB d) ++ (tellQ (fun L i => spV c sts (L : Int) i) least LV l) := by rw [found_next, hl, hLV]
      have hcn : (countQ (fun L i => spV c sts (L : Int) i) least BB (d + 1)) = (countQ (fun L i => spV c sts (L : Int) i) least BB d) + l.length := by rw [← hl]; rfl
      have hcm : (countQ (fun L i => spV c sts (L : Int) i) least BB (d + 1)) ≤ (countQ (fun L i => spV c sts (L : Int) i) least BB (BB + 1)) := countQ_mono _ _ _ (by omega)
      have hlt : ∀ i ∈ l, i < 2 ^ d := fun i hi => askQ_lt (by rw [hl]; exact hi)
      obtain ⟨NA, hNA⟩ : ∃ n, l.length = n := ⟨_, rfl⟩
      obtain ⟨NF, hNF⟩ : ∃ n, (foundQ (fun L i => spV c sts (L : Int) i) least BB d).length = n := ⟨_, rfl⟩
      have hfl := foundQ_le (fun L i => spV c sts (L : Int) i) least BB d
      rw [hNF] at hfl
      have HLN : (askP (fun L i => spV c sts (L : Int) i) least BB d).length = NA := by rw [haP, List.length_map, hNA]
      rw [HLN, haP, hNF] at HVr
      rw [hNF] at HNIL
      rw [hNA] at hcn
      obtain ⟨BV, hBV⟩ : ∃ b, bud - (((countQ (fun L i => spV c sts (L : Int) i) least BB d) : Nat) : Int) = b := ⟨_, rfl⟩
      rw [hBV]
      obtain ⟨-, AA, capA, rfl⟩ := own_formK (okI HVr.out.i0)
      have HBV := Lib.hid (And.intro hBV (And.intro hcn hcm))
      by_cases hbud : BV < (NA : Int)
      · have HQ := Lib.hid (HOV.out (by omega))
        have g1 : decide (BV < (NA : Int)) = true := decide_eq_true hbud
        clear hBV hcn hcm hlt hfl haP hfn HLN hl hLV
        go_wp2
        refine bodyPost_ret (v := .tuple #[.slice none 0 0, .int .i64 7]) (by simp [results, Tryz.results17, go_sem]) rfl ?_
        rw [HQ.out.1, HQ.out.2]
        exact ⟨none, 0, 0, rfl, World.ownsRow_nil _ _ _ _, rfl, HVr.out.below⟩
      · have g1 : decide (BV < (NA : Int)) = false := decide_eq_false hbud
        have HN4 : Hid (NA ≤ 4096 ∧ NF + NA ≤ 4096) := Lib.hid (by have := HU.out.1; omega)
        obtain ⟨BN, hBN⟩ : ∃ b, BV - (NA : Int) = b := ⟨_, rfl⟩
        have w1_ : wrap64 BN = BN := IntWalk.wrap64_in _ ⟨by have := HU.out.1; omega, by have := HU.out.1; omega⟩
        have HBN : Hid (BN = bud - (((countQ (fun L i => spV c sts (L : Int) i) least BB (d + 1)) : Nat) : Int) ∧ (((countQ (fun L i => spV c sts (L : Int) i) least BB (d + 1)) : Nat) : Int) ≤ bud) := Lib.hid (by omega)
        have HFN := Lib.hid hfn
        have HLV := Lib.hid hLV
        have HL := Lib.hid hl
        have HNF := Lib.hid hNF
        have HLF : Hid ((tellQ (fun L i => spV c sts (L : Int) i) least LV l).length ≤ NA) := Lib.hid (by rw [← hNA]; have := tellQ_take (fun L i => spV c sts (L : Int) i) least LV l.length l; rw [List.take_length] at this; exact this)
        have HPC := Lib.hid (pc_own (okI HVr.out.i0) (by rw [ints_len, List.length_map, hNA]) (lv_bd hlt (by have := HB59.out; omega) (by have := HB59.out; omega)))
        have HMU := Lib.hid (fun A cap w hs hr => much_any p F c sts least LV l A NA cap w hs hr (by have := HB59.out; omega) (fun i hi => Nat.lt_of_lt_of_le (hlt i hi) (Nat.pow_le_pow_right (by omega) (show d ≤ 59 by have := HB59.out; omega))) HN4.out.1)
        have HTQ : Hid (∀ q ∈ (tellQ (fun L i => spV c sts (L : Int) i) least LV l), q.1.1 = LV ∧ q.1.2 < 2 ^ (BB - LV)) := Lib.hid (fun q hq => by
          obtain ⟨q1, q2, -, -⟩ := mem_tellQ.1 hq
          have e5 : BB - LV = d := by omega
          rw [e5]
          exact ⟨q1, hlt _ q2⟩)
        clear hBV hcn hcm hlt hfl haP hfn HLN hl hLV hNA hNF HBV
        obtain ⟨A3, cap3, e3, hs3, -⟩ := HPC.out
        injection e3 with e3a e3b e3c
        subst e3a e3c
        have HS3 := Lib.hid hs3
        clear hs3 HPC
        have HDR := Lib.hid (HD.out.up HVr.out.below)
        go_upto_region 12 with (go_at_call 54; (with_reducible refine (HMU.out _ _ _ HDR.out HS3.out).mono ?_); rintro e w5 ⟨A2, n2, cap2, rfl, hown, hn2, hn0, hb⟩; have HN2 := Lib.hid hn2; have HN0 := Lib.hid hn0; clear hn2 hn0)
        have HV5 := Lib.hid (HVr.out.push (ownK wr.heap.size 85 3 (.slice A2 n2 cap2) n2 ((tellQ (fun L i => spV c sts (L : Int) i) least LV l).flatMap encF)) hb hown (fun k hk => own_ge hown k hk))
        clear hown hb HDR HS3 HMU
        rw [← HN2.out] at HLF
        by_cases hz : n2 = 0
        · obtain ⟨rfl, rfl⟩ := HN0.out hz
          subst hz
          have hte : (tellQ (fun L i => spV c sts (L : Int) i) least LV l) = [] := List.eq_nil_of_length_eq_zero HN2.out.symm
          clear HN0
          cases LV with
          | zero =>
            have HTQ0 : Hid (∀ q ∈ (tellQ (fun L i => spV c sts (L : Int) i) least 0 l), q.1.1 = 0 ∧ q.1.2 < 576460752303423488) := Lib.hid (fun q hq => by rw [hte] at hq; cases hq)
            have HTE := Lib.hid hte
            clear hte
            go_upto_region 13 with (at_builtin; go_must (refine appn_list rfl _ _ 39 rfl w.heap.size 85 j0 3 cfds_u hj_ _ _ _ rfl (okI HV5.out.i2) rfl ?_))
            have HV7 := Lib.hid HV5.out
            have HSR := Lib.hid (st_own encF_len (okI HV7.out.i0) HN2.out.symm)
            obtain ⟨A8, cap8, e8, HS8, -⟩ := HSR.out
            have HC8 := Lib.hid (halves_no BB (tellQ (fun L i => spV c sts (L : Int) i) least 0 l) A8 0 cap8 _ HS8 HB59.out HTQ0.out (by have := HLF.out; have := HN4.out; omega))
            clear HS8
            injection e8 with e8a e8b e8c
            subst e8a e8c
            go_wp2_with (go_at_call 55; (with_reducible refine HC8.out.mono ?_); rintro e w9 ⟨rfl, hb9⟩)
            have HV9 := Lib.hid ((HV7.out.push (ownK w.heap.size 82 2 (.slice none 0 0) 0 []) hb9 (World.ownsRow_nil _ _ _ _) (fun k hk => by cases hk)).erase1.erase1)
            go_roundw
            case rel => exact ⟨d + 1, by omega, by go_num, by rw [← HBN.out.1], .inr HBN.out.2, by rw [HFN.out, HTE.out, List.append_nil, HNF.out]; exact HNIL.out, by have e0 : (askP (fun L i => spV c sts (L : Int) i) least BB (d + 1)) = [] := (by have := HLV.out; have : d = BB := (by omega); rw [this]; exact askP_last); rw [e0, HFN.out, HTE.out, List.append_nil, HNF.out]; exact HV9.out.up (by repeat' (first | (with_reducible first | exact Below.refl _ _ | assumption | refine below_over ?_ _ _ | refine Lw.below_alloc ?_ _ | refine Below.drew ?_ | refine below_drewN ?_ _ | refine Below.setCell ?_ ?_ _) | go_size))⟩
            case measure => simp [intOf]; omega
          | succ LM =>
            have HLM : Hid (LM + 1 = LM + 1 ∧ LM + 1 ≤ BB) := Lib.hid ⟨rfl, by have := HLV.out; omega⟩
            have HTE := Lib.hid hte
            clear hte
            go_upto_region 13 with (at_builtin; go_must (refine appn_list rfl _ _ 39 rfl w.heap.size 85 j0 3 cfds_u hj_ _ _ _ rfl (okI HV5.out.i2) rfl ?_))
            have HV7 := Lib.hid HV5.out
            have HSR := Lib.hid (st_own encF_len (okI HV7.out.i0) HN2.out.symm)
            obtain ⟨A8, cap8, e8, HS8, -⟩ := HSR.out
            have HC8 := Lib.hid (halves_yes BB LM (tellQ (fun L i => spV c sts (L : Int) i) least (LM + 1) l) A8 0 cap8 _ HS8 HB59.out HLM.out.2 HTQ.out (by have := HLF.out; have := HN4.out; omega))
            clear HS8
            injection e8 with e8a e8b e8c
            subst e8a e8c
            go_wp2_with (go_at_call 55; (with_reducible refine HC8.out.mono ?_); rintro e w9 ⟨A9, n9, cap9, rfl, hown9, hn9, hb9⟩)
            have HV9 := Lib.hid ((HV7.out.push (ownK w.heap.size 82 2 (.slice A9 n9 cap9) n9 _) hb9 (own_base hown9 HV7.out.below.size) (fun k hk => own_ge hown9 k hk)).erase1.erase1)
            go_roundw
            case rel => exact ⟨d + 1, by omega, by go_num, by rw [← HBN.out.1], .inr HBN.out.2, by rw [HFN.out, HTE.out, List.append_nil, HNF.out]; exact HNIL.out, by rw [askP_next HLV.out, HL.out, List.length_map, ← hn9, HFN.out, HTE.out, List.append_nil, HNF.out]; have h9 := HV9.out; rw [HTE.out] at h9; exact h9.up (by repeat' (first | (with_reducible first | exact Below.refl _ _ | assumption | refine below_over ?_ _ _ | refine Lw.below_alloc ?_ _ | refine Below.drew ?_ | refine below_drewN ?_ _ | refine Below.setCell ?_ ?_ _) | go_size))⟩
            case measure => simp [intOf]; omega
        · clear HN0
          obtain ⟨g2, rfl⟩ : ∃ g2, A2 = some ⟨g2, 0, none⟩ := own_some (okI HV5.out.i0) (by omega)
          have HFL : Hid ((foundQ (fun L i => spV c sts (L : Int) i) least BB (d + 1)).length = NF + n2) := Lib.hid (by rw [HFN.out, List.length_append, HNF.out, ← HN2.out])
          have HFM : Hid ((foundQ (fun L i => spV c sts (L : Int) i) least BB (d + 1)).flatMap encF = (foundQ (fun L i => spV c sts (L : Int) i) least BB d).flatMap encF ++ (tellQ (fun L i => spV c sts (L : Int) i) least LV l).flatMap encF) := Lib.hid (by rw [HFN.out, List.flatMap_append])
          cases LV with
          | zero =>
            have HTQ0 : Hid (∀ q ∈ (tellQ (fun L i => spV c sts (L : Int) i) least 0 l), q.1.1 = 0 ∧ q.1.2 < 576460752303423488) := Lib.hid (fun q hq => ⟨(HTQ.out q hq).1, Nat.lt_of_lt_of_le (HTQ.out q hq).2 (Nat.pow_le_pow_right (by omega) (show BB - 0 ≤ 59 by have := HB59.out; omega))⟩)
            go_upto_region 13 with (at_builtin; go_must (refine wpList_append_lies _ rfl _ _ 39 rfl w.heap.size 85 j0 (.agg #[.int .i64 0, .int .u64 0, .int .i64 0]) 3 24 cfds_u hj_ hy0 hy1 hy2 rfl (by decide) _ _ _ rfl (okI HV5.out.i2) ⟨g2, 0, none⟩ n2 cap2 ((tellQ (fun L i => spV c sts (L : Int) i) least 0 l).flatMap encF) rfl (by rw [flat_len encF_len, HN2.out]) ((okI HV5.out.i0).cells rfl) enc_oneF (by omega) (by have := HLF.out; have := HN4.out; unfold maxLen; omega) (by have := HLF.out; have := HN4.out; omega) (by have := HV5.out.below.size; exact this) _ rfl ?_); intro g7 cap7 w7 hown7 hgrow7 hat7 hlt7)
            have HV7 := Lib.hid (turn2C HV5.out hown7 hgrow7 hat7)
            clear hown7 hgrow7 hat7 hlt7
            have HSR := Lib.hid (st_own encF_len (okI HV7.out.i0) HN2.out.symm)
            obtain ⟨A8, cap8, e8, HS8, -⟩ := HSR.out
            have HC8 := Lib.hid (halves_no BB (tellQ (fun L i => spV c sts (L : Int) i) least 0 l) A8 n2 cap8 _ HS8 HB59.out HTQ0.out (by have := HLF.out; have := HN4.out; omega))
            clear HS8
            injection e8 with e8a e8b e8c
            subst e8a e8c
            go_wp2_with (go_at_call 55; (with_reducible refine HC8.out.mono ?_); rintro e w9 ⟨rfl, hb9⟩)
            have HV9 := Lib.hid ((HV7.out.push (ownK w.heap.size 82 2 (.slice none 0 0) 0 []) hb9 (World.ownsRow_nil _ _ _ _) (fun k hk => by cases hk)).erase1.erase1)
            go_roundw
            case rel => exact ⟨d + 1, by omega, by go_num, by rw [← HBN.out.1], .inr HBN.out.2, fun e => by rw [HFL.out] at e; omega, by have e0 : (askP (fun L i => spV c sts (L : Int) i) least BB (d + 1)) = [] := (by have := HLV.out; have : d = BB := (by omega); rw [this]; exact askP_last); rw [e0, HFL.out, HFM.out]; exact HV9.out.up (by repeat' (first | (with_reducible first | exact Below.refl _ _ | assumption | refine below_over ?_ _ _ | refine Lw.below_alloc ?_ _ | refine Below.drew ?_ | refine below_drewN ?_ _ | refine Below.setCell ?_ ?_ _) | go_size))⟩
            case measure => simp [intOf]; omega
          | succ LM =>
            have HLM : Hid (LM + 1 = LM + 1 ∧ LM + 1 ≤ BB) := Lib.hid ⟨rfl, by have := HLV.out; omega⟩
            go_upto_region 13 with (at_builtin; go_must (refine wpList_append_lies _ rfl _ _ 39 rfl w.heap.size 85 j0 (.agg #[.int .i64 0, .int .u64 0, .int .i64 0]) 3 24 cfds_u hj_ hy0 hy1 hy2 rfl (by decide) _ _ _ rfl (okI HV5.out.i2) ⟨g2, 0, none⟩ n2 cap2 ((tellQ (fun L i => spV c sts (L : Int) i) least (LM + 1) l).flatMap encF) rfl (by rw [flat_len encF_len, HN2.out]) ((okI HV5.out.i0).cells rfl) enc_oneF (by omega) (by have := HLF.out; have := HN4.out; unfold maxLen; omega) (by have := HLF.out; have := HN4.out; omega) (by have := HV5.out.below.size; exact this) _ rfl ?_); intro g7 cap7 w7 hown7 hgrow7 hat7 hlt7)
            have HV7 := Lib.hid (turn2C HV5.out hown7 hgrow7 hat7)
            clear hown7 hgrow7 hat7 hlt7
            have HSR := Lib.hid (st_own encF_len (okI HV7.out.i0) HN2.out.symm)
            obtain ⟨A8, cap8, e8, HS8, -⟩ := HSR.out
            have HC8 := Lib.hid (halves_yes BB LM (tellQ (fun L i => spV c sts (L : Int) i) least (LM + 1) l) A8 n2 cap8 _ HS8 HB59.out HLM.out.2 HTQ.out (by have := HLF.out; have := HN4.out; omega))
            clear HS8
            injection e8 with e8a e8b e8c
            subst e8a e8c
            go_wp2_with (go_at_call 55; (with_reducible refine HC8.out.mono ?_); rintro e w9 ⟨A9, n9, cap9, rfl, hown9, hn9, hb9⟩)
            have HV9 := Lib.hid ((HV7.out.push (ownK w.heap.size 82 2 (.slice A9 n9 cap9) n9 _) hb9 (own_base hown9 HV7.out.below.size) (fun k hk => own_ge hown9 k hk)).erase1.erase1)
            go_roundw
            case rel => exact ⟨d + 1, by omega, by go_num, by rw [← HBN.out.1], .inr HBN.out.2, fun e => by rw [HFL.out] at e; omega, by rw [askP_next HLV.out, HL.out, List.length_map, ← hn9, HFL.out, HFM.out]; exact HV9.out.up (by repeat' (first | (with_reducible first | exact Below.refl _ _ | assumption | refine below_over ?_ _ _ | refine Lw.below_alloc ?_ _ | refine Below.drew ?_ | refine below_drewN ?_ _ | refine Below.setCell ?_ ?_ _) | go_size))⟩
            case measure => simp [intOf]; omega
    · have lt1 : ¬ (d : Int) < (BB : Int) + 1 := by omega
      have ed : d = BB + 1 := by omega
      subst ed
      have HQ := Lib.hid (HYES.out (by have := HBC.out; omega))
      obtain ⟨NF, hNF⟩ : ∃ n, (foundQ (fun L i => spV c sts (L : Int) i) least BB (BB + 1)).length = n := ⟨_, rfl⟩
      rw [hNF] at HVr
      obtain ⟨-, AO, capO, rfl⟩ := own_formK (okI HVr.out.i1)
      have HNF9 := Lib.hid hNF
      clear hNF
      go_wp2
      refine bodyPost_ret (v := .tuple #[.slice AO NF capO, .int .i64 0]) (by simp [results, Tryz.results17, go_sem]) rfl ?_
      rw [HQ.out.1, HQ.out.2]
      exact ⟨AO, NF, capO, rfl, okI HVr.out.i1, HNF9.out, HVr.out.below⟩
theorem hv_own (p : Addr) (F : Nat → Prop) (c : Cfg) (sts : List LS) (least bud : Int) (w : World) (h : ST w p F c sts) (l0 : -9223372036854775808 ≤ least) (l1 : least ≤ 9223372036854775807) (u0 : -9223372036854775808 ≤ bud) (u1 : bud ≤ 9223372036854775807) :
    Calls Tryz.prog 17 #[.pointer (some p), .int .i64 least, .int .i64 bud] w fun e w' => ∃ (A : Option Addr) (n cap : Nat), e = .returned (.tuple #[.slice A n cap, .int .i64 (hvC c (fun L i => spV c sts (L : Int) i) least bud)]) ∧ w'.ownsRow w.heap.size 85 3 (.slice A n cap) n ((hvL c (fun L i => spV c sts (L : Int) i) least bud).flatMap encF) ∧ (hvL c (fun L i => spV c sts (L : Int) i) least bud).length = n ∧ Below w.heap.size w w' := by
  by_cases h1 : least < 1 ∨ 4096 < bud
  · exact heavy_a p F c sts least bud w h l0 l1 u0 u1 h1
  · exact heavy_m p F c sts least bud w h l0 l1 u0 u1 (by omega) (by omega)
end Go.Proofs.YtkflggojiiebeaaGreat.Hvy

namespace Go.Proofs.YtkflggojiiebeaaGreat.Hvy
open Go Go.RowKit Go.Maps Lw Grd Lin Con Shp Sk Exa Lev Stk Pcs Spn Qnt
set_option linter.unusedVariables false
set_option linter.unusedSimpArgs false
set_option maxRecDepth 100000
theorem pk_fields : (match Tryz.prog.underlying 82 with | some (.struct fs) => (match fs.toList with | [f, g] => f.type == 3 && f.offset == 0 && g.type == 22 && g.offset == 1 && f.name != "_" && g.name != "_" | _ => false) | _ => false) = true := by kernel_rfl
theorem pk_cells : Tryz.prog.cellsOf 82 = 2 := by kernel_rfl
theorem pk_cells1 : Tryz.prog.cellsOf 3 = 1 := by kernel_rfl
theorem pk_cells2 : Tryz.prog.cellsOf 22 = 1 := by kernel_rfl
theorem pk_u1 : Tryz.prog.underlying 3 = some (.int .i64) := by kernel_rfl
theorem pk_u2 : Tryz.prog.underlying 22 = some (.int .u64) := by kernel_rfl
theorem pk_type : Tryz.prog.keyType 82 = true := by kernel_rfl
theorem pk_laid : laidOutB Tryz.prog = true := by kernel_rfl
theorem pk_row : (82 : TypeId) < Tryz.prog.types.size := of_decide_eq_true (by kernel_rfl)
theorem pk_wide : (match Tryz.prog.underlying 82 with | some (.array _ _) | some (.struct _) => true | _ => false) = true := by kernel_rfl
theorem pk_law : Keyed Tryz.prog 82 := Keyed.of_law (deep_law_laid pk_laid (m := 2) (by omega) pk_row (by kernel_rfl) pk_wide)
theorem pk_shape : ∃ f g, ∃ fs, Tryz.prog.underlying 82 = some (.struct fs) ∧ fs.toList = [f, g] ∧ f.type = 3 ∧ f.offset = 0 ∧ g.type = 22 ∧ g.offset = 1 ∧ (f.name != "_") = true ∧ (g.name != "_") = true := by
  have h := pk_fields
  cases hu : Tryz.prog.underlying 82 with
  | none => rw [hu] at h; cases h
  | some d =>
    rw [hu] at h
    cases d with
    | struct fs =>
      simp only at h
      match hf : fs.toList with
      | [] => rw [hf] at h; cases h
      | [f] => rw [hf] at h; cases h
      | [f, g] =>
        rw [hf] at h
        simp only [Bool.and_eq_true, beq_iff_eq] at h
        exact ⟨f, g, fs, rfl, hf, h.1.1.1.1.1, h.1.1.1.1.2, h.1.1.1.2, h.1.1.2, h.1.2, h.2⟩
      | f :: g :: k :: r => rw [hf] at h; cases h
    | _ => cases h
theorem pk_lits (d : Nat) (a b : Int) (ha : (Lit.int .i64 a).wf = true) (hb : (Lit.int .u64 b).wf = true) : Tryz.prog.keyLits (d + 2) 82 [.int .i64 a, .int .u64 b] = some [.int .i64 a, .int .u64 b] := by
  obtain ⟨f, g, fs, h1, h2, h3, h4, h5, h6, h7, h8⟩ := pk_shape
  have hall : fs.all (fun x => x.name != "_") = true := by
    rw [← Array.all_toList, h2]
    simp only [List.all_cons, List.all_nil, h7, h8, Bool.and_true]
  unfold Program.keyLits
  simp only [h1, pk_cells, hall, h2, List.mapM_cons, List.mapM_nil, h3, h4, h5, h6, pk_cells1, pk_cells2]
  simp [Program.keyLits, pk_u1, pk_u2, ha, hb]
theorem big_at {m n : Nat} (h : m + 1 < n) : n + 1 = n - 1 + 2 := by omega
theorem pk_key {a b : Int} (ha : (Lit.int .i64 a).wf = true) (hb : (Lit.int .u64 b).wf = true) : ∃ l, keyOf Tryz.prog 82 (.agg #[.int .i64 a, .int .u64 b]) = some l := by
  obtain ⟨f, g, fs, h1, h2, h3, h4, h5, h6, h7, h8⟩ := pk_shape
  have hformed : (Value.agg #[.int .i64 a, .int .u64 b]).formed Tryz.prog 82 = true := by simp [Value.formed, h1, pk_cells]
  obtain ⟨d, hd⟩ : ∃ d, Tryz.prog.types.size + 1 = d + 2 := ⟨Tryz.prog.types.size - 1, big_at (m := 0) (Nat.lt_of_le_of_lt (by decide) pk_row)⟩
  refine ⟨.string (keyBytes [.int .i64 a, .int .u64 b]), ?_⟩
  unfold keyOf
  rw [h1]
  simp only [pk_type, hformed, hd, Bool.and_true, if_true, Value.cells]
  rw [pk_lits d a b ha hb]
  rfl
theorem lit_u64 {x : Int} (h0 : 0 ≤ x) (h1 : x ≤ 18446744073709551615) : (Lit.int .u64 x).wf = true := WalkArith.wf_u64 ⟨h0, h1⟩
def pkV (L i : Nat) : Value := .agg #[.int .i64 (L : Int), .int .u64 (i : Int)]
/-- The key of a piece. -/
noncomputable def pkl (L i : Nat) : Lit := (keyOf Tryz.prog 82 (pkV L i)).getD .nil
theorem pkl_ok {L i : Nat} (hL : L ≤ 59) (hi : i ≤ 576460752303423488) : keyOf Tryz.prog 82 (.agg #[.int .i64 (L : Int), .int .u64 (i : Int)]) = some (pkl L i) := by
  obtain ⟨l, h⟩ := pk_key (a := (L : Int)) (b := (i : Int)) (WalkArith.wf_i64 (by omega)) (lit_u64 (by omega) (by omega))
  have e : pkl L i = l := by unfold pkl pkV; rw [h]; rfl
  rw [e, h]
theorem pkl_ne {L i M j : Nat} (hL : L ≤ 59) (hi : i ≤ 576460752303423488) (hM : M ≤ 59) (hj : j ≤ 576460752303423488) (h : ¬ (L = M ∧ i = j)) : pkl L i ≠ pkl M j := by
  intro e
  have h1 := pkl_ok hL hi
  have h2 := pkl_ok hM hj
  rw [e] at h1
  have h3 := pk_law.inj h1 h2
  injection h3 with h3
  simp at h3
  omega
/-- What lies in the map: the rows of pieces with their numbers. -/
def TD (D : DataW Unit) (qs : List ((Nat × Nat) × Int)) : Prop := IsMap D ∧ ∀ L i : Nat, L ≤ 59 → i ≤ 576460752303423488 →
  ((∃ q ∈ qs, q.1 = (L, i)) → Maps.has D (pkl L i) = true) ∧ ((∀ q ∈ qs, q.1 ≠ (L, i)) → Maps.has D (pkl L i) = false ∧ ∀ z, D.atKey (pkl L i) z = z) ∧ (∀ n, ((L, i), n) ∈ qs → ∀ z, D.atKey (pkl L i) z = .lit (.int .i64 n))
theorem TD.nil : TD (.map []) [] := ⟨isMap_empty, fun L i _ _ => ⟨fun ⟨q, hq, _⟩ => (by cases hq), fun _ => ⟨rfl, fun z => rfl⟩, fun n h => (by cases h)⟩⟩
theorem TD.put {D : DataW Unit} {qs : List ((Nat × Nat) × Int)} (h : TD D qs) {L i : Nat} {n : Int} (hL : L ≤ 59) (hi : i ≤ 576460752303423488) (hnew : ∀ q ∈ qs, q.1 ≠ (L, i)) : TD (D.put (pkl L i) (.lit (.int .i64 n))) (qs ++ [((L, i), n)]) := by
  have hk : WideAt.IsKeyLit (pkl L i) := pk_law.key (pkl_ok hL hi)
  refine ⟨h.1.put _ _, fun M j hM hj => ?_⟩
  obtain ⟨h1, h2, h3⟩ := h.2 M j hM hj
  by_cases e : M = L ∧ j = i
  · obtain ⟨rfl, rfl⟩ := e
    refine ⟨fun _ => has_put_same h.1 hk _, fun g => absurd rfl (g ((M, j), n) (by simp)), fun m hm z => ?_⟩
    rw [atKey_put_same h.1 hk]
    rcases List.mem_append.1 hm with hm | hm
    · exact absurd rfl (hnew _ hm)
    · have := List.mem_singleton.1 hm
      injection this with _ e2
      rw [e2]
  · have hne : pkl M j ≠ pkl L i := pkl_ne hM hj hL hi e
    refine ⟨fun ⟨q, hq, hqe⟩ => ?_, fun g => ?_, fun m hm z => ?_⟩
    · rw [has_put_other hne]
      rcases List.mem_append.1 hq with hq | hq
      · exact h1 ⟨q, hq, hqe⟩
      · rw [List.mem_singleton] at hq
        subst hq
        injection hqe with e1 e2
        exact absurd ⟨e1.symm, e2.symm⟩ e
    · rw [has_put_other hne]
      obtain ⟨g1, g2⟩ := h2 (fun q hq => g q (List.mem_append_left _ hq))
      exact ⟨g1, fun z => by rw [atKey_put_other hne]; exact g2 z⟩
    · rw [atKey_put_other hne]
      rcases List.mem_append.1 hm with hm | hm
      · exact h3 m hm z
      · have := List.mem_singleton.1 hm
        injection this with e1 e2
        injection e1 with e1 e3
        exact absurd ⟨e1, e3⟩ e
end Go.Proofs.YtkflggojiiebeaaGreat.Hvy

namespace Go.Proofs.YtkflggojiiebeaaGreat.Hvy
open Go Go.RowKit Go.Maps Lw Grd Lin Con Shp Sk Exa Lev Stk Pcs Spn Qnt
set_option linter.unusedVariables false
set_option linter.unusedSimpArgs false
/-- The rows that are kept, one for each level, and whether each rest fits. -/
structure GK (B0 kb ab N : Nat) (hv : Array Value) (ls : Nat → List Kp) (b : Bool) (w : World) : Prop where
  size : hv.size = N
  row : w.heap[kb]? = some (.cells hv 45 (0, 0))
  flag : w.heap[ab]? = some (.cells #[.bool b] 4 (0, 0))
  own : ∀ (M : Nat) v, hv[M]? = some v → w.ownsRow B0 101 4 v (ls M).length ((ls M).flatMap encR)
  nil : ∀ (M : Nat) v, hv[M]? = some v → (ls M).length = 0 → v = .slice none 0 0
  apart : ∀ (M M' : Nat) v v' k, M ≠ M' → hv[M]? = some v → hv[M']? = some v' → v.ownBlock = some k → v'.ownBlock ≠ some k
  far : kb < B0 ∧ ab < B0 ∧ kb ≠ ab
def gkF (kb ab : Nat) (hv : Array Value) (k : Nat) : Prop := k = kb ∨ k = ab ∨ ∃ (M : Nat) (v : Value), hv[M]? = some v ∧ v.ownBlock = some k
theorem GK.keep {B0 kb ab N : Nat} {hv : Array Value} {ls : Nat → List Kp} {b : Bool} {w w' : World} {H : Nat → Prop} (h : GK B0 kb ab N hv ls b w) (hk : Kept H w w') (hf : ∀ k, gkF kb ab hv k → ¬ H k) : GK B0 kb ab N hv ls b w' :=
  ⟨h.size, hk.heap h.row (hf _ (.inl rfl)), hk.heap h.flag (hf _ (.inr (.inl rfl))), fun M v hv => hk.own (h.own M v hv) (fun q hq => hf q (.inr (.inr ⟨M, v, hv, hq⟩))), h.nil, h.apart, h.far⟩
/-- What the closure only reads. -/
structure CTI (tb mb bb gb lb sb kb N : Nat) (BB : Nat) (D : DataW Unit) (least : Int) (fn : Value) (w : World) : Prop where
  tcell : w.cell? ⟨tb, 0, none⟩ = some (.map (some mb))
  tmap : w.ownsMap Tryz.prog 82 (plainElem Tryz.prog 2) mb 5000 D
  bcell : w.cell? ⟨bb, 0, none⟩ = some (.int .i64 (BB : Int))
  gcell : w.cell? ⟨gb, 0, none⟩ = some fn
  lcell : w.cell? ⟨lb, 0, none⟩ = some (.int .i64 least)
  scell : w.cell? ⟨sb, 0, none⟩ = some (.slice (some ⟨kb, 0, none⟩) N N)
def ctF (tb mb bb gb lb sb : Nat) (k : Nat) : Prop := k = tb ∨ k = mb ∨ k = bb ∨ k = gb ∨ k = lb ∨ k = sb
theorem CTI.keep {tb mb bb gb lb sb kb N BB : Nat} {D : DataW Unit} {least : Int} {fn : Value} {w w' : World} {H : Nat → Prop} (h : CTI tb mb bb gb lb sb kb N BB D least fn w) (hk : Kept H w w') (hf : ∀ k, ctF tb mb bb gb lb sb k → ¬ H k) : CTI tb mb bb gb lb sb kb N BB D least fn w' := by
  refine ⟨hk.cell h.tcell (hf _ (.inl rfl)), ?_, hk.cell h.bcell (hf _ (.inr (.inr (.inl rfl)))), hk.cell h.gcell (hf _ (.inr (.inr (.inr (.inl rfl))))), hk.cell h.lcell (hf _ (.inr (.inr (.inr (.inr (.inl rfl)))))), hk.cell h.scell (hf _ (.inr (.inr (.inr (.inr (.inr rfl))))))⟩
  obtain ⟨es, clock, h1, h2⟩ := h.tmap
  exact ⟨es, clock, hk.heap h1 (hf _ (.inr (.inl rfl))), h2⟩
theorem CTI.lt {tb mb bb gb lb sb kb N BB : Nat} {D : DataW Unit} {least : Int} {fn : Value} {w : World} (h : CTI tb mb bb gb lb sb kb N BB D least fn w) : ∀ k, ctF tb mb bb gb lb sb k → k < w.heap.size := by
  rintro k (rfl | rfl | rfl | rfl | rfl | rfl)
  · exact cell_lt h.tcell
  · exact h.tmap.lt
  · exact cell_lt h.bcell
  · exact cell_lt h.gcell
  · exact cell_lt h.lcell
  · exact cell_lt h.scell
end Go.Proofs.YtkflggojiiebeaaGreat.Hvy

namespace Go.Proofs.YtkflggojiiebeaaGreat.Spn
open Go Go.RowKit Lw Grd Lin Con Shp Sk Exa Lev Stk Pcs Go.Shelf
set_option linter.unusedVariables false
set_option linter.unusedSimpArgs false
attribute [local go_sem] Oper.semAt_some
theorem fld_bt (c : Cfg) (w : World) : (Instr.field 24 (.agg #[.int .i64 c.bt, .int .i64 c.rw, .int .i64 c.wd, .int .i64 c.md, .int .u64 c.sd]) 0).run Tryz.prog w = .ok (.int .i64 c.bt) w := by kernel_rfl
theorem ptc_ok {c : Cfg} (hr : IsRight c) {lo hi : Int} (hi0 : 0 ≤ hi) : okC c.bt lo hi = decide (ptC2 c lo hi = 0) := by
  have hb := hr.1
  have hb2 := hr.2.1
  have e0 : keys c 0 = 2 ^ (c.bt - 0).toNat := keys_yes hr (by omega) (by omega)
  have e9 : (c.bt - 0).toNat = c.bt.toNat := by omega
  rw [e9] at e0
  have e1 : p2 c.bt.toNat = keys c 0 := by rw [e0]; unfold p2; simp
  unfold okC ptC2
  rw [e1]
  refine decide_eq_decide.2 ?_
  by_cases h1 : hi < lo
  · rw [if_pos h1]
    constructor
    · rintro ⟨-, -, h2, -⟩
      omega
    · intro h; cases h
  · rw [if_neg h1]
    by_cases h2 : keys c 0 ≤ hi
    · rw [if_pos h2]
      constructor
      · rintro ⟨-, -, -, h3⟩
        omega
      · intro h; cases h
    · rw [if_neg h2]
      exact ⟨fun _ => rfl, fun _ => ⟨by omega, by omega, by omega, by omega⟩⟩
set_option maxRecDepth 100000 in
set_option maxHeartbeats 2000000 in
theorem sp_parts_1 (p : Addr) (F : Nat → Prop) (c : Cfg) (sts : List LS) (lo hi : Int) (w : World) (h : ST w p F c sts) (h1 : hi < lo) :
    Calls Tryz.prog 79 #[.pointer (some p), .int .u64 lo, .int .u64 hi] w fun e w' => ∃ (A : Option Addr) (n cap : Nat), e = .returned (.tuple #[.slice A n cap, .int .i64 (ptC2 c lo hi)]) ∧ Rd .i64 w' A (ptL c (fun L i => spV c sts (L : Int) i) lo hi) ∧ (ptL c (fun L i => spV c sts (L : Int) i) lo hi).length = n ∧ n ≤ cap ∧ cap ≤ maxLen ∧ Below w.heap.size w w' := by
  have e1 : ptC2 c lo hi = 1 := by unfold ptC2; rw [if_pos h1]
  have e2 : ptL c (fun L i => spV c sts (L : Int) i) lo hi = [] := by unfold ptL; rw [if_neg (by rw [e1]; decide)]
  rw [e1, e2]
  clear h e1 e2
  go_enter Tryz.func79, Tryz.ntmps79
  go_wp2
  refine bodyPost_ret (v := .tuple #[.slice none 0 0, .int .i64 1]) (by simp [results, Tryz.results79, go_sem]) rfl ?_
  exact ⟨none, 0, 0, rfl, fun j v hv => by simp at hv, rfl, Nat.le_refl _, by decide, Below.refl _ _⟩
set_option maxRecDepth 100000 in
set_option maxHeartbeats 2000000 in
theorem sp_parts_2 (p : Addr) (F : Nat → Prop) (c : Cfg) (sts : List LS) (lo hi : Int) (w : World) (h : ST w p F c sts) (lo0 : 0 ≤ lo) (lo1 : lo ≤ 18446744073709551615) (hi0 : 0 ≤ hi) (hi1 : hi ≤ 18446744073709551615) (h1 : ¬ hi < lo) (h2 : keys c 0 ≤ hi) :
    Calls Tryz.prog 79 #[.pointer (some p), .int .u64 lo, .int .u64 hi] w fun e w' => ∃ (A : Option Addr) (n cap : Nat), e = .returned (.tuple #[.slice A n cap, .int .i64 (ptC2 c lo hi)]) ∧ Rd .i64 w' A (ptL c (fun L i => spV c sts (L : Int) i) lo hi) ∧ (ptL c (fun L i => spV c sts (L : Int) i) lo hi).length = n ∧ n ≤ cap ∧ cap ≤ maxLen ∧ Below w.heap.size w w' := by
  have e1 : ptC2 c lo hi = 2 := by unfold ptC2; rw [if_neg h1, if_pos h2]
  have e2 : ptL c (fun L i => spV c sts (L : Int) i) lo hi = [] := by unfold ptL; rw [if_neg (by rw [e1]; decide)]
  have hok : okC c.bt lo hi = false := by rw [ptc_ok h.1 hi0, e1]; rfl
  have hb0 := h.1.1
  have hb1 := h.1.2.1
  rw [e1, e2]
  have HS := Lib.hid h
  have CC := Lib.hid (fun w => ccover_any c.bt lo hi w (by omega) (by omega) lo0 lo1 hi0 hi1)
  have f1 : decide (hi < lo) = false := decide_eq_false h1
  have hfd := fld_bt c
  clear h e1 e2 lo0 lo1 hi0 hi1 h2 hb0 hb1
  go_enter Tryz.func79, Tryz.ntmps79
  go_wp2_with (first
    | (go_at_call 53; (with_reducible refine (cs_config p F c sts _ HS.out).mono ?_); rintro e w1 ⟨rfl, hbe1⟩)
    | (go_at_call 113; (with_reducible refine (CC.out _).mono ?_); rintro e w2 ⟨A, n, cap, l, rfl, hI, hF, hbe2, -, -⟩; rw [hok]))
  refine bodyPost_ret (v := .tuple #[.slice none 0 0, .int .i64 2]) (by simp [results, Tryz.results79, go_sem]) rfl ?_
  exact ⟨none, 0, 0, rfl, fun j v hv => by simp at hv, rfl, Nat.le_refl _, by decide, hbe1.trans (hbe2.mono hbe1.size)⟩
theorem own_any16 {w : World} {B : Nat} {e : TypeId} {hdr : Value} {vals : List Value} (h : (ownT B e hdr vals).I w) : ∃ (A : Option Addr) (cap : Nat), hdr = .slice A vals.length cap ∧ vals.length ≤ cap ∧ cap ≤ maxLen ∧ ∀ (j : Nat) (v : Value), vals[j]? = some v → ∃ a, A = some a ∧ w.cell? (a.add j) = some v := by
  have h1 : w.ownsRow B e 1 hdr vals.length vals := h
  rcases h1.2 with h0 | ⟨g, cap, cur, rfl, h2, h3, h4, h5, h6⟩
  · have h2 := h0.2
    have h3 : vals = [] := List.eq_nil_of_length_eq_zero (by omega)
    subst h3
    exact ⟨none, 0, h0.1, Nat.le_refl _, by decide, fun j v hj => by simp at hj⟩
  · exact ⟨some ⟨g, 0, none⟩, cap, rfl, h4, by assumption, fun j v hj => ⟨_, rfl, h1.cells (g := g) rfl j v hj⟩⟩
theorem kept_put {m : Nat} {F : Nat → Prop} (hm : ∀ k, m ≤ k → F k) (W : World) (l : Nat) (o o' : Obj) (hl : m ≤ l) (h1 : W.heap[l]? = some o) (h2 : o.isCells = false) (h3 : o.isWalk = false) : Kept F W (W.putObj l o') :=
  ⟨rfl, rfl, rfl, by simp, fun k hk hF => World.putObj_heap_other (fun e => hF (hm k (by omega)))⟩
/-- What was gathered. -/
def gotV (c : Cfg) (sts : List LS) (l : List (Nat × Nat)) (pre : List (Lof l.length)) : List Value := pre.map (fun x => .int .i64 (spV c sts ((l[x.1]'x.2).1 : Int) ((l[x.1]'x.2).2 : Int)))
theorem got_all {c : Cfg} {sts : List LS} {l : List (Nat × Nat)} {xs : List (Lof l.length)} (hup : UpTo xs) (hl : xs.length = l.length) : gotV c sts l xs = (l.map (fun p => spV c sts ((p.1 : Nat) : Int) ((p.2 : Nat) : Int))).map (Value.int .i64) := by
  refine List.ext_getElem? (fun i => ?_)
  unfold gotV
  rw [List.getElem?_map, List.getElem?_map, List.getElem?_map]
  by_cases hi : i < xs.length
  · obtain ⟨x, hx⟩ : ∃ x, xs[i]? = some x := ⟨_, List.getElem?_eq_getElem hi⟩
    have h3 : (xs.map (fun x => x.1))[i]? = some x.1 := by rw [List.getElem?_map, hx]; rfl
    rw [hup, List.getElem?_range (by omega)] at h3
    injection h3 with h3
    have h4 : l[i]? = some (l[x.1]'x.2) := by rw [h3]; exact List.getElem?_eq_getElem x.2
    rw [hx, h4]
    rfl
  · rw [List.getElem?_eq_none (by omega), List.getElem?_eq_none (by omega)]
    rfl
set_option maxRecDepth 100000 in
set_option maxHeartbeats 2000000 in
theorem sp_parts_3 (p : Addr) (F : Nat → Prop) (c : Cfg) (sts : List LS) (lo hi : Int) (w : World) (h : ST w p F c sts) (lo0 : 0 ≤ lo) (lo1 : lo ≤ 18446744073709551615) (hi0 : 0 ≤ hi) (hi1 : hi ≤ 18446744073709551615) (h1 : ¬ hi < lo) (h2 : ¬ keys c 0 ≤ hi) :
    Calls Tryz.prog 79 #[.pointer (some p), .int .u64 lo, .int .u64 hi] w fun e w' => ∃ (A : Option Addr) (n cap : Nat), e = .returned (.tuple #[.slice A n cap, .int .i64 (ptC2 c lo hi)]) ∧ Rd .i64 w' A (ptL c (fun L i => spV c sts (L : Int) i) lo hi) ∧ (ptL c (fun L i => spV c sts (L : Int) i) lo hi).length = n ∧ n ≤ cap ∧ cap ≤ maxLen ∧ Below w.heap.size w w' := by
  have e1 : ptC2 c lo hi = 0 := by unfold ptC2; rw [if_neg h1, if_neg h2]
  have e2 : ptL c (fun L i => spV c sts (L : Int) i) lo hi = parts c (fun L i => spV c sts (L : Int) i) lo hi := by unfold ptL; rw [if_pos e1]
  have e3 := parts_len16 h.1 (fun L i => spV c sts (L : Int) i) lo hi lo0
  have hok : okC c.bt lo hi = true := by rw [ptc_ok h.1 hi0, e1]; rfl
  have hb0 := h.1.1
  have hb1 := h.1.2.1
  rw [e2] at e3
  rw [e1, e2]
  have HS := Lib.hid h
  have HLEN := Lib.hid e3
  have CC := Lib.hid (fun w => ccover_any c.bt lo hi w (by omega) (by omega) lo0 lo1 hi0 hi1)
  have f1 : decide (hi < lo) = false := decide_eq_false h1
  have hfd := fld_bt c
  clear h e1 e2 e3 lo0 lo1 hi0 hi1 h2 hb0 hb1
  refine (callsIn_wide (n := 9)).1 ?_
  refine callsIn_of_wp_marks Tryz.func79 rfl trivial ?_ rfl
  simp only [Tryz.ntmps79, List.size_toArray, List.length_cons, List.length_nil, Nat.reduceAdd, Nat.reduceSub, Array.replicate_succ, Array.replicate_zero, List.push_toArray, List.append_toArray, List.nil_append, List.cons_append]
  gi_wp2_with (first
    | (refine ⟨trivial, ?_⟩; gi_at_call 53; refine (callsIn_wide.2 (cs_config p F c sts _ HS.out)).mono ?_; rintro e w1 ⟨rfl, hbe1⟩)
    | (refine ⟨trivial, ?_⟩; gi_at_call 113; refine (callsIn_wide.2 (CC.out _)).mono ?_; rintro e w2 ⟨A, n, cap, l, rfl, hI, hF, hbe2, hcov, -⟩; rw [hok])
    | (refine ⟨trivial, ?_⟩; gi_at_call 115; refine (callsIn_wide.2 (told_any _ _ _ _ _)).mono ?_; rintro e w3 ⟨rfl, rfl⟩))
  have hpl : l.length ≤ 1000 ∧ parts c (fun L i => spV c sts (L : Int) i) lo hi = l.map (fun q => spV c sts ((q.1 : Nat) : Int) ((q.2 : Nat) : Int)) := by
    have h5 := HLEN.out
    unfold parts at h5 ⊢
    rw [covL_eq (hcov hok)] at h5 ⊢
    rw [List.length_map] at h5
    exact ⟨h5, rfl⟩
  obtain ⟨hl1, hl2⟩ := hpl
  have HL2 := Lib.hid hl2
  have HI := Lib.hid hI
  have hFs : ∀ k, F k → k < w.heap.size := fun k hk => (stT p F c sts).lt w HS.out k hk
  have hPc : ∀ k, (pcT A n cap (ints l)).F k → k < w2.heap.size := fun k hk => (pcT A n cap (ints l)).lt w2 HI.out k hk
  have hsz1 := hbe1.size
  have hsz2 := hbe2.size
  have W1 := Lib.hid (hbe1.trans (hbe2.mono hbe1.size))
  clear hI hF hcov hl2
  have P0 : HoldC (fun _ => False) w2 w2 [] := HoldC.start0 (Below.refl _ w2)
  have P1 := P0.push (ownT (w2.heap.size + 4) 2 (.slice none 0 0) []) (Below.refl _ _) (own_nil _ _ _) (fun k hk => own_nilF _ _ hk) (cel_own (own_nil _ _ _))
  have hx1 := heap_alloc_new w2 (.cells #[.slice none 0 0] 54)
  have P2 := P1.push (boxT w2.heap.size 54 #[.slice none 0 0]) (Lw.below_alloc (Below.refl _ _) _) hx1 (fun k hk => Nat.le_of_eq hk.symm) (cel_box hx1)
  have hx2 := heap_alloc_new (w2.alloc (.cells #[.slice none 0 0] 54)) (.cells #[.func (.func 114) #[] #[.pointer (some ⟨w2.heap.size, 0, none⟩)]] 212)
  have hx3 := heap_alloc_new ((w2.alloc (.cells #[.slice none 0 0] 54)).alloc (.cells #[.func (.func 114) #[] #[.pointer (some ⟨w2.heap.size, 0, none⟩)]] 212)) (.cells #[.pointer (some p)] 30)
  have hx4 := heap_alloc_new (((w2.alloc (.cells #[.slice none 0 0] 54)).alloc (.cells #[.func (.func 114) #[] #[.pointer (some ⟨w2.heap.size, 0, none⟩)]] 212)).alloc (.cells #[.pointer (some p)] 30)) (.cells #[.slice A n cap] 118)
  simp only [World.size_alloc] at hx2 hx3 hx4
  have P3 := P2.push (boxT (w2.heap.size + 1) 212 #[.func (.func 114) #[] #[.pointer (some ⟨w2.heap.size, 0, none⟩)]]) (Lw.below_alloc (Below.refl _ _) _) hx2 (fun k hk => Nat.le_of_eq (by simp; exact hk.symm)) (cel_box hx2)
  have P4 := P3.push (boxT (w2.heap.size + 1 + 1) 30 #[.pointer (some p)]) (Lw.below_alloc (Below.refl _ _) _) hx3 (fun k hk => Nat.le_of_eq (by simp; exact hk.symm)) (cel_box hx3)
  have P5 := P4.push (boxT (w2.heap.size + 1 + 1 + 1) 118 #[.slice A n cap]) (Lw.below_alloc (Below.refl _ _) _) hx4 (fun k hk => Nat.le_of_eq (by simp; exact hk.symm)) (cel_box hx4)
  clear P0 P1 P2 P3 P4 hx1 hx2 hx3 hx4
  have BB : Below w2.heap.size w2 ((((w2.alloc (.cells #[.slice none 0 0] 54)).alloc (.cells #[.func (.func 114) #[] #[.pointer (some ⟨w2.heap.size, 0, none⟩)]] 212)).alloc (.cells #[.pointer (some p)] 30)).alloc (.cells #[.slice A n cap] 118)) := Lw.below_alloc (Lw.below_alloc (Lw.below_alloc (Lw.below_alloc (Below.refl _ _) _) _) _) _
  obtain ⟨W0, hW0⟩ : ∃ W0, ((((w2.alloc (.cells #[.slice none 0 0] 54)).alloc (.cells #[.func (.func 114) #[] #[.pointer (some ⟨w2.heap.size, 0, none⟩)]] 212)).alloc (.cells #[.pointer (some p)] 30)).alloc (.cells #[.slice A n cap] 118)) = W0 := ⟨_, rfl⟩
  have hsz : W0.heap.size = w2.heap.size + 4 := by rw [← hW0]; simp
  rw [hW0] at P5 BB ⊢
  clear hW0
  refine wpIn_rangeFunc_ownG rfl (by omega) (gf := 147) (lb := #[.pointer (some ⟨w2.heap.size + 1 + 1 + 1, 0, none⟩), .pointer (some ⟨w2.heap.size + 1 + 1, 0, none⟩)]) (S := fun xs => UpTo xs ∧ xs.length = l.length) (Sp := UpTo) (N := l.length) (encs := encP c sts l) (Kp := Kept (fun k => k = w2.heap.size ∨ W0.heap.size ≤ k)) (w0 := W0) rfl trivial (enters_of Tryz.func147 (by kernel_rfl) rfl)
    (fun lp J Jx W hW hJ hJx hY h0 => told_iter (9 - 1) (by omega) c sts p F (fun k => k = w2.heap.size ∨ W0.heap.size ≤ k) lp (w2.heap.size + 1 + 1 + 1) (w2.heap.size + 1 + 1) n cap A l hl1 J Jx W hJ hY (HS.out.up (W1.out.trans ((BB.trans (hW.mono BB.size)).mono (by omega)))) (fun k hk h => by have := hFs k hk; omega) (cell_up (box_cell (P5.i (t := boxT (w2.heap.size + 1 + 1 + 1) 118 #[.slice A n cap]) (by simp)) (i := 0) rfl) hW) (by omega) (cell_up (box_cell (P5.i (t := boxT (w2.heap.size + 1 + 1) 30 #[.pointer (some p)]) (by simp)) (i := 0) rfl) hW) (by omega) ((pcT A n cap (ints l)).keep w2 W (fun _ => False) HI.out (Kept.of_below (BB.trans (hW.mono BB.size))) (fun _ _ h => h)) (fun k hk h => by have := hPc k hk; omega) h0)
    (fun h k => h.trans k (fun _ _ h => h)) (fun W lp o o' hl h1 h2 h3 => kept_put (fun k hk => .inr hk) W lp o o' hl h1 h2 h3) (Below.refl _ _) (fun _ => rfl)
    (fun pre W => ∃ hdr, HoldC (fun _ => False) w2 W ([boxT (w2.heap.size + 1 + 1 + 1) 118 #[.slice A n cap], boxT (w2.heap.size + 1 + 1) 30 #[.pointer (some p)], boxT (w2.heap.size + 1) 212 #[.func (.func 114) #[] #[.pointer (some ⟨w2.heap.size, 0, none⟩)]]] ++ boxT w2.heap.size 54 #[hdr] :: ownT (w2.heap.size + 4) 2 hdr (gotV c sts l pre) :: []))
    (fun _ _ _ => False)
    (by
      rintro s X Y row ⟨hdr, h⟩ hg hr
      exact ⟨hdr, HoldC.own (by omega) (fun (_ : Unit) => _) () X Y row h hg hr⟩)
    (fun _ _ _ _ _ hs _ _ => hs)
    ⟨_, P5⟩
    (fun x => { tmps := #[.pointer (some p), .int .u64 lo, .int .u64 hi, undef, undef, undef, .slice none 0 0, .int .i64 0, .slice A n cap, .bool true, .pointer (some ⟨w2.heap.size, 0, none⟩), .pointer (some ⟨w2.heap.size + 1, 0, none⟩), .int .i64 (spV c sts ((l[x.1]'x.2).1 : Int) ((l[x.1]'x.2).2 : Int)), .int .u64 lo, .int .u64 hi, .bool false, .tuple #[.slice A n cap, .bool true], .pointer (some p), .agg #[.int .i64 c.bt, .int .i64 c.rw, .int .i64 c.wd, .int .i64 c.md, .int .u64 c.sd], .int .i64 c.bt, .int .u64 lo, .int .u64 hi, .tuple #[.slice A n cap, .bool true], .slice A n cap, .bool true, .bool true, .bool false, .func (.func 114) #[] #[.pointer (some ⟨w2.heap.size, 0, none⟩)], .pointer (some p), .slice A n cap, .func (.func 147) #[] #[.pointer (some ⟨w2.heap.size + 1 + 1 + 1, 0, none⟩), .pointer (some ⟨w2.heap.size + 1 + 1, 0, none⟩)], .int .i64 (spV c sts ((l[x.1]'x.2).1 : Int) ((l[x.1]'x.2).2 : Int)), undef, undef, undef, undef], defers := [] }) ?assign ?body ?done ?stop
  case assign =>
    intro lp x W K hK
    simp only [encP]
    gi_wp2
    exact hK
  case body =>
    rintro lp pre x W ⟨hdr, hh⟩ hlen
    have b1 := box_cell (hh.i (t := boxT (w2.heap.size + 1) 212 #[.func (.func 114) #[] #[.pointer (some ⟨w2.heap.size, 0, none⟩)]]) (by simp)) (i := 0) rfl
    have hsw : w2.heap.size + 4 ≤ W.heap.size := by
      have := box_lt (hh.i (t := boxT (w2.heap.size + 1 + 1 + 1) 118 #[.slice A n cap]) (by simp))
      omega
    gi_wp2_with (refine ⟨trivial, ?_⟩; gi_at_call 114; refine (CallsIn.inRound lp (callsIn_wide.2 (gather_any w2.heap.size (w2.heap.size + 4) (fun _ => False) w2 W hdr (gotV c sts l pre) _ _ [] hh (by unfold gotV; rw [List.length_map]; omega) hsw))).mono ?_; rintro e W3 ⟨hdr3, rfl, hh3, hk3, ho3⟩)
    refine ⟨ho3.from _, by rw [hsz]; exact hk3, hdr3, ?_⟩
    have e7 : gotV c sts l (pre ++ [x]) = gotV c sts l pre ++ [.int .i64 (spV c sts ((l[x.1]'x.2).1 : Int) ((l[x.1]'x.2).2 : Int))] := by unfold gotV; rw [List.map_append]; rfl
    rw [e7]
    exact hh3
  case done =>
    rintro D ys W hD ⟨hup, hyl⟩ ⟨hdr, hh⟩ hK
    have o1 := box_cell (hh.i (t := boxT w2.heap.size 54 #[hdr]) (by simp)) (i := 0) rfl
    gi_wp2
    refine ⟨by simp, .inl ⟨_, _, rfl, run_takeDeferred hK, ?_⟩⟩
    have hs2 := HoldC.own (B := W0.heap.size) (by omega) (fun (_ : Unit) => _) () _ _ _ hh (grownBy_putObj' _ D (.deferred none)) (fun r e => by cases e; exact ⟨hD, _, hK, rfl⟩)
    obtain ⟨A2, cap2, rfl, g1, g2, g3⟩ := own_any16 (hs2.i (t := ownT (w2.heap.size + 4) 2 hdr (gotV c sts l ys)) (by simp))
    have e8 := got_all (c := c) (sts := sts) hup hyl
    have e9 : (gotV c sts l ys).length = l.length := by rw [e8]; simp
    rw [HL2.out]
    refine ⟨_, ?_, A2, (gotV c sts l ys).length, cap2, rfl, fun j v hj => g3 j _ (by rw [e8, List.getElem?_map, hj]; rfl), by rw [e9]; simp, g1, g2, W1.out.trans (hs2.1.1.below.mono (by omega))⟩
    simp [results, Tryz.results79, go_sem]
  case stop =>
    rintro D j pre W _ _ h _
    exact h.elim
theorem sp_parts (p : Addr) (F : Nat → Prop) (c : Cfg) (sts : List LS) (lo hi : Int) (w : World) (h : ST w p F c sts) (lo0 : 0 ≤ lo) (lo1 : lo ≤ 18446744073709551615) (hi0 : 0 ≤ hi) (hi1 : hi ≤ 18446744073709551615) :
    Calls Tryz.prog 79 #[.pointer (some p), .int .u64 lo, .int .u64 hi] w fun e w' => ∃ (A : Option Addr) (n cap : Nat), e = .returned (.tuple #[.slice A n cap, .int .i64 (ptC2 c lo hi)]) ∧ Rd .i64 w' A (ptL c (fun L i => spV c sts (L : Int) i) lo hi) ∧ (ptL c (fun L i => spV c sts (L : Int) i) lo hi).length = n ∧ n ≤ cap ∧ cap ≤ maxLen ∧ Below w.heap.size w w' := by
  by_cases h1 : hi < lo
  · exact sp_parts_1 p F c sts lo hi w h h1
  · by_cases h2 : keys c 0 ≤ hi
    · exact sp_parts_2 p F c sts lo hi w h lo0 lo1 hi0 hi1 h1 h2
    · exact sp_parts_3 p F c sts lo hi w h lo0 lo1 hi0 hi1 h1 h2
set_option maxRecDepth 100000 in
set_option maxHeartbeats 2000000 in
theorem sp_range (p : Addr) (F : Nat → Prop) (c : Cfg) (sts : List LS) (lo hi : Int) (w : World) (h : ST w p F c sts) (lo0 : 0 ≤ lo) (lo1 : lo ≤ 18446744073709551615) (hi0 : 0 ≤ hi) (hi1 : hi ≤ 18446744073709551615) :
    Calls Tryz.prog 40 #[.pointer (some p), .int .u64 lo, .int .u64 hi] w fun e w' => e = .returned (.tuple #[.int .i64 (rgV c (fun L i => spV c sts (L : Int) i) lo hi), .int .i64 (rgC c (fun L i => spV c sts (L : Int) i) lo hi)]) ∧ Below w.heap.size w w' := by
  have CP := Lib.hid (fun w h => sp_parts p F c sts lo hi w h lo0 lo1 hi0 hi1)
  have HS := Lib.hid h
  have HL := Lib.hid (parts_len16 h.1 (fun L i => spV c sts (L : Int) i) lo hi lo0)
  have HI := Lib.hid (parts_in16 h lo hi)
  clear h lo0 lo1 hi0 hi1
  by_cases hc : ptC2 c lo hi = 0
  · have e2 : ptL c (fun L i => spV c sts (L : Int) i) lo hi = parts c (fun L i => spV c sts (L : Int) i) lo hi := by unfold ptL; rw [if_pos hc]
    rw [e2] at HL HI
    have HC := Lib.hid hc
    have HE2 := Lib.hid e2
    obtain ⟨fb, hfb⟩ : ∃ fb, Wid.fit64 (parts c (fun L i => spV c sts (L : Int) i) lo hi).sum = fb := ⟨_, rfl⟩
    have HFB := Lib.hid hfb
    have HV : Hid (rgC c (fun L i => spV c sts (L : Int) i) lo hi = (if fb = true then 0 else 4) ∧ rgV c (fun L i => spV c sts (L : Int) i) lo hi = (if fb = true then (parts c (fun L i => spV c sts (L : Int) i) lo hi).sum else 0)) := Lib.hid (by
      have e5 : rgC c (fun L i => spV c sts (L : Int) i) lo hi = (if fb = true then 0 else 4) := by unfold rgC; rw [if_pos hc, hfb]
      refine ⟨e5, ?_⟩
      unfold rgV
      rw [e5]
      cases fb <;> simp)
    rw [HV.out.1, HV.out.2]
    clear HV hc e2 hfb
    cases fb with
    | true =>
      have e6 : Wid.f64 (parts c (fun L i => spV c sts (L : Int) i) lo hi).sum = (parts c (fun L i => spV c sts (L : Int) i) lo hi).sum := by unfold Wid.f64; rw [if_pos HFB.out]
      have HE6 := Lib.hid e6
      clear e6
      go_enter Tryz.func40, Tryz.ntmps40
      go_wp2_with (first
        | (go_at_call 79; (refine (CP.out _ HS.out).mono ?_); rintro e w1 ⟨A, n, cap, rfl, hr1, hl1, hn1, hm1, hb1⟩; rw [HC.out]; rw [HE2.out] at hr1 hl1)
        | (go_at_call 80; (refine (Wid.sum_any A n cap _ _ hr1 hl1 (by rw [← hl1]; exact HL.out) HI.out).mono ?_); rintro e w2 ⟨rfl, hb2⟩; rw [HFB.out, HE6.out]))
      refine bodyPost_ret (v := .tuple #[.int .i64 (parts c (fun L i => spV c sts (L : Int) i) lo hi).sum, .int .i64 0]) (by simp [results, Tryz.results40, go_sem]) rfl ?_
      exact ⟨rfl, hb1.trans (hb2.mono hb1.size)⟩
    | false =>
      have e6 : Wid.f64 (parts c (fun L i => spV c sts (L : Int) i) lo hi).sum = 0 := by unfold Wid.f64; rw [if_neg (by rw [HFB.out]; decide)]
      have HE6 := Lib.hid e6
      clear e6
      go_enter Tryz.func40, Tryz.ntmps40
      go_wp2_with (first
        | (go_at_call 79; (refine (CP.out _ HS.out).mono ?_); rintro e w1 ⟨A, n, cap, rfl, hr1, hl1, hn1, hm1, hb1⟩; rw [HC.out]; rw [HE2.out] at hr1 hl1)
        | (go_at_call 80; (refine (Wid.sum_any A n cap _ _ hr1 hl1 (by rw [← hl1]; exact HL.out) HI.out).mono ?_); rintro e w2 ⟨rfl, hb2⟩; rw [HFB.out, HE6.out]))
      refine bodyPost_ret (v := .tuple #[.int .i64 0, .int .i64 4]) (by simp [results, Tryz.results40, go_sem]) rfl ?_
      exact ⟨rfl, hb1.trans (hb2.mono hb1.size)⟩
  · have e5 : rgC c (fun L i => spV c sts (L : Int) i) lo hi = ptC2 c lo hi := by unfold rgC; rw [if_neg hc]
    have e6 : rgV c (fun L i => spV c sts (L : Int) i) lo hi = 0 := by unfold rgV; rw [e5, if_neg hc]
    rw [e5, e6]
    clear e5 e6
    obtain ⟨C, hC⟩ : ∃ C, ptC2 c lo hi = C := ⟨_, rfl⟩
    have HC := Lib.hid hC
    rw [hC] at hc ⊢
    clear hC
    go_enter Tryz.func40, Tryz.ntmps40
    go_wp2_with (go_at_call 79; (refine (CP.out _ HS.out).mono ?_); rintro e w1 ⟨A, n, cap, rfl, hr1, hl1, hn1, hm1, hb1⟩; rw [HC.out])
    refine bodyPost_ret (v := .tuple #[.int .i64 0, .int .i64 C]) (by simp [results, Tryz.results40, go_sem]) rfl ?_
    exact ⟨rfl, hb1⟩
end Go.Proofs.YtkflggojiiebeaaGreat.Spn

namespace Go.Proofs.YtkflggojiiebeaaGreat.Smr
open Go Go.RowKit Lw Grd Lin Con Shp Sk Exa Lev Stk Pcs Spn Qnt Hvy
set_option linter.unusedVariables false
set_option linter.unusedSimpArgs false
theorem u64_info : (Tryz.prog.info? 22).map (fun i => (i.zero, i.size, i.bytes)) = some (some (.int .u64 0), 1, 8) := by kernel_rfl
theorem u64s_u : Tryz.prog.underlying 66 = some (.slice 22) := by kernel_rfl
theorem i64_info : (Tryz.prog.info? 2).map (fun i => (i.zero, i.size, i.bytes)) = some (some (.int .i64 0), 1, 8) := by kernel_rfl
theorem i64s_u : Tryz.prog.underlying 54 = some (.slice 2) := by kernel_rfl
theorem one_u64 (a : Int) : ∀ u ∈ ([.int .u64 a] : List Value), u.oneCell' = true := by
  intro u hu
  rw [List.mem_singleton.1 hu]
  rfl
theorem one_i64 (a : Int) : ∀ u ∈ ([.int .i64 a] : List Value), u.oneCell' = true := by
  intro u hu
  rw [List.mem_singleton.1 hu]
  rfl
def encS (s : Int × Int) : List Value := [.int .u64 s.1, .int .u64 s.2]
theorem encS_len (s : Int × Int) : (encS s).length = 2 := rfl
set_option maxRecDepth 100000 in
set_option maxHeartbeats 4000000 in
theorem clos_q (p : Addr) (F : Nat → Prop) (c : Cfg) (sts : List LS) (b : Nat) (k : Int) (w : World) (h : ST w p F c sts) (hb : w.cell? ⟨b, 0, none⟩ = some (.pointer (some p))) (k0 : -9223372036854775808 ≤ k) (k1 : k ≤ 9223372036854775807) :
    Calls Tryz.prog 66 #[.int .i64 k, .pointer (some ⟨b, 0, none⟩)] w fun e w' => e = .returned (.tuple #[.int .u64 (qnF c (fun L i => spV c sts (L : Int) i) k).1, .int .i64 (qnF c (fun L i => spV c sts (L : Int) i) k).2]) ∧ Below w.heap.size w w' := by
  have CQ := Lib.hid (qn_quant p F c sts k w h k0 k1)
  show Calls _ _ _ _ fun e w' => e = .returned (.tuple #[.int .u64 (qnV c (fun L i => spV c sts (L : Int) i) k), .int .i64 (qnC c (fun L i => spV c sts (L : Int) i) k)]) ∧ Below w.heap.size w w'
  obtain ⟨V, hV⟩ : ∃ v, qnV c (fun L i => spV c sts (L : Int) i) k = v := ⟨_, rfl⟩
  obtain ⟨E, hE⟩ : ∃ v, qnC c (fun L i => spV c sts (L : Int) i) k = v := ⟨_, rfl⟩
  rw [hV, hE] at CQ ⊢
  clear hV hE h k0 k1
  go_enter Tryz.func66, Tryz.ntmps66
  go_wp2_with (go_at_call 39; (with_reducible refine (CQ.out).mono ?_); rintro e w1 ⟨rfl, hb1⟩; have HB1 := Lib.hid hb1; clear hb1)
  refine bodyPost_ret (v := .tuple #[.int .u64 V, .int .i64 E]) (by simp [results, Tryz.results66, go_sem]) rfl ?_
  exact ⟨rfl, HB1.out⟩
set_option maxRecDepth 100000 in
set_option maxHeartbeats 4000000 in
theorem clos_r (p : Addr) (F : Nat → Prop) (c : Cfg) (sts : List LS) (b : Nat) (lo hi : Int) (w : World) (h : ST w p F c sts) (hb : w.cell? ⟨b, 0, none⟩ = some (.pointer (some p))) (l0 : 0 ≤ lo) (l1 : lo ≤ 18446744073709551615) (i0 : 0 ≤ hi) (i1 : hi ≤ 18446744073709551615) :
    Calls Tryz.prog 70 #[.agg #[.int .u64 lo, .int .u64 hi], .pointer (some ⟨b, 0, none⟩)] w fun e w' => e = .returned (.tuple #[.int .i64 (rgF c (fun L i => spV c sts (L : Int) i) (lo, hi)).1, .int .i64 (rgF c (fun L i => spV c sts (L : Int) i) (lo, hi)).2]) ∧ Below w.heap.size w w' := by
  have HX := Lib.hid (Lw.below_alloc (Below.refl _ w) (.cells #[.int .u64 lo, .int .u64 hi] 155))
  have CQ := Lib.hid (sp_range p F c sts lo hi _ (h.up HX.out) l0 l1 i0 i1)
  have hc := cell_up hb HX.out
  show Calls _ _ _ _ fun e w' => e = .returned (.tuple #[.int .i64 (rgV c (fun L i => spV c sts (L : Int) i) lo hi), .int .i64 (rgC c (fun L i => spV c sts (L : Int) i) lo hi)]) ∧ Below w.heap.size w w'
  obtain ⟨V, hV⟩ : ∃ v, rgV c (fun L i => spV c sts (L : Int) i) lo hi = v := ⟨_, rfl⟩
  obtain ⟨E, hE⟩ : ∃ v, rgC c (fun L i => spV c sts (L : Int) i) lo hi = v := ⟨_, rfl⟩
  rw [hV, hE] at CQ ⊢
  clear hV hE h l0 l1 i0 i1 hb
  go_enter Tryz.func70, Tryz.ntmps70
  go_wp2_with (go_at_call 40; (with_reducible refine (CQ.out).mono ?_); rintro e w1 ⟨rfl, hb1⟩; have HB1 := Lib.hid (HX.out.trans (hb1.mono HX.out.size)); clear hb1)
  refine bodyPost_ret (v := .tuple #[.int .i64 V, .int .i64 E]) (by simp [results, Tryz.results70, go_sem]) rfl ?_
  exact ⟨rfl, HB1.out⟩
set_option maxRecDepth 100000 in
set_option maxHeartbeats 4000000 in
theorem gather_q (p : Addr) (F : Nat → Prop) (c : Cfg) (sts : List LS) (b : Nat) (A : Option Addr) (n cap : Nat) (ks : List (Int)) (w : World) (h : ST w p F c sts) (hb : w.cell? ⟨b, 0, none⟩ = some (.pointer (some p))) (hA : A = none → n = 0 ∧ cap = 0) (hrd : Rd .i64 w A ks) (hl : ks.length = n) (hz : In64 ks) (hn : n ≤ 4096) :
    Calls Tryz.prog 65 #[.slice A n cap, .func (.func 66) #[] #[.pointer (some ⟨b, 0, none⟩)]] w fun e w' => ∃ (A2 : Option Addr) (n2 cap2 : Nat), e = .returned (.tuple #[.slice A2 n2 cap2, .int .i64 (manyC (qnF c (fun L i => spV c sts (L : Int) i)) ks)]) ∧ w'.ownsRow w.heap.size 22 1 (.slice A2 n2 cap2) n2 ((manyL (qnF c (fun L i => spV c sts (L : Int) i)) ks).map (Value.int .u64)) ∧ (manyL (qnF c (fun L i => spV c sts (L : Int) i)) ks).length = n2 ∧ Below w.heap.size w w' := by
  have HD := Lib.hid h
  have HB := Lib.hid hb
  have HZ := Lib.hid hz
  have HRD := Lib.hid hrd
  have HL := Lib.hid hl
  have HN := Lib.hid hn
  obtain ⟨i0, hi_, hz0, hz1, hz2⟩ := info_parts u64_info
  clear h hb hz hn hrd hl hA
  go_enter Tryz.func65, Tryz.ntmps65
  go_wp2
  go_loopw [6, 13] (fun av iv wr => ∃ (t : Nat), t ≤ n ∧ iv = .int .i64 (t : Int) ∧ (∀ q ∈ ks.take t, ((qnF c (fun L i => spV c sts (L : Int) i)) q).2 = 0) ∧ Have w wr [ownK w.heap.size 22 1 av t (((ks.take t).map (fun q => ((qnF c (fun L i => spV c sts (L : Int) i)) q).1)).map (Value.int .u64))]) (fun _ iv _ => n - (intOf iv).toNat)
  case atStart => exact ⟨0, Nat.zero_le _, rfl, fun q hq => by simp at hq, (Have.nil w).push (ownK w.heap.size 22 1 (.slice none 0 0) 0 []) (Below.refl _ _) (World.ownsRow_nil w _ _ _) (fun k hk => by cases hk)⟩
  case round =>
    obtain ⟨t, ht, rfl, hok, hv⟩ := hrel
    have HVr := Lib.hid hv
    have HOK := Lib.hid hok
    clear hv hok
    by_cases hlt : t < n
    · have lt0 : (0 : Int) ≤ (t : Int) := by omega
      have lt1 : (t : Int) < (n : Int) := by omega
      obtain ⟨q, hq⟩ : ∃ q, ks[t]? = some q := ⟨_, List.getElem?_eq_getElem (by rw [HL.out]; exact hlt)⟩
      have HQ := Lib.hid hq
      have hzq := HZ.out q (List.mem_of_getElem? hq)
      obtain ⟨V, hV⟩ : ∃ v, ((qnF c (fun L i => spV c sts (L : Int) i)) q).1 = v := ⟨_, rfl⟩
      obtain ⟨E, hE⟩ : ∃ v, ((qnF c (fun L i => spV c sts (L : Int) i)) q).2 = v := ⟨_, rfl⟩
      have HVE := Lib.hid (And.intro hV hE)
      obtain ⟨ad, rfl, hcz⟩ := HRD.out _ _ hq
      have d1 := cell_up hcz HVr.out.below
      have CC : Hid (∀ w9, ST w9 p F c sts → w9.cell? ⟨b, 0, none⟩ = some (.pointer (some p)) → Calls Tryz.prog 66 #[.int .i64 q, .pointer (some ⟨b, 0, none⟩)] w9 fun e w' => e = .returned (.tuple #[.int .u64 V, .int .i64 E]) ∧ Below w9.heap.size w9 w') := Lib.hid (fun w9 h1 h2 => by rw [← hV, ← hE]; exact clos_q p F c sts b q w9 h1 h2 hzq.1 hzq.2)
      clear hq hcz hV hE hzq
      by_cases hE0 : E = 0
      · subst hE0
        have HNX := Lib.hid (all_next (p := fun q => ((qnF c (fun L i => spV c sts (L : Int) i)) q).2 = 0) HQ.out HOK.out HVE.out.2)
        have HTK : Hid ((((ks.take (t + 1)).map (fun q => ((qnF c (fun L i => spV c sts (L : Int) i)) q).1)).map (Value.int .u64)) = (((ks.take t).map (fun q => ((qnF c (fun L i => spV c sts (L : Int) i)) q).1)).map (Value.int .u64)) ++ [.int .u64 V]) := Lib.hid (by rw [take_next HQ.out, List.map_append, List.map_append]; show _ ++ [Value.int .u64 ((qnF c (fun L i => spV c sts (L : Int) i)) _).1] = _; rw [HVE.out.1])
        go_upto_region 8 with (go_at_call 66; (with_reducible refine (CC.out _ (HD.out.up HVr.out.below) (cell_up HB.out HVr.out.below)).mono ?_); rintro e w5 ⟨rfl, hb⟩; have HV5 := Lib.hid (HVr.out.up hb); clear hb)
        have n4 := HN.out
        go_wp2_with (at_builtin; go_must (refine wpList_append_lies _ rfl _ _ 66 rfl w.heap.size 22 i0 (.int .u64 0) 1 8 u64s_u hi_ hz0 hz1 hz2 rfl (by decide) _ _ _ rfl ((okI HV5.out.i0).alloc _) ⟨_, 0, none⟩ 1 1 [.int .u64 V] rfl rfl (World.news_of_block (heap_alloc_new w5 _)) (one_u64 _) (by decide) (by unfold maxLen; omega) (by omega) (by simp; have := HV5.out.below.size; omega) _ rfl ?_); intro g7 cap7 w7 hown7 hgrow7 hat7 hlt7)
        have HVa := Lib.hid (HV5.out.up (Lw.below_alloc (Below.refl _ w5) (.cells #[.int .u64 V] 22)))
        have HV7 := Lib.hid (turn0K HVa.out hown7 hgrow7 hat7)
        go_roundw
        case rel => exact ⟨t + 1, by omega, by go_num, HNX.out, by rw [HTK.out]; exact HV7.out.up (by repeat' (first | (with_reducible first | exact Below.refl _ _ | assumption | refine below_over ?_ _ _ | refine Lw.below_alloc ?_ _ | refine Below.drew ?_ | refine below_drewN ?_ _ | refine Below.setCell ?_ ?_ _) | go_size))⟩
        case measure => simp [intOf]; omega
      · have hE1 : ((E : Int) == 0) = false := beq_eq_false_iff_ne.2 hE0
        have hE2 : ((E : Int) != 0) = true := by simp [hE0]
        have HMA := Lib.hid (many_at HQ.out HOK.out (by rw [HVE.out.2]; exact hE0))
        have HEE := Lib.hid HVE.out.2
        go_wp2_with (go_at_call 66; (with_reducible refine (CC.out _ (HD.out.up HVr.out.below) (cell_up HB.out HVr.out.below)).mono ?_); rintro e w5 ⟨rfl, hb⟩; have HV5 := Lib.hid (HVr.out.up hb); clear hb)
        refine bodyPost_ret (v := .tuple #[.slice none 0 0, .int .i64 E]) (by simp [results, Tryz.results65, go_sem]) rfl ?_
        rw [HMA.out.1, HMA.out.2, HEE.out]
        exact ⟨none, 0, 0, rfl, World.ownsRow_nil _ _ _ _, rfl, HV5.out.below⟩
    · obtain rfl : t = n := by omega
      have lt1 : ¬ (t : Int) < (t : Int) := by omega
      have et : ks.take t = ks := List.take_of_length_le (by rw [HL.out]; omega)
      rw [et] at HVr HOK
      have HMK := Lib.hid (many_ok HOK.out)
      obtain ⟨-, A2, cap2, rfl⟩ := own_formK (okI HVr.out.i0)
      go_wp2
      refine bodyPost_ret (v := .tuple #[.slice A2 t cap2, .int .i64 0]) (by simp [results, Tryz.results65, go_sem]) rfl ?_
      rw [HMK.out.1, HMK.out.2]
      exact ⟨A2, t, cap2, rfl, okI HVr.out.i0, by rw [List.length_map]; exact HL.out, HVr.out.below⟩
set_option maxRecDepth 100000 in
set_option maxHeartbeats 4000000 in
theorem gather_r (p : Addr) (F : Nat → Prop) (c : Cfg) (sts : List LS) (b : Nat) (A : Option Addr) (n cap : Nat) (ks : List (Int × Int)) (w : World) (h : ST w p F c sts) (hb : w.cell? ⟨b, 0, none⟩ = some (.pointer (some p))) (hst : StV 2 encS w A n cap ks) (hz : ∀ s ∈ ks, (0 ≤ s.1 ∧ s.1 ≤ 18446744073709551615) ∧ (0 ≤ s.2 ∧ s.2 ≤ 18446744073709551615)) (hn : n ≤ 4096) :
    Calls Tryz.prog 69 #[.slice A n cap, .func (.func 70) #[] #[.pointer (some ⟨b, 0, none⟩)]] w fun e w' => ∃ (A2 : Option Addr) (n2 cap2 : Nat), e = .returned (.tuple #[.slice A2 n2 cap2, .int .i64 (manyC (rgF c (fun L i => spV c sts (L : Int) i)) ks)]) ∧ w'.ownsRow w.heap.size 2 1 (.slice A2 n2 cap2) n2 ((manyL (rgF c (fun L i => spV c sts (L : Int) i)) ks).map (Value.int .i64)) ∧ (manyL (rgF c (fun L i => spV c sts (L : Int) i)) ks).length = n2 ∧ Below w.heap.size w w' := by
  have HD := Lib.hid h
  have HB := Lib.hid hb
  have HZ := Lib.hid hz
  have HST := Lib.hid hst
  have HL := Lib.hid hst.len
  have HN := Lib.hid hn
  obtain ⟨i0, hi_, hz0, hz1, hz2⟩ := info_parts i64_info
  clear h hb hz hn hst
  go_enter Tryz.func69, Tryz.ntmps69
  go_wp2
  go_loopw [6, 13] (fun av iv wr => ∃ (t : Nat), t ≤ n ∧ iv = .int .i64 (t : Int) ∧ (∀ q ∈ ks.take t, ((rgF c (fun L i => spV c sts (L : Int) i)) q).2 = 0) ∧ Have w wr [ownK w.heap.size 2 1 av t (((ks.take t).map (fun q => ((rgF c (fun L i => spV c sts (L : Int) i)) q).1)).map (Value.int .i64))]) (fun _ iv _ => n - (intOf iv).toNat)
  case atStart => exact ⟨0, Nat.zero_le _, rfl, fun q hq => by simp at hq, (Have.nil w).push (ownK w.heap.size 2 1 (.slice none 0 0) 0 []) (Below.refl _ _) (World.ownsRow_nil w _ _ _) (fun k hk => by cases hk)⟩
  case round =>
    obtain ⟨t, ht, rfl, hok, hv⟩ := hrel
    have HVr := Lib.hid hv
    have HOK := Lib.hid hok
    clear hv hok
    by_cases hlt : t < n
    · have lt0 : (0 : Int) ≤ (t : Int) := by omega
      have lt1 : (t : Int) < (n : Int) := by omega
      obtain ⟨q, hq⟩ : ∃ q, ks[t]? = some q := ⟨_, List.getElem?_eq_getElem (by rw [HL.out]; exact hlt)⟩
      have HQ := Lib.hid hq
      have hzq := HZ.out q (List.mem_of_getElem? hq)
      obtain ⟨V, hV⟩ : ∃ v, ((rgF c (fun L i => spV c sts (L : Int) i)) q).1 = v := ⟨_, rfl⟩
      obtain ⟨E, hE⟩ : ∃ v, ((rgF c (fun L i => spV c sts (L : Int) i)) q).2 = v := ⟨_, rfl⟩
      have HVE := Lib.hid (And.intro hV hE)
      obtain ⟨aa, g, o, rfl, hadd, hat⟩ := (HST.out.up HVr.out.below).at hq (v0 := .int .u64 q.1) rfl
      have r0 := hat 0 (.int .u64 q.1) rfl
      have r1 := hat 1 (.int .u64 q.2) rfl
      rw [Nat.add_zero] at r0
      have CC : Hid (∀ w9, ST w9 p F c sts → w9.cell? ⟨b, 0, none⟩ = some (.pointer (some p)) → Calls Tryz.prog 70 #[.agg #[.int .u64 q.1, .int .u64 q.2], .pointer (some ⟨b, 0, none⟩)] w9 fun e w' => e = .returned (.tuple #[.int .i64 V, .int .i64 E]) ∧ Below w9.heap.size w9 w') := Lib.hid (fun w9 h1 h2 => by rw [← hV, ← hE]; exact clos_r p F c sts b q.1 q.2 w9 h1 h2 hzq.1.1 hzq.1.2 hzq.2.1 hzq.2.2)
      obtain ⟨qlo, qhi⟩ := q
      simp only at r0 r1 CC
      clear hq hat hV hE hzq
      have HVx := Lib.hid (HVr.out.up (Lw.below_alloc (Below.refl _ _) (.cells #[.int .u64 qlo, .int .u64 qhi] 155)))
      by_cases hE0 : E = 0
      · subst hE0
        have HNX := Lib.hid (all_next (p := fun q => ((rgF c (fun L i => spV c sts (L : Int) i)) q).2 = 0) HQ.out HOK.out HVE.out.2)
        have HTK : Hid ((((ks.take (t + 1)).map (fun q => ((rgF c (fun L i => spV c sts (L : Int) i)) q).1)).map (Value.int .i64)) = (((ks.take t).map (fun q => ((rgF c (fun L i => spV c sts (L : Int) i)) q).1)).map (Value.int .i64)) ++ [.int .i64 V]) := Lib.hid (by rw [take_next HQ.out, List.map_append, List.map_append]; show _ ++ [Value.int .i64 ((rgF c (fun L i => spV c sts (L : Int) i)) _).1] = _; rw [HVE.out.1])
        go_upto_region 8 with (go_at_call 70; (with_reducible refine (CC.out _ (HD.out.up HVx.out.below) (cell_up HB.out HVx.out.below)).mono ?_); rintro e w5 ⟨rfl, hb⟩; have HV5 := Lib.hid (HVx.out.up hb); clear hb)
        have n4 := HN.out
        go_wp2_with (at_builtin; go_must (refine wpList_append_lies _ rfl _ _ 54 rfl w.heap.size 2 i0 (.int .i64 0) 1 8 i64s_u hi_ hz0 hz1 hz2 rfl (by decide) _ _ _ rfl ((okI HV5.out.i0).alloc _) ⟨_, 0, none⟩ 1 1 [.int .i64 V] rfl rfl (World.news_of_block (heap_alloc_new w5 _)) (one_i64 _) (by decide) (by unfold maxLen; omega) (by omega) (by simp; have := HV5.out.below.size; omega) _ rfl ?_); intro g7 cap7 w7 hown7 hgrow7 hat7 hlt7)
        have HVa := Lib.hid (HV5.out.up (Lw.below_alloc (Below.refl _ w5) (.cells #[.int .i64 V] 2)))
        have HV7 := Lib.hid (turn0K HVa.out hown7 hgrow7 hat7)
        go_roundw
        case rel => exact ⟨t + 1, by omega, by go_num, HNX.out, by rw [HTK.out]; exact HV7.out.up (by repeat' (first | (with_reducible first | exact Below.refl _ _ | assumption | refine below_over ?_ _ _ | refine Lw.below_alloc ?_ _ | refine Below.drew ?_ | refine below_drewN ?_ _ | refine Below.setCell ?_ ?_ _) | go_size))⟩
        case measure => simp [intOf]; omega
      · have hE1 : ((E : Int) == 0) = false := beq_eq_false_iff_ne.2 hE0
        have hE2 : ((E : Int) != 0) = true := by simp [hE0]
        have HMA := Lib.hid (many_at HQ.out HOK.out (by rw [HVE.out.2]; exact hE0))
        have HEE := Lib.hid HVE.out.2
        go_wp2_with (go_at_call 70; (with_reducible refine (CC.out _ (HD.out.up HVx.out.below) (cell_up HB.out HVx.out.below)).mono ?_); rintro e w5 ⟨rfl, hb⟩; have HV5 := Lib.hid (HVx.out.up hb); clear hb)
        refine bodyPost_ret (v := .tuple #[.slice none 0 0, .int .i64 E]) (by simp [results, Tryz.results69, go_sem]) rfl ?_
        rw [HMA.out.1, HMA.out.2, HEE.out]
        exact ⟨none, 0, 0, rfl, World.ownsRow_nil _ _ _ _, rfl, HV5.out.below⟩
    · obtain rfl : t = n := by omega
      have lt1 : ¬ (t : Int) < (t : Int) := by omega
      have et : ks.take t = ks := List.take_of_length_le (by rw [HL.out]; omega)
      rw [et] at HVr HOK
      have HMK := Lib.hid (many_ok HOK.out)
      obtain ⟨-, A2, cap2, rfl⟩ := own_formK (okI HVr.out.i0)
      go_wp2
      refine bodyPost_ret (v := .tuple #[.slice A2 t cap2, .int .i64 0]) (by simp [results, Tryz.results69, go_sem]) rfl ?_
      rw [HMK.out.1, HMK.out.2]
      exact ⟨A2, t, cap2, rfl, okI HVr.out.i0, by rw [List.length_map]; exact HL.out, HVr.out.below⟩
set_option maxRecDepth 100000 in
set_option maxHeartbeats 4000000 in
theorem sm_quants (p : Addr) (F : Nat → Prop) (c : Cfg) (sts : List LS) (A : Option Addr) (n cap : Nat) (ks : List Int) (w : World) (h : ST w p F c sts) (hA : A = none → n = 0 ∧ cap = 0) (hrd : Rd .i64 w A ks) (hl : ks.length = n) (hz : In64 ks) (hn : n ≤ 4096) :
    Calls Tryz.prog 28 #[.pointer (some p), .slice A n cap] w fun e w' => ∃ (A2 : Option Addr) (n2 cap2 : Nat), e = .returned (.tuple #[.slice A2 n2 cap2, .int .i64 (manyC (qnF c (fun L i => spV c sts (L : Int) i)) ks)]) ∧ w'.ownsRow w.heap.size 22 1 (.slice A2 n2 cap2) n2 ((manyL (qnF c (fun L i => spV c sts (L : Int) i)) ks).map (Value.int .u64)) ∧ (manyL (qnF c (fun L i => spV c sts (L : Int) i)) ks).length = n2 ∧ Below w.heap.size w w' := by
  have hmf : ∀ fn first cap w, (Instr.makeFunc fn first cap).run Tryz.prog w = .ok (.func fn first cap) w := fun _ _ _ _ => rfl
  have HX := Lib.hid (Lw.below_alloc (Below.refl _ w) (.cells #[.pointer (some p)] 30))
  have CG := Lib.hid (gather_q p F c sts w.heap.size A n cap ks _ (h.up HX.out) (by simp) hA (hrd.up HX.out) hl hz hn)
  obtain ⟨C, hC⟩ : ∃ v, manyC (qnF c (fun L i => spV c sts (L : Int) i)) ks = v := ⟨_, rfl⟩
  obtain ⟨L, hL⟩ : ∃ v, manyL (qnF c (fun L i => spV c sts (L : Int) i)) ks = v := ⟨_, rfl⟩
  rw [hC, hL] at CG ⊢
  clear hC hL h hA hrd hl hz hn
  go_enter Tryz.func28, Tryz.ntmps28
  go_wp2_with (go_at_call 65; (with_reducible refine (CG.out).mono ?_); rintro e w1 ⟨A2, n2, cap2, rfl, ho, hl2, hb1⟩; have HO := Lib.hid ho; have HL2 := Lib.hid hl2; have HB1 := Lib.hid (HX.out.trans (hb1.mono HX.out.size)); clear hb1 ho hl2)
  refine bodyPost_ret (v := .tuple #[.slice A2 n2 cap2, .int .i64 C]) (by simp [results, Tryz.results28, go_sem]) rfl ?_
  exact ⟨A2, n2, cap2, rfl, own_base HO.out (by simp), HL2.out, HB1.out⟩
end Go.Proofs.YtkflggojiiebeaaGreat.Smr

namespace Go.Proofs.YtkflggojiiebeaaGreat.Smr
open Go Go.RowKit Lw Grd Lin Con Shp Sk Exa Lev Stk Pcs Spn Qnt Hvy
set_option linter.unusedVariables false
set_option linter.unusedSimpArgs false
theorem nan_i64 (x : Int) (w : World) : Calls Tryz.prog 143 #[.int .i64 x] w fun e w' => e = .returned (.bool false) ∧ w' = w := by
  go_enter Tryz.func143, Tryz.ntmps143
  go_wp2
  go_ret
  exact ⟨by simp, rfl⟩
set_option maxRecDepth 100000 in
set_option maxHeartbeats 4000000 in
theorem cmp_i64 (x y : Int) (w : World) : Calls Tryz.prog 110 #[.int .i64 x, .int .i64 y] w fun e w' => e = .returned (.int .i64 (Lib.compareInt x y)) ∧ w' = w := by
  go_enter Tryz.func110, Tryz.ntmps110
  go_wp2_with (go_at_call 143; refine (nan_i64 _ _).mono ?_; rintro e w' ⟨rfl, hw⟩; rw [hw])
  all_goals (go_ret; refine ⟨?_, rfl⟩; unfold Lib.compareInt; (repeat' split) <;> first | rfl | (exfalso; omega))
theorem nan_u64 (x : Int) (w : World) : Calls Tryz.prog 144 #[.int .u64 x] w fun e w' => e = .returned (.bool false) ∧ w' = w := by
  go_enter Tryz.func144, Tryz.ntmps144
  go_wp2
  go_ret
  exact ⟨by simp, rfl⟩
set_option maxRecDepth 100000 in
set_option maxHeartbeats 4000000 in
theorem cmp_u64 (x y : Int) (w : World) : Calls Tryz.prog 111 #[.int .u64 x, .int .u64 y] w fun e w' => e = .returned (.int .i64 (Lib.compareInt x y)) ∧ w' = w := by
  go_enter Tryz.func111, Tryz.ntmps111
  go_wp2_with (go_at_call 144; refine (nan_u64 _ _).mono ?_; rintro e w' ⟨rfl, hw⟩; rw [hw])
  all_goals (go_ret; refine ⟨?_, rfl⟩; unfold Lib.compareInt; (repeat' split) <;> first | rfl | (exfalso; omega))
theorem al3_0 (w : World) (A B : Obj) (x y : Value) (e : TypeId) : (((w.alloc A).alloc B).alloc (.cells #[x, y] e)).cell? ⟨w.heap.size + 1 + 1, 0, none⟩ = some x :=
  box_cell (e := e) (vs := #[x, y]) (show (boxT _ _ _).I _ from alloc2_new w _ _ _) rfl
theorem al3_1 (w : World) (A B : Obj) (x y : Value) (e : TypeId) : (((w.alloc A).alloc B).alloc (.cells #[x, y] e)).cell? ⟨w.heap.size + 1 + 1, 1, none⟩ = some y :=
  box_cell (e := e) (vs := #[x, y]) (show (boxT _ _ _).I _ from alloc2_new w _ _ _) rfl
theorem al3_0d (w : World) (A B : Obj) (x y : Value) (e : TypeId) : (((w.alloc A).alloc B).alloc (.cells #[x, y] e)).drew.cell? ⟨w.heap.size + 1 + 1, 0, none⟩ = some x := al3_0 w A B x y e
theorem al3_1d (w : World) (A B : Obj) (x y : Value) (e : TypeId) : (((w.alloc A).alloc B).alloc (.cells #[x, y] e)).drew.cell? ⟨w.heap.size + 1 + 1, 1, none⟩ = some y := al3_1 w A B x y e
theorem al3_grow (w : World) (A B C : Obj) : (((w.alloc A).alloc B).alloc C).drew = Go.Sort.grow (w.drewN 1) #[A, B, C] := by
  rw [Go.Sort.alloc_eq_grow, Go.Sort.alloc_eq_grow, Go.Sort.alloc_eq_grow, Go.Sort.grow_grow, Go.Sort.grow_grow]
  rfl
set_option maxRecDepth 100000 in
set_option maxHeartbeats 4000000 in
theorem or_any (b : Nat) (x y : Int) (w : World) (h0 : w.cell? ⟨b, 0, none⟩ = some (.int .i64 x)) (h1 : w.cell? ⟨b, 1, none⟩ = some (.int .i64 y)) :
    Calls Tryz.prog 109 #[.slice (some ⟨b, 0, none⟩) 2 2] w fun e w' => e = .returned (.int .i64 (if x = 0 then y else x)) ∧ w' = w := by
  go_enter Tryz.func109, Tryz.ntmps109
  go_wp2
  go_loopw [8] (fun iv wr => wr = w ∧ (iv = .int .i64 0 ∨ (iv = .int .i64 1 ∧ x = 0) ∨ (iv = .int .i64 2 ∧ x = 0 ∧ y = 0))) (fun iv _ => 2 - (intOf iv).toNat)
  case atStart => exact ⟨rfl, .inl rfl⟩
  case round =>
    obtain ⟨rfl, hc⟩ := hrel
    rcases hc with rfl | ⟨rfl, rfl⟩ | ⟨rfl, rfl, rfl⟩
    · by_cases hx : x = 0
      · subst hx
        go_wp2
        go_roundw
        case rel => first | exact ⟨rfl, .inr (.inl ⟨rfl, rfl⟩)⟩ | simp
        case measure => simp [intOf]
      · have g1 : ((x : Int) != 0) = true := by simp [hx]
        go_wp2
        go_ret
        exact ⟨by first | rfl | (rw [if_neg hx]; rfl) | (simp [*]; done), rfl⟩
    · by_cases hy : y = 0
      · subst hy
        go_wp2
        go_roundw
        case rel => first | exact ⟨rfl, .inr (.inr ⟨rfl, rfl, rfl⟩)⟩ | simp
        case measure => simp [intOf]
      · have g1 : ((y : Int) != 0) = true := by simp [hy]
        go_wp2
        go_ret
        exact ⟨by first | rfl | (rw [if_pos rfl]; rfl) | (simp [*]; done), rfl⟩
    · go_wp2
      go_ret
      exact ⟨by first | rfl | (rw [if_pos rfl]; rfl) | (simp [*]; done), rfl⟩
set_option maxRecDepth 100000 in
set_option maxHeartbeats 4000000 in
theorem ahead_any (x y : Nat × Int) (w : World) :
    Calls Tryz.prog 75 #[.agg (encK x).toArray, .agg (encK y).toArray] w fun e w' => e = .returned (.int .i64 (cfK x y)) ∧ ∃ q os', w' = Go.Sort.grow (w.drewN q) os' := by
  show Calls Tryz.prog 75 #[.agg #[.int .i64 0, .int .u64 (x.1 : Int), .int .i64 x.2], .agg #[.int .i64 0, .int .u64 (y.1 : Int), .int .i64 y.2]] w fun e w' => e = .returned (.int .i64 (if Lib.compareInt y.2 x.2 = 0 then Lib.compareInt (x.1 : Int) (y.1 : Int) else Lib.compareInt y.2 x.2)) ∧ ∃ q os', w' = Go.Sort.grow (w.drewN q) os'
  obtain ⟨a1, a2⟩ := x
  obtain ⟨b1, b2⟩ := y
  simp only
  have C1 := Lib.hid (fun w => cmp_i64 b2 a2 w)
  have C2 := Lib.hid (fun w => cmp_u64 (a1 : Int) (b1 : Int) w)
  obtain ⟨X, hX⟩ : ∃ v, Lib.compareInt b2 a2 = v := ⟨_, rfl⟩
  obtain ⟨Y, hY⟩ : ∃ v, Lib.compareInt (a1 : Int) (b1 : Int) = v := ⟨_, rfl⟩
  rw [hX] at C1 ⊢
  rw [hY] at C2 ⊢
  have HO := Lib.hid (fun b w h0 h1 => or_any b X Y w h0 h1)
  obtain ⟨Z, hZ⟩ : ∃ v, (if X = 0 then Y else X) = v := ⟨_, rfl⟩
  rw [hZ] at HO ⊢
  clear hX hY hZ
  go_enter Tryz.func75, Tryz.ntmps75
  go_upto_region 1 with fail
  go_region_held3 (fun w' => w'.cell? ⟨w.heap.size, 1, none⟩ = some (.int .u64 (a1 : Int)) ∧ w'.cell? ⟨w.heap.size, 2, none⟩ = some (.int .i64 a2) ∧ w'.cell? ⟨w.heap.size + 1, 1, none⟩ = some (.int .u64 (b1 : Int)) ∧ w'.cell? ⟨w.heap.size + 1, 2, none⟩ = some (.int .i64 b2)) (simp [go_sem]) (first
    | (go_at_call 109; (with_reducible refine (HO.out _ _ (by first | exact al3_0 w _ _ _ _ _ | exact al3_0d w _ _ _ _ _) (by first | exact al3_1 w _ _ _ _ _ | exact al3_1d w _ _ _ _ _)).mono ?_); rintro e w' ⟨rfl, rfl⟩)
    | (go_at_call 110; ((with_reducible refine (C1.out _).mono ?_)); rintro e w' ⟨rfl, rfl⟩)
    | (go_at_call 111; ((with_reducible refine (C2.out _).mono ?_)); rintro e w' ⟨rfl, rfl⟩))
  all_goals go_wp2
  all_goals go_ret
  all_goals exact ⟨rfl, 1, _, al3_grow _ _ _ _⟩
theorem ahead_lays (g off size : Nat) (w : World) : Go.Proofs.CmpLays Tryz.prog 75 #[] encK 3 cfK g off size w :=
  fun m os dk hs x y => ahead_any x y _
end Go.Proofs.YtkflggojiiebeaaGreat.Smr

namespace Go.Proofs.YtkflggojiiebeaaGreat.Smr
open Go Go.RowKit Lw Grd Lin Con Shp Sk Exa Lev Stk Pcs Spn Qnt Hvy
set_option linter.unusedVariables false
set_option linter.unusedSimpArgs false
theorem flat_app3 (l m : List ((Nat × Nat) × Int)) : (l ++ m).flatMap encF = l.flatMap encF ++ m.flatMap encF := List.flatMap_append ..
theorem flat_set3 : ∀ (l : List ((Nat × Nat) × Int)) (i : Nat) (q : (Nat × Nat) × Int) (rest : List Value), i < l.length → (((l.flatMap encF ++ rest).set (i * 3) (.int .i64 (q.1.1 : Int))).set (i * 3 + 1) (.int .u64 (q.1.2 : Int))).set (i * 3 + 2) (.int .i64 q.2) = (l.set i q).flatMap encF ++ rest
  | [], i, q, rest, h => by simp at h
  | p :: ps, 0, q, rest, _ => rfl
  | p :: ps, i + 1, q, rest, h => by
    have ih := flat_set3 ps i q rest (by simpa using h)
    have e1 : (p :: ps).flatMap encF ++ rest = .int .i64 (p.1.1 : Int) :: .int .u64 (p.1.2 : Int) :: .int .i64 p.2 :: (ps.flatMap encF ++ rest) := rfl
    have e2 : ((p :: ps).set (i + 1) q).flatMap encF ++ rest = .int .i64 (p.1.1 : Int) :: .int .u64 (p.1.2 : Int) :: .int .i64 p.2 :: ((ps.set i q).flatMap encF ++ rest) := rfl
    rw [e1, e2, ← ih]
    have n0 : (i + 1) * 3 = i * 3 + 2 + 1 := by omega
    have n1 : (i + 1) * 3 + 1 = i * 3 + 1 + 2 + 1 := by omega
    have n2 : (i + 1) * 3 + 2 = i * 3 + 2 + 2 + 1 := by omega
    rw [n2, n1, n0]
    rfl
theorem below_setCells {b : Nat} {e : TypeId} : ∀ {vs : List Value} {o : Nat} {w : World} {cur : Array Value}, (boxT b e cur).I w → o + vs.length ≤ cur.size → ∃ cur', (boxT b e cur').I (w.setCells b o vs) ∧ cur'.size = cur.size ∧ (∀ k, k ≤ o → cur'.toList.take k = cur.toList.take k) ∧ Kept (fun k => k = b) w (w.setCells b o vs)
  | [], o, w, cur, h, _ => ⟨cur, h, rfl, fun _ _ => rfl, Kept.refl _ _⟩
  | v :: vs, o, w, cur, h, hs => by
    have h1 := Pcs.boxs_set h o v
    obtain ⟨cur', g1, g2, g3, g4⟩ := below_setCells (vs := vs) (o := o + 1) (w := w.setCell ⟨b, o, none⟩ v) h1 (by simp at hs ⊢; omega)
    refine ⟨cur', g1, by rw [g2]; simp, fun k hk => ?_, ((Kept.refl (fun k => k = b) w).set (.inl rfl) o v).trans g4 (fun _ _ h => h)⟩
    rw [g3 k (by omega), Array.toList_setIfInBounds, List.take_set_of_le (by omega)]
theorem clear_any {P : Program} (w : World) (t e ty : TypeId) (z : Value) (ht : P.underlying t = some (.slice e)) (hv : ∀ w, (zeroValue e).run P w = .ok z w) (b o n c : Nat) (hn : 0 < n) (vs : List Value) (hzc : (Builtin.zeroCells z.cells n).toList = vs) (h1 : ∀ v ∈ vs, v.oneCell' = true)
    (hc : ∀ j, j < vs.length → (w.cell? ⟨b, o + j, none⟩).isSome = true) (hf : ∀ j, j < vs.length → w.frozen? ⟨b, o + j, none⟩ = false) :
    (Builtin.clear_ #[t] ty #[.slice (some ⟨b, o, none⟩) n c]).run P w = .ok (.tuple #[]) (w.setCells b o vs) := by
  have hst := run_storeCells_cells (P := P) b o vs 0 w (by simpa using hc) (by simpa using hf) h1
  simp only [Nat.add_zero] at hst
  obtain ⟨m, rfl⟩ : ∃ m, n = m + 1 := ⟨n - 1, by omega⟩
  simp [Builtin.clear_, run_underlying ht, hv, hzc, hst]
theorem zero_len (n : Nat) : (Builtin.zeroCells (Value.agg #[.int .i64 0, .int .u64 0, .int .i64 0]).cells n).toList.length = n * 3 := by
  simp [Builtin.zeroCells, Value.cells]
theorem zero_one (n : Nat) : ∀ v ∈ (Builtin.zeroCells (Value.agg #[.int .i64 0, .int .u64 0, .int .i64 0]).cells n).toList, v.oneCell' = true := by
  intro v hv
  simp only [Builtin.zeroCells, Value.cells, Array.toList_map, List.mem_map] at hv
  obtain ⟨i, -, rfl⟩ := hv
  have : i % 3 = 0 ∨ i % 3 = 1 ∨ i % 3 = 2 := by omega
  rcases this with h | h | h <;> (show ((#[Value.int .i64 0, .int .u64 0, .int .i64 0] : Array Value)[i % 3]!).oneCell' = true; rw [h]; rfl)
/-- What lies in a block of one's own, pieces and something behind them. -/
def Body (w : World) (g : Nat) (cur : List ((Nat × Nat) × Int)) (rest : List Value) : Prop := (boxT g 85 (cur.flatMap encF ++ rest).toArray).I w
theorem Body.cells {w : World} {g : Nat} {cur : List ((Nat × Nat) × Int)} {rest : List Value} (h : Body w g cur rest) {i : Nat} {q : (Nat × Nat) × Int} (hq : cur[i]? = some q) : w.cell? ⟨g, i * 3, none⟩ = some (.int .i64 (q.1.1 : Int)) ∧ w.cell? ⟨g, i * 3 + 1, none⟩ = some (.int .u64 (q.1.2 : Int)) ∧ w.cell? ⟨g, i * 3 + 2, none⟩ = some (.int .i64 q.2) := by
  have hl := (List.getElem?_eq_some_iff.1 hq).1
  have hk : ∀ j v, (encF q)[j]? = some v → (cur.flatMap encF ++ rest)[i * 3 + j]? = some v := fun j v hv => by
    have h1 := flat_get encF_len hq hv
    rw [List.getElem?_append_left (List.getElem?_eq_some_iff.1 h1).1]
    exact h1
  exact ⟨box_cell h (by simpa using hk 0 _ rfl), box_cell h (by simpa using hk 1 _ rfl), box_cell h (by simpa using hk 2 _ rfl)⟩
theorem Body.frozen {w : World} {g : Nat} {cur : List ((Nat × Nat) × Int)} {rest : List Value} (h : Body w g cur rest) (i : Nat) : w.frozen? ⟨g, i, none⟩ = false := Pcs.boxs_frozen h i
theorem Body.up {w w' : World} {g : Nat} {cur : List ((Nat × Nat) × Int)} {rest : List Value} (h : Body w g cur rest) (hb : Below w.heap.size w w') : Body w' g cur rest := (boxT g 85 _).keep w w' (fun _ => False) h (Kept.of_below hb) (fun _ _ h => h)
theorem Body.put {w : World} {g : Nat} {cur : List ((Nat × Nat) × Int)} {rest : List Value} (h : Body w g cur rest) {i : Nat} (hi : i < cur.length) (q : (Nat × Nat) × Int) : Body (((w.setCell ⟨g, i * 3, none⟩ (.int .i64 (q.1.1 : Int))).setCell ⟨g, i * 3 + 1, none⟩ (.int .u64 (q.1.2 : Int))).setCell ⟨g, i * 3 + 2, none⟩ (.int .i64 q.2)) g (cur.set i q) rest := by
  have h1 := Pcs.boxs_set (Pcs.boxs_set (Pcs.boxs_set h (i * 3) (.int .i64 (q.1.1 : Int))) (i * 3 + 1) (.int .u64 (q.1.2 : Int))) (i * 3 + 2) (.int .i64 q.2)
  have e : (((((cur.flatMap encF ++ rest).toArray).setIfInBounds (i * 3) (.int .i64 (q.1.1 : Int))).setIfInBounds (i * 3 + 1) (.int .u64 (q.1.2 : Int))).setIfInBounds (i * 3 + 2) (.int .i64 q.2)) = ((cur.set i q).flatMap encF ++ rest).toArray := by
    rw [List.setIfInBounds_toArray, List.setIfInBounds_toArray, List.setIfInBounds_toArray, flat_set3 cur i q rest hi]
  rw [e] at h1
  exact h1
def lowB (q : (Nat × Nat) × Int) : Bool := decide (q.1.1 = 0)
set_option maxRecDepth 100000 in
set_option maxHeartbeats 4000000 in
theorem clos_t (q : (Nat × Nat) × Int) (w : World) :
    Calls Tryz.prog 73 #[.agg #[.int .i64 (q.1.1 : Int), .int .u64 (q.1.2 : Int), .int .i64 q.2]] w fun e w' => e = .returned (.bool (!lowB q)) ∧ Below w.heap.size w w' := by
  obtain ⟨⟨L, i⟩, v⟩ := q
  have hb : decide ((0 : Int) < (L : Int)) = !lowB ((L, i), v) := by
    unfold lowB
    by_cases h : L = 0
    · subst h; rfl
    · simp [h]; omega
  obtain ⟨b, hB⟩ : ∃ b, (!lowB ((L, i), v)) = b := ⟨_, rfl⟩
  rw [hB] at hb ⊢
  simp only
  clear hB
  go_enter Tryz.func73, Tryz.ntmps73
  go_wp2
  refine bodyPost_ret (v := .bool b) (by simp [results, Tryz.results73, go_sem, ← hb]) rfl ?_
  exact ⟨rfl, (by repeat' (first | (with_reducible first | exact Below.refl _ _ | assumption | refine below_over ?_ _ _ | refine Lw.below_alloc ?_ _ | refine Below.drew ?_ | refine below_drewN ?_ _ | refine Below.setCell ?_ ?_ _) | go_size))⟩
set_option maxRecDepth 100000 in
set_option maxHeartbeats 4000000 in
theorem idx_any (g n cap : Nat) (l : List ((Nat × Nat) × Int)) (rest : List Value) (w : World) (h : Body w g l rest) (hl : l.length = n) (hn : n ≤ 5000) :
    Calls Tryz.prog 106 #[.slice (some ⟨g, 0, none⟩) n cap, .func (.func 73) #[] #[]] w fun e w' => ∃ i : Int, e = .returned (.int .i64 i) ∧ ((i = -1 ∧ ∀ q ∈ l, lowB q = true) ∨ ∃ k : Nat, i = (k : Int) ∧ k < n ∧ (∀ q ∈ l.take k, lowB q = true) ∧ ∃ q, l[k]? = some q ∧ lowB q = false) ∧ Below w.heap.size w w' := by
  have HD := Lib.hid h
  have HL := Lib.hid hl
  have HN := Lib.hid hn
  clear h hl
  go_enter Tryz.func106, Tryz.ntmps106
  go_wp2
  go_loopw [8] (fun iv wr => ∃ (t : Nat), t ≤ n ∧ iv = .int .i64 (t : Int) ∧ (∀ q ∈ l.take t, lowB q = true) ∧ Below w.heap.size w wr) (fun iv _ => n - (intOf iv).toNat)
  case atStart => exact ⟨0, Nat.zero_le _, rfl, fun q hq => by simp at hq, Below.refl _ _⟩
  case round =>
    obtain ⟨t, ht, rfl, hok, hv⟩ := hrel
    have HOK := Lib.hid hok
    have HVr := Lib.hid hv
    clear hok hv
    by_cases hlt : t < n
    · have lt0 : (0 : Int) ≤ (t : Int) := by omega
      have lt1 : (t : Int) < (n : Int) := by omega
      obtain ⟨q, hq⟩ : ∃ q, l[t]? = some q := ⟨_, List.getElem?_eq_getElem (by rw [HL.out]; exact hlt)⟩
      have HQ := Lib.hid hq
      obtain ⟨r0, r1, r2⟩ := (HD.out.up HVr.out).cells hq
      have CC := Lib.hid (fun w => clos_t q w)
      obtain ⟨LV, hLV⟩ : ∃ v : Int, (q.1.1 : Int) = v := ⟨_, rfl⟩
      obtain ⟨IX, hIX⟩ : ∃ v : Int, (q.1.2 : Int) = v := ⟨_, rfl⟩
      obtain ⟨VV, hVV⟩ : ∃ v : Int, q.2 = v := ⟨_, rfl⟩
      rw [hLV, hIX, hVV] at CC
      rw [hLV] at r0
      rw [hIX] at r1
      rw [hVV] at r2
      clear hq hLV hIX hVV
      cases hb : lowB q with
      | true =>
        rw [hb] at CC
        have HNX := Lib.hid (all_next (p := fun q => lowB q = true) HQ.out HOK.out hb)
        go_wp2_with (go_at_call 73; (with_reducible refine (CC.out _).mono ?_); rintro e w5 ⟨rfl, hb5⟩; have HV5 := Lib.hid (HVr.out.trans (hb5.mono HVr.out.size)); clear hb5)
        go_roundw
        case rel => exact ⟨t + 1, by omega, by go_num, HNX.out, HV5.out⟩
        case measure => simp [intOf]; omega
      | false =>
        rw [hb] at CC
        have HB := Lib.hid hb
        go_wp2_with (go_at_call 73; (with_reducible refine (CC.out _).mono ?_); rintro e w5 ⟨rfl, hb5⟩; have HV5 := Lib.hid (HVr.out.trans (hb5.mono HVr.out.size)); clear hb5)
        go_ret
        exact ⟨_, rfl, .inr ⟨t, rfl, hlt, HOK.out, _, HQ.out, HB.out⟩, HV5.out⟩
    · obtain rfl : t = n := by omega
      have lt1 : ¬ (t : Int) < (t : Int) := by omega
      have et : l.take t = l := List.take_of_length_le (by rw [HL.out]; omega)
      rw [et] at HOK
      go_wp2
      go_ret
      exact ⟨_, rfl, .inl ⟨rfl, fun a b v h => HOK.out _ h⟩, HVr.out⟩
theorem take_set_next {α : Type} {l : List α} {i : Nat} {q : α} (h : i < l.length) : (l.set i q).take (i + 1) = l.take i ++ [q] := by
  have e : (l.set i q)[i]? = some q := by rw [List.getElem?_set_self h]
  rw [take_next e, List.take_set_of_le (Nat.le_refl _)]
theorem cell_up3 {w w' : World} (h : Below w.heap.size w w') : ∀ (a : Addr) (v : Value), w.cell? a = some v → w'.cell? a = some v := fun a v hv => cell_up hv h
theorem keep_next {l : List ((Nat × Nat) × Int)} {j : Nat} {q : (Nat × Nat) × Int} (h : l[j]? = some q) : (l.take (j + 1)).filter lowB = (l.take j).filter lowB ++ (if lowB q = true then [q] else []) := by
  rw [take_next h, List.filter_append]
  congr 1
  cases e : lowB q <;> simp [List.filter, e]
theorem keep_len {l : List ((Nat × Nat) × Int)} {k j : Nat} {q : (Nat × Nat) × Int} (h : l[k]? = some q) (hq : lowB q = false) (hkj : k < j) (hj : j ≤ l.length) : ((l.take j).filter lowB).length < j := by
  have h1 : ((l.take j).filter lowB).length ≠ (l.take j).length := fun e => by
    have h2 := List.length_filter_eq_length_iff.1 e q (List.mem_of_getElem? (i := k) (by rw [List.getElem?_take, if_pos hkj]; exact h))
    rw [hq] at h2
    cases h2
  have h3 := List.length_filter_le lowB (l.take j)
  rw [List.length_take] at h1 h3
  omega
set_option maxRecDepth 100000 in
set_option maxHeartbeats 8000000 in
theorem del_any (g n cap : Nat) (l : List ((Nat × Nat) × Int)) (rest : List Value) (w : World) (h : Body w g l rest) (hl : l.length = n) (hn : n ≤ 5000) (hc : n ≤ cap) (hcm : cap ≤ maxLen) (hrl : n * 3 + rest.length = cap * 3) :
    Calls Tryz.prog 72 #[.slice (some ⟨g, 0, none⟩) n cap, .func (.func 73) #[] #[]] w fun e w' => ∃ rest', e = .returned (.slice (some ⟨g, 0, none⟩) (l.filter lowB).length cap) ∧ Body w' g (l.filter lowB) rest' ∧ (l.filter lowB).length * 3 + rest'.length = cap * 3 ∧ Kept (fun k => k = g) w w' := by
  have CI := Lib.hid (idx_any g n cap l rest w h hl hn)
  have HD := Lib.hid h
  have HL := Lib.hid hl
  have HN := Lib.hid (And.intro hn (And.intro hc (And.intro hcm hrl)))
  have hcp : (n : Int) ≤ (cap : Int) := by omega
  unfold maxLen at hcm
  clear h hl hc
  go_enter Tryz.func72, Tryz.ntmps72
  go_upto_region 2 with (go_at_call 106; (with_reducible refine CI.out.mono ?_); rintro e w1 ⟨i, rfl, hi, hb⟩; have HI := Lib.hid hi; have HB1 := Lib.hid hb; clear hi hb)
  rcases HI.out with ⟨rfl, hall⟩ | ⟨k, rfl, hkn, hall, q0, hq0, hb0⟩
  · have hf : l.filter lowB = l := List.filter_eq_self.2 hall
    have HF := Lib.hid hf
    clear hall hf HI
    go_wp2
    go_ret
    rw [HF.out, HL.out]
    exact ⟨rest, rfl, HD.out.up HB1.out, HN.out.2.2.2, Kept.of_below HB1.out⟩
  · have HQ0 := Lib.hid (And.intro hq0 hb0)
    have HK := Lib.hid hall
    have hk1 : ((k : Int) == -1) = false := beq_eq_false_iff_ne.2 (by omega)
    have hcn : ¬ cap = 0 := by omega
    clear hall hq0 hb0 HI
    go_wp2
    go_loopw [5, 6] (fun iv jv wr => ∃ (i j : Nat) (cur : List ((Nat × Nat) × Int)), j ≤ n ∧ k < j ∧ iv = .int .i64 (i : Int) ∧ jv = .int .i64 (j : Int) ∧ cur.length = n ∧ i = ((l.take j).filter lowB).length ∧ cur.take i = (l.take j).filter lowB ∧ cur.drop j = l.drop j ∧ Body wr g cur rest ∧ Kept (fun k => k = g) w wr) (fun _ jv _ => n - (intOf jv).toNat)
    case atStart =>
      have e1 : (l.take (k + 1)).filter lowB = l.take k := by
        rw [keep_next HQ0.out.1, HQ0.out.2, List.filter_eq_self.2 HK.out]
        simp
      exact ⟨k, k + 1, l, by omega, by omega, rfl, by go_num, HL.out, by rw [e1, List.length_take, HL.out]; omega, e1.symm, rfl, HD.out.up HB1.out, Kept.of_below HB1.out⟩
    case round =>
      obtain ⟨i, j, cur, hj, hkj, rfl, rfl, hcl, hi, htk, hdr, hbd, hkp⟩ := hrel
      have HCL := Lib.hid hcl
      have HI := Lib.hid hi
      have HTK := Lib.hid htk
      have HDR := Lib.hid hdr
      have HBD := Lib.hid hbd
      have HKP := Lib.hid hkp
      have hij : i < j := by rw [hi]; exact keep_len HQ0.out.1 HQ0.out.2 hkj (by rw [HL.out]; exact hj)
      clear hcl hi htk hdr hbd hkp
      by_cases hlt : j < n
      · have lt0 : (0 : Int) ≤ (j : Int) := by omega
        have lt1 : (j : Int) < (n : Int) := by omega
        have li0 : (0 : Int) ≤ (i : Int) := by omega
        have li1 : (i : Int) < (n : Int) := by omega
        obtain ⟨q, hq⟩ : ∃ q, l[j]? = some q := ⟨_, List.getElem?_eq_getElem (by rw [HL.out]; exact hlt)⟩
        have HQ := Lib.hid hq
        have hcq : cur[j]? = some q := by
          have e1 : (cur.drop j)[0]? = some q := by rw [HDR.out, List.getElem?_drop, Nat.add_zero]; exact hq
          rw [List.getElem?_drop, Nat.add_zero] at e1
          exact e1
        obtain ⟨r0, r1, r2⟩ := HBD.out.cells hcq
        have CC := Lib.hid (fun w => clos_t q w)
        have HVx := Lib.hid (Lw.below_alloc (Below.refl _ wr) (.cells #[.int .i64 (q.1.1 : Int), .int .u64 (q.1.2 : Int), .int .i64 q.2] 85))
        have HNX := Lib.hid (keep_next hq)
        obtain ⟨LV, hLV⟩ : ∃ v : Int, (q.1.1 : Int) = v := ⟨_, rfl⟩
        obtain ⟨IX, hIX⟩ : ∃ v : Int, (q.1.2 : Int) = v := ⟨_, rfl⟩
        obtain ⟨VV, hVV⟩ : ∃ v : Int, q.2 = v := ⟨_, rfl⟩
        have HVQ := Lib.hid (And.intro hLV (And.intro hIX hVV))
        rw [hLV, hIX, hVV] at CC HVx
        rw [hLV] at r0
        rw [hIX] at r1
        rw [hVV] at r2
        clear hq hcq hLV hIX hVV
        cases hb : lowB q with
        | false =>
          rw [hb] at CC HNX
          have HEQ : Hid ((l.take (j + 1)).filter lowB = (l.take j).filter lowB) := Lib.hid (by rw [HNX.out]; simp)
          go_wp2_with (go_at_call 73; (with_reducible refine (CC.out _).mono ?_); rintro e w5 ⟨rfl, hb5⟩; have HV5 := Lib.hid (HVx.out.trans (hb5.mono HVx.out.size)); clear hb5)
          go_roundw
          case rel => exact ⟨i, j + 1, cur, by omega, by omega, rfl, by go_num, HCL.out, by rw [HEQ.out]; exact HI.out, by rw [HEQ.out]; exact HTK.out, by rw [← List.drop_drop, HDR.out, List.drop_drop], HBD.out.up HV5.out, HKP.out.then HV5.out⟩
          case measure => simp [intOf]; omega
        | true =>
          rw [hb] at CC HNX
          have HEQ : Hid ((l.take (j + 1)).filter lowB = (l.take j).filter lowB ++ [q]) := Lib.hid (by rw [HNX.out]; rfl)
          go_upto_region 9 with (go_at_call 73; (with_reducible refine (CC.out _).mono ?_); rintro e w5 ⟨rfl, hb5⟩; have HV5 := Lib.hid (HVx.out.trans (hb5.mono HVx.out.size)); have hbc := cell_up3 hb5; clear hb5)
          have HB5 := Lib.hid (HBD.out.up HV5.out)
          obtain ⟨q1, hq1⟩ : ∃ q1, cur[i]? = some q1 := ⟨_, List.getElem?_eq_getElem (by rw [HCL.out]; omega)⟩
          obtain ⟨s0, s1, s2⟩ := HB5.out.cells hq1
          have t0 := HB5.out.frozen (i * 3)
          have t1 := HB5.out.frozen (i * 3 + 1)
          have t2 := HB5.out.frozen (i * 3 + 2)
          have HPU := Lib.hid (HB5.out.put (i := i) (by rw [HCL.out]; omega) q)
          rw [HVQ.out.1, HVQ.out.2.1, HVQ.out.2.2] at HPU
          have HKU : Hid (Kept (fun k => k = g) w (((w5.setCell ⟨g, i * 3, none⟩ (.int .i64 LV)).setCell ⟨g, i * 3 + 1, none⟩ (.int .u64 IX)).setCell ⟨g, i * 3 + 2, none⟩ (.int .i64 VV))) := Lib.hid ((((HKP.out.then HV5.out).set (.inl rfl) _ _).set (.inl rfl) _ _).set (.inl rfl) _ _)
          clear hq1
          go_wp2
          go_roundw
          case rel => exact ⟨i + 1, j + 1, cur.set i q, by omega, by omega, by go_num, by go_num, by rw [List.length_set]; exact HCL.out, by rw [HEQ.out, List.length_append, ← HI.out]; rfl, by rw [HEQ.out, ← HTK.out]; exact take_set_next (by rw [HCL.out]; omega), by rw [List.drop_set_of_lt (by omega), ← List.drop_drop, HDR.out, List.drop_drop], by first | exact HPU.out | exact HPU.out.up (by repeat' (first | (with_reducible first | exact Below.refl _ _ | assumption | refine below_over ?_ _ _ | refine Lw.below_alloc ?_ _ | refine Below.drew ?_ | refine below_drewN ?_ _ | refine Below.setCell ?_ ?_ _) | go_size)), by first | exact HKU.out | exact HKU.out.then (by repeat' (first | (with_reducible first | exact Below.refl _ _ | assumption | refine below_over ?_ _ _ | refine Lw.below_alloc ?_ _ | refine Below.drew ?_ | refine below_drewN ?_ _ | refine Below.setCell ?_ ?_ _) | go_size))⟩
          case measure => simp [intOf]; omega
      · obtain rfl : j = n := by omega
        have lt1 : ¬ (j : Int) < (j : Int) := by omega
        have li0 : (0 : Int) ≤ (i : Int) := by omega
        have li1 : (i : Int) ≤ (j : Int) := by omega
        have li2 : (i : Int) ≤ (cap : Int) := by omega
        have et : l.take j = l := List.take_of_length_le (by rw [HL.out]; omega)
        rw [et] at HI HTK
        have hsz : (cur.flatMap encF ++ rest).toArray.size = cap * 3 := by
          rw [List.size_toArray, List.length_append, flat_len encF_len, HCL.out]
          exact HN.out.2.2.2
        obtain ⟨cu, hcu, hcs, hct, hck⟩ := below_setCells (vs := (Builtin.zeroCells (Value.agg #[.int .i64 0, .int .u64 0, .int .i64 0]).cells (j - i)).toList) (o := i * 3) HBD.out (by rw [zero_len, hsz]; have := HN.out.2.1; omega)
        have hcl : ∀ ty, (Builtin.clear_ #[39] ty #[.slice (some ⟨g, i * 3, none⟩) (j - i) (cap - i)]).run Tryz.prog wr = .ok (.tuple #[]) (wr.setCells g (i * 3) (Builtin.zeroCells (Value.agg #[.int .i64 0, .int .u64 0, .int .i64 0]).cells (j - i)).toList) :=
          fun ty => clear_any wr _ 85 ty (.agg #[.int .i64 0, .int .u64 0, .int .i64 0]) cfds_u Tryz.zeroValue85 g (i * 3) (j - i) (cap - i) (by omega) _ rfl (zero_one _)
            (fun t ht => by
              rw [zero_len] at ht
              have h9 : i * 3 + t < (cur.flatMap encF ++ rest).toArray.size := by rw [hsz]; have := HN.out.2.1; omega
              rw [box_cell HBD.out (Array.getElem?_eq_getElem h9)]; rfl)
            (fun t ht => HBD.out.frozen _)
        have HCU := Lib.hid hcu
        have HCT : Hid (cu.toList = (l.filter lowB).flatMap encF ++ cu.toList.drop (i * 3)) := Lib.hid (by
          have e1 : cu.toList.take (i * 3) = (l.filter lowB).flatMap encF := by
            rw [hct _ (Nat.le_refl _), ← HTK.out]
            show (cur.flatMap encF ++ rest).take (i * 3) = _
            conv => lhs; rw [← List.take_append_drop i cur, flat_app3, List.append_assoc]
            rw [List.take_append_of_le_length (by rw [flat_len encF_len, List.length_take, HCL.out]; omega), List.take_of_length_le (by rw [flat_len encF_len, List.length_take, HCL.out]; omega)]
          rw [← e1, List.take_append_drop])
        have HCS : Hid (cu.size = cap * 3) := Lib.hid (hcs.trans hsz)
        have HCK := Lib.hid (HKP.out.trans hck (fun _ _ h => h))
        obtain ⟨wz, hwz⟩ : ∃ wz, wr.setCells g (i * 3) (Builtin.zeroCells (Value.agg #[.int .i64 0, .int .u64 0, .int .i64 0]).cells (j - i)).toList = wz := ⟨_, rfl⟩
        rw [hwz] at hcl HCU HCK
        clear hcu hcs hct hck hwz et hsz
        go_wp2
        go_ret
        rw [← HI.out]
        refine ⟨rfl, cu.toList.drop (i * 3), ?_, ?_, HCK.out⟩
        · show (boxT g 85 _).I _
          rw [← HCT.out]
          exact HCU.out
        · rw [List.length_drop, Array.length_toList, HCS.out]
          have := HN.out.2.1
          omega
set_option maxRecDepth 100000 in
set_option maxHeartbeats 4000000 in
theorem idx_nil (w : World) : Calls Tryz.prog 106 #[.slice none 0 0, .func (.func 73) #[] #[]] w fun e w' => e = .returned (.int .i64 (-1)) ∧ Below w.heap.size w w' := by
  go_enter Tryz.func106, Tryz.ntmps106
  go_wp2
  go_loopw [8] (fun iv wr => iv = .int .i64 0 ∧ wr = w) (fun iv _ => 1 - (intOf iv).toNat)
  case atStart => exact ⟨rfl, rfl⟩
  case round =>
    obtain ⟨rfl, rfl⟩ := hrel
    go_wp2
    go_ret
    exact ⟨rfl, Below.refl _ _⟩
set_option maxRecDepth 100000 in
set_option maxHeartbeats 4000000 in
theorem del_nil (w : World) : Calls Tryz.prog 72 #[.slice none 0 0, .func (.func 73) #[] #[]] w fun e w' => e = .returned (.slice none 0 0) ∧ Below w.heap.size w w' := by
  go_enter Tryz.func72, Tryz.ntmps72
  go_wp2_with (go_at_call 106; (with_reducible refine (idx_nil _).mono ?_); rintro e w1 ⟨rfl, hb⟩; have HB1 := Lib.hid hb; clear hb)
  go_ret
  exact ⟨rfl, HB1.out⟩
end Go.Proofs.YtkflggojiiebeaaGreat.Smr

