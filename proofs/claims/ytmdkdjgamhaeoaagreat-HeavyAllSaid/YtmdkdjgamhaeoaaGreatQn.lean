/- Texts that statements lean on, put together: HvyHeavy, HvyMap, HvyConc, HvyGK, HvyWid, HvyGatM, HvyGat0. -/
import Derived.Test.YtmdkdjgamhaeoaaGreatQi
import Derived.Test.YtmdkdjgamhaeoaaGreatQl
import Derived.Test.YtmdkdjgamhaeoaaGreatQm
import Derived.Deep.LoopGhost
import Derived.Deep.RegionHeld3
import Derived.Deep.DeepCutAuto
import Derived.Deep.QuietTactic
import Derived.BigQuiet
import Derived.Maps.OwnSet
import Derived.Maps.Own
import Derived.DeepKeys4
import Derived.Lib.AppendZerosOnto
import Derived.Lib.SliceRun
/- The code's Heavy of layer 18. Printed by wip/gen/hvy8.py. -/
namespace Go.Proofs.YtmdkdjgamhaeoaaGreat.Hvy
open Go Go.RowKit Lw Grd Lin Con Shp Sk Exa Lev Stk Pcs Spn Qnt
set_option linter.unusedVariables false
set_option linter.unusedSimpArgs false
set_option linter.unusedSimpArgs false
theorem cfg_bt (c : Cfg) (w : World) : (Instr.field 24 (.agg #[.int .i64 c.bt, .int .i64 c.rw, .int .i64 c.wd, .int .i64 c.md, .int .u64 c.sd]) 0).run Tryz.prog w = .ok (.int .i64 c.bt) w := by kernel_rfl
theorem appn_list {P : Program} {w : World} {ops : Array Oper} {rest : List Oper} {o : Oper} {a : Act} {Q : Exit → Act → World → Prop} (hgd : o.guard = none) (s x : Operand) (t : TypeId)
    (ho : o.op = .call { callee := .builtin .append, args := #[s, x], argTypes := #[t, t] }) (base : Nat) (e : TypeId) (i : TypeInfo) (size : Nat) (ht : P.underlying t = some (.slice e)) (hi : P.info? e = some i)
    (v : Value) (n : Nat) (xs : List Value) (hs : a.eval s = v) (hown : w.ownsRow base e size v n xs) (hx : a.eval x = .slice none 0 0) (h : wpList P ops Q rest (a.put o.dst v) w) : wpList P ops Q (o :: rest) a w :=
  wpList_plain hgd fun _ hK => by
    have hrun := run_append_owned_none (P := P) (w := w) base t o.type e i size ht hi v n _ hown
    have hh := hK _ _ h
    unfold Oper.wp
    simp [execOp, ho, resolve, invoke, builtin, hs, hx, hrun, Result.andThen]
    exact hh
theorem own_base {w : World} {b0 b1 : Nat} {e : TypeId} {K : Nat} {v : Value} {n : Nat} {xs : List Value} (h : w.ownsRow b1 e K v n xs) (hb : b0 ≤ b1) : w.ownsRow b0 e K v n xs := by
  refine ⟨h.1, ?_⟩
  rcases h.2 with h2 | ⟨g, cap, cur, h1, h2, h3⟩
  · exact .inl h2
  · exact .inr ⟨g, cap, cur, h1, Nat.le_trans hb h2, h3⟩
theorem enc_oneF {us : List ((Nat × Nat) × Int)} : ∀ u ∈ us.flatMap encF, u.oneCell' = true := by
  intro u hu
  obtain ⟨q, -, h2⟩ := List.mem_flatMap.1 hu
  simp [encF] at h2
  rcases h2 with rfl | rfl | rfl <;> rfl
theorem own_pc1c (X : World) (U D : Int) (base : Nat) (hb : base ≤ X.heap.size) : (X.alloc (.cells #[.int .i64 U, .int .u64 D] 69)).ownsRow base 69 2 (.slice (some ⟨X.heap.size, 0, none⟩) 1 1) 1 [.int .i64 U, .int .u64 D] :=
  ⟨rfl, .inr ⟨X.heap.size, 1, _, rfl, hb, heap_alloc_new X _, Nat.le_refl _, by decide, rfl, rfl⟩⟩
theorem turn2C {w0 w w' : World} {t0 t1 : Thing} {B K n g m cap : Nat} {e : TypeId} {v : Value} {cs ds : List Value} {ts : List Thing} (h : Have w0 w (t0 :: t1 :: ownK B e K v n cs :: ts)) (hown : w'.ownsRow B e K (.slice (some ⟨g, 0, none⟩) m cap) m ds) (hg : w.grownBy w' v.ownBlock) (hat : v.ownBlock = some g ∨ g = w.heap.size) : Have w0 w' (t0 :: t1 :: ownK B e K (.slice (some ⟨g, 0, none⟩) m cap) m ds :: ts) := h.turn_2 _ hown (kept_grownK hg) (okF hat)
/-- What is asked of one level, as pieces; behind the last level nothing. -/
def askP (pt : Nat → Int → Int) (least : Int) (B d : Nat) : List (Nat × Nat) := if d ≤ B then (askQ pt least B d).map (fun i => (B - d, i)) else []
theorem askP_at {pt : Nat → Int → Int} {least : Int} {B d : Nat} (h : d ≤ B) : askP pt least B d = (askQ pt least B d).map (fun i => (B - d, i)) := if_pos h
theorem askP_next {pt : Nat → Int → Int} {least : Int} {B d LM : Nat} (h : B - d = LM + 1) : askP pt least B (d + 1) = (hvs (tellQ pt least (LM + 1) (askQ pt least B d))).map (fun i => (LM, i)) := by
  have e : B - (d + 1) = LM := by omega
  rw [askP, if_pos (by omega), e, hvs_tell, ← h]
  rfl
theorem askP_last {pt : Nat → Int → Int} {least : Int} {B : Nat} : askP pt least B (B + 1) = [] := if_neg (by omega)
theorem found_next (pt : Nat → Int → Int) (least : Int) (B d : Nat) : foundQ pt least B (d + 1) = foundQ pt least B d ++ tellQ pt least (B - d) (askQ pt least B d) := rfl
theorem own_some {w : World} {base : Nat} {e : TypeId} {K : Nat} {A : Option Addr} {n cap : Nat} {xs : List Value} (h : w.ownsRow base e K (.slice A n cap) n xs) (hn : 0 < n) : ∃ g, A = some ⟨g, 0, none⟩ := by
  rcases h.2 with ⟨h1, h2⟩ | ⟨g, cap, cur, h1, -⟩
  · omega
  · injection h1 with h1
    exact ⟨g, h1⟩
theorem lv_bd {l : List Nat} {d L : Nat} (h : ∀ i ∈ l, i < 2 ^ d) (hd : d ≤ 59) (hL : L ≤ 59) : ∀ u ∈ ints (l.map (fun i => (L, i))), (-9223372036854775808 ≤ u.1 ∧ u.1 ≤ 9223372036854775807) ∧ (0 ≤ u.2 ∧ u.2 ≤ 18446744073709551615) := by
  intro u hu
  obtain ⟨p, hp, rfl⟩ := List.mem_map.1 hu
  obtain ⟨i, hi, rfl⟩ := List.mem_map.1 hp
  have h2 := h i hi
  have h3 : 2 ^ d ≤ 2 ^ 59 := Nat.pow_le_pow_right (by omega) hd
  have e59 : (2 : Nat) ^ 59 = 576460752303423488 := rfl
  refine ⟨⟨?_, ?_⟩, ?_, ?_⟩
  · show -9223372036854775808 ≤ (L : Int); omega
  · show (L : Int) ≤ 9223372036854775807; omega
  · show 0 ≤ (i : Int); omega
  · show (i : Int) ≤ 18446744073709551615; omega
set_option maxRecDepth 100000 in
set_option maxHeartbeats 4000000 in
theorem heavy_a (p : Addr) (F : Nat → Prop) (c : Cfg) (sts : List LS) (least bud : Int) (w : World) (h : ST w p F c sts) (l0 : -9223372036854775808 ≤ least) (l1 : least ≤ 9223372036854775807) (u0 : -9223372036854775808 ≤ bud) (u1 : bud ≤ 9223372036854775807) (h1 : least < 1 ∨ 4096 < bud) :
    Calls Tryz.prog 15 #[.pointer (some p), .int .i64 least, .int .i64 bud] w fun e w' => ∃ (A : Option Addr) (n cap : Nat), e = .returned (.tuple #[.slice A n cap, .int .i64 (hvC c (fun L i => spV c sts (L : Int) i) least bud)]) ∧ (stRowT 3 encF A n cap (hvL c (fun L i => spV c sts (L : Int) i) least bud)).I w' ∧ (∀ q, (stRowT 3 encF A n cap (hvL c (fun L i => spV c sts (L : Int) i) least bud)).F q → w.heap.size ≤ q) ∧ Below w.heap.size w w' := by
  have hq := hv_arg (c := c) (pt := (fun L i => spV c sts (L : Int) i)) h1
  rw [hq.1, hq.2]
  by_cases h2 : least < 1
  · have f1 : decide (least < 1) = true := decide_eq_true h2
    clear h l0 l1 u0 u1 h1 hq
    go_enter Tryz.func15, Tryz.ntmps15
    go_wp2
    refine bodyPost_ret (v := .tuple #[.slice none 0 0, .int .i64 1]) (by simp [results, Tryz.results15, go_sem]) rfl ?_
    exact ⟨none, 0, 0, rfl, st_nil 3 encF _, (fun q hq => by obtain ⟨a, e, _⟩ := hq; cases e), Below.refl _ _⟩
  · have h3 : 4096 < bud := by omega
    have f1 : decide (least < 1) = false := decide_eq_false h2
    have f2 : decide (4096 < bud) = true := decide_eq_true h3
    clear h l0 l1 u0 u1 h1 hq
    go_enter Tryz.func15, Tryz.ntmps15
    go_wp2
    refine bodyPost_ret (v := .tuple #[.slice none 0 0, .int .i64 1]) (by simp [results, Tryz.results15, go_sem]) rfl ?_
    exact ⟨none, 0, 0, rfl, st_nil 3 encF _, (fun q hq => by obtain ⟨a, e, _⟩ := hq; cases e), Below.refl _ _⟩
set_option maxRecDepth 100000 in
set_option maxHeartbeats 8000000 in
theorem heavy_m (p : Addr) (F : Nat → Prop) (c : Cfg) (sts : List LS) (least bud : Int) (w : World) (h : ST w p F c sts) (l0 : -9223372036854775808 ≤ least) (l1 : least ≤ 9223372036854775807) (u0 : -9223372036854775808 ≤ bud) (u1 : bud ≤ 9223372036854775807) (h1 : 1 ≤ least) (h2 : bud ≤ 4096) :
    Calls Tryz.prog 15 #[.pointer (some p), .int .i64 least, .int .i64 bud] w fun e w' => ∃ (A : Option Addr) (n cap : Nat), e = .returned (.tuple #[.slice A n cap, .int .i64 (hvC c (fun L i => spV c sts (L : Int) i) least bud)]) ∧ (stRowT 3 encF A n cap (hvL c (fun L i => spV c sts (L : Int) i) least bud)).I w' ∧ (∀ q, (stRowT 3 encF A n cap (hvL c (fun L i => spV c sts (L : Int) i) least bud)).F q → w.heap.size ≤ q) ∧ Below w.heap.size w w' := by
  have hbt := h.1.1
  have hbt2 := h.1.2.1
  have HOV := Lib.hid (fun hh => hv_over (c := c) (pt := (fun L i => spV c sts (L : Int) i)) (least := least) (bud := bud) h1 h2 hh)
  have HYES := Lib.hid (fun hh => hv_yes (c := c) (pt := (fun L i => spV c sts (L : Int) i)) (least := least) (bud := bud) h1 h2 hh)
  have CC := Lib.hid (fun w hs => cs_config p F c sts w hs)
  have HD := Lib.hid h
  obtain ⟨BB, hBB⟩ : ∃ B, c.bt.toNat = B := ⟨_, rfl⟩
  rw [hBB] at HOV HYES
  have hcb : c.bt = (BB : Int) := by omega
  have hfd : ∀ w, (Instr.field 24 (.agg #[.int .i64 c.bt, .int .i64 c.rw, .int .i64 c.wd, .int .i64 c.md, .int .u64 c.sd]) 0).run Tryz.prog w = .ok (.int .i64 (BB : Int)) w := fun w => by
    have h5 := cfg_bt c w
    rw [h5, hcb]
  have HB59 : Hid (BB ≤ 59) := Lib.hid (by omega)
  have f1 : decide (least < 1) = false := decide_eq_false (by omega)
  have f2 : decide (4096 < bud) = false := decide_eq_false (by omega)
  have f3 : ¬ least < 1 := by omega
  have f4 : ¬ 4096 < bud := by omega
  obtain ⟨i0, hi_, hz0, hz1, hz2⟩ := info_parts pc_info
  obtain ⟨j0, hj_, hy0, hy1, hy2⟩ := info_parts cfd_info
  have HU := Lib.hid (And.intro h2 (And.intro u0 (And.intro l0 l1)))
  have wB : wrap64 ((BB : Int) + 1) = (BB : Int) + 1 := IntWalk.wrap64_in _ ⟨by omega, by omega⟩
  clear h hbt hbt2 hBB hcb h1 l0 l1 u0 u1 h2
  go_enter Tryz.func15, Tryz.ntmps15
  go_wp2_with (go_at_call 42; (with_reducible refine (CC.out _ HD.out).mono ?_); rintro e w1 ⟨rfl, hb⟩; have HB1 := Lib.hid hb; clear hb)
  have HV1 := Lib.hid ((((Have.nil w).up HB1.out).push (ownK w.heap.size 71 3 (.slice none 0 0) 0 []) (Below.refl _ _) (World.ownsRow_nil _ _ _ _) (fun k hk => by cases hk)).push (ownK w.heap.size 69 2 (.slice (some ⟨w1.heap.size, 0, none⟩) 1 1) 1 [.int .i64 (BB : Int), .int .u64 0]) (Lw.below_alloc (Below.refl _ _) _) (own_pc1c w1 (BB : Int) 0 w.heap.size HB1.out.size) (fun k hk => by have : some w1.heap.size = some k := hk; injection this with this; omega))
  clear f1 f2 f3 f4
  rw [wB]
  go_loopw [2, 9, 10, 26] (fun bv av ov iv wr => ∃ (d : Nat), d ≤ BB + 1 ∧ iv = .int .i64 (d : Int) ∧ bv = .int .i64 (bud - (((countQ (fun L i => spV c sts (L : Int) i) least BB d) : Nat) : Int)) ∧ (d = 0 ∨ (((countQ (fun L i => spV c sts (L : Int) i) least BB d) : Nat) : Int) ≤ bud) ∧ ((foundQ (fun L i => spV c sts (L : Int) i) least BB d).length = 0 → ov = .slice none 0 0) ∧ Have w wr [ownK w.heap.size 69 2 av (askP (fun L i => spV c sts (L : Int) i) least BB d).length (flatP (ints (askP (fun L i => spV c sts (L : Int) i) least BB d))), ownK w.heap.size 71 3 ov (foundQ (fun L i => spV c sts (L : Int) i) least BB d).length ((foundQ (fun L i => spV c sts (L : Int) i) least BB d).flatMap encF)]) (fun _ _ _ iv _ => 100 - (intOf iv).toNat)
  case atStart => exact ⟨0, Nat.zero_le _, rfl, by show Value.int .i64 bud = .int .i64 (bud - 0); rw [Int.sub_zero], .inl rfl, fun _ => rfl, HV1.out⟩
  case round =>
    obtain ⟨d, hd, rfl, rfl, hbc, hnil, hv⟩ := hrel
    have HVr := Lib.hid hv
    have HNIL := Lib.hid hnil
    have HBC := Lib.hid hbc
    clear hv hnil hbc
    by_cases hmore : d ≤ BB
    · have lt1 : (d : Int) < (BB : Int) + 1 := by omega
      have hd59 : d ≤ 59 := by have := HB59.out; omega
      obtain ⟨l, hl⟩ : ∃ l, askQ (fun L i => spV c sts (L : Int) i) least BB d = l := ⟨_, rfl⟩
      obtain ⟨LV, hLV⟩ : ∃ n, BB - d = n := ⟨_, rfl⟩
      have haP : (askP (fun L i => spV c sts (L : Int) i) least BB d) = l.map (fun i => (LV, i)) := by rw [askP_at hmore, hl, hLV]
      have hfn : (foundQ (fun L i => spV c sts (L : Int) i) least BB (d + 1)) = (foundQ (fun L i => spV c sts (L : Int) i) least BB d) ++ (tellQ (fun L i => spV c sts (L : Int) i) least LV l) := by rw [found_next, hl, hLV]
      have hcn : (countQ (fun L i => spV c sts (L : Int) i) least BB (d + 1)) = (countQ (fun L i => spV c sts (L : Int) i) least BB d) + l.length := by rw [← hl]; rfl
      have hcm : (countQ (fun L i => spV c sts (L : Int) i) least BB (d + 1)) ≤ (countQ (fun L i => spV c sts (L : Int) i) least BB (BB + 1)) := countQ_mono _ _ _ (by omega)
      have hlt : ∀ i ∈ l, i < 2 ^ d := fun i hi => askQ_lt (by rw [hl]; exact hi)
      obtain ⟨NA, hNA⟩ : ∃ n, l.length = n := ⟨_, rfl⟩
      obtain ⟨NF, hNF⟩ : ∃ n, (foundQ (fun L i => spV c sts (L : Int) i) least BB d).length = n := ⟨_, rfl⟩
      have hfl := foundQ_le (fun L i => spV c sts (L : Int) i) least BB d
      rw [hNF] at hfl
      have HLN : (askP (fun L i => spV c sts (L : Int) i) least BB d).length = NA := by rw [haP, List.length_map, hNA]
      rw [HLN, haP, hNF] at HVr
      rw [hNF] at HNIL
      rw [hNA] at hcn
      obtain ⟨BV, hBV⟩ : ∃ b, bud - (((countQ (fun L i => spV c sts (L : Int) i) least BB d) : Nat) : Int) = b := ⟨_, rfl⟩
      rw [hBV]
      obtain ⟨-, AA, capA, rfl⟩ := own_formK (okI HVr.out.i0)
      have HBV := Lib.hid (And.intro hBV (And.intro hcn hcm))
      by_cases hbud : BV < (NA : Int)
      · have HQ := Lib.hid (HOV.out (by omega))
        have g1 : decide (BV < (NA : Int)) = true := decide_eq_true hbud
        clear hBV hcn hcm hlt hfl haP hfn HLN hl hLV
        go_wp2
        refine bodyPost_ret (v := .tuple #[.slice none 0 0, .int .i64 7]) (by simp [results, Tryz.results15, go_sem]) rfl ?_
        rw [HQ.out.1, HQ.out.2]
        exact ⟨none, 0, 0, rfl, st_nil 3 encF _, (fun q hq => by obtain ⟨a, e, _⟩ := hq; cases e), HVr.out.below⟩
      · have g1 : decide (BV < (NA : Int)) = false := decide_eq_false hbud
        have HN4 : Hid (NA ≤ 4096 ∧ NF + NA ≤ 4096) := Lib.hid (by have := HU.out.1; omega)
        obtain ⟨BN, hBN⟩ : ∃ b, BV - (NA : Int) = b := ⟨_, rfl⟩
        have w1_ : wrap64 BN = BN := IntWalk.wrap64_in _ ⟨by have := HU.out.1; omega, by have := HU.out.1; omega⟩
        have HBN : Hid (BN = bud - (((countQ (fun L i => spV c sts (L : Int) i) least BB (d + 1)) : Nat) : Int) ∧ (((countQ (fun L i => spV c sts (L : Int) i) least BB (d + 1)) : Nat) : Int) ≤ bud) := Lib.hid (by omega)
        have HFN := Lib.hid hfn
        have HLV := Lib.hid hLV
        have HL := Lib.hid hl
        have HNF := Lib.hid hNF
        have HLF : Hid ((tellQ (fun L i => spV c sts (L : Int) i) least LV l).length ≤ NA) := Lib.hid (by rw [← hNA]; have := tellQ_take (fun L i => spV c sts (L : Int) i) least LV l.length l; rw [List.take_length] at this; exact this)
        have HPC := Lib.hid (pc_own (okI HVr.out.i0) (by rw [ints_len, List.length_map, hNA]) (lv_bd hlt (by have := HB59.out; omega) (by have := HB59.out; omega)))
        have HMU := Lib.hid (fun A cap w hs hr => much_any p F c sts least LV l A NA cap w hs hr (by have := HB59.out; omega) (fun i hi => Nat.lt_of_lt_of_le (hlt i hi) (Nat.pow_le_pow_right (by omega) (show d ≤ 59 by have := HB59.out; omega))) HN4.out.1)
        have HTQ : Hid (∀ q ∈ (tellQ (fun L i => spV c sts (L : Int) i) least LV l), q.1.1 = LV ∧ q.1.2 < 2 ^ (BB - LV)) := Lib.hid (fun q hq => by
          obtain ⟨q1, q2, -, -⟩ := mem_tellQ.1 hq
          have e5 : BB - LV = d := by omega
          rw [e5]
          exact ⟨q1, hlt _ q2⟩)
        clear hBV hcn hcm hlt hfl haP hfn HLN hl hLV hNA hNF HBV
        obtain ⟨A3, cap3, e3, hs3, -⟩ := HPC.out
        injection e3 with e3a e3b e3c
        subst e3a e3c
        have HS3 := Lib.hid hs3
        clear hs3 HPC
        have HDR := Lib.hid (HD.out.up HVr.out.below)
        go_upto_region 12 with (go_at_call 43; (with_reducible refine (HMU.out _ _ _ HDR.out HS3.out).mono ?_); rintro e w5 ⟨A2, n2, cap2, rfl, hown, hn2, hn0, hb⟩; have HN2 := Lib.hid hn2; have HN0 := Lib.hid hn0; clear hn2 hn0)
        have HV5 := Lib.hid (HVr.out.push (ownK wr.heap.size 71 3 (.slice A2 n2 cap2) n2 ((tellQ (fun L i => spV c sts (L : Int) i) least LV l).flatMap encF)) hb hown (fun k hk => own_ge hown k hk))
        clear hown hb HDR HS3 HMU
        rw [← HN2.out] at HLF
        by_cases hz : n2 = 0
        · obtain ⟨rfl, rfl⟩ := HN0.out hz
          subst hz
          have hte : (tellQ (fun L i => spV c sts (L : Int) i) least LV l) = [] := List.eq_nil_of_length_eq_zero HN2.out.symm
          clear HN0
          cases LV with
          | zero =>
            have HTQ0 : Hid (∀ q ∈ (tellQ (fun L i => spV c sts (L : Int) i) least 0 l), q.1.1 = 0 ∧ q.1.2 < 576460752303423488) := Lib.hid (fun q hq => by rw [hte] at hq; cases hq)
            have HTE := Lib.hid hte
            clear hte
            go_upto_region 13 with (at_builtin; go_must (refine appn_list rfl _ _ 39 rfl w.heap.size 71 j0 3 cfds_u hj_ _ _ _ rfl (okI HV5.out.i2) rfl ?_))
            have HV7 := Lib.hid HV5.out
            have HSR := Lib.hid (st_own encF_len (okI HV7.out.i0) HN2.out.symm)
            obtain ⟨A8, cap8, e8, HS8, -⟩ := HSR.out
            have HC8 := Lib.hid (halves_no BB (tellQ (fun L i => spV c sts (L : Int) i) least 0 l) A8 0 cap8 _ HS8 HB59.out HTQ0.out (by have := HLF.out; have := HN4.out; omega))
            clear HS8
            injection e8 with e8a e8b e8c
            subst e8a e8c
            go_wp2_with (go_at_call 44; (with_reducible refine HC8.out.mono ?_); rintro e w9 ⟨rfl, hb9⟩)
            have HV9 := Lib.hid ((HV7.out.push (ownK w.heap.size 69 2 (.slice none 0 0) 0 []) hb9 (World.ownsRow_nil _ _ _ _) (fun k hk => by cases hk)).erase1.erase1)
            go_roundw
            case rel => exact ⟨d + 1, by omega, by go_num, by rw [← HBN.out.1], .inr HBN.out.2, by rw [HFN.out, HTE.out, List.append_nil, HNF.out]; exact HNIL.out, by have e0 : (askP (fun L i => spV c sts (L : Int) i) least BB (d + 1)) = [] := (by have := HLV.out; have : d = BB := (by omega); rw [this]; exact askP_last); rw [e0, HFN.out, HTE.out, List.append_nil, HNF.out]; exact HV9.out.up (by repeat' (first | (with_reducible exact Below.refl _ _) | (with_reducible assumption) | (with_reducible refine below_over ?_ _ _) | (with_reducible refine Lw.below_alloc ?_ _) | (with_reducible refine Below.drew ?_) | (with_reducible refine below_drewN ?_ _) | (with_reducible refine Below.setCell ?_ ?_ _) | go_size))⟩
            case measure => simp [intOf]; omega
          | succ LM =>
            have HLM : Hid (LM + 1 = LM + 1 ∧ LM + 1 ≤ BB) := Lib.hid ⟨rfl, by have := HLV.out; omega⟩
            have HTE := Lib.hid hte
            clear hte
            go_upto_region 13 with (at_builtin; go_must (refine appn_list rfl _ _ 39 rfl w.heap.size 71 j0 3 cfds_u hj_ _ _ _ rfl (okI HV5.out.i2) rfl ?_))
            have HV7 := Lib.hid HV5.out
            have HSR := Lib.hid (st_own encF_len (okI HV7.out.i0) HN2.out.symm)
            obtain ⟨A8, cap8, e8, HS8, -⟩ := HSR.out
            have HC8 := Lib.hid (halves_yes BB LM (tellQ (fun L i => spV c sts (L : Int) i) least (LM + 1) l) A8 0 cap8 _ HS8 HB59.out HLM.out.2 HTQ.out (by have := HLF.out; have := HN4.out; omega))
            clear HS8
            injection e8 with e8a e8b e8c
            subst e8a e8c
            go_wp2_with (go_at_call 44; (with_reducible refine HC8.out.mono ?_); rintro e w9 ⟨A9, n9, cap9, rfl, hown9, hn9, hb9⟩)
            have HV9 := Lib.hid ((HV7.out.push (ownK w.heap.size 69 2 (.slice A9 n9 cap9) n9 _) hb9 (own_base hown9 HV7.out.below.size) (fun k hk => own_ge hown9 k hk)).erase1.erase1)
            go_roundw
            case rel => exact ⟨d + 1, by omega, by go_num, by rw [← HBN.out.1], .inr HBN.out.2, by rw [HFN.out, HTE.out, List.append_nil, HNF.out]; exact HNIL.out, by rw [askP_next HLV.out, HL.out, List.length_map, ← hn9, HFN.out, HTE.out, List.append_nil, HNF.out]; have h9 := HV9.out; rw [HTE.out] at h9; exact h9.up (by repeat' (first | (with_reducible exact Below.refl _ _) | (with_reducible assumption) | (with_reducible refine below_over ?_ _ _) | (with_reducible refine Lw.below_alloc ?_ _) | (with_reducible refine Below.drew ?_) | (with_reducible refine below_drewN ?_ _) | (with_reducible refine Below.setCell ?_ ?_ _) | go_size))⟩
            case measure => simp [intOf]; omega
        · clear HN0
          obtain ⟨g2, rfl⟩ : ∃ g2, A2 = some ⟨g2, 0, none⟩ := own_some (okI HV5.out.i0) (by omega)
          have HFL : Hid ((foundQ (fun L i => spV c sts (L : Int) i) least BB (d + 1)).length = NF + n2) := Lib.hid (by rw [HFN.out, List.length_append, HNF.out, ← HN2.out])
          have HFM : Hid ((foundQ (fun L i => spV c sts (L : Int) i) least BB (d + 1)).flatMap encF = (foundQ (fun L i => spV c sts (L : Int) i) least BB d).flatMap encF ++ (tellQ (fun L i => spV c sts (L : Int) i) least LV l).flatMap encF) := Lib.hid (by rw [HFN.out, List.flatMap_append])
          cases LV with
          | zero =>
            have HTQ0 : Hid (∀ q ∈ (tellQ (fun L i => spV c sts (L : Int) i) least 0 l), q.1.1 = 0 ∧ q.1.2 < 576460752303423488) := Lib.hid (fun q hq => ⟨(HTQ.out q hq).1, Nat.lt_of_lt_of_le (HTQ.out q hq).2 (Nat.pow_le_pow_right (by omega) (show BB - 0 ≤ 59 by have := HB59.out; omega))⟩)
            go_upto_region 13 with (at_builtin; go_must (refine wpList_append_lies _ rfl _ _ 39 rfl w.heap.size 71 j0 (.agg #[.int .i64 0, .int .u64 0, .int .i64 0]) 3 24 cfds_u hj_ hy0 hy1 hy2 rfl (by decide) _ _ _ rfl (okI HV5.out.i2) ⟨g2, 0, none⟩ n2 cap2 ((tellQ (fun L i => spV c sts (L : Int) i) least 0 l).flatMap encF) rfl (by rw [flat_len encF_len, HN2.out]) ((okI HV5.out.i0).cells rfl) enc_oneF (by omega) (by have := HLF.out; have := HN4.out; unfold maxLen; omega) (by have := HLF.out; have := HN4.out; omega) (by have := HV5.out.below.size; exact this) _ rfl ?_); intro g7 cap7 w7 hown7 hgrow7 hat7 hlt7)
            have HV7 := Lib.hid (turn2C HV5.out hown7 hgrow7 hat7)
            clear hown7 hgrow7 hat7 hlt7
            have HSR := Lib.hid (st_own encF_len (okI HV7.out.i0) HN2.out.symm)
            obtain ⟨A8, cap8, e8, HS8, -⟩ := HSR.out
            have HC8 := Lib.hid (halves_no BB (tellQ (fun L i => spV c sts (L : Int) i) least 0 l) A8 n2 cap8 _ HS8 HB59.out HTQ0.out (by have := HLF.out; have := HN4.out; omega))
            clear HS8
            injection e8 with e8a e8b e8c
            subst e8a e8c
            go_wp2_with (go_at_call 44; (with_reducible refine HC8.out.mono ?_); rintro e w9 ⟨rfl, hb9⟩)
            have HV9 := Lib.hid ((HV7.out.push (ownK w.heap.size 69 2 (.slice none 0 0) 0 []) hb9 (World.ownsRow_nil _ _ _ _) (fun k hk => by cases hk)).erase1.erase1)
            go_roundw
            case rel => exact ⟨d + 1, by omega, by go_num, by rw [← HBN.out.1], .inr HBN.out.2, fun e => by rw [HFL.out] at e; omega, by have e0 : (askP (fun L i => spV c sts (L : Int) i) least BB (d + 1)) = [] := (by have := HLV.out; have : d = BB := (by omega); rw [this]; exact askP_last); rw [e0, HFL.out, HFM.out]; exact HV9.out.up (by repeat' (first | (with_reducible exact Below.refl _ _) | (with_reducible assumption) | (with_reducible refine below_over ?_ _ _) | (with_reducible refine Lw.below_alloc ?_ _) | (with_reducible refine Below.drew ?_) | (with_reducible refine below_drewN ?_ _) | (with_reducible refine Below.setCell ?_ ?_ _) | go_size))⟩
            case measure => simp [intOf]; omega
          | succ LM =>
            have HLM : Hid (LM + 1 = LM + 1 ∧ LM + 1 ≤ BB) := Lib.hid ⟨rfl, by have := HLV.out; omega⟩
            go_upto_region 13 with (at_builtin; go_must (refine wpList_append_lies _ rfl _ _ 39 rfl w.heap.size 71 j0 (.agg #[.int .i64 0, .int .u64 0, .int .i64 0]) 3 24 cfds_u hj_ hy0 hy1 hy2 rfl (by decide) _ _ _ rfl (okI HV5.out.i2) ⟨g2, 0, none⟩ n2 cap2 ((tellQ (fun L i => spV c sts (L : Int) i) least (LM + 1) l).flatMap encF) rfl (by rw [flat_len encF_len, HN2.out]) ((okI HV5.out.i0).cells rfl) enc_oneF (by omega) (by have := HLF.out; have := HN4.out; unfold maxLen; omega) (by have := HLF.out; have := HN4.out; omega) (by have := HV5.out.below.size; exact this) _ rfl ?_); intro g7 cap7 w7 hown7 hgrow7 hat7 hlt7)
            have HV7 := Lib.hid (turn2C HV5.out hown7 hgrow7 hat7)
            clear hown7 hgrow7 hat7 hlt7
            have HSR := Lib.hid (st_own encF_len (okI HV7.out.i0) HN2.out.symm)
            obtain ⟨A8, cap8, e8, HS8, -⟩ := HSR.out
            have HC8 := Lib.hid (halves_yes BB LM (tellQ (fun L i => spV c sts (L : Int) i) least (LM + 1) l) A8 n2 cap8 _ HS8 HB59.out HLM.out.2 HTQ.out (by have := HLF.out; have := HN4.out; omega))
            clear HS8
            injection e8 with e8a e8b e8c
            subst e8a e8c
            go_wp2_with (go_at_call 44; (with_reducible refine HC8.out.mono ?_); rintro e w9 ⟨A9, n9, cap9, rfl, hown9, hn9, hb9⟩)
            have HV9 := Lib.hid ((HV7.out.push (ownK w.heap.size 69 2 (.slice A9 n9 cap9) n9 _) hb9 (own_base hown9 HV7.out.below.size) (fun k hk => own_ge hown9 k hk)).erase1.erase1)
            go_roundw
            case rel => exact ⟨d + 1, by omega, by go_num, by rw [← HBN.out.1], .inr HBN.out.2, fun e => by rw [HFL.out] at e; omega, by rw [askP_next HLV.out, HL.out, List.length_map, ← hn9, HFL.out, HFM.out]; exact HV9.out.up (by repeat' (first | (with_reducible exact Below.refl _ _) | (with_reducible assumption) | (with_reducible refine below_over ?_ _ _) | (with_reducible refine Lw.below_alloc ?_ _) | (with_reducible refine Below.drew ?_) | (with_reducible refine below_drewN ?_ _) | (with_reducible refine Below.setCell ?_ ?_ _) | go_size))⟩
            case measure => simp [intOf]; omega
    · have lt1 : ¬ (d : Int) < (BB : Int) + 1 := by omega
      have ed : d = BB + 1 := by omega
      subst ed
      have HQ := Lib.hid (HYES.out (by have := HBC.out; omega))
      obtain ⟨NF, hNF⟩ : ∃ n, (foundQ (fun L i => spV c sts (L : Int) i) least BB (BB + 1)).length = n := ⟨_, rfl⟩
      rw [hNF] at HVr
      obtain ⟨-, AO, capO, rfl⟩ := own_formK (okI HVr.out.i1)
      obtain ⟨AO2, capO2, e2, hso, hsf⟩ := st_own encF_len (okI HVr.out.i1) hNF
      injection e2 with e2a e2b e2c
      subst e2a e2c
      have HSO := Lib.hid hso
      have HSF := Lib.hid hsf
      clear hso hsf hNF
      go_wp2
      refine bodyPost_ret (v := .tuple #[.slice AO NF capO, .int .i64 0]) (by simp [results, Tryz.results15, go_sem]) rfl ?_
      rw [HQ.out.1, HQ.out.2]
      exact ⟨AO, NF, capO, rfl, HSO.out, HSF.out, HVr.out.below⟩
theorem hv_heavy (p : Addr) (F : Nat → Prop) (c : Cfg) (sts : List LS) (least bud : Int) (w : World) (h : ST w p F c sts) (l0 : -9223372036854775808 ≤ least) (l1 : least ≤ 9223372036854775807) (u0 : -9223372036854775808 ≤ bud) (u1 : bud ≤ 9223372036854775807) :
    Calls Tryz.prog 15 #[.pointer (some p), .int .i64 least, .int .i64 bud] w fun e w' => ∃ (A : Option Addr) (n cap : Nat), e = .returned (.tuple #[.slice A n cap, .int .i64 (hvC c (fun L i => spV c sts (L : Int) i) least bud)]) ∧ (stRowT 3 encF A n cap (hvL c (fun L i => spV c sts (L : Int) i) least bud)).I w' ∧ (∀ q, (stRowT 3 encF A n cap (hvL c (fun L i => spV c sts (L : Int) i) least bud)).F q → w.heap.size ≤ q) ∧ Below w.heap.size w w' := by
  by_cases h1 : least < 1 ∨ 4096 < bud
  · exact heavy_a p F c sts least bud w h l0 l1 u0 u1 h1
  · exact heavy_m p F c sts least bud w h l0 l1 u0 u1 (by omega) (by omega)
end Go.Proofs.YtmdkdjgamhaeoaaGreat.Hvy
/- Maps from pieces to numbers: the key's law, what lies in one. For stages from 18 on. By hand. -/
namespace Go.Proofs.YtmdkdjgamhaeoaaGreat.Hvy
open Go Go.RowKit Go.Maps Lw Grd Lin Con Shp Sk Exa Lev Stk Pcs Spn Qnt
set_option linter.unusedVariables false
set_option linter.unusedSimpArgs false
set_option maxRecDepth 100000
theorem pk_fields : (match Tryz.prog.underlying 69 with | some (.struct fs) => (match fs.toList with | [f, g] => f.type == 3 && f.offset == 0 && g.type == 22 && g.offset == 1 && f.name != "_" && g.name != "_" | _ => false) | _ => false) = true := by kernel_rfl
theorem pk_cells : Tryz.prog.cellsOf 69 = 2 := by kernel_rfl
theorem pk_cells1 : Tryz.prog.cellsOf 3 = 1 := by kernel_rfl
theorem pk_cells2 : Tryz.prog.cellsOf 22 = 1 := by kernel_rfl
theorem pk_u1 : Tryz.prog.underlying 3 = some (.int .i64) := by kernel_rfl
theorem pk_u2 : Tryz.prog.underlying 22 = some (.int .u64) := by kernel_rfl
theorem pk_type : Tryz.prog.keyType 69 = true := by kernel_rfl
theorem pk_laid : laidOutB Tryz.prog = true := by kernel_rfl
theorem pk_row : (69 : TypeId) < Tryz.prog.types.size := of_decide_eq_true (by kernel_rfl)
theorem pk_wide : (match Tryz.prog.underlying 69 with | some (.array _ _) | some (.struct _) => true | _ => false) = true := by kernel_rfl
theorem pk_law : Keyed Tryz.prog 69 := Keyed.of_law (deep_law_laid pk_laid (m := 2) (by omega) pk_row (by kernel_rfl) pk_wide)
theorem mp_u : Tryz.prog.underlying 147 = some (.map 69 2) := by kernel_rfl
theorem mp_e : Tryz.prog.underlying 2 = some (.int .i64) := by kernel_rfl
theorem mp_zero (w : World) : (zeroValue 2).run Tryz.prog w = .ok (.int .i64 0) w := by kernel_rfl
theorem pk_shape : ∃ f g, ∃ fs, Tryz.prog.underlying 69 = some (.struct fs) ∧ fs.toList = [f, g] ∧ f.type = 3 ∧ f.offset = 0 ∧ g.type = 22 ∧ g.offset = 1 ∧ (f.name != "_") = true ∧ (g.name != "_") = true := by
  have h := pk_fields
  cases hu : Tryz.prog.underlying 69 with
  | none => rw [hu] at h; cases h
  | some d =>
    rw [hu] at h
    cases d with
    | struct fs =>
      simp only at h
      match hf : fs.toList with
      | [] => rw [hf] at h; cases h
      | [f] => rw [hf] at h; cases h
      | [f, g] =>
        rw [hf] at h
        simp only [Bool.and_eq_true, beq_iff_eq] at h
        exact ⟨f, g, fs, rfl, hf, h.1.1.1.1.1, h.1.1.1.1.2, h.1.1.1.2, h.1.1.2, h.1.2, h.2⟩
      | f :: g :: k :: r => rw [hf] at h; cases h
    | _ => cases h
theorem pk_lits (d : Nat) (a b : Int) (ha : (Lit.int .i64 a).wf = true) (hb : (Lit.int .u64 b).wf = true) : Tryz.prog.keyLits (d + 2) 69 [.int .i64 a, .int .u64 b] = some [.int .i64 a, .int .u64 b] := by
  obtain ⟨f, g, fs, h1, h2, h3, h4, h5, h6, h7, h8⟩ := pk_shape
  have hall : fs.all (fun x => x.name != "_") = true := by
    rw [← Array.all_toList, h2]
    simp only [List.all_cons, List.all_nil, h7, h8, Bool.and_true]
  unfold Program.keyLits
  simp only [h1, pk_cells, hall, h2, List.mapM_cons, List.mapM_nil, h3, h4, h5, h6, pk_cells1, pk_cells2]
  simp [Program.keyLits, pk_u1, pk_u2, ha, hb]
theorem big_at {m n : Nat} (h : m + 1 < n) : n + 1 = n - 1 + 2 := by omega
theorem pk_key {a b : Int} (ha : (Lit.int .i64 a).wf = true) (hb : (Lit.int .u64 b).wf = true) : ∃ l, keyOf Tryz.prog 69 (.agg #[.int .i64 a, .int .u64 b]) = some l := by
  obtain ⟨f, g, fs, h1, h2, h3, h4, h5, h6, h7, h8⟩ := pk_shape
  have hformed : (Value.agg #[.int .i64 a, .int .u64 b]).formed Tryz.prog 69 = true := by simp [Value.formed, h1, pk_cells]
  obtain ⟨d, hd⟩ : ∃ d, Tryz.prog.types.size + 1 = d + 2 := ⟨Tryz.prog.types.size - 1, big_at (m := 0) (Nat.lt_of_le_of_lt (by decide) pk_row)⟩
  refine ⟨.string (keyBytes [.int .i64 a, .int .u64 b]), ?_⟩
  unfold keyOf
  rw [h1]
  simp only [pk_type, hformed, hd, Bool.and_true, if_true, Value.cells]
  rw [pk_lits d a b ha hb]
  rfl
theorem lit_u64 {x : Int} (h0 : 0 ≤ x) (h1 : x ≤ 18446744073709551615) : (Lit.int .u64 x).wf = true := WalkArith.wf_u64 ⟨h0, h1⟩
def pkV (L i : Nat) : Value := .agg #[.int .i64 (L : Int), .int .u64 (i : Int)]
/-- The key of a piece. -/
noncomputable def pkl (L i : Nat) : Lit := (keyOf Tryz.prog 69 (pkV L i)).getD .nil
theorem pkl_ok {L i : Nat} (hL : L ≤ 59) (hi : i ≤ 576460752303423488) : keyOf Tryz.prog 69 (.agg #[.int .i64 (L : Int), .int .u64 (i : Int)]) = some (pkl L i) := by
  obtain ⟨l, h⟩ := pk_key (a := (L : Int)) (b := (i : Int)) (WalkArith.wf_i64 (by omega)) (lit_u64 (by omega) (by omega))
  have e : pkl L i = l := by unfold pkl pkV; rw [h]; rfl
  rw [e, h]
theorem pkl_ne {L i M j : Nat} (hL : L ≤ 59) (hi : i ≤ 576460752303423488) (hM : M ≤ 59) (hj : j ≤ 576460752303423488) (h : ¬ (L = M ∧ i = j)) : pkl L i ≠ pkl M j := by
  intro e
  have h1 := pkl_ok hL hi
  have h2 := pkl_ok hM hj
  rw [e] at h1
  have h3 := pk_law.inj h1 h2
  injection h3 with h3
  simp at h3
  omega
/-- What lies in the map: the rows of pieces with their numbers. -/
def TD (D : DataW Unit) (qs : List ((Nat × Nat) × Int)) : Prop := IsMap D ∧ ∀ L i : Nat, L ≤ 59 → i ≤ 576460752303423488 →
  ((∃ q ∈ qs, q.1 = (L, i)) → Maps.has D (pkl L i) = true) ∧ ((∀ q ∈ qs, q.1 ≠ (L, i)) → Maps.has D (pkl L i) = false ∧ ∀ z, D.atKey (pkl L i) z = z) ∧ (∀ n, ((L, i), n) ∈ qs → ∀ z, D.atKey (pkl L i) z = .lit (.int .i64 n))
theorem TD.nil : TD (.map []) [] := ⟨isMap_empty, fun L i _ _ => ⟨fun ⟨q, hq, _⟩ => (by cases hq), fun _ => ⟨rfl, fun z => rfl⟩, fun n h => (by cases h)⟩⟩
theorem TD.put {D : DataW Unit} {qs : List ((Nat × Nat) × Int)} (h : TD D qs) {L i : Nat} {n : Int} (hL : L ≤ 59) (hi : i ≤ 576460752303423488) (hnew : ∀ q ∈ qs, q.1 ≠ (L, i)) : TD (D.put (pkl L i) (.lit (.int .i64 n))) (qs ++ [((L, i), n)]) := by
  have hk : WideAt.IsKeyLit (pkl L i) := pk_law.key (pkl_ok hL hi)
  refine ⟨h.1.put _ _, fun M j hM hj => ?_⟩
  obtain ⟨h1, h2, h3⟩ := h.2 M j hM hj
  by_cases e : M = L ∧ j = i
  · obtain ⟨rfl, rfl⟩ := e
    refine ⟨fun _ => has_put_same h.1 hk _, fun g => absurd rfl (g ((M, j), n) (by simp)), fun m hm z => ?_⟩
    rw [atKey_put_same h.1 hk]
    rcases List.mem_append.1 hm with hm | hm
    · exact absurd rfl (hnew _ hm)
    · have := List.mem_singleton.1 hm
      injection this with _ e2
      rw [e2]
  · have hne : pkl M j ≠ pkl L i := pkl_ne hM hj hL hi e
    refine ⟨fun ⟨q, hq, hqe⟩ => ?_, fun g => ?_, fun m hm z => ?_⟩
    · rw [has_put_other hne]
      rcases List.mem_append.1 hq with hq | hq
      · exact h1 ⟨q, hq, hqe⟩
      · rw [List.mem_singleton] at hq
        subst hq
        injection hqe with e1 e2
        exact absurd ⟨e1.symm, e2.symm⟩ e
    · rw [has_put_other hne]
      obtain ⟨g1, g2⟩ := h2 (fun q hq => g q (List.mem_append_left _ hq))
      exact ⟨g1, fun z => by rw [atKey_put_other hne]; exact g2 z⟩
    · rw [atKey_put_other hne]
      rcases List.mem_append.1 hm with hm | hm
      · exact h3 m hm z
      · have := List.mem_singleton.1 hm
        injection this with e1 e2
        injection e1 with e1 e3
        exact absurd ⟨e1, e3⟩ e
end Go.Proofs.YtmdkdjgamhaeoaaGreat.Hvy
/- The code's rows of what is kept, put together in layer 18. Printed by wip/gen/hvy9.py. -/
namespace Go.Proofs.YtmdkdjgamhaeoaaGreat.Hvy
open Go Go.RowKit Lw Grd Lin Con Shp Sk Exa Lev Stk Pcs Spn Qnt
set_option linter.unusedVariables false
set_option linter.unusedSimpArgs false
set_option linter.unusedSimpArgs false
theorem rs_info : (Tryz.prog.info? 79).map (fun i => (i.zero, i.size, i.bytes)) = some (some (.agg #[.int .i64 0, .int .u64 0, .int .i64 0, .int .i64 0]), 4, 32) := by kernel_rfl
theorem rss_u : Tryz.prog.underlying 45 = some (.slice 79) := by kernel_rfl
theorem rsss_u : Tryz.prog.underlying 148 = some (.slice 45) := by kernel_rfl
theorem enc_oneR {us : List Kp} : ∀ u ∈ us.flatMap encR, u.oneCell' = true := by
  intro u hu
  obtain ⟨q, -, h2⟩ := List.mem_flatMap.1 hu
  simp [encR] at h2
  rcases h2 with rfl | rfl | rfl | rfl <;> rfl
set_option maxRecDepth 100000 in
set_option maxHeartbeats 4000000 in
theorem grow_nil (n : Nat) (w : World) (hn : n ≤ 4096) :
    Calls Tryz.prog 90 #[.slice none 0 0, .int .i64 (n : Int)] w fun e w' => ∃ (A : Option Addr) (cap : Nat), e = .returned (.slice A 0 cap) ∧ w'.ownsRow w.heap.size 79 4 (.slice A 0 cap) 0 [] ∧ Below w.heap.size w w' := by
  by_cases h0 : n = 0
  · subst h0
    go_enter Tryz.func90, Tryz.ntmps90
    go_wp2
    go_ret
    exact ⟨none, 0, rfl, World.ownsRow_nil _ _ _ _, Below.refl _ _⟩
  · obtain ⟨j0, hj_, hy0, hy1, hy2⟩ := info_parts rs_info
    have hrz : ∀ ty, (Builtin.append_ #[45, 3] ty #[.slice none 0 0, .int .i64 (n : Int)]).run Tryz.prog w = .ok (.slice (some ⟨w.heap.size, 0, none⟩) (0 + n) (grownCap w (0 + n) 0 79)) (w.drew.alloc (.cells (#[] ++ Builtin.zeroCells (Value.agg #[.int .i64 0, .int .u64 0, .int .i64 0, .int .i64 0]).cells n ++ Builtin.zeroCells (Value.agg #[.int .i64 0, .int .u64 0, .int .i64 0, .int .i64 0]).cells (grownCap w (0 + n) 0 79 - (0 + n))) 79)) := fun ty =>
      Lib.run_append_grow_zeros w 45 3 ty 79 j0 (.agg #[.int .i64 0, .int .u64 0, .int .i64 0, .int .i64 0]) .i64 .i64 rss_u pk_u1 hj_ hy0 none 0 0 [] (run_firstCells_none w.drew j0.size 0 0 0) n (by omega) (by rw [hy1]; decide) (by omega) (by omega) (by rw [hy2]; omega) (growslice_fits (by omega) (by rw [hy2]; omega))
    have hGn : 0 + n ≤ grownCap w (0 + n) 0 79 := grownCap_ge w _ _ _
    have hGm := grownCap_le_maxLen w (0 + n) 0 79 (by unfold maxLen; omega)
    obtain ⟨G, hG⟩ : ∃ G, G = grownCap w (0 + n) 0 79 := ⟨_, rfl⟩
    rw [← hG] at hrz hGn hGm
    rw [Nat.zero_add] at hrz hGn
    clear hG
    have hG63 : G ≤ 9223372036854775807 := by unfold maxLen at hGm; omega
    have h1 : ¬ ((n : Int) < 0) := by omega
    have h2 : wrap64 ((n : Int)) = (n : Int) := IntWalk.wrap64_in _ ⟨by omega, by omega⟩
    have h4 : 0 < n := by omega
    have h5 : (0 : Int) < (n : Int) := by omega
    have hown : (w.drew.alloc (.cells (#[] ++ Builtin.zeroCells (Value.agg #[.int .i64 0, .int .u64 0, .int .i64 0, .int .i64 0]).cells n ++ Builtin.zeroCells (Value.agg #[.int .i64 0, .int .u64 0, .int .i64 0, .int .i64 0]).cells (G - n)) 79)).ownsRow w.heap.size 79 4 (.slice (some ⟨w.heap.size, 0, none⟩) 0 G) 0 [] := World.ownsRow_made w.drew _ G (Nat.le_refl _) hGm (by
      rw [Array.size_append, Array.size_append, size_zeroCells, size_zeroCells]
      show 0 + n * 4 + (G - n) * 4 = G * 4
      omega)
    obtain ⟨Z, hZ⟩ : ∃ Z, #[] ++ Builtin.zeroCells (Value.agg #[.int .i64 0, .int .u64 0, .int .i64 0, .int .i64 0]).cells n ++ Builtin.zeroCells (Value.agg #[.int .i64 0, .int .u64 0, .int .i64 0, .int .i64 0]).cells (G - n) = Z := ⟨_, rfl⟩
    rw [hZ] at hown hrz
    have HOWN := Lib.hid hown
    clear hZ hown hGm
    go_enter Tryz.func90, Tryz.ntmps90
    go_wp2_with (at_builtin; refine Lib.wpList_append_run _ rfl _ _ _ _ rfl _ _ rfl rfl _ _ (hrz _) ?_)
    go_ret
    exact ⟨_, G, rfl, HOWN.out, Lw.below_alloc (Below.drew (Below.refl _ _)) _⟩
/-- Rows of what is kept, one for each level. -/
structure Rows4 (w : World) (kb N : Nat) (V : Nat → Value) (ls : Nat → List Kp) : Prop where
  cell : ∀ M, M < N → w.cell? ⟨kb, M, none⟩ = some (V M)
  own : ∀ M, M < N → ∃ B, w.ownsRow B 79 4 (V M) (ls M).length ((ls M).flatMap encR)
  nil : ∀ M, M < N → (ls M).length = 0 → V M = .slice none 0 0
theorem Rows4.up {w w' : World} {kb N : Nat} {V : Nat → Value} {ls : Nat → List Kp} (h : Rows4 w kb N V ls) (hb : Below w.heap.size w w') : Rows4 w' kb N V ls :=
  ⟨fun M hM => cell_up (h.cell M hM) hb, fun M hM => by
    obtain ⟨B, g⟩ := h.own M hM
    exact ⟨B, (Kept.of_below (F := fun _ => False) hb).own g (fun _ _ h => h)⟩, h.nil⟩
theorem w_cat {a b c : Nat} (h : a + b = c) (hc : c ≤ 4096) : wrap64 ((a : Int) + (b : Int)) = (c : Int) := (IntWalk.wrap64_in _ ⟨by omega, by omega⟩).trans (by omega)
def catK (ls : Nat → List Kp) (n : Nat) : List Kp := (List.range n).flatMap ls
theorem catK_next (ls : Nat → List Kp) (n : Nat) : catK ls (n + 1) = catK ls n ++ ls n := by
  unfold catK
  rw [List.range_succ, List.flatMap_append]
  simp
theorem catK_le (ls : Nat → List Kp) {n : Nat} : ∀ {m : Nat}, n ≤ m → (catK ls n).length ≤ (catK ls m).length
  | 0, h => by
    have : n = 0 := by omega
    subst this
    exact Nat.le_refl _
  | m + 1, h => by
    by_cases e : n = m + 1
    · subst e
      exact Nat.le_refl _
    · have := catK_le ls (n := n) (m := m) (by omega)
      rw [catK_next, List.length_append]
      omega
set_option maxRecDepth 100000 in
set_option maxHeartbeats 4000000 in
theorem concat_any (kb N : Nat) (V : Nat → Value) (ls : Nat → List Kp) (w : World) (h : Rows4 w kb N V ls) (hN : N ≤ 60) (ht : (catK ls N).length ≤ 4096) :
    Calls Tryz.prog 75 #[.slice (some ⟨kb, 0, none⟩) N N] w fun e w' => ∃ (A : Option Addr) (n cap : Nat), e = .returned (.slice A n cap) ∧ w'.ownsRow w.heap.size 79 4 (.slice A n cap) n ((catK ls N).flatMap encR) ∧ n = (catK ls N).length ∧ Below w.heap.size w w' := by
  have HR := Lib.hid h
  have HT := Lib.hid ht
  obtain ⟨j0, hj_, hy0, hy1, hy2⟩ := info_parts rs_info
  have wN : ∀ n : Nat, n ≤ 4096 → wrap64 (n : Int) = (n : Int) := fun n hn => IntWalk.wrap64_in _ ⟨by omega, by omega⟩
  have WN := Lib.hid wN
  clear h ht wN
  go_enter Tryz.func75, Tryz.ntmps75
  go_wp2
  go_loopw [3, 11] (fun sv iv wr => ∃ t : Nat, t ≤ N ∧ iv = .int .i64 (t : Int) ∧ sv = .int .i64 (((catK ls t).length : Nat) : Int) ∧ w = wr) (fun _ iv _ => 100 - (intOf iv).toNat)
  case atStart => exact ⟨0, Nat.zero_le _, rfl, rfl, rfl⟩
  case round =>
    obtain ⟨t, htN, rfl, rfl, rfl⟩ := hrel
    by_cases hm : t < N
    · have lt0 : (0 : Int) ≤ (t : Int) := by omega
      have lt1 : (t : Int) < (N : Int) := by omega
      have r0 := HR.out.cell t hm
      obtain ⟨B, ho⟩ := HR.out.own t hm
      obtain ⟨-, A0, cap0, e0⟩ := own_formK ho
      rw [e0] at r0
      obtain ⟨S0, hS0⟩ : ∃ n, (catK ls t).length = n := ⟨_, rfl⟩
      obtain ⟨M0, hM0⟩ : ∃ n, (ls t).length = n := ⟨_, rfl⟩
      obtain ⟨S1, hS1⟩ : ∃ n, S0 + M0 = n := ⟨_, rfl⟩
      have hS2 : (catK ls (t + 1)).length = S1 := by rw [catK_next, List.length_append, hS0, hM0, hS1]
      have hS3 := catK_le ls (n := t + 1) (m := N) (by omega)
      rw [hS2] at hS3
      have w1 : wrap64 ((S0 : Int) + (M0 : Int)) = (S1 : Int) := w_cat hS1 (by have := HT.out; omega)
      have w2 : ¬ ((S1 : Int) < 0) := Int.not_lt.2 (Int.natCast_nonneg _)
      rw [hM0] at r0
      rw [hS0]
      have HS2 := Lib.hid hS2
      clear hS0 hM0 hS1 hS2 hS3 ho e0
      have hb60 : t < 60 := by omega
      go_wp2
      go_roundw
      case rel => exact ⟨t + 1, by omega, by go_num, by rw [HS2.out, w1], trivial⟩
      case measure => simp [intOf]; omega
    · have lt1 : ¬ (t : Int) < (N : Int) := by omega
      have et : t = N := by omega
      subst et
      obtain ⟨S0, hS0⟩ : ∃ n, (catK ls t).length = n := ⟨_, rfl⟩
      rw [hS0] at HT
      rw [hS0]
      have HS0 := Lib.hid hS0
      have HG := Lib.hid (fun w => grow_nil S0 w HT.out)
      clear hS0
      go_wp2_with (go_at_call 90; (with_reducible refine (HG.out _).mono ?_); rintro e wg ⟨AG, capG, rfl, hown, hb⟩; have HV0 := Lib.hid ((Have.nil _).push (ownK w.heap.size 79 4 (.slice AG 0 capG) 0 []) hb hown (fun k hk => own_ge hown k hk)); clear hb hown)
      go_loopw [6, 27] (fun ov iv wq => ∃ u : Nat, u ≤ t ∧ iv = .int .i64 (u : Int) ∧ Have w wq [ownK w.heap.size 79 4 ov (catK ls u).length ((catK ls u).flatMap encR)]) (fun _ iv _ => 100 - (intOf iv).toNat)
      case atStart => exact ⟨0, Nat.zero_le _, rfl, HV0.out⟩
      case round =>
        obtain ⟨u, hu, rfl, hv⟩ := hrel
        have HVr := Lib.hid hv
        have HRR := Lib.hid (HR.out.up hv.below)
        clear hv
        obtain ⟨N1, hN1⟩ : ∃ n, (catK ls u).length = n := ⟨_, rfl⟩
        rw [hN1] at HVr
        have HN1 := Lib.hid hN1
        by_cases hm : u < t
        · have lt0 : (0 : Int) ≤ (u : Int) := by omega
          have lt1 : (u : Int) < (t : Int) := by omega
          have r0 := HRR.out.cell u hm
          obtain ⟨B, ho⟩ := HRR.out.own u hm
          have hni := HRR.out.nil u hm
          obtain ⟨M0, hM0⟩ : ∃ n, (ls u).length = n := ⟨_, rfl⟩
          have hS3 := catK_le ls (n := u + 1) (m := t) (by omega)
          rw [catK_next, List.length_append, hN1, hM0] at hS3
          have HSM : Hid (N1 + M0 ≤ 4096) := Lib.hid (by have := HT.out; have := HS0.out; omega)
          rw [hM0] at ho hni
          have HM0 := Lib.hid hM0
          have HCN : Hid ((catK ls (u + 1)).length = N1 + M0) := Lib.hid (by rw [catK_next, List.length_append, HN1.out, HM0.out])
          have HCF : Hid ((catK ls (u + 1)).flatMap encR = (catK ls u).flatMap encR ++ (ls u).flatMap encR) := Lib.hid (by rw [catK_next, List.flatMap_append])
          have hu60 : u < 60 := by omega
          by_cases hz : M0 = 0
          · subst hz
            have e0 := hni rfl
            have hle : ls u = [] := List.eq_nil_of_length_eq_zero hM0
            rw [e0] at r0
            have HLE := Lib.hid hle
            clear hni ho hM0 hS3 hN1 hle e0
            go_wp2_with (at_builtin; go_must (refine appn_list rfl _ _ 45 rfl w.heap.size 79 j0 4 rss_u hj_ _ _ _ rfl (okI HVr.out.i0) rfl ?_))
            go_roundw
            case rel => exact ⟨u + 1, by omega, by go_num, by rw [HCN.out, HCF.out, HLE.out]; simpa using HVr.out⟩
            case measure => simp [intOf]; omega
          · obtain ⟨-, A0, cap0, e0⟩ := own_formK ho
            rw [e0] at ho r0
            obtain ⟨g0, rfl⟩ := own_some ho (by omega)
            have HO := Lib.hid ho
            clear hni hS3 hN1 hM0 ho e0
            go_wp2_with (at_builtin; go_must (refine wpList_append_lies _ rfl _ _ 45 rfl w.heap.size 79 j0 (.agg #[.int .i64 0, .int .u64 0, .int .i64 0, .int .i64 0]) 4 32 rss_u hj_ hy0 hy1 hy2 rfl (by decide) _ _ _ rfl (okI HVr.out.i0) ⟨g0, 0, none⟩ M0 cap0 ((ls u).flatMap encR) rfl (by rw [flat_len encR_len, HM0.out]) (HO.out.cells rfl) enc_oneR (by omega) (by have := HSM.out; unfold maxLen; omega) (by have := HSM.out; omega) (by have := HVr.out.below.size; exact this) _ rfl ?_); intro g7 cap7 w7 hown7 hgrow7 hat7 hlt7)
            have HV7 := Lib.hid (turn0K HVr.out hown7 hgrow7 hat7)
            go_roundw
            case rel => exact ⟨u + 1, by omega, by go_num, by rw [HCN.out, HCF.out]; exact HV7.out.up (by repeat' (first | (with_reducible exact Below.refl _ _) | (with_reducible assumption) | (with_reducible refine below_over ?_ _ _) | (with_reducible refine Lw.below_alloc ?_ _) | (with_reducible refine Below.drew ?_) | (with_reducible refine below_drewN ?_ _) | (with_reducible refine Below.setCell ?_ ?_ _) | go_size))⟩
            case measure => simp [intOf]; omega
        · have lt1 : ¬ (u : Int) < (t : Int) := by omega
          have eu : u = t := by omega
          subst eu
          obtain ⟨-, AO, capO, rfl⟩ := own_formK (okI HVr.out.i0)
          clear hN1
          go_wp2
          go_ret
          exact ⟨AO, N1, capO, rfl, okI HVr.out.i0, HN1.out.symm, HVr.out.below⟩
end Go.Proofs.YtmdkdjgamhaeoaaGreat.Hvy
/- What the code's closure of layer 18 holds in memory: what it turns (the rows of each level, whether all fits), and what it only reads. For stages from 18 on. By hand. -/
namespace Go.Proofs.YtmdkdjgamhaeoaaGreat.Hvy
open Go Go.RowKit Go.Maps Lw Grd Lin Con Shp Sk Exa Lev Stk Pcs Spn Qnt
set_option linter.unusedVariables false
set_option linter.unusedSimpArgs false
/-- The rows that are kept, one for each level, and whether each rest fits. -/
structure GK (B0 kb ab N : Nat) (hv : Array Value) (ls : Nat → List Kp) (b : Bool) (w : World) : Prop where
  size : hv.size = N
  row : w.heap[kb]? = some (.cells hv 45 (0, 0))
  flag : w.heap[ab]? = some (.cells #[.bool b] 4 (0, 0))
  own : ∀ (M : Nat) v, hv[M]? = some v → w.ownsRow B0 79 4 v (ls M).length ((ls M).flatMap encR)
  nil : ∀ (M : Nat) v, hv[M]? = some v → (ls M).length = 0 → v = .slice none 0 0
  apart : ∀ (M M' : Nat) v v' k, M ≠ M' → hv[M]? = some v → hv[M']? = some v' → v.ownBlock = some k → v'.ownBlock ≠ some k
  far : kb < B0 ∧ ab < B0 ∧ kb ≠ ab
def gkF (kb ab : Nat) (hv : Array Value) (k : Nat) : Prop := k = kb ∨ k = ab ∨ ∃ (M : Nat) (v : Value), hv[M]? = some v ∧ v.ownBlock = some k
theorem GK.keep {B0 kb ab N : Nat} {hv : Array Value} {ls : Nat → List Kp} {b : Bool} {w w' : World} {H : Nat → Prop} (h : GK B0 kb ab N hv ls b w) (hk : Kept H w w') (hf : ∀ k, gkF kb ab hv k → ¬ H k) : GK B0 kb ab N hv ls b w' :=
  ⟨h.size, hk.heap h.row (hf _ (.inl rfl)), hk.heap h.flag (hf _ (.inr (.inl rfl))), fun M v hv => hk.own (h.own M v hv) (fun q hq => hf q (.inr (.inr ⟨M, v, hv, hq⟩))), h.nil, h.apart, h.far⟩
theorem heap_lt {w : World} {g : Nat} {o : Obj} (h : w.heap[g]? = some o) : g < w.heap.size := (Array.getElem?_eq_some_iff.1 h).1
def gkT (B0 kb ab N : Nat) (hv : Array Value) (ls : Nat → List Kp) (b : Bool) : Thing where
  I := GK B0 kb ab N hv ls b
  F := gkF kb ab hv
  keep := fun w w' H h hk hf => h.keep hk hf
  lt := fun w h k hk => by
    rcases hk with rfl | rfl | ⟨M, v, h1, h2⟩
    · exact heap_lt h.row
    · exact heap_lt h.flag
    · exact own_lt (h.own M v h1) h2
theorem set_heap {w : World} {g k i : Nat} {v : Value} (h : k ≠ g) : (w.setCell ⟨g, i, none⟩ v).heap[k]? = w.heap[k]? := by
  simp only [World.setCell, Array.getElem?_modify]
  rw [if_neg (fun e => h e.symm)]
theorem set_own {w : World} {g i : Nat} {u : Value} {base : Nat} {e : TypeId} {K : Nat} {v : Value} {n : Nat} {xs : List Value} (h : w.ownsRow base e K v n xs) (hg : v.ownBlock ≠ some g) : (w.setCell ⟨g, i, none⟩ u).ownsRow base e K v n xs := by
  have hk : Kept (fun q => q = g) w (w.setCell ⟨g, i, none⟩ u) := (Kept.refl (fun q => q = g) w).set (.inl rfl) i u
  exact hk.own h (fun q hq e => hg (by rw [hq, e]))
/-- Whether all fits, turned. -/
theorem GK.setFlag {B0 kb ab N : Nat} {hv : Array Value} {ls : Nat → List Kp} {b : Bool} {w : World} (h : GK B0 kb ab N hv ls b w) (b' : Bool) : GK B0 kb ab N hv ls b' (w.setCell ⟨ab, 0, none⟩ (.bool b')) := by
  refine ⟨h.size, by rw [set_heap h.far.2.2]; exact h.row, ?_, fun M v hv => set_own (h.own M v hv) (fun e => ?_), h.nil, h.apart, h.far⟩
  · have h1 := h.flag
    simp [World.setCell, Array.getElem?_modify, h1]
  · have := own_ge (h.own M v hv) _ e
    have := h.far.2.1
    omega
theorem GK.keptFlag {B0 kb ab N : Nat} {hv : Array Value} {ls : Nat → List Kp} {b : Bool} {w : World} (h : GK B0 kb ab N hv ls b w) (b' : Bool) : Kept (gkF kb ab hv) w (w.setCell ⟨ab, 0, none⟩ (.bool b')) := (Kept.refl _ w).set (.inl (.inr (.inl rfl))) 0 _
/-- One more is kept of a level. -/
def putK (ls : Nat → List Kp) (L : Nat) (x : Kp) (M : Nat) : List Kp := if M = L then ls M ++ [x] else ls M
theorem GK.app {B0 kb ab N : Nat} {hv : Array Value} {ls : Nat → List Kp} {b : Bool} {w w' : World} (h : GK B0 kb ab N hv ls b w) {L : Nat} {v : Value} (hL : hv[L]? = some v) {x : Kp} {g cap : Nat}
    (hown : w'.ownsRow B0 79 4 (.slice (some ⟨g, 0, none⟩) ((ls L).length + 1) cap) ((ls L).length + 1) ((ls L).flatMap encR ++ encR x)) (hg : w.grownBy w' v.ownBlock) (hat : v.ownBlock = some g ∨ g = w.heap.size) :
    GK B0 kb ab N (hv.set! L (.slice (some ⟨g, 0, none⟩) ((ls L).length + 1) cap)) (putK ls L x) b (w'.setCell ⟨kb, L, none⟩ (.slice (some ⟨g, 0, none⟩) ((ls L).length + 1) cap)) ∧
    Kept (gkF kb ab hv) w (w'.setCell ⟨kb, L, none⟩ (.slice (some ⟨g, 0, none⟩) ((ls L).length + 1) cap)) ∧
    (∀ k, gkF kb ab (hv.set! L (.slice (some ⟨g, 0, none⟩) ((ls L).length + 1) cap)) k → gkF kb ab hv k ∨ w.heap.size ≤ k) := by
  obtain ⟨V, hV⟩ : ∃ V, Value.slice (some ⟨g, 0, none⟩) ((ls L).length + 1) cap = V := ⟨_, rfl⟩
  have hVb : V.ownBlock = some g := by rw [← hV]; rfl
  rw [hV] at hown ⊢
  have hlt : L < hv.size := (Array.getElem?_eq_some_iff.1 hL).1
  have hgB : B0 ≤ g := own_ge hown g hVb
  have hget : ∀ (M : Nat) u, (hv.set! L V)[M]? = some u → (M = L ∧ u = V) ∨ (M ≠ L ∧ hv[M]? = some u) := by
    intro M u hu
    rw [Array.set!_eq_setIfInBounds] at hu
    by_cases e : M = L
    · subst e
      rw [Array.getElem?_setIfInBounds_self_of_lt hlt] at hu
      injection hu with hu
      exact .inl ⟨rfl, hu.symm⟩
    · rw [Array.getElem?_setIfInBounds_ne (fun h2 => e h2.symm)] at hu
      exact .inr ⟨e, hu⟩
  have hK : Kept (gkF kb ab hv) w w' := (Kept.refl _ w).grown hg (fun q hq => .inl (.inr (.inr ⟨L, v, hL, hq⟩)))
  have hnew : ∀ (M : Nat) u k, M ≠ L → hv[M]? = some u → u.ownBlock = some k → k ≠ g := by
    intro M u k hM hu hk e
    subst e
    rcases hat with h1 | h1
    · exact h.apart M L u v k hM hu hL hk h1
    · have := own_lt (h.own M u hu) hk
      omega
  have hkb : kb < w.heap.size := heap_lt h.row
  have hab : ab < w.heap.size := heap_lt h.flag
  have hvkb : v.ownBlock ≠ some kb := fun e => by
    have := own_ge (h.own L v hL) _ e
    have := h.far.1
    omega
  have hvab : v.ownBlock ≠ some ab := fun e => by
    have := own_ge (h.own L v hL) _ e
    have := h.far.2.1
    omega
  refine ⟨⟨?_, ?_, ?_, ?_, ?_, ?_, h.far⟩, hK.set (.inl (.inl rfl)) _ _, ?_⟩
  · rw [Array.set!_eq_setIfInBounds, Array.size_setIfInBounds]
    exact h.size
  · have h1 : w'.heap[kb]? = some (.cells hv 45 (0, 0)) := by rw [hg.block kb hkb (fun e => hvkb e.symm)]; exact h.row
    simp [World.setCell, Array.getElem?_modify, h1]
  · have h1 : w'.heap[ab]? = some (.cells #[.bool b] 4 (0, 0)) := by rw [hg.block ab hab (fun e => hvab e.symm)]; exact h.flag
    rw [set_heap (fun e => h.far.2.2 e.symm)]
    exact h1
  · intro M u hu
    rcases hget M u hu with ⟨rfl, rfl⟩ | ⟨hM, hu2⟩
    · have e1 : putK ls M x M = ls M ++ [x] := if_pos rfl
      rw [e1, List.length_append, flat_snoc]
      exact set_own hown (fun e => by rw [hVb] at e; injection e with e; have := h.far.1; omega)
    · have e1 : putK ls L x M = ls M := if_neg hM
      rw [e1]
      have h2 := h.own M u hu2
      have h3 : w'.ownsRow B0 79 4 u (ls M).length ((ls M).flatMap encR) := (Kept.refl (fun q => v.ownBlock = some q) w |>.grown hg (fun q hq => .inl hq)).own h2 (fun q hq e => h.apart M L u v q hM hu2 hL hq e)
      exact set_own h3 (fun e => by have := own_ge h2 _ e; have := h.far.1; omega)
  · intro M u hu h0
    rcases hget M u hu with ⟨rfl, rfl⟩ | ⟨hM, hu2⟩
    · have e1 : putK ls M x M = ls M ++ [x] := if_pos rfl
      rw [e1, List.length_append] at h0
      simp at h0
    · have e1 : putK ls L x M = ls M := if_neg hM
      rw [e1] at h0
      exact h.nil M u hu2 h0
  · intro M M' u u' k hne hu hu' hk
    rcases hget M u hu with ⟨e1, e2⟩ | ⟨hM, hu2⟩
    · rcases hget M' u' hu' with ⟨e3, e4⟩ | ⟨hM', hu2'⟩
      · omega
      · rw [e2, hVb] at hk
        injection hk with hk
        intro hk'
        exact hnew M' u' k hM' hu2' hk' hk.symm
    · rcases hget M' u' hu' with ⟨e3, e4⟩ | ⟨hM', hu2'⟩
      · rw [e4, hVb]
        intro hk'
        injection hk' with hk'
        exact hnew M u k hM hu2 hk hk'.symm
      · exact h.apart M M' u u' k hne hu2 hu2' hk
  · intro k hk
    rcases hk with rfl | rfl | ⟨M, u, h1, h2⟩
    · exact .inl (.inl rfl)
    · exact .inl (.inr (.inl rfl))
    · rcases hget M u h1 with ⟨e1, e2⟩ | ⟨hM, hu2⟩
      · rw [e2, hVb] at h2
        injection h2 with h2
        rcases hat with h3 | h3
        · exact .inl (.inr (.inr ⟨L, v, hL, by rw [h3, h2]⟩))
        · exact .inr (by omega)
      · exact .inl (.inr (.inr ⟨M, u, hu2, h2⟩))
/-- What the closure only reads. -/
structure CTI (tb mb bb gb lb sb kb N : Nat) (BB : Nat) (D : DataW Unit) (least : Int) (fn : Value) (w : World) : Prop where
  tcell : w.cell? ⟨tb, 0, none⟩ = some (.map (some mb))
  tmap : w.ownsMap Tryz.prog 69 (plainElem Tryz.prog 2) mb 5000 D
  bcell : w.cell? ⟨bb, 0, none⟩ = some (.int .i64 (BB : Int))
  gcell : w.cell? ⟨gb, 0, none⟩ = some fn
  lcell : w.cell? ⟨lb, 0, none⟩ = some (.int .i64 least)
  scell : w.cell? ⟨sb, 0, none⟩ = some (.slice (some ⟨kb, 0, none⟩) N N)
def ctF (tb mb bb gb lb sb : Nat) (k : Nat) : Prop := k = tb ∨ k = mb ∨ k = bb ∨ k = gb ∨ k = lb ∨ k = sb
theorem CTI.keep {tb mb bb gb lb sb kb N BB : Nat} {D : DataW Unit} {least : Int} {fn : Value} {w w' : World} {H : Nat → Prop} (h : CTI tb mb bb gb lb sb kb N BB D least fn w) (hk : Kept H w w') (hf : ∀ k, ctF tb mb bb gb lb sb k → ¬ H k) : CTI tb mb bb gb lb sb kb N BB D least fn w' := by
  refine ⟨hk.cell h.tcell (hf _ (.inl rfl)), ?_, hk.cell h.bcell (hf _ (.inr (.inr (.inl rfl)))), hk.cell h.gcell (hf _ (.inr (.inr (.inr (.inl rfl))))), hk.cell h.lcell (hf _ (.inr (.inr (.inr (.inr (.inl rfl)))))), hk.cell h.scell (hf _ (.inr (.inr (.inr (.inr (.inr rfl))))))⟩
  obtain ⟨es, clock, h1, h2⟩ := h.tmap
  exact ⟨es, clock, hk.heap h1 (hf _ (.inr (.inl rfl))), h2⟩
theorem CTI.lt {tb mb bb gb lb sb kb N BB : Nat} {D : DataW Unit} {least : Int} {fn : Value} {w : World} (h : CTI tb mb bb gb lb sb kb N BB D least fn w) : ∀ k, ctF tb mb bb gb lb sb k → k < w.heap.size := by
  rintro k (rfl | rfl | rfl | rfl | rfl | rfl)
  · exact cell_lt h.tcell
  · exact h.tmap.lt
  · exact cell_lt h.bcell
  · exact cell_lt h.gcell
  · exact cell_lt h.lcell
  · exact cell_lt h.scell
theorem CTI.up {tb mb bb gb lb sb kb N BB : Nat} {D : DataW Unit} {least : Int} {fn : Value} {w w' : World} (h : CTI tb mb bb gb lb sb kb N BB D least fn w) (hb : Below w.heap.size w w') : CTI tb mb bb gb lb sb kb N BB D least fn w' := h.keep (H := fun _ => False) (Kept.of_below hb) (fun _ _ h => h)
/-- What is only read stands beside what is turned, whatever was done. -/
theorem ct_far {tb mb bb gb lb sb kb ab N BB : Nat} {D : DataW Unit} {least : Int} {fn : Value} {w0 w : World} {F0 : Nat → Prop} {hv : Array Value} (hc : CTI tb mb bb gb lb sb kb N BB D least fn w0) (h0 : ∀ k, ctF tb mb bb gb lb sb k → ¬ F0 k) (hF : ∀ k, gkF kb ab hv k → F0 k ∨ w0.heap.size ≤ k) : ∀ k, ctF tb mb bb gb lb sb k → ¬ gkF kb ab hv k := by
  intro k hk h1
  rcases hF k h1 with h2 | h2
  · exact h0 k hk h2
  · have := hc.lt k hk
    omega
theorem gk_start {B0 kb ab N : Nat} {hv : Array Value} {ls : Nat → List Kp} {b : Bool} {w : World} (h : GK B0 kb ab N hv ls b w) : Hold (gkF kb ab hv) w w [gkT B0 kb ab N hv ls b] :=
  ⟨Kept.refl _ _, fun t ht => by
    rw [List.mem_singleton] at ht
    subst ht
    exact ⟨h, fun k hk => .inl hk⟩, ⟨fun u hu => (by cases hu), trivial⟩⟩
end Go.Proofs.YtmdkdjgamhaeoaaGreat.Hvy
/- The code's wide numbers in layer 18: sums, and what is left. Printed by wip/gen/hvy9.py. -/
namespace Go.Proofs.YtmdkdjgamhaeoaaGreat.Hvy
open Go Go.RowKit Lw Grd Lin Con Shp Sk Exa Lev Stk Pcs Spn Qnt
set_option linter.unusedVariables false
set_option linter.unusedSimpArgs false
set_option linter.unusedSimpArgs false
theorem w_add (x y : Int) (w : World) (hx : -85070591730234615865843651857942052864 ≤ x ∧ x ≤ 85070591730234615865843651857942052863) (hy : -85070591730234615865843651857942052864 ≤ y ∧ y ≤ 85070591730234615865843651857942052863) :
    Calls Tryz.prog 72 #[.agg #[.int .i64 (Wid.fh (x)), .int .u64 (Wid.fl (x))], .agg #[.int .i64 (Wid.fh (y)), .int .u64 (Wid.fl (y))]] w fun e w' => e = .returned (.tuple #[.agg #[.int .i64 (Wid.fh (x + y)), .int .u64 (Wid.fl (x + y))], .bool true]) ∧ Below w.heap.size w w' := by
  have h1 := Wid.fh_bd x
  have h2 := Wid.fl_bd x
  have h3 := Wid.fh_bd y
  have h4 := Wid.fl_bd y
  have h := Wid.add_any (Wid.fh x) (Wid.fl x) (Wid.fh y) (Wid.fl y) w h1.1 h1.2 h2.1 h2.2 h3.1 h3.2 h4.1 h4.2
  rw [Wid.vl_fit x (by omega) (by omega), Wid.vl_fit y (by omega) (by omega), (Wid.fit_yes (z := x + y) (by omega) (by omega)).1] at h
  exact h
theorem w_sub (x y : Int) (w : World) (hx : -85070591730234615865843651857942052864 ≤ x ∧ x ≤ 85070591730234615865843651857942052863) (hy : -85070591730234615865843651857942052864 ≤ y ∧ y ≤ 85070591730234615865843651857942052863) :
    Calls Tryz.prog 88 #[.agg #[.int .i64 (Wid.fh (x)), .int .u64 (Wid.fl (x))], .agg #[.int .i64 (Wid.fh (y)), .int .u64 (Wid.fl (y))]] w fun e w' => e = .returned (.tuple #[.agg #[.int .i64 (Wid.fh (x - y)), .int .u64 (Wid.fl (x - y))], .bool true]) ∧ Below w.heap.size w w' := by
  have h1 := Wid.fh_bd x
  have h2 := Wid.fl_bd x
  have h3 := Wid.fh_bd y
  have h4 := Wid.fl_bd y
  have h := Wid.sub_any (Wid.fh x) (Wid.fl x) (Wid.fh y) (Wid.fl y) w h1.1 h1.2 h2.1 h2.2 h3.1 h3.2 h4.1 h4.2
  rw [Wid.vl_fit x (by omega) (by omega), Wid.vl_fit y (by omega) (by omega), (Wid.fit_yes (z := x - y) (by omega) (by omega)).1] at h
  exact h
theorem w_int (x : Int) (w : World) (hx : -170141183460469231731687303715884105728 ≤ x ∧ x < 170141183460469231731687303715884105728) :
    Calls Tryz.prog 89 #[.agg #[.int .i64 (Wid.fh (x)), .int .u64 (Wid.fl (x))]] w fun e w' => e = .returned (.tuple #[.int .i64 (Wid.f64 x), .bool (Wid.fit64 x)]) ∧ Below w.heap.size w w' := by
  have h1 := Wid.fh_bd x
  have h2 := Wid.fl_bd x
  have h := Wid.int_any (Wid.fh x) (Wid.fl x) w h1.1 h1.2 h2.1 h2.2
  rw [Wid.vl_fit x hx.1 hx.2] at h
  exact h
set_option maxRecDepth 100000 in
set_option maxHeartbeats 4000000 in
theorem without_any (n s : Int) (w : World) (n0 : -9223372036854775808 ≤ n) (n1 : n ≤ 9223372036854775807) (hs : -42535295865117307932921825928971026432 ≤ s ∧ s ≤ 42535295865117307932921825928971026431) :
    Calls Tryz.prog 73 #[.int .i64 n, .agg #[.int .i64 (Wid.fh (s)), .int .u64 (Wid.fl (s))]] w fun e w' => e = .returned (.tuple #[.int .i64 (Wid.f64 (n - s)), .bool (Wid.fit64 (n - s))]) ∧ Below w.heap.size w w' := by
  have CO := Lib.hid (fun w => Wid.of_any n w n0 n1)
  have CS := Lib.hid (fun w => w_sub n s w (by omega) (by omega))
  have CI := Lib.hid (fun w => w_int (n - s) w (by omega))
  obtain ⟨D, hD⟩ : ∃ D, n - s = D := ⟨_, rfl⟩
  rw [hD] at CS CI
  rw [hD]
  obtain ⟨SH, hSH⟩ : ∃ v, Wid.fh s = v := ⟨_, rfl⟩
  obtain ⟨SL, hSL⟩ : ∃ v, Wid.fl s = v := ⟨_, rfl⟩
  obtain ⟨NH, hNH⟩ : ∃ v, Wid.fh n = v := ⟨_, rfl⟩
  obtain ⟨NL, hNL⟩ : ∃ v, Wid.fl n = v := ⟨_, rfl⟩
  obtain ⟨DH, hDH⟩ : ∃ v, Wid.fh D = v := ⟨_, rfl⟩
  obtain ⟨DL, hDL⟩ : ∃ v, Wid.fl D = v := ⟨_, rfl⟩
  obtain ⟨R, hR⟩ : ∃ v, Wid.f64 D = v := ⟨_, rfl⟩
  obtain ⟨T, hT⟩ : ∃ v, Wid.fit64 D = v := ⟨_, rfl⟩
  rw [hSH, hSL, hNH, hNL, hDH, hDL] at CS
  rw [hNH, hNL] at CO
  rw [hDH, hDL, hR, hT] at CI
  rw [hSH, hSL, hR, hT]
  clear hD hSH hSL hNH hNL hDH hDL hR hT n0 n1 hs
  go_enter Tryz.func73, Tryz.ntmps73
  go_wp2
  have B0w : Below w.heap.size w (w.alloc (.cells #[.int .i64 SH, .int .u64 SL] 151)) := Lw.below_alloc (Below.refl _ _) _
  have q0 : (w.alloc (.cells #[.int .i64 SH, .int .u64 SL] 151)).cell? ⟨w.heap.size, 0, none⟩ = some (.int .i64 SH) := box_cell (heap_alloc_new w _) rfl
  have q1 : (w.alloc (.cells #[.int .i64 SH, .int .u64 SL] 151)).cell? ⟨w.heap.size, 1, none⟩ = some (.int .u64 SL) := box_cell (heap_alloc_new w _) rfl
  obtain ⟨W, hW⟩ : ∃ W, w.alloc (.cells #[.int .i64 SH, .int .u64 SL] 151) = W := ⟨_, rfl⟩
  have hWs : W.heap.size = w.heap.size + 1 := by rw [← hW]; simp
  rw [hW] at B0w q0 q1 ⊢
  clear hW
  go_cut [6, 7] (fun s6 s7 wx => ∃ a : Nat, s6 = .pointer (some ⟨a, 0, none⟩) ∧ s7 = .bool true ∧ Below W.heap.size W wx ∧ wx.heap[a]? = some (.cells #[.int .i64 DH, .int .u64 DL] 151 (0, 0)))
  case first =>
    go_region_held3 (fun w' => Below W.heap.size W w' ∧ w'.cell? ⟨w.heap.size, 0, none⟩ = some (.int .i64 SH) ∧ w'.cell? ⟨w.heap.size, 1, none⟩ = some (.int .u64 SL)) (first | (refine ⟨?_, ?_, ?_⟩ <;> (first | (with_reducible assumption) | (with_reducible refine cell_up q0 ?_) | (with_reducible refine cell_up q1 ?_) | skip) <;> (repeat' (first | (with_reducible exact Below.refl _ _) | (with_reducible assumption) | (with_reducible refine below_over ?_ _ _) | (with_reducible refine Lw.below_alloc ?_ _) | (with_reducible refine Below.drew ?_) | (with_reducible refine below_drewN ?_ _) | (with_reducible refine Below.setCell ?_ ?_ _) | go_size)))) (first
      | (go_at_call 74; (with_reducible refine (CO.out _).mono ?_); rintro e w5 ⟨rfl, hb⟩; obtain ⟨bs, d, rfl⟩ := below_grow hb; clear hb)
      | (go_at_call 88; (with_reducible refine (CS.out _).mono ?_); rintro e w5 ⟨rfl, hb⟩; obtain ⟨bs, d, rfl⟩ := below_grow hb; clear hb))
    all_goals go_wp2_with fail
    all_goals go_meet
    all_goals refine ⟨_, rfl, rfl, (by (repeat' (first | (with_reducible exact Below.refl _ _) | (with_reducible assumption) | (with_reducible refine below_over ?_ _ _) | (with_reducible refine Lw.below_alloc ?_ _) | (with_reducible refine Below.drew ?_) | (with_reducible refine below_drewN ?_ _) | (with_reducible refine Below.setCell ?_ ?_ _) | go_size))), ?_⟩
    all_goals (repeat' (first | (with_reducible refine blk_grow ?_) | (refine blk_new ?_; go_size; done) | (refine blk_new ?_; simp; omega) | (with_reducible refine blk_alloc ?_)))
  case rest =>
    obtain ⟨a, rfl, rfl, hb, ha0⟩ := hcut
    obtain ⟨wo, rfl⟩ : ∃ wo, wo = wc := ⟨_, rfl⟩
    have HBo := Lib.hid (B0w.trans (hb.mono (by omega)))
    have a0 := box_cell ha0 (i := 0) rfl
    have a1 := box_cell ha0 (i := 1) rfl
    clear ha0 q0 q1 hb B0w
    go_wp2_with (go_at_call 89; (with_reducible refine (CI.out _).mono ?_); rintro e w6 ⟨rfl, hb⟩; have HB6 := Lib.hid (HBo.out.trans (hb.mono HBo.out.size)); clear hb)
    refine bodyPost_ret (v := .tuple #[.int .i64 R, .bool T]) (by simp [results, Tryz.results73, go_sem]) rfl ?_
    exact ⟨rfl, HB6.out⟩
end Go.Proofs.YtmdkdjgamhaeoaaGreat.Hvy
/- What the code's closure of layer 18 promises. Printed by wip/gen/hvy9.py. -/
namespace Go.Proofs.YtmdkdjgamhaeoaaGreat.Hvy
open Go Go.RowKit Go.Maps Lw Grd Lin Con Shp Sk Exa Lev Stk Pcs Spn Qnt
set_option linter.unusedVariables false
set_option linter.unusedSimpArgs false
set_option linter.unusedSimpArgs false
def fnV (tb bb gb ab lb sb : Nat) : Value := .func (.func 71) #[] #[.pointer (some ⟨tb, 0, none⟩), .pointer (some ⟨bb, 0, none⟩), .pointer (some ⟨gb, 0, none⟩), .pointer (some ⟨ab, 0, none⟩), .pointer (some ⟨lb, 0, none⟩), .pointer (some ⟨sb, 0, none⟩)]
/-- The closure, called of one piece. -/
def GatC (tb mb bb gb lb sb kb ab N BB B0 : Nat) (D : DataW Unit) (least : Int) (T : Nat → Nat → Option Int) (L i : Nat) : Prop := ∀ (hv : Array Value) (ls : Nat → List Kp) (b : Bool) (w : World), CTI tb mb bb gb lb sb kb N BB D least (fnV tb bb gb ab lb sb) w → GK B0 kb ab N hv ls b w → (∀ k, ctF tb mb bb gb lb sb k → ¬ gkF kb ab hv k) → (∀ M, (ls M ++ gL T least L i M).length ≤ 4096) → B0 ≤ w.heap.size →
    Calls Tryz.prog 71 #[.agg #[.int .i64 (L : Int), .int .u64 (i : Int)], .pointer (some ⟨tb, 0, none⟩), .pointer (some ⟨bb, 0, none⟩), .pointer (some ⟨gb, 0, none⟩), .pointer (some ⟨ab, 0, none⟩), .pointer (some ⟨lb, 0, none⟩), .pointer (some ⟨sb, 0, none⟩)] w fun e w' => ∃ hv' : Array Value, e = .returned (.agg #[.int .i64 (Wid.fh (gW T least L i)), .int .u64 (Wid.fl (gW T least L i))]) ∧ GK B0 kb ab N hv' (fun M => ls M ++ gL T least L i M) (b && gF T least L i) w' ∧ Kept (gkF kb ab hv) w w' ∧ (∀ k, gkF kb ab hv' k → gkF kb ab hv k ∨ w.heap.size ≤ k)
/-- What the map says of the pieces. -/
def MapT (D : DataW Unit) (T : Nat → Nat → Option Int) : Prop := ∀ L i : Nat, L ≤ 59 → i ≤ 576460752303423488 → (∀ n, T L i = some n → Maps.has D (pkl L i) = true ∧ ∀ z, D.atKey (pkl L i) z = .lit (.int .i64 n)) ∧ (T L i = none → Maps.has D (pkl L i) = false ∧ ∀ z, D.atKey (pkl L i) z = z)
theorem two_new {F0 : Nat → Prop} {w0 w : World} {ts : List Thing} (h : Hold F0 w0 w ts) (vs us : Array Value) (e f : TypeId) : Hold F0 w0 ((w.alloc (.cells vs e)).alloc (.cells us f)) (boxT (w.heap.size + 1) f us :: boxT w.heap.size e vs :: ts) := by
  have h1 := h.push (boxT w.heap.size e vs) (Lw.below_alloc (Below.refl _ _) _) (heap_alloc_new w _) (fun k hk => Nat.le_of_eq hk.symm)
  refine h1.push (boxT (w.heap.size + 1) f us) (Lw.below_alloc (Below.refl _ _) _) ?_ (fun k hk => ?_)
  · exact Qnt.blk_new (by simp)
  · have hk2 : k = w.heap.size + 1 := hk
    simp
    omega
theorem one_new {F0 : Nat → Prop} {w0 w : World} {ts : List Thing} (h : Hold F0 w0 w ts) (vs : Array Value) (e : TypeId) : Hold F0 w0 (w.alloc (.cells vs e)) (boxT w.heap.size e vs :: ts) := h.push (boxT w.heap.size e vs) (Lw.below_alloc (Below.refl _ _) _) (heap_alloc_new w _) (fun k hk => Nat.le_of_eq hk.symm)
theorem put_two {F0 : Nat → Prop} {w0 w : World} {fs ts : List Thing} {b : Nat} {e : TypeId} {u0 u1 : Value} (h : Hold F0 w0 w (fs ++ boxT b e #[u0, u1] :: ts)) (v0 v1 : Value) : Hold F0 w0 ((w.setCell ⟨b, 0, none⟩ v0).setCell ⟨b, 1, none⟩ v1) (fs ++ boxT b e #[v0, v1] :: ts) := by
  have h1 : (boxT b e #[u0, u1]).I w := h.i (by simp)
  refine h.turn (boxT b e #[v0, v1]) ?_ (((Kept.refl (fun k => k = b) w).set (.inl rfl) 0 v0).set (.inl rfl) 1 v1) (fun k hk => .inl hk)
  have h2 : w.heap[b]? = some (.cells #[u0, u1] e (0, 0)) := h1
  show ((w.setCell ⟨b, 0, none⟩ v0).setCell ⟨b, 1, none⟩ v1).heap[b]? = some (.cells #[v0, v1] e (0, 0))
  simp [World.setCell, Array.getElem?_modify, h2]
theorem hold_two {F0 : Nat → Prop} {w0 w : World} {ts : List Thing} (h : Hold F0 w0 w ts) {b : Nat} {e : TypeId} {v0 v1 : Value} (hm : boxT b e #[v0, v1] ∈ ts) : w.cell? ⟨b, 0, none⟩ = some v0 ∧ w.cell? ⟨b, 1, none⟩ = some v1 ∧ w.frozen? ⟨b, 0, none⟩ = false ∧ w.frozen? ⟨b, 1, none⟩ = false := by
  have h1 : (boxT b e #[v0, v1]).I w := h.i hm
  have h2 : w.heap[b]? = some (.cells #[v0, v1] e (0, 0)) := h1
  exact ⟨box_cell h1 rfl, box_cell h1 rfl, Qnt.blk_frozen h2 0, Qnt.blk_frozen h2 1⟩
theorem gk_of {F0 : Nat → Prop} {w0 w : World} {ts : List Thing} {B0 kb ab N : Nat} {hv : Array Value} {ls : Nat → List Kp} {b : Bool} (h : Hold F0 w0 w ts) (hm : gkT B0 kb ab N hv ls b ∈ ts) : GK B0 kb ab N hv ls b w ∧ ∀ k, gkF kb ab hv k → F0 k ∨ w0.heap.size ≤ k := ⟨h.i hm, (h.2.1 _ hm).2⟩
theorem ct_at {tb mb bb gb lb sb kb N BB : Nat} {D : DataW Unit} {least : Int} {fn : Value} {w0 w : World} {F0 : Nat → Prop} {ts : List Thing} (hc : CTI tb mb bb gb lb sb kb N BB D least fn w0) (h0 : ∀ k, ctF tb mb bb gb lb sb k → ¬ F0 k) (h : Hold F0 w0 w ts) : CTI tb mb bb gb lb sb kb N BB D least fn w := hc.keep h.1 h0
theorem chalf_two (BB LM ix I2 I3 : Nat) (w : World) (h1 : BB ≤ 59) (h2 : LM + 1 ≤ BB) (h3 : ix < 2 ^ (BB - (LM + 1))) (e2 : 2 * ix = I2) (e3 : 2 * ix + 1 = I3) :
    Calls Tryz.prog 69 #[.int .i64 (BB : Int), .agg #[.int .i64 ((LM + 1 : Nat) : Int), .int .u64 (ix : Int)]] w fun e w' => e = .returned (.tuple #[.agg #[.int .i64 (LM : Int), .int .u64 (I2 : Int)], .agg #[.int .i64 (LM : Int), .int .u64 (I3 : Int)], .bool true]) ∧ Below w.heap.size w w' := by
  have h := chalf_nat BB LM ix w h1 h2 h3
  subst e2 e3
  have e : ((2 * ix + 1 : Nat) : Int) = ((2 * ix : Nat) : Int) + 1 := rfl
  rw [e]
  exact h
/-- What is kept in the end. -/
theorem fin_no {T : Nat → Nat → Option Int} {least : Int} {i : Nat} {n : Int} {ls : Nat → List Kp} (h : T 0 i = some n) (hr : Wid.f64 (n - gS T least 0 i) < least) : (fun M => ls M ++ gL T least 0 i M) = ls := by
  funext M
  rw [gL, gTop, h]
  simp only
  rw [if_pos hr, ite_self, List.append_nil]
theorem fin_yes {T : Nat → Nat → Option Int} {least : Int} {i : Nat} {n : Int} {ls : Nat → List Kp} (h : T 0 i = some n) (hr : ¬ Wid.f64 (n - gS T least 0 i) < least) : (fun M => ls M ++ gL T least 0 i M) = putK ls 0 ((0, i), n, Wid.f64 (n - gS T least 0 i)) := by
  funext M
  rw [gL, gTop, h, putK]
  simp only
  rw [if_neg hr]
  split
  · rfl
  · rw [List.append_nil]
theorem fin_no' {T : Nat → Nat → Option Int} {least : Int} {L i : Nat} {n : Int} {ls : Nat → List Kp} (h : T (L + 1) i = some n) (hr : Wid.f64 (n - gS T least (L + 1) i) < least) : (fun M => ls M ++ gL T least (L + 1) i M) = (fun M => (fun M => ls M ++ gL T least L (2 * i) M) M ++ gL T least L (2 * i + 1) M) := by
  funext M
  rw [gL, gTop, h]
  simp only
  rw [if_pos hr, ite_self, List.append_nil, List.append_assoc]
theorem fin_yes' {T : Nat → Nat → Option Int} {least : Int} {L i : Nat} {n : Int} {ls : Nat → List Kp} (h : T (L + 1) i = some n) (hr : ¬ Wid.f64 (n - gS T least (L + 1) i) < least) : (fun M => ls M ++ gL T least (L + 1) i M) = putK (fun M => (fun M => ls M ++ gL T least L (2 * i) M) M ++ gL T least L (2 * i + 1) M) (L + 1) ((L + 1, i), n, Wid.f64 (n - gS T least (L + 1) i)) := by
  funext M
  rw [gL, gTop, h, putK]
  simp only
  rw [if_neg hr]
  split
  · simp [List.append_assoc]
  · simp [List.append_assoc]
theorem fin_none {T : Nat → Nat → Option Int} {least : Int} {L i : Nat} {ls : Nat → List Kp} (h : T L i = none) : (fun M => ls M ++ gL T least L i M) = ls := by
  funext M
  rw [gL_none h, List.append_nil]
theorem flag_put {F0 : Nat → Prop} {w0 w : World} {fs ts : List Thing} {B0 kb ab N : Nat} {hv : Array Value} {ls : Nat → List Kp} {b : Bool} (h : Hold F0 w0 w (fs ++ gkT B0 kb ab N hv ls b :: ts)) (b' : Bool) : Hold F0 w0 (w.setCell ⟨ab, 0, none⟩ (.bool b')) (fs ++ gkT B0 kb ab N hv ls b' :: ts) := by
  have h1 : GK B0 kb ab N hv ls b w := h.i (t := gkT B0 kb ab N hv ls b) (by simp)
  exact h.turn (gkT B0 kb ab N hv ls b') (h1.setFlag b') (h1.keptFlag b') (fun k hk => .inl hk)
theorem last_apart {F0 : Nat → Prop} {w0 w : World} {fs : List Thing} {b : Nat} {e : TypeId} {vs : Array Value} {t : Thing} (h : Hold F0 w0 w (fs ++ [boxT b e vs, t])) : ¬ t.F b := by
  have h1 := (Asun.append.1 h.2.2).2.1
  exact h1.1 t (by simp) b rfl
theorem enc_oneK (a b x y : Int) : ∀ u ∈ ([.int .i64 a, .int .u64 b, .int .i64 x, .int .i64 y] : List Value), u.oneCell' = true := by
  intro u hu
  simp at hu
  rcases hu with rfl | rfl | rfl | rfl <;> rfl
theorem cell_far {w : World} {g i : Nat} {v u : Value} {a : Addr} (h : w.cell? a = some u) (hne : a.block ≠ g) : (w.setCell ⟨g, i, none⟩ v).cell? a = some u := by
  rw [World.cell?_of_block (w := w) (set_heap hne)]
  exact h
theorem row_grown {X Y : World} {row : Option Nat} {k : Nat} {o : Obj} (hg : X.grownBy Y row) (h : X.heap[k]? = some o) (hn : some k ≠ row) : Y.heap[k]? = some o := by rw [hg.block k (heap_lt h) hn]; exact h
theorem up_to {F0 : Nat → Prop} {w0 w X Y : World} {ts : List Thing} {row : Option Nat} (h : Hold F0 w0 w ts) (hg : X.grownBy Y row) (hb : Below w.heap.size w X) : Hold F0 w0 X ts := h.up hb
theorem gk_app {F0 : Nat → Prop} {w0 w w' : World} {fs ts : List Thing} {B0 kb ab N : Nat} {hv : Array Value} {ls : Nat → List Kp} {b : Bool} (h : Hold F0 w0 w (fs ++ gkT B0 kb ab N hv ls b :: ts)) {L n0 : Nat} {v : Value} (hL : hv[L]? = some v) (hn : (ls L).length = n0) {x : Kp} {g cap : Nat}
    (hown : w'.ownsRow B0 79 4 (.slice (some ⟨g, 0, none⟩) (n0 + 1) cap) (n0 + 1) ((ls L).flatMap encR ++ encR x)) (hg : w.grownBy w' v.ownBlock) (hat : v.ownBlock = some g ∨ g = w.heap.size) :
    Hold F0 w0 (w'.setCell ⟨kb, L, none⟩ (.slice (some ⟨g, 0, none⟩) (n0 + 1) cap)) (fs ++ gkT B0 kb ab N (hv.set! L (.slice (some ⟨g, 0, none⟩) (n0 + 1) cap)) (putK ls L x) b :: ts) := by
  have h1 : GK B0 kb ab N hv ls b w := h.i (t := gkT B0 kb ab N hv ls b) (by simp)
  subst hn
  obtain ⟨a1, a2, a3⟩ := h1.app hL hown hg hat
  exact h.turn (gkT B0 kb ab N (hv.set! L (.slice (some ⟨g, 0, none⟩) ((ls L).length + 1) cap)) (putK ls L x) b) a1 a2 a3
theorem w_zero : Wid.fh 0 = 0 ∧ Wid.fl 0 = 0 := by decide
set_option maxRecDepth 100000 in
set_option maxHeartbeats 4000000 in
theorem gat_none (tb mb bb gb lb sb kb ab N BB B0 : Nat) (D : DataW Unit) (least : Int) (T : Nat → Nat → Option Int) (L i : Nat) (hMT : MapT D T) (hB : BB ≤ 59) (hL : L ≤ BB) (hi : i < 576460752303423488) (hn : T L i = none) : GatC tb mb bb gb lb sb kb ab N BB B0 D least T L i := by
  intro hv ls b w hct hgk hdis hlen hB0
  obtain ⟨hm1, hm2⟩ := (hMT L i (by omega) (by omega)).2 hn
  rw [gW_none hn, fin_none hn, gF_none hn, Bool.and_true, w_zero.1, w_zero.2]
  have HCT := Lib.hid hct
  have HDIS := Lib.hid hdis
  have HGK := Lib.hid (gk_start hgk)
  have HPK := Lib.hid (pkl_ok (L := L) (i := i) (by omega) (by omega))
  have hm0 := hm2 (.lit (.int .i64 0))
  have HM0 := Lib.hid hm0
  clear hct hgk hdis hlen hMT hn hm2 hm0 hB hL hi
  go_enter Tryz.func71, Tryz.ntmps71
  go_upto_region 1 with fail
  have HO := Lib.hid (two_new HGK.out #[.int .i64 (L : Int), .int .u64 (i : Int)] #[.int .i64 0, .int .u64 0] 69 151)
  obtain ⟨W, hW⟩ : ∃ W, (w.alloc (.cells #[.int .i64 (L : Int), .int .u64 (i : Int)] 69)).alloc (.cells #[.int .i64 0, .int .u64 0] 151) = W := ⟨_, rfl⟩
  rw [hW] at HO ⊢
  clear hW
  have HC := Lib.hid (ct_at HCT.out HDIS.out HO.out)
  have c1 := HC.out.tcell
  obtain ⟨p0, p1, -, -⟩ := hold_two HO.out (b := w.heap.size) (e := 69) (v0 := .int .i64 (L : Int)) (v1 := .int .u64 (i : Int)) (by simp)
  obtain ⟨r0, r1, z0, z1⟩ := hold_two HO.out (b := w.heap.size + 1) (e := 151) (v0 := .int .i64 0) (v1 := .int .u64 0) (by simp)
  go_wp2_with (at_lookup; refine wpList_lookup_own_ok_int _ rfl _ _ _ rfl _ _ .i64 pk_law mp_u mp_e (mp_zero _) mb 5000 D rfl HC.out.tmap _ (pkl L i) rfl HPK.out ?_; intro c hat hwc)
  have HO2 := Lib.hid (put_two (fs := []) HO.out (.int .i64 0) (.int .u64 0))
  obtain ⟨W2, hW2⟩ : ∃ W2, (W.setCell ⟨w.heap.size + 1, 0, none⟩ (.int .i64 0)).setCell ⟨w.heap.size + 1, 1, none⟩ (.int .u64 0) = W2 := ⟨_, rfl⟩
  rw [hW2] at HO2 ⊢
  clear hW2
  obtain ⟨v0, v1, -, -⟩ := hold_two HO2.out (b := w.heap.size + 1) (e := 151) (v0 := .int .i64 0) (v1 := .int .u64 0) (by simp)
  refine bodyPost_ret (v := .agg #[.int .i64 0, .int .u64 0]) (by simp [results, Tryz.results71, go_sem, v0, v1]) rfl ?_
  obtain ⟨g1, g2⟩ := gk_of HO2.out (B0 := B0) (kb := kb) (ab := ab) (N := N) (hv := hv) (ls := ls) (b := b) (by simp)
  exact ⟨hv, rfl, g1, HO2.out.1, g2⟩
end Go.Proofs.YtmdkdjgamhaeoaaGreat.Hvy
/- The code's closure of layer 18, of a key and of what has halves. Printed by wip/gen/hvy9.py. -/
namespace Go.Proofs.YtmdkdjgamhaeoaaGreat.Hvy
open Go Go.RowKit Go.Maps Lw Grd Lin Con Shp Sk Exa Lev Stk Pcs Spn Qnt
set_option linter.unusedVariables false
set_option linter.unusedSimpArgs false
set_option linter.unusedSimpArgs false
set_option maxRecDepth 100000 in
set_option maxHeartbeats 8000000 in
theorem gat_0 (tb mb bb gb lb sb kb ab N BB B0 : Nat) (D : DataW Unit) (least : Int) (T : Nat → Nat → Option Int) (i : Nat) (n : Int) (hMT : MapT D T) (hB : BB ≤ 59) (hN : N = BB + 1) (hi : i < 576460752303423488) (hn : T 0 i = some n) (n0 : -9223372036854775808 ≤ n) (n1 : n ≤ 9223372036854775807) : GatC tb mb bb gb lb sb kb ab N BB B0 D least T 0 i := by
  intro hv ls b w hct hgk hdis hlen hB0
  obtain ⟨hm1, hm2⟩ := (hMT 0 i (by omega) (by omega)).1 n hn
  have HCT := Lib.hid hct
  have HDIS := Lib.hid hdis
  have HGK := Lib.hid (gk_start hgk)
  have HPK : Hid (keyOf Tryz.prog 69 (.agg #[.int .i64 0, .int .u64 (i : Int)]) = some (pkl 0 i)) := Lib.hid (pkl_ok (L := 0) (i := i) (by omega) (by omega))
  have HM0 := Lib.hid (hm2 (.lit (.int .i64 0)))
  have HCH := Lib.hid (fun w => chalves_0 (BB : Int) (i : Int) w)
  have HFN := Lib.hid (fun ls => fin_no (ls := ls) (least := least) hn)
  have HFY := Lib.hid (fun ls => fin_yes (ls := ls) (least := least) hn)
  have HWG : Hid (gW T least 0 i = if Wid.f64 (n - gS T least 0 i) < least then gS T least 0 i else n) := Lib.hid (by rw [gW_eq, gOne, hn])
  have HFF : Hid (gF T least 0 i = Wid.fit64 (n - gS T least 0 i)) := Lib.hid (by rw [gF, hn, gS, Int.sub_zero])
  have HLEN : Hid ((ls 0).length ≤ 4096) := Lib.hid (by have := hlen 0; rw [List.length_append] at this; omega)
  have HWO := Lib.hid (fun w => without_any n (gS T least 0 i) w n0 n1 (by rw [gS]; omega))
  have HOF := Lib.hid (fun w => Wid.of_any n w n0 n1)
  obtain ⟨S, hS⟩ : ∃ S, gS T least 0 i = S := ⟨_, rfl⟩
  obtain ⟨R, hR⟩ : ∃ R, Wid.f64 (n - S) = R := ⟨_, rfl⟩
  obtain ⟨FT, hFT⟩ : ∃ R, Wid.fit64 (n - S) = R := ⟨_, rfl⟩
  have hS0 : S = 0 := hS.symm
  rw [hS] at HWO HWG HFF
  have HSHL : Hid (Wid.fh S = 0 ∧ Wid.fl S = 0) := Lib.hid (by rw [hS0]; exact w_zero)
  rw [HSHL.out.1, HSHL.out.2] at HWO
  have HBB : Hid ((b && FT) = (b && FT)) := Lib.hid rfl
  have HLN : Hid (0 < N ∧ (0 : Int) ≤ 0 ∧ (0 : Int) < (N : Int)) := Lib.hid (by omega)
  have HB0 : Hid (B0 ≤ w.heap.size) := Lib.hid hB0
  rw [hS, hR] at HFN HFY
  rw [hR] at HWG
  rw [hR, hFT] at HWO
  rw [hFT] at HFF
  rw [HFF.out, HWG.out]
  clear hct hgk hdis hlen hMT hn hm2 hB hi hS hR hFT n0 n1 hB0 hS0 hN
  go_enter Tryz.func71, Tryz.ntmps71
  go_upto_region 1 with fail
  have HO := Lib.hid (two_new HGK.out #[.int .i64 0, .int .u64 (i : Int)] #[.int .i64 0, .int .u64 0] 69 151)
  obtain ⟨B7, hB7⟩ : ∃ k, w.heap.size = k := ⟨_, rfl⟩
  obtain ⟨W, hW⟩ : ∃ W, (w.alloc (.cells #[.int .i64 0, .int .u64 (i : Int)] 69)).alloc (.cells #[.int .i64 0, .int .u64 0] 151) = W := ⟨_, rfl⟩
  rw [hW] at HO
  try rw [hW]
  rw [hB7] at HO
  try rw [hB7]
  obtain ⟨B8, hB8⟩ : ∃ k, B7 + 1 = k := ⟨_, rfl⟩
  rw [hB8] at HO
  try rw [hB8]
  clear hW
  have HC := Lib.hid (ct_at HCT.out HDIS.out HO.out)
  have c1 := HC.out.tcell
  have c2 := HC.out.bcell
  obtain ⟨p0, p1, -, -⟩ := hold_two HO.out (b := B7) (e := 69) (v0 := .int .i64 0) (v1 := .int .u64 (i : Int)) (by simp)
  go_upto_region 4 with (at_lookup; refine wpList_lookup_own_ok_int _ rfl _ _ _ rfl _ _ .i64 pk_law mp_u mp_e (mp_zero _) mb 5000 D rfl HC.out.tmap _ (pkl 0 i) rfl HPK.out ?_; intro c hat hwc; obtain rfl : n = c := (by have h5 := HM0.out.symm.trans hat; injection h5 with h5; injection h5))
  have HO4 := Lib.hid (one_new HO.out #[.int .i64 0, .int .u64 0] 151)
  go_upto_region 5 with fail
  obtain ⟨B11, hB11⟩ : ∃ k, W.heap.size = k := ⟨_, rfl⟩
  rw [hB11] at HO4
  try rw [hB11]
  obtain ⟨W4, hW4⟩ : ∃ X, W.alloc (.cells #[.int .i64 0, .int .u64 0] 151) = X := ⟨_, rfl⟩
  rw [hW4] at HO4
  rw [hW4]
  clear hW4 HO HC c1 c2 p0 p1 hB11
  have HC4 := Lib.hid (ct_at HCT.out HDIS.out HO4.out)
  have c2 := HC4.out.bcell
  obtain ⟨p0, p1, -, -⟩ := hold_two HO4.out (b := B7) (e := 69) (v0 := .int .i64 0) (v1 := .int .u64 (i : Int)) (by simp)
  go_upto_region 9 with (go_at_call 69; (with_reducible refine (HCH.out _).mono ?_); rintro e w5 ⟨rfl, hb⟩; have HO5 := Lib.hid (HO4.out.up hb); clear hb)
  have HOT := Lib.hid (two_new HO5.out #[.int .i64 0, .int .u64 0] #[.int .i64 0, .int .u64 0] 69 69)
  obtain ⟨B12, hB12⟩ : ∃ k, w5.heap.size = k := ⟨_, rfl⟩
  obtain ⟨W9, hW9⟩ : ∃ X, (w5.alloc (.cells #[.int .i64 0, .int .u64 0] 69)).alloc (.cells #[.int .i64 0, .int .u64 0] 69) = X := ⟨_, rfl⟩
  rw [hW9] at HOT
  rw [hW9]
  rw [hB12] at HOT
  try rw [hB12]
  clear hW9 hB12 p0 p1 c2

  obtain ⟨s0, s1, -, -⟩ := hold_two HOT.out (b := B11) (e := 151) (v0 := .int .i64 0) (v1 := .int .u64 0) (by simp)
  go_upto_region 10 with (go_at_call 73; (with_reducible refine (HWO.out _).mono ?_); rintro e w9 ⟨rfl, hb⟩; have HO9 := Lib.hid (HOT.out.up hb); clear hb)
  clear s0 s1
  obtain ⟨g1, g2⟩ := gk_of HO9.out (B0 := B0) (kb := kb) (ab := ab) (N := N) (hv := hv) (ls := ls) (b := b) (by simp)
  have a0 := box_cell (w := w9) (b := ab) (e := 4) (vs := #[.bool b]) g1.flag (i := 0) rfl
  have a1 := Qnt.blk_frozen g1.flag 0
  clear g1 g2
  go_cut [55] (fun s55 wx => wx = w9.setCell ⟨ab, 0, none⟩ (.bool (b && FT)))
  case first =>
    rcases Bool.eq_false_or_eq_true (b) with hbx | hbx
    · have HBX := Lib.hid hbx
      rw [hbx] at a0
      clear hbx
      go_wp2_with fail
      go_meet
      rw [HBX.out]
      rfl
    · have HBX := Lib.hid hbx
      rw [hbx] at a0
      clear hbx
      go_wp2_with fail
      go_meet
      rw [HBX.out]
      rfl
  case rest =>
    obtain ⟨wo, hwo0⟩ : ∃ wo, wo = wc := ⟨_, rfl⟩
    rw [← hwo0] at hcut ⊢
    clear hwo0
    have HO10 : Hid (Hold (gkF kb ab hv) w wo ([boxT (B12 + 1) 69 #[.int .i64 0, .int .u64 0], boxT B12 69 #[.int .i64 0, .int .u64 0]] ++ [boxT B11 151 #[.int .i64 0, .int .u64 0], boxT B8 151 #[.int .i64 0, .int .u64 0], boxT B7 69 #[.int .i64 0, .int .u64 (i : Int)], gkT B0 kb ab N hv ls (b && FT)])) := Lib.hid (by rw [hcut]; exact flag_put (fs := [boxT (B12 + 1) 69 #[.int .i64 0, .int .u64 0], boxT B12 69 #[.int .i64 0, .int .u64 0]] ++ [_, _, _]) HO9.out (b && FT))
    clear hcut a0 a1 HO9 HOT HWO
    obtain ⟨b2, hb2⟩ : ∃ b2, (b && FT) = b2 := ⟨_, rfl⟩
    rw [hb2] at HO10
    have HB2 := Lib.hid hb2
    clear hb2
    have HC10 := Lib.hid (ct_at HCT.out HDIS.out HO10.out)
    have c5 := HC10.out.lcell
    by_cases hr : R < least
    · have g0 : decide (R < least) = true := decide_eq_true hr
      obtain ⟨s0, s1, -, -⟩ := hold_two HO10.out (b := B11) (e := 151) (v0 := .int .i64 0) (v1 := .int .u64 0) (by simp)
      obtain ⟨z0, z1, z2, z3⟩ := hold_two HO10.out (b := B8) (e := 151) (v0 := .int .i64 0) (v1 := .int .u64 0) (by simp)
      have HLS := Lib.hid (HFN.out ls (by omega))
      go_wp2
      have HOE : Hid (Hold (gkF kb ab hv) w ((wo.setCell ⟨B8, 0, none⟩ (.int .i64 0)).setCell ⟨B8, 1, none⟩ (.int .u64 0)) ([boxT (B12 + 1) 69 #[.int .i64 0, .int .u64 0], boxT B12 69 #[.int .i64 0, .int .u64 0]] ++ [boxT B11 151 #[.int .i64 0, .int .u64 0], boxT B8 151 #[.int .i64 0, .int .u64 0], boxT B7 69 #[.int .i64 0, .int .u64 (i : Int)], gkT B0 kb ab N hv ls b2])) := Lib.hid (put_two (fs := [boxT (B12 + 1) 69 #[.int .i64 0, .int .u64 0], boxT B12 69 #[.int .i64 0, .int .u64 0]] ++ [_]) HO10.out (.int .i64 0) (.int .u64 0))
      obtain ⟨we, hwe⟩ : ∃ we, (wo.setCell ⟨B8, 0, none⟩ (.int .i64 0)).setCell ⟨B8, 1, none⟩ (.int .u64 0) = we := ⟨_, rfl⟩
      rw [hwe] at HOE ⊢
      obtain ⟨v0, v1, -, -⟩ := hold_two HOE.out (b := B8) (e := 151) (v0 := .int .i64 0) (v1 := .int .u64 0) (by simp)
      refine bodyPost_ret (v := .agg #[.int .i64 0, .int .u64 0]) (by simp [results, Tryz.results71, go_sem, v0, v1]) rfl ?_
      obtain ⟨g1, g2⟩ := gk_of HOE.out (B0 := B0) (kb := kb) (ab := ab) (N := N) (hv := hv) (ls := ls) (b := b2) (by simp)
      exact ⟨by (try rw [if_pos hr]); rw [HSHL.out.1, HSHL.out.2], hv, by rw [HLS.out, HB2.out]; exact g1, HOE.out.1, fun k hk => (g2 k hk).imp id (fun h => by omega)⟩
    · have g0 : decide (R < least) = false := decide_eq_false hr
      have HLS := Lib.hid (HFY.out ls (by omega))
      obtain ⟨p0, p1, -, -⟩ := hold_two HO10.out (b := B7) (e := 69) (v0 := .int .i64 0) (v1 := .int .u64 (i : Int)) (by simp)
      have c6 := HC10.out.scell
      obtain ⟨hgk, hgf⟩ := gk_of HO10.out (B0 := B0) (kb := kb) (ab := ab) (N := N) (hv := hv) (ls := ls) (b := b2) (by simp)
      obtain ⟨v, hv_⟩ : ∃ v, hv[0]? = some v := ⟨_, Array.getElem?_eq_getElem (by rw [hgk.size]; exact HLN.out.1)⟩
      have ho := hgk.own _ _ hv_
      obtain ⟨n0, hn0⟩ : ∃ n, (ls 0).length = n := ⟨_, rfl⟩
      rw [hn0] at ho
      obtain ⟨-, A0, cap0, rfl⟩ := own_formK ho
      have hn4 : n0 ≤ 4096 := by rw [← hn0]; exact HLEN.out
      have k0 := box_cell (w := wo) (b := kb) hgk.row hv_
      have HKR := Lib.hid hgk.row
      have k1 : ∀ o : Obj, (wo.alloc o).cell? ⟨kb, 0, none⟩ = some (.slice A0 n0 cap0) := fun o => cell_up k0 (Lw.below_alloc (Below.refl _ _) o)
      have k2 : ∀ o : Obj, ((wo.alloc o).drew).cell? ⟨kb, 0, none⟩ = some (.slice A0 n0 cap0) := fun o => cell_up k0 (Below.drew (Lw.below_alloc (Below.refl _ _) o))
      have k3 : (wo.drew).cell? ⟨kb, 0, none⟩ = some (.slice A0 n0 cap0) := cell_up k0 (Below.drew (Below.refl _ _))
      have HOWN := Lib.hid ho
      have HN0 := Lib.hid hn0
      have HHV := Lib.hid hv_
      have HNS : Hid ((.slice A0 n0 cap0 : Value).ownBlock ≠ some sb) := Lib.hid (fun e => ct_far (w := w) HCT.out HDIS.out hgf sb (by unfold ctF; simp) (.inr (.inr ⟨_, _, hv_, e⟩)))
      have HN7 : Hid ((.slice A0 n0 cap0 : Value).ownBlock ≠ some B7) := Lib.hid (fun e => last_apart (fs := [boxT (B12 + 1) 69 #[.int .i64 0, .int .u64 0], boxT B12 69 #[.int .i64 0, .int .u64 0]] ++ [_, _]) HO10.out (show gkF kb ab hv B7 from .inr (.inr ⟨_, _, hv_, e⟩)))
      have HNK : Hid ((.slice A0 n0 cap0 : Value).ownBlock ≠ some kb) := Lib.hid (fun e => by have h5 := own_ge ho _ e; have h6 := hgk.far.1; omega)
      have hsk : sb ≠ kb := fun e => HDIS.out sb (by unfold ctF; simp) (.inl e)
      have h7k : B7 ≠ kb := fun e => last_apart (fs := [boxT (B12 + 1) 69 #[.int .i64 0, .int .u64 0], boxT B12 69 #[.int .i64 0, .int .u64 0]] ++ [_, _]) HO10.out (show gkF kb ab hv B7 from .inl e)
      have HBS : Hid (B0 ≤ wo.heap.size) := Lib.hid (Nat.le_trans HB0.out HO10.out.1.size)
      obtain ⟨j0, hj_, hy0, hy1, hy2⟩ := info_parts rs_info
      have l0 : (0 : Int) ≤ 0 := HLN.out.2.1
      have l1 : 0 < (N : Int) := HLN.out.2.2
      have l2 : 0 < N := HLN.out.1
      clear hgk hgf hv_ ho hn0
      go_upto_region 13 with fail
      go_cut [73] (fun s73 wx => ∃ hv2 : Array Value, Hold (gkF kb ab hv) w wx ([boxT (B12 + 1) 69 #[.int .i64 0, .int .u64 0], boxT B12 69 #[.int .i64 0, .int .u64 0]] ++ [boxT B11 151 #[.int .i64 0, .int .u64 0], boxT B8 151 #[.int .i64 0, .int .u64 0], boxT B7 69 #[.int .i64 0, .int .u64 (i : Int)], gkT B0 kb ab N hv2 (putK ls 0 ((0, i), n, R)) b2]))
      case first =>
        refine wp_region_held_drew (S := (fun w' => w'.cell? ⟨sb, 0, none⟩ = some (.slice (some ⟨kb, 0, none⟩) N N) ∧ w'.cell? ⟨B7, 0, none⟩ = some (.int .i64 0) ∧ w'.cell? ⟨B7, 1, none⟩ = some (.int .u64 (i : Int)))) (by kernel_rfl) ⟨cell_up c6 (by (repeat' (first | (with_reducible exact Below.refl _ _) | (with_reducible assumption) | (with_reducible refine below_over ?_ _ _) | (with_reducible refine Lw.below_alloc ?_ _) | (with_reducible refine Below.drew ?_) | (with_reducible refine below_drewN ?_ _) | (with_reducible refine Below.setCell ?_ ?_ _) | go_size))), cell_up p0 (by (repeat' (first | (with_reducible exact Below.refl _ _) | (with_reducible assumption) | (with_reducible refine below_over ?_ _ _) | (with_reducible refine Lw.below_alloc ?_ _) | (with_reducible refine Below.drew ?_) | (with_reducible refine below_drewN ?_ _) | (with_reducible refine Below.setCell ?_ ?_ _) | go_size))), cell_up p1 (by (repeat' (first | (with_reducible exact Below.refl _ _) | (with_reducible assumption) | (with_reducible refine below_over ?_ _ _) | (with_reducible refine Lw.below_alloc ?_ _) | (with_reducible refine Below.drew ?_) | (with_reducible refine below_drewN ?_ _) | (with_reducible refine Below.setCell ?_ ?_ _) | go_size)))⟩ (fun hHeld => ?_)
        refine wpAnyH_take (i := 0) (v := ?_) rfl (by kernel_rfl) (by kernel_rfl) (by kernel_rfl) (fun _ _ _ h => h) (Or.inl ⟨by rfl, ?_⟩) hHeld ?_
        rotate_left
        · intro w hSw
          (try dsimp only at hSw)
          go_simp
          (try with_reducible rfl)
        (try simp only [List.getElem_toArray, List.getElem_cons_zero, List.getElem_cons_succ, Act.put, List.setIfInBounds_toArray, List.set_cons_zero, List.set_cons_succ])
        refine wpAnyH_take (i := 1) (v := ?_) rfl (by kernel_rfl) (by kernel_rfl) (by kernel_rfl) (fun _ _ _ h => h) (Or.inl ⟨by rfl, ?_⟩) hHeld ?_
        rotate_left
        · intro w hSw
          (try dsimp only at hSw)
          go_simp
          (try with_reducible rfl)
        (try simp only [List.getElem_toArray, List.getElem_cons_zero, List.getElem_cons_succ, Act.put, List.setIfInBounds_toArray, List.set_cons_zero, List.set_cons_succ])
        refine wpAnyH_take (i := 2) (v := ?_) rfl (by kernel_rfl) (by kernel_rfl) (by kernel_rfl) (fun _ _ _ h => h) (Or.inl ⟨by rfl, ?_⟩) hHeld ?_
        rotate_left
        · intro w hSw
          (try dsimp only at hSw)
          go_simp
          (try with_reducible rfl)
        (try simp only [List.getElem_toArray, List.getElem_cons_zero, List.getElem_cons_succ, Act.put, List.setIfInBounds_toArray, List.set_cons_zero, List.set_cons_succ])
        refine wpAnyH_take (i := 3) (v := ?_) rfl (by kernel_rfl) (by kernel_rfl) (by kernel_rfl) (fun _ _ _ h => h) (Or.inl ⟨by rfl, ?_⟩) hHeld ?_
        rotate_left
        · intro w hSw
          (try dsimp only at hSw)
          go_simp
          (try with_reducible rfl)
        (try simp only [List.getElem_toArray, List.getElem_cons_zero, List.getElem_cons_succ, Act.put, List.setIfInBounds_toArray, List.set_cons_zero, List.set_cons_succ])
        refine wpAnyH_take (i := 4) (v := ?_) rfl (by kernel_rfl) (by kernel_rfl) (by kernel_rfl) (fun _ _ _ h => h) (Or.inl ⟨by rfl, ?_⟩) hHeld ?_
        rotate_left
        · intro w hSw
          (try dsimp only at hSw)
          go_simp
          (try with_reducible rfl)
        (try simp only [List.getElem_toArray, List.getElem_cons_zero, List.getElem_cons_succ, Act.put, List.setIfInBounds_toArray, List.set_cons_zero, List.set_cons_succ])
        refine wpAnyH_take (i := 5) (v := ?_) rfl (by kernel_rfl) (by kernel_rfl) (by kernel_rfl) (fun _ _ _ h => h) (Or.inl ⟨by rfl, ?_⟩) hHeld ?_
        rotate_left
        · intro w hSw
          (try dsimp only at hSw)
          go_simp
          (try with_reducible rfl)
        (try simp only [List.getElem_toArray, List.getElem_cons_zero, List.getElem_cons_succ, Act.put, List.setIfInBounds_toArray, List.set_cons_zero, List.set_cons_succ])
        refine wpAnyH_take (i := 6) (v := ?_) rfl (by kernel_rfl) (by kernel_rfl) (by kernel_rfl) (fun _ _ _ h => h) (Or.inl ⟨by rfl, ?_⟩) hHeld ?_
        rotate_left
        · intro w hSw
          (try dsimp only at hSw)
          go_simp
          (try with_reducible rfl)
        (try simp only [List.getElem_toArray, List.getElem_cons_zero, List.getElem_cons_succ, Act.put, List.setIfInBounds_toArray, List.set_cons_zero, List.set_cons_succ])
        refine wpAnyH_take (i := 8) (v := ?_) rfl (by kernel_rfl) (by kernel_rfl) (by kernel_rfl) (fun _ _ _ h => h) (Or.inl ⟨by rfl, ?_⟩) hHeld ?_
        rotate_left
        · intro w hSw
          (try dsimp only at hSw)
          go_simp
          (try with_reducible rfl)
        (try simp only [List.getElem_toArray, List.getElem_cons_zero, List.getElem_cons_succ, Act.put, List.setIfInBounds_toArray, List.set_cons_zero, List.set_cons_succ])
        refine wpAnyH_take (i := 9) (v := ?_) rfl (by kernel_rfl) (by kernel_rfl) (by kernel_rfl) (fun _ _ _ h => h) (Or.inl ⟨by rfl, ?_⟩) hHeld ?_
        rotate_left
        · intro w hSw
          (try dsimp only at hSw)
          go_simp
          (try with_reducible rfl)
        (try simp only [List.getElem_toArray, List.getElem_cons_zero, List.getElem_cons_succ, Act.put, List.setIfInBounds_toArray, List.set_cons_zero, List.set_cons_succ])
        refine wpAnyH_take (i := 10) (v := ?_) rfl (by kernel_rfl) (by kernel_rfl) (by kernel_rfl) (fun _ _ _ h => h) (Or.inl ⟨by rfl, ?_⟩) hHeld ?_
        rotate_left
        · intro w hSw
          (try dsimp only at hSw)
          go_simp
          (try with_reducible rfl)
        (try simp only [List.getElem_toArray, List.getElem_cons_zero, List.getElem_cons_succ, Act.put, List.setIfInBounds_toArray, List.set_cons_zero, List.set_cons_succ])
        refine wpAnyH_take (i := 11) (v := ?_) rfl (by kernel_rfl) (by kernel_rfl) (by kernel_rfl) (fun _ _ _ h => h) (Or.inl ⟨by rfl, ?_⟩) hHeld ?_
        rotate_left
        · intro w hSw
          (try dsimp only at hSw)
          go_simp
          (try with_reducible rfl)
        (try simp only [List.getElem_toArray, List.getElem_cons_zero, List.getElem_cons_succ, Act.put, List.setIfInBounds_toArray, List.set_cons_zero, List.set_cons_succ])
        refine wpAnyH_ready (rs := [7, 12]) (by kernel_rfl) (by simp) ?_
        refine AllReadyH.cons rfl (fun K hK => ?_) (AllReadyH.cons rfl (fun K hK => ?_) AllReadyH.nil)
        · go_simp
          refine hK.out _ _ hHeld (fun hHeld => ?_)
          clear hK K
          (try simp only [List.getElem_toArray, List.getElem_cons_zero, List.getElem_cons_succ, Act.put, List.setIfInBounds_toArray, List.set_cons_zero, List.set_cons_succ])
          refine wpAnyH_ready (rs := [12]) (by kernel_rfl) (by simp) ?_
          refine AllReadyH.cons rfl (fun K hK => ?_) AllReadyH.nil
          go_simp
          refine hK.out _ _ ⟨cell_up c6 (by (repeat' (first | (with_reducible exact Below.refl _ _) | (with_reducible assumption) | (with_reducible refine below_over ?_ _ _) | (with_reducible refine Lw.below_alloc ?_ _) | (with_reducible refine Below.drew ?_) | (with_reducible refine below_drewN ?_ _) | (with_reducible refine Below.setCell ?_ ?_ _) | go_size))), cell_up p0 (by (repeat' (first | (with_reducible exact Below.refl _ _) | (with_reducible assumption) | (with_reducible refine below_over ?_ _ _) | (with_reducible refine Lw.below_alloc ?_ _) | (with_reducible refine Below.drew ?_) | (with_reducible refine below_drewN ?_ _) | (with_reducible refine Below.setCell ?_ ?_ _) | go_size))), cell_up p1 (by (repeat' (first | (with_reducible exact Below.refl _ _) | (with_reducible assumption) | (with_reducible refine below_over ?_ _ _) | (with_reducible refine Lw.below_alloc ?_ _) | (with_reducible refine Below.drew ?_) | (with_reducible refine below_drewN ?_ _) | (with_reducible refine Below.setCell ?_ ?_ _) | go_size)))⟩ (fun hHeld => ?_)
          clear hK K
          (try simp only [List.getElem_toArray, List.getElem_cons_zero, List.getElem_cons_succ, Act.put, List.setIfInBounds_toArray, List.set_cons_zero, List.set_cons_succ])
          refine wpAnyH_ready (rs := [13]) (by kernel_rfl) (by simp) ?_
          refine AllReadyH.cons rfl (fun K hK => ?_) AllReadyH.nil
          (refine step_append_lies _ (by rfl) _ _ 45 (by rfl) B0 79 j0 (.agg #[.int .i64 0, .int .u64 0, .int .i64 0, .int .i64 0]) 4 32 rss_u hj_ hy0 hy1 hy2 (by rfl) (by decide) (.slice A0 n0 cap0) n0 ((ls 0).flatMap encR) (by rfl) ((Kept.of_below (F := fun _ => False) (by (repeat' (first | (with_reducible exact Below.refl _ _) | (with_reducible assumption) | (with_reducible refine below_over ?_ _ _) | (with_reducible refine Lw.below_alloc ?_ _) | (with_reducible refine Below.drew ?_) | (with_reducible refine below_drewN ?_ _) | (with_reducible refine Below.setCell ?_ ?_ _) | go_size)))).own HOWN.out (fun _ _ h => h)) ⟨_, 0, none⟩ 1 1 [.int .i64 0, .int .u64 (i : Int), .int .i64 n, .int .i64 R] (by rfl) (by rfl) (World.news_of_block (heap_alloc_new _ _)) (enc_oneK _ _ _ _) (by decide) (by unfold maxLen; omega) (by omega) (by have := HBS.out; simp; omega) _ (by rfl) ?_; intro g7 cap7 w7 hown7 hgrow7 hat7 hlt7; have HOX := Lib.hid (up_to HO10.out hgrow7 (by (repeat' (first | (with_reducible exact Below.refl _ _) | (with_reducible assumption) | (with_reducible refine below_over ?_ _ _) | (with_reducible refine Lw.below_alloc ?_ _) | (with_reducible refine Below.drew ?_) | (with_reducible refine below_drewN ?_ _) | (with_reducible refine Below.setCell ?_ ?_ _) | go_size)))); have x6 := hgrow7.cell (cell_up c6 (by (repeat' (first | (with_reducible exact Below.refl _ _) | (with_reducible assumption) | (with_reducible refine below_over ?_ _ _) | (with_reducible refine Lw.below_alloc ?_ _) | (with_reducible refine Below.drew ?_) | (with_reducible refine below_drewN ?_ _) | (with_reducible refine Below.setCell ?_ ?_ _) | go_size)))) (fun e => HNS.out e.symm); have x0 := hgrow7.cell (cell_up p0 (by (repeat' (first | (with_reducible exact Below.refl _ _) | (with_reducible assumption) | (with_reducible refine below_over ?_ _ _) | (with_reducible refine Lw.below_alloc ?_ _) | (with_reducible refine Below.drew ?_) | (with_reducible refine below_drewN ?_ _) | (with_reducible refine Below.setCell ?_ ?_ _) | go_size)))) (fun e => HN7.out e.symm); have x1 := hgrow7.cell (cell_up p1 (by (repeat' (first | (with_reducible exact Below.refl _ _) | (with_reducible assumption) | (with_reducible refine below_over ?_ _ _) | (with_reducible refine Lw.below_alloc ?_ _) | (with_reducible refine Below.drew ?_) | (with_reducible refine below_drewN ?_ _) | (with_reducible refine Below.setCell ?_ ?_ _) | go_size)))) (fun e => HN7.out e.symm); have xk := hgrow7.cell (cell_up k0 (by (repeat' (first | (with_reducible exact Below.refl _ _) | (with_reducible assumption) | (with_reducible refine below_over ?_ _ _) | (with_reducible refine Lw.below_alloc ?_ _) | (with_reducible refine Below.drew ?_) | (with_reducible refine below_drewN ?_ _) | (with_reducible refine Below.setCell ?_ ?_ _) | go_size)))) (fun e => HNK.out e.symm); have xf := Qnt.blk_frozen (row_grown hgrow7 (Qnt.blk_up HKR.out (by (repeat' (first | (with_reducible exact Below.refl _ _) | (with_reducible assumption) | (with_reducible refine below_over ?_ _ _) | (with_reducible refine Lw.below_alloc ?_ _) | (with_reducible refine Below.drew ?_) | (with_reducible refine below_drewN ?_ _) | (with_reducible refine Below.setCell ?_ ?_ _) | go_size)))) (fun e => HNK.out e.symm)) 0; have HW7 := Lib.hid hown7; have HG7 := Lib.hid hgrow7; have HA7 := Lib.hid hat7; clear hown7 hgrow7 hat7 hlt7)
          refine hK.out _ _ ⟨x6, x0, x1⟩ (fun hHeld => ?_)
          clear hK K
          (try simp only [List.getElem_toArray, List.getElem_cons_zero, List.getElem_cons_succ, Act.put, List.setIfInBounds_toArray, List.set_cons_zero, List.set_cons_succ])
          refine wpAnyH_take (i := 14) (v := ?_) rfl (by kernel_rfl) (by kernel_rfl) (by kernel_rfl) (fun _ _ _ h => h) (Or.inl ⟨by rfl, ?_⟩) hHeld ?_
          rotate_left
          · intro w hSw
            (try dsimp only at hSw)
            go_simp
            (try with_reducible rfl)
          (try simp only [List.getElem_toArray, List.getElem_cons_zero, List.getElem_cons_succ, Act.put, List.setIfInBounds_toArray, List.set_cons_zero, List.set_cons_succ])
          refine wpAnyH_ready (rs := [15]) (by kernel_rfl) (by simp) ?_
          refine AllReadyH.cons rfl (fun K hK => ?_) AllReadyH.nil
          go_simp
          refine hK.out _ _ ⟨cell_far x6 hsk, cell_far x0 h7k, cell_far x1 h7k⟩ (fun hHeld => ?_)
          clear hK K
          (try simp only [List.getElem_toArray, List.getElem_cons_zero, List.getElem_cons_succ, Act.put, List.setIfInBounds_toArray, List.set_cons_zero, List.set_cons_succ])
          refine wpAnyH_done (by kernel_rfl) ?_ _
          (try go_wp2_with fail)
          go_meet
          exact ⟨_, gk_app (fs := [boxT (B12 + 1) 69 #[.int .i64 0, .int .u64 0], boxT B12 69 #[.int .i64 0, .int .u64 0]] ++ [_, _, _]) HOX.out HHV.out HN0.out (x := ((0, i), n, R)) HW7.out HG7.out HA7.out⟩
        · go_simp
          refine hK.out _ _ ⟨cell_up c6 (by (repeat' (first | (with_reducible exact Below.refl _ _) | (with_reducible assumption) | (with_reducible refine below_over ?_ _ _) | (with_reducible refine Lw.below_alloc ?_ _) | (with_reducible refine Below.drew ?_) | (with_reducible refine below_drewN ?_ _) | (with_reducible refine Below.setCell ?_ ?_ _) | go_size))), cell_up p0 (by (repeat' (first | (with_reducible exact Below.refl _ _) | (with_reducible assumption) | (with_reducible refine below_over ?_ _ _) | (with_reducible refine Lw.below_alloc ?_ _) | (with_reducible refine Below.drew ?_) | (with_reducible refine below_drewN ?_ _) | (with_reducible refine Below.setCell ?_ ?_ _) | go_size))), cell_up p1 (by (repeat' (first | (with_reducible exact Below.refl _ _) | (with_reducible assumption) | (with_reducible refine below_over ?_ _ _) | (with_reducible refine Lw.below_alloc ?_ _) | (with_reducible refine Below.drew ?_) | (with_reducible refine below_drewN ?_ _) | (with_reducible refine Below.setCell ?_ ?_ _) | go_size)))⟩ (fun hHeld => ?_)
          clear hK K
          (try simp only [List.getElem_toArray, List.getElem_cons_zero, List.getElem_cons_succ, Act.put, List.setIfInBounds_toArray, List.set_cons_zero, List.set_cons_succ])
          refine wpAnyH_ready (rs := [7]) (by kernel_rfl) (by simp) ?_
          refine AllReadyH.cons rfl (fun K hK => ?_) AllReadyH.nil
          go_simp
          refine hK.out _ _ hHeld (fun hHeld => ?_)
          clear hK K
          (try simp only [List.getElem_toArray, List.getElem_cons_zero, List.getElem_cons_succ, Act.put, List.setIfInBounds_toArray, List.set_cons_zero, List.set_cons_succ])
          refine wpAnyH_ready (rs := [13]) (by kernel_rfl) (by simp) ?_
          refine AllReadyH.cons rfl (fun K hK => ?_) AllReadyH.nil
          (refine step_append_lies _ (by rfl) _ _ 45 (by rfl) B0 79 j0 (.agg #[.int .i64 0, .int .u64 0, .int .i64 0, .int .i64 0]) 4 32 rss_u hj_ hy0 hy1 hy2 (by rfl) (by decide) (.slice A0 n0 cap0) n0 ((ls 0).flatMap encR) (by rfl) ((Kept.of_below (F := fun _ => False) (by (repeat' (first | (with_reducible exact Below.refl _ _) | (with_reducible assumption) | (with_reducible refine below_over ?_ _ _) | (with_reducible refine Lw.below_alloc ?_ _) | (with_reducible refine Below.drew ?_) | (with_reducible refine below_drewN ?_ _) | (with_reducible refine Below.setCell ?_ ?_ _) | go_size)))).own HOWN.out (fun _ _ h => h)) ⟨_, 0, none⟩ 1 1 [.int .i64 0, .int .u64 (i : Int), .int .i64 n, .int .i64 R] (by rfl) (by rfl) (World.news_of_block (heap_alloc_new _ _)) (enc_oneK _ _ _ _) (by decide) (by unfold maxLen; omega) (by omega) (by have := HBS.out; simp; omega) _ (by rfl) ?_; intro g7 cap7 w7 hown7 hgrow7 hat7 hlt7; have HOX := Lib.hid (up_to HO10.out hgrow7 (by (repeat' (first | (with_reducible exact Below.refl _ _) | (with_reducible assumption) | (with_reducible refine below_over ?_ _ _) | (with_reducible refine Lw.below_alloc ?_ _) | (with_reducible refine Below.drew ?_) | (with_reducible refine below_drewN ?_ _) | (with_reducible refine Below.setCell ?_ ?_ _) | go_size)))); have x6 := hgrow7.cell (cell_up c6 (by (repeat' (first | (with_reducible exact Below.refl _ _) | (with_reducible assumption) | (with_reducible refine below_over ?_ _ _) | (with_reducible refine Lw.below_alloc ?_ _) | (with_reducible refine Below.drew ?_) | (with_reducible refine below_drewN ?_ _) | (with_reducible refine Below.setCell ?_ ?_ _) | go_size)))) (fun e => HNS.out e.symm); have x0 := hgrow7.cell (cell_up p0 (by (repeat' (first | (with_reducible exact Below.refl _ _) | (with_reducible assumption) | (with_reducible refine below_over ?_ _ _) | (with_reducible refine Lw.below_alloc ?_ _) | (with_reducible refine Below.drew ?_) | (with_reducible refine below_drewN ?_ _) | (with_reducible refine Below.setCell ?_ ?_ _) | go_size)))) (fun e => HN7.out e.symm); have x1 := hgrow7.cell (cell_up p1 (by (repeat' (first | (with_reducible exact Below.refl _ _) | (with_reducible assumption) | (with_reducible refine below_over ?_ _ _) | (with_reducible refine Lw.below_alloc ?_ _) | (with_reducible refine Below.drew ?_) | (with_reducible refine below_drewN ?_ _) | (with_reducible refine Below.setCell ?_ ?_ _) | go_size)))) (fun e => HN7.out e.symm); have xk := hgrow7.cell (cell_up k0 (by (repeat' (first | (with_reducible exact Below.refl _ _) | (with_reducible assumption) | (with_reducible refine below_over ?_ _ _) | (with_reducible refine Lw.below_alloc ?_ _) | (with_reducible refine Below.drew ?_) | (with_reducible refine below_drewN ?_ _) | (with_reducible refine Below.setCell ?_ ?_ _) | go_size)))) (fun e => HNK.out e.symm); have xf := Qnt.blk_frozen (row_grown hgrow7 (Qnt.blk_up HKR.out (by (repeat' (first | (with_reducible exact Below.refl _ _) | (with_reducible assumption) | (with_reducible refine below_over ?_ _ _) | (with_reducible refine Lw.below_alloc ?_ _) | (with_reducible refine Below.drew ?_) | (with_reducible refine below_drewN ?_ _) | (with_reducible refine Below.setCell ?_ ?_ _) | go_size)))) (fun e => HNK.out e.symm)) 0; have HW7 := Lib.hid hown7; have HG7 := Lib.hid hgrow7; have HA7 := Lib.hid hat7; clear hown7 hgrow7 hat7 hlt7)
          refine hK.out _ _ ⟨x6, x0, x1⟩ (fun hHeld => ?_)
          clear hK K
          (try simp only [List.getElem_toArray, List.getElem_cons_zero, List.getElem_cons_succ, Act.put, List.setIfInBounds_toArray, List.set_cons_zero, List.set_cons_succ])
          refine wpAnyH_take (i := 14) (v := ?_) rfl (by kernel_rfl) (by kernel_rfl) (by kernel_rfl) (fun _ _ _ h => h) (Or.inl ⟨by rfl, ?_⟩) hHeld ?_
          rotate_left
          · intro w hSw
            (try dsimp only at hSw)
            go_simp
            (try with_reducible rfl)
          (try simp only [List.getElem_toArray, List.getElem_cons_zero, List.getElem_cons_succ, Act.put, List.setIfInBounds_toArray, List.set_cons_zero, List.set_cons_succ])
          refine wpAnyH_ready (rs := [15]) (by kernel_rfl) (by simp) ?_
          refine AllReadyH.cons rfl (fun K hK => ?_) AllReadyH.nil
          go_simp
          refine hK.out _ _ ⟨cell_far x6 hsk, cell_far x0 h7k, cell_far x1 h7k⟩ (fun hHeld => ?_)
          clear hK K
          (try simp only [List.getElem_toArray, List.getElem_cons_zero, List.getElem_cons_succ, Act.put, List.setIfInBounds_toArray, List.set_cons_zero, List.set_cons_succ])
          refine wpAnyH_done (by kernel_rfl) ?_ _
          (try go_wp2_with fail)
          go_meet
          exact ⟨_, gk_app (fs := [boxT (B12 + 1) 69 #[.int .i64 0, .int .u64 0], boxT B12 69 #[.int .i64 0, .int .u64 0]] ++ [_, _, _]) HOX.out HHV.out HN0.out (x := ((0, i), n, R)) HW7.out HG7.out HA7.out⟩
      case rest =>
        obtain ⟨hv2, hq⟩ := hcut
        have HO13 := Lib.hid hq
        clear hq p0 p1 c5 c6 k0 k1 k2 k3
        go_wp2_with (go_at_call 74; (with_reducible refine (HOF.out _).mono ?_); rintro e wf ⟨rfl, hb⟩; have HO14 := Lib.hid (HO13.out.up hb); clear hb; obtain ⟨z0, z1, z2, z3⟩ := hold_two HO14.out (b := B8) (e := 151) (v0 := .int .i64 0) (v1 := .int .u64 0) (by simp))
        have HOE : Hid (Hold (gkF kb ab hv) w ((wf.setCell ⟨B8, 0, none⟩ (.int .i64 (Wid.fh n))).setCell ⟨B8, 1, none⟩ (.int .u64 (Wid.fl n))) ([boxT (B12 + 1) 69 #[.int .i64 0, .int .u64 0], boxT B12 69 #[.int .i64 0, .int .u64 0]] ++ [boxT B11 151 #[.int .i64 0, .int .u64 0], boxT B8 151 #[.int .i64 (Wid.fh n), .int .u64 (Wid.fl n)], boxT B7 69 #[.int .i64 0, .int .u64 (i : Int)], gkT B0 kb ab N hv2 (putK ls 0 ((0, i), n, R)) b2])) := Lib.hid (put_two (fs := [boxT (B12 + 1) 69 #[.int .i64 0, .int .u64 0], boxT B12 69 #[.int .i64 0, .int .u64 0]] ++ [_]) HO14.out (.int .i64 (Wid.fh n)) (.int .u64 (Wid.fl n)))
        obtain ⟨we, hwe⟩ : ∃ we, (wf.setCell ⟨B8, 0, none⟩ (.int .i64 (Wid.fh n))).setCell ⟨B8, 1, none⟩ (.int .u64 (Wid.fl n)) = we := ⟨_, rfl⟩
        rw [hwe] at HOE ⊢
        obtain ⟨v0, v1, -, -⟩ := hold_two HOE.out (b := B8) (e := 151) (v0 := .int .i64 (Wid.fh n)) (v1 := .int .u64 (Wid.fl n)) (by simp)
        refine bodyPost_ret (v := .agg #[.int .i64 (Wid.fh n), .int .u64 (Wid.fl n)]) (by simp [results, Tryz.results71, go_sem, v0, v1]) rfl ?_
        obtain ⟨g1, g2⟩ := gk_of HOE.out (B0 := B0) (kb := kb) (ab := ab) (N := N) (hv := hv2) (ls := (putK ls 0 ((0, i), n, R))) (b := b2) (by simp)
        exact ⟨by first | rfl | rw [if_neg hr], hv2, by rw [HLS.out, HB2.out]; exact g1, HOE.out.1, fun k hk => (g2 k hk).imp id (fun h => by omega)⟩
end Go.Proofs.YtmdkdjgamhaeoaaGreat.Hvy
