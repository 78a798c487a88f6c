/- Texts that the statements of this seat lean on, put together: SpnRPt, SpnRRg, StkRUpd, StkUpd, StkApp, StkGet, StkNew, StkRnd, SpnGat, StkCpy, StkCode. -/
import Derived.Test.YtbifihhfoanmgaaGreatMc
import Derived.Test.YtbifihhfoanmgaaGreatMh
import Derived.Test.YtbifihhfoanmgaaGreatMi
import Derived.Test.YtbifihhfoanmgaaGreatMj
import Derived.Test.YtbifihhfoanmgaaGreatMk
import Derived.Test.YtbifihhfoanmgaaGreatMl
import Derived.Deep.LoopGhost
import Derived.Deep.RegionHeld3
import Derived.Deep.DeepCutAuto
import Derived.Deep.QuietTactic
import Derived.BigQuiet
import Derived.Maps.AppendAt
/- The document's Parts of layer 16. Printed by wip/gen/spn12.py. -/
namespace Go.Proofs.YtbifihhfoanmgaaGreat.Spn
open Go Go.RowKit Lw Grd Lin Con Shp Sk Exa Lev Stk Pcs
set_option linter.unusedVariables false
set_option linter.unusedSimpArgs false
/-- One number appended to a row of one's own: where the row lies behind it. -/
theorem app_onh {P : Program} {w : World} {ops : Array Oper} {rest : List Oper} {o : Oper} {a : Act} {Q : Exit → Act → World → Prop} (k : IntKind) (hgd : o.guard = none) (s x : Operand) (t : TypeId)
    (ho : o.op = .call { callee := .builtin .append, args := #[s, x], argTypes := #[t, t] })
    (base : Nat) (e : TypeId) (i : TypeInfo) (bytes : Nat) (ht : P.underlying t = some (.slice e)) (hi : P.info? e = some i) (hz : i.zero = some (.int k 0)) (hsize : i.size = 1) (hby : i.bytes = bytes)
    (v : Value) (n : Nat) (xs : List Int) (hs : a.eval s = v) (hown : w.ownsRow base e 1 v n (xs.map (Value.int k)))
    (X : Int) (B : Nat) (hx : a.eval x = .slice (some ⟨B, 0, none⟩) 1 1) (hc : ∀ j u, ([Value.int k X] : List Value)[j]? = some u → w.cell? ((⟨B, 0, none⟩ : Addr).add j) = some u) (h63 : n + 1 ≤ maxLen) (hbytes : (n + 1) * bytes ≤ 140737488355328) (hbase : base ≤ w.heap.size)
    (h : ∀ g cap w', w'.ownsRow base e 1 (.slice (some ⟨g, 0, none⟩) (n + 1) cap) (n + 1) ((xs ++ [X]).map (Value.int k)) → w.grownBy w' v.ownBlock → (v.ownBlock = some g ∨ g = w.heap.size) → wpList P ops Q rest (a.put o.dst (.slice (some ⟨g, 0, none⟩) (n + 1) cap)) w') :
    wpList P ops Q (o :: rest) a w := by
  refine wpList_append_lies w hgd s x t ho base e i (.int k 0) 1 bytes ht hi hz hsize hby rfl (by decide) v n _ hs hown ⟨B, 0, none⟩ 1 1 [.int k X] hx rfl hc (by intro u hu; simp at hu; subst hu; rfl) (by decide) h63 hbytes hbase w.heap.size rfl ?_
  intro g cap w' hown2 hgrow hat hlt
  exact h g cap w' (by rw [List.map_append]; exact hown2) hgrow hat
theorem kept_grown16 {w w' : World} {row : Option Nat} (hg : w.grownBy w' row) : Kept (fun q => row = some q) w w' := (Kept.refl (fun q => row = some q) w).grown hg (fun q hq => .inl hq)
theorem dk_bt {w : World} {r : Addr} {F : Nat → Prop} {c : Cfg} {sts : List LS} (h : DK w r F c sts) : ∃ b, r = ⟨b, 0, none⟩ ∧ w.cell? ⟨b, 0, none⟩ = some (.int .i64 c.bt) ∧ b < w.heap.size := by
  obtain ⟨hr, hc, hl, b, B0, hdr, vals, ts, e, hrow, hI, -⟩ := h
  have hb := (Hold.start hI).i (t := dkB b c hdr) (by simp)
  exact ⟨b, e, box_cell hb (i := 0) rfl, box_lt hb⟩
theorem cover_ok (b lo hi : Int) (l : List (Nat × Nat)) (w : World) (hb0 : 1 ≤ b) (hb1 : b ≤ 59) (lo0 : 0 ≤ lo) (lo1 : lo ≤ hi) (hi1 : hi < p2 b.toNat) (hc : Cov b.toNat (hi.toNat + 1) lo.toNat l) :
    Calls Tryz.prog 21 #[.int .i64 b, .int .u64 lo, .int .u64 hi] w fun e w' => ∃ (A : Option Addr) (cap : Nat), e = .returned (.tuple #[.slice A l.length cap, .bool true]) ∧ (pcT A l.length cap (ints l)).I w' ∧ (∀ a, A = some a → w.heap.size ≤ a.block) ∧ Below w.heap.size w w' := by
  have hp : p2 b.toNat ≤ 576460752303423488 := by
    have h := Nat.pow_le_pow_right (show 0 < 2 by omega) (show b.toNat ≤ 59 by omega)
    have e : (2 : Nat) ^ 59 = 576460752303423488 := by decide
    unfold p2
    omega
  refine (rcover_any b lo hi w (by omega) (by omega) lo0 (by omega) (by omega) (by omega)).mono ?_
  rintro e w' ⟨A, n, cap, l2, rfl, hp2, hF, hb, hok, -⟩
  have h1 : okC b lo hi = true := decide_eq_true ⟨hb0, hb1, lo1, hi1⟩
  have h2 := (hok h1).uniq hc
  subst h2
  have h4 := hp2.1.len
  rw [ints_len] at h4
  subst h4
  rw [h1]
  exact ⟨A, cap, rfl, hp2, fun a ha => hF _ ⟨a, ha, rfl⟩, hb⟩
theorem cover_no (b lo hi : Int) (w : World) (hb0 : 1 ≤ b) (hb1 : b ≤ 59) (lo0 : 0 ≤ lo) (lo1 : lo ≤ 18446744073709551615) (hi0 : 0 ≤ hi) (hi1 : hi ≤ 18446744073709551615) (hn : p2 b.toNat ≤ hi) :
    Calls Tryz.prog 21 #[.int .i64 b, .int .u64 lo, .int .u64 hi] w fun e w' => ∃ v, e = .returned (.tuple #[v, .bool false]) ∧ Below w.heap.size w w' := by
  refine (rcover_any b lo hi w (by omega) (by omega) lo0 lo1 hi0 hi1).mono ?_
  rintro e w' ⟨A, n, cap, l2, rfl, -, -, hb, -, -⟩
  have h1 : okC b lo hi = false := decide_eq_false (by omega)
  rw [h1]
  exact ⟨_, rfl, hb⟩
set_option maxRecDepth 100000 in
set_option maxHeartbeats 4000000 in
theorem rpt_1 (r : Addr) (F : Nat → Prop) (c : Cfg) (sts : List LS) (lo hi : Int) (w : World) (h : DK w r F c sts) (lo0 : 0 ≤ lo) (lo1 : lo ≤ 18446744073709551615) (hi0 : 0 ≤ hi) (hi1 : hi ≤ 18446744073709551615) (h1 : hi < lo) :
    Calls Tryz.prog 15 #[.pointer (some r), .int .u64 lo, .int .u64 hi] w fun e w' => ∃ (A : Addr) (n cap : Nat), e = .returned (.tuple #[.slice (some A) n cap, .int .i64 (ptC2 c lo hi)]) ∧ Rd .i64 w' (some A) (ptL c (fun L i => spV c sts (L : Int) i) lo hi) ∧ (ptL c (fun L i => spV c sts (L : Int) i) lo hi).length = n ∧ n ≤ cap ∧ cap ≤ maxLen ∧ Below w.heap.size w w' := by
  have e1 : ptC2 c lo hi = 1 := by unfold ptC2; rw [if_pos h1]
  have e2 : ptL c (fun L i => spV c sts (L : Int) i) lo hi = [] := by unfold ptL; rw [if_neg (by rw [e1]; decide)]
  rw [e1, e2]
  clear h e1 e2
  go_enter Tryz.func15, Tryz.ntmps15
  go_wp2
  refine bodyPost_ret (v := .tuple #[.slice (some ⟨w.heap.size, 0, none⟩) 0 0, .int .i64 1]) (by simp [results, Tryz.results15, go_sem]) rfl ?_
  exact ⟨_, 0, 0, rfl, rd_nil _ _ _, rfl, Nat.le_refl _, Nat.zero_le _, (by repeat' (first | (with_reducible exact Below.refl _ _) | (with_reducible assumption) | (with_reducible refine below_over ?_ _ _) | (with_reducible refine Lw.below_alloc ?_ _) | (with_reducible refine Below.drew ?_) | (with_reducible refine below_drewN ?_ _) | (with_reducible refine Below.setCell ?_ ?_ _) | go_size))⟩
set_option maxRecDepth 100000 in
set_option maxHeartbeats 4000000 in
theorem rpt_2 (r : Addr) (F : Nat → Prop) (c : Cfg) (sts : List LS) (lo hi : Int) (w : World) (h : DK w r F c sts) (lo0 : 0 ≤ lo) (lo1 : lo ≤ 18446744073709551615) (hi0 : 0 ≤ hi) (hi1 : hi ≤ 18446744073709551615) (h1 : ¬ hi < lo) (h2 : keys c 0 ≤ hi) :
    Calls Tryz.prog 15 #[.pointer (some r), .int .u64 lo, .int .u64 hi] w fun e w' => ∃ (A : Addr) (n cap : Nat), e = .returned (.tuple #[.slice (some A) n cap, .int .i64 (ptC2 c lo hi)]) ∧ Rd .i64 w' (some A) (ptL c (fun L i => spV c sts (L : Int) i) lo hi) ∧ (ptL c (fun L i => spV c sts (L : Int) i) lo hi).length = n ∧ n ≤ cap ∧ cap ≤ maxLen ∧ Below w.heap.size w w' := by
  have e1 : ptC2 c lo hi = 2 := by unfold ptC2; rw [if_neg h1, if_pos h2]
  have e2 : ptL c (fun L i => spV c sts (L : Int) i) lo hi = [] := by unfold ptL; rw [if_neg (by rw [e1]; decide)]
  rw [e1, e2]
  have hr := h.right.1
  obtain ⟨b, rfl, d0, dlt⟩ := dk_bt h
  have CV := Lib.hid (fun w => cover_no c.bt lo hi w hr.1 hr.2.1 lo0 lo1 hi0 hi1 (by rw [show p2 c.bt.toNat = keys c 0 from two_keys hr]; exact h2))
  clear h e1 e2 hr h2
  go_enter Tryz.func15, Tryz.ntmps15
  go_wp2_with (go_at_call 21; (with_reducible refine (CV.out _).mono ?_); rintro e w1 ⟨v1, rfl, hb⟩; have HB := Lib.hid hb; clear hb)
  refine bodyPost_ret (v := .tuple #[.slice (some ⟨w.heap.size, 0, none⟩) 0 0, .int .i64 2]) (by simp [results, Tryz.results15, go_sem]) rfl ?_
  exact ⟨_, 0, 0, rfl, rd_nil _ _ _, rfl, Nat.le_refl _, Nat.zero_le _, below_call (by repeat' (first | (with_reducible exact Below.refl _ _) | (with_reducible assumption) | (with_reducible refine below_over ?_ _ _) | (with_reducible refine Lw.below_alloc ?_ _) | (with_reducible refine Below.drew ?_) | (with_reducible refine below_drewN ?_ _) | (with_reducible refine Below.setCell ?_ ?_ _) | go_size)) HB.out (Nat.le_refl _)⟩
set_option maxRecDepth 100000 in
set_option maxHeartbeats 4000000 in
theorem rpt_0 (r : Addr) (F : Nat → Prop) (c : Cfg) (sts : List LS) (lo hi : Int) (w : World) (h : DK w r F c sts) (lo0 : 0 ≤ lo) (lo1 : lo ≤ 18446744073709551615) (hi0 : 0 ≤ hi) (hi1 : hi ≤ 18446744073709551615) (h1 : ¬ hi < lo) (h2 : ¬ keys c 0 ≤ hi) :
    Calls Tryz.prog 15 #[.pointer (some r), .int .u64 lo, .int .u64 hi] w fun e w' => ∃ (A : Addr) (n cap : Nat), e = .returned (.tuple #[.slice (some A) n cap, .int .i64 (ptC2 c lo hi)]) ∧ Rd .i64 w' (some A) (ptL c (fun L i => spV c sts (L : Int) i) lo hi) ∧ (ptL c (fun L i => spV c sts (L : Int) i) lo hi).length = n ∧ n ≤ cap ∧ cap ≤ maxLen ∧ Below w.heap.size w w' := by
  have e1 : ptC2 c lo hi = 0 := by unfold ptC2; rw [if_neg h1, if_neg h2]
  have hr := h.right.1
  have hbt := hr.1
  have h2k := two_keys hr
  obtain ⟨l, hc⟩ := Cov.ex (B := c.bt.toNat) (e := hi.toNat + 1) (hi.toNat + 1 - lo.toNat) lo.toNat rfl (by omega)
  have hll := hc.len (by omega) (by omega)
  have e2 : ptL c (fun L i => spV c sts (L : Int) i) lo hi = l.map (fun p : Nat × Nat => spV c sts (p.1 : Int) ((p.2 : Nat) : Int)) := by
    unfold ptL parts
    rw [if_pos e1, covL_eq hc]
  rw [e1, e2]
  obtain ⟨b, rfl, d0, dlt⟩ := dk_bt h
  have CV := Lib.hid (fun w => cover_ok c.bt lo hi l w hr.1 hr.2.1 lo0 (by omega) (by rw [show p2 c.bt.toNat = keys c 0 from two_keys hr]; omega) hc)
  have CPT := Lib.hid (fun n i w hs n0 n1 i0 i1 => dk_point ⟨b, 0, none⟩ F c sts n i w hs n0 n1 i0 i1)
  have HD := Lib.hid h
  have HNX := Lib.hid (fun j p (h : l[j]? = some p) => (show (l.map (fun p : Nat × Nat => spV c sts (p.1 : Int) ((p.2 : Nat) : Int))).take (j + 1) = (l.map (fun p : Nat × Nat => spV c sts (p.1 : Int) ((p.2 : Nat) : Int))).take j ++ [(fun p : Nat × Nat => spV c sts (p.1 : Int) ((p.2 : Nat) : Int)) p] by
    obtain ⟨k1, k2⟩ := List.getElem?_eq_some_iff.1 h
    rw [← List.map_take, ← List.map_take, List.take_succ_eq_append_getElem k1, List.map_append, k2]
    rfl))
  have hll2 : l.length ≤ 200 := by have := hr.2.1; omega
  have hmx : l.length ≤ maxLen := by unfold maxLen; omega
  obtain ⟨i0, hi9, hi0', hi1', hi2'⟩ := info_parts Exa.i64_info
  obtain ⟨VS, hVS⟩ : ∃ v, l.map (fun p : Nat × Nat => spV c sts (p.1 : Int) ((p.2 : Nat) : Int)) = v := ⟨_, rfl⟩
  rw [hVS] at HNX ⊢
  have HVL : Hid (VS.length = l.length) := Lib.hid (by rw [← hVS, List.length_map])
  clear h e1 e2 hr hc hll hVS h2 h2k hbt hmx
  go_enter Tryz.func15, Tryz.ntmps15
  go_wp2_with (go_at_call 21; (with_reducible refine (CV.out _).mono ?_); rintro e w4 ⟨A2, cap2, rfl, hpc, hbk, hb⟩; have HPC := Lib.hid hpc; have HBK := Lib.hid hbk; have HB4 := Lib.hid hb; clear hb hbk hpc)
  have HBW : Hid (Below w.heap.size w w4) := Lib.hid (below_call (by repeat' (first | (with_reducible exact Below.refl _ _) | (with_reducible assumption) | (with_reducible refine below_over ?_ _ _) | (with_reducible refine Lw.below_alloc ?_ _) | (with_reducible refine Below.drew ?_) | (with_reducible refine below_drewN ?_ _) | (with_reducible refine Below.setCell ?_ ?_ _) | go_size)) HB4.out (Nat.le_refl _))
  have HOW : Hid (w4.ownsRow w.heap.size 2 1 (.slice (some ⟨w.heap.size, 0, none⟩) 0 0) 0 ((VS.take 0).map (Value.int .i64))) := Lib.hid (by
    rw [List.take_zero]
    exact (Kept.of_below (F := fun _ => False) HB4.out).own (own_empty w 2 1 w.heap.size (Nat.le_refl _)) (fun _ _ h => h))
  clear d0 dlt
  go_loopw [8, 11] (fun v iv wr => ∃ (j g cp : Nat), j ≤ l.length ∧ iv = .int .i64 j ∧ v = .slice (some ⟨g, 0, none⟩) j cp ∧ wr.ownsRow w.heap.size 2 1 v j ((VS.take j).map (Value.int .i64)) ∧ (pcT A2 l.length cap2 (ints l)).I wr ∧ (∀ a, A2 = some a → a.block ≠ g) ∧ w.heap.size ≤ g ∧ Below w.heap.size w wr) (fun _ iv _ => l.length - (intOf iv).toNat)
  case atStart => exact ⟨0, w.heap.size, 0, Nat.zero_le _, rfl, rfl, HOW.out, HPC.out, fun a ha h9 => by
      have h8 := HBK.out a ha
      have h7 : w.heap.size < (w.alloc (.cells #[] 2)).heap.size := by go_size
      first | omega | (simp [go_sem] at h8; omega), Nat.le_refl _, HBW.out⟩
  case round =>
    obtain ⟨j, g, cp, hj, rfl, rfl, hown, hpc, hne, hge, hbw⟩ := hrel
    have HOWN := Lib.hid hown
    have HPCR := Lib.hid hpc
    have HNE := Lib.hid hne
    have HBWR := Lib.hid hbw
    have HDR := Lib.hid (HD.out.up hbw)
    clear hown hpc hne hbw
    by_cases hlt : j < l.length
    · obtain ⟨pp, hp1⟩ : ∃ pp, l[j]? = some pp := ⟨_, List.getElem?_eq_getElem hlt⟩
      have HN := Lib.hid (HNX.out j pp hp1)
      obtain ⟨LV, IX⟩ := pp
      obtain ⟨a2, g2, o2, rfl, hadd, d1, d2, kb, db⟩ := HPCR.out.1.at (ints_get hp1)
      simp only at d1 d2 kb db
      have CPJ := Lib.hid (fun w hs => CPT.out LV IX w hs kb.1 kb.2 db.1 db.2)
      obtain ⟨VV, hVV⟩ : ∃ v, spV c sts (LV : Int) (IX : Int) = v := ⟨_, rfl⟩
      rw [hVV] at CPJ
      have HN2 : Hid (VS.take (j + 1) = VS.take j ++ [VV]) := Lib.hid (by rw [← hVV]; exact HN.out)
      have hj3 : (j : Int) < (l.length : Int) := by omega
      clear hp1 hVV kb db
      go_wp2_with (first
        | (at_builtin; (refine app_onh .i64 rfl _ _ 39 rfl w.heap.size 2 i0 8 Exa.i64s_u hi9 hi0' hi1' hi2' (.slice (some ⟨g, 0, none⟩) j cp) j (VS.take j) rfl (HOW7.out.alloc _) VV w7.heap.size rfl (cell_one_new _ _ _) (by unfold maxLen; omega) (by omega) (by have h4 := HB7.out.size; have h5 := HBWR.out.size; simp [go_sem]; omega) ?_); intro gg cc w1 own1 grow1 hat1)
        | (go_at_call 43; (with_reducible refine (CPJ.out _ HDR.out).mono ?_); rintro e w7 ⟨rfl, hb⟩; have HB7 := Lib.hid hb; have HOW7 := Lib.hid ((Kept.of_below (F := fun _ => False) hb).own HOWN.out (fun _ _ h => h)); have HPC7 := Lib.hid ((pcT (some a2) l.length cap2 (ints l)).keep _ _ (fun _ => False) HPCR.out (Kept.of_below hb) (fun _ _ h => h)); clear hb))
      have hsz7 := HB7.out.size
      have hal : (w7.alloc (.cells #[.int .i64 VV] 2)).heap.size = w7.heap.size + 1 := by simp [go_sem]
      have HPC8 := Lib.hid ((pcT (some a2) l.length cap2 (ints l)).keep _ (w7.alloc (.cells #[.int .i64 VV] 2)) (fun _ => False) HPC7.out (Kept.of_below (Lw.below_alloc (Below.refl _ _) _)) (fun _ _ h => h))
      have HPC9 := Lib.hid ((pcT (some a2) l.length cap2 (ints l)).keep _ w1 (fun q => (Value.slice (some ⟨g, 0, none⟩) j cp).ownBlock = some q) HPC8.out (kept_grown16 grow1) (fun k hk hk2 => by
        obtain ⟨a9, h9, h8⟩ := hk
        have h7 : some g = some k := hk2
        injection h7 with h7
        exact HNE.out a9 h9 (h8.trans h7.symm)))
      have HNE9 : Hid (∀ a, some a2 = some a → a.block ≠ gg) := Lib.hid (fun a ha => by
        rcases hat1 with h | h
        · have h7 : some g = some gg := h
          injection h7 with h7
          rw [← h7]
          exact HNE.out a ha
        · have h8 := HPC7.out.2 a ha
          omega)
      have hgg : w.heap.size ≤ gg := by
        rcases hat1 with h | h
        · have h7 : some g = some gg := h
          injection h7 with h7
          omega
        · have h5 := HBWR.out.size
          omega
      have hb9 : Below w.heap.size w w1 := app_below3 (Lw.below_alloc (below_call HBWR.out HB7.out (Nat.le_refl _)) _) grow1 (fun q hq => by
        have h7 : some g = some q := hq
        injection h7 with h7
        omega)
      have HB9 := Lib.hid hb9
      clear hb9 hal hsz7 hat1 grow1
      go_roundw
      case rel => exact ⟨j + 1, gg, cc, by omega, by go_num, rfl, by rw [HN2.out]; exact own1, HPC9.out, HNE9.out, hgg, HB9.out⟩
      case measure => simp [intOf]; omega
    · obtain rfl : j = l.length := by omega
      have HRD : Hid (Rd .i64 wr (some ⟨g, 0, none⟩) VS ∧ l.length ≤ cp ∧ cp ≤ maxLen) := Lib.hid (by
        have h := HOWN.out
        rw [← HVL.out, List.take_length] at h
        obtain ⟨h1, h2 | ⟨g9, cap9, cur, h3, h4, h5, h6, h7, h8, h9⟩⟩ := h
        · exact absurd h2.1 (by simp)
        · injection h3 with h3 h3b h3c
          injection h3 with h3
          injection h3 with h3
          subst h3 h3c
          exact ⟨fun k v hk => ⟨_, rfl, HOWN.out.cells (g := g) rfl k _ (by rw [List.getElem?_map, ← HVL.out, List.take_length, hk]; rfl)⟩, by rw [← HVL.out]; exact h6, h7⟩)
      clear hlt
      go_wp2
      refine bodyPost_ret (v := .tuple #[.slice (some ⟨g, 0, none⟩) l.length cp, .int .i64 0]) (by simp [results, Tryz.results15, go_sem]) rfl ?_
      exact ⟨_, _, _, rfl, HRD.out.1, HVL.out, HRD.out.2.1, HRD.out.2.2, HBWR.out⟩
theorem rpt_any (r : Addr) (F : Nat → Prop) (c : Cfg) (sts : List LS) (lo hi : Int) (w : World) (h : DK w r F c sts) (lo0 : 0 ≤ lo) (lo1 : lo ≤ 18446744073709551615) (hi0 : 0 ≤ hi) (hi1 : hi ≤ 18446744073709551615) :
    Calls Tryz.prog 15 #[.pointer (some r), .int .u64 lo, .int .u64 hi] w fun e w' => ∃ (A : Addr) (n cap : Nat), e = .returned (.tuple #[.slice (some A) n cap, .int .i64 (ptC2 c lo hi)]) ∧ Rd .i64 w' (some A) (ptL c (fun L i => spV c sts (L : Int) i) lo hi) ∧ (ptL c (fun L i => spV c sts (L : Int) i) lo hi).length = n ∧ n ≤ cap ∧ cap ≤ maxLen ∧ Below w.heap.size w w' := by
  by_cases h1 : hi < lo
  · exact rpt_1 r F c sts lo hi w h lo0 lo1 hi0 hi1 h1
  · by_cases h2 : keys c 0 ≤ hi
    · exact rpt_2 r F c sts lo hi w h lo0 lo1 hi0 hi1 h1 h2
    · exact rpt_0 r F c sts lo hi w h lo0 lo1 hi0 hi1 h1 h2
end Go.Proofs.YtbifihhfoanmgaaGreat.Spn
/- The document's Range of layer 16. Printed by wip/gen/spn12.py. -/
namespace Go.Proofs.YtbifihhfoanmgaaGreat.Spn
open Go Go.RowKit Lw Grd Lin Con Shp Sk Exa Lev Stk Pcs
set_option linter.unusedVariables false
set_option linter.unusedSimpArgs false
set_option maxRecDepth 100000 in
set_option maxHeartbeats 4000000 in
theorem rrg_any (r : Addr) (F : Nat → Prop) (c : Cfg) (sts : List LS) (lo hi : Int) (w : World) (h : DK w r F c sts) (lo0 : 0 ≤ lo) (lo1 : lo ≤ 18446744073709551615) (hi0 : 0 ≤ hi) (hi1 : hi ≤ 18446744073709551615) (hz : In64 (ptL c (fun L i => spV c sts (L : Int) i) lo hi)) (hn : (ptL c (fun L i => spV c sts (L : Int) i) lo hi).length ≤ 1000) :
    Calls Tryz.prog 17 #[.pointer (some r), .int .u64 lo, .int .u64 hi] w fun e w' => e = .returned (.tuple #[.int .i64 (rgV c (fun L i => spV c sts (L : Int) i) lo hi), .int .i64 (rgC c (fun L i => spV c sts (L : Int) i) lo hi)]) ∧ Below w.heap.size w w' := by
  have CP := Lib.hid (fun w hs => rpt_any r F c sts lo hi w hs lo0 lo1 hi0 hi1)
  have HD := Lib.hid h
  have HZ := Lib.hid hz
  by_cases h0 : ptC2 c lo hi = 0
  · have e1 : (ptL c (fun L i => spV c sts (L : Int) i) lo hi) = parts c (fun L i => spV c sts (L : Int) i) lo hi := if_pos h0
    have hc : rgC c (fun L i => spV c sts (L : Int) i) lo hi = if Wid.fit64 (ptL c (fun L i => spV c sts (L : Int) i) lo hi).sum = true then 0 else 4 := by unfold rgC; rw [if_pos h0, e1]
    have hv : rgV c (fun L i => spV c sts (L : Int) i) lo hi = Wid.f64 (ptL c (fun L i => spV c sts (L : Int) i) lo hi).sum := by
      unfold rgV Wid.f64
      rw [hc, e1]
      cases hf : Wid.fit64 (parts c (fun L i => spV c sts (L : Int) i) lo hi).sum <;> simp
    rw [hc, hv]
    rw [h0] at CP
    obtain ⟨L, hL⟩ : ∃ L, (ptL c (fun L i => spV c sts (L : Int) i) lo hi) = L := ⟨_, rfl⟩
    rw [hL] at CP HZ hn ⊢
    have HN := Lib.hid hn
    cases hf : Wid.fit64 L.sum with
    | true =>
      have CS := Lib.hid (fun (A : Option Addr) (n cap : Nat) (w : World) (hr : Rd .i64 w A L) (hl : L.length = n) => Wid.rsum_any A n cap L w hr hl (by have := HN.out; omega) HZ.out)
      rw [hf] at CS
      rw [if_pos rfl]
      obtain ⟨S, hS⟩ : ∃ S, Wid.f64 L.sum = S := ⟨_, rfl⟩
      rw [hS] at CS ⊢
      clear h hz e1 hc hv h0 hL hn hf hS
      go_enter Tryz.func17, Tryz.ntmps17
      go_wp2_with (first
        | (go_at_call 45; (with_reducible refine (CS.out _ _ _ _ HR1.out HL1.out).mono ?_); rintro e w2 ⟨rfl, hb⟩; have HB2 := Lib.hid (below_call HB1.out hb (Nat.le_refl _)); clear hb)
        | (go_at_call 15; (with_reducible refine (CP.out _ HD.out).mono ?_); rintro e w1 ⟨A1, n1, cap1, rfl, hr1, hl1, _, _, hb⟩; have HR1 := Lib.hid hr1; have HL1 := Lib.hid hl1; have HB1 := Lib.hid hb; clear hb hr1 hl1))
      refine bodyPost_ret (v := .tuple #[.int .i64 S, .int .i64 0]) (by simp [results, Tryz.results17, go_sem]) rfl ?_
      exact ⟨rfl, HB2.out⟩
    | false =>
      have CS := Lib.hid (fun (A : Option Addr) (n cap : Nat) (w : World) (hr : Rd .i64 w A L) (hl : L.length = n) => Wid.rsum_any A n cap L w hr hl (by have := HN.out; omega) HZ.out)
      rw [hf] at CS
      rw [show Wid.f64 L.sum = 0 by unfold Wid.f64; rw [hf]; rfl] at CS ⊢
      rw [if_neg (by decide)]
      clear h hz e1 hc hv h0 hL hn hf
      go_enter Tryz.func17, Tryz.ntmps17
      go_wp2_with (first
        | (go_at_call 45; (with_reducible refine (CS.out _ _ _ _ HR1.out HL1.out).mono ?_); rintro e w2 ⟨rfl, hb⟩; have HB2 := Lib.hid (below_call HB1.out hb (Nat.le_refl _)); clear hb)
        | (go_at_call 15; (with_reducible refine (CP.out _ HD.out).mono ?_); rintro e w1 ⟨A1, n1, cap1, rfl, hr1, hl1, _, _, hb⟩; have HR1 := Lib.hid hr1; have HL1 := Lib.hid hl1; have HB1 := Lib.hid hb; clear hb hr1 hl1))
      refine bodyPost_ret (v := .tuple #[.int .i64 0, .int .i64 4]) (by simp [results, Tryz.results17, go_sem]) rfl ?_
      exact ⟨rfl, HB2.out⟩
  · have hc : rgC c (fun L i => spV c sts (L : Int) i) lo hi = ptC2 c lo hi := by unfold rgC; rw [if_neg h0]
    have hv : rgV c (fun L i => spV c sts (L : Int) i) lo hi = 0 := by unfold rgV; rw [if_neg (by rw [hc]; exact h0)]
    rw [hc, hv]
    obtain ⟨E, hE⟩ : ∃ E, ptC2 c lo hi = E := ⟨_, rfl⟩
    rw [hE] at CP h0 ⊢
    have h0b : (E == 0) = false := by simpa using h0
    have h0c : (E != 0) = true := by simpa using h0
    clear h hz hc hv hE
    go_enter Tryz.func17, Tryz.ntmps17
    go_wp2_with (go_at_call 15; (with_reducible refine (CP.out _ HD.out).mono ?_); rintro e w1 ⟨A1, n1, cap1, rfl, hr1, hl1, _, _, hb⟩; have HB1 := Lib.hid hb; clear hb hr1 hl1)
    refine bodyPost_ret (v := .tuple #[.int .i64 0, .int .i64 E]) (by simp [results, Tryz.results17, go_sem]) rfl ?_
    exact ⟨rfl, HB1.out⟩
end Go.Proofs.YtbifihhfoanmgaaGreat.Spn
/- The document's Update of a stack. Printed by wip/gen/stk18.py. -/
namespace Go.Proofs.YtbifihhfoanmgaaGreat.Stk
open Go Go.RowKit Lw Grd Lin Con Shp Sk Exa Lev
set_option linter.unusedVariables false
set_option linter.unusedSimpArgs false
/-- The levels of a copy, some of them updated. -/
structure URow (c : Cfg) (k d : Int) (sts : List LS) (n : Nat) (sts' : List LS) : Prop where
  len : sts'.length = sts.length
  each : ∀ (i : Nat), sts'[i]? = if i < n then (rss c k d 0 sts)[i]? else sts[i]?
theorem URow.start (c : Cfg) (k d : Int) (sts : List LS) : URow c k d sts 0 sts := ⟨rfl, fun i => (if_neg (by omega)).symm⟩
theorem URow.next {c : Cfg} {k d : Int} {sts sts' : List LS} {n : Nat} {st : LS} (h : URow c k d sts n sts') (hs : sts[n]? = some st) : URow c k d sts (n + 1) (sts'.set n (lsRes c (n : Int) st (upK k n) d)) := by
  refine ⟨by rw [List.length_set]; exact h.len, fun i => ?_⟩
  have hlt := (List.getElem?_eq_some_iff.1 hs).1
  rw [List.getElem?_set]
  by_cases hi : n = i
  · subst hi
    rw [if_pos rfl, if_pos (by rw [h.len]; exact hlt), if_pos (by omega), rss_get c k d 0 sts n st hs, Nat.zero_add]
  · rw [if_neg hi, h.each i]
    by_cases hi2 : i < n
    · rw [if_pos hi2, if_pos (by omega)]
    · rw [if_neg hi2, if_neg (by omega)]
theorem URow.done {c : Cfg} {k d : Int} {sts sts' : List LS} {n : Nat} (h : URow c k d sts n sts') (hn : n = sts.length) : sts' = rss c k d 0 sts := List.ext_getElem? (fun i => by
  rw [h.each i]
  by_cases hi : i < n
  · rw [if_pos hi]
  · rw [if_neg hi, List.getElem?_eq_none (by omega), List.getElem?_eq_none (by rw [rss_len]; omega)])
theorem upk_bd {k : Int} (k0 : 0 ≤ k) (n : Nat) : 0 ≤ upK k n ∧ upK k n ≤ k := by
  have hp : (0 : Int) < ((2 ^ n : Nat) : Int) := by have := Nat.one_le_two_pow (n := n); omega
  exact ⟨Int.ediv_nonneg k0 (Int.le_of_lt hp), Int.ediv_le_self _ k0⟩
theorem upk_pow (k : Int) (n : Nat) : k / 2 ^ n = upK k n := by
  unfold upK
  simp
set_option maxRecDepth 100000 in
set_option maxHeartbeats 8000000 in
theorem dk_upd (p : Addr) (F : Nat → Prop) (c : Cfg) (sts : List LS) (k d : Int) (w : World) (h : DK w p F c sts) (k0 : 0 ≤ k) (k1 : k ≤ 18446744073709551615) (d0 : -9223372036854775808 ≤ d) (d1 : d ≤ 9223372036854775807) :
    Calls Tryz.prog 13 #[.pointer (some p), .int .u64 k, .int .i64 d] w fun e w' => e = .returned (.int .i64 (sucode c sts k d)) ∧ ∃ F', DK w' p F' c (sures c sts k d) ∧ Kept F w w' ∧ (∀ q, F' q → F q ∨ w.heap.size ≤ q) := by
  have HS := Lib.hid h
  obtain ⟨hr, hc, hl, b0, B0, hdr0, vals0, ts0, rfl, hrow0, hI, rfl⟩ := h
  have HH := Lib.hid (Hold.start hI)
  have HO := Lib.hid hc
  have HR := Lib.hid hr
  have HL := Lib.hid hl
  have HROW0 := Lib.hid hrow0
  have hb1 := hr.1
  have hb2 := hr.2.1
  obtain ⟨g0, cap0, rfl, hcs⟩ := ownD_cell (HH.out.i (t := ownT B0 76 hdr0 vals0) (by simp)) (by have := hrow0.lv; omega)
  obtain ⟨N, hN⟩ : ∃ N, vals0.length = N := ⟨_, rfl⟩
  have HNB : Hid (N = c.bt.toNat + 1) := Lib.hid (by have := hrow0.lv; omega)
  have hN60 : N ≤ 60 := by have := HNB.out; omega
  have HCS := Lib.hid hcs
  have d5 : w.cell? ⟨b0, 5, none⟩ = some (.slice (some ⟨g0, 0, none⟩) N cap0) := by rw [← hN]; exact box_cell (HH.out.i (t := dkB b0 c (.slice (some ⟨g0, 0, none⟩) vals0.length cap0)) (by simp)) (i := 5) rfl
  have HD5 := Lib.hid d5
  have HLS : Hid (sts.length = N) := Lib.hid (by have := hrow0.lv; omega)
  have K0 := Lib.hid k0
  have K1 := Lib.hid k1
  have D0 := Lib.hid d0
  have D1 := Lib.hid d1
  have x0 := box_cell (HH.out.i (t := dkB b0 c (.slice (some ⟨g0, 0, none⟩) vals0.length cap0)) (by simp)) (i := 0) rfl
  have x1 := box_cell (HH.out.i (t := dkB b0 c (.slice (some ⟨g0, 0, none⟩) vals0.length cap0)) (by simp)) (i := 1) rfl
  have x2 := box_cell (HH.out.i (t := dkB b0 c (.slice (some ⟨g0, 0, none⟩) vals0.length cap0)) (by simp)) (i := 2) rfl
  have x3 := box_cell (HH.out.i (t := dkB b0 c (.slice (some ⟨g0, 0, none⟩) vals0.length cap0)) (by simp)) (i := 3) rfl
  have x4 := box_cell (HH.out.i (t := dkB b0 c (.slice (some ⟨g0, 0, none⟩) vals0.length cap0)) (by simp)) (i := 4) rfl
  by_cases hk : keys c 0 ≤ k
  · have e1 : sucode c sts k d = 2 := if_pos hk
    have e2 : sures c sts k d = sts := by unfold sures; rw [e1]; exact if_neg (by decide)
    rw [e1, e2]
    clear e1 e2 hI hrow0 hl hr hc k0 k1 d0 d1 hcs hN hN60 hb1 hb2
    go_enter Tryz.func13, Tryz.ntmps13
    go_wp2_with (go_at_call 26; (with_reducible refine (rkeys_any c 0 _ HO.out (by omega) (by omega)).mono ?_); rintro e w1 ⟨rfl, hb⟩)
    go_ret
    exact ⟨rfl, _, HS.out.up hb, Kept.of_below hb, fun q hq => .inl hq⟩
  · have hk2 : k < keys c 0 := by omega
    by_cases hm : c.md = 2 ∧ d < 0
    · have e1 : sucode c sts k d = 3 := by unfold sucode; rw [if_neg hk, if_pos hm]
      have e2 : sures c sts k d = sts := by unfold sures; rw [e1]; exact if_neg (by decide)
      rw [e1, e2]
      have hm1 : (c.md == 2) = true := by simp [hm.1]
      have hm2 : d < 0 := hm.2
      clear e1 e2 hI hrow0 hl hr hc k0 k1 d0 d1 hcs hN hN60 hb1 hb2 hm hk
      go_enter Tryz.func13, Tryz.ntmps13
      go_wp2_with (go_at_call 26; (with_reducible refine (rkeys_any c 0 _ HO.out (by omega) (by omega)).mono ?_); rintro e w1 ⟨rfl, hb⟩; have y3 := cell_up x3 hb)
      go_ret
      exact ⟨rfl, _, HS.out.up hb, Kept.of_below hb, fun q hq => .inl hq⟩
    · have e1 : sucode c sts k d = ers c k d 0 sts := by unfold sucode; rw [if_neg hk, if_neg hm]
      have HE1 := Lib.hid e1
      have hm1 : ((c.md == 2) = false) ∨ ((c.md == 2) = true ∧ ¬ d < 0) := by
        by_cases h9 : c.md = 2
        · exact .inr ⟨by simp [h9], fun h => hm ⟨h9, h⟩⟩
        · exact .inl (by simp [h9])
      clear e1 hI hrow0 hl hr hc k0 k1 d0 d1 hcs hN hm hk
      have hend : ∀ (wr : World) (b1 B1 : Nat) (hdr1 : Value) (vals1 : List Value) (ts : List Thing), ers c k d 0 sts = 0 → LRow dlT c vals1 ts (rss c k d 0 sts) → Hold (fun _ => False) w wr (dkB b1 c hdr1 :: ownT B1 76 hdr1 vals1 :: ts) →
          ∃ F', DK (wr.setCell ⟨b0, 5, none⟩ hdr1) ⟨b0, 0, none⟩ F' c (rss c k d 0 sts) ∧ Kept (manyT (dkB b0 c (.slice (some ⟨g0, 0, none⟩) vals0.length cap0) :: ownT B0 76 (.slice (some ⟨g0, 0, none⟩) vals0.length cap0) vals0 :: ts0)).F w (wr.setCell ⟨b0, 5, none⟩ hdr1) ∧ (∀ q, F' q → (manyT (dkB b0 c (.slice (some ⟨g0, 0, none⟩) vals0.length cap0) :: ownT B0 76 (.slice (some ⟨g0, 0, none⟩) vals0.length cap0) vals0 :: ts0)).F q ∨ w.heap.size ≤ q) := by
        intro wr b1 B1 hdr1 vals1 ts hz hrow hh
        have hbw : Below w.heap.size w wr := hh.1.below
        have hb0 := box_lt (HH.out.i (t := dkB b0 c (.slice (some ⟨g0, 0, none⟩) vals0.length cap0)) (by simp))
        have h2 : Hold (manyT (dkB b0 c (.slice (some ⟨g0, 0, none⟩) vals0.length cap0) :: ownT B0 76 (.slice (some ⟨g0, 0, none⟩) vals0.length cap0) vals0 :: ts0)).F w wr (dkB b0 c (.slice (some ⟨g0, 0, none⟩) vals0.length cap0) :: ownT B1 76 hdr1 vals1 :: ts) := by
          have h3 := Hold.sub hh (.cons _ (List.Sublist.refl _))
          refine ⟨Kept.of_below hbw, fun t ht => ?_, fun u hu k' hk' hu2 => ?_, h3.2.2⟩
          · rcases List.mem_cons.1 ht with rfl | ht
            · exact ⟨(dkB b0 c _).keep w wr (fun _ => False) (HH.out.i (by simp)) (Kept.of_below hbw) (fun _ _ h => h), fun k' hk' => .inl ⟨_, by simp, hk'⟩⟩
            · exact ⟨(h3.2.1 t ht).1, fun k' hk' => .inr (((h3.2.1 t ht).2 k' hk').elim (fun h => h.elim) id)⟩
          · have h4 := ((h3.2.1 u hu).2 k' hu2).elim (fun h => h.elim) id
            have h5 : k' = b0 := hk'
            omega
        have h6 := Hold.store (fs := []) h2 hdr1
        have h7 := dk_of HR.out HO.out (by rw [rss_len]; exact HL.out) hrow h6
        exact ⟨_, h7.1, h7.2.1, h7.2.2⟩
      have HEND := Lib.hid hend
      clear hend
      have hkk := fun n => (upk_bd K0.out n)
      have HKK := Lib.hid hkk
      clear hkk
      rcases hm1 with hm1 | ⟨hm1, hm2⟩
      all_goals
        go_enter Tryz.func13, Tryz.ntmps13
        go_wp2_with (first
          | (go_at_call 26; (with_reducible refine (rkeys_any c 0 _ HO.out (by omega) (by omega)).mono ?_); rintro e w1 ⟨rfl, hb⟩; have y3 := cell_up x3 hb; have HB1 := Lib.hid hb; clear hb)
          | (go_at_call 37; (with_reducible refine (dk_copy _ _ c sts _ (HS.out.up HB1.out)).mono ?_); rintro e w2 ⟨q, Q, rfl, hq, hQ, hb⟩; obtain ⟨hr1, hc1, hl1, b1, B1, hdr1, vals1, ts1, rfl, hrow1, hI1, rfl⟩ := hq; have HB2 := Lib.hid (HB1.out.trans (hb.mono HB1.out.size)); have HW1 := Lib.hid HB1.out.size; clear hb))
        have hI2 : Hold (fun _ => False) w w2 (dkB b1 c hdr1 :: ownT B1 76 hdr1 vals1 :: ts1) := ⟨Kept.of_below HB2.out, fun t ht => ⟨hI1.1 t ht, fun k' hk' => .inr (Nat.le_trans HW1.out (hQ k' ⟨t, ht, hk'⟩))⟩, hI1.2⟩
        obtain ⟨g1, cap1, rfl, -⟩ := ownD_cell (hI1.1 (ownT B1 76 hdr1 vals1) (by simp)) (by have := hrow1.lv; have := HL.out; omega)
        have hN1 : vals1.length = N := by have := hrow1.lv; have := HLS.out; omega
        have HN1 := Lib.hid hN1
        have HI2 := Lib.hid hI2
        have HROW1 := Lib.hid hrow1
        rw [hN1] at HI2
        clear hr1 hc1 hl1 hrow1 hI1 hI2 hQ hN1 x0 x1 x2 x3 x4 y3
        go_loopw [8] (fun iv wr => ∃ (n : Nat) (ts : List Thing) (sts' : List LS), n ≤ N ∧ iv = .int .i64 n ∧ LRow dlT c vals1 ts sts' ∧ URow c k d sts n sts' ∧ (∀ (i : Nat) (s : LS), i < n → sts[i]? = some s → lsCode c ((0 + i : Nat) : Int) s (upK k (0 + i)) d = 0) ∧ Hold (fun _ => False) w wr (dkB b1 c (.slice (some ⟨g1, 0, none⟩) N cap1) :: ownT B1 76 (.slice (some ⟨g1, 0, none⟩) N cap1) vals1 :: ts)) (fun iv _ => N - (intOf iv).toNat)
        case atStart => exact ⟨0, ts1, sts, Nat.zero_le _, rfl, HROW1.out, URow.start _ _ _ _, fun i s hi => by omega, HI2.out⟩
        case round =>
          obtain ⟨n, ts, sts', hn, rfl, hrow, hur, hcz, hv⟩ := hrel
          have HROW := Lib.hid hrow
          have HUR := Lib.hid hur
          have HCZ := Lib.hid hcz
          have HV := Lib.hid hv
          have hbw : Below w.heap.size w wr := hv.1.below
          have HBW := Lib.hid hbw
          have z5 := cell_up HD5.out hbw
          have x5 := box_cell (hv.i (t := dkB b1 c (.slice (some ⟨g1, 0, none⟩) N cap1)) (by simp)) (i := 5) rfl
          clear hrow hur hcz hbw
          by_cases hlt : n < N
          · obtain ⟨st, hst⟩ : ∃ st, sts[n]? = some st := ⟨_, List.getElem?_eq_getElem (by rw [HLS.out]; exact hlt)⟩
            have hst' : sts'[n]? = some st := by rw [HUR.out.each n, if_neg (Nat.lt_irrefl n)]; exact hst
            obtain ⟨p1, Q1, e1, e2, e3⟩ := dk_at HROW.out hv hst'
            obtain ⟨gg, cc, ee, hcs1⟩ := ownD_cell (hv.i (t := ownT B1 76 (.slice (some ⟨g1, 0, none⟩) N cap1) vals1) (by simp)) (by have := HN1.out; omega)
            injection ee with ee1 ee2 ee3
            injection ee1 with ee1
            injection ee1 with ee1
            subst ee1
            have x6 := hcs1 n _ e1
            have HEV := Lib.hid e1
            have HE := Lib.hid e2
            have HE3 := Lib.hid e3
            have HST := Lib.hid hst
            have hlt2 : (n : Int) < (N : Int) := by omega
            have hn0 : (0 : Int) ≤ (n : Int) := by omega
            have hu := HKK.out n
            have hn64 : n < 64 := by omega
            have CU := Lib.hid (fun hb => dv_upd p1 Q1 c (n : Int) st (upK k n) d wr e2 hu.1 hb D0.out D1.out)
            have hub : upK k n ≤ 18446744073709551615 := by have := K1.out; omega
            obtain ⟨E, hE⟩ : ∃ E, lsCode c (n : Int) st (upK k n) d = E := ⟨_, rfl⟩
            have HEE := Lib.hid hE
            have CU2 : Hid (Calls Tryz.prog 38 #[.pointer (some p1), .int .u64 (k / 2 ^ n), .int .i64 d] wr fun e w' => e = .returned (.int .i64 E) ∧ ∃ F', DLV w' p1 F' c (n : Int) (lsRes c (n : Int) st (upK k n) d) ∧ Kept Q1 wr w' ∧ (∀ q, F' q → Q1 q ∨ wr.heap.size ≤ q)) := Lib.hid (by
              rw [upk_pow, ← hE]
              exact CU.out hub)
            clear hv e1 e2 e3 hst hst' hcs1 ee2 ee3 hu CU hub hE
            by_cases hz : E = 0
            · subst hz
              go_wp2_with (go_at_call 38; (with_reducible refine CU2.out.mono ?_); rintro e w5 ⟨rfl, Q5, hE5, hK5, hQ5⟩; have HV5 := Lib.hid (Hold.set (pre := [dkB b1 c (.slice (some ⟨g1, 0, none⟩) N cap1), ownT B1 76 (.slice (some ⟨g1, 0, none⟩) N cap1) vals1]) (post := []) (by simpa using HV.out) HE3.out (dlT (.pointer (some p1)) Q5 c (n : Int) (lsRes c (n : Int) st (upK k n) d)) ⟨p1, rfl, hE5⟩ hK5 hQ5); clear hE5 hK5 hQ5)
              go_roundw
              case rel =>
                refine ⟨n + 1, ts.set n (dlT (.pointer (some p1)) Q5 c (n : Int) (lsRes c (n : Int) st (upK k n) d)), _, by omega, by go_num, HROW.out.put HEV.out Q5 _, HUR.out.next HST.out, fun i s hi hs => ?_, by simpa using HV5.out⟩
                by_cases hi2 : i < n
                · exact HCZ.out i s hi2 hs
                · obtain rfl : i = n := by omega
                  rw [HST.out] at hs
                  injection hs with hs
                  subst hs
                  rw [Nat.zero_add]
                  exact HEE.out
              case measure => simp [intOf]; omega
            · go_wp2_with (go_at_call 38; (with_reducible refine CU2.out.mono ?_); rintro e w5 ⟨rfl, Q5, hE5, hK5, hQ5⟩; have HV5 := Lib.hid (Hold.set (pre := [dkB b1 c (.slice (some ⟨g1, 0, none⟩) N cap1), ownT B1 76 (.slice (some ⟨g1, 0, none⟩) N cap1) vals1]) (post := []) (by simpa using HV.out) HE3.out (dlT (.pointer (some p1)) Q5 c (n : Int) (lsRes c (n : Int) st (upK k n) d)) ⟨p1, rfl, hE5⟩ hK5 hQ5); clear hE5 hK5 hQ5)
              go_ret
              have hE9 : ers c k d 0 sts = E := by
                rw [ers_first c k d 0 sts n st HCZ.out HST.out (by rw [Nat.zero_add, HEE.out]; exact hz), Nat.zero_add]
                exact HEE.out
              have hs1 : sucode c sts k d = E := HE1.out.trans hE9
              have hs2 : sures c sts k d = sts := by unfold sures; rw [hs1]; exact if_neg hz
              rw [hs1, hs2]
              have hb5 : Below w.heap.size w w5 := HV5.out.1.below
              exact ⟨rfl, _, HS.out.up hb5, Kept.of_below hb5, fun q hq => .inl hq⟩
          · obtain rfl : n = N := by omega
            have hfz : wr.frozen? ⟨b0, 5, none⟩ = false := frozen_of_row wr b0 5 _ _ ((dkB b0 c _).keep w wr (fun _ => False) (HH.out.i (t := dkB b0 c (.slice (some ⟨g0, 0, none⟩) vals0.length cap0)) (by simp)) (Kept.of_below HBW.out) (fun _ _ h => h))
            have hz9 : ers c k d 0 sts = 0 := ers_none c k d 0 sts (fun i s hs => HCZ.out i s (by have := (List.getElem?_eq_some_iff.1 hs).1; have := HLS.out; omega) hs)
            have HZ9 := Lib.hid hz9
            have hrr := HUR.out.done HLS.out.symm
            have HRR := Lib.hid hrr
            clear hv hz9 hrr
            go_wp2
            go_ret
            have hs1 : sucode c sts k d = 0 := HE1.out.trans HZ9.out
            have hs2 : sures c sts k d = rss c k d 0 sts := by unfold sures; rw [if_pos hs1]
            rw [hs1, hs2]
            obtain ⟨F', f1, f2, f3⟩ := HEND.out wr b1 B1 (.slice (some ⟨g1, 0, none⟩) n cap1) vals1 ts HZ9.out (by have h9 := HROW.out; rw [HRR.out] at h9; exact h9) HV.out
            exact ⟨rfl, F', f1, f2, f3⟩
end Go.Proofs.YtbifihhfoanmgaaGreat.Stk
/- The code's Update of a stack: all levels are asked, then all are updated. Printed by wip/gen/stk11.py. -/
namespace Go.Proofs.YtbifihhfoanmgaaGreat.Stk
open Go Go.RowKit Lw Grd Lin Con Shp Sk Exa Lev Go.Shelf
set_option linter.unusedVariables false
set_option linter.unusedSimpArgs false
theorem above_up {c : Cfg} {k : Int} (hr : IsRight c) (k0 : 0 ≤ k) (hk : k < keys c 0) {i : Nat} (hi : (i : Int) ≤ c.bt) : aboveV c i k = upK k i ∧ 0 ≤ upK k i ∧ upK k i ≤ k := by
  have h1 : keys c i ≠ 0 := by have := keys_pos.2 ⟨hr, by omega, hi⟩; omega
  have h2 : aboveOk c i k = true := decide_eq_true ⟨h1, hk⟩
  have hp : (0 : Int) < ((2 ^ i : Nat) : Int) := by have := Nat.one_le_two_pow (n := i); omega
  refine ⟨?_, Int.ediv_nonneg k0 (Int.le_of_lt hp), Int.ediv_le_self _ k0⟩
  unfold aboveV upK
  rw [if_pos h2]
  simp
theorem own_cell {w : World} {B : Nat} {e : TypeId} {hdr : Value} {vals : List Value} (h : (ownT B e hdr vals).I w) (hl : 0 < vals.length) : ∃ g cap, hdr = .slice (some ⟨g, 0, none⟩) vals.length cap ∧ vals.length ≤ cap ∧ cap ≤ maxLen ∧ ∀ (j : Nat) (v : Value), vals[j]? = some v → w.cell? ⟨g, j, none⟩ = some v := by
  have h1 : w.ownsRow B e 1 hdr vals.length vals := h
  rcases h1.2 with h0 | ⟨g, cap, cur, rfl, h2, h3, h4, h5, h6⟩
  · have := h0.2
    rw [this] at hl
    simp at hl
  · refine ⟨g, cap, rfl, h4, by assumption, fun j v hj => ?_⟩
    have h7 := h1.cells (g := g) rfl j v hj
    cases j with
    | zero => simpa [Addr.add] using h7
    | succ j => simpa [Addr.add] using h7
/-- A level's Check and Update through the closures. -/
theorem uchk_any (v : Value) (Q : Nat → Prop) (c : Cfg) (l : Int) (st : LS) (k d : Int) (bd : Nat) (w : World) (h : ELV w v Q c l st) (hd : w.cell? ⟨bd, 0, none⟩ = some (.int .i64 d)) (k0 : 0 ≤ k) (k1 : k ≤ 18446744073709551615) (d0 : -9223372036854775808 ≤ d) (d1 : d ≤ 9223372036854775807) :
    Calls Tryz.prog 35 #[v, .int .u64 k, .pointer (some ⟨bd, 0, none⟩)] w fun e w' => e = .returned (.int .i64 (lsCode c l st k d)) ∧ Below w.heap.size w w' := by
  have HE := Lib.hid h
  have K0 := Lib.hid k0
  have K1 := Lib.hid k1
  have D0 := Lib.hid d0
  have D1 := Lib.hid d1
  clear k0 k1 d0 d1 h
  cases st with
  | A L =>
    obtain ⟨p, rfl, h2⟩ := HE.out.2
    have HX := Lib.hid h2
    clear h2
    go_enter Tryz.func35, Tryz.ntmps35
    go_wp2_with (go_at_call 122; (with_reducible refine (echeck_any p Q c l L k d _ HX.out K0.out K1.out D0.out D1.out).mono ?_); rintro e w' ⟨rfl, hb⟩)
    go_ret
    exact ⟨rfl, hb⟩
  | S L =>
    obtain ⟨p, rfl, h2⟩ := HE.out.2
    have HX := Lib.hid h2
    clear h2
    go_enter Tryz.func35, Tryz.ntmps35
    go_wp2_with (go_at_call 135; (with_reducible refine (scheck_any p Q c l L k d _ HX.out K0.out K1.out D0.out D1.out).mono ?_); rintro e w' ⟨rfl, hb⟩)
    go_ret
    exact ⟨rfl, hb⟩
theorem uupd_any (v : Value) (Q : Nat → Prop) (c : Cfg) (l : Int) (st : LS) (k d : Int) (bd : Nat) (w : World) (h : ELV w v Q c l st) (hd : w.cell? ⟨bd, 0, none⟩ = some (.int .i64 d)) (k0 : 0 ≤ k) (k1 : k ≤ 18446744073709551615) (d0 : -9223372036854775808 ≤ d) (d1 : d ≤ 9223372036854775807) :
    Calls Tryz.prog 36 #[v, .int .u64 k, .pointer (some ⟨bd, 0, none⟩)] w fun e w' => e = .returned (.int .i64 (lsCode c l st k d)) ∧ ∃ Q', ELV w' v Q' c l (lsRes c l st k d) ∧ Kept Q w w' ∧ (∀ q, Q' q → Q q ∨ w.heap.size ≤ q) := by
  have HE := Lib.hid h
  have K0 := Lib.hid k0
  have K1 := Lib.hid k1
  have D0 := Lib.hid d0
  have D1 := Lib.hid d1
  clear k0 k1 d0 d1 h
  cases st with
  | A L =>
    obtain ⟨p, rfl, h2⟩ := HE.out.2
    have HX := Lib.hid h2
    clear h2
    go_enter Tryz.func36, Tryz.ntmps36
    go_wp2_with (go_at_call 127; (with_reducible refine (eupd_any p Q c l L k d _ HX.out K0.out K1.out D0.out D1.out).mono ?_); rintro e w' ⟨rfl, Q', h3, h4, h5⟩)
    go_ret
    exact ⟨rfl, Q', ⟨HE.out.1, p, rfl, h3⟩, h4, h5⟩
  | S L =>
    obtain ⟨p, rfl, h2⟩ := HE.out.2
    have HX := Lib.hid h2
    clear h2
    go_enter Tryz.func36, Tryz.ntmps36
    go_wp2_with (go_at_call 140; (with_reducible refine (supd_any p Q c l L k d _ HX.out K0.out K1.out D0.out D1.out).mono ?_); rintro e w' ⟨rfl, Q', h3, h4, h5⟩)
    go_ret
    exact ⟨rfl, Q', ⟨HE.out.1, p, rfl, h3⟩, h4, h5⟩
/-- What the iterator leans on, and the box of what is added. -/
def gsT (bs bk bd b B0 : Nat) (c : Cfg) (k d : Int) (hdr : Value) (vals : List Value) : List Thing := [boxT bk 22 #[.int .u64 k], boxT bs 30 #[.pointer (some ⟨b, 0, none⟩)], boxT bd 2 #[.int .i64 d], boxT b 68 #[.int .i64 c.bt, .int .i64 c.rw, .int .i64 c.wd, .int .i64 c.md, .int .u64 c.sd, hdr], ownT B0 70 hdr vals]
theorem above_seq (m : Nat) (hm : 1 ≤ m) (c : Cfg) (hc : c.Ok) (k d : Int) (k0 : 0 ≤ k) (k1 : k ≤ 18446744073709551615) (bs bk bd b B0 : Nat) (hdr : Value) (vals : List Value) (h1 : 0 < vals.length) (hN : vals.length ≤ 60) (F0 : Nat → Prop) (w0 w : World) (ls : List Thing) (hh : HoldC F0 w0 w (gsT bs bk bd b B0 c k d hdr vals ++ ls)) (w1 : World) (hb : Below w.heap.size w w1) :
    SeqStopsK Fence.wide m Tryz.prog 60 #[.pointer (some ⟨bs, 0, none⟩), .pointer (some ⟨bk, 0, none⟩)] (encL vals c k) (KeptG (manyT (gsT bs bk bd b B0 c k d hdr vals)).F) (fun xs => UpTo xs ∧ xs.length = vals.length) UpTo vals.length w1 := fun l J Jx W hW hJ hJx hY h0 => by
  have hh2 := hh.up (hb.trans (hW.mono hb.size))
  have b1 := hh2.i (t := boxT bs 30 #[.pointer (some ⟨b, 0, none⟩)]) (by simp [gsT])
  have b2 := hh2.i (t := boxT bk 22 #[.int .u64 k]) (by simp [gsT])
  have b3 := hh2.i (t := boxT b 68 #[.int .i64 c.bt, .int .i64 c.rw, .int .i64 c.wd, .int .i64 c.md, .int .u64 c.sd, hdr]) (by simp [gsT])
  have b4 := hh2.i (t := ownT B0 70 hdr vals) (by simp [gsT])
  have hG : ∀ k', (manyT (gsT bs bk bd b B0 c k d hdr vals)).F k' → k' < W.heap.size := fun k' hk => by
    obtain ⟨t, ht, hk2⟩ := hk
    exact t.lt W (hh2.i (List.mem_append_left _ ht)) k' hk2
  obtain ⟨g, cap, rfl, hcap, hmx, hcs⟩ := own_cell b4 h1
  exact above_iter m hm c hc k k0 k1 l bs bk b g cap _ vals hN ⟨boxT bs 30 #[.pointer (some ⟨b, 0, none⟩)], by simp [gsT], rfl⟩ ⟨boxT bk 22 #[.int .u64 k], by simp [gsT], rfl⟩ ⟨boxT b 68 #[.int .i64 c.bt, .int .i64 c.rw, .int .i64 c.wd, .int .i64 c.md, .int .u64 c.sd, .slice (some ⟨g, 0, none⟩) vals.length cap], by simp [gsT], rfl⟩ ⟨ownT B0 70 (.slice (some ⟨g, 0, none⟩) vals.length cap) vals, by simp [gsT], rfl⟩ J Jx W hG hJ hY (box_cell b1 rfl) (box_cell b2 rfl) b3 hcs h0
/-- What the first error of all is in a mode that does not take away. -/
theorem ers_mode {c : Cfg} {k d : Int} {sts : List LS} {w : World} {v : Value} {Q : Nat → Prop} {st : LS} (hr : IsRight c) (k0 : 0 ≤ k) (hk : k < keys c 0) (hm : c.md = 2 ∧ d < 0) (h0 : sts[0]? = some st) (h : ELV w v Q c ((0 : Nat) : Int) st) : ers c k d 0 sts = 3 := by
  have hu : upK k 0 = k := by simp [upK]
  have e1 : lsCode c ((0 : Nat) : Int) st (upK k 0) d = 3 := by
    rw [hu]
    cases st with
    | A L =>
      obtain ⟨p, rfl, h2⟩ := h.2
      have h3 := h2.size.1
      exact (ex_mode (by rw [h3]; exact hk) hm).1
    | S L =>
      show upCode c ((0 : Nat) : Int) L k d = 3
      unfold upCode
      rw [if_neg (by simp; exact hk), if_pos hm.1]
      exact (rs_neg (cols_meet k0 (by simpa using hk)) hm.2).1
  have h2 := ers_first c k d 0 sts 0 st (fun i s hi => by omega) h0 (by rw [Nat.add_zero, e1]; decide)
  rw [h2, Nat.add_zero, e1]
/-- All levels are asked. -/
theorem chk_first (c : Cfg) (hr : IsRight c) (hc : c.Ok) (k d : Int) (k0 : 0 ≤ k) (k1 : k ≤ 18446744073709551615) (hk : k < keys c 0) (d0 : -9223372036854775808 ≤ d) (d1 : d ≤ 9223372036854775807) (sts : List LS) (hl : sts.length = c.bt.toNat + 1) (bd b B0 : Nat) (hdr : Value) (vals : List Value) (ts : List Thing) (hrow : LRow elvT c vals ts sts) (F0 : Nat → Prop) (w0 w : World)
    (hh : HoldC F0 w0 w ([boxT bd 2 #[.int .i64 d], boxT b 68 #[.int .i64 c.bt, .int .i64 c.rw, .int .i64 c.wd, .int .i64 c.md, .int .u64 c.sd, hdr], ownT B0 70 hdr vals] ++ ts)) :
    Calls Tryz.prog 33 #[.func (.func 60) #[] #[.pointer (some ⟨w.heap.size, 0, none⟩), .pointer (some ⟨w.heap.size + 1, 0, none⟩)], .func (.func 35) #[] #[.pointer (some ⟨bd, 0, none⟩)]] ((w.alloc (.cells #[.pointer (some ⟨b, 0, none⟩)] 30)).alloc (.cells #[.int .u64 k] 22)) fun e w' =>
      e = .returned (.int .i64 (ers c k d 0 sts)) ∧ HoldC F0 w0 w' ([boxT bd 2 #[.int .i64 d], boxT b 68 #[.int .i64 c.bt, .int .i64 c.rw, .int .i64 c.wd, .int .i64 c.md, .int .u64 c.sd, hdr], ownT B0 70 hdr vals] ++ ts) := by
  have hvl : vals.length = sts.length := hrow.lv
  have hb59 := hr.1
  have hb60 := hr.2.1
  have B1 : Below w.heap.size w (w.alloc (.cells #[.pointer (some ⟨b, 0, none⟩)] 30)) := Lw.below_alloc (Below.refl _ _) _
  have B2 := Lw.below_alloc (Below.refl _ (w.alloc (.cells #[.pointer (some ⟨b, 0, none⟩)] 30))) (.cells #[.int .u64 k] 22)
  have N2 : ((w.alloc (.cells #[.pointer (some ⟨b, 0, none⟩)] 30)).alloc (.cells #[.int .u64 k] 22)).heap[w.heap.size + 1]? = some (.cells #[.int .u64 k] 22 (0, 0)) := by
    have := heap_alloc_new (w.alloc (.cells #[.pointer (some ⟨b, 0, none⟩)] 30)) (.cells #[.int .u64 k] 22)
    rw [World.size_alloc] at this
    exact this
  have h1 := hh.push (boxT w.heap.size 30 #[.pointer (some ⟨b, 0, none⟩)]) B1 (heap_alloc_new w _) (fun k hk => Nat.le_of_eq hk.symm) (cel_box (heap_alloc_new w _))
  have h2 := h1.push (boxT (w.heap.size + 1) 22 #[.int .u64 k]) B2 N2 (fun k hk => Nat.le_of_eq (by simp; exact hk.symm)) (cel_box N2)
  refine (first_1 c k vals _ bd F0 w0 _ (gsT w.heap.size (w.heap.size + 1) bd b B0 c k d hdr vals) ts
    (fun pre ls => ls = ts ∧ (UpTo pre → ∀ (i : Nat) (s : LS), i < pre.length → sts[i]? = some s → lsCode c ((0 + i : Nat) : Int) s (upK k (0 + i)) d = 0))
    (fun pre code ls => ls = ts ∧ (UpTo pre → ∃ (j : Nat) (s : LS), sts[j]? = some s ∧ lsCode c ((0 + j : Nat) : Int) s (upK k (0 + j)) d = code ∧ ∀ (i : Nat) (s : LS), i < j → sts[i]? = some s → lsCode c ((0 + i : Nat) : Int) s (upK k (0 + i)) d = 0))
    h2 ⟨rfl, fun _ i s hi => by simp at hi⟩
    (fun w1 m hm hb => above_seq m hm c hc k d k0 k1 w.heap.size (w.heap.size + 1) bd b B0 hdr vals (by omega) (by omega) F0 w0 _ ts h2 w1 hb)
    ?_).mono ?_
  · rintro us pre ls x W hW ⟨rfl, hp⟩ hlen
    have hx := x.2
    obtain ⟨st, v, Q, e1, e2, e3⟩ := hrow.at (j := x.1) (by omega)
    have e4 : vals[x.1]'x.2 = v := by
      have h9 := List.getElem?_eq_getElem x.2
      rw [e2] at h9
      exact (Option.some.inj h9).symm
    have hE : ELV W v Q c (x.1 : Int) st := hW.i (t := elvT v Q c (x.1 : Int) st) (List.mem_append_right _ (List.mem_append_right _ (List.mem_of_getElem? e3)))
    have hd := box_cell (hW.i (t := boxT bd 2 #[.int .i64 d]) (List.mem_append_right _ (List.mem_append_left _ (by simp [gsT])))) (i := 0) rfl
    obtain ⟨u1, u2, u3⟩ := above_up hr k0 hk (i := x.1) (by omega)
    rw [e4, u1]
    refine (uchk_any v Q c (x.1 : Int) st (upK k x.1) d bd W hE hd u2 (by omega) d0 d1).mono ?_
    rintro e W' ⟨rfl, hb⟩
    have hG : ∀ k', (manyT (gsT w.heap.size (w.heap.size + 1) bd b B0 c k d hdr vals)).F k' → k' < W.heap.size := fun k' hk => by
      obtain ⟨t, ht, hk2⟩ := hk
      exact t.lt W (hW.i (List.mem_append_right _ (List.mem_append_left _ ht))) k' hk2
    refine ⟨_, ls, rfl, others_of (F := fun _ => False) (Kept.of_below hb) (fun _ h => h.elim), KeptG.of_below hG hb, hW.up hb, fun hz => ⟨rfl, fun hup => ?_⟩, fun hz => ⟨rfl, fun hup => ?_⟩⟩
    · obtain ⟨g1, g2⟩ := UpTo.snoc.1 hup
      intro i s hi hs
      rw [List.length_append, List.length_singleton] at hi
      by_cases hlt : i < pre.length
      · exact hp g1 i s hlt hs
      · obtain rfl : i = x.1 := by omega
        rw [e1] at hs
        injection hs with hs
        subst hs
        rw [Nat.zero_add]
        exact hz
    · obtain ⟨g1, g2⟩ := UpTo.snoc.1 hup
      refine ⟨x.1, st, e1, by rw [Nat.zero_add], fun i s hi hs => hp g1 i s (by omega) hs⟩
  · rintro e W' ⟨ls, hW, (⟨rfl, xs, ⟨x1, x2⟩, rfl, hp⟩ | ⟨pre, code, hup, hne, rfl, rfl, hp⟩)⟩
    · refine ⟨?_, hW.drop.drop⟩
      rw [ers_none c k d 0 sts (fun i s hs => hp x1 i s (by have := (List.getElem?_eq_some_iff.1 hs).1; omega) hs)]
    · obtain ⟨j, s, s1, s2, s3⟩ := hp hup
      refine ⟨?_, hW.drop.drop⟩
      rw [ers_first c k d 0 sts j s s3 s1 (by rw [s2]; exact hne), s2]
/-- All levels are updated. -/
theorem upd_first (c : Cfg) (hr : IsRight c) (hc : c.Ok) (k d : Int) (k0 : 0 ≤ k) (k1 : k ≤ 18446744073709551615) (hk : k < keys c 0) (d0 : -9223372036854775808 ≤ d) (d1 : d ≤ 9223372036854775807) (sts : List LS) (hl : sts.length = c.bt.toNat + 1) (he : ers c k d 0 sts = 0) (bd b B0 : Nat) (hdr : Value) (vals : List Value) (ts : List Thing) (hrow : LRow elvT c vals ts sts) (F0 : Nat → Prop) (w0 w : World)
    (hh : HoldC F0 w0 w ([boxT bd 2 #[.int .i64 d], boxT b 68 #[.int .i64 c.bt, .int .i64 c.rw, .int .i64 c.wd, .int .i64 c.md, .int .u64 c.sd, hdr], ownT B0 70 hdr vals] ++ ts)) :
    Calls Tryz.prog 33 #[.func (.func 60) #[] #[.pointer (some ⟨w.heap.size, 0, none⟩), .pointer (some ⟨w.heap.size + 1, 0, none⟩)], .func (.func 36) #[] #[.pointer (some ⟨bd, 0, none⟩)]] ((w.alloc (.cells #[.pointer (some ⟨b, 0, none⟩)] 30)).alloc (.cells #[.int .u64 k] 22)) fun e w' =>
      e = .returned (.int .i64 0) ∧ ∃ ts', LRow elvT c vals ts' (rss c k d 0 sts) ∧ HoldC F0 w0 w' ([boxT bd 2 #[.int .i64 d], boxT b 68 #[.int .i64 c.bt, .int .i64 c.rw, .int .i64 c.wd, .int .i64 c.md, .int .u64 c.sd, hdr], ownT B0 70 hdr vals] ++ ts') := by
  have hvl : vals.length = sts.length := hrow.lv
  have hb59 := hr.1
  have hb60 := hr.2.1
  have B1 : Below w.heap.size w (w.alloc (.cells #[.pointer (some ⟨b, 0, none⟩)] 30)) := Lw.below_alloc (Below.refl _ _) _
  have B2 := Lw.below_alloc (Below.refl _ (w.alloc (.cells #[.pointer (some ⟨b, 0, none⟩)] 30))) (.cells #[.int .u64 k] 22)
  have N2 : ((w.alloc (.cells #[.pointer (some ⟨b, 0, none⟩)] 30)).alloc (.cells #[.int .u64 k] 22)).heap[w.heap.size + 1]? = some (.cells #[.int .u64 k] 22 (0, 0)) := by
    have := heap_alloc_new (w.alloc (.cells #[.pointer (some ⟨b, 0, none⟩)] 30)) (.cells #[.int .u64 k] 22)
    rw [World.size_alloc] at this
    exact this
  have h1 := hh.push (boxT w.heap.size 30 #[.pointer (some ⟨b, 0, none⟩)]) B1 (heap_alloc_new w _) (fun k hk => Nat.le_of_eq hk.symm) (cel_box (heap_alloc_new w _))
  have h2 := h1.push (boxT (w.heap.size + 1) 22 #[.int .u64 k]) B2 N2 (fun k hk => Nat.le_of_eq (by simp; exact hk.symm)) (cel_box N2)
  refine (first_2 c k vals _ bd F0 w0 _ (gsT w.heap.size (w.heap.size + 1) bd b B0 c k d hdr vals) ts
    (fun pre ls => ∃ sts', LRow elvT c vals ls sts' ∧ sts'.length = sts.length ∧ (UpTo pre → ∀ (i : Nat), sts'[i]? = if i < pre.length then (rss c k d 0 sts)[i]? else sts[i]?))
    (fun pre code ls => UpTo pre → False)
    h2 ⟨sts, hrow, rfl, fun _ i => by simp⟩
    (fun w1 m hm hb => above_seq m hm c hc k d k0 k1 w.heap.size (w.heap.size + 1) bd b B0 hdr vals (by omega) (by omega) F0 w0 _ ts h2 w1 hb)
    ?_).mono ?_
  · rintro us pre ls x W hW ⟨sts', hrow', hl', hp⟩ hlen
    have hx := x.2
    obtain ⟨st, v, Q, e1, e2, e3⟩ := hrow'.at (j := x.1) (by omega)
    have e4 : vals[x.1]'x.2 = v := by
      have h9 := List.getElem?_eq_getElem x.2
      rw [e2] at h9
      exact (Option.some.inj h9).symm
    have hm3 : elvT v Q c (x.1 : Int) st ∈ ls := List.mem_of_getElem? e3
    have hE : ELV W v Q c (x.1 : Int) st := hW.i (t := elvT v Q c (x.1 : Int) st) (List.mem_append_right _ (List.mem_append_right _ hm3))
    have hd := box_cell (hW.i (t := boxT bd 2 #[.int .i64 d]) (List.mem_append_right _ (List.mem_append_left _ (by simp [gsT])))) (i := 0) rfl
    obtain ⟨u1, u2, u3⟩ := above_up hr k0 hk (i := x.1) (by omega)
    rw [e4, u1]
    refine (uupd_any v Q c (x.1 : Int) st (upK k x.1) d bd W hE hd u2 (by omega) d0 d1).mono ?_
    rintro e W' ⟨rfl, Q', hE', hk', hq'⟩
    have hG : ∀ k', (manyT (gsT w.heap.size (w.heap.size + 1) bd b B0 c k d hdr vals)).F k' → k' < W.heap.size := fun k' hk => by
      obtain ⟨t, ht, hk2⟩ := hk
      exact t.lt W (hW.i (List.mem_append_right _ (List.mem_append_left _ ht))) k' hk2
    have hW2 : HoldC F0 w0 W ((us ++ gsT w.heap.size (w.heap.size + 1) bd b B0 c k d hdr vals) ++ (ls ++ [])) := by simpa using hW
    have hW3 := hW2.set e3 (elvT v Q' c (x.1 : Int) (lsRes c (x.1 : Int) st (upK k x.1) d)) hE' hk' hq' (cel_elv hE')
    have hW4 : HoldC F0 w0 W' (us ++ (gsT w.heap.size (w.heap.size + 1) bd b B0 c k d hdr vals ++ ls.set x.1 (elvT v Q' c (x.1 : Int) (lsRes c (x.1 : Int) st (upK k x.1) d)))) := by simpa using hW3
    have hst : UpTo (pre ++ [x]) → sts[x.1]? = some st ∧ x.1 = pre.length ∧ UpTo pre := fun hup => by
      obtain ⟨g1, g2⟩ := UpTo.snoc.1 hup
      have g3 := hp g1 x.1
      rw [if_neg (by omega), e1] at g3
      exact ⟨g3.symm, g2, g1⟩
    refine ⟨_, _, rfl, others_of hk' (cel_elv hE), KeptG.of_kept hG hk' (fun k' ⟨t, ht, h5⟩ => hW.apart hm3 ht h5), hW4, fun hz => ⟨sts'.set x.1 (lsRes c (x.1 : Int) st (upK k x.1) d), hrow'.put e2 Q' _, by simp [hl'], fun hup i => ?_⟩, fun hz hup => ?_⟩
    · obtain ⟨s1, s2, s3⟩ := hst hup
      rw [List.length_append, List.length_singleton, List.getElem?_set]
      by_cases hi : x.1 = i
      · subst hi
        have hlt : x.1 < sts'.length := by omega
        rw [if_pos rfl, if_pos hlt, if_pos (by omega), rss_get c k d 0 sts x.1 st s1, Nat.zero_add]
      · rw [if_neg hi, hp s3 i]
        by_cases hi2 : i < pre.length
        · rw [if_pos hi2, if_pos (by omega)]
        · rw [if_neg hi2, if_neg (by omega)]
    · obtain ⟨s1, s2, s3⟩ := hst hup
      have h9 := ers_ok c k d 0 sts he x.1 st s1
      rw [Nat.zero_add] at h9
      exact hz h9
  · rintro e W' ⟨ls, hW, (⟨rfl, xs, ⟨x1, x2⟩, sts', hrow', hl', hp⟩ | ⟨pre, code, hup, hne, rfl, hp⟩)⟩
    · refine ⟨rfl, ls, ?_, hW.drop.drop⟩
      have e9 : sts' = rss c k d 0 sts := List.ext_getElem? (fun i => by
        rw [hp x1 i]
        by_cases hi : i < xs.length
        · rw [if_pos hi]
        · rw [if_neg hi, List.getElem?_eq_none (by omega), List.getElem?_eq_none (by rw [rss_len]; omega)])
      rw [← e9]
      exact hrow'
    · exact (hp hup).elim
end Go.Proofs.YtbifihhfoanmgaaGreat.Stk
/- Things held while a stack is made: one more level, a box stored to, things left behind. Printed by wip/gen/stk12.py. -/
namespace Go.Proofs.YtbifihhfoanmgaaGreat.Stk
open Go Go.RowKit Lw Grd Lin Con Shp Sk Exa Lev Go.Shelf
set_option linter.unusedVariables false
set_option linter.unusedSimpArgs false
theorem lvs_u : Tryz.prog.underlying 66 = some (.slice 70) := by kernel_rfl
theorem lvs_info : (Tryz.prog.info? 70).map (fun i => (i.zero, i.size, i.bytes)) = some (some .nilIface, 1, 16) := by kernel_rfl
theorem Asun.sub {ts us : List Thing} (h : ts.Sublist us) : Asun us → Asun ts := by
  induction h with
  | slnil => exact id
  | cons a h ih => exact fun g => ih g.2
  | cons_cons a h ih => exact fun g => ⟨fun u hu => g.1 u (h.subset hu), ih g.2⟩
theorem HoldC.sub {F0 : Nat → Prop} {w0 w : World} {ts us : List Thing} (h : HoldC F0 w0 w us) (hs : ts.Sublist us) : HoldC F0 w0 w ts :=
  ⟨⟨h.1.1, fun t ht => h.1.2.1 t (hs.subset ht), Asun.sub hs h.1.2.2⟩, fun t ht => h.2 t (hs.subset ht)⟩
theorem HoldC.start0 {w w' : World} (h : Below w.heap.size w w') : HoldC (fun _ => False) w w' [] := ⟨⟨Kept.of_below h, fun t ht => by simp at ht, trivial⟩, fun t ht => by simp at ht⟩
/-- A new thing behind the others. -/
theorem HoldC.snoc {F0 : Nat → Prop} {w0 w w' : World} {ts : List Thing} (h : HoldC F0 w0 w ts) (t : Thing) (hb : Below w.heap.size w w') (ht : t.I w') (hn : ∀ k, t.F k → w.heap.size ≤ k) (hc : Cel t.F w') : HoldC F0 w0 w' (ts ++ [t]) := by
  have h2 := h.push t hb ht hn hc
  refine ⟨⟨h2.1.1, fun u hu => h2.1.2.1 u (by simpa [or_comm] using hu), Asun.append.2 ⟨h2.1.2.2.2, ⟨fun u hu => by simp at hu, trivial⟩, fun u hu v hv k h3 h4 => ?_⟩⟩, fun u hu => h2.2 u (by simpa [or_comm] using hu)⟩
  rw [List.mem_singleton.1 hv] at h4
  exact h2.1.2.2.1 u hu k h4 h3
/-- One value appended to a row of one's own. -/
theorem HoldC.app {F0 : Nat → Prop} {w0 w w' : World} {fs ts : List Thing} {B : Nat} {e : TypeId} {hdr : Value} {vals : List Value} {v : Value} {g cap : Nat} (h : HoldC F0 w0 w (fs ++ ownT B e hdr vals :: ts)) (own : w'.ownsRow B e 1 (.slice (some ⟨g, 0, none⟩) (vals.length + 1) cap) (vals.length + 1) (vals ++ [v])) (grow : w.grownBy w' hdr.ownBlock) (hat : hdr.ownBlock = some g ∨ g = w.heap.size) :
    HoldC F0 w0 w' (fs ++ ownT B e (.slice (some ⟨g, 0, none⟩) (vals.length + 1) cap) (vals ++ [v]) :: ts) := by
  have hI : (ownT B e (.slice (some ⟨g, 0, none⟩) (vals.length + 1) cap) (vals ++ [v])).I w' := by
    show w'.ownsRow B e 1 _ (vals ++ [v]).length (vals ++ [v])
    rw [List.length_append, List.length_singleton]
    exact own
  refine h.turn _ hI ((Kept.refl _ w).grown grow (fun q e => .inl e)) (fun k hk => ?_) (cel_own hI)
  have hk2 : some g = some k := hk
  injection hk2 with hk2
  rcases hat with h1 | h1
  · exact .inl (show hdr.ownBlock = some k by rw [h1, hk2])
  · exact .inr (by omega)
theorem elv_one {w : World} {v : Value} {F : Nat → Prop} {c : Cfg} {l : Int} {st : LS} (h : ELV w v F c l st) : v.oneCell' = true := by
  cases st with
  | A L =>
    obtain ⟨p, rfl, h2⟩ := h.2
    rfl
  | S L =>
    obtain ⟨p, rfl, h2⟩ := h.2
    rfl
theorem elv_form {w : World} {v : Value} {F : Nat → Prop} {c : Cfg} {l : Int} {st : LS} (h : ELV w v F c l st) : ∃ t p, v = .iface t (.pointer (some p)) := by
  cases st with
  | A L =>
    obtain ⟨p, rfl, h2⟩ := h.2
    exact ⟨_, _, rfl⟩
  | S L =>
    obtain ⟨p, rfl, h2⟩ := h.2
    exact ⟨_, _, rfl⟩
theorem own_nil (B : Nat) (e : TypeId) (w : World) : (ownT B e (.slice none 0 0) []).I w := World.ownsRow_nil _ _ _ _
theorem own_nilF (B : Nat) (e : TypeId) {k m : Nat} (h : (ownT B e (.slice none 0 0) []).F k) : m ≤ k := by
  have h2 : (none : Option Nat) = some k := h
  cases h2
/-- A stack of the code, as a box. -/
abbrev skB (b : Nat) (c : Cfg) (hdr : Value) : Thing := boxT b 68 #[.int .i64 c.bt, .int .i64 c.rw, .int .i64 c.wd, .int .i64 c.md, .int .u64 c.sd, hdr]
theorem skb_set {w : World} {b : Nat} {c : Cfg} {hdr hdr' : Value} (h : (skB b c hdr).I w) : (skB b c hdr').I (w.setCell ⟨b, 5, none⟩ hdr') := by
  have h2 : w.heap[b]? = some (.cells #[.int .i64 c.bt, .int .i64 c.rw, .int .i64 c.wd, .int .i64 c.md, .int .u64 c.sd, hdr] 68 (0, 0)) := h
  obtain ⟨hlt, hk⟩ := Array.getElem?_eq_some_iff.1 h2
  show (w.heap.modify b _)[b]? = _
  rw [Array.getElem?_eq_getElem (by rw [Array.size_modify]; exact hlt), Array.getElem_modify_self, hk]
  rfl
theorem HoldC.store {F0 : Nat → Prop} {w0 w : World} {fs ts : List Thing} {b : Nat} {c : Cfg} {hdr : Value} (h : HoldC F0 w0 w (fs ++ skB b c hdr :: ts)) (hdr' : Value) : HoldC F0 w0 (w.setCell ⟨b, 5, none⟩ hdr') (fs ++ skB b c hdr' :: ts) := by
  have hb := skb_set (hdr' := hdr') (h.i (t := skB b c hdr) (by simp))
  exact h.turn (skB b c hdr') hb (Kept.set (F := (skB b c hdr).F) (Kept.refl _ _) (.inl rfl) 5 hdr') (fun k hk => .inl hk) (cel_box hb)
/-- The stack, as things that hold cells. -/
theorem st_hold {w : World} {b B0 : Nat} {c : Cfg} {hdr : Value} {vals : List Value} {ts : List Thing} {sts : List LS} (hrow : LRow elvT c vals ts sts) (h : (manyT (skB b c hdr :: ownT B0 70 hdr vals :: ts)).I w) : HoldC (manyT (skB b c hdr :: ownT B0 70 hdr vals :: ts)).F w w (skB b c hdr :: ownT B0 70 hdr vals :: ts) := by
  refine ⟨Hold.start h, fun t ht => ?_⟩
  rcases List.mem_cons.1 ht with rfl | ht2
  · exact cel_box (h.1 _ (by simp))
  · rcases List.mem_cons.1 ht2 with rfl | ht3
    · exact cel_own (h.1 _ (by simp))
    · obtain ⟨j, hj⟩ := List.getElem?_of_mem ht3
      have hlt := (List.getElem?_eq_some_iff.1 hj).1
      obtain ⟨st, v, Q, e1, e2, e3⟩ := hrow.at (j := j) (by rw [← hrow.lt]; exact hlt)
      rw [hj] at e3
      injection e3 with e3
      subst e3
      exact cel_elv (show ELV w v Q c (j : Int) st from h.1 _ ht)
/-- A stack that is held. -/
theorem st_of {F0 : Nat → Prop} {w0 w : World} {b B0 : Nat} {c : Cfg} {hdr : Value} {vals : List Value} {ts : List Thing} {sts : List LS} (hr : IsRight c) (hc : c.Ok) (hl : sts.length = c.bt.toNat + 1) (hrow : LRow elvT c vals ts sts) (h : HoldC F0 w0 w (skB b c hdr :: ownT B0 70 hdr vals :: ts)) :
    ST w ⟨b, 0, none⟩ (manyT (skB b c hdr :: ownT B0 70 hdr vals :: ts)).F c sts ∧ Kept F0 w0 w ∧ ∀ q, (manyT (skB b c hdr :: ownT B0 70 hdr vals :: ts)).F q → F0 q ∨ w0.heap.size ≤ q := by
  have h2 := h.1.many
  exact ⟨⟨hr, hc, hl, b, B0, hdr, vals, ts, rfl, hrow, h2.1, rfl⟩, h2.2.1, h2.2.2⟩
end Go.Proofs.YtbifihhfoanmgaaGreat.Stk
/- What the code's stack tells of itself. Printed by wip/gen/stk13.py. -/
namespace Go.Proofs.YtbifihhfoanmgaaGreat.Stk
open Go Go.RowKit Lw Grd Lin Con Shp Sk Exa Lev Go.Shelf
set_option linter.unusedVariables false
set_option linter.unusedSimpArgs false
theorem cs_config (p : Addr) (F : Nat → Prop) (c : Cfg) (sts : List LS) (w : World) (h : ST w p F c sts) :
    Calls Tryz.prog 40 #[.pointer (some p)] w fun e w' => e = .returned (.agg #[.int .i64 c.bt, .int .i64 c.rw, .int .i64 c.wd, .int .i64 c.md, .int .u64 c.sd]) ∧ Below w.heap.size w w' := by
  obtain ⟨hr, hc, hl, b, B0, hdr, vals, ts, rfl, hrow, hI, rfl⟩ := h
  have HH := Lib.hid (st_hold hrow hI)
  have hb1 := hr.1
  have hb2 := hr.2.1
  have hvl : vals.length = c.bt.toNat + 1 := hrow.lv.trans hl
  obtain ⟨g, cap, rfl, hcap, hmx, hcs⟩ := own_cell (HH.out.i (t := ownT B0 70 hdr vals) (by simp)) (by omega)
  have HCS := Lib.hid hcs
  have c0 := box_cell (HH.out.i (t := skB b c (.slice (some ⟨g, 0, none⟩) vals.length cap)) (by simp)) (i := 0) rfl
  have c1 := box_cell (HH.out.i (t := skB b c (.slice (some ⟨g, 0, none⟩) vals.length cap)) (by simp)) (i := 1) rfl
  have c2 := box_cell (HH.out.i (t := skB b c (.slice (some ⟨g, 0, none⟩) vals.length cap)) (by simp)) (i := 2) rfl
  have c3 := box_cell (HH.out.i (t := skB b c (.slice (some ⟨g, 0, none⟩) vals.length cap)) (by simp)) (i := 3) rfl
  have c4 := box_cell (HH.out.i (t := skB b c (.slice (some ⟨g, 0, none⟩) vals.length cap)) (by simp)) (i := 4) rfl
  have hbl := box_lt (HH.out.i (t := skB b c (.slice (some ⟨g, 0, none⟩) vals.length cap)) (by simp))
  clear hrow hI hcs
  go_enter Tryz.func40, Tryz.ntmps40
  go_wp2
  go_returns
  exact ⟨rfl, (by (repeat' (first | (with_reducible exact Below.refl _ _) | (with_reducible assumption) | (with_reducible refine below_over ?_ _ _) | (with_reducible refine Lw.below_alloc ?_ _) | (with_reducible refine Below.drew ?_) | (with_reducible refine below_drewN ?_ _) | (with_reducible refine Below.setCell ?_ ?_ _) | go_size)))⟩
theorem shas_any (p : Addr) (F : Nat → Prop) (c : Cfg) (sts : List LS) (n : Int) (w : World) (h : ST w p F c sts) (n0 : -9223372036854775808 ≤ n) (n1 : n ≤ 9223372036854775807) :
    Calls Tryz.prog 51 #[.pointer (some p), .int .i64 n] w fun e w' => e = .returned (.bool (decide (0 ≤ n ∧ n ≤ c.bt))) ∧ w' = w := by
  obtain ⟨hr, hc, hl, b, B0, hdr, vals, ts, rfl, hrow, hI, rfl⟩ := h
  have HH := Lib.hid (st_hold hrow hI)
  have hb1 := hr.1
  have hb2 := hr.2.1
  have hvl : vals.length = c.bt.toNat + 1 := hrow.lv.trans hl
  obtain ⟨g, cap, rfl, hcap, hmx, hcs⟩ := own_cell (HH.out.i (t := ownT B0 70 hdr vals) (by simp)) (by omega)
  have HCS := Lib.hid hcs
  have c5 := box_cell (HH.out.i (t := skB b c (.slice (some ⟨g, 0, none⟩) vals.length cap)) (by simp)) (i := 5) rfl
  have L6 : (vals.length : Int) = c.bt + 1 := by omega
  have HX : Hid (∀ x : Bool, x = decide (0 ≤ n ∧ n ≤ c.bt) → x = decide (0 ≤ n ∧ n ≤ c.bt)) := Lib.hid (fun _ h => h)
  clear hrow hI hcs
  by_cases hn : 0 ≤ n
  · by_cases hn2 : n ≤ c.bt
    · have hn3 : n < (vals.length : Int) := by omega
      have e : decide (0 ≤ n ∧ n ≤ c.bt) = true := decide_eq_true ⟨hn, hn2⟩
      rw [e]
      go_enter Tryz.func51, Tryz.ntmps51
      go_wp2
      go_ret
      exact ⟨ret_bl (by first | (simp [hn, hn3]; done) | (simp [hn]; omega)), rfl⟩
    · have hn3 : ¬ n < (vals.length : Int) := by omega
      have e : decide (0 ≤ n ∧ n ≤ c.bt) = false := decide_eq_false (fun g => hn2 g.2)
      rw [e]
      go_enter Tryz.func51, Tryz.ntmps51
      go_wp2
      go_ret
      exact ⟨ret_bl (by first | (simp [hn]; done) | (simp [hn]; omega) | (simp; omega)), rfl⟩
  · have e : decide (0 ≤ n ∧ n ≤ c.bt) = false := decide_eq_false (fun g => hn g.1)
    rw [e]
    go_enter Tryz.func51, Tryz.ntmps51
    go_wp2
    go_ret
    exact ⟨ret_bl (by first | (simp [hn]; done) | (simp [hn]; omega) | (simp; omega)), rfl⟩
theorem st_at {b B0 : Nat} {c : Cfg} {hdr : Value} {vals : List Value} {ts : List Thing} {sts : List LS} {F0 : Nat → Prop} {w0 w : World} (hrow : LRow elvT c vals ts sts) (hH : HoldC F0 w0 w (skB b c hdr :: ownT B0 70 hdr vals :: ts)) {n : Nat} {st : LS} (hn : sts[n]? = some st) : ∃ v Q, vals[n]? = some v ∧ ELV w v Q c (n : Int) st := by
  obtain ⟨st2, v, Q, e1, e2, e3⟩ := hrow.at (j := n) ((List.getElem?_eq_some_iff.1 hn).1)
  rw [hn] at e1
  injection e1 with e1
  subst e1
  exact ⟨v, Q, e2, hH.i (t := elvT v Q c (n : Int) st) (List.mem_cons_of_mem _ (List.mem_cons_of_mem _ (List.mem_of_getElem? e3)))⟩
theorem spv_no {c : Cfg} {sts : List LS} {n : Int} (hl : sts.length = c.bt.toNat + 1) (hb : 1 ≤ c.bt) (hn : ¬ (0 ≤ n ∧ n ≤ c.bt)) (i : Int) : spV c sts n i = 0 ∧ spC c sts n i = 2 ∧ lvFl sts n = [] := by
  unfold spV spC lvFl
  by_cases h0 : 0 ≤ n
  · rw [if_pos h0, if_pos h0, if_pos h0, List.getElem?_eq_none (by omega)]
    exact ⟨rfl, rfl, rfl⟩
  · rw [if_neg h0, if_neg h0, if_neg h0]
    exact ⟨rfl, rfl, rfl⟩
theorem spv_yes {c : Cfg} {sts : List LS} {n : Nat} {st : LS} (hn : sts[n]? = some st) (i : Int) : spV c sts (n : Int) i = lsPtV c n st i ∧ spC c sts (n : Int) i = lsPtC c n st i ∧ lvFl sts (n : Int) = st.fl := by
  unfold spV spC lvFl
  rw [if_pos (by omega), if_pos (by omega), if_pos (by omega), Int.toNat_natCast, hn]
  exact ⟨rfl, rfl, rfl⟩
set_option maxHeartbeats 8000000 in
theorem cs_point (p : Addr) (F : Nat → Prop) (c : Cfg) (sts : List LS) (n i : Int) (w : World) (h : ST w p F c sts) (n0 : -9223372036854775808 ≤ n) (n1 : n ≤ 9223372036854775807) (i0 : 0 ≤ i) (i1 : i ≤ 18446744073709551615) :
    Calls Tryz.prog 28 #[.pointer (some p), .agg #[.int .i64 n, .int .u64 i]] w fun e w' => e = .returned (.tuple #[.int .i64 (spV c sts n i), .int .i64 (spC c sts n i)]) ∧ Below w.heap.size w w' := by
  have HS := Lib.hid h
  have N0 := Lib.hid n0
  have N1 := Lib.hid n1
  have I0 := Lib.hid i0
  have I1 := Lib.hid i1
  by_cases hd0 : 0 ≤ n ∧ n ≤ c.bt
  · obtain ⟨m, rfl⟩ : ∃ m : Nat, n = m := ⟨n.toNat, by omega⟩
    have hd : decide (0 ≤ (m : Int) ∧ (m : Int) ≤ c.bt) = true := decide_eq_true hd0
    obtain ⟨hr, hc, hl, b, B0, hdr, vals, ts, rfl, hrow, hI, rfl⟩ := h
    have HH := Lib.hid (st_hold hrow hI)
    have hb1 := hr.1
    have hb2 := hr.2.1
    have hvl : vals.length = c.bt.toNat + 1 := hrow.lv.trans hl
    obtain ⟨g, cap, rfl, hcap, hmx, hcs⟩ := own_cell (HH.out.i (t := ownT B0 70 hdr vals) (by simp)) (by omega)
    have HCS := Lib.hid hcs
    have c5 := box_cell (HH.out.i (t := skB b c (.slice (some ⟨g, 0, none⟩) vals.length cap)) (by simp)) (i := 5) rfl
    have L6 : (vals.length : Int) = c.bt + 1 := by omega
    have hn4 : (m : Int) < (vals.length : Int) := by omega
    have hn5 : m < vals.length := by omega
    have hn6 : (0 : Int) ≤ (m : Int) := by omega
    obtain ⟨st, hst⟩ : ∃ st, sts[m]? = some st := ⟨_, List.getElem?_eq_getElem (by omega)⟩
    obtain ⟨e1, e2, _⟩ := spv_yes (c := c) hst i
    rw [e1, e2]
    obtain ⟨v, Q, e3, hE⟩ := st_at hrow HH.out hst
    have c6 := hcs m v e3
    have HE := Lib.hid hE
    have hd1 := hd0.2
    have hlt5 := cell_lt c5
    have hlt6 := cell_lt c6
    clear hrow hI hcs hE e3 hst e1 e2 hd0 n0 n1 i0 i1 L6 hvl
    cases st with
    | A L =>
      obtain ⟨q, rfl, h2⟩ := HE.out.2
      have HX := Lib.hid h2
      clear h2
      go_enter Tryz.func28, Tryz.ntmps28
      go_wp2_with (go_at_call 51; (with_reducible refine (shas_any _ _ c sts m _ (HS.out.up (Lw.below_alloc (Below.refl _ _) _)) N0.out N1.out).mono ?_); rintro e w' ⟨rfl, rfl⟩; rw [hd])
      have k5 := cell_up c5 (Lw.below_alloc (Below.refl _ w) (.cells #[.int .i64 m, .int .u64 i] 56))
      have k6 := cell_up c6 (Lw.below_alloc (Below.refl _ w) (.cells #[.int .i64 m, .int .u64 i] 56))
      have q0 : (w.alloc (.cells #[.int .i64 m, .int .u64 i] 56)).cell? ⟨w.heap.size, 0, none⟩ = some (.int .i64 m) := box_cell (heap_alloc_new w _) rfl
      have q1 : (w.alloc (.cells #[.int .i64 m, .int .u64 i] 56)).cell? ⟨w.heap.size, 1, none⟩ = some (.int .u64 i) := box_cell (heap_alloc_new w _) rfl
      have B0w : Below w.heap.size w (w.alloc (.cells #[.int .i64 m, .int .u64 i] 56)) := Lw.below_alloc (Below.refl _ _) _
      have HX1 := Lib.hid (HX.out.up B0w)
      obtain ⟨W, hW⟩ : ∃ W, w.alloc (.cells #[.int .i64 m, .int .u64 i] 56) = W := ⟨_, rfl⟩
      have hWs : w.heap.size < W.heap.size := by rw [← hW]; simp
      rw [hW] at k5 k6 q0 q1 B0w HX1 ⊢
      clear hW
      go_region_held3 (fun w' => Below W.heap.size W w' ∧ w'.cell? ⟨b, 5, none⟩ = some (.slice (some ⟨g, 0, none⟩) vals.length cap) ∧ w'.cell? ⟨w.heap.size, 0, none⟩ = some (.int .i64 m) ∧ w'.cell? ⟨w.heap.size, 1, none⟩ = some (.int .u64 i) ∧ w'.cell? ⟨g, m, none⟩ = some (.iface 100 (.pointer (some q)))) (first | (refine ⟨?_, ?_, ?_, ?_, ?_⟩ <;> (first | (with_reducible assumption) | (with_reducible refine cell_up k5 ?_) | (with_reducible refine cell_up k6 ?_) | (with_reducible refine cell_up q0 ?_) | (with_reducible refine cell_up q1 ?_) | skip) <;> (repeat' (first | (with_reducible exact Below.refl _ _) | (with_reducible assumption) | (with_reducible refine below_over ?_ _ _) | (with_reducible refine Lw.below_alloc ?_ _) | (with_reducible refine Below.drew ?_) | (with_reducible refine below_drewN ?_ _) | go_size)))) (first
        | (go_at_call 126; (with_reducible refine (epoint_any q Q c m L i _ (HX1.out.up (by (repeat' (first | (with_reducible exact Below.refl _ _) | (with_reducible assumption) | (with_reducible refine below_over ?_ _ _) | (with_reducible refine Lw.below_alloc ?_ _) | (with_reducible refine Below.drew ?_) | (with_reducible refine below_drewN ?_ _) | (with_reducible refine Below.setCell ?_ ?_ _) | go_size)))) I0.out I1.out).mono ?_); rintro e w5 ⟨rfl, hb⟩; obtain ⟨bs, d, rfl⟩ := below_grow hb; clear hb))
      all_goals go_wp2
      all_goals go_ret2
      all_goals exact ⟨rfl, B0w.trans ((show Below W.heap.size W _ from (by (repeat' (first | (with_reducible exact Below.refl _ _) | (with_reducible assumption) | (with_reducible refine below_over ?_ _ _) | (with_reducible refine Lw.below_alloc ?_ _) | (with_reducible refine Below.drew ?_) | (with_reducible refine below_drewN ?_ _) | (with_reducible refine Below.setCell ?_ ?_ _) | go_size)))).mono B0w.size)⟩
    | S L =>
      obtain ⟨q, rfl, h2⟩ := HE.out.2
      have HX := Lib.hid h2
      clear h2
      go_enter Tryz.func28, Tryz.ntmps28
      go_wp2_with (go_at_call 51; (with_reducible refine (shas_any _ _ c sts m _ (HS.out.up (Lw.below_alloc (Below.refl _ _) _)) N0.out N1.out).mono ?_); rintro e w' ⟨rfl, rfl⟩; rw [hd])
      have k5 := cell_up c5 (Lw.below_alloc (Below.refl _ w) (.cells #[.int .i64 m, .int .u64 i] 56))
      have k6 := cell_up c6 (Lw.below_alloc (Below.refl _ w) (.cells #[.int .i64 m, .int .u64 i] 56))
      have q0 : (w.alloc (.cells #[.int .i64 m, .int .u64 i] 56)).cell? ⟨w.heap.size, 0, none⟩ = some (.int .i64 m) := box_cell (heap_alloc_new w _) rfl
      have q1 : (w.alloc (.cells #[.int .i64 m, .int .u64 i] 56)).cell? ⟨w.heap.size, 1, none⟩ = some (.int .u64 i) := box_cell (heap_alloc_new w _) rfl
      have B0w : Below w.heap.size w (w.alloc (.cells #[.int .i64 m, .int .u64 i] 56)) := Lw.below_alloc (Below.refl _ _) _
      have HX1 := Lib.hid (HX.out.up B0w)
      obtain ⟨W, hW⟩ : ∃ W, w.alloc (.cells #[.int .i64 m, .int .u64 i] 56) = W := ⟨_, rfl⟩
      have hWs : w.heap.size < W.heap.size := by rw [← hW]; simp
      rw [hW] at k5 k6 q0 q1 B0w HX1 ⊢
      clear hW
      go_region_held3 (fun w' => Below W.heap.size W w' ∧ w'.cell? ⟨b, 5, none⟩ = some (.slice (some ⟨g, 0, none⟩) vals.length cap) ∧ w'.cell? ⟨w.heap.size, 0, none⟩ = some (.int .i64 m) ∧ w'.cell? ⟨w.heap.size, 1, none⟩ = some (.int .u64 i) ∧ w'.cell? ⟨g, m, none⟩ = some (.iface 103 (.pointer (some q)))) (first | (refine ⟨?_, ?_, ?_, ?_, ?_⟩ <;> (first | (with_reducible assumption) | (with_reducible refine cell_up k5 ?_) | (with_reducible refine cell_up k6 ?_) | (with_reducible refine cell_up q0 ?_) | (with_reducible refine cell_up q1 ?_) | skip) <;> (repeat' (first | (with_reducible exact Below.refl _ _) | (with_reducible assumption) | (with_reducible refine below_over ?_ _ _) | (with_reducible refine Lw.below_alloc ?_ _) | (with_reducible refine Below.drew ?_) | (with_reducible refine below_drewN ?_ _) | go_size)))) (first
        | (go_at_call 139; (with_reducible refine (spoint_any q Q c m L i _ (HX1.out.up (by (repeat' (first | (with_reducible exact Below.refl _ _) | (with_reducible assumption) | (with_reducible refine below_over ?_ _ _) | (with_reducible refine Lw.below_alloc ?_ _) | (with_reducible refine Below.drew ?_) | (with_reducible refine below_drewN ?_ _) | (with_reducible refine Below.setCell ?_ ?_ _) | go_size)))) I0.out I1.out).mono ?_); rintro e w5 ⟨rfl, hb⟩; obtain ⟨bs, d, rfl⟩ := below_grow hb; clear hb))
      all_goals go_wp2
      all_goals go_ret2
      all_goals exact ⟨rfl, B0w.trans ((show Below W.heap.size W _ from (by (repeat' (first | (with_reducible exact Below.refl _ _) | (with_reducible assumption) | (with_reducible refine below_over ?_ _ _) | (with_reducible refine Lw.below_alloc ?_ _) | (with_reducible refine Below.drew ?_) | (with_reducible refine below_drewN ?_ _) | (with_reducible refine Below.setCell ?_ ?_ _) | go_size)))).mono B0w.size)⟩
  · have hd : decide (0 ≤ n ∧ n ≤ c.bt) = false := decide_eq_false hd0
    obtain ⟨e1, e2, _⟩ := spv_no HS.out.right.2.2 HS.out.right.1.1 hd0 i
    rw [e1, e2]
    clear h hd0 n0 n1 i0 i1
    go_enter Tryz.func28, Tryz.ntmps28
    go_wp2_with (go_at_call 51; (with_reducible refine (shas_any _ _ c sts n _ (HS.out.up (Lw.below_alloc (Below.refl _ _) _)) N0.out N1.out).mono ?_); rintro e w' ⟨rfl, rfl⟩; rw [hd])
    go_ret2
    exact ⟨rfl, (by (repeat' (first | (with_reducible exact Below.refl _ _) | (with_reducible assumption) | (with_reducible refine below_over ?_ _ _) | (with_reducible refine Lw.below_alloc ?_ _) | (with_reducible refine Below.drew ?_) | (with_reducible refine below_drewN ?_ _) | (with_reducible refine Below.setCell ?_ ?_ _) | go_size)))⟩
theorem cs_total (p : Addr) (F : Nat → Prop) (c : Cfg) (sts : List LS) (w : World) (h : ST w p F c sts) :
    Calls Tryz.prog 27 #[.pointer (some p)] w fun e w' => e = .returned (.int .i64 (spV c sts c.bt 0)) ∧ Below w.heap.size w w' := by
  have HS := Lib.hid h
  obtain ⟨hr, hc, hl, b, B0, hdr, vals, ts, rfl, hrow, hI, rfl⟩ := h
  have HH := Lib.hid (st_hold hrow hI)
  have hb1 := hr.1
  have hb2 := hr.2.1
  have hvl : vals.length = c.bt.toNat + 1 := hrow.lv.trans hl
  obtain ⟨g, cap, rfl, hcap, hmx, hcs⟩ := own_cell (HH.out.i (t := ownT B0 70 hdr vals) (by simp)) (by omega)
  have HCS := Lib.hid hcs
  have c0 := box_cell (HH.out.i (t := skB b c (.slice (some ⟨g, 0, none⟩) vals.length cap)) (by simp)) (i := 0) rfl
  have CP := Lib.hid (cs_point _ _ c sts c.bt 0 w HS.out (by omega) (by omega) (by omega) (by omega))
  clear hrow hI hcs hvl
  go_enter Tryz.func27, Tryz.ntmps27
  go_wp2_with (go_at_call 28; (with_reducible refine CP.out.mono ?_); rintro e w5 ⟨rfl, hb⟩)
  go_ret
  exact ⟨rfl, hb⟩
end Go.Proofs.YtbifihhfoanmgaaGreat.Stk
/- The code's New of a stack. Printed by wip/gen/stk12.py. -/
namespace Go.Proofs.YtbifihhfoanmgaaGreat.Stk
open Go Go.RowKit Lw Grd Lin Con Shp Sk Exa Lev Go.Shelf
set_option linter.unusedVariables false
set_option linter.unusedSimpArgs false
abbrev cfB (b : Nat) (c : Cfg) : Thing := boxT b 24 #[.int .i64 c.bt, .int .i64 c.rw, .int .i64 c.wd, .int .i64 c.md, .int .u64 c.sd]
theorem cs_none (c : Cfg) (w : World) (h : c.Ok) (hr : ¬ IsRight c) :
    Calls Tryz.prog 10 #[.agg #[.int .i64 c.bt, .int .i64 c.rw, .int .i64 c.wd, .int .i64 c.md, .int .u64 c.sd]] w fun e w' => e = .returned (.tuple #[.pointer none, .int .i64 1]) ∧ Below w.heap.size w w' := by
  have HO := Lib.hid h
  have hm : right c = false := decide_eq_false hr
  clear h hr
  go_enter Tryz.func10, Tryz.ntmps10
  go_wp2_with (go_at_call 29; (with_reducible refine (right_any c _ HO.out).mono ?_); rintro e w' ⟨rfl, hb⟩; obtain ⟨bs, d, rfl⟩ := below_grow hb; clear hb; rw [hm])
  go_ret2
  exact ⟨rfl, (by (repeat' (first | (with_reducible exact Below.refl _ _) | (with_reducible assumption) | (with_reducible refine below_over ?_ _ _) | (with_reducible refine Lw.below_alloc ?_ _) | (with_reducible refine Below.drew ?_) | (with_reducible refine below_drewN ?_ _) | (with_reducible refine Below.setCell ?_ ?_ _) | go_size)))⟩
set_option maxRecDepth 100000 in
set_option maxHeartbeats 2000000 in
theorem cs_new (c : Cfg) (w : World) (h : c.Ok) (hr : IsRight c) :
    Calls Tryz.prog 10 #[.agg #[.int .i64 c.bt, .int .i64 c.rw, .int .i64 c.wd, .int .i64 c.md, .int .u64 c.sd]] w fun e w' => ∃ (p : Addr) (F : Nat → Prop), e = .returned (.tuple #[.pointer (some p), .int .i64 0]) ∧ ST w' p F c (stsOf c []) ∧ (∀ k, F k → w.heap.size ≤ k) ∧ Below w.heap.size w w' := by
  have HO := Lib.hid h
  have HR := Lib.hid hr
  have hm : right c = true := decide_eq_true hr
  have hb1 := hr.1
  have hb2 := hr.2.1
  obtain ⟨j0, hj, hy0, hy1, hy2⟩ := info_parts lvs_info
  have HJ := Lib.hid hj
  have HB1 := Lib.hid ((HoldC.start0 (Below.refl _ w)).push (cfB w.heap.size c) (Lw.below_alloc (Below.refl _ _) _) (heap_alloc_new w _) (fun k hk => Nat.le_of_eq hk.symm) (cel_box (heap_alloc_new w _)))
  clear h hr hj
  go_enter Tryz.func10, Tryz.ntmps10
  go_wp2_with (go_at_call 29; (with_reducible refine (right_any c _ HO.out).mono ?_); rintro e w1 ⟨rfl, hb⟩; rw [hm]; have HV1 := Lib.hid (HB1.out.up hb); clear hb; have g0 := box_cell (HV1.out.i (t := cfB w.heap.size c) (by simp)) (i := 0) rfl; have g1 := box_cell (HV1.out.i (t := cfB w.heap.size c) (by simp)) (i := 1) rfl; have g2 := box_cell (HV1.out.i (t := cfB w.heap.size c) (by simp)) (i := 2) rfl; have g3 := box_cell (HV1.out.i (t := cfB w.heap.size c) (by simp)) (i := 3) rfl; have g4 := box_cell (HV1.out.i (t := cfB w.heap.size c) (by simp)) (i := 4) rfl; have q0 := cell_up g0 (Lw.below_alloc (Below.refl _ w1) (.cells #[.int .i64 c.bt, .int .i64 c.rw, .int .i64 c.wd, .int .i64 c.md, .int .u64 c.sd, .slice none 0 0] 68)))
  have HS := Lib.hid ((HV1.out.push (ownT w.heap.size 70 (.slice none 0 0) []) (Below.refl _ _) (own_nil _ _ _) (fun k hk => own_nilF _ _ hk) (cel_own (own_nil _ _ _))).push (skB w1.heap.size c (.slice none 0 0)) (Lw.below_alloc (Below.refl _ _) _) (heap_alloc_new w1 _) (fun k hk => Nat.le_of_eq hk.symm) (cel_box (heap_alloc_new w1 _)))
  clear g0 g1 g2 g3 g4 q0
  obtain ⟨b, hbq⟩ : ∃ b, w1.heap.size = b := ⟨_, rfl⟩
  rw [hbq] at HS ⊢
  clear hbq
  go_loopw [17] (fun i wr => ∃ (n : Nat) (hdr : Value) (vals : List Value) (ts : List Thing) (sts : List LS), (n : Int) ≤ c.bt + 1 ∧ i = .int .i64 n ∧ LRow elvT c vals ts sts ∧ sts.length = n ∧ (∀ j, j < n → sts[j]? = some (lsZero c j)) ∧ HoldC (fun _ => False) w wr (skB b c hdr :: ownT w.heap.size 70 hdr vals :: cfB w.heap.size c :: ts)) (fun i _ => (c.bt + 1).toNat - (intOf i).toNat)
  case atStart => exact ⟨0, .slice none 0 0, [], [], [], by omega, rfl, LRow.nil _ _, rfl, fun j hj => by omega, HS.out⟩
  case round =>
    obtain ⟨n, hdr, vals, ts, sts, hn, rfl, hrow, hsl, hsj, hv⟩ := hrel
    have HROW := Lib.hid hrow
    have HSL := Lib.hid hsl
    have HSJ := Lib.hid hsj
    have HV := Lib.hid hv
    have LV := Lib.hid (hrow.lv.trans hsl)
    have g0 := box_cell (hv.i (t := cfB w.heap.size c) (by simp)) (i := 0) rfl
    have g1 := box_cell (hv.i (t := cfB w.heap.size c) (by simp)) (i := 1) rfl
    have g2 := box_cell (hv.i (t := cfB w.heap.size c) (by simp)) (i := 2) rfl
    have g3 := box_cell (hv.i (t := cfB w.heap.size c) (by simp)) (i := 3) rfl
    have g4 := box_cell (hv.i (t := cfB w.heap.size c) (by simp)) (i := 4) rfl
    clear hrow hsl hsj hv
    by_cases hlt : (n : Int) < c.bt + 1
    · go_wp2_with (first
        | (go_at_call 30; (with_reducible refine (ev_new c n _ HO.out HR.out (by omega) (by omega)).mono ?_); rintro e w2 ⟨v, Q, rfl, hE, hQ, hb⟩; obtain ⟨ty, pv, rfl⟩ := elv_form hE; have HV2 := Lib.hid (HV.out.snoc (elvT (.iface ty (.pointer (some pv))) Q c n (lsZero c n)) hb hE hQ (cel_elv hE)); have x5 := box_cell (HV2.out.i (t := skB b c hdr) (by simp)) (i := 5) rfl; clear hb hE hQ)
        | (at_builtin; (refine app_val rfl _ _ 66 rfl w.heap.size 70 j0 .nilIface 16 lvs_u HJ.out hy0 hy1 hy2 rfl hdr n vals rfl (by have h7 := (HV2.out.up (Lw.below_alloc (Below.refl _ w2) (.cells #[.iface ty (.pointer (some pv))] 70))).i (t := ownT w.heap.size 70 hdr vals) (by simp); have h8 : World.ownsRow _ _ _ _ hdr vals.length vals := h7; rw [LV.out] at h8; exact h8) (.iface ty (.pointer (some pv))) w2.heap.size rfl (cell_one_new _ _ _) rfl (by unfold maxLen; omega) (by omega) (by have h9 := HV2.out.1.1.size; simp; omega) ?_); intro g6 cap6 w3 own6 grow6 hat6 hl6; have HV3 := Lib.hid (HoldC.app (fs := [skB b c hdr]) (HV2.out.up (Lw.below_alloc (Below.refl _ w2) (.cells #[.iface ty (.pointer (some pv))] 70))) (by rw [LV.out]; exact own6) grow6 hat6); have y5 := box_cell (HV3.out.i (t := skB b c hdr) (by simp)) (i := 5) rfl; have z5 : w3.frozen? ⟨b, 5, none⟩ = false := frozen_of_row w3 b 5 _ _ (HV3.out.i (t := skB b c hdr) (by simp))))
      go_roundw
      case rel =>
        refine ⟨n + 1, .slice (some ⟨g6, 0, none⟩) (n + 1) cap6, vals ++ [.iface ty (.pointer (some pv))], ts ++ [elvT (.iface ty (.pointer (some pv))) Q c n (lsZero c n)], sts ++ [lsZero c n], by omega, by go_num, HROW.out.snoc HSL.out _ Q _, by simp [HSL.out], fun j hj => ?_, ?_⟩
        · by_cases hj2 : j < n
          · rw [List.getElem?_append_left (by rw [HSL.out]; exact hj2)]
            exact HSJ.out j hj2
          · obtain rfl : j = n := by omega
            rw [List.getElem?_append_right (by rw [HSL.out]; exact Nat.le_refl _), HSL.out, Nat.sub_self]
            rfl
        · have h9 := HoldC.store (fs := []) HV3.out (.slice (some ⟨g6, 0, none⟩) (vals.length + 1) cap6)
          rw [LV.out] at h9
          exact h9
      case measure => simp [intOf]; omega
    · go_wp2
      go_ret2
      have he : n = c.bt.toNat + 1 := by omega
      subst he
      obtain ⟨s1, s2, s3⟩ := st_of HR.out HO.out HSL.out HROW.out (HV.out.sub (.cons_cons _ (.cons_cons _ (.cons _ (List.Sublist.refl _)))))
      have e9 : sts = stsOf c [] := List.ext_getElem? (fun j => by
        by_cases hj : j < c.bt.toNat + 1
        · rw [HSJ.out j hj, stsOf_get hj, stOf_nil]
        · rw [List.getElem?_eq_none (by rw [HSL.out]; omega), List.getElem?_eq_none (by rw [stsOf_len]; omega)])
      rw [e9] at s1
      exact ⟨_, rfl, _, s1, fun k hk => (s3 k hk).elim (fun h => h.elim) id, s2.below⟩
end Go.Proofs.YtbifihhfoanmgaaGreat.Stk
/- A region that draws its order, in a round of a range over a function: it may be walked as outside of one. By hand. -/
namespace Go.Proofs.YtbifihhfoanmgaaGreat.Stk
open Go Go.RowKit Lw
set_option linter.unusedVariables false
/-- None of the operations is a defer statement. -/
def noDefer (ops : Array Oper) : Bool := ops.toList.all (fun o => match o.op with
  | .defer _ => false
  | _ => true)
theorem noDefer_spec {ops : Array Oper} (h : noDefer ops = true) {i : Nat} {o : Oper} (hi : ops[i]? = some o) (c : Call) : o.op ≠ .defer c := fun e => by
  have h2 := List.all_eq_true.1 h o (by
    have h3 : ops.toList[i]? = some o := by rw [Array.getElem?_toList]; exact hi
    exact List.mem_of_getElem? h3)
  rw [e] at h2
  cases h2
theorem wpIn_of_wp {P : Program} {l n : Nat} {o : Oper} {a : Act} {w : World} {K K' : Act → World → Prop} {Q : Exit → Act → World → Prop} (hd : ∀ c, o.op ≠ .defer c) (hK : ∀ a w, K a w → K' a w) (h : o.wp P a w K Q) : o.wpIn (Fence.wide.inRound l) n P a w K' Q := by
  refine ⟨fun _ _ => trivial, ?_⟩
  rw [Oper.semAt_eq _ _ _ hd]
  unfold Oper.wp at h
  revert h
  cases (execOp a.eval o).run P w with
  | ok r w' =>
    cases r with
    | value v => exact hK _ _
    | skip => exact hK _ _
    | defer d => exact hK _ _
    | enter f args =>
      intro h
      refine ⟨fun g => (by cases g), CallsIn.inRound l (callsIn_wide.2 (Calls.mono h ?_))⟩
      intro e w'' he
      cases e with
      | returned v => exact hK _ _ he
      | panicked chain => exact he
      | outgrown => exact he
    | row row args =>
      intro h
      refine ⟨fun g => (by cases g), fun c cs _ => ?_⟩
      obtain ⟨v, w'', h1, h2⟩ := h c cs
      exact ⟨v, w'', hK _ _ h1, stepsIn_wide.2 h2⟩
    | _ => exact fun h => h.elim
  | halt s w' =>
    cases s with
    | panic v => exact id
    | _ => exact fun h => h.elim
theorem wpAnyIn_of_any {P : Program} {l n : Nat} {md : Region.Mode} {ops : Array Oper} {Q : Exit → Act → World → Prop} (hd : noDefer ops = true) (hQ : ¬ LetsOut Q) : ∀ (fuel : Nat) (listed : Array Bool) (a : Act) (w : World), wpAny P md ops Q fuel listed a w → wpAnyIn (Fence.wide.inRound l) n P md ops Q fuel listed a w
  | 0, _, _, _, h => h
  | fuel + 1, listed, a, w, h => ⟨h.1, fun i hi => by
    have h2 := h.2 i hi
    unfold wpOp at h2
    unfold wpOpIn
    revert h2
    cases ho : ops[i]? with
    | none => exact wpAnyIn_of_any hd hQ fuel _ a w
    | some o =>
      by_cases hw : Region.wanted o (yielded ops a.tmps) = true
      · simp only [hw, if_true]
        rintro (h3 | h3)
        · exact wpIn_of_wp (noDefer_spec hd ho) (fun a w => wpAnyIn_of_any hd hQ fuel _ a w) h3
        · exact absurd h3.2 hQ
      · simp only [hw]
        exact fun h => ⟨fun _ _ => trivial, wpAnyIn_of_any hd hQ fuel _ _ w h⟩⟩
/-- The beginning. -/
theorem region_round {P : Program} {l n id : Nat} {ops : Array Oper} {Q : Exit → Act → World → Prop} {S : World → Prop} {a : Act} {w : World} (hm : P.follows .mixedOrders = true) (hd : noDefer ops = true) (hQ : ¬ LetsOut Q) (hS : S w.drew) (h : S w.drew → wpAnyH P .any ops Q S ops.size (Array.replicate ops.size false) a w.drew) : (Code.region id ops true).wpIn (Fence.wide.inRound l) n P Q a w :=
  wpIn_region_any hm (wpAnyIn_of_any hd hQ _ _ _ _ (wpAny_of_held _ _ _ _ (h hS)))
/-- One value appended, in a region that draws its order: the row lies where it lay, or in a new block. -/
theorem appat_step {P : Program} {w : World} {ops : Array Oper} {o : Oper} {a : Act} {K : Act → World → Prop} {Q : Exit → Act → World → Prop} {E : Prop} (hgd : o.guard = none) (s x : Operand) (t : TypeId)
    (ho : o.op = .call { callee := .builtin .append, args := #[s, x], argTypes := #[t, t] })
    (base : Nat) (e : TypeId) (i : TypeInfo) (z : Value) (bytes : Nat) (ht : P.underlying t = some (.slice e)) (hi : P.info? e = some i) (hz : i.zero = some z) (hsize : i.size = 1) (hby : i.bytes = bytes) (hzs : z.cells.size = 1)
    (v : Value) (n : Nat) (xs : List Value) (hs : a.eval s = v) (hown : w.ownsRow base e 1 v n xs)
    (X : Value) (B : Nat) (hx : a.eval x = .slice (some ⟨B, 0, none⟩) 1 1) (hc : ∀ j u, ([X] : List Value)[j]? = some u → w.cell? ((⟨B, 0, none⟩ : Addr).add j) = some u) (hX : X.oneCell' = true) (h63 : n + 1 ≤ maxLen) (hbytes : (n + 1) * bytes ≤ 140737488355328) (hbase : base ≤ w.heap.size)
    (h : ∀ g cap w', w'.ownsRow base e 1 (.slice (some ⟨g, 0, none⟩) (n + 1) cap) (n + 1) (xs ++ [X]) → w.grownBy w' v.ownBlock → (v.ownBlock = some g ∨ g = w.heap.size) → K (a.put o.dst (.slice (some ⟨g, 0, none⟩) (n + 1) cap)) w') :
    if Region.wanted o (yielded ops a.tmps) = true then Oper.wp P o a w K Q else E := by
  rw [if_pos (by simp [Region.wanted, hgd])]
  obtain ⟨v', w', hr, h2, h3, h4, h5⟩ := run_append_own_at (P := P) w base t o.type e i z 1 bytes ht hi hz hsize hby hzs (by decide) v n xs hown ⟨B, 0, none⟩ 1 1 [X] rfl hc (by intro u hu; simp at hu; subst hu; exact hX) h63 hbytes hbase
  rcases h2.2 with ⟨h6, h7⟩ | ⟨g, cap, cur, rfl, h6⟩
  · simp at h7
  · unfold Oper.wp
    simp [execOp, ho, resolve, invoke, builtin, hs, hx, hr, Result.andThen]
    refine h g cap w' h2 h3 ?_
    rcases h5 with h8 | h8
    · exact .inl (show v.ownBlock = some g from h8.symm.trans rfl)
    · have h9 : some g = some w.heap.size := h8
      injection h9 with h9
      exact .inr h9
end Go.Proofs.YtbifihhfoanmgaaGreat.Stk
/- The code's walk over the pieces of a span, and what each round gathers. By hand. -/
namespace Go.Proofs.YtbifihhfoanmgaaGreat.Spn
open Go Go.RowKit Lw Grd Lin Con Shp Sk Exa Lev Stk Pcs Go.Shelf
set_option linter.unusedVariables false
set_option linter.unusedSimpArgs false
attribute [local go_sem] Oper.semAt_some
theorem sp64_info : (Tryz.prog.info? 2).map (fun i => (i.zero, i.size, i.bytes)) = some (some (.int .i64 0), 1, 8) := by kernel_rfl
theorem sp64s_u : Tryz.prog.underlying 39 = some (.slice 2) := by kernel_rfl
theorem told_any (p : Addr) (A : Option Addr) (n cap : Nat) (w : World) :
    Calls Tryz.prog 42 #[.pointer (some p), .slice A n cap] w fun e w' => e = .returned (.func (.func 67) #[] #[.pointer (some ⟨w.heap.size + 1, 0, none⟩), .pointer (some ⟨w.heap.size, 0, none⟩)]) ∧ w' = (w.alloc (.cells #[.pointer (some p)] 30)).alloc (.cells #[.slice A n cap] 51) := by
  go_enter Tryz.func42, Tryz.ntmps42
  go_wp2
  go_ret
  exact ⟨rfl, rfl⟩
/-- What a round is handed. -/
def encP (c : Cfg) (sts : List LS) (qs : List (Nat × Nat)) (x : Lof qs.length) : Array Value := #[.int .i64 (spV c sts ((qs[x.1]'x.2).1 : Int) ((qs[x.1]'x.2).2 : Int))]
theorem ints_at {qs : List (Nat × Nat)} {j : Nat} {q : Nat × Nat} (h : qs[j]? = some q) : (ints qs)[j]? = some ((q.1 : Int), (q.2 : Int)) := by
  unfold ints
  rw [List.getElem?_map, h]
  rfl
set_option maxRecDepth 100000 in
set_option maxHeartbeats 2000000 in
theorem told_iter (m : Nat) (hm : 1 ≤ m) (c : Cfg) (sts : List LS) (p : Addr) (Fs H : Nat → Prop) (l ba bs n cap : Nat) (A : Option Addr) (qs : List (Nat × Nat)) (hN : qs.length ≤ 1000) (J Jx : List (Lof qs.length) → World → Prop)
    (W : World) (hJ : AbidesFrom W.heap.size J)
    (hY : ∀ pre x W, J pre W → pre.length < qs.length → YieldAt Fence.wide (m - 1) Tryz.prog l (encP c sts qs x) W fun e W' => (e = .returned (.bool true) ∧ J (pre ++ [x]) W' ∧ Kept H W W') ∨ (e = .returned (.bool false) ∧ Jx (pre ++ [x]) W'))
    (hst : ST W p Fs c sts) (hF : ∀ k, Fs k → ¬ H k) (h1 : W.cell? ⟨ba, 0, none⟩ = some (.slice A n cap)) (hba : ¬ H ba) (h2 : W.cell? ⟨bs, 0, none⟩ = some (.pointer (some p))) (hbs : ¬ H bs)
    (h3 : (pcT A n cap (ints qs)).I W) (hpc : ∀ k, (pcT A n cap (ints qs)).F k → ¬ H k) (h0 : J [] W) :
    CallsIn Fence.wide m Tryz.prog 67 #[.func (.yield l) #[] #[], .pointer (some ⟨ba, 0, none⟩), .pointer (some ⟨bs, 0, none⟩)] W fun e W' => (∃ v, e = .returned v) ∧ ((∃ xs, (UpTo xs ∧ xs.length = qs.length) ∧ J xs W') ∨ (∃ pre, UpTo pre ∧ Jx pre W')) := by
  have hlen : qs.length = n := by
    have h4 := (pcI h3).len
    unfold ints at h4
    rw [List.length_map] at h4
    exact h4
  have HS := Lib.hid hst
  have HF := Lib.hid hF
  have HP := Lib.hid h3
  have HPC := Lib.hid hpc
  clear hst hF h3 hpc
  refine callsIn_of_wp Tryz.func67 rfl trivial ?_ rfl
  simp only [Tryz.ntmps67, List.size_toArray, List.length_cons, List.length_nil, Nat.reduceAdd, Nat.reduceSub, Array.replicate_succ, Array.replicate_zero, List.push_toArray, List.append_toArray, List.nil_append, List.cons_append]
  gi_wp2
  gi_loopw [10] (fun i wr => ∃ (j : Nat) (pre : List (Lof qs.length)), j ≤ n ∧ i = .int .i64 j ∧ UpTo pre ∧ pre.length = j ∧ J pre wr ∧ Kept H W wr)
    (fun i _ => n - (intOf i).toNat)
  case atStart => exact ⟨0, [], Nat.zero_le _, rfl, UpTo.nil _, rfl, h0, Kept.refl _ _⟩
  case round =>
    obtain ⟨j, pre, hj, rfl, hup, hpl, hJs, hkp⟩ := hrel
    by_cases hlt : j < n
    · have hlt2 : j < qs.length := by omega
      obtain ⟨q, hq⟩ : ∃ q, qs[j]? = some q := ⟨_, List.getElem?_eq_getElem hlt2⟩
      have hq2 : qs[j]'hlt2 = q := by
        have h9 := List.getElem?_eq_getElem hlt2
        rw [hq] at h9
        exact (Option.some.inj h9).symm
      have hP2 : (pcT A n cap (ints qs)).I wr := (pcT A n cap (ints qs)).keep W wr H HP.out hkp HPC.out
      obtain ⟨a, ga, oa, rfl, had, cc1, cc2, ⟨b0, b1⟩, b2, b3⟩ := (pcI hP2).at (ints_at hq)
      have hST2 := Lib.hid (stI ((stT p Fs c sts).keep W wr H HS.out hkp HF.out))
      have d1 := hkp.cell h1 hba
      have d2 := hkp.cell h2 hbs
      have al := Lw.below_alloc (Below.refl _ wr) (.cells #[.int .i64 (q.1 : Int), .int .u64 (q.2 : Int)] 56)
      have hJ1 := hJ pre wr _ none hJs (grown_of al) (fun r e => by cases e)
      have d3 := cell_up d2 al
      have hS3 := Lib.hid (hST2.out.up al)
      have HKP := Lib.hid (hkp.then al)
      have B0 := Lib.hid b0
      have B1 := Lib.hid b1
      have B2 := Lib.hid b2
      have B3 := Lib.hid b3
      have HJ1 := Lib.hid hJ1
      have AL := Lib.hid al
      clear b0 b1 b2 b3 hP2 hkp hJs hJ1 al
      gi_wp2_with (refine ⟨trivial, ?_⟩; gi_at_call 28; refine (callsIn_wide.2 (cs_point p Fs c sts (q.1 : Int) (q.2 : Int) _ hS3.out B0.out B1.out B2.out B3.out)).mono ?_; rintro e w2 ⟨rfl, hb2⟩; have hk2 := Lib.hid (HKP.out.then hb2); have hJ2 := hJ pre _ w2 none HJ1.out (grown_of hb2) (fun r e => by cases e); obtain ⟨fn, tmps, assign, body, hy, hR⟩ := hY pre ⟨j, hlt2⟩ w2 hJ2 (by omega); simp only [encP, hq2] at hy)
      refine hR.mono ?_
      rintro e W3 (⟨rfl, hJ3, hk3⟩ | ⟨rfl, hJx3⟩)
      · gi_wp2
        go_roundw
        case rel => exact ⟨j + 1, pre ++ [⟨j, hlt2⟩], by omega, by simp, UpTo.snoc.2 ⟨hup, hpl.symm⟩, by simp [hpl], hJ3, hk2.out.trans hk3 (fun _ _ h => h)⟩
        case measure => simp [intOf]; omega
      · gi_wp2
        refine bodyPost_ret (results_none rfl _ _ _) rfl ?_
        exact ⟨⟨_, rfl⟩, .inr ⟨pre ++ [⟨j, hlt2⟩], UpTo.snoc.2 ⟨hup, hpl.symm⟩, hJx3⟩⟩
    · obtain rfl : j = n := by omega
      gi_wp2
      go_end0
      exact ⟨⟨_, rfl⟩, .inl ⟨pre, ⟨hup, by omega⟩, hJs⟩⟩
set_option maxRecDepth 100000 in
set_option maxHeartbeats 2000000 in
theorem gather_any (bp B0 : Nat) (F0 : Nat → Prop) (w0 w : World) (hdr : Value) (vals : List Value) (n : Int) (us ts : List Thing) (h : HoldC F0 w0 w (us ++ boxT bp 39 #[hdr] :: ownT B0 2 hdr vals :: ts)) (hl : vals.length ≤ 1000) (hB : B0 ≤ w.heap.size) :
    Calls Tryz.prog 41 #[.int .i64 n, .pointer (some ⟨bp, 0, none⟩)] w fun e w' => ∃ hdr', e = .returned (.tuple #[]) ∧ HoldC F0 w0 w' (us ++ boxT bp 39 #[hdr'] :: ownT B0 2 hdr' (vals ++ [.int .i64 n]) :: ts) ∧ Kept (fun k => k = bp ∨ B0 ≤ k) w w' ∧ KeepsOthers w w' := by
  have hbx : Boxed w bp 39 hdr := h.i (t := boxT bp 39 #[hdr]) (by simp)
  have c0 := hbx.cell
  have z0 := hbx.frozen
  have HH := Lib.hid h
  have hown : (ownT B0 2 hdr vals).I w := h.i (t := ownT B0 2 hdr vals) (by simp)
  have HO := Lib.hid hown
  have HA := Lib.hid (h.up (Lw.below_alloc (Below.refl _ w) (.cells #[.int .i64 n] 2)))
  have hbl : bp < w.heap.size := box_lt (h.i (t := boxT bp 39 #[hdr]) (by simp))
  obtain ⟨i0, hi, hi0, hi1, hi2⟩ := info_parts sp64_info
  have HA2 : Hid (HoldC F0 w0 (w.alloc (.cells #[.int .i64 n] 2)) ((us ++ [boxT bp 39 #[hdr]]) ++ ownT B0 2 hdr vals :: ts)) := Lib.hid (by simpa using HA.out)
  clear h hown hbx
  go_enter Tryz.func41, Tryz.ntmps41
  go_wp2_with (at_builtin; (refine app_val rfl _ _ 39 rfl B0 2 i0 (.int .i64 0) 8 sp64s_u hi hi0 hi1 hi2 rfl hdr vals.length vals rfl (HA.out.i (t := ownT B0 2 hdr vals) (by simp)) (.int .i64 n) w.heap.size rfl (cell_one_new _ _ _) rfl (by unfold maxLen; omega) (by omega) (by simp; omega) ?_); intro g cap w7 own7 grow7 hat7 hlt7; have H7 := Lib.hid (HoldC.app HA2.out own7 grow7 hat7); have b7 : Boxed w7 bp 39 hdr := H7.out.i (t := boxT bp 39 #[hdr]) (by simp); have c7 := b7.cell; have z7 := b7.frozen)
  go_returns
  have H8 : HoldC F0 w0 w7 (us ++ boxT bp 39 #[hdr] :: ownT B0 2 (.slice (some ⟨g, 0, none⟩) (vals.length + 1) cap) (vals ++ [.int .i64 n]) :: ts) := by simpa using H7.out
  have hge := own_ge HO.out
  refine ⟨_, rfl, holdc_store H8, ?_, ?_⟩
  · exact (Kept.grown ((Kept.refl (fun k => k = bp ∨ B0 ≤ k) w).alloc _) grow7 (fun q e => .inl (.inr (hge q e)))).set (.inl (.inl rfl)) 0 _
  · have k2 := KeepsOthers.alloc w (.cells #[.int .i64 n] 2)
    have s6 := HA.out.i (t := ownT B0 2 hdr vals) (by simp)
    have k3 : KeepsOthers (w.alloc (.cells #[.int .i64 n] 2)) w7 := KeepsOthers.of_grownBy grow7 (fun j o ej ho => by
      obtain ⟨o', h1, h2⟩ := cel_own s6 j ej
      rw [ho] at h1
      injection h1 with h1
      rw [h1]
      exact h2)
    exact (k2.trans k3).trans (KeepsOthers.setCell w7 ⟨bp, 0, none⟩ _)
end Go.Proofs.YtbifihhfoanmgaaGreat.Spn
/- The code's Copy of a stack. Printed by wip/gen/stk15.py. -/
namespace Go.Proofs.YtbifihhfoanmgaaGreat.Stk
open Go Go.RowKit Lw Grd Lin Con Shp Sk Exa Lev Go.Shelf
set_option linter.unusedVariables false
set_option linter.unusedSimpArgs false
attribute [local go_sem] Oper.semAt_some
def encV (vals : List Value) (x : Lof vals.length) : Array Value := #[vals[x.1]'x.2]
/-- New levels as they came. -/
structure NRow (c : Cfg) (sts : List LS) (N : Nat) (pre : List (Lof N)) (vs : List Value) (ts : List Thing) : Prop where
  lv : vs.length = pre.length
  lt : ts.length = pre.length
  each : ∀ (j : Nat) (x : Lof N), pre[j]? = some x → ∃ st v Q, sts[x.1]? = some st ∧ vs[j]? = some v ∧ ts[j]? = some (elvT v Q c (x.1 : Int) st)
theorem NRow.nil (c : Cfg) (sts : List LS) (N : Nat) : NRow c sts N [] [] [] := ⟨rfl, rfl, fun j x h => by simp at h⟩
theorem NRow.snoc {c : Cfg} {sts : List LS} {N : Nat} {pre : List (Lof N)} {vs : List Value} {ts : List Thing} (h : NRow c sts N pre vs ts) (x : Lof N) (st : LS) (v : Value) (Q : Nat → Prop) (hs : sts[x.1]? = some st) : NRow c sts N (pre ++ [x]) (vs ++ [v]) (ts ++ [elvT v Q c (x.1 : Int) st]) := by
  refine ⟨by simp [h.lv], by simp [h.lt], fun j y hy => ?_⟩
  by_cases hj : j < pre.length
  · rw [List.getElem?_append_left hj] at hy
    rw [List.getElem?_append_left (by rw [h.lv]; exact hj), List.getElem?_append_left (by rw [h.lt]; exact hj)]
    exact h.each j y hy
  · rw [List.getElem?_append_right (by omega)] at hy
    rw [List.getElem?_append_right (by rw [h.lv]; omega), List.getElem?_append_right (by rw [h.lt]; omega), h.lv, h.lt]
    have hj2 : j - pre.length = 0 := by
      have := (List.getElem?_eq_some_iff.1 hy).1
      simp at this
      omega
    rw [hj2] at hy ⊢
    simp at hy
    subst hy
    exact ⟨st, v, Q, hs, rfl, rfl⟩
theorem NRow.row {c : Cfg} {sts : List LS} {N : Nat} {pre : List (Lof N)} {vs : List Value} {ts : List Thing} (h : NRow c sts N pre vs ts) (hup : UpTo pre) (hl : pre.length = sts.length) : LRow elvT c vs ts sts := by
  refine ⟨h.lv.trans hl, h.lt.trans hl, fun j st hj => ?_⟩
  have hj2 := (List.getElem?_eq_some_iff.1 hj).1
  obtain ⟨x, hx⟩ : ∃ x, pre[j]? = some x := ⟨_, List.getElem?_eq_getElem (by omega)⟩
  have hx2 : x.1 = j := by
    have h3 : (pre.map (fun x => x.1))[j]? = some x.1 := by rw [List.getElem?_map, hx]; rfl
    rw [hup, List.getElem?_range (by omega)] at h3
    injection h3 with h3
    exact h3.symm
  obtain ⟨st2, v, Q, e1, e2, e3⟩ := h.each j x hx
  rw [hx2, hj] at e1
  injection e1 with e1
  subst e1
  rw [hx2] at e3
  exact ⟨v, Q, e2, e3⟩
end Go.Proofs.YtbifihhfoanmgaaGreat.Stk
/- The code's stack: its Update; with New, Copy, and what it tells, all contracts of its calls. Printed by wip/gen/stk14.py. -/
namespace Go.Proofs.YtbifihhfoanmgaaGreat.Stk
open Go Go.RowKit Lw Grd Lin Con Shp Sk Exa Lev Go.Shelf
set_option linter.unusedVariables false
set_option linter.unusedSimpArgs false
theorem cs_upd (p : Addr) (F : Nat → Prop) (c : Cfg) (sts : List LS) (k d : Int) (w : World) (h : ST w p F c sts) (k0 : 0 ≤ k) (k1 : k ≤ 18446744073709551615) (d0 : -9223372036854775808 ≤ d) (d1 : d ≤ 9223372036854775807) :
    Calls Tryz.prog 12 #[.pointer (some p), .int .u64 k, .int .i64 d] w fun e w' => e = .returned (.int .i64 (sucode c sts k d)) ∧ ∃ F', ST w' p F' c (sures c sts k d) ∧ Kept F w w' ∧ (∀ q, F' q → F q ∨ w.heap.size ≤ q) := by
  have HS := Lib.hid h
  obtain ⟨hr, hc, hl, b, B0, hdr, vals, ts, rfl, hrow, hI, rfl⟩ := h
  have HH := Lib.hid (st_hold hrow hI)
  have HO := Lib.hid hc
  have HR := Lib.hid hr
  have HL := Lib.hid hl
  have HROW := Lib.hid hrow
  have K0 := Lib.hid k0
  have K1 := Lib.hid k1
  have D0 := Lib.hid d0
  have D1 := Lib.hid d1
  have HB := Lib.hid (HH.out.push (boxT w.heap.size 2 #[.int .i64 d]) (Lw.below_alloc (Below.refl _ _) _) (heap_alloc_new w _) (fun k hk => Nat.le_of_eq hk.symm) (cel_box (heap_alloc_new w _)))
  have c0 := box_cell (HB.out.i (t := skB b c hdr) (by simp)) (i := 0) rfl
  have c1 := box_cell (HB.out.i (t := skB b c hdr) (by simp)) (i := 1) rfl
  have c2 := box_cell (HB.out.i (t := skB b c hdr) (by simp)) (i := 2) rfl
  have c3 := box_cell (HB.out.i (t := skB b c hdr) (by simp)) (i := 3) rfl
  have c4 := box_cell (HB.out.i (t := skB b c hdr) (by simp)) (i := 4) rfl
  by_cases hk : keys c 0 ≤ k
  · have e1 : sucode c sts k d = 2 := if_pos hk
    have e2 : sures c sts k d = sts := by unfold sures; rw [e1]; exact if_neg (by decide)
    rw [e1, e2]
    clear e1 e2 hI hrow hl hr hc k0 k1 d0 d1
    go_enter Tryz.func12, Tryz.ntmps12
    go_wp2_with (go_at_call 32; (with_reducible refine (keys_any c 0 _ HO.out (by omega) (by omega)).mono ?_); rintro e w1 ⟨rfl, hb⟩)
    go_ret
    have hb3 : Below w.heap.size w w1 := (Lw.below_alloc (Below.refl _ w) (.cells #[.int .i64 d] 2)).trans (hb.mono (by simp))
    exact ⟨rfl, _, HS.out.up hb3, Kept.of_below hb3, fun q hq => .inl hq⟩
  · have hk2 : k < keys c 0 := by omega
    have HK := Lib.hid hk2
    have hm0 : ¬ (c.md = 2 ∧ d < 0) ∨ ers c k d 0 sts = 3 := by
      by_cases hm : c.md = 2 ∧ d < 0
      · obtain ⟨st, v, Q, e1, e2, e3⟩ := hrow.at (j := 0) (by omega)
        exact .inr (ers_mode hr k0 hk2 hm e1 (show ELV w v Q c ((0 : Nat) : Int) st from HH.out.i (t := elvT v Q c ((0 : Nat) : Int) st) (List.mem_cons_of_mem _ (List.mem_cons_of_mem _ (List.mem_of_getElem? e3)))))
      · exact .inl hm
    have e1 : sucode c sts k d = ers c k d 0 sts := by
      unfold sucode
      rw [if_neg hk]
      by_cases hm : c.md = 2 ∧ d < 0
      · rw [if_pos hm]
        exact (hm0.resolve_left (fun g => g hm)).symm
      · rw [if_neg hm]
    clear hm0
    by_cases hz : ers c k d 0 sts = 0
    · have e2 : sures c sts k d = rss c k d 0 sts := by unfold sures; rw [e1, if_pos hz]
      rw [e1, e2, hz]
      have HZ := Lib.hid hz
      clear e1 e2 hI hrow hl hr hc k0 k1 d0 d1 hz hk2
      go_enter Tryz.func12, Tryz.ntmps12
      go_wp2_with (first
        | (go_at_call 32; (with_reducible refine (keys_any c 0 _ HO.out (by omega) (by omega)).mono ?_); rintro e w1 ⟨rfl, hb⟩; have HV1 := Lib.hid (HB.out.up hb); clear hb)
        | (go_at_call 34; (with_reducible refine (sabove_any ⟨b, 0, none⟩ k _).mono ?_); rintro e w2 ⟨rfl, rfl⟩)
        | (go_at_call 33; (with_reducible refine (chk_first c HR.out HO.out k d K0.out K1.out HK.out D0.out D1.out sts HL.out w.heap.size b B0 hdr vals ts HROW.out _ _ _ HV1.out).mono ?_); rintro e w3 ⟨rfl, hv3⟩; have HV3 := Lib.hid hv3; clear hv3; rw [HZ.out])
        | (go_at_call 33; (with_reducible refine (upd_first c HR.out HO.out k d K0.out K1.out HK.out D0.out D1.out sts HL.out HZ.out w.heap.size b B0 hdr vals ts HROW.out _ _ _ HV3.out).mono ?_); rintro e w4 ⟨rfl, ts4, hrow4, hv4⟩; have HV4 := Lib.hid hv4; have HR4 := Lib.hid hrow4; clear hv4 hrow4))
      go_ret
      obtain ⟨s1, s2, s3⟩ := st_of HR.out HO.out (by rw [rss_len]; exact HL.out) HR4.out HV4.out.drop
      exact ⟨rfl, _, s1, s2, s3⟩
    · have e2 : sures c sts k d = sts := by unfold sures; rw [e1]; exact if_neg hz
      rw [e1, e2]
      obtain ⟨E, hE⟩ : ∃ E, ers c k d 0 sts = E := ⟨_, rfl⟩
      have HE := Lib.hid hE
      rw [hE] at hz ⊢
      clear e1 e2 hI hrow hl hr hc k0 k1 d0 d1 hE hk2
      go_enter Tryz.func12, Tryz.ntmps12
      go_wp2_with (first
        | (go_at_call 32; (with_reducible refine (keys_any c 0 _ HO.out (by omega) (by omega)).mono ?_); rintro e w1 ⟨rfl, hb⟩; have HV1 := Lib.hid (HB.out.up hb); clear hb)
        | (go_at_call 34; (with_reducible refine (sabove_any ⟨b, 0, none⟩ k _).mono ?_); rintro e w2 ⟨rfl, rfl⟩)
        | (go_at_call 33; (with_reducible refine (chk_first c HR.out HO.out k d K0.out K1.out HK.out D0.out D1.out sts HL.out w.heap.size b B0 hdr vals ts HROW.out _ _ _ HV1.out).mono ?_); rintro e w3 ⟨rfl, hv3⟩; have HV3 := Lib.hid hv3; clear hv3; rw [HE.out]))
      go_ret
      obtain ⟨s1, s2, s3⟩ := st_of HR.out HO.out HL.out HROW.out HV3.out.drop
      exact ⟨rfl, _, s1, s2, s3⟩
end Go.Proofs.YtbifihhfoanmgaaGreat.Stk
