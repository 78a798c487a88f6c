/- The statement StackWhole of layer 15 holds: an update that is refused changes nothing at any level; a copy is a stack of its own, and so is a level that is told. Printed by wip/gen/stk8.py. -/
import Derived.Test.YtccabgeeglhagaaMd
import Derived.Test.YtccabgeeglhagaaMf
import Derived.Test.YtccabgeeglhagaaMg
import Derived.Test.YtccabgeeglhagaaMj
import Derived.Deep.LoopGhost
import Derived.Deep.RegionHeld3
import Derived.Deep.DeepCutAuto
import Derived.Deep.QuietTactic
import Derived.BigQuiet
namespace Go.Proofs.Ytccabgeeglhagaa.Stk
open Go Go.RowKit Lw Grd Lin Con Shp Sk Exa Lev
set_option linter.unusedVariables false
set_option linter.unusedSimpArgs false
theorem box2u {w : World} {b : Nat} {e : TypeId} {v0 v1 : Value} (h : (boxT b e #[v0, v1]).I w) : w.cell? ⟨b, 0, none⟩ = some v0 ∧ w.cell? ⟨b, 1, none⟩ = some v1 := ⟨box_cell h rfl, box_cell h rfl⟩
theorem at_A (p : Addr) (F : Nat → Prop) (c : Cfg) (Z : List LS) (n : Nat) (L : List Int) (w : World) (h : ST w p F c Z) (hn : Z[n]? = some (.A L)) :
    Calls Try.prog 24 #[.pointer (some p), .int .i64 n] w fun e w' => ∃ (q : Addr) (Q : Nat → Prop), e = .returned (.tuple #[.iface 97 (.pointer (some q)), .bool true]) ∧ (exT q Q c n L).I w' ∧ (∀ k, (exT q Q c n L).F k → w.heap.size ≤ k) ∧ Below w.heap.size w w' := by
  refine (cs_at p F c Z n _ w h hn).mono ?_
  rintro e w' ⟨v, Q, rfl, ⟨_, q, rfl, he⟩, hq, hb⟩
  exact ⟨q, Q, rfl, he, hq, hb⟩
theorem at_S (p : Addr) (F : Nat → Prop) (c : Cfg) (Z : List LS) (n : Nat) (L : List (List Int)) (w : World) (h : ST w p F c Z) (hn : Z[n]? = some (.S L)) :
    Calls Try.prog 24 #[.pointer (some p), .int .i64 n] w fun e w' => ∃ (q : Addr) (Q : Nat → Prop), e = .returned (.tuple #[.iface 96 (.pointer (some q)), .bool true]) ∧ (skT q Q c n L).I w' ∧ (∀ k, (skT q Q c n L).F k → w.heap.size ≤ k) ∧ Below w.heap.size w w' := by
  refine (cs_at p F c Z n _ w h hn).mono ?_
  rintro e w' ⟨v, Q, rfl, ⟨_, q, rfl, he⟩, hq, hb⟩
  exact ⟨q, Q, rfl, he, hq, hb⟩
theorem at_m1 (p : Addr) (F : Nat → Prop) (c : Cfg) (Z : List LS) (w : World) (h : ST w p F c Z) :
    Calls Try.prog 24 #[.pointer (some p), .int .i64 (-1)] w fun e w' => e = .returned (.tuple #[.nilIface, .bool false]) ∧ Below w.heap.size w w' := cs_atno p F c Z (-1) w h (.inl (by omega)) (by omega) (by omega)
theorem up_zero (n : Nat) : upK 0 n = 0 := by unfold upK; simp
theorem one_ok {c : Cfg} (hr : IsRight c) {us : Ups} (h : UpsIn c 0 us) (hl : us.length ≤ 60) (hk : 1 ≤ keys c 0) {n : Nat} (hn : (n : Int) ≤ c.bt) : lsCode c n (stOf c us n) 0 1 = 0 := by
  have h1 := (stOf_step hr h hl (u := (0, 1)) ⟨fun u hu => by rw [List.mem_singleton.1 hu]; exact ⟨Int.le_refl _, by show (0 : Int) < _; omega, by show (-1099511627776 : Int) ≤ 1; omega, by show (1 : Int) ≤ 1099511627776; omega⟩, fun _ u hu => by rw [List.mem_singleton.1 hu]; show (0 : Int) ≤ 1; omega⟩ hn).1
  simp only [up_zero] at h1
  exact h1
theorem le_k64 {n : Nat} (h : n ≤ 1024) : n ≤ 9223372036854775807 := by omega
theorem nw1 {n : Nat} (h : n ≤ 60) : IntKind.i64.wrap ((n : Int) + 1) = ((n + 1 : Nat) : Int) := by rw [IntWalk.i64_in _ ⟨by omega, by omega⟩]; rfl
theorem nw2 {n : Nat} (h : n ≤ 60) : wrap64 ((n : Int) + 1) = ((n + 1 : Nat) : Int) := by rw [IntWalk.wrap64_in _ ⟨by omega, by omega⟩]; rfl
/-- The code of an update tells that there is no such key just where there is none. -/
theorem ers_two {c : Cfg} (hr : IsRight c) {us : Ups} (k d : Int) (k0 : 0 ≤ k) (hk : k < keys c 0) : ers c k d 0 (stsOf c us) ≠ 2 := by
  intro he
  have hb := hr.1
  obtain ⟨j, st, hj, hc⟩ : ∃ (j : Nat) (st : LS), (stsOf c us)[j]? = some st ∧ lsCode c ((0 + j : Nat) : Int) st (upK k (0 + j)) d = 2 := by
    rcases Classical.em (∀ (i : Nat) (s : LS), (stsOf c us)[i]? = some s → lsCode c ((0 + i : Nat) : Int) s (upK k (0 + i)) d = 0) with h1 | h1
    · rw [ers_none c k d 0 _ h1] at he
      cases he
    · have h2 : ∃ i, ∃ s, (stsOf c us)[i]? = some s ∧ ¬ lsCode c ((0 + i : Nat) : Int) s (upK k (0 + i)) d = 0 := by
        refine Classical.byContradiction (fun h3 => h1 (fun i s hs => Classical.byContradiction (fun h4 => h3 ⟨i, s, hs, h4⟩)))
      obtain ⟨i, ⟨s, hs, h4⟩, hmin⟩ := exists_least h2
      rw [ers_first c k d 0 _ i s (fun q t hq ht => Classical.byContradiction (fun h5 => by have := hmin q ⟨t, ht, h5⟩; omega)) hs h4] at he
      exact ⟨i, s, hs, he⟩
  have hjl := (List.getElem?_eq_some_iff.1 hj).1
  rw [stsOf_len] at hjl
  rw [stsOf_get hjl] at hj
  injection hj with hj
  subst hj
  rw [Nat.zero_add] at hc
  have hkk := upK_keys hr (k := k) (n := j) k0 hk (by omega)
  unfold stOf at hc
  by_cases hx : exactB c j = true
  · rw [if_pos hx] at hc
    have hc2 : exCode c.md (sums (keys c j).toNat (upN us j)) (upK k j) d = 2 := hc
    unfold exCode at hc2
    rw [if_neg (by rw [sums_len]; omega)] at hc2
    repeat' (first | (cases hc2; done) | split at hc2)
  · rw [if_neg hx] at hc
    have hc2 : upCode c j (cells c j (upN us j)) (upK k j) d = 2 := hc
    unfold upCode rsCode chCode at hc2
    rw [if_neg (by omega)] at hc2
    repeat' (first | (cases hc2; done) | split at hc2)
theorem stS_len {c : Cfg} (hr : IsRight c) {us : Ups} (h : UpsIn c 0 us) {n : Nat} (hn : (n : Int) ≤ c.bt) {L : List (List Int)} (he : stOf c us n = .S L) : L.flatten.length = rws c * wds c := by
  have hs := cells_sz (upN_in hr h hn)
  unfold stOf at he
  split at he
  · cases he
  · injection he with he
    subst he
    rw [List.length_flatten, List.map_congr_left (g := fun _ => wds c) (fun r hr2 => hs.2 r hr2), List.map_const', List.sum_replicate_nat, hs.1]
theorem lev_cellsA (q : Addr) (Q : Nat → Prop) (c : Cfg) (l : Int) (L LL : List Int) (w : World) (h : EX w q Q c l L) (hL : L = LL) :
    Calls Try.prog 118 #[.pointer (some q)] w fun e w' => ∃ (A : Option Addr) (cap : Nat), e = .returned (.slice A LL.length cap) ∧ (rdT A LL).I w' ∧ (∀ k, (rdT A LL).F k → w.heap.size ≤ k) ∧ Below w.heap.size w w' := by
  subst hL
  refine (ecells_mid q Q c l L w h).mono ?_
  rintro e w' ⟨g, cap, rfl, hm, hg, _, _, hb⟩
  exact ⟨_, cap, rfl, ⟨hm.rd, fun a e => by injection e with e; subst e; exact hm.lt⟩, fun k hk => by obtain ⟨a, e, rfl⟩ := hk; injection e with e; subst e; exact hg, hb⟩
theorem lev_cellsS (q : Addr) (Q : Nat → Prop) (c : Cfg) (l : Int) (L : List (List Int)) (LL : List Int) (w : World) (h : SK w q Q c l L) (hL : L.flatten = LL) (hl : L.flatten.length = rws c * wds c) :
    Calls Try.prog 83 #[.pointer (some q)] w fun e w' => ∃ (A : Option Addr) (cap : Nat), e = .returned (.slice A LL.length cap) ∧ (rdT A LL).I w' ∧ (∀ k, (rdT A LL).F k → w.heap.size ≤ k) ∧ Below w.heap.size w w' := by
  subst hL
  refine (scells_mid q Q c l L w h).mono ?_
  rintro e w' ⟨g, cap, rfl, hm, hg, _, _, hb⟩
  exact ⟨_, cap, by rw [hl], ⟨hm.rd, fun a e => by injection e with e; subst e; exact hm.lt⟩, fun k hk => by obtain ⟨a, e, rfl⟩ := hk; injection e with e; subst e; exact hg, hb⟩
theorem open_upd_c : Try.prog.cellsOf 36 = 2 := by kernel_rfl
set_option maxRecDepth 100000 in
theorem open_upd {H : Type} {enc : TypeId × Value → H} {w : World} {v : Value} {d : DataW H} {p : List MemPlace} {base : Nat} (hv : Value.okWide Try.prog w .any base 36 v)
    (h : DataW.Trod enc Try.prog w 0 (fun _ => true) true 36 v d p) :
    ∃ (x0 : Int) (x1 : Int), v = .agg #[.int .u64 x0, .int .i64 x1] ∧ (0 ≤ x0 ∧ x0 ≤ 18446744073709551615) ∧ (-9223372036854775808 ≤ x1 ∧ x1 ≤ 9223372036854775807) := by
  have hcs : ∃ cs : Array Value, v = .agg cs ∧ cs.size = Try.prog.cellsOf 36 := by
    simp only [Value.okWide, Try.underlying36] at hv
    obtain ⟨cs, h1, h2, _⟩ := hv
    exact ⟨cs, h1, h2⟩
  obtain ⟨⟨l⟩, rfl, hsz⟩ := hcs
  rw [open_upd_c] at hsz
  obtain ⟨fuel, hf0⟩ := h
  obtain ⟨xs, k, _, _, _, hxl, hf⟩ := DataW.trod_struct Try.underlying36 hf0
  match xs, hxl, l, hsz with
  | [y0, y1], _, [v0, v1], _ =>
    have g0 := hf 0 _ rfl
    have g1 := hf 1 _ rfl
    simp [Value.cells, show Try.prog.cellsOf 22 = 1 from by kernel_rfl, show Try.prog.cellsOf 2 = 1 from by kernel_rfl] at g0 g1
    obtain ⟨x0, f0, _, w0⟩ := DataW.trod_int (show Try.prog.underlying 22 = some (.int .u64) by kernel_rfl) g0
    simp at f0
    subst f0
    obtain ⟨x1, f1, _, w1⟩ := DataW.trod_int (show Try.prog.underlying 2 = some (.int .i64) by kernel_rfl) g1
    simp at f1
    subst f1
    exact ⟨x0, x1, rfl, Lw.wf_u64 w0, Lw.wf_i64 w1⟩
set_option maxRecDepth 100000 in
set_option maxHeartbeats 40000000 in
theorem whole_y (x : Cfg) (A : Option Addr) (n0 k0 : Nat) (qs : Ups) (k d : Int) (w : World) (hx : x.Ok) (hq : UpdV w A n0 k0 qs) (kb : 0 ≤ k ∧ k ≤ 18446744073709551615) (db : -9223372036854775808 ≤ d ∧ d ≤ 9223372036854775807) (c : Cfg) (hC : anyC x 10 9 = c) (hE : sucode c (stsOf c (upsR c 0 qs 0 60)) k d = 0) :
    Calls Try.prog 7 #[.agg #[.int .i64 x.bt, .int .i64 x.rw, .int .i64 x.wd, .int .i64 x.md, .int .u64 x.sd, .slice A n0 k0], .agg #[.int .u64 k, .int .i64 d]] w fun e w' => e = .returned (.bool true) ∧ Below w.heap.size w w' := by
  have hr := any_right x 10 9 (by omega) (by omega) (by omega) (by omega)
  have hco := any_ok x hx 10 9 (by omega) (by omega) (by omega) (by omega)
  have FD := Lib.hid (fun w hq => fed_z x A n0 k0 qs 0 60 0 60 c w hx hq rfl rfl (by omega) (by omega) hC)
  rw [hC] at hr hco
  have hbt := hr.1
  have hb5 := hr.2.1
  have hkeys : 1 ≤ keys c 0 := keys_pos.2 ⟨hr, by omega, by omega⟩
  have hin := upsR_in hkeys qs 0 60
  have hlen := upsR_len c 0 qs 0 60
  have CK := Lib.hid (fun w => rkeys_any c 0 w hco (by omega) (by omega))
  obtain ⟨us, hus⟩ : ∃ us, upsR c 0 qs 0 60 = us := ⟨_, rfl⟩
  rw [hus] at FD hin hlen hE
  have HONE := Lib.hid (fun (n : Nat) (hn : (n : Int) ≤ c.bt) => one_ok hr hin hlen hkeys (n := n) hn)
  have HLV := Lib.hid (fun (n : Nat) (hn : (n : Int) ≤ c.bt) => lv_size hr hin (n := n) hn)
  have HLVN := Lib.hid (fun (n : Nat) (hn : (n : Int) ≤ c.bt) => lv_at hr us (n := n) hn)
  have HGET := Lib.hid (fun (n : Nat) (hn : n < c.bt.toNat + 1) => stsOf_get (c := c) (us := us) (n := n) hn)
  have HSL := Lib.hid (fun (n : Nat) (L : List (List Int)) (hn : (n : Int) ≤ c.bt) h => stS_len (L := L) hr hin (n := n) hn h)
  skip
  obtain ⟨KY, hKY⟩ : ∃ KY, keys c 0 = KY := ⟨_, rfl⟩
  rw [hKY] at CK
  clear hKY
  obtain ⟨Z, hZ⟩ : ∃ Z, stsOf c us = Z := ⟨_, rfl⟩
  rw [hZ] at FD HLV HLVN HGET hE
  have CU := Lib.hid (fun t T w hs => cs_upd t T c Z k d w hs kb.1 kb.2 db.1 db.2)
  have CCP := Lib.hid (fun p F w hs => cs_copy p F c Z w hs)
  have CM1 := Lib.hid (fun p F w hs => at_m1 p F c Z w hs)
  have CNO := Lib.hid (fun p F w hs => cs_atno p F c Z (c.bt + 1) w hs (.inr (by omega)) (by omega) (by omega))
  have HZ2 : Hid (True) := Lib.hid (True.intro)
  obtain ⟨Z2, hZ2⟩ : ∃ Z2, sures c Z k d = Z2 := ⟨_, rfl⟩
  rw [hZ2] at CU
  obtain ⟨E, hEE⟩ : ∃ E, sucode c Z k d = E := ⟨_, rfl⟩
  rw [hEE] at CU hE
  have g0 : (E != 0) = false := by rw [hE]; rfl
  have g1 : (E == 0) = true := by rw [hE]; rfl
  have g2 : (E != 2) = true := by rw [hE]; rfl
  have g3 : (E == 2) = false := by rw [hE]; rfl
  have hw1 : IntKind.i64.wrap (c.bt + 1) = c.bt + 1 := IntWalk.i64_in _ ⟨by omega, by omega⟩
  have hw2 : wrap64 (c.bt + 1) = c.bt + 1 := IntWalk.wrap64_in _ ⟨by omega, by omega⟩
  have HW1 := Lib.hid hw1
  have HW2 := Lib.hid hw2
  have HQ := Lib.hid hq
  have HBX : Hid (Have w ((w.alloc (.cells #[.int .i64 x.bt, .int .i64 x.rw, .int .i64 x.wd, .int .i64 x.md, .int .u64 x.sd, .slice A n0 k0] 27)).alloc (.cells #[.int .u64 k, .int .i64 d] 36)) [boxT (w.heap.size + 1) 36 #[.int .u64 k, .int .i64 d], boxT w.heap.size 27 #[.int .i64 x.bt, .int .i64 x.rw, .int .i64 x.wd, .int .i64 x.md, .int .u64 x.sd, .slice A n0 k0]]) := Lib.hid (two_boxs w _ _ _ _)
  clear hr hco hkeys hin hlen hus hZ hZ2 hEE hE hx hq hC hw1 hw2 kb db
  go_enter Try.func7, Try.ntmps7
  go_wp2_with (first
    | (go_at_call 23; (with_reducible refine (CU.out t T _ (stI HV4.out.i0)).mono ?_); rintro e w5 ⟨rfl, T2, h1, h2, h3⟩; have HV5 := Lib.hid (HV4.out.turn_0 (stT t T2 c Z2) h1 h2 h3); clear h1 h2 h3)
    | (go_at_call 22; (with_reducible refine (CCP.out p F _ (stI HV3.out.i1)).mono ?_); rintro e w4 ⟨t, T, rfl, h1, h2, hb⟩; have HV4 := Lib.hid (HV3.out.push (stT t T c Z) hb h1 h2); clear h1 h2 hb; obtain ⟨y0, y1⟩ := box2u HV4.out.i3)
    | (go_at_call 10; (with_reducible refine (FD.out _ (HQ.out.up HV1.out.below)).mono ?_); rintro e w2 ⟨p, F, rfl, hv⟩; have HV2 := Lib.hid (HV1.out.join hv); simp only [List.cons_append, List.nil_append] at HV2; clear hv; have HV3 := Lib.hid (HV2.out.push (boxT w2.heap.size 24 #[.int .i64 c.bt, .int .i64 c.rw, .int .i64 c.wd, .int .i64 c.md, .int .u64 c.sd]) (Lw.below_alloc (Below.refl _ _) _) (heap_alloc_new w2 _) (fun k hk => Nat.le_of_eq hk.symm)); clear x0 x1 x2 x3 x4 x5)
    | (go_at_call 9; (with_reducible refine (shown_any _).mono ?_); rintro e w1 ⟨rfl, hb⟩; have HV1 := Lib.hid (HBX.out.up hb); clear hb; obtain ⟨x0, x1, x2, x3, x4, x5⟩ := box6 HV1.out.i1))
  obtain ⟨gc, hgc⟩ : ∃ g, w2.heap.size = g := ⟨_, rfl⟩
  obtain ⟨gu, hgu⟩ : ∃ g, w.heap.size + 1 = g := ⟨_, rfl⟩
  rw [hgc, hgu] at HV5
  rw [hgc, hgu]
  clear HV1 HV2 HV3 HV4 HBX hgc y0 y1 CU CCP
  go_loopw [10] (fun iv wr => ∃ (n : Nat), (n : Int) ≤ c.bt + 1 ∧ iv = .int .i64 n ∧ Have w wr [stT t T2 c Z2, boxT gc 24 #[.int .i64 c.bt, .int .i64 c.rw, .int .i64 c.wd, .int .i64 c.md, .int .u64 c.sd], stT p F c Z, boxT gu 36 #[.int .u64 k, .int .i64 d], boxT w.heap.size 27 #[.int .i64 x.bt, .int .i64 x.rw, .int .i64 x.wd, .int .i64 x.md, .int .u64 x.sd, .slice A n0 k0]]) (fun iv _ => 100 - (intOf iv).toNat)
  case atStart => exact ⟨0, by omega, rfl, HV5.out⟩
  case round =>
    obtain ⟨n, hn, rfl, hv⟩ := hrel
    have HVr := Lib.hid hv
    clear hv
    obtain ⟨e1, e2, e3, e4, e5⟩ := box5 HVr.out.i1
    obtain ⟨x0, x1, x2, x3, x4, x5⟩ := box6 HVr.out.i4
    by_cases hlt : (n : Int) ≤ c.bt
    · cases hst : stOf c us n with
      | A L =>
        have hgt := HGET.out n (by omega)
        rw [hst] at hgt
        have hone := HONE.out n hlt
        rw [hst] at hone
        obtain ⟨LL, hLL⟩ : ∃ LL, LL = L := ⟨_, rfl⟩
        have hlvn := HLVN.out n hlt
        rw [hst] at hlvn
        have hlv := HLV.out n hlt
        have hlvn2 : lvFl Z n = LL := by rw [hLL]; exact hlvn
        rw [hlvn2] at hlv
        have HL2 := Lib.hid hlv.2
        have CR := Lib.hid (fun p F w hs => cs_row p F c Z n LL w hs (by omega) hlvn2 hlv.1 hlv.2)
        have CA := Lib.hid (fun w hs => at_A p F c Z n L w hs hgt)
        have CLV := Lib.hid (fun q Q w (h : EX w q Q c n L) => elevel_any q Q c n L w h)
        skip
        have CCE := Lib.hid (fun q Q w (h : EX w q Q c n L) => lev_cellsA q Q c n L LL w h hLL.symm)
        have CUP := Lib.hid (fun q Q w (h : EX w q Q c n L) => eupd_any q Q c n L 0 1 w h (by omega) (by omega) (by omega) (by omega))
        have hc0 : exCode c.md L 0 1 = 0 := hone
        rw [hc0] at CUP
        have hwn1 : IntKind.i64.wrap ((n : Int) + 1) = ((n + 1 : Nat) : Int) := nw1 (by omega)
        have hwn2 : wrap64 ((n : Int) + 1) = ((n + 1 : Nat) : Int) := nw2 (by omega)
        have hdl : decide (LL = LL) = true := decide_eq_true rfl
        clear hgt hone hLL hlvn hlvn2 hlv hc0 hst
        go_wp2_with (first
          | (go_at_call 15; (with_reducible refine (rsame_any _ _ _ _ _ _ LL LL _ (rdI HVp.out.i1) (rdI HVp.out.i0) rfl rfl (le_k64 HL2.out) (le_k64 HL2.out)).mono ?_); rintro e wq ⟨rfl, hb⟩; have HVq := Lib.hid (HVp.out.up hb).drop_0.drop_0; clear hb)
          | (go_at_call 16; (with_reducible refine (CR.out r R _ (stI HVo.out.i2)).mono ?_); rintro e wp ⟨Awp, cwp, rfl, h1, h2, hb⟩; have HVp := Lib.hid (HVo.out.push (rdT Awp LL) hb h1 h2); clear h1 h2 hb)
          | (go_at_call 16; (with_reducible refine (CR.out p F _ (stI HVn.out.i4)).mono ?_); rintro e wo ⟨Awo, cwo, rfl, h1, h2, hb⟩; have HVo := Lib.hid (HVn.out.push (rdT Awo LL) hb h1 h2); clear h1 h2 hb)
          | (go_at_call 124; (with_reducible refine (CUP.out q Q _ (exI HVm.out.i0)).mono ?_); rintro e wn ⟨rfl, Q2, h1, h2, h3⟩; have HVn := Lib.hid (HVm.out.turn_0 (exT q Q2 c n (exRes c.md L 0 1)) h1 h2 h3); clear h1 h2 h3)
          | (go_at_call 15; (with_reducible refine (rsame_any _ _ _ _ _ _ LL LL _ (rdI HVl.out.i1) (rdI HVl.out.i0) rfl rfl (le_k64 HL2.out) (le_k64 HL2.out)).mono ?_); rintro e wm ⟨rfl, hb⟩; have HVm := Lib.hid (HVl.out.up hb).drop_0.drop_0; clear hb)
          | (go_at_call 16; (with_reducible refine (CR.out p F _ (stI HVk.out.i5)).mono ?_); rintro e wl ⟨Awl, cwl, rfl, h1, h2, hb⟩; have HVl := Lib.hid (HVk.out.push (rdT Awl LL) hb h1 h2); clear h1 h2 hb)
          | (go_at_call 118; (with_reducible refine (CCE.out q Q _ (exI HVj.out.i0)).mono ?_); rintro e wk ⟨Awk, cwk, rfl, h1, h2, hb⟩; have HVk := Lib.hid (HVj.out.push (rdT Awk LL) hb h1 h2); clear h1 h2 hb)
          | (go_at_call 121; (with_reducible refine (CLV.out q Q _ (exI HVi.out.i0)).mono ?_); rintro e wj ⟨rfl, hb⟩; have HVj := Lib.hid (HVi.out.up hb); clear hb)
          | (go_at_call 24; (with_reducible refine (CA.out _ (stI HVe.out.i3)).mono ?_); rintro e wi ⟨q, Q, rfl, h1, h2, hb⟩; have HVi := Lib.hid (HVe.out.push (exT q Q c n L) hb h1 h2); clear h1 h2 hb)
          | (go_at_call 15; (with_reducible refine (rsame_any _ _ _ _ _ _ LL LL _ (rdI HVd.out.i1) (rdI HVd.out.i0) rfl rfl (le_k64 HL2.out) (le_k64 HL2.out)).mono ?_); rintro e we ⟨rfl, hb⟩; have HVe := Lib.hid (HVd.out.up hb).drop_0.drop_0; clear hb)
          | (go_at_call 16; (with_reducible refine (CR.out r R _ (stI HVc.out.i1)).mono ?_); rintro e wd ⟨Awd, cwd, rfl, h1, h2, hb⟩; have HVd := Lib.hid (HVc.out.push (rdT Awd LL) hb h1 h2); clear h1 h2 hb)
          | (go_at_call 16; (with_reducible refine (CR.out p F _ (stI HVb.out.i3)).mono ?_); rintro e wc ⟨Awc, cwc, rfl, h1, h2, hb⟩; have HVc := Lib.hid (HVb.out.push (rdT Awc LL) hb h1 h2); clear h1 h2 hb)
          | (go_at_call 10; (with_reducible refine (FD.out _ (HQ.out.up HVr.out.below)).mono ?_); rintro e wa ⟨r, R, rfl, hv⟩; have HVa := Lib.hid (HVr.out.join hv); simp only [List.cons_append, List.nil_append] at HVa; clear hv; have HVb := Lib.hid (HVa.out.push (boxT wa.heap.size 24 #[.int .i64 c.bt, .int .i64 c.rw, .int .i64 c.wd, .int .i64 c.md, .int .u64 c.sd]) (Lw.below_alloc (Below.refl _ _) _) (heap_alloc_new wa _) (fun k hk => Nat.le_of_eq hk.symm)).drop_0))
        go_roundw
        case rel => exact ⟨n + 1, by omega, by go_num, HVq.out.drop_0.drop_0⟩
        case measure => simp [intOf]; omega
      | S L =>
        have hgt := HGET.out n (by omega)
        rw [hst] at hgt
        have hone := HONE.out n hlt
        rw [hst] at hone
        obtain ⟨LL, hLL⟩ : ∃ LL, LL = L.flatten := ⟨_, rfl⟩
        have hlvn := HLVN.out n hlt
        rw [hst] at hlvn
        have hlv := HLV.out n hlt
        have hlvn2 : lvFl Z n = LL := by rw [hLL]; exact hlvn
        rw [hlvn2] at hlv
        have HL2 := Lib.hid hlv.2
        have CR := Lib.hid (fun p F w hs => cs_row p F c Z n LL w hs (by omega) hlvn2 hlv.1 hlv.2)
        have CA := Lib.hid (fun w hs => at_S p F c Z n L w hs hgt)
        have CLV := Lib.hid (fun q Q w (h : SK w q Q c n L) => slevel_any q Q c n L w h)
        have hsl := HSL.out n L hlt hst
        have CCE := Lib.hid (fun q Q w (h : SK w q Q c n L) => lev_cellsS q Q c n L LL w h hLL.symm hsl)
        have CUP := Lib.hid (fun q Q w (h : SK w q Q c n L) => supd_any q Q c n L 0 1 w h (by omega) (by omega) (by omega) (by omega))
        have hc0 : upCode c n L 0 1 = 0 := hone
        rw [hc0] at CUP
        have hwn1 : IntKind.i64.wrap ((n : Int) + 1) = ((n + 1 : Nat) : Int) := nw1 (by omega)
        have hwn2 : wrap64 ((n : Int) + 1) = ((n + 1 : Nat) : Int) := nw2 (by omega)
        have hdl : decide (LL = LL) = true := decide_eq_true rfl
        clear hgt hone hLL hlvn hlvn2 hlv hc0 hst
        go_wp2_with (first
          | (go_at_call 15; (with_reducible refine (rsame_any _ _ _ _ _ _ LL LL _ (rdI HVp.out.i1) (rdI HVp.out.i0) rfl rfl (le_k64 HL2.out) (le_k64 HL2.out)).mono ?_); rintro e wq ⟨rfl, hb⟩; have HVq := Lib.hid (HVp.out.up hb).drop_0.drop_0; clear hb)
          | (go_at_call 16; (with_reducible refine (CR.out r R _ (stI HVo.out.i2)).mono ?_); rintro e wp ⟨Awp, cwp, rfl, h1, h2, hb⟩; have HVp := Lib.hid (HVo.out.push (rdT Awp LL) hb h1 h2); clear h1 h2 hb)
          | (go_at_call 16; (with_reducible refine (CR.out p F _ (stI HVn.out.i4)).mono ?_); rintro e wo ⟨Awo, cwo, rfl, h1, h2, hb⟩; have HVo := Lib.hid (HVn.out.push (rdT Awo LL) hb h1 h2); clear h1 h2 hb)
          | (go_at_call 89; (with_reducible refine (CUP.out q Q _ (skI HVm.out.i0)).mono ?_); rintro e wn ⟨rfl, Q2, h1, h2, h3⟩; have HVn := Lib.hid (HVm.out.turn_0 (skT q Q2 c n (upRes c n L 0 1)) h1 h2 h3); clear h1 h2 h3)
          | (go_at_call 15; (with_reducible refine (rsame_any _ _ _ _ _ _ LL LL _ (rdI HVl.out.i1) (rdI HVl.out.i0) rfl rfl (le_k64 HL2.out) (le_k64 HL2.out)).mono ?_); rintro e wm ⟨rfl, hb⟩; have HVm := Lib.hid (HVl.out.up hb).drop_0.drop_0; clear hb)
          | (go_at_call 16; (with_reducible refine (CR.out p F _ (stI HVk.out.i5)).mono ?_); rintro e wl ⟨Awl, cwl, rfl, h1, h2, hb⟩; have HVl := Lib.hid (HVk.out.push (rdT Awl LL) hb h1 h2); clear h1 h2 hb)
          | (go_at_call 83; (with_reducible refine (CCE.out q Q _ (skI HVj.out.i0)).mono ?_); rintro e wk ⟨Awk, cwk, rfl, h1, h2, hb⟩; have HVk := Lib.hid (HVj.out.push (rdT Awk LL) hb h1 h2); clear h1 h2 hb)
          | (go_at_call 86; (with_reducible refine (CLV.out q Q _ (skI HVi.out.i0)).mono ?_); rintro e wj ⟨rfl, hb⟩; have HVj := Lib.hid (HVi.out.up hb); clear hb)
          | (go_at_call 24; (with_reducible refine (CA.out _ (stI HVe.out.i3)).mono ?_); rintro e wi ⟨q, Q, rfl, h1, h2, hb⟩; have HVi := Lib.hid (HVe.out.push (skT q Q c n L) hb h1 h2); clear h1 h2 hb)
          | (go_at_call 15; (with_reducible refine (rsame_any _ _ _ _ _ _ LL LL _ (rdI HVd.out.i1) (rdI HVd.out.i0) rfl rfl (le_k64 HL2.out) (le_k64 HL2.out)).mono ?_); rintro e we ⟨rfl, hb⟩; have HVe := Lib.hid (HVd.out.up hb).drop_0.drop_0; clear hb)
          | (go_at_call 16; (with_reducible refine (CR.out r R _ (stI HVc.out.i1)).mono ?_); rintro e wd ⟨Awd, cwd, rfl, h1, h2, hb⟩; have HVd := Lib.hid (HVc.out.push (rdT Awd LL) hb h1 h2); clear h1 h2 hb)
          | (go_at_call 16; (with_reducible refine (CR.out p F _ (stI HVb.out.i3)).mono ?_); rintro e wc ⟨Awc, cwc, rfl, h1, h2, hb⟩; have HVc := Lib.hid (HVb.out.push (rdT Awc LL) hb h1 h2); clear h1 h2 hb)
          | (go_at_call 10; (with_reducible refine (FD.out _ (HQ.out.up HVr.out.below)).mono ?_); rintro e wa ⟨r, R, rfl, hv⟩; have HVa := Lib.hid (HVr.out.join hv); simp only [List.cons_append, List.nil_append] at HVa; clear hv; have HVb := Lib.hid (HVa.out.push (boxT wa.heap.size 24 #[.int .i64 c.bt, .int .i64 c.rw, .int .i64 c.wd, .int .i64 c.md, .int .u64 c.sd]) (Lw.below_alloc (Below.refl _ _) _) (heap_alloc_new wa _) (fun k hk => Nat.le_of_eq hk.symm)).drop_0))
        go_roundw
        case rel => exact ⟨n + 1, by omega, by go_num, HVq.out.drop_0.drop_0⟩
        case measure => simp [intOf]; omega
    · obtain ⟨u0, u1⟩ := box2u HVr.out.i3
      have hw1 := HW1.out
      have hw2 := HW2.out
      go_upto_region 23 with (first
        | (go_at_call 24; (with_reducible refine (CM1.out p F _ (stI HVa.out.i2)).mono ?_); rintro e wb ⟨rfl, hb⟩; have HVb := Lib.hid (HVa.out.up hb); clear hb)
        | (go_at_call 24; (with_reducible refine (CNO.out p F _ (stI HVr.out.i2)).mono ?_); rintro e wa ⟨rfl, hb⟩; have HVa := Lib.hid (HVr.out.up hb); clear hb))
      refine wp_region_held_drew (S := (fun w' => True)) (by kernel_rfl) (by exact True.intro) (fun hHeld => ?_)
      refine wpAnyH_take (i := 0) (v := ?_) rfl (by kernel_rfl) (by kernel_rfl) (by kernel_rfl) (fun _ _ _ h => h) (Or.inl ⟨by rfl, ?_⟩) hHeld ?_
      rotate_left
      · intro w hSw
        (try dsimp only at hSw)
        go_simp
        (try with_reducible rfl)
      (try simp only [List.getElem_toArray, List.getElem_cons_zero, List.getElem_cons_succ, Act.put, List.setIfInBounds_toArray, List.set_cons_zero, List.set_cons_succ])
      refine wpAnyH_take (i := 1) (v := ?_) rfl (by kernel_rfl) (by kernel_rfl) (by kernel_rfl) (fun _ _ _ h => h) (Or.inl ⟨by rfl, ?_⟩) hHeld ?_
      rotate_left
      · intro w hSw
        (try dsimp only at hSw)
        go_simp
        (try with_reducible rfl)
      (try simp only [List.getElem_toArray, List.getElem_cons_zero, List.getElem_cons_succ, Act.put, List.setIfInBounds_toArray, List.set_cons_zero, List.set_cons_succ])
      refine wpAnyH_take (i := 2) (v := ?_) rfl (by kernel_rfl) (by kernel_rfl) (by kernel_rfl) (fun _ _ _ h => h) (Or.inl ⟨by rfl, ?_⟩) hHeld ?_
      rotate_left
      · intro w hSw
        (try dsimp only at hSw)
        go_simp
        (try with_reducible rfl)
      (try simp only [List.getElem_toArray, List.getElem_cons_zero, List.getElem_cons_succ, Act.put, List.setIfInBounds_toArray, List.set_cons_zero, List.set_cons_succ])
      refine wpAnyH_take (i := 3) (v := ?_) rfl (by kernel_rfl) (by kernel_rfl) (by kernel_rfl) (fun _ _ _ h => h) (Or.inl ⟨by rfl, ?_⟩) hHeld ?_
      rotate_left
      · intro w hSw
        (try dsimp only at hSw)
        go_simp
        (try with_reducible rfl)
      (try simp only [List.getElem_toArray, List.getElem_cons_zero, List.getElem_cons_succ, Act.put, List.setIfInBounds_toArray, List.set_cons_zero, List.set_cons_succ])
      refine wpAnyH_take (i := 4) (v := ?_) rfl (by kernel_rfl) (by kernel_rfl) (by kernel_rfl) (fun _ _ _ h => h) (Or.inl ⟨by rfl, ?_⟩) hHeld ?_
      rotate_left
      · intro w hSw
        (try dsimp only at hSw)
        go_simp
        (try with_reducible rfl)
      (try simp only [List.getElem_toArray, List.getElem_cons_zero, List.getElem_cons_succ, Act.put, List.setIfInBounds_toArray, List.set_cons_zero, List.set_cons_succ])
      refine wpAnyH_take (i := 5) (v := ?_) rfl (by kernel_rfl) (by kernel_rfl) (by kernel_rfl) (fun _ _ _ h => h) (Or.inl ⟨by rfl, ?_⟩) hHeld ?_
      rotate_left
      · intro w hSw
        (try dsimp only at hSw)
        go_simp
        (try with_reducible rfl)
      (try simp only [List.getElem_toArray, List.getElem_cons_zero, List.getElem_cons_succ, Act.put, List.setIfInBounds_toArray, List.set_cons_zero, List.set_cons_succ])
      refine wpAnyH_take (i := 6) (v := ?_) rfl (by kernel_rfl) (by kernel_rfl) (by kernel_rfl) (fun _ _ _ h => h) (Or.inl ⟨by rfl, ?_⟩) hHeld ?_
      rotate_left
      · intro w hSw
        (try dsimp only at hSw)
        go_simp
        (try with_reducible rfl)
      (try simp only [List.getElem_toArray, List.getElem_cons_zero, List.getElem_cons_succ, Act.put, List.setIfInBounds_toArray, List.set_cons_zero, List.set_cons_succ])
      refine wpAnyH_take (i := 7) (v := ?_) rfl (by kernel_rfl) (by kernel_rfl) (by kernel_rfl) (fun _ _ _ h => h) (Or.inl ⟨by rfl, ?_⟩) hHeld ?_
      rotate_left
      · intro w hSw
        (try dsimp only at hSw)
        go_simp
        (try with_reducible rfl)
      (try simp only [List.getElem_toArray, List.getElem_cons_zero, List.getElem_cons_succ, Act.put, List.setIfInBounds_toArray, List.set_cons_zero, List.set_cons_succ])
      refine wpAnyH_take (i := 8) (v := ?_) rfl (by kernel_rfl) (by kernel_rfl) (by kernel_rfl) (fun _ _ _ h => h) (Or.inl ⟨by rfl, ?_⟩) hHeld ?_
      rotate_left
      · intro w hSw
        (try dsimp only at hSw)
        go_simp
        (try with_reducible rfl)
      (try simp only [List.getElem_toArray, List.getElem_cons_zero, List.getElem_cons_succ, Act.put, List.setIfInBounds_toArray, List.set_cons_zero, List.set_cons_succ])
      refine wpAnyH_take (i := 9) (v := ?_) rfl (by kernel_rfl) (by kernel_rfl) (by kernel_rfl) (fun _ _ _ h => h) (Or.inl ⟨by rfl, ?_⟩) hHeld ?_
      rotate_left
      · intro w hSw
        (try dsimp only at hSw)
        go_simp
        (try with_reducible rfl)
      (try simp only [List.getElem_toArray, List.getElem_cons_zero, List.getElem_cons_succ, Act.put, List.setIfInBounds_toArray, List.set_cons_zero, List.set_cons_succ])
      refine wpAnyH_take (i := 10) (v := ?_) rfl (by kernel_rfl) (by kernel_rfl) (by kernel_rfl) (fun _ _ _ h => h) (Or.inl ⟨by rfl, ?_⟩) hHeld ?_
      rotate_left
      · intro w hSw
        (try dsimp only at hSw)
        go_simp
        (try with_reducible rfl)
      (try simp only [List.getElem_toArray, List.getElem_cons_zero, List.getElem_cons_succ, Act.put, List.setIfInBounds_toArray, List.set_cons_zero, List.set_cons_succ])
      refine wpAnyH_take (i := 11) (v := ?_) rfl (by kernel_rfl) (by kernel_rfl) (by kernel_rfl) (fun _ _ _ h => h) (Or.inl ⟨by rfl, ?_⟩) hHeld ?_
      rotate_left
      · intro w hSw
        (try dsimp only at hSw)
        go_simp
        (try with_reducible rfl)
      (try simp only [List.getElem_toArray, List.getElem_cons_zero, List.getElem_cons_succ, Act.put, List.setIfInBounds_toArray, List.set_cons_zero, List.set_cons_succ])
      refine wpAnyH_take (i := 12) (v := ?_) rfl (by kernel_rfl) (by kernel_rfl) (by kernel_rfl) (fun _ _ _ h => h) (Or.inl ⟨by rfl, ?_⟩) hHeld ?_
      rotate_left
      · intro w hSw
        (try dsimp only at hSw)
        go_simp
        (try with_reducible rfl)
      (try simp only [List.getElem_toArray, List.getElem_cons_zero, List.getElem_cons_succ, Act.put, List.setIfInBounds_toArray, List.set_cons_zero, List.set_cons_succ])
      refine wpAnyH_take (i := 13) (v := undef) rfl (by kernel_rfl) (by kernel_rfl) (by kernel_rfl) (fun _ _ _ h => h) (Or.inr ⟨by rfl, rfl⟩) hHeld ?_
      (try simp only [List.getElem_toArray, List.getElem_cons_zero, List.getElem_cons_succ, Act.put, List.setIfInBounds_toArray, List.set_cons_zero, List.set_cons_succ])
      refine wpAnyH_take (i := 14) (v := undef) rfl (by kernel_rfl) (by kernel_rfl) (by kernel_rfl) (fun _ _ _ h => h) (Or.inr ⟨by rfl, rfl⟩) hHeld ?_
      (try simp only [List.getElem_toArray, List.getElem_cons_zero, List.getElem_cons_succ, Act.put, List.setIfInBounds_toArray, List.set_cons_zero, List.set_cons_succ])
      refine wpAnyH_take (i := 15) (v := undef) rfl (by kernel_rfl) (by kernel_rfl) (by kernel_rfl) (fun _ _ _ h => h) (Or.inr ⟨by rfl, rfl⟩) hHeld ?_
      (try simp only [List.getElem_toArray, List.getElem_cons_zero, List.getElem_cons_succ, Act.put, List.setIfInBounds_toArray, List.set_cons_zero, List.set_cons_succ])
      refine wpAnyH_ready (rs := [16]) (by kernel_rfl) (by simp) ?_
      refine AllReadyH.cons rfl (fun K hK => ?_) AllReadyH.nil
      go_simp
      refine hK.out _ _ (by exact True.intro) (fun hHeld => ?_)
      clear hK K
      (try simp only [List.getElem_toArray, List.getElem_cons_zero, List.getElem_cons_succ, Act.put, List.setIfInBounds_toArray, List.set_cons_zero, List.set_cons_succ])
      refine wpAnyH_take (i := 17) (v := undef) rfl (by kernel_rfl) (by kernel_rfl) (by kernel_rfl) (fun _ _ _ h => h) (Or.inr ⟨by rfl, rfl⟩) hHeld ?_
      (try simp only [List.getElem_toArray, List.getElem_cons_zero, List.getElem_cons_succ, Act.put, List.setIfInBounds_toArray, List.set_cons_zero, List.set_cons_succ])
      refine wpAnyH_take (i := 18) (v := ?_) rfl (by kernel_rfl) (by kernel_rfl) (by kernel_rfl) (fun _ _ _ h => h) (Or.inl ⟨by rfl, ?_⟩) hHeld ?_
      rotate_left
      · intro w hSw
        (try dsimp only at hSw)
        go_simp
        (try with_reducible rfl)
      (try simp only [List.getElem_toArray, List.getElem_cons_zero, List.getElem_cons_succ, Act.put, List.setIfInBounds_toArray, List.set_cons_zero, List.set_cons_succ])
      refine wpAnyH_take (i := 19) (v := ?_) rfl (by kernel_rfl) (by kernel_rfl) (by kernel_rfl) (fun _ _ _ h => h) (Or.inl ⟨by rfl, ?_⟩) hHeld ?_
      rotate_left
      · intro w hSw
        (try dsimp only at hSw)
        go_simp
        (try with_reducible rfl)
      (try simp only [List.getElem_toArray, List.getElem_cons_zero, List.getElem_cons_succ, Act.put, List.setIfInBounds_toArray, List.set_cons_zero, List.set_cons_succ])
      refine wpAnyH_take (i := 20) (v := ?_) rfl (by kernel_rfl) (by kernel_rfl) (by kernel_rfl) (fun _ _ _ h => h) (Or.inl ⟨by rfl, ?_⟩) hHeld ?_
      rotate_left
      · intro w hSw
        (try dsimp only at hSw)
        go_simp
        (try with_reducible rfl)
      (try simp only [List.getElem_toArray, List.getElem_cons_zero, List.getElem_cons_succ, Act.put, List.setIfInBounds_toArray, List.set_cons_zero, List.set_cons_succ])
      refine wpAnyH_done (by kernel_rfl) ?_ _
      all_goals go_wp2
      all_goals go_ret
      all_goals exact ⟨ret_bs (by first | rfl | (simp [*]; done)), (HVb.out.up (by repeat' (first | (with_reducible exact Below.refl _ _) | (with_reducible assumption) | (with_reducible refine below_over ?_ _ _) | (with_reducible refine Lw.below_alloc ?_ _) | (with_reducible refine Below.drew ?_) | (with_reducible refine below_drewN ?_ _) | (with_reducible refine Below.setCell ?_ ?_ _) | go_size))).below⟩
set_option maxRecDepth 100000 in
set_option maxHeartbeats 40000000 in
theorem whole_n (x : Cfg) (A : Option Addr) (n0 k0 : Nat) (qs : Ups) (k d : Int) (w : World) (hx : x.Ok) (hq : UpdV w A n0 k0 qs) (kb : 0 ≤ k ∧ k ≤ 18446744073709551615) (db : -9223372036854775808 ≤ d ∧ d ≤ 9223372036854775807) (c : Cfg) (hC : anyC x 10 9 = c) (hE : ¬ sucode c (stsOf c (upsR c 0 qs 0 60)) k d = 0) (hE2 : ¬ sucode c (stsOf c (upsR c 0 qs 0 60)) k d = 2) :
    Calls Try.prog 7 #[.agg #[.int .i64 x.bt, .int .i64 x.rw, .int .i64 x.wd, .int .i64 x.md, .int .u64 x.sd, .slice A n0 k0], .agg #[.int .u64 k, .int .i64 d]] w fun e w' => e = .returned (.bool true) ∧ Below w.heap.size w w' := by
  have hr := any_right x 10 9 (by omega) (by omega) (by omega) (by omega)
  have hco := any_ok x hx 10 9 (by omega) (by omega) (by omega) (by omega)
  have FD := Lib.hid (fun w hq => fed_z x A n0 k0 qs 0 60 0 60 c w hx hq rfl rfl (by omega) (by omega) hC)
  rw [hC] at hr hco
  have hbt := hr.1
  have hb5 := hr.2.1
  have hkeys : 1 ≤ keys c 0 := keys_pos.2 ⟨hr, by omega, by omega⟩
  have hin := upsR_in hkeys qs 0 60
  have hlen := upsR_len c 0 qs 0 60
  have CK := Lib.hid (fun w => rkeys_any c 0 w hco (by omega) (by omega))
  obtain ⟨us, hus⟩ : ∃ us, upsR c 0 qs 0 60 = us := ⟨_, rfl⟩
  rw [hus] at FD hin hlen hE hE2
  have HONE := Lib.hid (fun (n : Nat) (hn : (n : Int) ≤ c.bt) => one_ok hr hin hlen hkeys (n := n) hn)
  have HLV := Lib.hid (fun (n : Nat) (hn : (n : Int) ≤ c.bt) => lv_size hr hin (n := n) hn)
  have HLVN := Lib.hid (fun (n : Nat) (hn : (n : Int) ≤ c.bt) => lv_at hr us (n := n) hn)
  have HGET := Lib.hid (fun (n : Nat) (hn : n < c.bt.toNat + 1) => stsOf_get (c := c) (us := us) (n := n) hn)
  have HSL := Lib.hid (fun (n : Nat) (L : List (List Int)) (hn : (n : Int) ≤ c.bt) h => stS_len (L := L) hr hin (n := n) hn h)
  skip
  obtain ⟨KY, hKY⟩ : ∃ KY, keys c 0 = KY := ⟨_, rfl⟩
  rw [hKY] at CK
  clear hKY
  obtain ⟨Z, hZ⟩ : ∃ Z, stsOf c us = Z := ⟨_, rfl⟩
  rw [hZ] at FD HLV HLVN HGET hE hE2
  have CU := Lib.hid (fun t T w hs => cs_upd t T c Z k d w hs kb.1 kb.2 db.1 db.2)
  have CCP := Lib.hid (fun p F w hs => cs_copy p F c Z w hs)
  have CM1 := Lib.hid (fun p F w hs => at_m1 p F c Z w hs)
  have CNO := Lib.hid (fun p F w hs => cs_atno p F c Z (c.bt + 1) w hs (.inr (by omega)) (by omega) (by omega))
  have HZ2 : Hid (sures c Z k d = Z) := Lib.hid (if_neg hE)
  obtain ⟨Z2, hZ2⟩ : ∃ Z2, sures c Z k d = Z2 := ⟨_, rfl⟩
  rw [HZ2.out] at CU
  obtain ⟨E, hEE⟩ : ∃ E, sucode c Z k d = E := ⟨_, rfl⟩
  rw [hEE] at CU hE hE2
  have g0 : (E != 0) = true := by simpa using hE
  have g1 : (E == 0) = false := by simpa using hE
  have g2 : (E != 2) = true := by simpa using hE2
  have g3 : (E == 2) = false := by simpa using hE2
  have hw1 : IntKind.i64.wrap (c.bt + 1) = c.bt + 1 := IntWalk.i64_in _ ⟨by omega, by omega⟩
  have hw2 : wrap64 (c.bt + 1) = c.bt + 1 := IntWalk.wrap64_in _ ⟨by omega, by omega⟩
  have HW1 := Lib.hid hw1
  have HW2 := Lib.hid hw2
  have HQ := Lib.hid hq
  have HBX : Hid (Have w ((w.alloc (.cells #[.int .i64 x.bt, .int .i64 x.rw, .int .i64 x.wd, .int .i64 x.md, .int .u64 x.sd, .slice A n0 k0] 27)).alloc (.cells #[.int .u64 k, .int .i64 d] 36)) [boxT (w.heap.size + 1) 36 #[.int .u64 k, .int .i64 d], boxT w.heap.size 27 #[.int .i64 x.bt, .int .i64 x.rw, .int .i64 x.wd, .int .i64 x.md, .int .u64 x.sd, .slice A n0 k0]]) := Lib.hid (two_boxs w _ _ _ _)
  clear hr hco hkeys hin hlen hus hZ hZ2 hEE hE hx hq hC hw1 hw2 kb db hE2
  go_enter Try.func7, Try.ntmps7
  go_wp2_with (first
    | (go_at_call 23; (with_reducible refine (CU.out t T _ (stI HV4.out.i0)).mono ?_); rintro e w5 ⟨rfl, T2, h1, h2, h3⟩; have HV5 := Lib.hid (HV4.out.turn_0 (stT t T2 c Z) h1 h2 h3); clear h1 h2 h3)
    | (go_at_call 22; (with_reducible refine (CCP.out p F _ (stI HV3.out.i1)).mono ?_); rintro e w4 ⟨t, T, rfl, h1, h2, hb⟩; have HV4 := Lib.hid (HV3.out.push (stT t T c Z) hb h1 h2); clear h1 h2 hb; obtain ⟨y0, y1⟩ := box2u HV4.out.i3)
    | (go_at_call 10; (with_reducible refine (FD.out _ (HQ.out.up HV1.out.below)).mono ?_); rintro e w2 ⟨p, F, rfl, hv⟩; have HV2 := Lib.hid (HV1.out.join hv); simp only [List.cons_append, List.nil_append] at HV2; clear hv; have HV3 := Lib.hid (HV2.out.push (boxT w2.heap.size 24 #[.int .i64 c.bt, .int .i64 c.rw, .int .i64 c.wd, .int .i64 c.md, .int .u64 c.sd]) (Lw.below_alloc (Below.refl _ _) _) (heap_alloc_new w2 _) (fun k hk => Nat.le_of_eq hk.symm)); clear x0 x1 x2 x3 x4 x5)
    | (go_at_call 9; (with_reducible refine (shown_any _).mono ?_); rintro e w1 ⟨rfl, hb⟩; have HV1 := Lib.hid (HBX.out.up hb); clear hb; obtain ⟨x0, x1, x2, x3, x4, x5⟩ := box6 HV1.out.i1))
  obtain ⟨gc, hgc⟩ : ∃ g, w2.heap.size = g := ⟨_, rfl⟩
  obtain ⟨gu, hgu⟩ : ∃ g, w.heap.size + 1 = g := ⟨_, rfl⟩
  rw [hgc, hgu] at HV5
  rw [hgc, hgu]
  clear HV1 HV2 HV3 HV4 HBX hgc y0 y1 CU CCP
  go_loopw [10] (fun iv wr => ∃ (n : Nat), (n : Int) ≤ c.bt + 1 ∧ iv = .int .i64 n ∧ Have w wr [stT t T2 c Z, boxT gc 24 #[.int .i64 c.bt, .int .i64 c.rw, .int .i64 c.wd, .int .i64 c.md, .int .u64 c.sd], stT p F c Z, boxT gu 36 #[.int .u64 k, .int .i64 d], boxT w.heap.size 27 #[.int .i64 x.bt, .int .i64 x.rw, .int .i64 x.wd, .int .i64 x.md, .int .u64 x.sd, .slice A n0 k0]]) (fun iv _ => 100 - (intOf iv).toNat)
  case atStart => exact ⟨0, by omega, rfl, HV5.out⟩
  case round =>
    obtain ⟨n, hn, rfl, hv⟩ := hrel
    have HVr := Lib.hid hv
    clear hv
    obtain ⟨e1, e2, e3, e4, e5⟩ := box5 HVr.out.i1
    obtain ⟨x0, x1, x2, x3, x4, x5⟩ := box6 HVr.out.i4
    by_cases hlt : (n : Int) ≤ c.bt
    · cases hst : stOf c us n with
      | A L =>
        have hgt := HGET.out n (by omega)
        rw [hst] at hgt
        have hone := HONE.out n hlt
        rw [hst] at hone
        obtain ⟨LL, hLL⟩ : ∃ LL, LL = L := ⟨_, rfl⟩
        have hlvn := HLVN.out n hlt
        rw [hst] at hlvn
        have hlv := HLV.out n hlt
        have hlvn2 : lvFl Z n = LL := by rw [hLL]; exact hlvn
        rw [hlvn2] at hlv
        have HL2 := Lib.hid hlv.2
        have CR := Lib.hid (fun p F w hs => cs_row p F c Z n LL w hs (by omega) hlvn2 hlv.1 hlv.2)
        have CA := Lib.hid (fun w hs => at_A p F c Z n L w hs hgt)
        have CLV := Lib.hid (fun q Q w (h : EX w q Q c n L) => elevel_any q Q c n L w h)
        skip
        have CCE := Lib.hid (fun q Q w (h : EX w q Q c n L) => lev_cellsA q Q c n L LL w h hLL.symm)
        have CUP := Lib.hid (fun q Q w (h : EX w q Q c n L) => eupd_any q Q c n L 0 1 w h (by omega) (by omega) (by omega) (by omega))
        have hc0 : exCode c.md L 0 1 = 0 := hone
        rw [hc0] at CUP
        have hwn1 : IntKind.i64.wrap ((n : Int) + 1) = ((n + 1 : Nat) : Int) := nw1 (by omega)
        have hwn2 : wrap64 ((n : Int) + 1) = ((n + 1 : Nat) : Int) := nw2 (by omega)
        have hdl : decide (LL = LL) = true := decide_eq_true rfl
        clear hgt hone hLL hlvn hlvn2 hlv hc0 hst
        go_wp2_with (first
          | (go_at_call 15; (with_reducible refine (rsame_any _ _ _ _ _ _ LL LL _ (rdI HVp.out.i1) (rdI HVp.out.i0) rfl rfl (le_k64 HL2.out) (le_k64 HL2.out)).mono ?_); rintro e wq ⟨rfl, hb⟩; have HVq := Lib.hid (HVp.out.up hb).drop_0.drop_0; clear hb)
          | (go_at_call 16; (with_reducible refine (CR.out r R _ (stI HVo.out.i2)).mono ?_); rintro e wp ⟨Awp, cwp, rfl, h1, h2, hb⟩; have HVp := Lib.hid (HVo.out.push (rdT Awp LL) hb h1 h2); clear h1 h2 hb)
          | (go_at_call 16; (with_reducible refine (CR.out p F _ (stI HVn.out.i4)).mono ?_); rintro e wo ⟨Awo, cwo, rfl, h1, h2, hb⟩; have HVo := Lib.hid (HVn.out.push (rdT Awo LL) hb h1 h2); clear h1 h2 hb)
          | (go_at_call 124; (with_reducible refine (CUP.out q Q _ (exI HVm.out.i0)).mono ?_); rintro e wn ⟨rfl, Q2, h1, h2, h3⟩; have HVn := Lib.hid (HVm.out.turn_0 (exT q Q2 c n (exRes c.md L 0 1)) h1 h2 h3); clear h1 h2 h3)
          | (go_at_call 15; (with_reducible refine (rsame_any _ _ _ _ _ _ LL LL _ (rdI HVl.out.i1) (rdI HVl.out.i0) rfl rfl (le_k64 HL2.out) (le_k64 HL2.out)).mono ?_); rintro e wm ⟨rfl, hb⟩; have HVm := Lib.hid (HVl.out.up hb).drop_0.drop_0; clear hb)
          | (go_at_call 16; (with_reducible refine (CR.out p F _ (stI HVk.out.i5)).mono ?_); rintro e wl ⟨Awl, cwl, rfl, h1, h2, hb⟩; have HVl := Lib.hid (HVk.out.push (rdT Awl LL) hb h1 h2); clear h1 h2 hb)
          | (go_at_call 118; (with_reducible refine (CCE.out q Q _ (exI HVj.out.i0)).mono ?_); rintro e wk ⟨Awk, cwk, rfl, h1, h2, hb⟩; have HVk := Lib.hid (HVj.out.push (rdT Awk LL) hb h1 h2); clear h1 h2 hb)
          | (go_at_call 121; (with_reducible refine (CLV.out q Q _ (exI HVi.out.i0)).mono ?_); rintro e wj ⟨rfl, hb⟩; have HVj := Lib.hid (HVi.out.up hb); clear hb)
          | (go_at_call 24; (with_reducible refine (CA.out _ (stI HVh.out.i3)).mono ?_); rintro e wi ⟨q, Q, rfl, h1, h2, hb⟩; have HVi := Lib.hid (HVh.out.push (exT q Q c n L) hb h1 h2); clear h1 h2 hb)
          | (go_at_call 15; (with_reducible refine (rsame_any _ _ _ _ _ _ LL LL _ (rdI HVg.out.i1) (rdI HVg.out.i0) rfl rfl (le_k64 HL2.out) (le_k64 HL2.out)).mono ?_); rintro e wh ⟨rfl, hb⟩; have HVh := Lib.hid (HVg.out.up hb).drop_0.drop_0; clear hb)
          | (go_at_call 16; (with_reducible refine (CR.out r R _ (stI HVf.out.i1)).mono ?_); rintro e wg ⟨Awg, cwg, rfl, h1, h2, hb⟩; have HVg := Lib.hid (HVf.out.push (rdT Awg LL) hb h1 h2); clear h1 h2 hb)
          | (go_at_call 16; (with_reducible refine (CR.out t T2 _ (stI HVe.out.i1)).mono ?_); rintro e wf ⟨Awf, cwf, rfl, h1, h2, hb⟩; have HVf := Lib.hid (HVe.out.push (rdT Awf LL) hb h1 h2); clear h1 h2 hb)
          | (go_at_call 15; (with_reducible refine (rsame_any _ _ _ _ _ _ LL LL _ (rdI HVd.out.i1) (rdI HVd.out.i0) rfl rfl (le_k64 HL2.out) (le_k64 HL2.out)).mono ?_); rintro e we ⟨rfl, hb⟩; have HVe := Lib.hid (HVd.out.up hb).drop_0.drop_0; clear hb)
          | (go_at_call 16; (with_reducible refine (CR.out r R _ (stI HVc.out.i1)).mono ?_); rintro e wd ⟨Awd, cwd, rfl, h1, h2, hb⟩; have HVd := Lib.hid (HVc.out.push (rdT Awd LL) hb h1 h2); clear h1 h2 hb)
          | (go_at_call 16; (with_reducible refine (CR.out p F _ (stI HVb.out.i3)).mono ?_); rintro e wc ⟨Awc, cwc, rfl, h1, h2, hb⟩; have HVc := Lib.hid (HVb.out.push (rdT Awc LL) hb h1 h2); clear h1 h2 hb)
          | (go_at_call 10; (with_reducible refine (FD.out _ (HQ.out.up HVr.out.below)).mono ?_); rintro e wa ⟨r, R, rfl, hv⟩; have HVa := Lib.hid (HVr.out.join hv); simp only [List.cons_append, List.nil_append] at HVa; clear hv; have HVb := Lib.hid (HVa.out.push (boxT wa.heap.size 24 #[.int .i64 c.bt, .int .i64 c.rw, .int .i64 c.wd, .int .i64 c.md, .int .u64 c.sd]) (Lw.below_alloc (Below.refl _ _) _) (heap_alloc_new wa _) (fun k hk => Nat.le_of_eq hk.symm)).drop_0))
        go_roundw
        case rel => exact ⟨n + 1, by omega, by go_num, HVq.out.drop_0.drop_0⟩
        case measure => simp [intOf]; omega
      | S L =>
        have hgt := HGET.out n (by omega)
        rw [hst] at hgt
        have hone := HONE.out n hlt
        rw [hst] at hone
        obtain ⟨LL, hLL⟩ : ∃ LL, LL = L.flatten := ⟨_, rfl⟩
        have hlvn := HLVN.out n hlt
        rw [hst] at hlvn
        have hlv := HLV.out n hlt
        have hlvn2 : lvFl Z n = LL := by rw [hLL]; exact hlvn
        rw [hlvn2] at hlv
        have HL2 := Lib.hid hlv.2
        have CR := Lib.hid (fun p F w hs => cs_row p F c Z n LL w hs (by omega) hlvn2 hlv.1 hlv.2)
        have CA := Lib.hid (fun w hs => at_S p F c Z n L w hs hgt)
        have CLV := Lib.hid (fun q Q w (h : SK w q Q c n L) => slevel_any q Q c n L w h)
        have hsl := HSL.out n L hlt hst
        have CCE := Lib.hid (fun q Q w (h : SK w q Q c n L) => lev_cellsS q Q c n L LL w h hLL.symm hsl)
        have CUP := Lib.hid (fun q Q w (h : SK w q Q c n L) => supd_any q Q c n L 0 1 w h (by omega) (by omega) (by omega) (by omega))
        have hc0 : upCode c n L 0 1 = 0 := hone
        rw [hc0] at CUP
        have hwn1 : IntKind.i64.wrap ((n : Int) + 1) = ((n + 1 : Nat) : Int) := nw1 (by omega)
        have hwn2 : wrap64 ((n : Int) + 1) = ((n + 1 : Nat) : Int) := nw2 (by omega)
        have hdl : decide (LL = LL) = true := decide_eq_true rfl
        clear hgt hone hLL hlvn hlvn2 hlv hc0 hst
        go_wp2_with (first
          | (go_at_call 15; (with_reducible refine (rsame_any _ _ _ _ _ _ LL LL _ (rdI HVp.out.i1) (rdI HVp.out.i0) rfl rfl (le_k64 HL2.out) (le_k64 HL2.out)).mono ?_); rintro e wq ⟨rfl, hb⟩; have HVq := Lib.hid (HVp.out.up hb).drop_0.drop_0; clear hb)
          | (go_at_call 16; (with_reducible refine (CR.out r R _ (stI HVo.out.i2)).mono ?_); rintro e wp ⟨Awp, cwp, rfl, h1, h2, hb⟩; have HVp := Lib.hid (HVo.out.push (rdT Awp LL) hb h1 h2); clear h1 h2 hb)
          | (go_at_call 16; (with_reducible refine (CR.out p F _ (stI HVn.out.i4)).mono ?_); rintro e wo ⟨Awo, cwo, rfl, h1, h2, hb⟩; have HVo := Lib.hid (HVn.out.push (rdT Awo LL) hb h1 h2); clear h1 h2 hb)
          | (go_at_call 89; (with_reducible refine (CUP.out q Q _ (skI HVm.out.i0)).mono ?_); rintro e wn ⟨rfl, Q2, h1, h2, h3⟩; have HVn := Lib.hid (HVm.out.turn_0 (skT q Q2 c n (upRes c n L 0 1)) h1 h2 h3); clear h1 h2 h3)
          | (go_at_call 15; (with_reducible refine (rsame_any _ _ _ _ _ _ LL LL _ (rdI HVl.out.i1) (rdI HVl.out.i0) rfl rfl (le_k64 HL2.out) (le_k64 HL2.out)).mono ?_); rintro e wm ⟨rfl, hb⟩; have HVm := Lib.hid (HVl.out.up hb).drop_0.drop_0; clear hb)
          | (go_at_call 16; (with_reducible refine (CR.out p F _ (stI HVk.out.i5)).mono ?_); rintro e wl ⟨Awl, cwl, rfl, h1, h2, hb⟩; have HVl := Lib.hid (HVk.out.push (rdT Awl LL) hb h1 h2); clear h1 h2 hb)
          | (go_at_call 83; (with_reducible refine (CCE.out q Q _ (skI HVj.out.i0)).mono ?_); rintro e wk ⟨Awk, cwk, rfl, h1, h2, hb⟩; have HVk := Lib.hid (HVj.out.push (rdT Awk LL) hb h1 h2); clear h1 h2 hb)
          | (go_at_call 86; (with_reducible refine (CLV.out q Q _ (skI HVi.out.i0)).mono ?_); rintro e wj ⟨rfl, hb⟩; have HVj := Lib.hid (HVi.out.up hb); clear hb)
          | (go_at_call 24; (with_reducible refine (CA.out _ (stI HVh.out.i3)).mono ?_); rintro e wi ⟨q, Q, rfl, h1, h2, hb⟩; have HVi := Lib.hid (HVh.out.push (skT q Q c n L) hb h1 h2); clear h1 h2 hb)
          | (go_at_call 15; (with_reducible refine (rsame_any _ _ _ _ _ _ LL LL _ (rdI HVg.out.i1) (rdI HVg.out.i0) rfl rfl (le_k64 HL2.out) (le_k64 HL2.out)).mono ?_); rintro e wh ⟨rfl, hb⟩; have HVh := Lib.hid (HVg.out.up hb).drop_0.drop_0; clear hb)
          | (go_at_call 16; (with_reducible refine (CR.out r R _ (stI HVf.out.i1)).mono ?_); rintro e wg ⟨Awg, cwg, rfl, h1, h2, hb⟩; have HVg := Lib.hid (HVf.out.push (rdT Awg LL) hb h1 h2); clear h1 h2 hb)
          | (go_at_call 16; (with_reducible refine (CR.out t T2 _ (stI HVe.out.i1)).mono ?_); rintro e wf ⟨Awf, cwf, rfl, h1, h2, hb⟩; have HVf := Lib.hid (HVe.out.push (rdT Awf LL) hb h1 h2); clear h1 h2 hb)
          | (go_at_call 15; (with_reducible refine (rsame_any _ _ _ _ _ _ LL LL _ (rdI HVd.out.i1) (rdI HVd.out.i0) rfl rfl (le_k64 HL2.out) (le_k64 HL2.out)).mono ?_); rintro e we ⟨rfl, hb⟩; have HVe := Lib.hid (HVd.out.up hb).drop_0.drop_0; clear hb)
          | (go_at_call 16; (with_reducible refine (CR.out r R _ (stI HVc.out.i1)).mono ?_); rintro e wd ⟨Awd, cwd, rfl, h1, h2, hb⟩; have HVd := Lib.hid (HVc.out.push (rdT Awd LL) hb h1 h2); clear h1 h2 hb)
          | (go_at_call 16; (with_reducible refine (CR.out p F _ (stI HVb.out.i3)).mono ?_); rintro e wc ⟨Awc, cwc, rfl, h1, h2, hb⟩; have HVc := Lib.hid (HVb.out.push (rdT Awc LL) hb h1 h2); clear h1 h2 hb)
          | (go_at_call 10; (with_reducible refine (FD.out _ (HQ.out.up HVr.out.below)).mono ?_); rintro e wa ⟨r, R, rfl, hv⟩; have HVa := Lib.hid (HVr.out.join hv); simp only [List.cons_append, List.nil_append] at HVa; clear hv; have HVb := Lib.hid (HVa.out.push (boxT wa.heap.size 24 #[.int .i64 c.bt, .int .i64 c.rw, .int .i64 c.wd, .int .i64 c.md, .int .u64 c.sd]) (Lw.below_alloc (Below.refl _ _) _) (heap_alloc_new wa _) (fun k hk => Nat.le_of_eq hk.symm)).drop_0))
        go_roundw
        case rel => exact ⟨n + 1, by omega, by go_num, HVq.out.drop_0.drop_0⟩
        case measure => simp [intOf]; omega
    · obtain ⟨u0, u1⟩ := box2u HVr.out.i3
      have hw1 := HW1.out
      have hw2 := HW2.out
      go_upto_region 23 with (first
        | (go_at_call 24; (with_reducible refine (CM1.out p F _ (stI HVa.out.i2)).mono ?_); rintro e wb ⟨rfl, hb⟩; have HVb := Lib.hid (HVa.out.up hb); clear hb)
        | (go_at_call 24; (with_reducible refine (CNO.out p F _ (stI HVr.out.i2)).mono ?_); rintro e wa ⟨rfl, hb⟩; have HVa := Lib.hid (HVr.out.up hb); clear hb))
      refine wp_region_held_drew (S := (fun w' => True)) (by kernel_rfl) (by exact True.intro) (fun hHeld => ?_)
      refine wpAnyH_take (i := 0) (v := ?_) rfl (by kernel_rfl) (by kernel_rfl) (by kernel_rfl) (fun _ _ _ h => h) (Or.inl ⟨by rfl, ?_⟩) hHeld ?_
      rotate_left
      · intro w hSw
        (try dsimp only at hSw)
        go_simp
        (try with_reducible rfl)
      (try simp only [List.getElem_toArray, List.getElem_cons_zero, List.getElem_cons_succ, Act.put, List.setIfInBounds_toArray, List.set_cons_zero, List.set_cons_succ])
      refine wpAnyH_take (i := 1) (v := ?_) rfl (by kernel_rfl) (by kernel_rfl) (by kernel_rfl) (fun _ _ _ h => h) (Or.inl ⟨by rfl, ?_⟩) hHeld ?_
      rotate_left
      · intro w hSw
        (try dsimp only at hSw)
        go_simp
        (try with_reducible rfl)
      (try simp only [List.getElem_toArray, List.getElem_cons_zero, List.getElem_cons_succ, Act.put, List.setIfInBounds_toArray, List.set_cons_zero, List.set_cons_succ])
      refine wpAnyH_take (i := 2) (v := ?_) rfl (by kernel_rfl) (by kernel_rfl) (by kernel_rfl) (fun _ _ _ h => h) (Or.inl ⟨by rfl, ?_⟩) hHeld ?_
      rotate_left
      · intro w hSw
        (try dsimp only at hSw)
        go_simp
        (try with_reducible rfl)
      (try simp only [List.getElem_toArray, List.getElem_cons_zero, List.getElem_cons_succ, Act.put, List.setIfInBounds_toArray, List.set_cons_zero, List.set_cons_succ])
      refine wpAnyH_take (i := 3) (v := ?_) rfl (by kernel_rfl) (by kernel_rfl) (by kernel_rfl) (fun _ _ _ h => h) (Or.inl ⟨by rfl, ?_⟩) hHeld ?_
      rotate_left
      · intro w hSw
        (try dsimp only at hSw)
        go_simp
        (try with_reducible rfl)
      (try simp only [List.getElem_toArray, List.getElem_cons_zero, List.getElem_cons_succ, Act.put, List.setIfInBounds_toArray, List.set_cons_zero, List.set_cons_succ])
      refine wpAnyH_take (i := 4) (v := ?_) rfl (by kernel_rfl) (by kernel_rfl) (by kernel_rfl) (fun _ _ _ h => h) (Or.inl ⟨by rfl, ?_⟩) hHeld ?_
      rotate_left
      · intro w hSw
        (try dsimp only at hSw)
        go_simp
        (try with_reducible rfl)
      (try simp only [List.getElem_toArray, List.getElem_cons_zero, List.getElem_cons_succ, Act.put, List.setIfInBounds_toArray, List.set_cons_zero, List.set_cons_succ])
      refine wpAnyH_take (i := 5) (v := ?_) rfl (by kernel_rfl) (by kernel_rfl) (by kernel_rfl) (fun _ _ _ h => h) (Or.inl ⟨by rfl, ?_⟩) hHeld ?_
      rotate_left
      · intro w hSw
        (try dsimp only at hSw)
        go_simp
        (try with_reducible rfl)
      (try simp only [List.getElem_toArray, List.getElem_cons_zero, List.getElem_cons_succ, Act.put, List.setIfInBounds_toArray, List.set_cons_zero, List.set_cons_succ])
      refine wpAnyH_take (i := 6) (v := ?_) rfl (by kernel_rfl) (by kernel_rfl) (by kernel_rfl) (fun _ _ _ h => h) (Or.inl ⟨by rfl, ?_⟩) hHeld ?_
      rotate_left
      · intro w hSw
        (try dsimp only at hSw)
        go_simp
        (try with_reducible rfl)
      (try simp only [List.getElem_toArray, List.getElem_cons_zero, List.getElem_cons_succ, Act.put, List.setIfInBounds_toArray, List.set_cons_zero, List.set_cons_succ])
      refine wpAnyH_take (i := 7) (v := ?_) rfl (by kernel_rfl) (by kernel_rfl) (by kernel_rfl) (fun _ _ _ h => h) (Or.inl ⟨by rfl, ?_⟩) hHeld ?_
      rotate_left
      · intro w hSw
        (try dsimp only at hSw)
        go_simp
        (try with_reducible rfl)
      (try simp only [List.getElem_toArray, List.getElem_cons_zero, List.getElem_cons_succ, Act.put, List.setIfInBounds_toArray, List.set_cons_zero, List.set_cons_succ])
      refine wpAnyH_take (i := 8) (v := ?_) rfl (by kernel_rfl) (by kernel_rfl) (by kernel_rfl) (fun _ _ _ h => h) (Or.inl ⟨by rfl, ?_⟩) hHeld ?_
      rotate_left
      · intro w hSw
        (try dsimp only at hSw)
        go_simp
        (try with_reducible rfl)
      (try simp only [List.getElem_toArray, List.getElem_cons_zero, List.getElem_cons_succ, Act.put, List.setIfInBounds_toArray, List.set_cons_zero, List.set_cons_succ])
      refine wpAnyH_take (i := 9) (v := ?_) rfl (by kernel_rfl) (by kernel_rfl) (by kernel_rfl) (fun _ _ _ h => h) (Or.inl ⟨by rfl, ?_⟩) hHeld ?_
      rotate_left
      · intro w hSw
        (try dsimp only at hSw)
        go_simp
        (try with_reducible rfl)
      (try simp only [List.getElem_toArray, List.getElem_cons_zero, List.getElem_cons_succ, Act.put, List.setIfInBounds_toArray, List.set_cons_zero, List.set_cons_succ])
      refine wpAnyH_take (i := 10) (v := ?_) rfl (by kernel_rfl) (by kernel_rfl) (by kernel_rfl) (fun _ _ _ h => h) (Or.inl ⟨by rfl, ?_⟩) hHeld ?_
      rotate_left
      · intro w hSw
        (try dsimp only at hSw)
        go_simp
        (try with_reducible rfl)
      (try simp only [List.getElem_toArray, List.getElem_cons_zero, List.getElem_cons_succ, Act.put, List.setIfInBounds_toArray, List.set_cons_zero, List.set_cons_succ])
      refine wpAnyH_take (i := 11) (v := ?_) rfl (by kernel_rfl) (by kernel_rfl) (by kernel_rfl) (fun _ _ _ h => h) (Or.inl ⟨by rfl, ?_⟩) hHeld ?_
      rotate_left
      · intro w hSw
        (try dsimp only at hSw)
        go_simp
        (try with_reducible rfl)
      (try simp only [List.getElem_toArray, List.getElem_cons_zero, List.getElem_cons_succ, Act.put, List.setIfInBounds_toArray, List.set_cons_zero, List.set_cons_succ])
      refine wpAnyH_take (i := 12) (v := ?_) rfl (by kernel_rfl) (by kernel_rfl) (by kernel_rfl) (fun _ _ _ h => h) (Or.inl ⟨by rfl, ?_⟩) hHeld ?_
      rotate_left
      · intro w hSw
        (try dsimp only at hSw)
        go_simp
        (try with_reducible rfl)
      (try simp only [List.getElem_toArray, List.getElem_cons_zero, List.getElem_cons_succ, Act.put, List.setIfInBounds_toArray, List.set_cons_zero, List.set_cons_succ])
      refine wpAnyH_take (i := 13) (v := undef) rfl (by kernel_rfl) (by kernel_rfl) (by kernel_rfl) (fun _ _ _ h => h) (Or.inr ⟨by rfl, rfl⟩) hHeld ?_
      (try simp only [List.getElem_toArray, List.getElem_cons_zero, List.getElem_cons_succ, Act.put, List.setIfInBounds_toArray, List.set_cons_zero, List.set_cons_succ])
      refine wpAnyH_take (i := 14) (v := undef) rfl (by kernel_rfl) (by kernel_rfl) (by kernel_rfl) (fun _ _ _ h => h) (Or.inr ⟨by rfl, rfl⟩) hHeld ?_
      (try simp only [List.getElem_toArray, List.getElem_cons_zero, List.getElem_cons_succ, Act.put, List.setIfInBounds_toArray, List.set_cons_zero, List.set_cons_succ])
      refine wpAnyH_take (i := 15) (v := undef) rfl (by kernel_rfl) (by kernel_rfl) (by kernel_rfl) (fun _ _ _ h => h) (Or.inr ⟨by rfl, rfl⟩) hHeld ?_
      (try simp only [List.getElem_toArray, List.getElem_cons_zero, List.getElem_cons_succ, Act.put, List.setIfInBounds_toArray, List.set_cons_zero, List.set_cons_succ])
      refine wpAnyH_ready (rs := [16]) (by kernel_rfl) (by simp) ?_
      refine AllReadyH.cons rfl (fun K hK => ?_) AllReadyH.nil
      go_simp
      refine hK.out _ _ (by exact True.intro) (fun hHeld => ?_)
      clear hK K
      (try simp only [List.getElem_toArray, List.getElem_cons_zero, List.getElem_cons_succ, Act.put, List.setIfInBounds_toArray, List.set_cons_zero, List.set_cons_succ])
      refine wpAnyH_take (i := 17) (v := undef) rfl (by kernel_rfl) (by kernel_rfl) (by kernel_rfl) (fun _ _ _ h => h) (Or.inr ⟨by rfl, rfl⟩) hHeld ?_
      (try simp only [List.getElem_toArray, List.getElem_cons_zero, List.getElem_cons_succ, Act.put, List.setIfInBounds_toArray, List.set_cons_zero, List.set_cons_succ])
      refine wpAnyH_take (i := 18) (v := ?_) rfl (by kernel_rfl) (by kernel_rfl) (by kernel_rfl) (fun _ _ _ h => h) (Or.inl ⟨by rfl, ?_⟩) hHeld ?_
      rotate_left
      · intro w hSw
        (try dsimp only at hSw)
        go_simp
        (try with_reducible rfl)
      (try simp only [List.getElem_toArray, List.getElem_cons_zero, List.getElem_cons_succ, Act.put, List.setIfInBounds_toArray, List.set_cons_zero, List.set_cons_succ])
      refine wpAnyH_take (i := 19) (v := ?_) rfl (by kernel_rfl) (by kernel_rfl) (by kernel_rfl) (fun _ _ _ h => h) (Or.inl ⟨by rfl, ?_⟩) hHeld ?_
      rotate_left
      · intro w hSw
        (try dsimp only at hSw)
        go_simp
        (try with_reducible rfl)
      (try simp only [List.getElem_toArray, List.getElem_cons_zero, List.getElem_cons_succ, Act.put, List.setIfInBounds_toArray, List.set_cons_zero, List.set_cons_succ])
      refine wpAnyH_take (i := 20) (v := ?_) rfl (by kernel_rfl) (by kernel_rfl) (by kernel_rfl) (fun _ _ _ h => h) (Or.inl ⟨by rfl, ?_⟩) hHeld ?_
      rotate_left
      · intro w hSw
        (try dsimp only at hSw)
        go_simp
        (try with_reducible rfl)
      (try simp only [List.getElem_toArray, List.getElem_cons_zero, List.getElem_cons_succ, Act.put, List.setIfInBounds_toArray, List.set_cons_zero, List.set_cons_succ])
      refine wpAnyH_done (by kernel_rfl) ?_ _
      all_goals go_wp2
      all_goals go_ret
      all_goals exact ⟨ret_bs (by first | rfl | (simp [*]; done)), (HVb.out.up (by repeat' (first | (with_reducible exact Below.refl _ _) | (with_reducible assumption) | (with_reducible refine below_over ?_ _ _) | (with_reducible refine Lw.below_alloc ?_ _) | (with_reducible refine Below.drew ?_) | (with_reducible refine below_drewN ?_ _) | (with_reducible refine Below.setCell ?_ ?_ _) | go_size))).below⟩
set_option maxRecDepth 100000 in
set_option maxHeartbeats 40000000 in
theorem whole_k (x : Cfg) (A : Option Addr) (n0 k0 : Nat) (qs : Ups) (k d : Int) (w : World) (hx : x.Ok) (hq : UpdV w A n0 k0 qs) (kb : 0 ≤ k ∧ k ≤ 18446744073709551615) (db : -9223372036854775808 ≤ d ∧ d ≤ 9223372036854775807) (c : Cfg) (hC : anyC x 10 9 = c) (hE : ¬ sucode c (stsOf c (upsR c 0 qs 0 60)) k d = 0) (hE2 : sucode c (stsOf c (upsR c 0 qs 0 60)) k d = 2) :
    Calls Try.prog 7 #[.agg #[.int .i64 x.bt, .int .i64 x.rw, .int .i64 x.wd, .int .i64 x.md, .int .u64 x.sd, .slice A n0 k0], .agg #[.int .u64 k, .int .i64 d]] w fun e w' => e = .returned (.bool true) ∧ Below w.heap.size w w' := by
  have hr := any_right x 10 9 (by omega) (by omega) (by omega) (by omega)
  have hco := any_ok x hx 10 9 (by omega) (by omega) (by omega) (by omega)
  have FD := Lib.hid (fun w hq => fed_z x A n0 k0 qs 0 60 0 60 c w hx hq rfl rfl (by omega) (by omega) hC)
  rw [hC] at hr hco
  have hbt := hr.1
  have hb5 := hr.2.1
  have hkeys : 1 ≤ keys c 0 := keys_pos.2 ⟨hr, by omega, by omega⟩
  have hin := upsR_in hkeys qs 0 60
  have hlen := upsR_len c 0 qs 0 60
  have CK := Lib.hid (fun w => rkeys_any c 0 w hco (by omega) (by omega))
  obtain ⟨us, hus⟩ : ∃ us, upsR c 0 qs 0 60 = us := ⟨_, rfl⟩
  rw [hus] at FD hin hlen hE hE2
  have HONE := Lib.hid (fun (n : Nat) (hn : (n : Int) ≤ c.bt) => one_ok hr hin hlen hkeys (n := n) hn)
  have HLV := Lib.hid (fun (n : Nat) (hn : (n : Int) ≤ c.bt) => lv_size hr hin (n := n) hn)
  have HLVN := Lib.hid (fun (n : Nat) (hn : (n : Int) ≤ c.bt) => lv_at hr us (n := n) hn)
  have HGET := Lib.hid (fun (n : Nat) (hn : n < c.bt.toNat + 1) => stsOf_get (c := c) (us := us) (n := n) hn)
  have HSL := Lib.hid (fun (n : Nat) (L : List (List Int)) (hn : (n : Int) ≤ c.bt) h => stS_len (L := L) hr hin (n := n) hn h)
  have hkey : keys c 0 ≤ k := Classical.byContradiction (fun h => by unfold sucode at hE2; rw [if_neg h] at hE2; split at hE2; cases hE2; exact ers_two hr (us := us) k d kb.1 (by omega) hE2)
  obtain ⟨KY, hKY⟩ : ∃ KY, keys c 0 = KY := ⟨_, rfl⟩
  rw [hKY] at CK hkey
  clear hKY
  obtain ⟨Z, hZ⟩ : ∃ Z, stsOf c us = Z := ⟨_, rfl⟩
  rw [hZ] at FD HLV HLVN HGET hE hE2
  have CU := Lib.hid (fun t T w hs => cs_upd t T c Z k d w hs kb.1 kb.2 db.1 db.2)
  have CCP := Lib.hid (fun p F w hs => cs_copy p F c Z w hs)
  have CM1 := Lib.hid (fun p F w hs => at_m1 p F c Z w hs)
  have CNO := Lib.hid (fun p F w hs => cs_atno p F c Z (c.bt + 1) w hs (.inr (by omega)) (by omega) (by omega))
  have HZ2 : Hid (sures c Z k d = Z) := Lib.hid (if_neg hE)
  obtain ⟨Z2, hZ2⟩ : ∃ Z2, sures c Z k d = Z2 := ⟨_, rfl⟩
  rw [HZ2.out] at CU
  obtain ⟨E, hEE⟩ : ∃ E, sucode c Z k d = E := ⟨_, rfl⟩
  rw [hEE] at CU hE hE2
  have g0 : (E != 0) = true := by simpa using hE
  have g1 : (E == 0) = false := by simpa using hE
  have g2 : (E != 2) = false := by rw [hE2]; rfl
  have g3 : (E == 2) = true := by rw [hE2]; rfl
  have hw1 : IntKind.i64.wrap (c.bt + 1) = c.bt + 1 := IntWalk.i64_in _ ⟨by omega, by omega⟩
  have hw2 : wrap64 (c.bt + 1) = c.bt + 1 := IntWalk.wrap64_in _ ⟨by omega, by omega⟩
  have HW1 := Lib.hid hw1
  have HW2 := Lib.hid hw2
  have HQ := Lib.hid hq
  have HBX : Hid (Have w ((w.alloc (.cells #[.int .i64 x.bt, .int .i64 x.rw, .int .i64 x.wd, .int .i64 x.md, .int .u64 x.sd, .slice A n0 k0] 27)).alloc (.cells #[.int .u64 k, .int .i64 d] 36)) [boxT (w.heap.size + 1) 36 #[.int .u64 k, .int .i64 d], boxT w.heap.size 27 #[.int .i64 x.bt, .int .i64 x.rw, .int .i64 x.wd, .int .i64 x.md, .int .u64 x.sd, .slice A n0 k0]]) := Lib.hid (two_boxs w _ _ _ _)
  clear hr hco hkeys hin hlen hus hZ hZ2 hEE hE hx hq hC hw1 hw2 kb db hE2
  go_enter Try.func7, Try.ntmps7
  go_wp2_with (first
    | (go_at_call 23; (with_reducible refine (CU.out t T _ (stI HV4.out.i0)).mono ?_); rintro e w5 ⟨rfl, T2, h1, h2, h3⟩; have HV5 := Lib.hid (HV4.out.turn_0 (stT t T2 c Z) h1 h2 h3); clear h1 h2 h3)
    | (go_at_call 22; (with_reducible refine (CCP.out p F _ (stI HV3.out.i1)).mono ?_); rintro e w4 ⟨t, T, rfl, h1, h2, hb⟩; have HV4 := Lib.hid (HV3.out.push (stT t T c Z) hb h1 h2); clear h1 h2 hb; obtain ⟨y0, y1⟩ := box2u HV4.out.i3)
    | (go_at_call 10; (with_reducible refine (FD.out _ (HQ.out.up HV1.out.below)).mono ?_); rintro e w2 ⟨p, F, rfl, hv⟩; have HV2 := Lib.hid (HV1.out.join hv); simp only [List.cons_append, List.nil_append] at HV2; clear hv; have HV3 := Lib.hid (HV2.out.push (boxT w2.heap.size 24 #[.int .i64 c.bt, .int .i64 c.rw, .int .i64 c.wd, .int .i64 c.md, .int .u64 c.sd]) (Lw.below_alloc (Below.refl _ _) _) (heap_alloc_new w2 _) (fun k hk => Nat.le_of_eq hk.symm)); clear x0 x1 x2 x3 x4 x5)
    | (go_at_call 9; (with_reducible refine (shown_any _).mono ?_); rintro e w1 ⟨rfl, hb⟩; have HV1 := Lib.hid (HBX.out.up hb); clear hb; obtain ⟨x0, x1, x2, x3, x4, x5⟩ := box6 HV1.out.i1))
  obtain ⟨gc, hgc⟩ : ∃ g, w2.heap.size = g := ⟨_, rfl⟩
  obtain ⟨gu, hgu⟩ : ∃ g, w.heap.size + 1 = g := ⟨_, rfl⟩
  rw [hgc, hgu] at HV5
  rw [hgc, hgu]
  clear HV1 HV2 HV3 HV4 HBX hgc y0 y1 CU CCP
  go_loopw [10] (fun iv wr => ∃ (n : Nat), (n : Int) ≤ c.bt + 1 ∧ iv = .int .i64 n ∧ Have w wr [stT t T2 c Z, boxT gc 24 #[.int .i64 c.bt, .int .i64 c.rw, .int .i64 c.wd, .int .i64 c.md, .int .u64 c.sd], stT p F c Z, boxT gu 36 #[.int .u64 k, .int .i64 d], boxT w.heap.size 27 #[.int .i64 x.bt, .int .i64 x.rw, .int .i64 x.wd, .int .i64 x.md, .int .u64 x.sd, .slice A n0 k0]]) (fun iv _ => 100 - (intOf iv).toNat)
  case atStart => exact ⟨0, by omega, rfl, HV5.out⟩
  case round =>
    obtain ⟨n, hn, rfl, hv⟩ := hrel
    have HVr := Lib.hid hv
    clear hv
    obtain ⟨e1, e2, e3, e4, e5⟩ := box5 HVr.out.i1
    obtain ⟨x0, x1, x2, x3, x4, x5⟩ := box6 HVr.out.i4
    by_cases hlt : (n : Int) ≤ c.bt
    · cases hst : stOf c us n with
      | A L =>
        have hgt := HGET.out n (by omega)
        rw [hst] at hgt
        have hone := HONE.out n hlt
        rw [hst] at hone
        obtain ⟨LL, hLL⟩ : ∃ LL, LL = L := ⟨_, rfl⟩
        have hlvn := HLVN.out n hlt
        rw [hst] at hlvn
        have hlv := HLV.out n hlt
        have hlvn2 : lvFl Z n = LL := by rw [hLL]; exact hlvn
        rw [hlvn2] at hlv
        have HL2 := Lib.hid hlv.2
        have CR := Lib.hid (fun p F w hs => cs_row p F c Z n LL w hs (by omega) hlvn2 hlv.1 hlv.2)
        have CA := Lib.hid (fun w hs => at_A p F c Z n L w hs hgt)
        have CLV := Lib.hid (fun q Q w (h : EX w q Q c n L) => elevel_any q Q c n L w h)
        skip
        have CCE := Lib.hid (fun q Q w (h : EX w q Q c n L) => lev_cellsA q Q c n L LL w h hLL.symm)
        have CUP := Lib.hid (fun q Q w (h : EX w q Q c n L) => eupd_any q Q c n L 0 1 w h (by omega) (by omega) (by omega) (by omega))
        have hc0 : exCode c.md L 0 1 = 0 := hone
        rw [hc0] at CUP
        have hwn1 : IntKind.i64.wrap ((n : Int) + 1) = ((n + 1 : Nat) : Int) := nw1 (by omega)
        have hwn2 : wrap64 ((n : Int) + 1) = ((n + 1 : Nat) : Int) := nw2 (by omega)
        have hdl : decide (LL = LL) = true := decide_eq_true rfl
        clear hgt hone hLL hlvn hlvn2 hlv hc0 hst
        go_wp2_with (first
          | (go_at_call 15; (with_reducible refine (rsame_any _ _ _ _ _ _ LL LL _ (rdI HVp.out.i1) (rdI HVp.out.i0) rfl rfl (le_k64 HL2.out) (le_k64 HL2.out)).mono ?_); rintro e wq ⟨rfl, hb⟩; have HVq := Lib.hid (HVp.out.up hb).drop_0.drop_0; clear hb)
          | (go_at_call 16; (with_reducible refine (CR.out r R _ (stI HVo.out.i2)).mono ?_); rintro e wp ⟨Awp, cwp, rfl, h1, h2, hb⟩; have HVp := Lib.hid (HVo.out.push (rdT Awp LL) hb h1 h2); clear h1 h2 hb)
          | (go_at_call 16; (with_reducible refine (CR.out p F _ (stI HVn.out.i4)).mono ?_); rintro e wo ⟨Awo, cwo, rfl, h1, h2, hb⟩; have HVo := Lib.hid (HVn.out.push (rdT Awo LL) hb h1 h2); clear h1 h2 hb)
          | (go_at_call 124; (with_reducible refine (CUP.out q Q _ (exI HVm.out.i0)).mono ?_); rintro e wn ⟨rfl, Q2, h1, h2, h3⟩; have HVn := Lib.hid (HVm.out.turn_0 (exT q Q2 c n (exRes c.md L 0 1)) h1 h2 h3); clear h1 h2 h3)
          | (go_at_call 15; (with_reducible refine (rsame_any _ _ _ _ _ _ LL LL _ (rdI HVl.out.i1) (rdI HVl.out.i0) rfl rfl (le_k64 HL2.out) (le_k64 HL2.out)).mono ?_); rintro e wm ⟨rfl, hb⟩; have HVm := Lib.hid (HVl.out.up hb).drop_0.drop_0; clear hb)
          | (go_at_call 16; (with_reducible refine (CR.out p F _ (stI HVk.out.i5)).mono ?_); rintro e wl ⟨Awl, cwl, rfl, h1, h2, hb⟩; have HVl := Lib.hid (HVk.out.push (rdT Awl LL) hb h1 h2); clear h1 h2 hb)
          | (go_at_call 118; (with_reducible refine (CCE.out q Q _ (exI HVj.out.i0)).mono ?_); rintro e wk ⟨Awk, cwk, rfl, h1, h2, hb⟩; have HVk := Lib.hid (HVj.out.push (rdT Awk LL) hb h1 h2); clear h1 h2 hb)
          | (go_at_call 121; (with_reducible refine (CLV.out q Q _ (exI HVi.out.i0)).mono ?_); rintro e wj ⟨rfl, hb⟩; have HVj := Lib.hid (HVi.out.up hb); clear hb)
          | (go_at_call 24; (with_reducible refine (CA.out _ (stI HVh.out.i3)).mono ?_); rintro e wi ⟨q, Q, rfl, h1, h2, hb⟩; have HVi := Lib.hid (HVh.out.push (exT q Q c n L) hb h1 h2); clear h1 h2 hb)
          | (go_at_call 15; (with_reducible refine (rsame_any _ _ _ _ _ _ LL LL _ (rdI HVg.out.i1) (rdI HVg.out.i0) rfl rfl (le_k64 HL2.out) (le_k64 HL2.out)).mono ?_); rintro e wh ⟨rfl, hb⟩; have HVh := Lib.hid (HVg.out.up hb).drop_0.drop_0; clear hb)
          | (go_at_call 16; (with_reducible refine (CR.out r R _ (stI HVf.out.i1)).mono ?_); rintro e wg ⟨Awg, cwg, rfl, h1, h2, hb⟩; have HVg := Lib.hid (HVf.out.push (rdT Awg LL) hb h1 h2); clear h1 h2 hb)
          | (go_at_call 16; (with_reducible refine (CR.out t T2 _ (stI HVe.out.i1)).mono ?_); rintro e wf ⟨Awf, cwf, rfl, h1, h2, hb⟩; have HVf := Lib.hid (HVe.out.push (rdT Awf LL) hb h1 h2); clear h1 h2 hb)
          | (go_at_call 15; (with_reducible refine (rsame_any _ _ _ _ _ _ LL LL _ (rdI HVd.out.i1) (rdI HVd.out.i0) rfl rfl (le_k64 HL2.out) (le_k64 HL2.out)).mono ?_); rintro e we ⟨rfl, hb⟩; have HVe := Lib.hid (HVd.out.up hb).drop_0.drop_0; clear hb)
          | (go_at_call 16; (with_reducible refine (CR.out r R _ (stI HVc.out.i1)).mono ?_); rintro e wd ⟨Awd, cwd, rfl, h1, h2, hb⟩; have HVd := Lib.hid (HVc.out.push (rdT Awd LL) hb h1 h2); clear h1 h2 hb)
          | (go_at_call 16; (with_reducible refine (CR.out p F _ (stI HVb.out.i3)).mono ?_); rintro e wc ⟨Awc, cwc, rfl, h1, h2, hb⟩; have HVc := Lib.hid (HVb.out.push (rdT Awc LL) hb h1 h2); clear h1 h2 hb)
          | (go_at_call 10; (with_reducible refine (FD.out _ (HQ.out.up HVr.out.below)).mono ?_); rintro e wa ⟨r, R, rfl, hv⟩; have HVa := Lib.hid (HVr.out.join hv); simp only [List.cons_append, List.nil_append] at HVa; clear hv; have HVb := Lib.hid (HVa.out.push (boxT wa.heap.size 24 #[.int .i64 c.bt, .int .i64 c.rw, .int .i64 c.wd, .int .i64 c.md, .int .u64 c.sd]) (Lw.below_alloc (Below.refl _ _) _) (heap_alloc_new wa _) (fun k hk => Nat.le_of_eq hk.symm)).drop_0))
        go_roundw
        case rel => exact ⟨n + 1, by omega, by go_num, HVq.out.drop_0.drop_0⟩
        case measure => simp [intOf]; omega
      | S L =>
        have hgt := HGET.out n (by omega)
        rw [hst] at hgt
        have hone := HONE.out n hlt
        rw [hst] at hone
        obtain ⟨LL, hLL⟩ : ∃ LL, LL = L.flatten := ⟨_, rfl⟩
        have hlvn := HLVN.out n hlt
        rw [hst] at hlvn
        have hlv := HLV.out n hlt
        have hlvn2 : lvFl Z n = LL := by rw [hLL]; exact hlvn
        rw [hlvn2] at hlv
        have HL2 := Lib.hid hlv.2
        have CR := Lib.hid (fun p F w hs => cs_row p F c Z n LL w hs (by omega) hlvn2 hlv.1 hlv.2)
        have CA := Lib.hid (fun w hs => at_S p F c Z n L w hs hgt)
        have CLV := Lib.hid (fun q Q w (h : SK w q Q c n L) => slevel_any q Q c n L w h)
        have hsl := HSL.out n L hlt hst
        have CCE := Lib.hid (fun q Q w (h : SK w q Q c n L) => lev_cellsS q Q c n L LL w h hLL.symm hsl)
        have CUP := Lib.hid (fun q Q w (h : SK w q Q c n L) => supd_any q Q c n L 0 1 w h (by omega) (by omega) (by omega) (by omega))
        have hc0 : upCode c n L 0 1 = 0 := hone
        rw [hc0] at CUP
        have hwn1 : IntKind.i64.wrap ((n : Int) + 1) = ((n + 1 : Nat) : Int) := nw1 (by omega)
        have hwn2 : wrap64 ((n : Int) + 1) = ((n + 1 : Nat) : Int) := nw2 (by omega)
        have hdl : decide (LL = LL) = true := decide_eq_true rfl
        clear hgt hone hLL hlvn hlvn2 hlv hc0 hst
        go_wp2_with (first
          | (go_at_call 15; (with_reducible refine (rsame_any _ _ _ _ _ _ LL LL _ (rdI HVp.out.i1) (rdI HVp.out.i0) rfl rfl (le_k64 HL2.out) (le_k64 HL2.out)).mono ?_); rintro e wq ⟨rfl, hb⟩; have HVq := Lib.hid (HVp.out.up hb).drop_0.drop_0; clear hb)
          | (go_at_call 16; (with_reducible refine (CR.out r R _ (stI HVo.out.i2)).mono ?_); rintro e wp ⟨Awp, cwp, rfl, h1, h2, hb⟩; have HVp := Lib.hid (HVo.out.push (rdT Awp LL) hb h1 h2); clear h1 h2 hb)
          | (go_at_call 16; (with_reducible refine (CR.out p F _ (stI HVn.out.i4)).mono ?_); rintro e wo ⟨Awo, cwo, rfl, h1, h2, hb⟩; have HVo := Lib.hid (HVn.out.push (rdT Awo LL) hb h1 h2); clear h1 h2 hb)
          | (go_at_call 89; (with_reducible refine (CUP.out q Q _ (skI HVm.out.i0)).mono ?_); rintro e wn ⟨rfl, Q2, h1, h2, h3⟩; have HVn := Lib.hid (HVm.out.turn_0 (skT q Q2 c n (upRes c n L 0 1)) h1 h2 h3); clear h1 h2 h3)
          | (go_at_call 15; (with_reducible refine (rsame_any _ _ _ _ _ _ LL LL _ (rdI HVl.out.i1) (rdI HVl.out.i0) rfl rfl (le_k64 HL2.out) (le_k64 HL2.out)).mono ?_); rintro e wm ⟨rfl, hb⟩; have HVm := Lib.hid (HVl.out.up hb).drop_0.drop_0; clear hb)
          | (go_at_call 16; (with_reducible refine (CR.out p F _ (stI HVk.out.i5)).mono ?_); rintro e wl ⟨Awl, cwl, rfl, h1, h2, hb⟩; have HVl := Lib.hid (HVk.out.push (rdT Awl LL) hb h1 h2); clear h1 h2 hb)
          | (go_at_call 83; (with_reducible refine (CCE.out q Q _ (skI HVj.out.i0)).mono ?_); rintro e wk ⟨Awk, cwk, rfl, h1, h2, hb⟩; have HVk := Lib.hid (HVj.out.push (rdT Awk LL) hb h1 h2); clear h1 h2 hb)
          | (go_at_call 86; (with_reducible refine (CLV.out q Q _ (skI HVi.out.i0)).mono ?_); rintro e wj ⟨rfl, hb⟩; have HVj := Lib.hid (HVi.out.up hb); clear hb)
          | (go_at_call 24; (with_reducible refine (CA.out _ (stI HVh.out.i3)).mono ?_); rintro e wi ⟨q, Q, rfl, h1, h2, hb⟩; have HVi := Lib.hid (HVh.out.push (skT q Q c n L) hb h1 h2); clear h1 h2 hb)
          | (go_at_call 15; (with_reducible refine (rsame_any _ _ _ _ _ _ LL LL _ (rdI HVg.out.i1) (rdI HVg.out.i0) rfl rfl (le_k64 HL2.out) (le_k64 HL2.out)).mono ?_); rintro e wh ⟨rfl, hb⟩; have HVh := Lib.hid (HVg.out.up hb).drop_0.drop_0; clear hb)
          | (go_at_call 16; (with_reducible refine (CR.out r R _ (stI HVf.out.i1)).mono ?_); rintro e wg ⟨Awg, cwg, rfl, h1, h2, hb⟩; have HVg := Lib.hid (HVf.out.push (rdT Awg LL) hb h1 h2); clear h1 h2 hb)
          | (go_at_call 16; (with_reducible refine (CR.out t T2 _ (stI HVe.out.i1)).mono ?_); rintro e wf ⟨Awf, cwf, rfl, h1, h2, hb⟩; have HVf := Lib.hid (HVe.out.push (rdT Awf LL) hb h1 h2); clear h1 h2 hb)
          | (go_at_call 15; (with_reducible refine (rsame_any _ _ _ _ _ _ LL LL _ (rdI HVd.out.i1) (rdI HVd.out.i0) rfl rfl (le_k64 HL2.out) (le_k64 HL2.out)).mono ?_); rintro e we ⟨rfl, hb⟩; have HVe := Lib.hid (HVd.out.up hb).drop_0.drop_0; clear hb)
          | (go_at_call 16; (with_reducible refine (CR.out r R _ (stI HVc.out.i1)).mono ?_); rintro e wd ⟨Awd, cwd, rfl, h1, h2, hb⟩; have HVd := Lib.hid (HVc.out.push (rdT Awd LL) hb h1 h2); clear h1 h2 hb)
          | (go_at_call 16; (with_reducible refine (CR.out p F _ (stI HVb.out.i3)).mono ?_); rintro e wc ⟨Awc, cwc, rfl, h1, h2, hb⟩; have HVc := Lib.hid (HVb.out.push (rdT Awc LL) hb h1 h2); clear h1 h2 hb)
          | (go_at_call 10; (with_reducible refine (FD.out _ (HQ.out.up HVr.out.below)).mono ?_); rintro e wa ⟨r, R, rfl, hv⟩; have HVa := Lib.hid (HVr.out.join hv); simp only [List.cons_append, List.nil_append] at HVa; clear hv; have HVb := Lib.hid (HVa.out.push (boxT wa.heap.size 24 #[.int .i64 c.bt, .int .i64 c.rw, .int .i64 c.wd, .int .i64 c.md, .int .u64 c.sd]) (Lw.below_alloc (Below.refl _ _) _) (heap_alloc_new wa _) (fun k hk => Nat.le_of_eq hk.symm)).drop_0))
        go_roundw
        case rel => exact ⟨n + 1, by omega, by go_num, HVq.out.drop_0.drop_0⟩
        case measure => simp [intOf]; omega
    · obtain ⟨u0, u1⟩ := box2u HVr.out.i3
      have hw1 := HW1.out
      have hw2 := HW2.out
      go_upto_region 23 with (first
        | (go_at_call 24; (with_reducible refine (CM1.out p F _ (stI HVa.out.i2)).mono ?_); rintro e wb ⟨rfl, hb⟩; have HVb := Lib.hid (HVa.out.up hb); clear hb)
        | (go_at_call 24; (with_reducible refine (CNO.out p F _ (stI HVr.out.i2)).mono ?_); rintro e wa ⟨rfl, hb⟩; have HVa := Lib.hid (HVr.out.up hb); clear hb))
      clear e1 e2 e3 e4 e5 u0 u1
      obtain ⟨e1, e2, e3, e4, e5⟩ := box5 HVb.out.i1
      obtain ⟨u0, u1⟩ := box2u HVb.out.i3
      have dk : decide (KY ≤ k) = true := decide_eq_true hkey
      go_region_held3 (fun w' => w'.cell? ⟨gc, 0, none⟩ = some (.int .i64 c.bt) ∧ w'.cell? ⟨gc, 1, none⟩ = some (.int .i64 c.rw) ∧ w'.cell? ⟨gc, 2, none⟩ = some (.int .i64 c.wd) ∧ w'.cell? ⟨gc, 3, none⟩ = some (.int .i64 c.md) ∧ w'.cell? ⟨gc, 4, none⟩ = some (.int .u64 c.sd) ∧ w'.cell? ⟨gu, 0, none⟩ = some (.int .u64 k)) (first | (refine ⟨?_, ?_, ?_, ?_, ?_, ?_⟩ <;> (first | (with_reducible assumption) | (with_reducible refine cell_up e1 ?_) | (with_reducible refine cell_up e2 ?_) | (with_reducible refine cell_up e3 ?_) | (with_reducible refine cell_up e4 ?_) | (with_reducible refine cell_up e5 ?_) | (with_reducible refine cell_up u0 ?_)) <;> (repeat' (first | (with_reducible exact Below.refl _ _) | (with_reducible assumption) | (with_reducible refine below_over ?_ _ _) | (with_reducible refine Lw.below_alloc ?_ _) | (with_reducible refine Below.drew ?_) | (with_reducible refine below_drewN ?_ _) | (with_reducible refine Below.setCell ?_ ?_ _) | go_size)))) (first | (go_at_call 12; (with_reducible refine (CK.out _).mono ?_); rintro e wc ⟨rfl, hb⟩; obtain ⟨bs, dd, rfl⟩ := below_grow hb; clear hb))
      all_goals go_wp2
      all_goals go_ret
      all_goals exact ⟨ret_bs (by first | rfl | (simp [*]; done)), (HVb.out.up (by repeat' (first | (with_reducible exact Below.refl _ _) | (with_reducible assumption) | (with_reducible refine below_over ?_ _ _) | (with_reducible refine Lw.below_alloc ?_ _) | (with_reducible refine Below.drew ?_) | (with_reducible refine below_drewN ?_ _) | (with_reducible refine Below.setCell ?_ ?_ _) | go_size))).below⟩
theorem whole_law (x : Cfg) (A : Option Addr) (n0 k0 : Nat) (qs : Ups) (k d : Int) (w : World) (hx : x.Ok) (hq : UpdV w A n0 k0 qs) (kb : 0 ≤ k ∧ k ≤ 18446744073709551615) (db : -9223372036854775808 ≤ d ∧ d ≤ 9223372036854775807) :
    Calls Try.prog 7 #[.agg #[.int .i64 x.bt, .int .i64 x.rw, .int .i64 x.wd, .int .i64 x.md, .int .u64 x.sd, .slice A n0 k0], .agg #[.int .u64 k, .int .i64 d]] w fun e w' => e = .returned (.bool true) ∧ Below w.heap.size w w' := by
  obtain ⟨c, hC⟩ : ∃ c, anyC x 10 9 = c := ⟨_, rfl⟩
  by_cases h0 : sucode c (stsOf c (upsR c 0 qs 0 60)) k d = 0
  · exact whole_y x A n0 k0 qs k d w hx hq kb db c hC h0
  · by_cases h2 : sucode c (stsOf c (upsR c 0 qs 0 60)) k d = 2
    · exact whole_k x A n0 k0 qs k d w hx hq kb db c hC h0 h2
    · exact whole_n x A n0 k0 qs k d w hx hq kb db c hC h0 h2
namespace stackWhole
open Go.ChangeShapes Go.WideShapes Go.ChangeAt Go.Joins
set_option maxRecDepth 100000 in
theorem lifted (os : Os) (started : os.Started) (H : Type) (enc : TypeId × Value → H) :
    ReturnsInHanded {} Try.checked os 7 .any (Rows.stackWholeSpec.pre6 enc Try.prog Try.f7 Rows.stackWholeRow.domain false) (Rows.stackWholeSpec.post enc Try.prog Try.f7 false true false false) := by
  refine Lw.lifted (C := Try.checked) (B := 4) (by kernel_rfl) os started (by kernel_rfl) Try.func7
    (ChangeSpec.witness6 (enc := enc) (C := Try.checked) false ⟨#[], #[.agg #[.int .i64 0, .int .i64 0, .int .i64 0, .int .i64 0, .int .u64 0, .slice none 0 0], .agg #[.int .u64 0, .int .i64 0]], []⟩ 8 (by kernel_rfl) (by kernel_rfl) (by kernel_rfl) (by kernel_rfl)) rfl Try.underlying4 (by kernel_rfl) (by kernel_rfl) (by kernel_rfl) ?_ ?_
  · intro ds h
    rw [Try.params7] at h
    match ds, h with
    | [_, _], _ => rfl
  · intro W base args ds p hval hA
    rw [Try.params7] at hA hval
    obtain ⟨v0, vs0, d0, ds0, p0, q0, hargs, rfl, rfl, h0, r0⟩ := trodAll_cons hA
    obtain ⟨v1, vs1, d1, ds1, p1, q1, rfl, rfl, rfl, h1, r1⟩ := trodAll_cons r0
    obtain ⟨rfl, rfl, rfl⟩ := trodAll_nil r1
    obtain rfl : args = #[v0, v1] := by cases args; simp_all
    obtain ⟨x0, A0, n0, k0, qs0, rfl, hx0, hq0⟩ := open_playW (hval 0 27 v0 rfl rfl) h0
    obtain ⟨x1_0, x1_1, rfl, z1_0, z1_1⟩ := open_upd (hval 1 36 v1 rfl rfl) h1
    exact whole_law x0 A0 n0 k0 qs0 x1_0 x1_1 W hx0 hq0 z1_0 z1_1
theorem over : Rows.stackWholeRow.holds Try.pinned (OpenSpec.ofChange Rows.stackWholeSpec) :=
  OpenClaim.holds_of_wide 7 Try.f7 rfl rfl rfl rfl rfl rfl rfl ⟨rfl, rfl, rfl, rfl, rfl⟩ rfl rfl rfl rfl rfl (by kernel_rfl) Try.func7 (by kernel_rfl)
    (of_decide_eq_true (by kernel_rfl)) (by unfold Func.isWrapper; first | (rw [if_pos (by decide +kernel)]; kernel_rfl) | (rw [if_neg (by decide +kernel)]; exact ⟨rfl, rfl⟩))
    (fun os started H enc _ => lifted os started H enc)
theorem proved : Rows.StackWholeSaid :=
  over
#print axioms proved
end stackWhole
end Go.Proofs.Ytccabgeeglhagaa.Stk
